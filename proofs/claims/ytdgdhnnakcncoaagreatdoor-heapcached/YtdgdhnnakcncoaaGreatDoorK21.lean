/- Of the proof of HeapCached: texts RXy, RXz, RYa. -/
import Derived.Test.YtdgdhnnakcncoaaGreatDoorK20
import Derived.Deep.AppendLies
namespace Go.Proofs.YtdgdhnnakcncoaaGreatDoor
set_option maxHeartbeats 1600000
open Go.ChangeShapes Go.WideShapes Go.ChangeAt Go.RowKit Go.Proofs.Bt Go.Shelf Go.Proofs.Rx Go.Maps Go.Proofs.Pk
set_option linter.unusedVariables false
set_option linter.unusedSimpArgs false
theorem infoMap:(Tryz.prog.info? 178).map (fun i=>(i.zero,i.size,i.bytes))=some (some (.map none),1,8):=by kernel_rfl
theorem wp_append_run {P:Program} {w w':World} {o:Oper} {a:Act} {K:Act→World→Prop} {Q:Exit→Act→World→Prop} (s x:Operand) (t:TypeId)
 (ho:o.op= .call {callee:= .builtin .append,args:=#[s,x],argTypes:=#[t,t]}) {v u v':Value} (hs:a.eval s=v) (hx:a.eval x=u) (hr:(Builtin.append_ #[t,t] o.type #[v,u]).run P w= .ok v' w') (h:K (a.put o.dst v') w'):o.wp P a w K Q:=by
 unfold Oper.wp execOp
 simp only[ho,resolve,invoke,builtin,Sem.run_bind,Sem.run_pure,Result.andThen_ok,List.map_toArray,List.map_cons,List.map_nil,hs,hx,hr]
 exact h
theorem list_append_run {P:Program} {w w':World} {ops:Array Oper} {rest:List Oper} {o:Oper} {a:Act} {Q:Exit→Act→World→Prop} (hgd:o.guard=none) (s x:Operand) (t:TypeId)
 (ho:o.op= .call {callee:= .builtin .append,args:=#[s,x],argTypes:=#[t,t]}) {v u v':Value} (hs:a.eval s=v) (hx:a.eval x=u) (hr:(Builtin.append_ #[t,t] o.type #[v,u]).run P w= .ok v' w') (h:wpList P ops Q rest (a.put o.dst v') w'):wpList P ops Q (o::rest) a w:=
 wpList_plain hgd fun _ hK=>wp_append_run s x t ho hs hx hr (hK _ _ h)
def mv (mp:Nat→Nat) (k:Nat):List Value:=(List.range k).map fun d=> .map (some (mp d))
theorem mv_succ (mp:Nat→Nat) (k:Nat):mv mp (k+1)=mv mp k++ [.map (some (mp k))]:=by simp[mv,List.range_succ]
theorem mv_congr {mp mp':Nat→Nat} {k:Nat} (h:∀d,d<k→mp d=mp' d):mv mp k=mv mp' k:=by
 unfold mv
 exact List.map_congr_left fun d hd=>by rw[h d (List.mem_range.1 hd)]
theorem mv_at {mp:Nat→Nat} {k d:Nat} (h:d<k):(mv mp k)[d]? =some (.map (some (mp d))):=by simp[mv,h]
structure NW (N:Nat) (w:World) (k:Nat) (v:Value) (mp:Nat→Nat) (X:World):Prop where
 be:Below N w X
 tc:Bk X (N+1) 176 #[v, .map (some N)]
 cm:MapG encC X N (fun _=>none)
 own:X.ownsRow (N+2) 178 1 v k (mv mp k)
 mps:∀d,d<k→MapG encR X (mp d) (fun _=>none)∧N+2≤mp d
 inj:∀d d',d<k→d'<k→mp d=mp d'→d=d'
 nv:∀g,v.ownBlock=some g→∀d,d<k→mp d≠g
theorem NW.step {N:Nat} {w:World} {k:Nat} {v:Value} {mp:Nat→Nat} {X:World} (h:NW N w k v mp X) (hk:k<7) (ty:TypeId):
 ∃g cap Y,(Builtin.append_ #[174,174] ty #[v, .slice (some ⟨X.heap.size+1,0,none⟩) 1 1]).run Tryz.prog ((X.alloc (.map #[] 0)).alloc (.cells #[.map (some X.heap.size)] 178))= .ok (.slice (some ⟨g,0,none⟩) (k+1) cap) Y∧N+1<Y.heap.size∧Bk Y (N+1) 176 #[v, .map (some N)]∧
  ∃mp',NW N w (k+1) (.slice (some ⟨g,0,none⟩) (k+1) cap) mp' (Y.setCell ⟨N+1,0,none⟩ (.slice (some ⟨g,0,none⟩) (k+1) cap)):=by
 obtain ⟨i0,hi0,hz0,hz1,hz2⟩:=Mg.info_parts infoMap
 obtain ⟨X1,hX1⟩:∃X1,X.alloc (.map #[] 0)=X1:=⟨_,rfl⟩
 obtain ⟨X2,hX2⟩:∃X2,X1.alloc (.cells #[.map (some X.heap.size)] 178)=X2:=⟨_,rfl⟩
 have s1:X1.heap.size=X.heap.size+1:=by rw[←hX1];simp
 have s2:X2.heap.size=X.heap.size+2:=by rw[←hX2];simp;omega
 have b2:Below X.heap.size X X2:=by rw[←hX2,←hX1];exact ((Below.refl _ X).alloc (Nat.le_refl _) _).alloc (by simp) _
 have lt:=h.tc.lt
 have own2:X2.ownsRow (N+2) 178 1 v k (mv mp k):=owns_kept h.own (fun x hx=>b2.block x (h.own.lt x hx).2)
 have n2:X2.heap[X.heap.size+1]? =some (.cells #[.map (some X.heap.size)] 178 (0,0)):=by rw[←hX2,←s1];exact World.alloc_heap_new X1 _
 obtain ⟨g,cap,Y,r1,o1,g1,hat,hlt⟩:=run_append_lies (P:=Tryz.prog) X2 174 ty (N+2) 178 i0 _ 1 8 Tryz.underlying174 hi0 hz0 hz1 hz2 rfl (by decide) v k (mv mp k) own2 ⟨X.heap.size+1,0,none⟩ 1 1 [.map (some X.heap.size)] rfl (World.news_of_block n2) (by intro u hu;simp at hu;rw[hu];rfl) (by decide) (by unfold maxLen;omega) (by omega) (by omega) _ rfl
 have vlt:∀x,v.ownBlock=some x→N+2≤x∧x<X.heap.size:=fun x hx=>h.own.lt x hx
 have blk:∀x,x<X2.heap.size→v.ownBlock≠some x→Y.heap[x]? =X2.heap[x]? :=fun x hx hv=>g1.block x hx (fun e=>hv e.symm)
 have old:∀x,x<X.heap.size→v.ownBlock≠some x→Y.heap[x]? =X.heap[x]? :=fun x hx hv=>(blk x (by omega) hv).trans (b2.block x hx)
 have tcY:Bk Y (N+1) 176 #[v, .map (some N)]:=(old (N+1) lt (fun e=>by have:=vlt _ e;omega)).trans h.tc
 have gN:N+2≤g:=by
  rcases hat with e|e
  ·exact (vlt g e).1
  ·omega
 have sY:=g1.size
 refine ⟨g,cap,Y,by rw[hX1,hX2];exact r1,by omega,tcY,fun d=>if d<k then mp d else X.heap.size,?_⟩
 obtain ⟨Z,hZ⟩:∃Z,Y.setCell ⟨N+1,0,none⟩ (.slice (some ⟨g,0,none⟩) (k+1) cap)=Z:=⟨_,rfl⟩
 have kz:Kept (fun x=>x=N+1) Y Z:=by rw[←hZ];exact kept_set (F:=fun x=>x=N+1) Y (N+1) 0 _ rfl
 rw[hZ]
 have em:∀d,d<k→(if d<k then mp d else X.heap.size)=mp d:=fun d hd=>if_pos hd
 have e2:mv (fun d=>if d<k then mp d else X.heap.size) (k+1)=mv mp k++ [.map (some X.heap.size)]:=by
  rw[mv_succ,if_neg (by omega),mv_congr (mp:=fun d=>if d<k then mp d else X.heap.size) (mp':=mp) em]
 have mlt:∀d,d<k→mp d<X.heap.size:=fun d hd=>(h.mps d hd).1.lt
 refine ⟨?_,?_,?_,?_,fun d hd=> ?_,fun d d' hd hd'=> ?_,fun g' hg d hd=> ?_⟩
 ·have b3:Below N w Y:=((h.be.trans (b2.mono (by omega)))).grown g1 (by omega) (fun x hx=>by have:=vlt x hx;omega)
  exact below_kept b3 kz (fun x hx=>by omega) (by omega)
 ·have:=tcY.set 0 (.slice (some ⟨g,0,none⟩) (k+1) cap)
  rw[←hZ];exact this
 ·exact (h.cm.kept (old N (by omega) (fun e=>by have:=vlt _ e;omega))).kept (kz.block N (by omega) (by omega))
 ·rw[e2]
  exact owns_kept o1 (fun x hx=>by
   have e:g=x:=by simpa [Value.ownBlock] using hx
   exact kz.block x (by omega) (by omega))
 ·by_cases z:d<k
  ·rw[if_pos z]
   obtain ⟨m1,m2⟩:=h.mps d z
   exact ⟨(m1.kept (old (mp d) m1.lt (fun e=>h.nv _ e d z rfl))).kept (kz.block _ (by have:=m1.lt;omega) (by omega)),m2⟩
  ·rw[if_neg z]
   have m1:MapG encR X1 X.heap.size (fun _=>none):=by rw[←hX1];exact MapG.made encR X
   have m2:MapG encR X2 X.heap.size (fun _=>none):=m1.below (by rw[←hX2];exact grown1 X1 _)
   exact ⟨(m2.kept (blk X.heap.size (by omega) (fun e=>by have:=vlt _ e;omega))).kept (kz.block _ (by omega) (by omega)),by omega⟩
 ·by_cases z:d<k
  ·by_cases z':d'<k
   ·rw[if_pos z,if_pos z'];exact h.inj d d' z z'
   ·rw[if_pos z,if_neg z'];intro e;have:=mlt d z;omega
  ·by_cases z':d'<k
   ·rw[if_neg z,if_pos z'];intro e;have:=mlt d' z';omega
   ·intro _;omega
 ·have e:g=g':=by simpa [Value.ownBlock] using hg
  subst e
  by_cases z:d<k
  ·rw[if_pos z]
   rcases hat with e|e
   ·exact h.nv g e d z
   ·have:=mlt d z;omega
  ·rw[if_neg z]
   rcases hat with e|e
   ·have:=vlt g e;omega
   ·omega
theorem NW.tree {N:Nat} {w:World} {v:Value} {mp:Nat→Nat} {X:World} (h:NW N w 7 v mp X) (ht:TabW X) (h2:2≤N):TreeE N (fun _=>False) X (N+1) (fun _=>0):=by
 obtain ⟨g,cap,hv,hb,hg⟩:=h.own.form (by decide)
 subst hv
 refine ⟨⟨N,N+1,g,N,cap,mp⟩,fun _ _=>none,fun _=>none,rfl,rfl,⟨⟨ht,h.tc.cell 0 _ rfl,h.tc.cell 1 _ rfl,fun d hd=> ?_,fun d hd=>(h.mps d (by omega)).1,h.cm,fun i b c hc=>(by cases hc),fun d d' hd hd' e=>h.inj d d' (by omega) (by omega) e,fun d hd e=> ?_,⟨?_,?_⟩,fun i b c hc=>(by cases hc),fun i i' b c c' hc=>(by cases hc),fun x hx=> ?_,h2⟩,?_,fun q=>by decide,fun q _=>rfl⟩,fun x hx=>hx.elim⟩
 ·have:=h.own.cells (g:=g) rfl d _ (mv_at (by omega))
  rw[Mg.addr_add0,Nat.zero_add] at this
  exact this
 ·have:=(h.mps d (by omega)).2
  dsimp only at e
  omega
 ·rintro (e|⟨d,hd,e⟩|⟨i,b,c,hc,_⟩)
  ·dsimp only at e;omega
  ·have:=(h.mps d (by omega)).2;dsimp only at e;omega
  ·cases hc
 ·rintro (e|⟨d,hd,e⟩|⟨i,b,c,hc,_⟩)
  ·dsimp only at e;omega
  ·exact h.nv g rfl d (by omega) (by dsimp only at e;exact e.symm)
  ·cases hc
 ·rcases hx with (e|⟨d,hd,e⟩|⟨i,b,c,hc,_⟩)|e|e
  ·dsimp only at e ⊢;omega
  ·have:=(h.mps d (by omega)).2;dsimp only at e ⊢;omega
  ·cases hc
  ·dsimp only at e ⊢;omega
  ·dsimp only at e ⊢;omega
 ·exact Rx.Good.of_even (by decide) rfl (fun q _ _=>rfl) ⟨fun _ _ _ _ _=>rfl,fun _ _=>rfl⟩
theorem tab_two {w:World} (h:TabW w):2≤w.heap.size:=h.lt
set_option maxRecDepth 100000 in
theorem new9_any {w:World} (ht:TabW w):Calls Tryz.prog 42 #[] w fun e w'=>(∃tb,e= .returned (.pointer (some ⟨tb,0,none⟩))∧TreeE w.heap.size (fun _=>False) w' tb (fun _=>0))∧Below w.heap.size w w':=by
 obtain ⟨R,hR⟩:∃R,R=(fun (e:Ending) (w':World)=>(∃tb,e= .returned (.pointer (some ⟨tb,0,none⟩))∧TreeE w.heap.size (fun _=>False) w' tb (fun _=>0))∧Below w.heap.size w w'):=⟨_,rfl⟩
 rw[←hR]
 have HR:=hide hR
 obtain ⟨N,hN⟩:∃N,w.heap.size=N:=⟨_,rfl⟩
 have HN:=hide hN
 have HT:=hide ht
 obtain ⟨X0,hX0⟩:∃X0,(w.alloc (.map #[] 0)).alloc (.cells #[.slice none 0 0, .map (some N)] 176)=X0:=⟨_,rfl⟩
 have N0:=hide (show NW N w 0 (.slice none 0 0) (fun _=>0) X0 from by
  have t0:Bk X0 (N+1) 176 #[.slice none 0 0, .map (some N)]:=by unfold Bk;rw[←hX0,alloc_at,if_pos (by simp;omega)]
  refine ⟨by rw[←hX0,←hN];exact ((Below.refl _ w).alloc (Nat.le_refl _) _).alloc (by simp) _,t0,?_,World.ownsRow_nil _ _ _ _,fun d hd=>by omega,fun d d' hd=>by omega,fun g hg=>by cases hg⟩
  have m1:MapG encC (w.alloc (.map #[] 0)) N (fun _=>none):=by rw[←hN];exact MapG.made encC w
  rw[←hX0]
  exact m1.below (grown1 _ _))
 have mk:∀(t:TypeId) (w:World),(Instr.makeMap t none).run Tryz.prog w= .ok (.map (some w.heap.size)) (w.alloc (.map #[] 0)):=fun t w=>run_makeMap t w
 clear hR ht
 go_enter Tryz.func42,Tryz.ntmps42
 go_wp2_with fail
 go_loopw [5] (fun iv wr=>∃(k:Nat),iv= .int .i64 (k:Int)∧k≤7∧Hid (∃v mp,NW N w k v mp wr)) (fun iv _=>7 -(intOf iv).toNat)
 case atStart=>exact ⟨0,rfl,Nat.zero_le _,hide ⟨_,_,N0.out⟩⟩
 case round=>
  clear N0 hX0
  obtain ⟨k,rfl,hk,HH⟩:=hrel
  obtain ⟨v,mp,h⟩:=HH.out
  clear HH
  by_cases hlt:k<7
  ·obtain ⟨g,cap,Y,hrun,lY,tY,mp',hN'⟩:=h.step hlt 174
   have RUN:=hide hrun
   have NX:=hide hN'
   have c0:=h.tc.cell 0 _ rfl
   have y0:=tY.cell 0 _ rfl
   have f0:=tY.fz 0
   have l0:=h.tc.lt
   have i1:(k:Int)<7:=by omega
   have d1:decide (k<7)=true:=decide_eq_true hlt
   have i2:(0:Int)≤(k:Int):=by omega
   clear h hrun tY hN'
   go_wp2_with (at_builtin;refine list_append_run (by rfl) (.tmp 11) (.tmp 13) 174 (by rfl) (by rfl) (by rfl) RUN.out ?_)
   go_roundw
   case rel=>exact ⟨k+1,by go_num,by omega,hide ⟨_,_,NX.out⟩⟩
   case measure=>simp[intOf];omega
  ·obtain rfl:k=7:=by omega
   have F:=hide (show R (.returned (.pointer (some ⟨N+1,0,none⟩))) wr from by
    rw[HR.out]
    have hb:Below w.heap.size w wr:=by rw[HN.out];exact h.be
    refine ⟨⟨N+1,rfl,?_⟩,hb⟩
    rw[HN.out]
    exact h.tree (HT.out.below hb) (by rw[←HN.out];exact tab_two HT.out))
   clear h
   go_wp2_with fail
   first|exact F.out|(go_ret;exact F.out)
end Go.Proofs.YtdgdhnnakcncoaaGreatDoor
namespace Go.Proofs.YtdgdhnnakcncoaaGreatDoor
set_option maxHeartbeats 1600000
open Go.ChangeShapes Go.WideShapes Go.ChangeAt Go.RowKit Go.Proofs.Bt Go.Shelf Go.Proofs.Rx Go.Maps Go.Proofs.Pk
set_option linter.unusedVariables false
set_option linter.unusedSimpArgs false
def up (D i k:Nat):Nat:=i/2^(sh k - sh D)
end Go.Proofs.YtdgdhnnakcncoaaGreatDoor
namespace Go.Proofs.YtdgdhnnakcncoaaGreatDoor
set_option maxHeartbeats 1600000
open Go.ChangeShapes Go.WideShapes Go.ChangeAt Go.RowKit Go.Proofs.Bt Go.Shelf Go.Proofs.Rx Go.Maps Go.Proofs.Pk
set_option linter.unusedVariables false
set_option linter.unusedSimpArgs false
theorem TreeE.tab {B:Nat} {O:Nat→Prop} {w:World} {tb:Nat} {st:Nat→Nat} (h:TreeE B O w tb st):TabW w:=by
 obtain ⟨T,L,C,rfl,rfl,h1,h2⟩:=h
 exact h1.rad.tab
end Go.Proofs.YtdgdhnnakcncoaaGreatDoor
