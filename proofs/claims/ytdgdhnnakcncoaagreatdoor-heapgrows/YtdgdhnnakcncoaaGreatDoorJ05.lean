/- Of the proof of HeapClasses: texts RSu, RCa. -/
import Derived.Test.YtdgdhnnakcncoaaGreatDoorJ04
namespace Go.Proofs.YtdgdhnnakcncoaaGreatDoor
set_option maxHeartbeats 1600000
open Go.ChangeShapes Go.WideShapes Go.ChangeAt Go.RowKit Go.Proofs.Bt Go.Shelf
set_option linter.unusedVariables false
set_option linter.unusedSimpArgs false
attribute [local go_sem] Oper.semAt_some
def SumAt (w:World) (b:Nat) (s m e:Int):Prop:=w.heap[b]? =some (.cells #[.int .i64 s, .int .i64 m, .int .i64 e] 218 (0,0))
theorem SumAt.lt {w:World} {b:Nat} {s m e:Int} (h:SumAt w b s m e):b<w.heap.size:=(Array.getElem?_eq_some_iff.1 h).1
theorem SumAt.c0 {w:World} {b:Nat} {s m e:Int} (h:SumAt w b s m e):w.cell? ⟨b,0,none⟩=some (.int .i64 s):=by unfold SumAt at h;simp[World.cell?,h]
theorem SumAt.c1 {w:World} {b:Nat} {s m e:Int} (h:SumAt w b s m e):w.cell? ⟨b,1,none⟩=some (.int .i64 m):=by unfold SumAt at h;simp[World.cell?,h]
theorem SumAt.c2 {w:World} {b:Nat} {s m e:Int} (h:SumAt w b s m e):w.cell? ⟨b,2,none⟩=some (.int .i64 e):=by unfold SumAt at h;simp[World.cell?,h]
theorem SumAt.fz {w:World} {b:Nat} {s m e:Int} (h:SumAt w b s m e) (k:Nat):w.frozen? ⟨b,k,none⟩=false:=by unfold SumAt at h;simp[World.frozen?,h]
theorem SumAt.kept {F:Nat→Prop} {w w':World} {b:Nat} {s m e:Int} (h:SumAt w b s m e) (k:Kept F w w') (hF:¬F b):SumAt w' b s m e:=kept_at k h hF
theorem SumAt.below {w w':World} {b:Nat} {s m e:Int} (h:SumAt w b s m e) (k:Below w.heap.size w w'):SumAt w' b s m e:=(k.block b h.lt).trans h
theorem SumAt.set0 {w:World} {b:Nat} {s m e:Int} (h:SumAt w b s m e) (v:Int):SumAt (w.setCell ⟨b,0,none⟩ (.int .i64 v)) b v m e:=by
 obtain ⟨hlt,hk⟩:=Array.getElem?_eq_some_iff.1 h
 show (w.heap.modify b _)[b]? =_
 rw[Array.getElem?_eq_getElem (by rw[Array.size_modify];exact hlt),Array.getElem_modify_self,hk];rfl
theorem SumAt.set1 {w:World} {b:Nat} {s m e:Int} (h:SumAt w b s m e) (v:Int):SumAt (w.setCell ⟨b,1,none⟩ (.int .i64 v)) b s v e:=by
 obtain ⟨hlt,hk⟩:=Array.getElem?_eq_some_iff.1 h
 show (w.heap.modify b _)[b]? =_
 rw[Array.getElem?_eq_getElem (by rw[Array.size_modify];exact hlt),Array.getElem_modify_self,hk];rfl
theorem SumAt.set2 {w:World} {b:Nat} {s m e:Int} (h:SumAt w b s m e) (v:Int):SumAt (w.setCell ⟨b,2,none⟩ (.int .i64 v)) b s m v:=by
 obtain ⟨hlt,hk⟩:=Array.getElem?_eq_some_iff.1 h
 show (w.heap.modify b _)[b]? =_
 rw[Array.getElem?_eq_getElem (by rw[Array.size_modify];exact hlt),Array.getElem_modify_self,hk];rfl
theorem allocs5 (w:World) (o0 o1 o2 o3 o4:Obj) (w6:World) (h:w6=((((w.alloc o0).alloc o1).alloc o2).alloc o3).alloc o4) (N:Nat) (hN:w.heap.size=N):
 w6.heap.size=N+5∧Below N w w6∧w6.heap[N]? =some o0∧w6.heap[N+1]? =some o1∧w6.heap[N+2]? =some o2∧w6.heap[N+3]? =some o3∧w6.heap[N+4]? =some o4:=by
 subst h hN
 refine ⟨by simp,?_,?_,?_,?_,?_,?_⟩
 ·exact (((((Below.refl _ w).alloc (Nat.le_refl _) _).alloc (by simp) _).alloc (by simp;omega) _).alloc (by simp;omega) _).alloc (by simp;omega) _
 all_goals
  simp only[alloc_at,World.size_alloc]
  (repeat' split)<;>first|rfl|omega|simp_all
structure UI (N:Nat) (w:World) (b ro:Nat) (f:Nat→Bool) (pre:List (Nat×Nat)) (W:World):Prop where
 b0:SumAt W N 0 0 0
 b1:∃s m e:Nat,SumAt W (N+1) (s:Nat) (m:Nat) (e:Nat)∧SI pre s m e
 rd:Rd b ro (N+2) (N+3) (N+4) f 0 512 W
 be:Below N w W
theorem UI.kept {F:Nat→Prop} {N:Nat} {w:World} {b ro:Nat} {f:Nat→Bool} {pre:List (Nat×Nat)} {W W':World} (h:UI N w b ro f pre W) (k:Kept F W W') (hN:0<N) (hb:b<N) (hF:∀x,F x→N+5≤x):UI N w b ro f pre W':=by
 obtain ⟨s,m,e,h1,h2⟩:=h.b1
 exact ⟨h.b0.kept k (fun x=>by have:=hF _ x;omega),⟨s,m,e,h1.kept k (fun x=>by have:=hF _ x;omega),h2⟩,
  h.rd.kept k ⟨fun x=>by have:=hF _ x;omega,fun x=>by have:=hF _ x;omega⟩ (fun x=>by have:=hF _ x;omega) (fun x=>by have:=hF _ x;omega) (fun x=>by have:=hF _ x;omega) (fun x=>by have:=hF _ x;omega),
  below_kept h.be k (fun x f=>by have:=hF _ f;omega) (by have:=h.b0.lt;omega)⟩
def sumV (s m e:Int):Value:= .agg #[.int .i64 s, .int .i64 m, .int .i64 e]
def SumR (w:World) (f:Nat→Bool) (r:Ending) (w':World):Prop:=∃s m e:Nat,r= .returned (sumV (s:Nat) (m:Nat) (e:Nat))∧SumP f s m e∧Below w.heap.size w w'
set_option maxRecDepth 100000 in
set_option maxHeartbeats 2000000 in
theorem sum_any (b ro:Nat) (f:Nat→Bool) (w:World) (h:RowF w b ro f) (ht:TabW w):
 Calls Tryz.prog 310 #[.pointer (some ⟨b,ro,none⟩)] w (SumR w f):=by
 obtain ⟨N,hN⟩:∃N,w.heap.size=N:=⟨_,rfl⟩
 have hb:=h.lt
 have h0:=ht.lt
 obtain ⟨R,hR⟩:∃R,R=SumR w f:=⟨_,rfl⟩
 rw[←hR]
 have HR:=hide hR
 have H:=hide h
 have HT:=hide ht
 clear hR h ht
 refine (callsIn_wide (n:=3)).1 ?_
 refine callsIn_of_wp_marks Tryz.func310 rfl trivial ?_ rfl
 simp only[Tryz.ntmps310,List.size_toArray,List.length_cons,List.length_nil,Nat.reduceAdd,Nat.reduceSub,Array.replicate_succ,Array.replicate_zero,List.push_toArray,List.append_toArray,List.nil_append,List.cons_append]
 gi_wp2_with fail
 refine wcall2 (clears_any _ _ _ _ _) ?_
 rintro e' w6 ⟨rfl,h6⟩
 obtain ⟨s6,b6,q0,q1,q2,q3,q4⟩:=allocs5 w _ _ _ _ _ w6 h6 N hN
 have f0:UI N w b ro f [] w6:=⟨q0,⟨0,0,0,q1,SI.zero⟩,⟨q2,q3,q4,H.out.below (by rw[hN];exact b6),HT.out.below (by rw[hN];exact b6)⟩,b6⟩
 have F0:=hide f0
 clear f0 q0 q1 q2 q3 q4 b6 h6
 gi_wp2_with fail
 simp only[Nat.add_assoc,Nat.reduceAdd]
 have seq:=iter_seq b ro (N+2) (N+3) (N+4) f 0 512 (by omega) (by omega) (3 - 1)
 refine range_law (w:=w6) rfl (enters_of Tryz.func293 (by kernel_rfl) rfl) seq (fun _=>rfl) (UI N w b ro f) (fun c pre W=>False) (fun s A h=>h.rd) ?hI ?hIx F0.out ?round ?done ?stop
 case hI=>
  intro s A A' h k
  rw[s6] at k
  exact h.kept k (by omega) (by omega) (fun x hx=>by omega)
 case hIx=>
  rintro c s A o' h hl
  exact h
 case round=>
  rintro pre x W ⟨r0,hr0⟩ _ h hp
  rw[s6] at hr0 ⊢
  have hx:=(runs_facts (blk f 0 512)).1 x (hp.subset (by simp))
  have x1:=hx.lt
  have x2:=hx.le
  have H:=hide h
  have HR0:=hide hr0
  clear h hr0 seq hx hp
  simp only[encs2]
  gi_wp2_with fail
  refine ⟨keepsFrom_of (Kept.refl (fun _=>False) W) (fun b hb e=>e),fun r=> ?_⟩
  have k2:=Kept.put (F:=fun b=>b=N+6) W (N+5+1) (.loop r) rfl
  obtain ⟨W2,hW2⟩:∃W2,W.putObj (N+5+1) (.loop r)=W2:=⟨_,rfl⟩
  rw[hW2] at k2 ⊢
  have H2:=hide (H.out.kept k2 (by omega) (by omega) (fun b hb=>by omega))
  clear k2 hW2
  obtain ⟨s,m,e,B1,hSI⟩:=H2.out.b1
  have hst:=hSI.step x
  have c0:=B1.c0
  have c1:=B1.c1
  have c2:=B1.c2
  have g0:=B1.fz 0
  have g1:=B1.fz 1
  have g2:=B1.fz 2
  have HB1:=hide B1
  have HST:=hide hst
  clear B1 hSI hst
  have ex:((x.2 - x.1:Nat):Int)=(x.2:Int) -(x.1:Int):=by omega
  obtain ⟨X1,hX1⟩:∃X1:Int,(x.1:Int)=X1:=⟨_,rfl⟩
  obtain ⟨X2,hX2⟩:∃X2:Int,(x.2:Int)=X2:=⟨_,rfl⟩
  obtain ⟨M,hM⟩:∃M:Int,(m:Int)=M:=⟨_,rfl⟩
  rw[hX1,hX2] at ex ⊢
  rw[hM] at c1
  have y0:0≤X1:=by omega
  have y1:X1<X2:=by omega
  have y2:X2≤512:=by omega
  have HX1:=hide hX1
  have HX2:=hide hX2
  have EX:=hide ex
  have HM:=hide hM
  clear hX1 hX2 x1 x2 ex hM
  have fin:∀(Wf:World) (s' m' e':Int),Kept (fun b=>b=N+1) W2 Wf→SumAt Wf (N+1) s' m' e'→s'=(if X1=0 then X2 - X1 else (s:Int))→m'=max M (X2 - X1)→e'=(if X2=512 then X2 - X1 else (e:Int))→
   KeepsFrom (N+5) W2 Wf∧UI N w b ro f (pre++ [x]) Wf:=by
   intro Wf s' m' e' k hs e1 e2 e3
   have q1:s'=((if x.1=0 then x.2 - x.1 else s:Nat):Int):=by
    rw[e1];have:=HX1.out;by_cases h:x.1=0
    ·rw[if_pos h,if_pos (by omega),EX.out]
    ·rw[if_neg h,if_neg (by omega)]
   have q2:m'=((max m (x.2 - x.1):Nat):Int):=by rw[e2,←HM.out,←EX.out];omega
   have q3:e'=((if x.2=512 then x.2 - x.1 else e:Nat):Int):=by
    rw[e3];have:=HX2.out;by_cases h:x.2=512
    ·rw[if_pos h,if_pos (by omega),EX.out]
    ·rw[if_neg h,if_neg (by omega)]
   subst q1 q2 q3
   exact ⟨keepsFrom_of k (fun b hb e=>by omega),H2.out.b0.kept k (by omega),⟨_,_,_,hs,HST.out⟩,H2.out.rd.kept k ⟨by omega,by omega⟩ (by omega) (by omega) (by omega) (by omega),below_kept H2.out.be k (fun b hb=>by omega) (by have:=H2.out.b0.lt;omega)⟩
  have FIN:=hide fin
  clear fin
  have ks:=fun (w:World) (k:Nat) (v:Value)=>kept_set (F:=fun b=>b=N+1) w (N+1) k v rfl
  have KS:=hide ks
  clear ks
  have hc1:(X1==0)=true∨(X1==0)=false:=by cases (X1==0)<;>simp
  have hc2:(X2==512)=true∨(X2==512)=false:=by cases (X2==512)<;>simp
  rcases hc1 with l1|l1
  ·rcases hc2 with l2|l2
   ·by_cases l3:M<X2 - X1
    ·skip
     gi_wp2_with fail
     refine FIN.out _ _ _ _ (((KS.out _ _ _).trans (KS.out _ _ _) (fun _ _ h=>h)).trans (KS.out _ _ _) (fun _ _ h=>h)) (((HB1.out.set0 (X2 - X1)).set2 (X2 - X1)).set1 (X2 - X1)) ?_ ?_ ?_
     ·rw[if_pos (by simpa using l1)]
     ·omega
     ·rw[if_pos (by simpa using l2)]
    ·have l4:X2 - X1≤M:=by omega
     clear l3
     gi_wp2_with fail
     refine FIN.out _ _ _ _ (((KS.out _ _ _).trans (KS.out _ _ _) (fun _ _ h=>h)).trans (KS.out _ _ _) (fun _ _ h=>h)) (((HB1.out.set0 (X2 - X1)).set2 (X2 - X1)).set1 (M)) ?_ ?_ ?_
     ·rw[if_pos (by simpa using l1)]
     ·omega
     ·rw[if_pos (by simpa using l2)]
   ·by_cases l3:M<X2 - X1
    ·skip
     gi_wp2_with fail
     refine FIN.out _ _ _ _ ((KS.out _ _ _).trans (KS.out _ _ _) (fun _ _ h=>h)) ((HB1.out.set0 (X2 - X1)).set1 (X2 - X1)) ?_ ?_ ?_
     ·rw[if_pos (by simpa using l1)]
     ·omega
     ·rw[if_neg (by simpa using l2)]
    ·have l4:X2 - X1≤M:=by omega
     clear l3
     gi_wp2_with fail
     refine FIN.out _ _ _ _ ((KS.out _ _ _).trans (KS.out _ _ _) (fun _ _ h=>h)) ((HB1.out.set0 (X2 - X1)).set1 (M)) ?_ ?_ ?_
     ·rw[if_pos (by simpa using l1)]
     ·omega
     ·rw[if_neg (by simpa using l2)]
  ·rcases hc2 with l2|l2
   ·by_cases l3:M<X2 - X1
    ·skip
     gi_wp2_with fail
     refine FIN.out _ _ _ _ ((KS.out _ _ _).trans (KS.out _ _ _) (fun _ _ h=>h)) ((HB1.out.set2 (X2 - X1)).set1 (X2 - X1)) ?_ ?_ ?_
     ·rw[if_neg (by simpa using l1)]
     ·omega
     ·rw[if_pos (by simpa using l2)]
    ·have l4:X2 - X1≤M:=by omega
     clear l3
     gi_wp2_with fail
     refine FIN.out _ _ _ _ ((KS.out _ _ _).trans (KS.out _ _ _) (fun _ _ h=>h)) ((HB1.out.set2 (X2 - X1)).set1 (M)) ?_ ?_ ?_
     ·rw[if_neg (by simpa using l1)]
     ·omega
     ·rw[if_pos (by simpa using l2)]
   ·by_cases l3:M<X2 - X1
    ·skip
     gi_wp2_with fail
     refine FIN.out _ _ _ _ (KS.out _ _ _) (HB1.out.set1 (X2 - X1)) ?_ ?_ ?_
     ·rw[if_neg (by simpa using l1)]
     ·omega
     ·rw[if_neg (by simpa using l2)]
    ·have l4:X2 - X1≤M:=by omega
     clear l3
     gi_wp2_with fail
     refine FIN.out _ _ _ _ (KS.out _ _ _) (HB1.out.set1 (M)) ?_ ?_ ?_
     ·rw[if_neg (by simpa using l1)]
     ·omega
     ·rw[if_neg (by simpa using l2)]
 case done=>
  rintro W h hd
  rw[s6] at hd ⊢
  obtain ⟨s,m,e,B1,hSI⟩:=h.b1
  have c0:=B1.c0
  have c1:=B1.c1
  have c2:=B1.c2
  have d0:=h.b0.c0
  have d1:=h.b0.c1
  have d2:=h.b0.c2
  have g0:=h.b0.fz 0
  have g1:=h.b0.fz 1
  have g2:=h.b0.fz 2
  have HH:=hide h
  have HD:=hide hd
  have HS:=hide hSI
  have HB:=hide B1
  clear h hd seq B1 hSI
  gi_wp2_with fail
  have ks:=fun (w:World) (k:Nat) (v:Value)=>kept_set (F:=fun b=>b=N) w N k v rfl
  have k5:=((ks W 0 (.int .i64 (s:Nat))).trans (ks _ 1 (.int .i64 (m:Nat))) (fun _ _ h=>h)).trans (ks _ 2 (.int .i64 (e:Nat))) (fun _ _ h=>h)
  have o4:=((HH.out.b0.set0 (s:Nat)).set1 (m:Nat)).set2 (e:Nat)
  have d4:=kept_at k5 HD.out (by omega)
  have hlt:=HH.out.b0.lt
  have be:=below_kept HH.out.be k5 (fun b hb=>by omega) (by omega)
  obtain ⟨Wf,hWf⟩:∃Wf,((W.setCell ⟨N,0,none⟩ (.int .i64 (s:Nat))).setCell ⟨N,1,none⟩ (.int .i64 (m:Nat))).setCell ⟨N,2,none⟩ (.int .i64 (e:Nat))=Wf:=⟨_,rfl⟩
  rw[hWf] at o4 d4 be ⊢
  have k6:=Kept.put (F:=fun b=>b=N+5) Wf (N+5) (.deferred none) rfl
  have o6:=o4.kept k6 (by omega)
  have r0:=o6.c0
  have r1:=o6.c1
  have r2:=o6.c2
  have B6:=below_kept be k6 (fun b hb=>by omega) (by have:=o4.lt;omega)
  refine ⟨by simp, .inl ⟨_,_,rfl,run_takeDeferred d4,?_⟩⟩
  refine ⟨sumV (s:Nat) (m:Nat) (e:Nat),?_,?_⟩
  ·try simp at r0 r1 r2
   simp[results,Tryz.results310,go_sem,sumV,Nat.add_assoc,r0,r1,r2,Result.andThen]
  ·rw[HR.out]
   exact ⟨s,m,e,rfl,HS.out.sum,by rw[hN];exact B6⟩
 case stop=>
  rintro c pre x W hpre h hd
  exact h.elim
def cells8 (g:Nat→Nat):Array Value:=#[.int .u64 ((g 0:Nat):Int), .int .u64 ((g 1:Nat):Int), .int .u64 ((g 2:Nat):Int), .int .u64 ((g 3:Nat):Int), .int .u64 ((g 4:Nat):Int), .int .u64 ((g 5:Nat):Int), .int .u64 ((g 6:Nat):Int), .int .u64 ((g 7:Nat):Int)]
def words (g:Nat→Nat):Value:= .agg (cells8 g)
end Go.Proofs.YtdgdhnnakcncoaaGreatDoor
namespace Go.Proofs.YtdgdhnnakcncoaaGreatDoor
set_option maxHeartbeats 1600000
open Go.ChangeShapes Go.WideShapes Go.ChangeAt Go.RowKit Go.Proofs.Bt Go.Shelf
set_option linter.unusedVariables false
set_option linter.unusedSimpArgs false
structure ChF (w:World) (b:Nat) (u g:Nat→Bool):Prop where
 used:RowF w b 0 u
 gone:RowF w b 8 g
theorem ChF.lt {w:World} {b:Nat} {u g:Nat→Bool} (h:ChF w b u g):b<w.heap.size:=h.used.lt
theorem ChF.kept {F:Nat→Prop} {w w':World} {b:Nat} {u g:Nat→Bool} (h:ChF w b u g) (k:Kept F w w') (hF:¬F b):ChF w' b u g:=⟨h.used.kept k hF,h.gone.kept k hF⟩
theorem ChF.below {w w':World} {b:Nat} {u g:Nat→Bool} (h:ChF w b u g) (k:Below w.heap.size w w'):ChF w' b u g:=⟨h.used.below k,h.gone.below k⟩
theorem RowF.other {w w':World} {b ro r2 n:Nat} {f:Nat→Bool} (h:RowF w b ro f) (k:Only b r2 n w w') (hr:ro+8≤r2∨r2+n≤ro):RowF w' b ro f:=by
 obtain ⟨g,h1,h2⟩:=h;exact ⟨g,h1.other k hr,h2⟩
theorem RowF.congr {w:World} {b ro:Nat} {f f':Nat→Bool} (h:RowF w b ro f) (e:∀k,k<512→f k=f' k):RowF w b ro f':=by
 obtain ⟨g,h1,h2⟩:=h;exact ⟨g,h1,fun i hi=>(h2 i hi).trans (e i hi)⟩
theorem ChF.setU {w w':World} {b:Nat} {u u' g:Nat→Bool} (h:ChF w b u g) (k:Only b 0 8 w w') (r:RowF w' b 0 u'):ChF w' b u' g:=⟨r,h.gone.other k (by omega)⟩
theorem ChF.setG {w w':World} {b:Nat} {u g g':Nat→Bool} (h:ChF w b u g) (k:Only b 8 8 w w') (r:RowF w' b 8 g'):ChF w' b u g':=⟨h.used.other k (by omega),r⟩
theorem ChF.congr {w:World} {b:Nat} {u g u' g':Nat→Bool} (h:ChF w b u g) (e:∀k,k<512→u k=u' k) (e':∀k,k<512→g k=g' k):ChF w b u' g':=⟨h.used.congr e,h.gone.congr e'⟩
def RightC (i n:Int):Prop:=0≤i∧0<n∧n≤512 - i
abbrev decR (i n:Int):Decidable (RightC i n):=by unfold RightC;exact inferInstance
theorem rightC_any (i n:Int) (hi:i≤9223372036854775807) (w:World):
 Calls Tryz.prog 308 #[.int .i64 i, .int .i64 n] w fun e w'=>e= .returned (.bool (@decide (RightC i n) (decR i n)))∧w'=w:=by
 by_cases h0:0≤i
 ·by_cases h1:0<n
  ·have hd: @decide (RightC i n) (decR i n)=decide (n≤512 - i):=by unfold RightC;simp[h0,h1]
   rw[hd]
   go_enter Tryz.func308,Tryz.ntmps308
   go_wp2
   go_ret
   exact ⟨rfl,rfl⟩
  ·have hd: @decide (RightC i n) (decR i n)=false:= @decide_eq_false _ (decR i n) (fun h=>h1 h.2.1)
   have h2:n≤0:=by omega
   rw[hd]
   clear hd h1
   go_enter Tryz.func308,Tryz.ntmps308
   go_wp2
   go_ret
   exact ⟨rfl,rfl⟩
 ·have hd: @decide (RightC i n) (decR i n)=false:= @decide_eq_false _ (decR i n) (fun h=>h0 h.1)
  have h2:i<0:=by omega
  rw[hd]
  clear hd h0
  go_enter Tryz.func308,Tryz.ntmps308
  go_wp2
  go_ret
  exact ⟨rfl,rfl⟩
theorem count_int (b ro:Nat) (f:Nat→Bool) (w:World) (h:RowF w b ro f) (i n:Int) (hi:0≤i) (hn:0≤n) (hin:i+n≤512):
 Calls Tryz.prog 288 #[.pointer (some ⟨b,ro,none⟩), .int .i64 i, .int .i64 n] w fun e w'=>e= .returned (.int .i64 (cnt f i.toNat n.toNat:Nat))∧Below w.heap.size w w':=by
 have:=count_any b ro f w h i.toNat n.toNat (by omega)
 rw[show ((i.toNat:Nat):Int)=i by omega,show ((n.toNat:Nat):Int)=n by omega] at this
 exact this
theorem set_int (b ro:Nat) (f:Nat→Bool) (w:World) (h:RowF w b ro f) (i n:Int) (hi:0≤i) (hn:0≤n) (hin:i+n≤512):
 Calls Tryz.prog 199 #[.pointer (some ⟨b,ro,none⟩), .int .i64 i, .int .i64 n] w fun e w'=>e= .returned (.int .i64 0)∧RowF w' b ro (setF f i.toNat n.toNat)∧Only b ro 8 w w':=by
 have:=set_any b ro f w h i.toNat n.toNat (by omega)
 rw[show ((i.toNat:Nat):Int)=i by omega,show ((n.toNat:Nat):Int)=n by omega] at this
 exact this
theorem clear_int (b ro:Nat) (f:Nat→Bool) (w:World) (h:RowF w b ro f) (i n:Int) (hi:0≤i) (hn:0≤n) (hin:i+n≤512):
 Calls Tryz.prog 309 #[.pointer (some ⟨b,ro,none⟩), .int .i64 i, .int .i64 n] w fun e w'=>e= .returned (.int .i64 0)∧RowF w' b ro (clrF f i.toNat n.toNat)∧Only b ro 8 w w':=by
 have:=clear_any b ro f w h i.toNat n.toNat (by omega)
 rw[show ((i.toNat:Nat):Int)=i by omega,show ((n.toNat:Nat):Int)=n by omega] at this
 exact this
def takeS (u g:Nat→Bool) (i n:Int):Int×Int×(Nat→Bool)×(Nat→Bool):=
 @ite _ (RightC i n) (decR i n) (if cnt u i.toNat n.toNat=0 then ((cnt g i.toNat n.toNat:Nat),0,setF u i.toNat n.toNat,clrF g i.toNat n.toNat) else (0,32,u,g)) (0,1,u,g)
def giveS (u g:Nat→Bool) (i n:Int) (gone:Bool):Int×(Nat→Bool)×(Nat→Bool):=
 @ite _ (RightC i n) (decR i n) (if cnt u i.toNat n.toNat=n.toNat then (0,clrF u i.toNat n.toNat,if gone then setF g i.toNat n.toNat else g) else (31,u,g)) (1,u,g)
theorem take_any (b:Nat) (u g:Nat→Bool) (w:World) (h:ChF w b u g) (i n:Int) (hi:i≤9223372036854775807):
 Calls Tryz.prog 290 #[.pointer (some ⟨b,0,none⟩), .int .i64 i, .int .i64 n] w fun e w'=>
  e= .returned (.tuple #[.int .i64 (takeS u g i n).1, .int .i64 (takeS u g i n).2.1])∧ChF w' b (takeS u g i n).2.2.1 (takeS u g i n).2.2.2∧Kept (fun x=>x=b) w w':=by
 have cR:=rightC_any i n hi w
 by_cases hr:RightC i n
 ·rw[@decide_eq_true _ (decR i n) hr] at cR
  obtain ⟨r0,r1,r2⟩:=hr
  have cC:=count_int b 0 u w h.used i n r0 (by omega) (by omega)
  have HC:=hide h
  by_cases hz:cnt u i.toNat n.toNat=0
  ·have e:takeS u g i n=(((cnt g i.toNat n.toNat:Nat):Int),0,setF u i.toNat n.toNat,clrF g i.toNat n.toNat):=by
    unfold takeS;rw[if_pos ⟨r0,r1,r2⟩,if_pos hz]
   rw[e]
   rw[hz] at cC
   have R:=hide ((show 0≤i∧0≤n∧i+n≤512 by omega))
   clear e hz h
   obtain ⟨C,hC⟩:∃C:Int,((cnt g i.toNat n.toNat:Nat):Int)=C:=⟨_,rfl⟩
   rw[hC]
   have HCC:=hide hC
   clear hC
   go_enter Tryz.func290,Tryz.ntmps290
   go_wp2_with fail
   go_at_call 308
   refine cR.mono ?_
   rintro e w' ⟨rfl,hw'⟩;rw[hw'];clear hw' w'
   go_wp2_with fail
   go_at_call 288
   refine cC.mono ?_
   rintro e w1 ⟨rfl,k1⟩
   have HC1:=hide (HC.out.below k1)
   have K1:=hide k1
   clear k1
   go_wp2_with fail
   go_at_call 288
   refine (count_int b 8 g w1 HC1.out.gone i n R.out.1 R.out.2.1 R.out.2.2).mono ?_
   rw[HCC.out]
   rintro e w2 ⟨rfl,k2⟩
   have HC2:=hide (HC1.out.below k2)
   have K2:=hide (K1.out.trans (k2.mono K1.out.size))
   clear k2
   go_wp2_with fail
   go_at_call 199
   refine (set_int b 0 u w2 HC2.out.used i n R.out.1 R.out.2.1 R.out.2.2).mono ?_
   rintro e w3 ⟨rfl,r3,k3⟩
   have HC3:=hide (HC2.out.setU k3 r3)
   have K3:=hide ((Kept.of_below K2.out).trans k3.kept (fun _ _ f=>f))
   clear r3 k3
   go_wp2_with fail
   go_at_call 309
   refine (clear_int b 8 g w3 HC3.out.gone i n R.out.1 R.out.2.1 R.out.2.2).mono ?_
   rintro e w4 ⟨rfl,r4,k4⟩
   have HC4:=hide (HC3.out.setG k4 r4)
   have K4:=hide (K3.out.trans k4.kept (fun _ _ f=>f))
   clear r4 k4
   go_wp2_with fail
   go_ret2
   exact ⟨rfl,HC4.out,K4.out⟩
  ·have e:takeS u g i n=(0,32,u,g):=by unfold takeS;rw[if_pos ⟨r0,r1,r2⟩,if_neg hz]
   rw[e]
   obtain ⟨C,hC⟩:∃C:Int,((cnt u i.toNat n.toNat:Nat):Int)=C:=⟨_,rfl⟩
   have hC0:0<C:=by omega
   rw[hC] at cC
   clear e hz hC h
   go_enter Tryz.func290,Tryz.ntmps290
   go_wp2_with fail
   go_at_call 308
   refine cR.mono ?_
   rintro e w' ⟨rfl,hw'⟩;rw[hw'];clear hw' w'
   go_wp2_with fail
   go_at_call 288
   refine cC.mono ?_
   rintro e w1 ⟨rfl,k1⟩
   have HC1:=hide (HC.out.below k1)
   have K1:=hide k1
   clear k1
   go_wp2_with fail
   go_ret2
   exact ⟨rfl,HC1.out,Kept.of_below K1.out⟩
 ·rw[@decide_eq_false _ (decR i n) hr] at cR
  have e:takeS u g i n=(0,1,u,g):=by unfold takeS;rw[if_neg hr]
  rw[e]
  have HC:=hide h
  clear e hr h
  go_enter Tryz.func290,Tryz.ntmps290
  go_wp2_with fail
  go_at_call 308
  refine cR.mono ?_
  rintro e w' ⟨rfl,hw'⟩;rw[hw'];clear hw' w'
  go_wp2_with fail
  go_ret2
  exact ⟨rfl,HC.out,Kept.refl _ _⟩
theorem give_any (b:Nat) (u g:Nat→Bool) (w:World) (h:ChF w b u g) (i n:Int) (hi:i≤9223372036854775807):
 Calls Tryz.prog 291 #[.pointer (some ⟨b,0,none⟩), .int .i64 i, .int .i64 n] w fun e w'=>
  e= .returned (.int .i64 (giveS u g i n false).1)∧ChF w' b (giveS u g i n false).2.1 (giveS u g i n false).2.2∧Kept (fun x=>x=b) w w':=by
 have cR:=rightC_any i n hi w
 by_cases hr:RightC i n
 ·rw[@decide_eq_true _ (decR i n) hr] at cR
  obtain ⟨r0,r1,r2⟩:=hr
  have cC:=count_int b 0 u w h.used i n r0 (by omega) (by omega)
  have HC:=hide h
  by_cases hz:cnt u i.toNat n.toNat=n.toNat
  ·have e:giveS u g i n false=(0,clrF u i.toNat n.toNat,g):=by
    unfold giveS;rw[if_pos ⟨r0,r1,r2⟩,if_pos hz];rfl
   rw[e]
   rw[hz,show ((n.toNat:Nat):Int)=n by omega] at cC
   have R:=hide ((show 0≤i∧0≤n∧i+n≤512 by omega))
   clear e hz h
   go_enter Tryz.func291,Tryz.ntmps291
   go_wp2_with fail
   go_at_call 308
   refine cR.mono ?_
   rintro e w' ⟨rfl,hw'⟩;rw[hw'];clear hw' w'
   go_wp2_with fail
   go_at_call 288
   refine cC.mono ?_
   rintro e w1 ⟨rfl,k1⟩
   have HC1:=hide (HC.out.below k1)
   have K1:=hide k1
   clear k1
   go_wp2_with fail
   go_at_call 309
   refine (clear_int b 0 u w1 HC1.out.used i n R.out.1 R.out.2.1 R.out.2.2).mono ?_
   rintro e w4 ⟨rfl,r4,k4⟩
   have HC4:=hide (HC1.out.setU k4 r4)
   have K4:=hide ((Kept.of_below (F:=fun x=>x=b) K1.out).trans k4.kept (fun _ _ f=>f))
   clear r4 k4
   go_wp2_with fail
   go_ret
   exact ⟨rfl,HC4.out,K4.out⟩
  ·have e:giveS u g i n false=(31,u,g):=by unfold giveS;rw[if_pos ⟨r0,r1,r2⟩,if_neg hz]
   rw[e]
   obtain ⟨C,hC⟩:∃C:Int,((cnt u i.toNat n.toNat:Nat):Int)=C:=⟨_,rfl⟩
   have hC0:C<n:=by have:=cnt_le u i.toNat n.toNat;omega
   rw[hC] at cC
   clear e hz hC h
   go_enter Tryz.func291,Tryz.ntmps291
   go_wp2_with fail
   go_at_call 308
   refine cR.mono ?_
   rintro e w' ⟨rfl,hw'⟩;rw[hw'];clear hw' w'
   go_wp2_with fail
   go_at_call 288
   refine cC.mono ?_
   rintro e w1 ⟨rfl,k1⟩
   have HC1:=hide (HC.out.below k1)
   have K1:=hide k1
   clear k1
   go_wp2_with fail
   go_ret
   exact ⟨rfl,HC1.out,Kept.of_below K1.out⟩
 ·rw[@decide_eq_false _ (decR i n) hr] at cR
  have e:giveS u g i n false=(1,u,g):=by unfold giveS;rw[if_neg hr]
  rw[e]
  have HC:=hide h
  clear e hr h
  go_enter Tryz.func291,Tryz.ntmps291
  go_wp2_with fail
  go_at_call 308
  refine cR.mono ?_
  rintro e w' ⟨rfl,hw'⟩;rw[hw'];clear hw' w'
  go_wp2_with fail
  go_ret
  exact ⟨rfl,HC.out,Kept.refl _ _⟩
theorem back_any (b:Nat) (u g:Nat→Bool) (w:World) (h:ChF w b u g) (i n:Int) (hi:i≤9223372036854775807):
 Calls Tryz.prog 292 #[.pointer (some ⟨b,0,none⟩), .int .i64 i, .int .i64 n] w fun e w'=>
  e= .returned (.int .i64 (giveS u g i n true).1)∧ChF w' b (giveS u g i n true).2.1 (giveS u g i n true).2.2∧Kept (fun x=>x=b) w w':=by
 have cG:=give_any b u g w h i n hi
 by_cases hz:RightC i n∧cnt u i.toNat n.toNat=n.toNat
 ·have e:giveS u g i n true=(0,clrF u i.toNat n.toNat,setF g i.toNat n.toNat):=by unfold giveS;rw[if_pos hz.1,if_pos hz.2];rfl
  have e':giveS u g i n false=(0,clrF u i.toNat n.toNat,g):=by unfold giveS;rw[if_pos hz.1,if_pos hz.2];rfl
  rw[e]
  rw[e'] at cG
  have R:=hide (show 0≤i∧0≤n∧i+n≤512 by have:=hz.1;unfold RightC at this;omega)
  clear e e' hz h
  go_enter Tryz.func292,Tryz.ntmps292
  go_wp2_with fail
  go_at_call 291
  refine cG.mono ?_
  rintro e w1 ⟨rfl,r1,k1⟩
  have R1:=hide r1
  have K1:=hide k1
  clear r1 k1
  go_wp2_with fail
  go_at_call 199
  refine (set_int b 8 g w1 R1.out.gone i n R.out.1 R.out.2.1 R.out.2.2).mono ?_
  rintro e w2 ⟨rfl,r2,k2⟩
  have HC2:=hide (R1.out.setG k2 r2)
  have K2:=hide (K1.out.trans k2.kept (fun _ _ f=>f))
  clear r2 k2
  go_wp2_with fail
  go_ret
  exact ⟨rfl,HC2.out,K2.out⟩
 ·have e:giveS u g i n true=giveS u g i n false:=by
   unfold giveS
   by_cases hr:RightC i n
   ·rw[if_pos hr,if_pos hr,if_neg (fun h=>hz ⟨hr,h⟩),if_neg (fun h=>hz ⟨hr,h⟩)]
   ·rw[if_neg hr,if_neg hr]
  have ne:(giveS u g i n false).1≠0:=by
   unfold giveS
   by_cases hr:RightC i n
   ·rw[if_pos hr,if_neg (fun h=>hz ⟨hr,h⟩)];show (31:Int)≠0;decide
   ·rw[if_neg hr];show (1:Int)≠0;decide
  rw[e]
  obtain ⟨E,hE⟩:∃E:Int,(giveS u g i n false).1=E:=⟨_,rfl⟩
  rw[hE] at cG ne ⊢
  have nb:(E==0)=false:=by simpa using ne
  clear e hz h hE ne
  go_enter Tryz.func292,Tryz.ntmps292
  go_wp2_with fail
  go_at_call 291
  refine cG.mono ?_
  rintro e w1 ⟨rfl,r1,k1⟩
  have R1:=hide r1
  have K1:=hide k1
  clear r1 k1
  go_wp2_with fail
  go_ret
  exact ⟨rfl,R1.out,K1.out⟩
end Go.Proofs.YtdgdhnnakcncoaaGreatDoor
