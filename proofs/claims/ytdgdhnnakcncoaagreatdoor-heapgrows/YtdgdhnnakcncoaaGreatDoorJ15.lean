/- Of the proof of HeapClasses: texts RXo, RXs. -/
import Derived.Test.YtdgdhnnakcncoaaGreatDoorJ14
namespace Go.Proofs.YtdgdhnnakcncoaaGreatDoor
set_option maxHeartbeats 1600000
open Go.ChangeShapes Go.WideShapes Go.ChangeAt Go.RowKit Go.Proofs.Bt Go.Shelf Go.Proofs.Rx Go.Maps
set_option linter.unusedVariables false
set_option linter.unusedSimpArgs false
theorem chunk_kept {w:World} {T:Tid} {L:Lv} {C:Ch} (h:RadAt w T L C) (i s:Nat) (hi:i<18446744073709551616) {blk:Nat} {c:Nat→Nat} (hc:C i=some (blk,c)):
 Calls Tryz.prog 196 #[tp T, .int .u64 (i:Nat), .int .i64 (s:Nat)] w fun e w'=>e= .returned (.pointer (some ⟨blk,0,none⟩))∧w'=w:=by
 have hl:=h.cm.looks tyC (zeroC _) i hi
 rw[hc] at hl
 simp only[Option.map_some,valO,encC,Option.isSome_some] at hl
 have c1:=h.c1
 clear h hc
 unfold tp
 go_enter Tryz.func196,Tryz.ntmps196
 go_wp2_with fail
 go_ret
 exact ⟨rfl,rfl⟩
theorem chunk_new {w:World} {T:Tid} {L:Lv} {C:Ch} (h:RadAt w T L C) (i s:Nat) (hi:i<18446744073709551616) (hs:1≤s∧s≤3) (hc:C i=none):
 Calls Tryz.prog 196 #[tp T, .int .u64 (i:Nat), .int .i64 (s:Nat)] w fun e w'=>e= .returned (.pointer (some ⟨w.heap.size,0,none⟩))∧ChS w' w.heap.size (fun _=>s)∧Below w.heap.size w w':=by
 have hl:=h.cm.looks tyC (zeroC _) i hi
 rw[hc] at hl
 simp only[Option.map_none,valO,encC,Option.isSome_none] at hl
 have c1:=h.c1
 have CN:=newC_any w
 have CL:=fun W b (hW:ChS W b (fun _=>3))=>hide (lay_any b (fun _=>3) W hW 0 512 s (by omega) (by omega) hs (.inr (fun _ _ _ z=>by cases z)))
 obtain ⟨N,hN⟩:∃N,w.heap.size=N:=⟨_,rfl⟩
 obtain ⟨R,hR⟩:∃R,R=(fun (e:Ending) (w':World)=>e= .returned (.pointer (some ⟨w.heap.size,0,none⟩))∧ChS w' w.heap.size (fun _=>s)∧Below w.heap.size w w'):=⟨_,rfl⟩
 rw[←hR]
 have HR:=hide hR
 have HN:=hide hN
 simp only[Int.cast_ofNat_Int] at CL
 clear h hc hR
 unfold tp
 go_enter Tryz.func196,Tryz.ntmps196
 go_wp2_with fail
 refine CN.mono ?_
 rintro e w1 ⟨rfl,hch,b1⟩
 have s1:ChS w1 w.heap.size (fun _=>3):=⟨hch.congr (fun k hk=>by simp) (fun k hk=>by unfold setF;simp;omega),fun _ _=>by decide,fun _ _=>by decide⟩
 have S1:=hide s1
 have B1:=hide b1
 clear s1 b1 hch CN c1 hl
 go_wp2_with fail
 try rw[hN] at S1
 refine (CL _ _ S1.out).out.mono ?_
 rintro e w2 ⟨rfl,s2,k2⟩
 have F:=hide (show R (.returned (.pointer (some ⟨N,0,none⟩))) w2 from by
  rw[HR.out,HN.out]
  refine ⟨rfl,s2.congr (fun k hk=>by unfold laid;rw[if_pos (by omega)]),?_⟩
  have:=B1.out
  rw[HN.out] at this
  exact below_kept this k2 (fun x hx=>by omega) (by have:=this.size;rw[HN.out] at this;exact this))
 clear s2 k2 S1 B1 CL
 go_wp2_with fail
 first|exact F.out|(go_ret;exact F.out)
def putC (C:Ch) (i:Nat) (x:Nat×(Nat→Nat)):Ch:=fun j=>if j=i then some x else C j
theorem putC_same (C:Ch) (i:Nat) (x:Nat×(Nat→Nat)):putC C i x i=some x:=by unfold putC;rw[if_pos rfl]
theorem putC_other {C:Ch} {i j:Nat} {x:Nat×(Nat→Nat)} (h:j≠i):putC C i x j=C j:=by unfold putC;rw[if_neg h]
theorem RadAt.upC {w w':World} {T:Tid} {L:Lv} {C:Ch} (h:RadAt w T L C) {i blk:Nat} {c':Nat→Nat} (hm:MapG encC w' T.cm (fun q=>if q=i then some blk else (C q).map (·.1))) (hc:ChS w' blk c') (k:Kept (fun x=>x=T.cm∨x=blk) w w')
 (hb:(∃c,C i=some (blk,c))∨(¬Foot T C blk∧T.B≤blk)):RadAt w' T L (putC C i (blk,c')):=by
 have two:=h.two
 have bcm:=h.base T.cm (.inl (.inl rfl))
 have bB:T.B≤blk:=by
  rcases hb with ⟨c,e⟩|⟨_,e⟩
  ·exact h.base _ (.inl (.inr (.inr ⟨i,blk,c,e,rfl⟩)))
  ·exact e
 have ncm:blk≠T.cm:=by
  rcases hb with ⟨c,e⟩|⟨e,_⟩
  ·exact (h.apB i blk c e).1
  ·exact fun z=>e (.inl (.inl z))
 have nmp:∀d,d≤6→blk≠T.mp d:=fun d hd=>by
  rcases hb with ⟨c,e⟩|⟨e,_⟩
  ·exact (h.apB i blk c e).2 d hd
  ·exact fun z=>e (.inl (.inr (.inl ⟨d,hd,z⟩)))
 have ntb:T.tb≠blk:=by
  rcases hb with ⟨c,e⟩|⟨e,_⟩
  ·exact fun z=>h.apT.1 (.inr (.inr ⟨i,blk,c,e,z⟩))
  ·exact fun z=>e (.inr (.inl z.symm))
 have nlb:T.lb≠blk:=by
  rcases hb with ⟨c,e⟩|⟨e,_⟩
  ·exact fun z=>h.apT.2 (.inr (.inr ⟨i,blk,c,e,z⟩))
  ·exact fun z=>e (.inr (.inr z.symm))
 have noth:∀j b c,j≠i→C j=some (b,c)→b≠blk:=fun j b c hj e z=>by
  rcases hb with ⟨c0,e0⟩|⟨e0,_⟩
  ·rw[z] at e;exact hj (h.inj j i blk c c0 e e0)
  ·exact e0 (.inl (.inr (.inr ⟨j,b,c,e,z.symm⟩)))
 have t0:T.tb≠T.cm:=fun z=>h.apT.1 (.inl z)
 have l0:T.lb≠T.cm:=fun z=>h.apT.2 (.inl z)
 have bl:∀{x},x<w.heap.size→x≠T.cm→x≠blk→w'.heap[x]? =w.heap[x]? :=fun hx h1 h2=>k.block _ hx (fun z=>z.elim h1 h2)
 have bt:=bl (h.lt (x:=T.tb) (.inr (.inl rfl))) t0 ntb
 have blb:=bl (h.lt (x:=T.lb) (.inr (.inr rfl))) l0 nlb
 have cs:∀j b c,putC C i (blk,c') j=some (b,c)→(j=i∧b=blk∧c=c')∨(j≠i∧C j=some (b,c)):=fun j b c e=>by
  by_cases z:j=i
  ·rw[z,putC_same] at e;cases e;exact .inl ⟨z,rfl,rfl⟩
  ·rw[putC_other z] at e;exact .inr ⟨z,e⟩
 have wr:∀x,Wr T (putC C i (blk,c')) x→Wr T C x∨x=blk:=fun x hx=>by
  rcases hx with e|⟨d,hd,e⟩|⟨j,b,c,hc,e⟩
  ·exact .inl (.inl e)
  ·exact .inl (.inr (.inl ⟨d,hd,e⟩))
  ·rcases cs j b c hc with ⟨_,e1,_⟩|⟨_,e1⟩
   ·exact .inr (e.trans e1)
   ·exact .inl (.inr (.inr ⟨j,b,c,e1,e⟩))
 refine ⟨h.tab.kept k ⟨by omega,by omega⟩,(cell_block bt 0).trans h.c0,(cell_block bt 1).trans h.c1,fun d' hd'=>(cell_block blb d').trans (h.lv d' hd'),fun d' hd'=>(h.mp d' hd').kept (bl (h.mp d' hd').lt (h.apC d' hd') (fun z=>nmp d' hd' z.symm)),?_,fun j b c e=> ?_,h.apM,h.apC,⟨fun z=>(wr _ z).elim h.apT.1 ntb,fun z=>(wr _ z).elim h.apT.2 nlb⟩,fun j b c e=> ?_,fun j j' b c c1 e e'=> ?_,fun x hx=> ?_,h.two⟩
 ·have:(fun j=>(putC C i (blk,c') j).map (·.1))=fun q=>if q=i then some blk else (C q).map (·.1):=by
   funext q
   by_cases z:q=i
   ·rw[z,putC_same,if_pos rfl];rfl
   ·rw[putC_other z,if_neg z]
  rw[this];exact hm
 ·rcases cs j b c e with ⟨_,e1,e2⟩|⟨e1,e2⟩
  ·rw[e1,e2];exact hc
  ·exact (h.ch j b c e2).kept k (fun z=>z.elim (h.apB j b c e2).1 (noth j b c e1 e2))
 ·rcases cs j b c e with ⟨_,e1,e2⟩|⟨e1,e2⟩
  ·rw[e1];exact ⟨ncm,nmp⟩
  ·exact h.apB j b c e2
 ·rcases cs j b c e with ⟨z,e1,e2⟩|⟨e1,e2⟩
  ·rcases cs j' b c1 e' with ⟨z',_,_⟩|⟨e3,e4⟩
   ·rw[z,z']
   ·exact absurd e1 (noth j' b c1 e3 e4)
  ·rcases cs j' b c1 e' with ⟨z',e3,_⟩|⟨e3,e4⟩
   ·exact absurd e3 (noth j b c e1 e2)
   ·exact h.inj j j' b c c1 e2 e4
 ·rcases hx with hx|hx
  ·rcases wr x hx with hx|hx
   ·exact h.base x (.inl hx)
   ·rw[hx];exact bB
  ·exact h.base x (.inr hx)
end Go.Proofs.YtdgdhnnakcncoaaGreatDoor
namespace Go.Proofs.YtdgdhnnakcncoaaGreatDoor
set_option maxHeartbeats 1600000
open Go.ChangeShapes Go.WideShapes Go.ChangeAt Go.RowKit Go.Proofs.Bt Go.Shelf Go.Proofs.Rx Go.Maps Go.Proofs.Pk
set_option linter.unusedVariables false
set_option linter.unusedSimpArgs false
def setSt (st:Nat→Nat) (a b s q:Nat):Nat:=if a≤q∧q<b then s else st q
theorem setSt_in {st:Nat→Nat} {a b s q:Nat} (h:a≤q∧q<b):setSt st a b s q=s:=if_pos h
theorem setSt_out {st:Nat→Nat} {a b s q:Nat} (h:¬(a≤q∧q<b)):setSt st a b s q=st q:=if_neg h
theorem setSt_four {st:Nat→Nat} {a b s:Nat} (h:Four st) (hs:s≤3):Four (setSt st a b s):=fun q=>by unfold setSt;split;exact hs;exact h q
theorem chunk_any {w:World} {T:Tid} {L:Lv} {C:Ch} {st:Nat→Nat} (h:RadAt w T L C) (h4:Four st) {i:Nat} {r:Rw} (hG:Rx.Good L C st 0 6 i r) (hi:i<18446744073709551616) (hp:∃q,512 * i≤q∧q<512 * i+512∧1≤st q):
 Calls Tryz.prog 196 #[tp T, .int .u64 (i:Nat), .int .i64 (r.rest:Nat)] w fun e w'=>∃blk c,e= .returned (.pointer (some ⟨blk,0,none⟩))∧ChS w' blk c∧Below w.heap.size w w'∧(∀k,k<512→c k=st (512 * i+k))∧((∃c0,C i=some (blk,c0))∨w.heap.size≤blk):=by
 cases ha:al r.t (sz 6) with
 |none=>
  obtain ⟨blk,c,hc,hcs⟩:=hG.chunk ha
  exact (chunk_kept h i r.rest hi hc).mono fun e w' ⟨he,hw⟩=>⟨blk,c,he,by rw[hw];exact h.ch i blk c hc,by rw[hw];exact Below.refl _ _,hcs, .inl ⟨c,hc⟩⟩
 |some s=>
  have e:=hG.even ha
  have hall:=hG.all h4 ha
  have hc:=(hG.2.1 s ha).2
  have hr:r.rest=s:=by rw[e];rfl
  obtain ⟨q,q1,q2,q3⟩:=hp
  have e6:sz 6=512:=rfl
  rw[e6] at hall
  have hq:=hall q (by omega) (by omega)
  have hs:=(al_some ha).1
  rw[hr]
  exact (chunk_new h i s hi ⟨by omega,hs⟩ hc).mono fun e w' ⟨he,hs,hb⟩=>⟨_,_,he,hs,hb,fun k hk=>(hall _ (by omega) (by omega)).symm, .inr (Nat.le_refl _)⟩
theorem kset7 (w:World) (b:Nat) (a0 a1 a2 a3 a4 a5 a6:Value):Kept (fun x=>x=b) w (((((((w.setCell ⟨b,0,none⟩ a0).setCell ⟨b,1,none⟩ a1).setCell ⟨b,2,none⟩ a2).setCell ⟨b,3,none⟩ a3).setCell ⟨b,4,none⟩ a4).setCell ⟨b,5,none⟩ a5).setCell ⟨b,6,none⟩ a6):=
 ((((((kept_set (F:=fun x=>x=b) w b 0 a0 rfl).trans (kept_set (F:=fun x=>x=b) _ b 1 a1 rfl) (fun _ _ z=>z)).trans (kept_set (F:=fun x=>x=b) _ b 2 a2 rfl) (fun _ _ z=>z)).trans (kept_set (F:=fun x=>x=b) _ b 3 a3 rfl) (fun _ _ z=>z)).trans (kept_set (F:=fun x=>x=b) _ b 4 a4 rfl) (fun _ _ z=>z)).trans (kept_set (F:=fun x=>x=b) _ b 5 a5 rfl) (fun _ _ z=>z)).trans (kept_set (F:=fun x=>x=b) _ b 6 a6 rfl) (fun _ _ z=>z)
theorem row7 {W:World} {b:Nat} {r:Rw} (h:Bk W b 221 #[.int .u64 (r.t.p:Nat), .int .u64 (r.t.f:Nat), .int .u64 (r.t.r:Nat), .int .i64 (r.s:Nat), .int .i64 (r.m:Nat), .int .i64 (r.e:Nat), .int .i64 (r.rest:Nat)]):(loadVar 221 ⟨b,0,none⟩).run Tryz.prog W= .ok (rwV r) W:=by
 have c0:=h.cell 0 _ rfl
 have c1:=h.cell 1 _ rfl
 have c2:=h.cell 2 _ rfl
 have c3:=h.cell 3 _ rfl
 have c4:=h.cell 4 _ rfl
 have c5:=h.cell 5 _ rfl
 have c6:=h.cell 6 _ rfl
 simp[go_sem,c0,c1,c2,c3,c4,c5,c6,rwV]
def SicP (T:Tid) (L:Lv) (C:Ch) (st:Nat→Nat) (i:Nat) (w:World) (e:Ending) (w':World):Prop:=
 ∃r' blk c',e= .returned (rwV r')∧RadAt w' T L (putC C i (blk,c'))∧(∀k,k<512→c' k=st (512 * i+k))∧((∃c,C i=some (blk,c))∨w.heap.size≤blk)∧r'.t=tl st (512 * i) 512∧Su st (512 * i) 512 r'∧r'.rest=0∧Kept (fun x=>x=T.cm∨∃c,C i=some (x,c)) w w'
theorem sumP_su {st:Nat→Nat} {c:Nat→Nat} {i s m e:Nat} (lo:∀k,k<512→1≤c k) (hc:∀k,k<512→c k=st (512 * i+k)) (h:SumP (fun k=>decide (c k=1)) s m e):SumN (bsy st (512 * i)) 512 s m e:=by
 have h0:SumN (fun k=>decide (c k=1)) 512 s m e:=⟨h.s512,h.e512,h.sc,h.ss,h.ec,h.es,h.mx,h.mn⟩
 refine sumN_congr h0 fun k hk=> ?_
 have:=lo k hk
 rw[Bool.eq_iff_iff,bsy_true,←hc k hk,decide_eq_true_eq]
 omega
set_option maxRecDepth 100000 in
set_option maxHeartbeats 2000000 in
theorem setInChunk_any {w:World} {T:Tid} {L:Lv} {C:Ch} {st:Nat→Nat} (h:RadAt w T L C) (h4:Four st) {i:Nat} {r:Rw} (hG:Rx.Good L C st 0 6 i r) (hi:i<67108864) (a b s:Nat) (h1:512 * i≤a) (hab:a<b) (h2:b≤512 * i+512) (hs:1≤s∧s≤3)
 (hm:(∀q,a≤q→q<b→st q=1)∨(∀q,a≤q→q<b→2≤st q)):
 Calls Tryz.prog 257 #[tp T, .int .u64 (i:Nat), .int .i64 (r.rest:Nat),spanV a b, .int .i64 (s:Nat)] w (SicP T L C (setSt st a b s) i w):=by
 obtain ⟨R,hR⟩:∃R,R=SicP T L C (setSt st a b s) i w:=⟨_,rfl⟩
 rw[←hR]
 obtain ⟨N,hN⟩:∃N,w.heap.size=N:=⟨_,rfl⟩
 obtain ⟨V,hV⟩:∃V,(w.alloc (.cells #[.int .u64 (a:Nat), .int .u64 (b:Nat)] 282)).alloc (.cells #[.int .u64 0, .int .u64 0, .int .u64 0, .int .i64 0, .int .i64 0, .int .i64 0, .int .i64 0] 221)=V:=⟨_,rfl⟩
 have bV:Below w.heap.size w V:=by rw[←hV];exact ((Below.refl _ w).alloc (Nat.le_refl _) _).alloc (by simp) _
 have k0:Bk V N 282 #[.int .u64 (a:Nat), .int .u64 (b:Nat)]:=by unfold Bk;rw[←hV,alloc_at,if_neg (by simp;omega),alloc_at,if_pos hN.symm]
 have k1:Bk V (N+1) 221 #[.int .u64 0, .int .u64 0, .int .u64 0, .int .i64 0, .int .i64 0, .int .i64 0, .int .i64 0]:=by unfold Bk;rw[←hV,alloc_at,if_pos (by simp;omega)]
 have R0:=hide h
 have RV:=hide (h.below bV)
 have CK:=hide (chunk_any RV.out h4 hG (by omega) ⟨a,by omega,by omega,by
  rcases hm with z|z
  ·rw[z a (by omega) hab];omega
  ·have:=z a (by omega) hab;omega⟩)
 have CP:=fun X=>hide (pages_any (a:Int) (b:Int) (by omega) (by omega) (by omega) X)
 have HR:=hide hR
 have HN:=hide hN
 have BV:=hide bV
 have K0:=hide k0
 have K1:=hide k1
 have HM:=hide hm
 have HG:=hide hG
 have y0:=k0.cell 0 _ rfl
 have y1:=k0.cell 1 _ rfl
 have a0:(0:Int)≤a:=by omega
 have a1:(a:Int)<b:=by omega
 have a2:(b:Int)≤34359738368:=by omega
 have m0:(0:Int)≤(a:Int)%512:=by omega
 have m1:(a:Int)%512<512:=by omega
 have m2:(0:Int)≤(b:Int) -(a:Int):=by omega
 have m3:(b:Int) -(a:Int)≤512:=by omega
 have HV1:=hide k1.lt
 clear hR h bV k0 k1 hm hG
 unfold tp at CK ⊢
 unfold spanV at CP ⊢
 go_enter Tryz.func257,Tryz.ntmps257
 go_wp2_with fail
 refine CK.out.mono ?_
 rintro e w1 ⟨blk,c,rfl,hch,b1,hcs,hbk⟩
 have R1:=hide (RV.out.below b1)
 have CH:=hide hch
 have CS:=hide hcs
 have HB:=hide hbk
 have B1:=hide b1
 have J0:=hide (K0.out.below b1)
 have J1:=hide (K1.out.below b1)
 have z0:=J0.out.cell 0 _ rfl
 have z1:=J0.out.cell 1 _ rfl
 have l0:=J0.out.lt
 have hx:= @ext_cell w1
 have hne:=ext_ne w1
 clear hch b1 hcs hbk CK y0 y1 hV K0 K1 RV
 go_wp2_with fail
 refine (wpIn_wide (n:=3)).1 (tail_w 9 (by kernel_rfl) (by kernel_rfl) ?_)
 simp only[List.take_succ_cons,List.take_zero,List.drop_succ_cons,List.drop_zero]
 repeat (first|go_big_quiet_step (exact calm_of (CP _).out)|(refine wpQuiet_step (fun K hK=> ?_);go_simp;refine hK _ ?_;clear hK K))
 refine wpQuiet_nil ?_
 rintro _ ⟨n1,rfl⟩
 have CLY:=hide (lay_any blk c n1.v (CH.out.below n1.h) (a%512) (b - a) s (by omega) (by omega) hs (by
  rcases HM.out with z|z
  ·exact .inl (fun k k1 k2=>by rw[CS.out k (by omega)];exact z _ (by omega) (by omega))
  ·exact .inr (fun k k1 k2=>by rw[CS.out k (by omega)];have:=z (512 * i+k) (by omega) (by omega);omega)))
 rw[show ((b - a:Nat):Int)=(b:Int) -(a:Int) by omega,show ((a%512:Nat):Int)=(a:Int)%512 from rfl] at CLY
 have R2:=R1.out.below n1.h
 have fresh:(∃c0,C i=some (blk,c0))∨(¬Foot T C blk∧T.B≤blk):=by
  rcases HB.out with z|z
  ·exact .inl z
  ·have h5:w.heap.size≤blk:=Nat.le_trans BV.out.size z
   refine .inr ⟨R0.out.foot_lt h5,?_⟩
   have:=R0.out.base T.tb (.inr (.inl rfl))
   have:=R0.out.lt (x:=T.tb) (.inr (.inl rfl))
   omega
 have nfo:∀x,x=T.tb∨x=T.lb∨x=T.cm→x≠blk:=fun x hx z=>by
  rcases fresh with ⟨c0,e⟩|⟨e,_⟩
  ·rcases hx with hx|hx|hx
   ·exact R0.out.apT.1 (.inr (.inr ⟨i,blk,c0,e,hx▸z⟩))
   ·exact R0.out.apT.2 (.inr (.inr ⟨i,blk,c0,e,hx▸z⟩))
   ·exact (R0.out.apB i blk c0 e).1 (z▸hx)
  ·rcases hx with hx|hx|hx
   ·exact e (.inr (.inl (z▸hx)))
   ·exact e (.inr (.inr (z▸hx)))
   ·exact e (.inl (.inl (z▸hx)))
 have nN:∀x,x=N∨x=N+1→x≠blk∧x≠T.cm:=fun x hx=>by
  have h6:w.heap.size≤x:=by rw[HN.out];omega
  have h7:V.heap.size=N+2∨True:= .inr trivial
  refine ⟨fun z=> ?_,fun z=>R0.out.foot_lt h6 (.inl (.inl z))⟩
  rcases HB.out with ⟨c0,e⟩|e
  ·exact R0.out.foot_lt h6 (.inl (.inr (.inr ⟨i,blk,c0,e,z⟩)))
  ·have:N+1<V.heap.size:=HV1.out
   omega
 have FRE:=hide fresh
 have R2H:=hide R2
 have J0':=hide (J0.out.below n1.h)
 have J1':=hide (J1.out.below n1.h)
 have B2:=hide (n1.h)
 have NFO:=hide nfo
 have NN:=hide nN
 clear fresh nfo nN R2 hx hne CP z0 z1 l0
 gi_wp2_with fail
 refine wcall2 CLY.out ?_
 rintro e w3 ⟨rfl,ch3,k3⟩
 have cm3:=R2H.out.cm.kept (k3.block T.cm R2H.out.cm.lt (NFO.out _ (.inr (.inr rfl))))
 obtain ⟨w4,hrun,hm4,hg4⟩:=cm3.put tyC i hi blk
 simp only[encC] at hrun
 have k4:Kept (fun x=>x=T.cm∨x=blk) n1.v w4:=(k3.mono (G:=fun x=>x=T.cm∨x=blk) (fun x hx=> .inr hx)).trans (Kept.of_grown (F:=fun x=>x=T.cm∨x=blk) hg4 (fun k e=>by cases e;exact .inl rfl)) (fun _ _ z=>z)
 have ch4:ChS w4 blk (laid c (a%512) (b - a) s):=ch3.kept (Kept.of_grown (F:=fun x=>x=T.cm) hg4 (fun k e=>by cases e;rfl)) (fun z=>NFO.out T.cm (.inr (.inr rfl)) z.symm)
 have R4:=hide (R2H.out.upC hm4 ch4 k4 FRE.out)
 have q1:w3.cell? ⟨T.tb,1,none⟩=some (.map (some T.cm)):=(cell_block (k3.block T.tb (R2H.out.lt (x:=T.tb) (.inr (.inl rfl))) (NFO.out _ (.inl rfl))) 1).trans R2H.out.c1
 have K4:=hide k4
 have C4:=hide ch4
 have HL:∀k,k<512→laid c (a%512) (b - a) s k=setSt st a b s (512 * i+k):=fun k hk=>by
  unfold laid setSt
  by_cases z:a%512≤k∧k<a%512+(b - a)
  ·rw[if_pos z,if_pos (by omega)]
  ·rw[if_neg z,if_neg (by omega)];exact CS.out k hk
 have HLH:=hide HL
 obtain ⟨c',hc'⟩:∃c',laid c (a%512) (b - a) s=c':=⟨_,rfl⟩
 rw[hc'] at C4 HLH R4
 have J4:=hide (J1'.out.kept k4 (fun z=>z.elim (NN.out _ (.inr rfl)).2 (NN.out _ (.inr rfl)).1))
 have CT:=hide (tallyC_any blk c' w4 C4.out 0 512 (by omega))
 have et:tl c' 0 512=tl (setSt st a b s) (512 * i) 512:=by
  unfold tl
  have key:∀k,k<512→c' (0+k)=setSt st a b s (512 * i+k):=fun k hk=>by rw[Nat.zero_add];exact HLH.out k hk
  rw[cnt_congr (f:=inU c') (g:=inU (setSt st a b s)) (j:=512 * i) fun k hk=>by unfold inU;rw[key k hk],cnt_congr (f:=fre c') (g:=fre (setSt st a b s)) (j:=512 * i) fun k hk=>by unfold fre;rw[key k hk],cnt_congr (f:=rel c') (g:=rel (setSt st a b s)) (j:=512 * i) fun k hk=>by unfold rel;rw[key k hk]]
 have KW:=hide (show Kept (fun x=>x=T.cm∨∃c,C i=some (x,c)) w w4 from by
  have h6:Below w.heap.size w n1.v:=(BV.out.trans (B1.out.mono BV.out.size)).trans (B2.out.mono (Nat.le_trans BV.out.size B1.out.size))
  refine (Kept.of_below h6).trans k4 (fun x hx hz=> ?_)
  rcases hz with hz|hz
  ·exact .inl hz
  ·rcases HB.out with ⟨c0,e⟩|e
   ·exact .inr ⟨c0,by rw[hz];exact e⟩
   ·have:=BV.out.size;omega)
 have ET:=hide et
 obtain ⟨t,ht⟩:∃t,tl c' 0 512=t:=⟨_,rfl⟩
 rw[ht] at CT ET
 unfold tlV at CT
 simp only[Int.cast_ofNat_Int] at CT
 clear ch3 cm3 hm4 hg4 k4 ch4 HL hc' et ht CLY k3 J0 J1 J0' J1'
 gi_wp2_with fail
 go_wp2_with fail
 refine CT.out.mono ?_
 rintro e w5 ⟨rfl,b5⟩
 have R5:=hide (R4.out.below b5)
 have C5:=hide (C4.out.below b5)
 have J5:=hide (J4.out.below b5)
 have K5:=hide (KW.out.trans (Kept.of_below (F:=fun _=>False) b5) (fun _ _ z=>z.elim))
 have CSM:=hide (sumC_any blk _ _ w5 C5.out.row R5.out.tab)
 clear b5 CT R4 J4 KW
 go_wp2_with fail
 refine CSM.out.mono ?_
 rintro e w6 ⟨s',m',e',rfl,hsum,b6⟩
 have R6:=hide (R5.out.below b6)
 have J6:=hide (J5.out.below b6)
 have K6:=hide (K5.out.trans (Kept.of_below (F:=fun _=>False) b6) (fun _ _ z=>z.elim))
 have SU:=hide (sumP_su (st:=setSt st a b s) (i:=i) C4.out.lo HLH.out hsum)
 have v0:=J6.out.cell 0 _ rfl
 have v1:=J6.out.cell 1 _ rfl
 have v2:=J6.out.cell 2 _ rfl
 have v3:=J6.out.cell 3 _ rfl
 have v4:=J6.out.cell 4 _ rfl
 have v5:=J6.out.cell 5 _ rfl
 have v6:=J6.out.cell 6 _ rfl
 obtain ⟨f0,f1,f2,f3,f4,f5,f6⟩:=frozen7 J6.out.fz
 have l6:=J6.out.lt
 unfold sumV
 clear hsum b6 CSM J5 K5 C5
 go_wp2_with fail
 have fin:=((((((J6.out.set 0 (.int .u64 (t.p:Nat))).set 1 (.int .u64 (t.f:Nat))).set 2 (.int .u64 (t.r:Nat))).set 3 (.int .i64 (s':Nat))).set 4 (.int .i64 (m':Nat))).set 5 (.int .i64 (e':Nat))).set 6 (.int .i64 0)
 have kf:=kset7 w6 (N+1) (.int .u64 (t.p:Nat)) (.int .u64 (t.f:Nat)) (.int .u64 (t.r:Nat)) (.int .i64 (s':Nat)) (.int .i64 (m':Nat)) (.int .i64 (e':Nat)) (.int .i64 0)
 refine bodyPost_ret (results_c Tryz.results257 _ _ ⟨N+1,0,none⟩ (rwV ⟨t,s',m',e',0⟩) rfl (row7 fin)) rfl ?_
 rw[HR.out]
 have fo:∀x,x=N+1→¬Foot T (putC C i (blk,c')) x∧T.B≤x:=fun x hx=>by
  have h6:w.heap.size≤x:=by rw[HN.out];omega
  have h7:=R0.out.base T.tb (.inr (.inl rfl))
  have h8:=R0.out.lt (x:=T.tb) (.inr (.inl rfl))
  refine ⟨fun z=> ?_,by omega⟩
  rcases z with (z|⟨d,hd,z⟩|⟨j,b',c0,hj,z⟩)|z
  ·exact R0.out.foot_lt h6 (.inl (.inl z))
  ·exact R0.out.foot_lt h6 (.inl (.inr (.inl ⟨d,hd,z⟩)))
  ·by_cases e:j=i
   ·rw[e,putC_same] at hj
    cases hj
    exact (NN.out x (.inr hx)).1 z
   ·rw[putC_other e] at hj
    exact R0.out.foot_lt h6 (.inl (.inr (.inr ⟨j,b',c0,hj,z⟩)))
  ·exact R0.out.foot_lt h6 (.inr z)
 refine ⟨⟨t,s',m',e',0⟩,blk,c',rfl,R6.out.kept kf fo,HLH.out,?_,ET.out,SU.out,rfl,K6.out.trans kf (fun x hx hz=>by rw[HN.out] at hx;omega)⟩
 rcases HB.out with z|z
 ·exact .inl z
 ·exact .inr (Nat.le_trans BV.out.size z)
end Go.Proofs.YtdgdhnnakcncoaaGreatDoor
