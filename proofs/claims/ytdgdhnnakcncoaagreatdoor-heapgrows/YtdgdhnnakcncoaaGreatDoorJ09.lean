/- Of the proof of HeapClasses: texts RXd, RXe. -/
import Derived.Test.YtdgdhnnakcncoaaGreatDoorJ08
import Derived.Maps.RangeWalk
namespace Go.Proofs.YtdgdhnnakcncoaaGreatDoor
set_option maxHeartbeats 1600000
open Go.ChangeShapes Go.WideShapes Go.ChangeAt Go.RowKit Go.Proofs.Bt Go.Shelf Go.Proofs.Rx
set_option linter.unusedVariables false
set_option linter.unusedSimpArgs false
def rwV (r:Rw):Value:= .agg #[.int .u64 (r.t.p:Nat), .int .u64 (r.t.f:Nat), .int .u64 (r.t.r:Nat), .int .i64 (r.s:Nat), .int .i64 (r.m:Nat), .int .i64 (r.e:Nat), .int .i64 (r.rest:Nat)]
theorem tlOf_le (s n:Nat):(tlOf s n).p≤n∧(tlOf s n).f≤n∧(tlOf s n).r≤n:=by
 unfold tlOf
 dsimp only
 refine ⟨?_,?_,?_⟩<;>split<;>omega
theorem alloc_at1 (w:World) (cs:Array Value) (t:TypeId) {w1:World} (b1:Below (w.alloc (.cells cs t)).heap.size (w.alloc (.cells cs t)) w1) (N:Nat) (hN:w.heap.size=N):
 Below N w w1∧N<w1.heap.size∧w1.heap[N]? =some (.cells cs t)∧(∀k,w1.frozen? ⟨N,k,none⟩=false):=by
 subst hN
 have h1:=World.alloc_heap_new w (.cells cs t)
 have e1:=(b1.block w.heap.size (by simp)).trans h1
 exact ⟨(grown1 w _).trans (b1.mono (by simp)),(Array.getElem?_eq_some_iff.1 e1).1,e1,fun k=>by simp[World.frozen?,e1]⟩
theorem cells7 {w:World} {b:Nat} {v0 v1 v2 v3 v4 v5 v6:Value} {t:TypeId} {z:Nat×Nat} (h:w.heap[b]? =some (.cells #[v0,v1,v2,v3,v4,v5,v6] t z)):w.cell? ⟨b,0,none⟩=some v0∧w.cell? ⟨b,1,none⟩=some v1∧w.cell? ⟨b,2,none⟩=some v2∧w.cell? ⟨b,3,none⟩=some v3∧w.cell? ⟨b,4,none⟩=some v4∧w.cell? ⟨b,5,none⟩=some v5∧w.cell? ⟨b,6,none⟩=some v6:=by
 simp[World.cell?,h]
theorem frozen7 {w:World} {b:Nat} (h:∀k,w.frozen? ⟨b,k,none⟩=false):w.frozen? ⟨b,0,none⟩=false∧w.frozen? ⟨b,1,none⟩=false∧w.frozen? ⟨b,2,none⟩=false∧w.frozen? ⟨b,3,none⟩=false∧w.frozen? ⟨b,4,none⟩=false∧w.frozen? ⟨b,5,none⟩=false∧w.frozen? ⟨b,6,none⟩=false:=⟨h 0,h 1,h 2,h 3,h 4,h 5,h 6⟩
theorem below7 {w w1:World} {N:Nat} {a0 a1 a2 a3 a4 a5 a6:Value} {z:Obj} (h:Below N w w1) (l:N≤w1.heap.size):Below N w ((((((((w1.setCell ⟨N,0,none⟩ a0).setCell ⟨N,1,none⟩ a1).setCell ⟨N,2,none⟩ a2).setCell ⟨N,3,none⟩ a3).setCell ⟨N,4,none⟩ a4).setCell ⟨N,5,none⟩ a5).setCell ⟨N,6,none⟩ a6).alloc z):=
 (((((((h.setCell (Nat.le_refl _) _).setCell (Nat.le_refl _) _).setCell (Nat.le_refl _) _).setCell (Nat.le_refl _) _).setCell (Nat.le_refl _) _).setCell (Nat.le_refl _) _).setCell (Nat.le_refl _) _).alloc (by simpa using l) _
set_option maxRecDepth 20000 in
theorem even_any (d s:Nat) (hd:d≤6) (hs:s≤3) (w:World) (ht:TabW w):
 Calls Tryz.prog 239 #[.int .i64 (d:Nat), .int .i64 (s:Nat)] w fun e w'=>e= .returned (rwV (even d s))∧Below w.heap.size w w':=by
 have CS:=fun w ht=>hide (size_any d hd w ht)
 have CT:=fun w=>hide (tallyOf_any s (sz d) hs w)
 have hl:=tlOf_le s (sz d)
 have hz:=sz_le d hd
 have ev:even d s=⟨tlOf s (sz d),(tlOf s (sz d)).f,(tlOf s (sz d)).f,(tlOf s (sz d)).f,s⟩:=rfl
 rw[ev]
 unfold rwV
 unfold tlV at CT
 dsimp only
 generalize tlOf s (sz d)=T at *
 obtain ⟨p,f,r⟩:=T
 dsimp only at *
 obtain ⟨F,hF⟩:∃F:Int,(f:Int)=F:=⟨_,rfl⟩
 rw[hF] at CT ⊢
 have f0:0≤F:=by omega
 have f1:F≤34359738368:=by omega
 have HT:=hide ht
 clear hl hz ev hF ht
 obtain ⟨N,hN⟩:∃N,w.heap.size=N:=⟨_,rfl⟩
 obtain ⟨R,hR⟩:∃R,R=(fun (e:Ending) (w':World)=>e=Ending.returned (.agg #[.int .u64 (p:Nat), .int .u64 F, .int .u64 (r:Nat), .int .i64 F, .int .i64 F, .int .i64 F, .int .i64 (s:Nat)])∧Below w.heap.size w w'):=⟨_,rfl⟩
 rw[←hR]
 have HR:=hide hR
 clear hR
 go_enter Tryz.func239,Tryz.ntmps239
 go_wp2_with fail
 refine (CS _ (HT.out.below (grown1 _ _))).out.mono ?_
 rintro e w' ⟨rfl,hw'⟩;rw[hw'];clear hw' w' CS
 go_wp2_with fail
 refine (CT _).out.mono ?_
 rintro e w1 ⟨rfl,b1⟩
 obtain ⟨B1,l1,c1,fz1⟩:=alloc_at1 w _ _ b1 N hN
 have HB:=hide B1
 have HN:=hide hN
 obtain ⟨x0,x1,x2,x3,x4,x5,x6⟩:=cells7 c1
 obtain ⟨z0,z1,z2,z3,z4,z5,z6⟩:=frozen7 fz1
 clear b1 B1 CT hN c1 fz1
 have FIN:=hide (show ∀a0 a1 a2 a3 a4 a5 a6 z,Below N w ((((((((w1.setCell ⟨N,0,none⟩ a0).setCell ⟨N,1,none⟩ a1).setCell ⟨N,2,none⟩ a2).setCell ⟨N,3,none⟩ a3).setCell ⟨N,4,none⟩ a4).setCell ⟨N,5,none⟩ a5).setCell ⟨N,6,none⟩ a6).alloc z) from fun a0 a1 a2 a3 a4 a5 a6 z=>below7 HB.out (Nat.le_of_lt l1))
 go_wp2_with fail
 refine bodyPost_ret (v:= .agg #[.int .u64 (p:Nat), .int .u64 F, .int .u64 (r:Nat), .int .i64 F, .int .i64 F, .int .i64 F, .int .i64 (s:Nat)]) (by simp[results,Tryz.results239,go_sem,l1,x0,x1,x2,x3,x4,x5,x6]) rfl ?_
 rw[HR.out]
 exact ⟨rfl,by rw[HN.out];exact FIN.out _ _ _ _ _ _ _ _⟩
structure ChS (w:World) (b:Nat) (c:Nat→Nat):Prop where
 row:ChF w b (fun k=>decide (c k=1)) (fun k=>decide (c k=3))
 lo:∀k,k<512→1≤c k
 hi:∀k,k<512→c k≤3
theorem ChS.lt {w:World} {b:Nat} {c:Nat→Nat} (h:ChS w b c):b<w.heap.size:=h.row.lt
theorem ChS.kept {F:Nat→Prop} {w w':World} {b:Nat} {c:Nat→Nat} (h:ChS w b c) (k:Kept F w w') (hF:¬F b):ChS w' b c:=⟨h.row.kept k hF,h.lo,h.hi⟩
theorem ChS.below {w w':World} {b:Nat} {c:Nat→Nat} (h:ChS w b c) (k:Below w.heap.size w w'):ChS w' b c:=⟨h.row.below k,h.lo,h.hi⟩
theorem ChS.congr {w:World} {b:Nat} {c c':Nat→Nat} (h:ChS w b c) (e:∀k,k<512→c k=c' k):ChS w b c':=
 ⟨h.row.congr (fun k hk=>by rw[e k hk]) (fun k hk=>by rw[e k hk]),fun k hk=>by rw[←e k hk];exact h.lo k hk,fun k hk=>by rw[←e k hk];exact h.hi k hk⟩
def laid (c:Nat→Nat) (i n s k:Nat):Nat:=if i≤k∧k<i+n then s else c k
theorem laid_ok {w:World} {b:Nat} {c:Nat→Nat} {i n s:Nat} (h:ChS w b c) (hs:1≤s∧s≤3) {w':World} {u g:Nat→Bool} (r:ChF w' b u g)
 (hu:∀k,k<512→u k=decide (laid c i n s k=1)) (hg:∀k,k<512→g k=decide (laid c i n s k=3)):ChS w' b (laid c i n s):=by
 refine ⟨r.congr hu hg,fun k hk=> ?_,fun k hk=> ?_⟩
 ·unfold laid;split
  ·omega
  ·exact h.lo k hk
 ·unfold laid;split
  ·omega
  ·exact h.hi k hk
theorem lay_any (b:Nat) (c:Nat→Nat) (w:World) (h:ChS w b c) (i n s:Nat) (hn:0<n) (hin:i+n≤512) (hs:1≤s∧s≤3) (hm:(∀k,i≤k→k<i+n→c k=1)∨(∀k,i≤k→k<i+n→c k≠1)):
 Calls Tryz.prog 253 #[.pointer (some ⟨b,0,none⟩), .int .i64 (i:Nat), .int .i64 (n:Nat), .int .i64 (s:Nat)] w fun e w'=>e= .returned (.tuple #[])∧ChS w' b (laid c i n s)∧Kept (fun x=>x=b) w w':=by
 have hr:RightC (i:Int) (n:Int):=⟨by omega,by omega,by omega⟩
 obtain ⟨u1,g1,hT,eu,eg⟩:∃u1 g1:Nat→Bool,(∀w0,ChS w0 b c→Calls Tryz.prog 290 #[.pointer (some ⟨b,0,none⟩), .int .i64 (i:Nat), .int .i64 (n:Nat)] w0 fun e w'=>(∃x y,e= .returned (.tuple #[.int .i64 x, .int .i64 y]))∧ChF w' b u1 g1∧Kept (fun x=>x=b) w0 w')∧(∀k,k<512→u1 k=decide (laid c i n 1 k=1))∧(∀k,k<512→g1 k=decide (laid c i n 1 k=3)):=by
  rcases hm with hm|hm
  ·refine ⟨fun k=>decide (c k=1),fun k=>decide (c k=3),fun w0 h0=>(take_any b _ _ w0 h0.row i n (by omega)).mono fun e w' ⟨he,hc,hk⟩=> ?_,fun k hk=> ?_,fun k hk=> ?_⟩
   ·have e1:takeS (fun k=>decide (c k=1)) (fun k=>decide (c k=3)) i n=(0,32,fun k=>decide (c k=1),fun k=>decide (c k=3)):=by
     unfold takeS
     rw[if_pos hr,if_neg]
     intro z
     have:=cnt_zero.1 z 0 (by omega)
     rw[hm _ (by omega) (by omega)] at this
     simp at this
    rw[e1] at he hc
    exact ⟨⟨_,_,he⟩,hc,hk⟩
   ·unfold laid
    by_cases z:i≤k∧k<i+n
    ·rw[if_pos z];dsimp only;rw[hm k z.1 z.2]
    ·rw[if_neg z]
   ·unfold laid
    by_cases z:i≤k∧k<i+n
    ·rw[if_pos z];dsimp only;rw[hm k z.1 z.2]
    ·rw[if_neg z]
  ·refine ⟨setF (fun k=>decide (c k=1)) i n,clrF (fun k=>decide (c k=3)) i n,fun w0 h0=>(take_any b _ _ w0 h0.row i n (by omega)).mono fun e w' ⟨he,hc,hk⟩=> ?_,fun k hk=> ?_,fun k hk=> ?_⟩
   ·have e1:takeS (fun k=>decide (c k=1)) (fun k=>decide (c k=3)) i n=(((cnt (fun k=>decide (c k=3)) (i:Int).toNat (n:Int).toNat:Nat):Int),0,setF (fun k=>decide (c k=1)) (i:Int).toNat (n:Int).toNat,clrF (fun k=>decide (c k=3)) (i:Int).toNat (n:Int).toNat):=by
     unfold takeS
     rw[if_pos hr,if_pos]
     refine cnt_none fun k hk=> ?_
     simp only[Int.toNat_natCast] at hk ⊢
     exact decide_eq_false (hm _ (by omega) (by omega))
    rw[e1] at he hc
    simp only[Int.toNat_natCast] at hc
    exact ⟨⟨_,_,he⟩,hc,hk⟩
   ·unfold laid setF
    by_cases z:i≤k∧k<i+n
    ·rw[if_pos z,decide_eq_true z];simp
    ·rw[if_neg z,decide_eq_false z];simp
   ·unfold laid clrF
    by_cases z:i≤k∧k<i+n
    ·rw[if_pos z,decide_eq_true z];simp
    ·rw[if_neg z,decide_eq_false z];simp
 have HH:=hide h
 have HE:=hide (And.intro eu eg)
 have CT:=hide hT
 have full:cnt u1 (i:Int).toNat (n:Int).toNat=(n:Int).toNat:=cnt_all fun k hk=>by
  simp only[Int.toNat_natCast] at hk ⊢
  rw[eu _ (by omega)]
  unfold laid
  rw[if_pos (by omega)]
  rfl
 have cG:=fun (W:World) (hW:ChF W b u1 g1)=>hide (give_any b u1 g1 W hW i n (by omega))
 have cB:=fun (W:World) (hW:ChF W b u1 g1)=>hide (back_any b u1 g1 W hW i n (by omega))
 have eg2:giveS u1 g1 i n false=(0,clrF u1 i n,g1):=by unfold giveS;rw[if_pos hr,if_pos full];simp
 have eg3:giveS u1 g1 i n true=(0,clrF u1 i n,setF g1 i n):=by unfold giveS;rw[if_pos hr,if_pos full];simp
 rw[eg2] at cG
 rw[eg3] at cB
 have L1:=hide (show ∀w',ChF w' b u1 g1→ChS w' b (laid c i n 1) from fun w' r=>laid_ok HH.out (by omega) r HE.out.1 HE.out.2)
 have L2:=hide (show ∀w',ChF w' b (clrF u1 i n) g1→ChS w' b (laid c i n 2) from fun w' r=>laid_ok HH.out (by omega) r (fun k hk=>by
  unfold clrF
  rw[eu k hk]
  unfold laid
  by_cases z:i≤k∧k<i+n
  ·rw[decide_eq_true z,if_pos z,if_pos z];simp
  ·rw[decide_eq_false z,if_neg z,if_neg z];simp) (fun k hk=>by
  rw[eg k hk]
  unfold laid
  by_cases z:i≤k∧k<i+n
  ·rw[if_pos z,if_pos z];simp
  ·rw[if_neg z,if_neg z]))
 have L3:=hide (show ∀w',ChF w' b (clrF u1 i n) (setF g1 i n)→ChS w' b (laid c i n 3) from fun w' r=>laid_ok HH.out (by omega) r (fun k hk=>by
  unfold clrF
  rw[eu k hk]
  unfold laid
  by_cases z:i≤k∧k<i+n
  ·rw[decide_eq_true z,if_pos z,if_pos z];simp
  ·rw[decide_eq_false z,if_neg z,if_neg z];simp) (fun k hk=>by
  unfold setF
  rw[eg k hk]
  unfold laid
  by_cases z:i≤k∧k<i+n
  ·rw[decide_eq_true z,if_pos z,if_pos z];simp
  ·rw[decide_eq_false z,if_neg z,if_neg z];simp))
 have hc:s=1∨s=2∨s=3:=by omega
 clear hT eu eg h full eg2 eg3 hr hm hin hn
 generalize (i:Int)=I at *
 generalize (n:Int)=M at *
 rcases hc with rfl|rfl|rfl
 ·clear hs
  simp only[Int.cast_ofNat_Int]
  go_enter Tryz.func253,Tryz.ntmps253
  go_wp2_with fail
  refine (CT.out _ HH.out).mono ?_
  rintro e w1 ⟨⟨x,y,rfl⟩,h1,k1⟩
  have R1:=hide h1
  have K1:=hide k1
  clear h1 k1
  go_wp2_with fail
  go_end0
  exact ⟨rfl,L1.out _ R1.out,K1.out⟩
 ·clear hs
  simp only[Int.cast_ofNat_Int]
  go_enter Tryz.func253,Tryz.ntmps253
  go_wp2_with fail
  refine (CT.out _ HH.out).mono ?_
  rintro e w1 ⟨⟨x,y,rfl⟩,h1,k1⟩
  have R1:=hide h1
  have K1:=hide k1
  clear h1 k1
  go_wp2_with fail
  refine (cG _ R1.out).out.mono ?_
  rintro e w2 ⟨rfl,h2,k2⟩
  have R2:=hide h2
  have K2:=hide (K1.out.trans k2 (fun _ _ f=>f))
  clear h2 k2
  go_wp2_with fail
  go_end0
  exact ⟨rfl,L2.out _ R2.out,K2.out⟩
 ·clear hs
  simp only[Int.cast_ofNat_Int]
  go_enter Tryz.func253,Tryz.ntmps253
  go_wp2_with fail
  refine (CT.out _ HH.out).mono ?_
  rintro e w1 ⟨⟨x,y,rfl⟩,h1,k1⟩
  have R1:=hide h1
  have K1:=hide k1
  clear h1 k1
  go_wp2_with fail
  refine (cB _ R1.out).out.mono ?_
  rintro e w2 ⟨rfl,h2,k2⟩
  have R2:=hide h2
  have K2:=hide (K1.out.trans k2 (fun _ _ f=>f))
  clear h2 k2
  go_wp2_with fail
  go_end0
  exact ⟨rfl,L3.out _ R2.out,K2.out⟩
theorem tl_chunk {c:Nat→Nat} (lo:∀k,k<512→1≤c k) (hi:∀k,k<512→c k≤3) {i n:Nat} (hin:i+n≤512):
 tl c i n=⟨n,n - cnt (fun k=>decide (c k=1)) i n,cnt (fun k=>decide (c k=3)) i n⟩:=by
 have h1:cnt (inU c) i n=n:=cnt_all fun k hk=>by unfold inU;have:=lo (i+k) (by omega);exact decide_eq_true (by omega)
 have h2:∀m,m≤n→cnt (fre c) i m+cnt (fun k=>decide (c k=1)) i m=m:=by
  intro m
  induction m with
  |zero=>intro _;rfl
  |succ m ih=>
   intro hm
   have:=ih (by omega)
   have a1:=cnt_add (fre c) i m 1
   have a2:=cnt_add (fun k=>decide (c k=1)) i m 1
   have l:=lo (i+m) (by omega)
   have e1:cnt (fre c) (i+m) 1=(fre c (i+m)).toNat:=by simp[cnt]
   have e2:cnt (fun k=>decide (c k=1)) (i+m) 1=(decide (c (i+m)=1)).toNat:=by simp[cnt]
   rw[a1,a2,e1,e2]
   by_cases z:c (i+m)=1
   ·have ef:fre c (i+m)=false:=decide_eq_false (by omega)
    rw[decide_eq_true z,ef];simp only[Bool.toNat_true,Bool.toNat_false];omega
   ·have ef:fre c (i+m)=true:=decide_eq_true (by omega)
    rw[decide_eq_false z,ef];simp only[Bool.toNat_true,Bool.toNat_false];omega
 have:=h2 n (Nat.le_refl _)
 unfold tl
 rw[h1]
 congr 1
 omega
theorem rowF_of {w:World} {b:Nat} {g:Nat→Nat} {f:Nat→Bool} {t:TypeId} (h:w.heap[b]? =some (.cells (cells8 g) t (0,0))) (hg:∀k,g k<18446744073709551616) (hf:∀i,i<512→bitW g i=f i):RowF w b 0 f:=⟨g,new8 h hg,hf⟩
theorem alloc3 {w w1:World} {o0 o1 o2:Obj} {N:Nat} (hN:w.heap.size=N) (h1:Below N w w1) (l1:N<w1.heap.size) (W:World) (hW:W=(w1.alloc o1).alloc o2):Below N w W∧W.heap.size=w1.heap.size+2∧W.heap[w1.heap.size]? =some o1∧W.heap[w1.heap.size+1]? =some o2∧W.heap[N]? =w1.heap[N]? :=by
 subst hW
 refine ⟨(h1.alloc (by omega) _).alloc (by simp;omega) _,by simp,?_,?_,?_⟩
 ·exact (Below.heap_alloc _ _ _ (by simp)).trans (World.alloc_heap_new w1 _)
 ·have:=World.alloc_heap_new (w1.alloc o1) o2
  rwa[World.size_alloc] at this
 ·rw[Below.heap_alloc _ _ _ (by simp;omega),Below.heap_alloc _ _ _ l1]
set_option maxRecDepth 20000 in
theorem tallyC_any (b:Nat) (c:Nat→Nat) (w:World) (h:ChS w b c) (i n:Nat) (hin:i+n≤512):
 Calls Tryz.prog 245 #[.pointer (some ⟨b,0,none⟩), .int .i64 (i:Nat), .int .i64 (n:Nat)] w fun e w'=>e= .returned (tlV (tl c i n))∧Below w.heap.size w w':=by
 rw[tl_chunk h.lo h.hi hin]
 have cu:=cnt_le (fun k=>decide (c k=1)) i n
 have cg:=cnt_le (fun k=>decide (c k=3)) i n
 have CR:=fun W (hW:ChS W b c)=>hide (rows_any b _ _ W hW.row)
 have CU:=fun W q (hW:RowF W q 0 (fun k=>decide (c k=1)))=>hide (count_any q 0 _ W hW i n hin)
 have CG:=fun W q (hW:RowF W q 0 (fun k=>decide (c k=3)))=>hide (count_any q 0 _ W hW i n hin)
 obtain ⟨U,hU⟩:∃U,cnt (fun k=>decide (c k=1)) i n=U:=⟨_,rfl⟩
 obtain ⟨G,hG⟩:∃G,cnt (fun k=>decide (c k=3)) i n=G:=⟨_,rfl⟩
 rw[hU] at CU cu ⊢
 rw[hG] at CG cg ⊢
 clear hU hG
 unfold tlV
 dsimp only
 rw[show ((n - U:Nat):Int)=(n:Int) -(U:Int) by omega]
 have HH:=hide h
 have n0:(0:Int)≤n:=by omega
 have n1:(n:Int)≤512:=by omega
 have u0:(0:Int)≤U:=by omega
 have u1:(U:Int)≤n:=by omega
 have g0:(0:Int)≤G:=by omega
 have g1:(G:Int)≤n:=by omega
 clear h hin cu cg
 generalize (i:Int)=I at *
 generalize (n:Int)=M at *
 generalize (U:Int)=U' at *
 generalize (G:Int)=G' at *
 obtain ⟨N,hN⟩:∃N,w.heap.size=N:=⟨_,rfl⟩
 obtain ⟨R,hR⟩:∃R,R=(fun (e:Ending) (w':World)=>e=Ending.returned (.agg #[.int .u64 M, .int .u64 (M - U'), .int .u64 G'])∧Below w.heap.size w w'):=⟨_,rfl⟩
 rw[←hR]
 have HR:=hide hR
 clear hR
 go_enter Tryz.func245,Tryz.ntmps245
 go_wp2_with fail
 refine (CR _ (HH.out.below (grown1 _ _))).out.mono ?_
 rintro e w1 ⟨gu,gg,rfl,fu,fg,bu,bg,b1⟩
 obtain ⟨B1,l1,c1,fz1⟩:=alloc_at1 w _ _ b1 N hN
 obtain ⟨W,hW⟩:∃W,W=(w1.alloc (.cells (cells8 gu) 238)).alloc (.cells (cells8 gg) 238):=⟨_,rfl⟩
 obtain ⟨B2,s2,r1,r2,r0⟩:=alloc3 (o0:= .cells #[] 0) hN B1 l1 W hW
 have HB:=hide B2
 have HN:=hide hN
 have RU:=hide (rowF_of r1 fu bu)
 have RG:=hide (rowF_of r2 fg bg)
 have RZ:=hide (r0.trans c1)
 obtain ⟨S,hS⟩:∃S,w1.heap.size=S:=⟨_,rfl⟩
 rw[hS] at RU RG s2
 have HS:=hide hS
 unfold cells8 at hW
 have HW:=hide hW
 clear b1 B1 hN c1 fz1 CR r1 r2 r0 fu fg bu bg B2 hW
 unfold words cells8
 go_wp2_with fail
 rw[←HW.out]
 refine (CU _ _ RU.out).out.mono ?_
 rintro e w2 ⟨rfl,b2⟩
 have RG2:=hide (RG.out.below b2)
 have HB2:=hide (HB.out.trans (b2.mono (by rw[←HN.out];exact HB.out.size)))
 have RZ2:=hide ((b2.block N (Array.getElem?_eq_some_iff.1 RZ.out).1).trans RZ.out)
 clear b2 RG RZ RU HB HW CU
 generalize (Value.agg #[.int .u64 ((gu 0:Nat):Int), .int .u64 ((gu 1:Nat):Int), .int .u64 ((gu 2:Nat):Int), .int .u64 ((gu 3:Nat):Int), .int .u64 ((gu 4:Nat):Int), .int .u64 ((gu 5:Nat):Int), .int .u64 ((gu 6:Nat):Int), .int .u64 ((gu 7:Nat):Int)])=GU
 generalize (Value.agg #[.int .u64 ((gg 0:Nat):Int), .int .u64 ((gg 1:Nat):Int), .int .u64 ((gg 2:Nat):Int), .int .u64 ((gg 3:Nat):Int), .int .u64 ((gg 4:Nat):Int), .int .u64 ((gg 5:Nat):Int), .int .u64 ((gg 6:Nat):Int), .int .u64 ((gg 7:Nat):Int)])=GG
 go_wp2_with fail
 refine (CG _ _ RG2.out).out.mono ?_
 rintro e w3 ⟨rfl,b3⟩
 have HB3:=hide (HB2.out.trans (b3.mono (by rw[←HN.out];exact HB2.out.size)))
 have rz3:=(b3.block N (Array.getElem?_eq_some_iff.1 RZ2.out).1).trans RZ2.out
 have l3:=(Array.getElem?_eq_some_iff.1 rz3).1
 have x0:w3.cell? ⟨N,0,none⟩=some (.int .u64 0):=by simp[World.cell?,rz3]
 have x1:w3.cell? ⟨N,1,none⟩=some (.int .u64 0):=by simp[World.cell?,rz3]
 have x2:w3.cell? ⟨N,2,none⟩=some (.int .u64 0):=by simp[World.cell?,rz3]
 have z0:w3.frozen? ⟨N,0,none⟩=false:=by simp[World.frozen?,rz3]
 have z1:w3.frozen? ⟨N,1,none⟩=false:=by simp[World.frozen?,rz3]
 have z2:w3.frozen? ⟨N,2,none⟩=false:=by simp[World.frozen?,rz3]
 have FIN:=hide (show ∀x y z,Below N w (((w3.setCell ⟨N,0,none⟩ x).setCell ⟨N,1,none⟩ y).setCell ⟨N,2,none⟩ z) from fun x y z=>((HB3.out.setCell (Nat.le_refl _) _).setCell (Nat.le_refl _) _).setCell (Nat.le_refl _) _)
 clear b3 RG2 RZ2 HB2 CG rz3
 go_wp2_with fail
 refine bodyPost_ret (v:= .agg #[.int .u64 M, .int .u64 (M - U'), .int .u64 G']) (by simp[results,Tryz.results245,go_sem,l3,x0,x1,x2]) rfl ?_
 rw[HR.out]
 exact ⟨rfl,by rw[HN.out];exact FIN.out _ _ _⟩
end Go.Proofs.YtdgdhnnakcncoaaGreatDoor
namespace Go.Proofs.YtdgdhnnakcncoaaGreatDoor
set_option maxHeartbeats 1600000
open Go.ChangeShapes Go.WideShapes Go.ChangeAt Go.RowKit Go.Proofs.Bt Go.Shelf Go.Proofs.Rx Go.Maps
set_option linter.unusedVariables false
set_option linter.unusedSimpArgs false
theorem keyU:Keyed Tryz.prog 39:=int_keyed Tryz.underlying39
def key (p:Nat):Lit:= .int .u64 (p:Int)
theorem key_of (p:Nat) (h:p<18446744073709551616):keyOf Tryz.prog 39 (.int .u64 (p:Int))=some (key p):=keyOf_int_mk Tryz.underlying39 (WalkArith.wf_u64 (by omega))
theorem key_inj {p q:Nat} (h:key p=key q):p=q:=by simp[key] at h;omega
theorem key_lit (p:Nat):WideAt.IsKeyLit (key p):=trivial
theorem nodup_len:∀(B:Nat) (l:List Nat),l.Nodup→(∀x∈l,x<B)→l.length≤B
 |0,l,_,h=>by
  cases l with
  |nil=>simp
  |cons a l=>have:=h a (by simp);omega
 |B+1,l,hn,h=>by
  by_cases hb:B∈l
  ·have e:=List.length_erase_of_mem hb
   have:=nodup_len B (l.erase B) (hn.erase B) (fun x hx=>by
    have h1:=h x (List.mem_of_mem_erase hx)
    have h2:x≠B:=fun z=>by rw[z] at hx;exact (hn.mem_erase_iff.1 hx).1 rfl
    omega)
   omega
  ·have:=nodup_len B l hn (fun x hx=>by
    have h1:=h x hx
    have h2:x≠B:=fun z=>hb (z▸hx)
    omega)
   omega
theorem mem_ins {H:Type} {x y:Lit×DataW H}:∀{l:List (Lit×DataW H)},x∈DataW.insert y l→x=y∨x∈l
 | [],h=>by simp[DataW.insert] at h;exact .inl h
 |z::r,h=>by
  unfold DataW.insert at h
  split at h
  ·rcases List.mem_cons.1 h with h|h
   ·exact .inl h
   ·exact .inr h
  ·rcases List.mem_cons.1 h with h|h
   ·exact .inr (by rw[h];exact List.mem_cons_self)
   ·rcases mem_ins h with h|h
    ·exact .inl h
    ·exact .inr (List.mem_cons_of_mem _ h)
def Keys (D:DataW Unit):Prop:=∀es,D= .map es→∀x∈es,∃p,p<67108864∧x.1=key p
def numOf:Lit→Nat
 | .int _ a=>a.toNat
 |_=>0
theorem numOf_key (p:Nat):numOf (key p)=p:=by simp[numOf,key]
theorem Keys.size {D:DataW Unit} (h:Keys D) (t:Tidy D):Maps.size D≤67108864:=by
 obtain ⟨es,rfl,hp⟩:=t
 have hk:=h es rfl
 rw[size_eq,←List.length_map (f:=fun x=>numOf x.1)]
 refine nodup_len _ _ ?_ ?_
 ·refine List.pairwise_map.2 (hp.imp_of_mem fun {x y} hx hy hne e=>hne ?_)
  obtain ⟨p,_,e1⟩:=hk x hx
  obtain ⟨q,_,e2⟩:=hk y hy
  rw[e1,e2,numOf_key,numOf_key] at e
  rw[e1,e2,e]
 ·intro n hn
  obtain ⟨x,hx,rfl⟩:=List.mem_map.1 hn
  obtain ⟨p,hp,e⟩:=hk x hx
  rw[e,numOf_key];exact hp
theorem Keys.put {D:DataW Unit} (h:Keys D) (m:IsMap D) {p:Nat} (hp:p<67108864) (d:DataW Unit):Keys (D.put (key p) d):=by
 obtain ⟨es,rfl⟩:=m
 rw[DataW.put_eq]
 intro es' e x hx
 injection e with e
 subst e
 rcases mem_ins hx with rfl|hx
 ·exact ⟨p,hp,rfl⟩
 ·exact h es rfl x (List.mem_filter.1 hx).1
theorem Keys.del {D:DataW Unit} (h:Keys D) (m:IsMap D) (k:Lit):Keys (D.del k):=by
 obtain ⟨es,rfl⟩:=m
 rw[DataW.del_eq]
 intro es' e x hx
 injection e with e
 subst e
 exact h es rfl x (List.mem_filter.1 hx).1
structure Enc (α:Type) where
 elem:Value→Option (DataW Unit×List MemPlace)
 dat:α→DataW Unit
 val:α→Value
 zd:DataW Unit
 zv:Value
 mke:∀a,elem (val a)=some (dat a,[])
 mkz:elem zv=some (zd,[])
 back:∀v a ps,elem v=some (dat a,ps)→v=val a
 backz:∀v ps,elem v=some (zd,ps)→v=zv
def valO {α:Type} (E:Enc α):Option α→Value
 |some a=>E.val a
 |none=>E.zv
def datO {α:Type} (E:Enc α):Option α→DataW Unit
 |some a=>E.dat a
 |none=>E.zd
theorem Enc.backO {α:Type} (E:Enc α) {v:Value} {o:Option α} {ps:List MemPlace} (h:E.elem v=some (datO E o,ps)):v=valO E o:=by
 cases o with
 |none=>exact E.backz v ps h
 |some a=>exact E.back v a ps h
def MapG {α:Type} (E:Enc α) (w:World) (b:Nat) (M:Nat→Option α):Prop:=
 ∃n D,w.ownsMap Tryz.prog 39 E.elem b n D∧n≤67108864∧Keys D∧∀p,p<18446744073709551616→has D (key p)=(M p).isSome∧D.atKey (key p) E.zd=datO E (M p)
section
variable {α:Type} {E:Enc α} {w w':World} {b:Nat} {M:Nat→Option α}
theorem MapG.lt (h:MapG E w b M):b<w.heap.size:=by obtain ⟨n,D,h,_⟩:=h;exact h.lt
theorem MapG.kept (h:MapG E w b M) (hb:w'.heap[b]? =w.heap[b]?):MapG E w' b M:=by
 obtain ⟨n,D,⟨es,clock,h1,h2⟩,r⟩:=h
 exact ⟨n,D,⟨es,clock,hb.trans h1,h2⟩,r⟩
theorem MapG.below (h:MapG E w b M) (k:Below w.heap.size w w'):MapG E w' b M:=h.kept (k.block b h.lt)
theorem MapG.made (E:Enc α) (w:World):MapG E (w.alloc (.map #[] 0)) w.heap.size (fun _=>none):=
 ⟨0,_,World.ownsMap_made w Tryz.prog 39 E.elem,by decide,(fun es e x hx=>by injection e with e;subst e;cases hx),fun _ _=>⟨rfl,rfl⟩⟩
theorem MapG.looks {t e:TypeId} (h:MapG E w b M) (ht:Tryz.prog.underlying t=some (.map 39 e)) (hz:(zeroValue e).run Tryz.prog w= .ok E.zv w) (p:Nat) (hp:p<18446744073709551616):
 (Instr.lookup t (.map (some b)) (.int .u64 (p:Int)) true).run Tryz.prog w= .ok (.tuple #[valO E (M p), .bool (M p).isSome]) w:=by
 obtain ⟨n,D,hD,_,_,hM⟩:=h
 obtain ⟨v,ps,hrun,hv⟩:=hD.look_ok keyU ht hz (zd:=E.zd) (zp:=[]) E.mkz (key_of p hp)
 rw[(hM p hp).2] at hv
 rw[hrun,E.backO hv,(hM p hp).1]
theorem MapG.look {t e:TypeId} (h:MapG E w b M) (ht:Tryz.prog.underlying t=some (.map 39 e)) (hz:(zeroValue e).run Tryz.prog w= .ok E.zv w) (p:Nat) (hp:p<18446744073709551616):
 (Instr.lookup t (.map (some b)) (.int .u64 (p:Int)) false).run Tryz.prog w= .ok (valO E (M p)) w:=by
 obtain ⟨n,D,hD,_,_,hM⟩:=h
 obtain ⟨v,ps,hrun,hv⟩:=hD.lookup keyU ht hz (zd:=E.zd) (zp:=[]) E.mkz (key_of p hp)
 rw[(hM p hp).2] at hv
 rw[hrun,E.backO hv]
theorem MapG.put {t e:TypeId} (h:MapG E w b M) (ht:Tryz.prog.underlying t=some (.map 39 e)) (p:Nat) (hp:p<67108864) (x:α):
 ∃w',(Instr.mapUpdate t (.map (some b)) (.int .u64 (p:Int)) (E.val x)).run Tryz.prog w= .ok () w'∧MapG E w' b (fun q=>if q=p then some x else M q)∧w.grownBy w' (some b):=by
 obtain ⟨n,D,hD,hn,hk,hM⟩:=h
 obtain ⟨w',hrun,h1,h2⟩:=hD.update keyU ht (by unfold maxLen;omega) (key_of p (by omega)) (val:=E.val x) (d:=E.dat x) (ps:=[]) (E.mke x)
 have hk':=hk.put hD.isMap hp (E.dat x)
 have hs:=hk'.size (h1.tidy keyU)
 refine ⟨w',hrun,⟨Maps.size (D.put (key p) (E.dat x)),_,?_,hs,hk',fun q hq=> ?_⟩,h2⟩
 ·obtain ⟨es,clock,e1,e2,e3,e4⟩:=h1
  refine ⟨es,clock,e1,e2,?_,e4⟩
  rw[e4,size_eq,length_sorted]
  simp
 ·by_cases c:q=p
  ·subst c
   simp only[if_true]
   exact ⟨has_put_same hD.isMap (key_lit _) _,atKey_put_same hD.isMap (key_lit _) _ _⟩
  ·simp only[if_neg c]
   have hne:key q≠key p:=fun z=>c (key_inj z)
   exact ⟨(has_put_other hne _).trans (hM q hq).1,(atKey_put_other hne _ _).trans (hM q hq).2⟩
theorem MapG.del {t e:TypeId} (h:MapG E w b M) (ht:Tryz.prog.underlying t=some (.map 39 e)) (ty:TypeId) (p:Nat) (hp:p<18446744073709551616):
 ∃w',(Builtin.delete_ #[t,39] ty #[.map (some b), .int .u64 (p:Int)]).run Tryz.prog w= .ok (.tuple #[]) w'∧MapG E w' b (fun q=>if q=p then none else M q)∧w.grownBy w' (some b):=by
 obtain ⟨n,D,hD,hn,hk,hM⟩:=h
 obtain ⟨w',hrun,h1,h2⟩:=hD.drop keyU ht (key_of p hp) ty
 refine ⟨w',hrun,⟨n,_,h1,hn,hk.del hD.isMap _,fun q hq=> ?_⟩,h2.grown⟩
 by_cases c:q=p
 ·subst c
  simp only[if_true]
  exact ⟨has_del_same,atKey_del_same _⟩
 ·simp only[if_neg c]
  have hne:key q≠key p:=fun z=>c (key_inj z)
  exact ⟨(has_del_other hne).trans (hM q hq).1,(atKey_del_other hne _).trans (hM q hq).2⟩
end
def rowElem:Value→Option (DataW Unit×List MemPlace)
 | .agg xs=>match xs.toList with
  | [.int .u64 a, .int .u64 b, .int .u64 c, .int .i64 d, .int .i64 e, .int .i64 f, .int .i64 g]=>some (.agg [.lit (.int .u64 a), .lit (.int .u64 b), .lit (.int .u64 c), .lit (.int .i64 d), .lit (.int .i64 e), .lit (.int .i64 f), .lit (.int .i64 g)],[])
  |_=>none
 |_=>none
def rowDat (r:Rw):DataW Unit:= .agg [.lit (.int .u64 (r.t.p:Nat)), .lit (.int .u64 (r.t.f:Nat)), .lit (.int .u64 (r.t.r:Nat)), .lit (.int .i64 (r.s:Nat)), .lit (.int .i64 (r.m:Nat)), .lit (.int .i64 (r.e:Nat)), .lit (.int .i64 (r.rest:Nat))]
def zeroRw:Rw:=⟨⟨0,0,0⟩,0,0,0,0⟩
theorem row_back (v:Value) (r:Rw) (ps:List MemPlace) (h:rowElem v=some (rowDat r,ps)):v=rwV r:=by
 unfold rowElem at h
 split at h
 ·rename_i xs
  split at h
  ·rename_i a b c d e f g hx
   have e1:xs=#[.int .u64 a, .int .u64 b, .int .u64 c, .int .i64 d, .int .i64 e, .int .i64 f, .int .i64 g]:=by
    rw[←Array.toList_inj];exact hx
   simp[rowDat] at h
   obtain ⟨⟨h1,h2,h3,h4,h5,h6,h7⟩,_⟩:=h
   rw[e1]
   unfold rwV
   rw[h1,h2,h3,h4,h5,h6,h7]
  ·cases h
 ·cases h
def encR:Enc Rw:=⟨rowElem,rowDat,rwV,rowDat zeroRw,rwV zeroRw,fun _=>rfl,rfl,row_back,fun v ps h=>row_back v zeroRw ps h⟩
def ptrElem:Value→Option (DataW Unit×List MemPlace)
 | .pointer none=>some (.lit (.int .u64 0),[])
 | .pointer (some ⟨b,0,none⟩)=>some (.lit (.int .u64 ((b:Int)+1)),[])
 |_=>none
def ptrDat (b:Nat):DataW Unit:= .lit (.int .u64 ((b:Int)+1))
theorem ptr_back (v:Value) (a:Nat) (ps:List MemPlace) (h:ptrElem v=some (ptrDat a,ps)):v= .pointer (some ⟨a,0,none⟩):=by
 unfold ptrElem at h
 split at h
 ·simp[ptrDat] at h;omega
 ·rename_i b
  simp[ptrDat] at h
  have:b=a:=by omega
  rw[this]
 ·cases h
theorem ptr_backz (v:Value) (ps:List MemPlace) (h:ptrElem v=some (.lit (.int .u64 0),ps)):v= .pointer none:=by
 unfold ptrElem at h
 split at h
 ·rfl
 ·rename_i b
  simp at h
  omega
 ·cases h
def encC:Enc Nat:=⟨ptrElem,ptrDat,fun b=> .pointer (some ⟨b,0,none⟩), .lit (.int .u64 0), .pointer none,fun _=>rfl,rfl,ptr_back,ptr_backz⟩
theorem zeroR (w:World):(zeroValue 221).run Tryz.prog w= .ok (rwV zeroRw) w:=by kernel_rfl
theorem zeroC (w:World):(zeroValue 292).run Tryz.prog w= .ok (.pointer none) w:=by kernel_rfl
theorem tyL:Tryz.prog.underlying 178=some (.map 39 221):=by kernel_rfl
theorem tyC:Tryz.prog.underlying 173=some (.map 39 292):=by kernel_rfl
end Go.Proofs.YtdgdhnnakcncoaaGreatDoor
