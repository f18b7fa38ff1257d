/- Of the proof of HeapClasses: texts ASe. -/
import Derived.Test.YtdgdhnnakcncoaaGreatDoorJ14
import Derived.Test.YtdgdhnnakcncoaaGreatDoorJ39
namespace Go.Proofs.YtdgdhnnakcncoaaGreatDoor.A
set_option maxHeartbeats 1600000
open Go.ChangeShapes Go.WideShapes Go.ChangeAt Go.RowKit Go.Shelf Go.Proofs.Rx Go.Maps
set_option linter.unusedVariables false
set_option linter.unusedSimpArgs false
attribute [local go_sem] Oper.semAt_some
theorem putI_two {V:Nat→Int} {p a b:Nat} {x:Int} (h1:p≤a) (h2:a≤b):putI (putI V p a x) a b x=putI V p b x:=by
 funext k
 unfold putI
 by_cases c:a≤k∧k<b
 ·rw[if_pos c,if_pos (by omega)]
 ·rw[if_neg c]
  by_cases d:p≤k∧k<a
  ·rw[if_pos d,if_pos (by omega)]
  ·rw[if_neg d,if_neg (by omega)]
theorem ArAt.setc {W W8 W9:World} {mb kb:Nat} {G:Nat→Option (Int×Option Nat)} {C:Nat→Bool} {V:Nat→Int} (h:ArAt W mb kb G C V) {c:Nat} {o o':Int×Option Nat} (ho:G c=some o) {f e:Nat} {x:Int} (he:e≤512) (fe:f<e)
 (ow:OwAt W8 o' (putI (fun k=>V (512 * c+k)) f e x)) (ot:OwTo W o o') (k8:Kept (fun y=>o.2=some y) W W8) (m9:MapG encO W9 kb (fun q=>if q=c then some o' else G q)) (g9:W8.grownBy W9 (some kb)):
 ArAt W9 mb kb (fun q=>if q=c then some o' else G q) C (putI V (512 * c+f) (512 * c+e) x):=by
 have k9:Kept (fun y=>y=kb) W8 W9:=Kept.of_grown g9 (fun k e=>(Option.some.inj e).symm)
 have kl:=h.map.lt
 have ml:=box_lt h.top
 have nb:∀b,o'.2=some b→b≠mb∧b≠kb:=fun b hb=>by
  rcases ot with z|z|⟨b',z,hl⟩
  ·rw[z] at hb;cases hb
  ·exact h.far c o b ho (z▸hb)
  ·rw[z] at hb;cases hb;omega
 have oth:∀p r b,p≠c→G p=some r→r.2=some b→o.2≠some b:=fun p r b hp hr hb z=>hp (h.inj p c r o b hr ho hb z)
 have cC:C c=true:=by rw[←h.has c,ho];rfl
 refine ⟨?_,m9,fun p=> ?_,h.lim,fun q hq=> ?_,fun p r hr=> ?_,fun p q r s b h1 h2 h3 h4=> ?_,fun p r b h1 h2=> ?_,h.two⟩
 ·exact boxed_kept (boxed_kept h.top k8 (fun z=>(h.far c o mb ho z).1 rfl)) k9 h.two
 ·split
  ·rename_i z;rw[z,cC];rfl
  ·exact h.has p
 ·unfold putI
  rw[if_neg]
  ·exact h.out q hq
  ·intro z
   rw[show q/512=c by omega,cC] at hq
   cases hq
 ·split at hr
  ·rename_i z
   cases hr
   rw[z]
   refine (ow.block (fun b hb=>k9.block b (ow.lt hb) (nb b hb).2)).congr (fun k hk=> ?_)
   unfold putI
   by_cases d:f≤k∧k<e
   ·rw[if_pos d,if_pos (by omega)]
   ·rw[if_neg d,if_neg (by omega)]
  ·rename_i z
   have o1:=h.own p r hr
   refine OwAt.congr (o1.block (fun b hb=> ?_)) (fun k hk=> ?_)
   ·have l1:=o1.lt hb
    rw[k9.block b (Nat.lt_of_lt_of_le l1 k8.size) (h.far p r b hr hb).2]
    exact k8.block b l1 (oth p r b z hr hb)
   ·unfold putI
    rw[if_neg (by omega)]
 ·have key:∀p r,p≠c→G p=some r→r.2=some b→o'.2≠some b:=fun p r hp hr hb z=>by
   have l1:=(h.own p r hr).lt hb
   rcases ot with y|y|⟨b',y,hl⟩
   ·rw[y] at z;cases z
   ·exact oth p r b hp hr hb (y▸z)
   ·rw[y] at z;cases z;omega
  split at h1
  ·rename_i z1
   split at h2
   ·rename_i z2;rw[z1,z2]
   ·rename_i z2;cases h1;exact absurd h3 (key q s z2 h2 h4)
  ·rename_i z1
   split at h2
   ·cases h2;exact absurd h4 (key p r z1 h1 h3)
   ·exact h.inj p q r s b h1 h2 h3 h4
 ·split at h1
  ·cases h1;exact nb b h2
  ·exact h.far p r b h1 h2
structure SI (N S:Nat) (w:World) (mb:Nat) (Φ:Nat→Prop) (C:Nat→Bool) (V:Nat→Int) (p n:Nat) (id:Int) (j:Nat) (W:World):Prop where
 bm:Boxed W N 116 (.pointer (some ⟨mb,0,none⟩))
 bi:Boxed W (N+1) 3 (.int .i64 id)
 rd:RdP S (S+1) p n W
 ar:∃Ψ:Nat→Prop,Ar W mb Ψ C (putI V p (stp p (p+n) j) id)∧∀b,Ψ b→Φ b∨S+4≤b
 be:Kept Φ w W
theorem SI.kept {F:Nat→Prop} {N S:Nat} {w:World} {mb:Nat} {Φ:Nat→Prop} {C:Nat→Bool} {V:Nat→Int} {p n:Nat} {id:Int} {j:Nat} {W W':World} (h:SI N S w mb Φ C V p n id j W) (k:Kept F W W') (hF:∀x,F x→x=S+2∨x=S+3) (hN:w.heap.size=N) (hS:N+2≤S) (hP:∀b,Φ b→b<N):SI N S w mb Φ C V p n id j W':=by
 obtain ⟨Ψ,a,hΨ⟩:=h.ar
 refine ⟨boxed_kept h.bm k (fun x=>by have:=hF _ x;omega),boxed_kept h.bi k (fun x=>by have:=hF _ x;omega),⟨boxed_kept h.rd.c0 k (fun x=>by have:=hF _ x;omega),boxed_kept h.rd.c1 k (fun x=>by have:=hF _ x;omega)⟩,
  ⟨Ψ,a.kept k (fun b hb x=> ?_),hΨ⟩,h.be.trans k (fun b hb x=>by have:=hF _ x;omega)⟩
 have:=hF _ x
 rcases hΨ b hb with z|z
 ·have:=hP b z;omega
 ·omega
set_option maxRecDepth 100000 in
set_option maxHeartbeats 2000000 in
theorem set_ok {w:World} {mb:Nat} {Φ:Nat→Prop} {C:Nat→Bool} {V:Nat→Int} (h:Ar w mb Φ C V) (p n:Nat) (id:Int) (hn:n≠0) (hid:0≤id) (hA:AllIn C p n):
 Calls Tryz.prog 87 #[.pointer (some ⟨mb,0,none⟩), .int .u64 (p:Nat), .int .u64 (n:Nat), .int .i64 id] w fun e w'=>e= .returned (.int .i64 0)∧ArTo w w' mb Φ C (putI V p (p+n) id):=by
 obtain ⟨N,hN⟩:∃N,w.heap.size=N:=⟨_,rfl⟩
 obtain ⟨m,hm1,hm2⟩:=stp_end (p:=p) (E:=p+n) (by omega)
 have H:=hide h
 have HP:=hide (show ∀x,Φ x→x<N from fun x hx=>by rw[←hN];exact h.lt x hx)
 have CP:=hide (parts_any p n)
 have CA:=hide (show ∀W,Below w.heap.size w W→Calls Tryz.prog 138 #[.pointer (some ⟨mb,0,none⟩), .int .u64 (p:Nat), .int .u64 (n:Nat)] W fun e w'=>e= .returned (.bool true)∧Below W.heap.size W w' from fun W hW=>hasAll_any (h.below hW) p n true ⟨fun _=>hA,fun _=>rfl⟩)
 have HA:=hide hA
 have HM:=hide (And.intro hm1 hm2)
 have d1:((n:Int)==0)=false:=by simp[hn]
 have d2:decide (id<0)=false:=decide_eq_false (by omega)
 obtain ⟨P,hP⟩:∃P:Int,(p:Int)=P:=⟨_,rfl⟩
 obtain ⟨M,hM⟩:∃M:Int,(n:Int)=M:=⟨_,rfl⟩
 rw[hP] at CP CA ⊢
 rw[hM] at d1 CP CA ⊢
 have HPM:=hide (And.intro hP hM)
 clear h hm1 hm2 hP hM hn hid hA
 refine (callsIn_wide (n:=3)).1 ?_
 refine callsIn_of_wp_marks Tryz.func87 rfl trivial ?_ rfl
 simp only[Tryz.ntmps87,List.size_toArray,List.length_cons,List.length_nil,Nat.reduceAdd,Nat.reduceSub,Array.replicate_succ,Array.replicate_zero,List.push_toArray,List.append_toArray,List.nil_append,List.cons_append]
 gi_wp2_with fail
 obtain ⟨X,hX⟩:∃X,(w.alloc (.cells #[.pointer (some ⟨mb,0,none⟩)] 116)).alloc (.cells #[.int .i64 id] 3)=X:=⟨_,rfl⟩
 have bX:Below N w X:=by rw[←hX,←hN];exact ((Below.refl _ w).alloc (Nat.le_refl _) _).alloc (by simp) _
 have x0:Boxed X N 116 (.pointer (some ⟨mb,0,none⟩)):=by
  rw[←hX,←hN]
  exact (Boxed.new w 116 (.pointer (some ⟨mb,0,none⟩))).alloc _
 have x1:Boxed X (N+1) 3 (.int .i64 id):=by
  have:=Boxed.new (w.alloc (.cells #[.pointer (some ⟨mb,0,none⟩)] 116)) 3 (.int .i64 id)
  rw[World.size_alloc,hN,hX] at this
  exact this
 rw[hX]
 have CA2:=hide (CA.out X (by rw[hN];exact bX))
 have X0:=hide x0
 have X1:=hide x1
 have BX:=hide bX
 clear hX CA x0 x1 bX
 refine wcall2 CA2.out ?_
 rintro e X2 ⟨rfl,b2⟩
 clear CA2
 have B2:=hide b2
 clear b2
 gi_wp2_with fail
 refine wcall2 (CP.out _) ?_
 rintro e X3 ⟨rfl,h3⟩
 obtain ⟨S,hS⟩:∃S,X2.heap.size=S:=⟨_,rfl⟩
 rw[hS]
 have sS:N+2≤S:=by
  have:=box_lt X1.out
  have:=B2.out.size
  omega
 have s3:X3.heap.size=S+2:=by rw[h3];simp[hS]
 have b3:Below S X2 X3:=by rw[h3,←hS];exact ((Below.refl _ _).alloc (Nat.le_refl _) _).alloc (by simp) _
 have SEQ:=hide (parts_seq S (S+1) p n m (by have:=HA.out.2.1;omega) HM.out.1 HM.out.2 2)
 have F0:=hide (show SI N S w mb Φ C V p n id 0 X3 from by
  have k2:Kept (fun _=>False) X X3:=(Kept.of_below B2.out).trans (Kept.of_below (by rw[hS];exact b3)) (fun _ _ f=>f)
  have kw:Below w.heap.size w X3:=by
   rw[hN]
   exact (BX.out.trans (B2.out.mono (by have:=box_lt X0.out;omega))).trans (b3.mono (by omega))
  refine ⟨boxed_kept X0.out k2 (fun f=>f),boxed_kept X1.out k2 (fun f=>f),⟨?_,?_⟩,⟨Φ,?_,fun b hb=> .inl hb⟩,Kept.of_below kw⟩
  ·rw[h3,HPM.out.1,←hS]
   exact (Boxed.new X2 39 (.int .u64 P)).alloc _
  ·have:=Boxed.new (X2.alloc (.cells #[.int .u64 P] 39)) 39 (.int .u64 M)
   rw[World.size_alloc,hS,←h3] at this
   rw[HPM.out.2];exact this
  ·show Ar X3 mb Φ C (putI V p p id)
   rw[putI_zero]
   exact H.out.below kw)
 clear h3 b3 hS CP
 gi_wp2_with fail
 refine range_two (w:=X3) rfl (enters_of Tryz.func192 (by kernel_rfl) rfl) SEQ.out (fun _=>rfl) (fun pre A=>SI N S w mb Φ C V p n id pre.length A) (fun s A h=>h.rd) ?hI F0.out ?round ?done
 case hI=>
  intro s A A' h k
  rw[s3] at k
  exact h.kept k (fun x hx=>by omega) hN sS HP.out
 case round=>
  rintro pre x A ⟨r0,hr0⟩ hdf h hp
  obtain ⟨-,e2,e3⟩:=pre_range hp
  subst e2
  rw[s3] at hr0 hdf ⊢
  have a1:=HM.out.2 _ e3
  obtain ⟨a,ha⟩:∃a,stp p (p+n) pre.length=a:=⟨_,rfl⟩
  have HA1:=hide ha
  have H1:=hide h
  have HR0:=hide hr0
  have HDF:=hide hdf
  rw[ha] at a1
  simp only[encsP,ha]
  clear h hr0 hdf hp ha
  gi_wp2_with fail
  have lA:S+2+1<A.heap.size:=(Array.getElem?_eq_some_iff.1 HR0.out).1
  refine ⟨Two.kept (Kept.of_below (F:=fun _=>False) (below_alloc A _)) (fun f=>f) (fun f=>f),fun r=> ?_⟩
  have hpn:=HA.out
  have c1:a/512<67108864:=by have:=hpn.2.1;omega
  have cC:C (a/512)=true:=hpn.2.2 a (by have:=stp_ge (p:=p) (E:=p+n) pre.length;rw[HA1.out] at this;exact this) a1
  have g1:=nxt_gt a1
  have g2:nxt (p+n) a - a≤512 - a%512:=by unfold nxt;omega
  obtain ⟨PB,hPB⟩:∃PB,A.heap.size=PB:=⟨_,rfl⟩
  obtain ⟨f,hf⟩:∃f:Nat,a%512=f:=⟨_,rfl⟩
  obtain ⟨e,he⟩:∃e:Nat,a%512+(nxt (p+n) a - a)=e:=⟨_,rfl⟩
  have fe:f<e:=by omega
  have e5:e≤512:=by omega
  rw[show (a:Int)%512=(f:Int) by omega,show (f:Int)+((nxt (p+n) a - a:Nat):Int)=(e:Int) by omega]
  obtain ⟨c,hc⟩:∃c:Nat,a/512=c:=⟨_,rfl⟩
  rw[show (a:Int)/512=(c:Int) by omega]
  rw[hc] at c1 cC
  obtain ⟨W2,hW2⟩:∃W2,(A.alloc (.cells #[.int .u64 (f:Nat), .int .u64 (e:Nat)] 232)).putObj (S+2+1) (.loop r)=W2:=⟨_,rfl⟩
  have kb0:Kept (fun x=>x=S+3) A W2:=by
   rw[←hW2]
   exact (Kept.of_below (below_alloc A _)).trans (Kept.put (F:=fun x=>x=S+3) _ (S+2+1) _ rfl) (fun _ _ h=>h)
  have pb:Bk W2 PB 232 #[.int .u64 (f:Nat), .int .u64 (e:Nat)]:=by
   have b0:Bk (A.alloc (.cells #[.int .u64 (f:Nat), .int .u64 (e:Nat)] 232)) PB 232 #[.int .u64 (f:Nat), .int .u64 (e:Nat)]:=by rw[←hPB];exact World.alloc_heap_new A _
   rw[←hW2]
   exact b0.kept (Kept.put (F:=fun x=>x=S+3) _ (S+2+1) _ rfl) (by omega)
  have H2:=hide (H1.out.kept kb0 (fun x hx=>by omega) hN sS HP.out)
  have s2:=kb0.size
  rw[hW2,hPB]
  obtain ⟨Ψ,aΨ0,hΨ⟩:=H1.out.ar
  have aΨ:=aΨ0.kept kb0 (fun b hb z=>by
   rcases hΨ b hb with y|y
   ·have:=HP.out b y;omega
   ·omega)
  obtain ⟨kb,G,ga,gp⟩:=aΨ.ex
  obtain ⟨o,ho⟩:∃o,G c=some o:=by
   have:=ga.has c
   rw[cC] at this
   exact Option.isSome_iff_exists.1 this
  have ow:=ga.own c o ho
  have LK:=ga.map.look tyO (zeroO W2) c (by omega)
  rw[ho] at LK
  obtain ⟨xa,xp,ex⟩:=owV_open o
  rw[show valO encO (some o)=owV o from rfl,ex] at LK
  have CS:=hide (fun (Y:World) (hY:Below W2.heap.size W2 Y)=>set_any (w:=Y) o _ (ow.block (fun b hb=>hY.block b (ow.lt hb))) id f e fe e5)
  rw[ex] at CS
  have c0:=H2.out.bm.cell
  have c2:=H2.out.bi.cell
  have c3:=pb.cell 0 _ rfl
  have c4:=pb.cell 1 _ rfl
  have c5:=ga.top.cell
  have GA:=hide ga
  have GP:=hide gp
  have HΨ:=hide hΨ
  have HO:=hide ho
  have AΨ:=hide aΨ
  have HFE:=hide (And.intro hf (And.intro he hc))
  have PBK:=hide pb
  have HEX:=hide ex
  have HKB:=hide (show N≠kb∧N+1≠kb∧PB≠kb∧mb≠kb from by
   have f1:=hΨ kb (gp kb (.inr (.inl rfl)))
   have f2:=aΨ0.lt kb (gp kb (.inr (.inl rfl)))
   have f3:=ga.two
   rcases f1 with f1|f1
   ·have:=HP.out kb f1;omega
   ·omega)
  have HPBo:=hide (show ∀y,o.2=some y→y≠PB from fun y hy z=>by
   have:=aΨ0.lt y (gp y (.inr (.inr ⟨c,o,ho,hy⟩)))
   omega)
  clear hpn ga gp hΨ ho ow aΨ aΨ0 hf he hc kb0 pb hW2 ex a1 cC g1 g2
  gi_wp2_with fail
  refine held_r (fun Y=>Y.cell? ⟨N,0,none⟩=some (.pointer (some ⟨mb,0,none⟩))∧Y.cell? ⟨N+1,0,none⟩=some (.int .i64 id)∧Y.cell? ⟨PB,0,none⟩=some (.int .u64 (f:Nat))∧Y.cell? ⟨PB,1,none⟩=some (.int .u64 (e:Nat))∧Y.cell? ⟨mb,0,none⟩=some (.map (some kb))) (by kernel_rfl) (by kernel_rfl) ⟨c0,c2,c3,c4,c5⟩ (fun hHeld=> ?_)
  refine wpAnyH_take (i:=0) (oi:=_) (v:= ?_) rfl (by kernel_rfl) (by kernel_rfl) (by kernel_rfl) (fun _ _ _ h=>h) (Or.inl ⟨by rfl,?_⟩) (by assumption) ?_
  rotate_left
  ·(intro Y hSw;obtain ⟨y0,y1,y2,y3,y4⟩:=hSw;go_simp;try with_reducible rfl)
  try simp only[Act.put,List.setIfInBounds_toArray,List.set_cons_zero,List.set_cons_succ]
  refine wpAnyH_take (i:=1) (oi:=_) (v:= ?_) rfl (by kernel_rfl) (by kernel_rfl) (by kernel_rfl) (fun _ _ _ h=>h) (Or.inl ⟨by rfl,?_⟩) (by assumption) ?_
  rotate_left
  ·(intro Y hSw;obtain ⟨y0,y1,y2,y3,y4⟩:=hSw;go_simp;try with_reducible rfl)
  try simp only[Act.put,List.setIfInBounds_toArray,List.set_cons_zero,List.set_cons_succ]
  refine wpAnyH_take (i:=2) (oi:=_) (v:= ?_) rfl (by kernel_rfl) (by kernel_rfl) (by kernel_rfl) (fun _ _ _ h=>h) (Or.inl ⟨by rfl,?_⟩) (by assumption) ?_
  rotate_left
  ·(intro Y hSw;obtain ⟨y0,y1,y2,y3,y4⟩:=hSw;go_simp;try with_reducible rfl)
  try simp only[Act.put,List.setIfInBounds_toArray,List.set_cons_zero,List.set_cons_succ]
  refine wpAnyH_take (i:=3) (oi:=_) (v:= ?_) rfl (by kernel_rfl) (by kernel_rfl) (by kernel_rfl) (fun _ _ _ h=>h) (Or.inl ⟨by rfl,?_⟩) (by assumption) ?_
  rotate_left
  ·(intro Y hSw;obtain ⟨y0,y1,y2,y3,y4⟩:=hSw;go_simp;try with_reducible rfl)
  try simp only[Act.put,List.setIfInBounds_toArray,List.set_cons_zero,List.set_cons_succ]
  refine wpAnyH_take (i:=4) (oi:=_) (v:= ?_) rfl (by kernel_rfl) (by kernel_rfl) (by kernel_rfl) (fun _ _ _ h=>h) (Or.inl ⟨by rfl,?_⟩) (by assumption) ?_
  rotate_left
  ·(intro Y hSw;obtain ⟨y0,y1,y2,y3,y4⟩:=hSw;go_simp;try with_reducible rfl)
  try simp only[Act.put,List.setIfInBounds_toArray,List.set_cons_zero,List.set_cons_succ]
  refine wpAnyH_take (i:=5) (oi:=_) (v:= ?_) rfl (by kernel_rfl) (by kernel_rfl) (by kernel_rfl) (fun _ _ _ h=>h) (Or.inl ⟨by rfl,?_⟩) (by assumption) ?_
  rotate_left
  ·(intro Y hSw;obtain ⟨y0,y1,y2,y3,y4⟩:=hSw;go_simp;try with_reducible rfl)
  try simp only[Act.put,List.setIfInBounds_toArray,List.set_cons_zero,List.set_cons_succ]
  refine wpAnyH_take (i:=6) (oi:=_) (v:= ?_) rfl (by kernel_rfl) (by kernel_rfl) (by kernel_rfl) (fun _ _ _ h=>h) (Or.inl ⟨by rfl,?_⟩) (by assumption) ?_
  rotate_left
  ·(intro Y hSw;obtain ⟨y0,y1,y2,y3,y4⟩:=hSw;go_simp;try with_reducible rfl)
  try simp only[Act.put,List.setIfInBounds_toArray,List.set_cons_zero,List.set_cons_succ]
  refine wpAnyH_take (i:=7) (oi:=_) (v:= ?_) rfl (by kernel_rfl) (by kernel_rfl) (by kernel_rfl) (fun _ _ _ h=>h) (Or.inl ⟨by rfl,?_⟩) (by assumption) ?_
  rotate_left
  ·(intro Y hSw;obtain ⟨y0,y1,y2,y3,y4⟩:=hSw;go_simp;try with_reducible rfl)
  try simp only[Act.put,List.setIfInBounds_toArray,List.set_cons_zero,List.set_cons_succ]
  refine wpAnyH_take (i:=8) (oi:=_) (v:= ?_) rfl (by kernel_rfl) (by kernel_rfl) (by kernel_rfl) (fun _ _ _ h=>h) (Or.inl ⟨by rfl,?_⟩) (by assumption) ?_
  rotate_left
  ·(intro Y hSw;obtain ⟨y0,y1,y2,y3,y4⟩:=hSw;go_simp;try with_reducible rfl)
  try simp only[Act.put,List.setIfInBounds_toArray,List.set_cons_zero,List.set_cons_succ]
  refine wpAnyH_take (i:=9) (oi:=_) (v:= ?_) rfl (by kernel_rfl) (by kernel_rfl) (by kernel_rfl) (fun _ _ _ h=>h) (Or.inl ⟨by rfl,?_⟩) (by assumption) ?_
  rotate_left
  ·(intro Y hSw;obtain ⟨y0,y1,y2,y3,y4⟩:=hSw;go_simp;try with_reducible rfl)
  try simp only[Act.put,List.setIfInBounds_toArray,List.set_cons_zero,List.set_cons_succ]
  refine wpAnyH_take (i:=11) (oi:=_) (v:= ?_) rfl (by kernel_rfl) (by kernel_rfl) (by kernel_rfl) (fun _ _ _ h=>h) (Or.inl ⟨by rfl,?_⟩) (by assumption) ?_
  rotate_left
  ·(intro Y hSw;obtain ⟨y0,y1,y2,y3,y4⟩:=hSw;go_simp;try with_reducible rfl)
  try simp only[Act.put,List.setIfInBounds_toArray,List.set_cons_zero,List.set_cons_succ]
  refine wpAnyH_take (i:=12) (oi:=_) (v:= ?_) rfl (by kernel_rfl) (by kernel_rfl) (by kernel_rfl) (fun _ _ _ h=>h) (Or.inl ⟨by rfl,?_⟩) (by assumption) ?_
  rotate_left
  ·(intro Y hSw;obtain ⟨y0,y1,y2,y3,y4⟩:=hSw;go_simp;try with_reducible rfl)
  try simp only[Act.put,List.setIfInBounds_toArray,List.set_cons_zero,List.set_cons_succ]
  refine wpAnyH_ready (rs:=[10]) (by kernel_rfl) (by simp) ?_
  refine AllReadyH.cons (o:=⟨some 37,_,_,_,_,_⟩) rfl (fun K hK=> ?_) AllReadyH.nil
  have LK2:(Instr.lookup 179 (.map (some kb)) (.int .u64 (c:Nat)) false).run Tryz.prog W2.drew= .ok (.agg #[.int .i64 xa, .pointer xp]) W2.drew:=by
   have:=(GA.out.map.kept (w':=W2.drew) rfl).look tyO (zeroO W2.drew) c (by omega)
   rw[HO.out,show valO encO (some o)=owV o from rfl,HEX.out] at this
   exact this
  go_simp
  refine hK.out _ _ ⟨c0,c2,c3,c4,c5⟩ (fun hHeld=> ?_)
  clear hK K LK LK2
  try simp only[Act.put,List.setIfInBounds_toArray,List.set_cons_zero,List.set_cons_succ]
  refine wpAnyH_ready (rs:=[13]) (by kernel_rfl) (by simp) ?_
  refine AllReadyH.cons (o:=⟨some 40,_,_,_,_,_⟩) rfl (fun K hK=> ?_) AllReadyH.nil
  go_simp
  refine (CS.out _ (drew_below W2)).mono ?_
  rintro er X8 ⟨o',rfl,ow8,to8,k8⟩
  have k8':Kept (fun y=>o.2=some y) W2 X8:=(Kept.of_below (drew_below W2)).trans k8 (fun _ _ h=>h)
  have nN:∀y,y=N∨y=N+1∨y=PB∨y=mb∨y=kb→o.2≠some y:=fun y hy z=>by
   have f1:=GA.out.far c o y HO.out z
   have f2:=HΨ.out y (GP.out y (.inr (.inr ⟨c,o,HO.out,z⟩)))
   have f3:=(GA.out.own c o HO.out).lt z
   rcases hy with hy|hy|hy|hy|hy
   ·rcases f2 with f2|f2
    ·have:=HP.out y f2;omega
    ·omega
   ·rcases f2 with f2|f2
    ·have:=HP.out y f2;omega
    ·omega
   ·exact HPBo.out y z hy
   ·exact f1.1 hy
   ·exact f1.2 hy
  have e0:=(boxed_kept H2.out.bm k8' (nN N (.inl rfl))).cell
  have e2:=(boxed_kept H2.out.bi k8' (nN _ (.inr (.inl rfl)))).cell
  have p8:=PBK.out.kept k8' (nN _ (.inr (.inr (.inl rfl))))
  have e3:=p8.cell 0 _ rfl
  have e4:=p8.cell 1 _ rfl
  have t8:=boxed_kept GA.out.top k8' (nN _ (.inr (.inr (.inr (.inl rfl)))))
  have e5':=t8.cell
  refine hK.out _ _ ⟨e0,e2,e3,e4,e5'⟩ (fun hHeld=> ?_)
  have m8:=GA.out.map.kept (k8'.block kb GA.out.map.lt (nN _ (.inr (.inr (.inr (.inr rfl))))))
  obtain ⟨X9,r9,m9,g9⟩:=m8.put tyO c c1 o'
  rw[show encO.val o'=owV o' from rfl] at r9
  obtain ⟨ya,yp,ey⟩:=owV_open o'
  rw[ey] at r9 ⊢
  have a9:=GA.out.setc HO.out e5 fe ow8 to8 k8' m9 g9
  have k9:Kept (fun y=>y=kb) X8 X9:=Kept.of_grown g9 (fun k e=>(Option.some.inj e).symm)
  have A9:=hide a9
  have K9:=hide k9
  have K8:=hide k8'
  have TO:=hide to8
  clear hK K CS ow8 to8 k8 k8' m8 m9 g9 a9 k9 ey t8 p8 c0 c2 c3 c4 c5
  try simp only[Act.put,List.setIfInBounds_toArray,List.set_cons_zero,List.set_cons_succ]
  refine wpAnyH_ready (rs:=[14]) (by kernel_rfl) (by simp) ?_
  refine AllReadyH.cons (o:=⟨none,_,_,_,_,_⟩) rfl (fun K hK=> ?_) AllReadyH.nil
  go_simp
  refine hK.out _ _ ?_ (fun hHeld=> ?_)
  ·have nk:∀y v,X8.cell? ⟨y,v,none⟩≠none→y≠kb→X9.cell? ⟨y,v,none⟩=X8.cell? ⟨y,v,none⟩:=fun y v hv hy=>cell_block (K9.out.block y (by
    cases hq:X8.cell? ⟨y,v,none⟩ with
    |none=>exact absurd hq hv
    |some u=>exact World.block_lt_of_cell? X8 ⟨y,v,none⟩ hq) hy) v
   have nk0:=HKB.out
   exact ⟨(nk _ _ (by rw[e0];simp) nk0.1).trans e0,(nk _ _ (by rw[e2];simp) nk0.2.1).trans e2,(nk _ _ (by rw[e3];simp) nk0.2.2.1).trans e3,(nk _ _ (by rw[e4];simp) nk0.2.2.1).trans e4,(nk _ _ (by rw[e5'];simp) nk0.2.2.2).trans e5'⟩
  clear hK K
  try simp only[Act.put,List.setIfInBounds_toArray,List.set_cons_zero,List.set_cons_succ]
  refine wpAnyH_done (by kernel_rfl) ⟨(fun z=>by cases z),?_⟩ _
  gi_wp2_with fail
  have k89:Kept (fun y=>o.2=some y∨y=kb) W2 X9:=(K8.out.mono (fun y h=> .inl h)).trans K9.out (fun _ _ h=> .inr h)
  have inΨ:∀y,o.2=some y∨y=kb→Φ y∨S+4≤y:=fun y hy=>HΨ.out y (GP.out y (by
   rcases hy with hy|hy
   ·exact .inr (.inr ⟨c,o,HO.out,hy⟩)
   ·exact .inr (.inl hy)))
  have nS:∀y,N≤y→y<S+4→¬(o.2=some y∨y=kb):=fun y h1 h2 z=>by
   rcases inΨ y z with q|q
   ·have:=HP.out y q;omega
   ·omega
  have HHA:=HFE.out
  have ga:=stp_ge (p:=p) (E:=p+n) pre.length
  rw[HA1.out] at ga
  have hnx:(pre++ [pre.length]).length=pre.length+1:=by simp
  have hst:stp p (p+n) (pre.length+1)=512 * c+e:=by
   show nxt (p+n) (stp p (p+n) pre.length)=_
   rw[HA1.out]
   have:a≤nxt (p+n) a:=Nat.le_add_right _ _
   omega
  refine ⟨Two.kept k89 (nS _ (by omega) (by omega)) (nS _ (by omega) (by omega)),?_⟩
  show SI N S w mb Φ C V p n id (pre++ [pre.length]).length X9
  rw[hnx]
  refine ⟨boxed_kept H2.out.bm k89 (nS _ (by omega) (by omega)),boxed_kept H2.out.bi k89 (nS _ (by omega) (by omega)),⟨boxed_kept H2.out.rd.c0 k89 (nS _ (by omega) (by omega)),boxed_kept H2.out.rd.c1 k89 (nS _ (by omega) (by omega))⟩,⟨fpA mb kb (fun q=>if q=c then some o' else G q),⟨⟨kb,_,?_,fun _ h=>h⟩,?_⟩,?_⟩,?_⟩
  ·have a9:=A9.out
   rw[HA1.out,show 512 * c+f=a by omega,putI_two ga (by omega)] at a9
   rw[hst]
   exact a9
  ·exact fun b hb=>A9.out.fp_lt hb
  ·rintro b (rfl|rfl|⟨q,r,h1,h2⟩)
   ·exact HΨ.out _ (GP.out _ (.inl rfl))
   ·exact HΨ.out _ (GP.out _ (.inr (.inl rfl)))
   ·simp only at h1
    split at h1
    ·cases h1
     rcases TO.out with y|y|⟨b',y,hl⟩
     ·rw[y] at h2;cases h2
     ·exact HΨ.out _ (GP.out _ (.inr (.inr ⟨c,o,HO.out,y▸h2⟩)))
     ·rw[y] at h2;cases h2
      exact .inr (by have hl2:W2.heap.size≤b:=hl;omega)
    ·exact HΨ.out _ (GP.out _ (.inr (.inr ⟨q,r,h1,h2⟩)))
  ·refine H2.out.be.trans k89 (fun x hx hy=> ?_)
   rcases inΨ x hy with q|q
   ·exact q
   ·omega
 case done=>
  rintro A h hdf
  rw[s3] at hdf ⊢
  rw[List.length_range] at h
  have HI:=hide h
  have HD:=hide hdf
  clear h hdf
  gi_wp2_with fail
  refine ⟨by simp, .inl ⟨_,_,rfl,run_takeDeferred HD.out,?_⟩⟩
  have q:=HI.out.kept (Kept.put (F:=fun x=>x=S+2) A (S+2) (.deferred none) rfl) (fun x hx=> .inl hx) hN sS HP.out
  refine ⟨.int .i64 0,by simp[results,Tryz.results87,go_sem],rfl,q.be,?_⟩
  obtain ⟨Ψ,a1,a2⟩:=q.ar
  rw[HM.out.1] at a1
  exact ⟨Ψ,a1,fun b hb=>(a2 b hb).imp (fun z=>z) (fun z=>by omega)⟩
end Go.Proofs.YtdgdhnnakcncoaaGreatDoor.A
