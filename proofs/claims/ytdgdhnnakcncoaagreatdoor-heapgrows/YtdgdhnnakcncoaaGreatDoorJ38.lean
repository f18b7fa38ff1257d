/- Of the proof of HeapClasses: texts AAr, AOw. -/
import Derived.Test.YtdgdhnnakcncoaaGreatDoorJ12
import Derived.Test.YtdgdhnnakcncoaaGreatDoorJ11
import Derived.Test.YtdgdhnnakcncoaaGreatDoorJ08
import Derived.Test.YtdgdhnnakcncoaaGreatDoorJ09
import Derived.Test.YtdgdhnnakcncoaaGreatDoorJ25
import Derived.Test.YtdgdhnnakcncoaaGreatDoorJ03
import Derived.Test.YtdgdhnnakcncoaaGreatDoorJ02
import Derived.Test.YtdgdhnnakcncoaaGreatDoorJ07
import Derived.Test.YtdgdhnnakcncoaaGreatDoorRows
import Derived.WalkKit
import Derived.ProofKit
import Derived.OpenShut
import Derived.Carry
import Derived.ChangeSlices
import Derived.WalkLawsBesides
import Derived.Shelf.Abstract
import Derived.Deep.QuietTactic
import Derived.BigQuiet
import Derived.Outline
import Derived.Deep.RegionHeld3
import Derived.StillTailTactics
import Derived.Maps.AppendAt
import Derived.RangeFuncNested
import Derived.RangeFuncBound
import Derived.RangeFuncCalls
import Derived.RangeFuncLeaves
import Derived.Shelf.RegionOpen
import Derived.OwnWalkIn
import Derived.TacticsInMore
import Derived.LoopNIn
import Derived.LoopIn
import Derived.Maps.RangeWalk
import Derived.Deep.CutRange
import Derived.Deep.WholeRow
namespace Go.Proofs.YtdgdhnnakcncoaaGreatDoor.A
set_option maxHeartbeats 1600000
open Go.ChangeShapes Go.WideShapes Go.ChangeAt Go.RowKit Go.Shelf Go.Proofs.Rx Go.Maps
set_option linter.unusedVariables false
set_option linter.unusedSimpArgs false
def owV:Int×Option Nat→Value
 |(a,none)=> .agg #[.int .i64 a, .pointer none]
 |(a,some b)=> .agg #[.int .i64 a, .pointer (some ⟨b,0,none⟩)]
def owElem:Value→Option (DataW Unit×List MemPlace)
 | .agg xs=>match xs.toList with
  | [.int .i64 a, .pointer none]=>some (.agg [.lit (.int .i64 a), .lit (.int .i64 0)],[])
  | [.int .i64 a, .pointer (some ⟨b,0,none⟩)]=>some (.agg [.lit (.int .i64 a), .lit (.int .i64 ((b:Int)+1))],[])
  |_=>none
 |_=>none
def owDat:Int×Option Nat→DataW Unit
 |(a,none)=> .agg [.lit (.int .i64 a), .lit (.int .i64 0)]
 |(a,some b)=> .agg [.lit (.int .i64 a), .lit (.int .i64 ((b:Int)+1))]
theorem ow_back (v:Value) (o:Int×Option Nat) (ps:List MemPlace) (h:owElem v=some (owDat o,ps)):v=owV o:=by
 obtain ⟨a,e⟩:=o
 unfold owElem at h
 split at h
 ·rename_i xs
  split at h
  ·rename_i a' hx
   have e1:xs=#[.int .i64 a', .pointer none]:=by rw[←Array.toList_inj];exact hx
   cases e with
   |none=>simp[owDat] at h;rw[e1,owV,h.1]
   |some b=>simp[owDat] at h;omega
  ·rename_i a' b' hx
   have e1:xs=#[.int .i64 a', .pointer (some ⟨b',0,none⟩)]:=by rw[←Array.toList_inj];exact hx
   cases e with
   |none=>simp[owDat] at h;omega
   |some b=>
    simp[owDat] at h
    have e2:b'=b:=by omega
    rw[e1,owV,h.1.1,e2]
  ·cases h
 ·cases h
theorem ow_mk (o:Int×Option Nat):owElem (owV o)=some (owDat o,[]):=by obtain ⟨a,e⟩:=o;cases e<;>rfl
def encO:Enc (Int×Option Nat):=⟨owElem,owDat,owV,owDat (0,none),owV (0,none),ow_mk,rfl,ow_back,fun v ps h=>ow_back v (0,none) ps h⟩
theorem zeroO (w:World):(zeroValue 225).run Tryz.prog w= .ok (owV (0,none)) w:=by kernel_rfl
theorem tyO:Tryz.prog.underlying 179=some (.map 39 225):=by kernel_rfl
structure RowI (w:World) (b:Nat) (v:Nat→Int):Prop where
 cell:∀k,k<512→w.cell? ⟨b,k,none⟩=some (.int .i64 (v k))
 fz:∀k,k<512→w.frozen? ⟨b,k,none⟩=false
theorem RowI.lt {w:World} {b:Nat} {v:Nat→Int} (h:RowI w b v):b<w.heap.size:=World.block_lt_of_cell? w ⟨b,0,none⟩ (h.cell 0 (by omega))
theorem RowI.block {w w':World} {b:Nat} {v:Nat→Int} (h:RowI w b v) (e:w'.heap[b]? =w.heap[b]?):RowI w' b v:=
 ⟨fun k hk=>(cell_block e _).trans (h.cell k hk),fun k hk=>(fz_block e).trans (h.fz k hk)⟩
theorem RowI.congr {w:World} {b:Nat} {v v':Nat→Int} (h:RowI w b v) (e:∀k,k<512→v k=v' k):RowI w b v':=⟨fun k hk=>by rw[←e k hk];exact h.cell k hk,h.fz⟩
def OwAt (w:World) (o:Int×Option Nat) (v:Nat→Int):Prop:=
 match o.2 with
 |none=>∀k,k<512→v k=o.1
 |some b=>RowI w b v
theorem OwAt.congr {w:World} {o:Int×Option Nat} {v v':Nat→Int} (h:OwAt w o v) (e:∀k,k<512→v k=v' k):OwAt w o v':=by
 obtain ⟨a,x⟩:=o
 cases x with
 |none=>exact fun k hk=>(e k hk).symm.trans (h k hk)
 |some b=>exact RowI.congr h e
theorem OwAt.block {w w':World} {o:Int×Option Nat} {v:Nat→Int} (h:OwAt w o v) (e:∀b,o.2=some b→w'.heap[b]? =w.heap[b]?):OwAt w' o v:=by
 obtain ⟨a,x⟩:=o
 cases x with
 |none=>exact h
 |some b=>exact RowI.block h (e b rfl)
theorem OwAt.lt {w:World} {o:Int×Option Nat} {v:Nat→Int} (h:OwAt w o v) {b:Nat} (e:o.2=some b):b<w.heap.size:=by
 obtain ⟨a,x⟩:=o
 cases e
 exact RowI.lt h
structure ArAt (w:World) (mb kb:Nat) (G:Nat→Option (Int×Option Nat)) (C:Nat→Bool) (V:Nat→Int):Prop where
 top:Boxed w mb 181 (.map (some kb))
 map:MapG encO w kb G
 has:∀p,(G p).isSome=C p
 lim:∀p,C p=true→p<67108864
 out:∀q,C (q/512)=false→V q=0
 own:∀p o,G p=some o→OwAt w o (fun k=>V (512 * p+k))
 inj:∀p q o r b,G p=some o→G q=some r→o.2=some b→r.2=some b→p=q
 far:∀p o b,G p=some o→o.2=some b→b≠mb∧b≠kb
 two:mb≠kb
def fpA (mb kb:Nat) (G:Nat→Option (Int×Option Nat)) (b:Nat):Prop:=b=mb∨b=kb∨∃p o,G p=some o∧o.2=some b
structure Ar (w:World) (mb:Nat) (Φ:Nat→Prop) (C:Nat→Bool) (V:Nat→Int):Prop where
 ex:∃kb G,ArAt w mb kb G C V∧∀b,fpA mb kb G b→Φ b
 lt:∀b,Φ b→b<w.heap.size
theorem ArAt.fp_lt {w:World} {mb kb:Nat} {G:Nat→Option (Int×Option Nat)} {C:Nat→Bool} {V:Nat→Int} (h:ArAt w mb kb G C V) {b:Nat} (hb:fpA mb kb G b):b<w.heap.size:=by
 rcases hb with rfl|rfl|⟨p,o,h1,h2⟩
 ·exact box_lt h.top
 ·exact h.map.lt
 ·exact (h.own p o h1).lt h2
theorem ArAt.same {w w':World} {mb kb:Nat} {G:Nat→Option (Int×Option Nat)} {C:Nat→Bool} {V:Nat→Int} (h:ArAt w mb kb G C V) (e:∀b,fpA mb kb G b→w'.heap[b]? =w.heap[b]?):ArAt w' mb kb G C V:=
 ⟨boxed_block h.top (e _ (.inl rfl)),h.map.kept (e _ (.inr (.inl rfl))),h.has,h.lim,h.out,fun p o ho=>(h.own p o ho).block (fun b hb=>e b (.inr (.inr ⟨p,o,ho,hb⟩))),h.inj,h.far,h.two⟩
theorem Ar.kept {w w':World} {mb:Nat} {F Φ:Nat→Prop} {C:Nat→Bool} {V:Nat→Int} (h:Ar w mb Φ C V) (k:Kept F w w') (hF:∀b,Φ b→¬F b):Ar w' mb Φ C V:=by
 obtain ⟨kb,G,a,hp⟩:=h.ex
 exact ⟨⟨kb,G,a.same (fun b hb=>k.block b (a.fp_lt hb) (hF b (hp b hb))),hp⟩,fun b hb=>Nat.lt_of_lt_of_le (h.lt b hb) k.size⟩
theorem Ar.below {w w':World} {mb:Nat} {Φ:Nat→Prop} {C:Nat→Bool} {V:Nat→Int} (h:Ar w mb Φ C V) (k:Below w.heap.size w w'):Ar w' mb Φ C V:=h.kept (F:=fun _=>False) (Kept.of_below k) (fun _ _ f=>f)
theorem Ar.mb {w:World} {mb:Nat} {Φ:Nat→Prop} {C:Nat→Bool} {V:Nat→Int} (h:Ar w mb Φ C V):Φ mb:=by obtain ⟨kb,G,a,hp⟩:=h.ex;exact hp _ (.inl rfl)
def ArTo (w w':World) (mb:Nat) (Φ:Nat→Prop) (C:Nat→Bool) (V:Nat→Int):Prop:=
 Kept Φ w w'∧∃Ψ:Nat→Prop,Ar w' mb Ψ C V∧∀b,Ψ b→Φ b∨w.heap.size≤b
theorem below_alloc (w:World) (o:Obj):Below w.heap.size w (w.alloc o):=(Below.refl _ _).alloc (Nat.le_refl _) _
theorem new_any (w:World):Calls Tryz.prog 43 #[] w fun e w'=>∃mb,e= .returned (.pointer (some ⟨mb,0,none⟩))∧(∃Φ:Nat→Prop,Ar w' mb Φ (fun _=>false) (fun _=>0)∧∀b,Φ b→w.heap.size≤b)∧Below w.heap.size w w':=by
 have mk:∀(t:TypeId) (w:World),(Instr.makeMap t none).run Tryz.prog w= .ok (.map (some w.heap.size)) (w.alloc (.map #[] 0)):=fun t w=>run_makeMap t w
 go_enter Tryz.func43,Tryz.ntmps43
 go_wp2_with fail
 go_ret
 have hA:ArAt ((w.alloc (.map #[] 0)).alloc (.cells #[.map (some w.heap.size)] 181)) (w.heap.size+1) w.heap.size (fun _=>none) (fun _=>false) (fun _=>0):=by
  refine ⟨?_,(MapG.made encO w).below (below_alloc _ _),fun _=>rfl,fun _ h=>(by cases h),fun _ _=>rfl,fun _ _ h=>(by cases h),fun _ _ _ _ _ h=>(by cases h),fun _ _ _ h=>(by cases h),by omega⟩
  have:=Boxed.new (w.alloc (.map #[] 0)) 181 (.map (some w.heap.size))
  simpa using this
 refine ⟨w.heap.size+1,rfl,⟨fpA (w.heap.size+1) w.heap.size (fun _=>none),⟨⟨_,_,hA,fun _ h=>h⟩,fun b hb=>hA.fp_lt hb⟩,?_⟩,((Below.refl _ w).alloc (Nat.le_refl _) _).alloc (by simp) _⟩
 rintro b (rfl|rfl|⟨p,o,h,_⟩)
 ·omega
 ·omega
 ·cases h
theorem owV_open (o:Int×Option Nat):∃a p,owV o= .agg #[.int .i64 a, .pointer p]:=by obtain ⟨a,x⟩:=o;cases x<;>exact ⟨_,_,rfl⟩
theorem valO_open (o:Option (Int×Option Nat)):∃a p,valO encO o= .agg #[.int .i64 a, .pointer p]:=by
 cases o with
 |none=>exact ⟨0,none,rfl⟩
 |some o=>exact owV_open o
theorem has_any {w:World} {mb:Nat} {Φ:Nat→Prop} {C:Nat→Bool} {V:Nat→Int} (h:Ar w mb Φ C V) (c:Nat) (hc:c<18446744073709551616):
 Calls Tryz.prog 191 #[.pointer (some ⟨mb,0,none⟩), .int .u64 (c:Nat)] w fun e w'=>e= .returned (.bool (C c))∧Below w.heap.size w w':=by
 obtain ⟨kb,G,a,hp⟩:=h.ex
 have c0:=a.top.cell
 have l0:=a.map.looks tyO (zeroO w) c hc
 obtain ⟨x,p,e⟩:=valO_open (G c)
 rw[e,a.has c] at l0
 clear e
 go_enter Tryz.func191,Tryz.ntmps191
 go_wp2_with fail
 go_ret
 exact ⟨rfl,below_alloc _ _⟩
theorem add_new {w:World} {mb:Nat} {Φ:Nat→Prop} {C:Nat→Bool} {V:Nat→Int} (h:Ar w mb Φ C V) (c:Nat) (hc:c<67108864) (hC:C c=false):
 Calls Tryz.prog 282 #[.pointer (some ⟨mb,0,none⟩), .int .u64 (c:Nat)] w fun e w'=>e= .returned (.int .i64 0)∧ArTo w w' mb Φ (fun q=>if q=c then true else C q) V:=by
 have cH:=hide (has_any h c (by omega))
 rw[hC] at cH
 have d1:decide ((67108864:Int)≤(c:Int))=false:=decide_eq_false (by omega)
 obtain ⟨P,hP⟩:∃P:Int,(c:Int)=P:=⟨_,rfl⟩
 rw[hP] at cH d1 ⊢
 have HC:=hide hc
 clear hc
 go_enter Tryz.func282,Tryz.ntmps282
 go_wp2_with fail
 refine cH.out.mono ?_
 rintro e w1 ⟨rfl,hb⟩
 obtain ⟨kb,G,a,hp⟩:=(h.below hb).ex
 have c0:=a.top.cell
 obtain ⟨w2,r2,m2,g2⟩:=a.map.put tyO c HC.out (0,none)
 rw[hP] at r2
 have e2:encO.val (0,none)= .agg #[.int .i64 0, .pointer none]:=rfl
 rw[e2] at r2
 have A:=hide a
 have M2:=hide m2
 have G2:=hide g2
 clear a m2 g2 e2 cH
 go_wp2_with fail
 go_ret
 have g2:=G2.out
 have a:=A.out
 have kb2:Kept (fun b=>b=kb) w1 w2:=Kept.of_grown g2 (fun k e=>(Option.some.inj e).symm)
 have k1:Kept Φ w w2:=(Kept.of_below hb).trans kb2 (fun b _ e=>by rw[e];exact hp _ (.inr (.inl rfl)))
 have hG:G c=none:=by
  have:=a.has c
  rw[hC] at this
  cases z:G c with
  |none=>rfl
  |some o=>rw[z] at this;cases this
 have hA:ArAt w2 mb kb (fun q=>if q=c then some (0,none) else G q) (fun q=>if q=c then true else C q) V:=by
  refine ⟨boxed_kept a.top kb2 a.two,M2.out,fun p=> ?_,fun p hp=> ?_,fun q hq=> ?_,fun p o ho=> ?_,fun p q o r b h1 h2 h3 h4=> ?_,fun p o b h1 h2=> ?_,a.two⟩
  ·split
   ·rfl
   ·exact a.has p
  ·split at hp
   ·rename_i e;rw[e];exact HC.out
   ·exact a.lim p hp
  ·split at hq
   ·cases hq
   ·exact a.out q hq
  ·split at ho
   ·rename_i e
    cases ho
    intro k hk
    exact a.out _ (by rw[e,show (512 * c+k)/512=c by omega];exact hC)
   ·exact (a.own p o ho).block (fun b hb=>kb2.block b ((a.own p o ho).lt hb) (a.far p o b ho hb).2)
  ·split at h1
   ·cases h1;cases h3
   ·split at h2
    ·cases h2;cases h4
    ·exact a.inj p q o r b h1 h2 h3 h4
  ·split at h1
   ·cases h1;cases h2
   ·exact a.far p o b h1 h2
 refine ⟨rfl,k1,fpA mb kb (fun q=>if q=c then some (0,none) else G q),⟨⟨_,_,hA,fun _ h=>h⟩,fun b hb=>hA.fp_lt hb⟩,?_⟩
 rintro b (rfl|rfl|⟨p,o,h1,h2⟩)
 ·exact .inl (hp _ (.inl rfl))
 ·exact .inl (hp _ (.inr (.inl rfl)))
 ·simp only at h1
  split at h1
  ·cases h1;cases h2
  ·exact .inl (hp _ (.inr (.inr ⟨p,o,h1,h2⟩)))
theorem at_any {w:World} (o:Int×Option Nat) (v:Nat→Int) (h:OwAt w o v) (k:Nat) (hk:k<512):
 Calls Tryz.prog 133 #[owV o, .int .u64 (k:Nat)] w fun e w'=>e= .returned (.int .i64 (v k))∧Below w.heap.size w w':=by
 obtain ⟨a,x⟩:=o
 cases x with
 |none=>
  rw[h k hk]
  unfold owV
  go_enter Tryz.func133,Tryz.ntmps133
  go_wp2_with fail
  go_ret
  exact ⟨rfl,below_alloc _ _⟩
 |some b=>
  have c0:=RowI.cell h k hk
  have hl:=RowI.lt h
  unfold owV
  go_enter Tryz.func133,Tryz.ntmps133
  go_wp2_with fail
  go_ret
  exact ⟨rfl,below_alloc _ _⟩
theorem At_any {w:World} {mb:Nat} {Φ:Nat→Prop} {C:Nat→Bool} {V:Nat→Int} (h:Ar w mb Φ C V) (a:Nat) (ha:a<18446744073709551616):
 Calls Tryz.prog 78 #[.pointer (some ⟨mb,0,none⟩), .int .u64 (a:Nat)] w fun e w'=>e= .returned (.int .i64 (V (a/8192)))∧Below w.heap.size w w':=by
 obtain ⟨kb,G,g,hp⟩:=h.ex
 have c0:=g.top.cell
 have l0:=g.map.look tyO (zeroO w) (a/4194304) (by omega)
 have cA:=hide (show ∀W,Below w.heap.size w W→Calls Tryz.prog 133 #[valO encO (G (a/4194304)), .int .u64 ((a/8192%512:Nat):Int)] W fun e w'=>e= .returned (.int .i64 (V (a/8192)))∧Below W.heap.size W w' from fun W hW=>by
  have hq:512 *(a/4194304)+a/8192%512=a/8192:=by omega
  cases z:G (a/4194304) with
  |none=>
   have:=g.out (a/8192) (by rw[←g.has,show a/8192/512=a/4194304 by omega,z];rfl)
   rw[this]
   exact at_any (0,none) (fun _=>0) (fun _ _=>rfl) _ (by omega)
  |some o=>
   have:=at_any o _ ((g.own _ o z).block (fun b hb=>hW.block b ((g.own _ o z).lt hb))) (a/8192%512) (by omega)
   rw[hq] at this
   exact this)
 obtain ⟨x,p,e⟩:=valO_open (G (a/4194304))
 rw[e] at l0 cA
 clear e
 rw[show ((a/4194304:Nat):Int)=(a:Int)/4194304 by omega] at l0
 rw[show ((a/8192%512:Nat):Int)=(a:Int)/8192%512 by omega] at cA
 go_enter Tryz.func78,Tryz.ntmps78
 go_wp2_with fail
 refine (cA.out _ (Below.refl _ _)).mono ?_
 rintro e w' ⟨rfl,hb⟩
 go_wp2_with fail
 go_ret
 exact ⟨rfl,hb⟩
end Go.Proofs.YtdgdhnnakcncoaaGreatDoor.A
namespace Go.Proofs.YtdgdhnnakcncoaaGreatDoor.A
set_option maxHeartbeats 1600000
open Go.ChangeShapes Go.WideShapes Go.ChangeAt Go.RowKit Go.Shelf Go.Proofs.Rx Go.Maps
set_option linter.unusedVariables false
set_option linter.unusedSimpArgs false
def putI (v:Nat→Int) (a b:Nat) (x:Int) (k:Nat):Int:=if a≤k∧k<b then x else v k
theorem putI_zero (v:Nat→Int) (a:Nat) (x:Int):putI v a a x=v:=by funext k;unfold putI;rw[if_neg (by omega)]
theorem RowI.set {w:World} {b:Nat} {v:Nat→Int} (h:RowI w b v) (a j:Nat) (x:Int) (hj:a≤j) (hk:j<512):RowI (w.setCell ⟨b,j,none⟩ (.int .i64 x)) b (fun k=>if k=j then x else v k):=by
 refine ⟨fun k hk=> ?_,fun k hk=>(World.frozen?_setCell w ⟨b,j,none⟩ ⟨b,k,none⟩ _).trans (h.fz k hk)⟩
 by_cases e:k=j
 ·subst e
  rw[if_pos rfl]
  exact World.cell?_setCell_same w _ _ (h.cell k hk)
 ·rw[if_neg e,World.cell?_setCell_other _ _ _ _ (by intro z;have:=congrArg Addr.off z;simp at this;omega)]
  exact h.cell k hk
theorem putI_next (v:Nat→Int) (a i:Nat) (x:Int):(fun k=>if k=a+ i then x else putI v a (a+ i) x k)=putI v a (a+(i+1)) x:=by
 funext k
 unfold putI
 by_cases h:a≤k∧k<a+ i
 ·rw[if_pos h,if_pos (show a≤k∧k<a+(i+1) by omega)];split<;>rfl
 ·by_cases e:k=a+ i
  ·rw[if_pos e,if_pos (by omega)]
  ·rw[if_neg e,if_neg h,if_neg (by omega)]
def zi:Value→Int
 | .int _ q=>q
 |_=>0
set_option maxRecDepth 100000 in
theorem fill_any {w:World} {b:Nat} {v:Nat→Int} (h:RowI w b v) (off n cap:Nat) (hn:off+n≤512) (x:Int):
 Calls Tryz.prog 194 #[.slice (some ⟨b,off,none⟩) n cap, .int .i64 x] w fun e w'=>e= .returned (.tuple #[])∧RowI w' b (putI v off (off+n) x)∧Kept (fun y=>y=b) w w':=by
 have H0:=hide h
 clear h
 go_enter Tryz.func194,Tryz.ntmps194
 go_wp2_with fail
 go_loopw [7] (fun vi W=>∃i:Nat,vi= .int .i64 i∧i≤n∧RowI W b (putI v off (off+ i) x)∧Kept (fun y=>y=b) w W) (fun vi _=>n -(zi vi).toNat)
 case atStart=>exact ⟨0,rfl,by omega,by rw[Nat.add_zero,putI_zero];exact H0.out,Kept.refl _ _⟩
 case round=>
  obtain ⟨i,rfl,hi,hr,hk⟩:=hrel
  have HR:=hide hr
  have HK:=hide hk
  by_cases c:i<n
  ·have d:decide ((i:Int)<(n:Int))=true:=decide_eq_true (by omega)
   have cl:=hr.cell (off+ i) (by omega)
   have fz:=hr.fz (off+ i) (by omega)
   clear hr hk
   go_wp2_with fail
   go_roundw
   case rel=>
    refine ⟨i+1,by push_cast;rfl,by omega,?_,HK.out.trans (kept_set (F:=fun y=>y=b) _ _ _ _ rfl) (fun _ _ h=>h)⟩
    rw[←putI_next]
    exact HR.out.set 0 (off+ i) x (by omega) (by omega)
   case measure=>simp[zi];omega
  ·have d:decide ((i:Int)<(n:Int))=false:=decide_eq_false (by omega)
   obtain rfl:i=n:=by omega
   clear hr hk
   go_wp2_with fail
   go_end0
   exact ⟨rfl,HR.out,HK.out⟩
theorem own2 {W:World} {b:Nat} {a:Int} {p:Option Addr} (h:Bk W b 225 #[.int .i64 a, .pointer p]):(loadVar 225 ⟨b,0,none⟩).run Tryz.prog W= .ok (.agg #[.int .i64 a, .pointer p]) W:=by
 have c0:=h.cell 0 _ rfl
 have c1:=h.cell 1 _ rfl
 simp[go_sem,c0,c1]
theorem zero512 (w:World):(zeroValue 339).run Tryz.prog w= .ok (.agg (Array.replicate 512 (.int .i64 0))) w:=by kernel_rfl
set_option maxRecDepth 100000 in
theorem spread_any {w:World} (a:Int) (p:Option Addr):
 Calls Tryz.prog 193 #[.agg #[.int .i64 a, .pointer p]] w fun e w'=>∃b,e= .returned (owV (0,some b))∧RowI w' b (fun _=>a)∧w.heap.size≤b∧Below w.heap.size w w':=by
 obtain ⟨zs,hzs⟩:∃zs:Array Value,Array.replicate 512 (.int .i64 0)=zs:=⟨_,rfl⟩
 have z0:=zero512
 rw[hzs] at z0
 have z1:zs.size=512:=by rw[←hzs];simp
 have z2:zs≠#[]:=fun e=>by rw[e] at z1;cases z1
 have st:=run_storeCells_new (P:=Tryz.prog) ((w.alloc (.cells #[.int .i64 a, .pointer p] 225)).alloc (.cells #[.int .i64 0, .pointer none] 225)) 339 zs zs (by rw[z1];kernel_rfl) rfl (by rw[←hzs,Array.all_replicate];rfl)
 simp only[World.size_alloc] at st
 obtain ⟨N,hN⟩:∃N,w.heap.size=N:=⟨_,rfl⟩
 obtain ⟨W,hW⟩:∃W,((w.alloc (.cells #[.int .i64 a, .pointer p] 225)).alloc (.cells #[.int .i64 0, .pointer none] 225)).alloc (.cells zs 339)=W:=⟨_,rfl⟩
 have bW:Below N w W:=by rw[←hW,←hN];exact (((Below.refl _ w).alloc (Nat.le_refl _) _).alloc (by simp) _).alloc (by simp;omega) _
 have hr:RowI W (N+1+1) (fun _=>0):=by
  have hb:W.heap[N+1+1]? =some (.cells zs 339):=by
   have:=World.alloc_heap_new ((w.alloc (.cells #[.int .i64 a, .pointer p] 225)).alloc (.cells #[.int .i64 0, .pointer none] 225)) (.cells zs 339)
   simp only[World.size_alloc] at this
   rw[←hW,←hN];exact this
  refine ⟨fun k hk=> ?_,fun k hk=> ?_⟩
  ·simp[World.cell?,hb,←hzs,hk]
  ·simp[World.frozen?,hb]
 have k0:Bk W N 225 #[.int .i64 a, .pointer p]:=by
  rw[←hW,←hN]
  exact (Below.heap_alloc _ _ _ (by simp;omega)).trans ((Below.heap_alloc _ _ _ (by simp)).trans (World.alloc_heap_new w _))
 have k1:Bk W (N+1) 225 #[.int .i64 0, .pointer none]:=by
  rw[←hW,←hN]
  refine (Below.heap_alloc _ _ _ (by simp)).trans ?_
  have:=World.alloc_heap_new (w.alloc (.cells #[.int .i64 a, .pointer p] 225)) (.cells #[.int .i64 0, .pointer none] 225)
  rw[World.size_alloc] at this
  exact this
 have c0:=k0.cell 0 _ rfl
 have CF:=hide (show ∀X,X=W.drew∨X=W→Calls Tryz.prog 194 #[.slice (some ⟨N+1+1,0,none⟩) 512 512, .int .i64 a] X fun e w'=>e= .returned (.tuple #[])∧RowI w' (N+1+1) (fun _=>a)∧Kept (fun y=>y=N+1+1) X w' from fun X hX=>by
  refine (fill_any (w:=X) (v:=fun _=>0) (by rcases hX with rfl|rfl;exact hr.block rfl;exact hr) 0 512 512 (by omega) a).mono ?_
  rintro e w' ⟨h1,h2,h3⟩
  exact ⟨h1,h2.congr (fun k hk=>by unfold putI;rw[if_pos (by omega)]),h3⟩)
 have HR:=hide hr
 have BW:=hide bW
 have K1:=hide k1
 rw[hW,hN] at st
 clear hr bW k0 k1 hzs
 go_enter Tryz.func193,Tryz.ntmps193
 go_wp2_with fail
 refine still_tail 3 (by kernel_rfl) (by kernel_rfl) ?_
 simp only[List.take_succ_cons,List.take_zero,List.drop_succ_cons,List.drop_zero]
 repeat still_step
 refine wpStill_nil ?_
 go_wp2_with fail
 refine (CF.out _ (.inl rfl)).mono ?_
 rintro e X ⟨rfl,hx1,hx2⟩
 have y1:Bk X (N+1) 225 #[.int .i64 0, .pointer none]:=(K1.out.below (drew_below W)).kept hx2 (by omega)
 have d0:=y1.cell 0 _ rfl
 have d1:=y1.cell 1 _ rfl
 have f0:=y1.fz 0
 have f1:=y1.fz 1
 have Y1:=hide y1
 have X1:=hide hx1
 have X2:=hide hx2
 clear y1 hx1 hx2
 go_wp2_with fail
 have y2:Bk ((X.setCell ⟨N+1,0,none⟩ (.int .i64 0)).setCell ⟨N+1,1,none⟩ (.pointer (some ⟨N+1+1,0,none⟩))) (N+1) 225 #[.int .i64 0, .pointer (some ⟨N+1+1,0,none⟩)]:=(Y1.out.set 0 (.int .i64 0)).set 1 _
 have kk:Kept (fun y=>y=N+1∨y=N+1+1) X ((X.setCell ⟨N+1,0,none⟩ (.int .i64 0)).setCell ⟨N+1,1,none⟩ (.pointer (some ⟨N+1+1,0,none⟩))):=(kept_set X (N+1) 0 _ (.inl rfl)).trans (kept_set _ (N+1) 1 _ (.inl rfl)) (fun _ _ h=>h)
 have kr:((X.setCell ⟨N+1,0,none⟩ (.int .i64 0)).setCell ⟨N+1,1,none⟩ (.pointer (some ⟨N+1+1,0,none⟩))).heap[N+1+1]? =X.heap[N+1+1]? :=(Below.heap_setCell _ _ _ _ (by simp)).trans (Below.heap_setCell _ _ _ _ (by simp))
 refine bodyPost_ret (results_c (p:=2) rfl _ _ ⟨N+1,0,none⟩ _ rfl (own2 y2)) rfl ⟨N+1+1,rfl,X1.out.block kr,by omega,?_⟩
 rw[hN]
 have b1:Below N w W.drew:=BW.out.drew
 exact (b1.trans (X2.out.below (by have:=b1.size;omega) (fun b hb=>by omega))).trans (kk.below (by have:=X2.out.size;have:=b1.size;omega) (fun b hb=>by omega))
def OwTo (w:World) (o o':Int×Option Nat):Prop:=o'.2=none∨o'.2=o.2∨∃b,o'.2=some b∧w.heap.size≤b
structure S3 (N:Nat) (w W:World) (a:Int) (p:Option Addr) (f e:Int):Prop where
 b0:Bk W N 225 #[.int .i64 a, .pointer p]
 b1:Bk W (N+1) 232 #[.int .u64 f, .int .u64 e]
 b2:Bk W (N+1+1) 225 #[.int .i64 0, .pointer none]
 be:Below N w W
theorem S3.new (w:World) (a:Int) (p:Option Addr) (f e:Int) (N:Nat) (hN:w.heap.size=N):S3 N w (((w.alloc (.cells #[.int .i64 a, .pointer p] 225)).alloc (.cells #[.int .u64 f, .int .u64 e] 232)).alloc (.cells #[.int .i64 0, .pointer none] 225)) a p f e:=by
 subst hN
 refine ⟨?_,?_,?_,(((Below.refl _ w).alloc (Nat.le_refl _) _).alloc (by simp) _).alloc (by simp;omega) _⟩
 ·exact (Below.heap_alloc _ _ _ (by simp;omega)).trans ((Below.heap_alloc _ _ _ (by simp)).trans (World.alloc_heap_new w _))
 ·refine (Below.heap_alloc _ _ _ (by simp)).trans ?_
  have:=World.alloc_heap_new (w.alloc (.cells #[.int .i64 a, .pointer p] 225)) (.cells #[.int .u64 f, .int .u64 e] 232)
  rw[World.size_alloc] at this
  exact this
 ·have:=World.alloc_heap_new ((w.alloc (.cells #[.int .i64 a, .pointer p] 225)).alloc (.cells #[.int .u64 f, .int .u64 e] 232)) (.cells #[.int .i64 0, .pointer none] 225)
  simp only[World.size_alloc] at this
  exact this
theorem S3.drew {N:Nat} {w W:World} {a:Int} {p:Option Addr} {f e:Int} (h:S3 N w W a p f e):S3 N w W.drew a p f e:=⟨h.b0,h.b1,h.b2,h.be.drew⟩
theorem S3.fin {N:Nat} {w W:World} {a:Int} {p:Option Addr} {f e:Int} (h:S3 N w W a p f e) (x:Int) (q:Option Addr):
 Bk ((W.setCell ⟨N+1+1,0,none⟩ (.int .i64 x)).setCell ⟨N+1+1,1,none⟩ (.pointer q)) (N+1+1) 225 #[.int .i64 x, .pointer q]∧Kept (fun b=>b=N+1+1) W ((W.setCell ⟨N+1+1,0,none⟩ (.int .i64 x)).setCell ⟨N+1+1,1,none⟩ (.pointer q)):=
 ⟨(h.b2.set 0 _).set 1 _,(kept_set (F:=fun b=>b=N+1+1) W (N+1+1) 0 _ rfl).trans (kept_set (F:=fun b=>b=N+1+1) _ (N+1+1) 1 _ rfl) (fun _ _ h=>h)⟩
set_option maxRecDepth 100000 in
theorem set_whole {w:World} (o:Int×Option Nat) (x:Int):
 Calls Tryz.prog 140 #[owV o, .agg #[.int .u64 0, .int .u64 512], .int .i64 x] w fun e w'=>e= .returned (owV (x,none))∧Below w.heap.size w w':=by
 obtain ⟨a,p,e⟩:=owV_open o
 rw[e]
 clear e
 obtain ⟨N,hN⟩:∃N,w.heap.size=N:=⟨_,rfl⟩
 have hs:=S3.new w a p 0 512 N hN
 obtain ⟨W,hW⟩:∃W,((w.alloc (.cells #[.int .i64 a, .pointer p] 225)).alloc (.cells #[.int .u64 0, .int .u64 512] 232)).alloc (.cells #[.int .i64 0, .pointer none] 225)=W:=⟨_,rfl⟩
 rw[hW] at hs
 have HS:=hide hs
 have c1:=hs.b1.cell 0 _ rfl
 have c2:=hs.b1.cell 1 _ rfl
 have r1:=hs.b2.cell 0 _ rfl
 have r2:=hs.b2.cell 1 _ rfl
 have r3:=hs.b2.fz 0
 have r4:=hs.b2.fz 1
 clear hs
 go_enter Tryz.func140,Tryz.ntmps140
 go_wp2_with fail
 obtain ⟨y1,y2⟩:=HS.out.fin x none
 refine bodyPost_ret (results_c (p:=6) Tryz.results140 _ _ ⟨N+1+1,0,none⟩ _ rfl (own2 y1)) rfl ⟨rfl,?_⟩
 rw[hN]
 exact HS.out.be.trans (y2.below (by have:=HS.out.be.size;omega) (fun b hb=>by omega))
set_option maxRecDepth 100000 in
theorem set_same {w:World} (x:Int) (f e:Nat) (h1:f≤e) (h2:e≤512) (h3:e - f≠512):
 Calls Tryz.prog 140 #[owV (x,none), .agg #[.int .u64 (f:Nat), .int .u64 (e:Nat)], .int .i64 x] w fun e w'=>e= .returned (owV (x,none))∧Below w.heap.size w w':=by
 obtain ⟨N,hN⟩:∃N,w.heap.size=N:=⟨_,rfl⟩
 obtain ⟨F,hF⟩:∃F:Int,(f:Int)=F:=⟨_,rfl⟩
 obtain ⟨E,hE⟩:∃E:Int,(e:Int)=E:=⟨_,rfl⟩
 have t1:(E - F==512)=false:=by simp;omega
 have t0:0≤E - F:=by omega
 have t2:E - F≤512:=by omega
 rw[hF,hE]
 clear hF hE h1 h2 h3
 have hs:=S3.new w x none F E N hN
 obtain ⟨W,hW⟩:∃W,((w.alloc (.cells #[.int .i64 x, .pointer none] 225)).alloc (.cells #[.int .u64 F, .int .u64 E] 232)).alloc (.cells #[.int .i64 0, .pointer none] 225)=W:=⟨_,rfl⟩
 rw[hW] at hs
 have HS:=hide hs
 have c1:=hs.b1.cell 0 _ rfl
 have c2:=hs.b1.cell 1 _ rfl
 have c3:=hs.b0.cell 0 _ rfl
 have c4:=hs.b0.cell 1 _ rfl
 have r1:=hs.b2.cell 0 _ rfl
 have r2:=hs.b2.cell 1 _ rfl
 have r3:=hs.b2.fz 0
 have r4:=hs.b2.fz 1
 clear hs
 unfold owV
 go_enter Tryz.func140,Tryz.ntmps140
 go_wp2_with fail
 obtain ⟨y1,y2⟩:=HS.out.fin x none
 refine bodyPost_ret (results_c (p:=6) Tryz.results140 _ _ ⟨N+1+1,0,none⟩ _ rfl (own2 y1)) rfl ⟨rfl,?_⟩
 rw[hN]
 exact HS.out.be.trans (y2.below (by have:=HS.out.be.size;omega) (fun b hb=>by omega))
set_option maxRecDepth 100000 in
set_option maxHeartbeats 1000000 in
theorem set_row {w:World} (a:Int) (b:Nat) (v:Nat→Int) (h:RowI w b v) (x:Int) (f e:Nat) (h1:f<e) (h2:e≤512) (h3:e - f≠512):
 Calls Tryz.prog 140 #[owV (a,some b), .agg #[.int .u64 (f:Nat), .int .u64 (e:Nat)], .int .i64 x] w fun r w'=>r= .returned (owV (a,some b))∧RowI w' b (putI v f e x)∧Kept (fun y=>y=b) w w':=by
 obtain ⟨N,hN⟩:∃N,w.heap.size=N:=⟨_,rfl⟩
 have hs:=S3.new w a (some ⟨b,0,none⟩) (f:Nat) (e:Nat) N hN
 have t1:((e:Int) -(f:Int)==512)=false:=by simp;omega
 have t0:0≤(e:Int) -(f:Int):=by omega
 have t2:(e:Int) -(f:Int)≤512:=by omega
 have t3:(f:Int)≤(e:Int):=by omega
 have t4:(e:Int)≤512:=by omega
 have t5:¬512=f:=by omega
 obtain ⟨W,hW⟩:∃W,((w.alloc (.cells #[.int .i64 a, .pointer (some ⟨b,0,none⟩)] 225)).alloc (.cells #[.int .u64 (f:Nat), .int .u64 (e:Nat)] 232)).alloc (.cells #[.int .i64 0, .pointer none] 225)=W:=⟨_,rfl⟩
 rw[hW] at hs
 have hl:=h.lt
 have hb:Below w.heap.size w W:=by rw[hN];exact hs.be
 have CF:=hide (show Calls Tryz.prog 194 #[.slice (some ⟨b,f,none⟩) (e - f) (512 - f), .int .i64 x] W.drew fun r w'=>r= .returned (.tuple #[])∧RowI w' b (putI v f e x)∧Kept (fun y=>y=b) W.drew w' from by
  have:=fill_any (w:=W.drew) (v:=v) (h.block ((hb.drew).block b hl)) f (e - f) (512 - f) (by omega) x
  rw[show f+(e - f)=e by omega] at this
  exact this)
 have HS:=hide hs
 have c1:=hs.b1.cell 0 _ rfl
 have c2:=hs.b1.cell 1 _ rfl
 have c3:=hs.b0.cell 0 _ rfl
 have c4:=hs.b0.cell 1 _ rfl
 have HH:=hide h
 have HB:=hide hb
 clear hs h hb
 unfold owV
 go_enter Tryz.func140,Tryz.ntmps140
 go_wp2_with fail
 refine still_tail 9 (by kernel_rfl) (by kernel_rfl) ?_
 simp only[List.take_succ_cons,List.take_zero,List.drop_succ_cons,List.drop_zero]
 repeat still_step
 refine wpStill_nil ?_
 go_wp2_with fail
 refine CF.out.mono ?_
 rintro r X ⟨rfl,x1,x2⟩
 have hne:∀k,N≤k→k≠b:=fun k hk=>by omega
 have q0:Bk X N 225 #[.int .i64 a, .pointer (some ⟨b,0,none⟩)]:=(HS.out.b0.below (drew_below W)).kept x2 (hne _ (Nat.le_refl _))
 have q2:Bk X (N+1+1) 225 #[.int .i64 0, .pointer none]:=(HS.out.b2.below (drew_below W)).kept x2 (hne _ (by omega))
 have d0:=q0.cell 0 _ rfl
 have d1:=q0.cell 1 _ rfl
 have r1:=q2.cell 0 _ rfl
 have r2:=q2.cell 1 _ rfl
 have r3:=q2.fz 0
 have r4:=q2.fz 1
 have Q2:=hide q2
 have X1:=hide x1
 have X2:=hide x2
 clear q0 q2 x1 x2
 go_wp2_with fail
 have y1:Bk ((X.setCell ⟨N+1+1,0,none⟩ (.int .i64 a)).setCell ⟨N+1+1,1,none⟩ (.pointer (some ⟨b,0,none⟩))) (N+1+1) 225 #[.int .i64 a, .pointer (some ⟨b,0,none⟩)]:=(Q2.out.set 0 _).set 1 _
 have y2:Kept (fun y=>y=N+1+1) X ((X.setCell ⟨N+1+1,0,none⟩ (.int .i64 a)).setCell ⟨N+1+1,1,none⟩ (.pointer (some ⟨b,0,none⟩))):=(kept_set (F:=fun y=>y=N+1+1) X (N+1+1) 0 _ rfl).trans (kept_set (F:=fun y=>y=N+1+1) _ (N+1+1) 1 _ rfl) (fun _ _ h=>h)
 refine bodyPost_ret (results_c (p:=6) Tryz.results140 _ _ ⟨N+1+1,0,none⟩ _ rfl (own2 y1)) rfl ⟨rfl,X1.out.block (y2.block b X1.out.lt (by omega)),?_⟩
 exact ((Kept.of_below (F:=fun y=>y=b) HB.out.drew).trans X2.out (fun _ _ h=>h)).trans y2 (fun k hk e=>by omega)
set_option maxRecDepth 100000 in
set_option maxHeartbeats 1000000 in
theorem set_new {w:World} (a:Int) (x:Int) (hax:a≠x) (f e:Nat) (h1:f<e) (h2:e≤512) (h3:e - f≠512):
 Calls Tryz.prog 140 #[owV (a,none), .agg #[.int .u64 (f:Nat), .int .u64 (e:Nat)], .int .i64 x] w fun r w'=>∃b,r= .returned (owV (0,some b))∧RowI w' b (putI (fun _=>a) f e x)∧w.heap.size≤b∧Below w.heap.size w w':=by
 obtain ⟨N,hN⟩:∃N,w.heap.size=N:=⟨_,rfl⟩
 have hs:=S3.new w a none (f:Nat) (e:Nat) N hN
 have t1:((e:Int) -(f:Int)==512)=false:=by simp;omega
 have t0:0≤(e:Int) -(f:Int):=by omega
 have t2:(e:Int) -(f:Int)≤512:=by omega
 have t3:(f:Int)≤(e:Int):=by omega
 have t4:(e:Int)≤512:=by omega
 have t5:¬512=f:=by omega
 have t6:(a==x)=false:=by simp[hax]
 obtain ⟨W,hW⟩:∃W,((w.alloc (.cells #[.int .i64 a, .pointer none] 225)).alloc (.cells #[.int .u64 (f:Nat), .int .u64 (e:Nat)] 232)).alloc (.cells #[.int .i64 0, .pointer none] 225)=W:=⟨_,rfl⟩
 rw[hW] at hs
 have CS:=hide (spread_any (w:=W) a none)
 have HS:=hide hs
 have c1:=hs.b1.cell 0 _ rfl
 have c2:=hs.b1.cell 1 _ rfl
 have c3:=hs.b0.cell 0 _ rfl
 have c4:=hs.b0.cell 1 _ rfl
 clear hs hax
 unfold owV at CS ⊢
 go_enter Tryz.func140,Tryz.ntmps140
 go_wp2_with fail
 refine CS.out.mono ?_
 rintro r X ⟨b,rfl,x1,x2,x3⟩
 have q0:Bk X N 225 #[.int .i64 a, .pointer none]:=HS.out.b0.below x3
 have q1:Bk X (N+1) 232 #[.int .u64 (f:Nat), .int .u64 (e:Nat)]:=HS.out.b1.below x3
 have q2:Bk X (N+1+1) 225 #[.int .i64 0, .pointer none]:=HS.out.b2.below x3
 have hWs:=HS.out.b2.lt
 obtain ⟨Y,hY⟩:∃Y,(X.setCell ⟨N,0,none⟩ (.int .i64 0)).setCell ⟨N,1,none⟩ (.pointer (some ⟨b,0,none⟩))=Y:=⟨_,rfl⟩
 have k1:Kept (fun y=>y=N) X Y:=by rw[←hY];exact (kept_set (F:=fun y=>y=N) X N 0 _ rfl).trans (kept_set (F:=fun y=>y=N) _ N 1 _ rfl) (fun _ _ h=>h)
 have p0:Bk Y N 225 #[.int .i64 0, .pointer (some ⟨b,0,none⟩)]:=by rw[←hY];exact (q0.set 0 _).set 1 _
 have p1:Bk Y (N+1) 232 #[.int .u64 (f:Nat), .int .u64 (e:Nat)]:=q1.kept k1 (by omega)
 have p2:Bk Y (N+1+1) 225 #[.int .i64 0, .pointer none]:=q2.kept k1 (by omega)
 have pr:RowI Y b (fun _=>a):=x1.block (k1.block b x1.lt (by omega))
 have CF:=hide (show Calls Tryz.prog 194 #[.slice (some ⟨b,f,none⟩) (e - f) (512 - f), .int .i64 x] Y.drew fun r w'=>r= .returned (.tuple #[])∧RowI w' b (putI (fun _=>a) f e x)∧Kept (fun y=>y=b) Y.drew w' from by
  have:=fill_any (w:=Y.drew) (v:=fun _=>a) (pr.block rfl) f (e - f) (512 - f) (by omega) x
  rw[show f+(e - f)=e by omega] at this
  exact this)
 have a0:=q0.cell 0 _ rfl
 have a1:=q0.cell 1 _ rfl
 have a2:=q0.fz 0
 have a3:=q0.fz 1
 have d0:=p0.cell 0 _ rfl
 have d1:=p0.cell 1 _ rfl
 have d2:=p1.cell 0 _ rfl
 have d3:=p1.cell 1 _ rfl
 have P0:=hide p0
 have P2:=hide p2
 have K1:=hide k1
 have X2:=hide x2
 have X3:=hide x3
 clear q0 q1 q2 p0 p1 p2 pr k1 x1 x2 x3 CS
 go_wp2_with fail
 refine still_tail 9 (by kernel_rfl) (by kernel_rfl) ?_
 simp only[List.take_succ_cons,List.take_zero,List.drop_succ_cons,List.drop_zero]
 repeat still_step
 refine wpStill_nil ?_
 go_wp2_with fail
 refine CF.out.mono ?_
 rintro r Z ⟨rfl,z1,z2⟩
 have hx2:=X2.out
 have q0:Bk Z N 225 #[.int .i64 0, .pointer (some ⟨b,0,none⟩)]:=(P0.out.below (drew_below Y)).kept z2 (by omega)
 have q2:Bk Z (N+1+1) 225 #[.int .i64 0, .pointer none]:=(P2.out.below (drew_below Y)).kept z2 (by omega)
 have e0:=q0.cell 0 _ rfl
 have e1:=q0.cell 1 _ rfl
 have r1:=q2.cell 0 _ rfl
 have r2:=q2.cell 1 _ rfl
 have r3:=q2.fz 0
 have r4:=q2.fz 1
 have Q2:=hide q2
 have Z1:=hide z1
 have Z2:=hide z2
 clear q0 q2 z1 z2 a0 a1 a2 a3 d0 d1 d2 d3 c1 c2 c3 c4
 go_wp2_with fail
 have y1:Bk ((Z.setCell ⟨N+1+1,0,none⟩ (.int .i64 0)).setCell ⟨N+1+1,1,none⟩ (.pointer (some ⟨b,0,none⟩))) (N+1+1) 225 #[.int .i64 0, .pointer (some ⟨b,0,none⟩)]:=(Q2.out.set 0 _).set 1 _
 have y2:Kept (fun y=>y=N+1+1) Z ((Z.setCell ⟨N+1+1,0,none⟩ (.int .i64 0)).setCell ⟨N+1+1,1,none⟩ (.pointer (some ⟨b,0,none⟩))):=(kept_set (F:=fun y=>y=N+1+1) Z (N+1+1) 0 _ rfl).trans (kept_set (F:=fun y=>y=N+1+1) _ (N+1+1) 1 _ rfl) (fun _ _ h=>h)
 refine bodyPost_ret (results_c (p:=6) Tryz.results140 _ _ ⟨N+1+1,0,none⟩ _ rfl (own2 y1)) rfl ⟨b,rfl,Z1.out.block (y2.block b Z1.out.lt (by omega)),by omega,?_⟩
 rw[hN]
 have b1:Below N w X:=HS.out.be.trans (X3.out.mono (by have:=HS.out.b2.lt;omega))
 have b2:=b1.trans (K1.out.below (B:=N) (by have:=b1.size;omega) (fun k hk=>by omega))
 have b3:=b2.drew.trans (Z2.out.below (B:=N) (by have:=b2.drew.size;omega) (fun k hk=>by omega))
 exact b3.trans (y2.below (by have:=b3.size;omega) (fun k hk=>by omega))
theorem set_any {w:World} (o:Int×Option Nat) (v:Nat→Int) (h:OwAt w o v) (x:Int) (f e:Nat) (h1:f<e) (h2:e≤512):
 Calls Tryz.prog 140 #[owV o, .agg #[.int .u64 (f:Nat), .int .u64 (e:Nat)], .int .i64 x] w fun r w'=>∃o',r= .returned (owV o')∧OwAt w' o' (putI v f e x)∧OwTo w o o'∧Kept (fun y=>o.2=some y) w w':=by
 by_cases h3:e - f=512
 ·obtain rfl:f=0:=by omega
  obtain rfl:e=512:=by omega
  refine (set_whole o x).mono ?_
  rintro r w' ⟨rfl,hb⟩
  exact ⟨_,rfl,fun k hk=>by unfold putI;rw[if_pos (by omega)], .inl rfl,Kept.of_below hb⟩
 ·obtain ⟨a,p⟩:=o
  cases p with
  |some b=>
   refine (set_row a b v h x f e h1 h2 h3).mono ?_
   rintro r w' ⟨rfl,hr,hk⟩
   exact ⟨_,rfl,hr, .inr (.inl rfl),hk.mono (fun y hy=>by rw[hy])⟩
  |none=>
   by_cases c:a=x
   ·subst c
    refine (set_same a f e (by omega) h2 h3).mono ?_
    rintro r w' ⟨rfl,hb⟩
    exact ⟨_,rfl,fun k hk=>by unfold putI;split;rfl;exact h k hk, .inl rfl,Kept.of_below hb⟩
   ·refine (set_new a x c f e h1 h2 h3).mono ?_
    rintro r w' ⟨b,rfl,hr,hl,hb⟩
    exact ⟨_,rfl,RowI.congr hr (fun k hk=>by unfold putI;split;rfl;exact (h k hk).symm), .inr (.inr ⟨b,rfl,hl⟩),Kept.of_below hb⟩
end Go.Proofs.YtdgdhnnakcncoaaGreatDoor.A
