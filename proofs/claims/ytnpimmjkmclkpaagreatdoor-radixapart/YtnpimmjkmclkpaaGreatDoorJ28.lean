/- J28 of the proof of both laws: texts Zo, Lw, Zr, one behind the other. -/
import Derived.Test.YtnpimmjkmclkpaaGreatDoorJ24
import Derived.Test.YtnpimmjkmclkpaaGreatDoorJ25
import Derived.Test.YtnpimmjkmclkpaaGreatDoorJ26
import Derived.Test.YtnpimmjkmclkpaaGreatDoorJ27
import Derived.Test.YtnpimmjkmclkpaaGreatDoorJ21
import Derived.Deep.AppendLies
/- Both trees beside one another: what they answer alike. -/
namespace Go.Proofs.YtnpimmjkmclkpaaGreatDoor
open Go.ChangeShapes Go.WideShapes Go.ChangeAt Go.RowKit Go.Proofs.Bt Go.Shelf Go.Proofs.Rx Go.Maps Go.Proofs.Pk
set_option linter.unusedVariables false
set_option linter.unusedSimpArgs false

/-- What a call of the landed tree answers and leaves. -/
def LandP (N : Nat) (O : Nat → Prop) (w : World) (tb : Nat) (st : Nat → Nat) (W : World) (v : Value) (e : Ending) (W' : World) : Prop := e = .returned v ∧ T9 N O w W' tb st ∧ Left9 N O W W'
/-- What a call of the reference answers and leaves: at most M chunks. -/
def RefP (F : Nat → Prop) (W : World) (rb : Nat) (st : Nat → Nat) (M : Nat) (v : Value) (e : Ending) (W' : World) : Prop :=
  e = .returned v ∧ (∃ Q o k, RefAt (fun x => F x ∨ (W.heap.size ≤ x ∧ x < W'.heap.size)) W' rb st Q o k ∧ Q.length ≤ M) ∧ Kept F W W'
theorem RfL.to {F : Nat → Prop} {W : World} {rb : Nat} {st : Nat → Nat} {Q : List (Nat × Nat)} {o : Option Addr} {k M : Nat} {v : Value} (hM : Q.length ≤ M) {e : Ending} {W' : World} (h : RfL F W rb st Q o k v e W') : RefP F W rb st M v e W' :=
  ⟨h.1, ⟨Q, o, k, h.2.1.mono (fun x hx => .inl hx), hM⟩, h.2.2⟩
theorem RefP.below {F : Nat → Prop} {W : World} {rb : Nat} {st : Nat → Nat} {Q : List (Nat × Nat)} {o : Option Addr} {k M : Nat} {v : Value} (hM : Q.length ≤ M) (h : RefAt F W rb st Q o k) {e : Ending} {W' : World} (he : e = .returned v) (hb : Below W.heap.size W W') : RefP F W rb st M v e W' :=
  ⟨he, ⟨Q, o, k, (h.below hb).mono (fun x hx => .inl hx), hM⟩, Kept.of_below hb⟩
theorem first_ex {st : Nat → Nat} {n : Nat} : ∀ p, Run st p n → ∃ q, First st n q := by
  intro p
  induction p using Nat.strongRecOn with
  | ind p ih =>
    intro h
    by_cases z : ∃ p', p' < p ∧ Run st p' n
    · obtain ⟨p', h1, h2⟩ := z
      exact ih p' h1 h2
    · exact ⟨p, h, fun p' hp hr => z ⟨p', hp, hr⟩⟩
theorem r9_sum_any {F : Nat → Prop} {W : World} {rb : Nat} {st : Nat → Nat} {Q : List (Nat × Nat)} {o : Option Addr} {c : Nat} (h : RefAt F W rb st Q o c) (hl : Q.length ≤ 1000000) (l i : Nat) (l3 : l ≤ 3) (hb : (i + 1) * sz (3 + l) ≤ 34359738368) :
    Calls Tryz.prog 24 #[.pointer (some ⟨rb, 0, none⟩), .int .i64 (l : Nat), .int .u64 (i : Nat)] W (SumE st l i W) := by
  match l, l3 with
  | 0, _ => exact r9_sum_0 h hl i hb
  | 1, _ => exact r9_sum_1 h hl i hb
  | 2, _ => exact r9_sum_2 h hl i hb
  | 3, _ => exact r9_sum_3 h hl i hb
theorem r9_sum_far {F : Nat → Prop} {W : World} {rb : Nat} {st : Nat → Nat} {Q : List (Nat × Nat)} {o : Option Addr} {c : Nat} (h : RefAt F W rb st Q o c) (l i : Nat) (l3 : l ≤ 3) (hb : ¬ (i + 1) * sz (3 + l) ≤ 34359738368) :
    Calls Tryz.prog 24 #[.pointer (some ⟨rb, 0, none⟩), .int .i64 (l : Nat), .int .u64 (i : Nat)] W fun e w' => e = .returned (.tuple #[.agg #[.int .i64 0, .int .i64 0, .int .i64 0], .int .i64 1]) ∧ Below W.heap.size W w' := by
  match l, l3 with
  | 0, _ => exact r9_sum_far_0 h i hb
  | 1, _ => exact r9_sum_far_1 h i hb
  | 2, _ => exact r9_sum_far_2 h i hb
  | 3, _ => exact r9_sum_far_3 h i hb
section
variable {st : Nat → Nat} {Q : List (Nat × Nat)}
theorem pair_take (m : Mt st Q) (hl : Q.length ≤ 1000000) (p n : Nat) (hp : p < 18446744073709551616) (hn : n < 18446744073709551616) :
    ∃ (x z : Int) (st' : Nat → Nat), (∀ {N : Nat} {O : Nat → Prop} {w W : World} {tb : Nat}, T9 N O w W tb st → Calls Tryz.prog 14 #[.pointer (some ⟨tb, 0, none⟩), .int .u64 (p : Nat), .int .u64 (n : Nat)] W (LandP N O w tb st' W (.tuple #[.int .u64 x, .int .i64 z]))) ∧
      (∀ {F : Nat → Prop} {W : World} {rb : Nat} {o : Option Addr} {k : Nat}, RefAt F W rb st Q o k → Calls Tryz.prog 15 #[.pointer (some ⟨rb, 0, none⟩), .int .u64 (p : Nat), .int .u64 (n : Nat)] W (RefP F W rb st' Q.length (.tuple #[.int .u64 x, .int .i64 z]))) := by
  by_cases hi : InT st p n
  · by_cases hf : (tl st p n).f = n
    · exact ⟨_, _, _, fun h => t9_take h p n hi hf, fun h => (r9_take h hl p n hi hf).mono fun _ _ => RfL.to (Nat.le_refl _)⟩
    · have hf' : (tl st p n).f < n := by have := (tl_le st p n).2.1; omega
      exact ⟨_, _, _, fun h => t9_take_used h p n hi hf', fun h => (r9_take_used h hl p n hi hf').mono fun _ _ => RfL.to (Nat.le_refl _)⟩
  · exact ⟨_, _, _, fun h => t9_take_bad h p n hp hn hi, fun h => (r9_take_bad h hl p n hp hn hi).mono fun _ _ => RfL.to (Nat.le_refl _)⟩
theorem pair_give (m : Mt st Q) (hl : Q.length ≤ 1000000) (p n : Nat) (hp : p < 18446744073709551616) (hn : n < 18446744073709551616) :
    ∃ (x : Int) (st' : Nat → Nat), (∀ {N : Nat} {O : Nat → Prop} {w W : World} {tb : Nat}, T9 N O w W tb st → Calls Tryz.prog 16 #[.pointer (some ⟨tb, 0, none⟩), .int .u64 (p : Nat), .int .u64 (n : Nat)] W (LandP N O w tb st' W (.int .i64 x))) ∧
      (∀ {F : Nat → Prop} {W : World} {rb : Nat} {o : Option Addr} {k : Nat}, RefAt F W rb st Q o k → Calls Tryz.prog 17 #[.pointer (some ⟨rb, 0, none⟩), .int .u64 (p : Nat), .int .u64 (n : Nat), .bool false] W (RefP F W rb st' Q.length (.int .i64 x))) := by
  by_cases hi : InT st p n
  · by_cases hf : (tl st p n).f = 0
    · refine ⟨_, _, fun h => ?_, fun h => (r9_give h hl p n false hi hf).mono fun _ _ => RfL.to (Nat.le_refl _)⟩
      refine (giveT_any h.tr p n hp hn).mono ?_
      rintro e W' ⟨h1, h2, h3⟩
      obtain ⟨e1, e2⟩ := h3 (cntT_inT.2 hi) (by omega)
      exact ⟨e1, h.chg e2⟩
    · refine ⟨_, _, fun h => ?_, fun h => (r9_give_free h hl p n false hi (by omega)).mono fun _ _ => RfL.to (Nat.le_refl _)⟩
      refine (giveT_any h.tr p n hp hn).mono ?_
      rintro e W' ⟨h1, h2, h3⟩
      obtain ⟨e1, e2⟩ := h2 (cntT_inT.2 hi) (by omega)
      exact ⟨e1, h.chg e2⟩
  · refine ⟨_, _, fun h => ?_, fun h => (r9_give_bad h hl p n hp hn false hi).mono fun _ _ => RfL.to (Nat.le_refl _)⟩
    refine (giveT_any h.tr p n hp hn).mono ?_
    rintro e W' ⟨h1, h2, h3⟩
    obtain ⟨e1, e2⟩ := h1 (Classical.not_not.1 fun z => hi (cntT_inT.1 z))
    exact ⟨e1, h.chg e2⟩
theorem pair_back (m : Mt st Q) (hl : Q.length ≤ 1000000) (p n : Nat) (hp : p < 18446744073709551616) (hn : n < 18446744073709551616) :
    ∃ (x : Int) (st' : Nat → Nat), (∀ {N : Nat} {O : Nat → Prop} {w W : World} {tb : Nat}, T9 N O w W tb st → Calls Tryz.prog 18 #[.pointer (some ⟨tb, 0, none⟩), .int .u64 (p : Nat), .int .u64 (n : Nat)] W (LandP N O w tb st' W (.int .i64 x))) ∧
      (∀ {F : Nat → Prop} {W : World} {rb : Nat} {o : Option Addr} {k : Nat}, RefAt F W rb st Q o k → Calls Tryz.prog 17 #[.pointer (some ⟨rb, 0, none⟩), .int .u64 (p : Nat), .int .u64 (n : Nat), .bool true] W (RefP F W rb st' Q.length (.int .i64 x))) := by
  by_cases hi : InT st p n
  · by_cases hf : (tl st p n).f = 0
    · refine ⟨_, _, fun h => ?_, fun h => (r9_give h hl p n true hi hf).mono fun _ _ => RfL.to (Nat.le_refl _)⟩
      refine (backT_any h.tr p n hp hn).mono ?_
      rintro e W' ⟨h1, h2, h3⟩
      obtain ⟨e1, e2⟩ := h3 (cntT_inT.2 hi) (by omega)
      exact ⟨e1, h.chg e2⟩
    · refine ⟨_, _, fun h => ?_, fun h => (r9_give_free h hl p n true hi (by omega)).mono fun _ _ => RfL.to (Nat.le_refl _)⟩
      refine (backT_any h.tr p n hp hn).mono ?_
      rintro e W' ⟨h1, h2, h3⟩
      obtain ⟨e1, e2⟩ := h2 (cntT_inT.2 hi) (by omega)
      exact ⟨e1, h.chg e2⟩
  · refine ⟨_, _, fun h => ?_, fun h => (r9_give_bad h hl p n hp hn true hi).mono fun _ _ => RfL.to (Nat.le_refl _)⟩
    refine (backT_any h.tr p n hp hn).mono ?_
    rintro e W' ⟨h1, h2, h3⟩
    obtain ⟨e1, e2⟩ := h1 (Classical.not_not.1 fun z => hi (cntT_inT.1 z))
    exact ⟨e1, h.chg e2⟩
theorem pair_find (m : Mt st Q) (hl : Q.length ≤ 1000000) (n : Nat) (hn : n < 18446744073709551616) :
    ∃ (x : Int) (b : Bool), (∀ {N : Nat} {O : Nat → Prop} {w W : World} {tb : Nat}, T9 N O w W tb st → Calls Tryz.prog 19 #[.pointer (some ⟨tb, 0, none⟩), .int .u64 (n : Nat)] W (LandP N O w tb st W (.tuple #[.int .u64 x, .bool b]))) ∧
      (∀ {F : Nat → Prop} {W : World} {rb : Nat} {o : Option Addr} {k : Nat}, RefAt F W rb st Q o k → Calls Tryz.prog 20 #[.pointer (some ⟨rb, 0, none⟩), .int .u64 (n : Nat)] W (RefP F W rb st Q.length (.tuple #[.int .u64 x, .bool b]))) := by
  by_cases h0 : n = 0
  · exact ⟨_, _, fun h => t9_find_no h n hn (.inl h0), fun h => (r9_Find_no h hl n hn (.inl h0)).mono fun _ _ => RfL.to (Nat.le_refl _)⟩
  by_cases hr : ∃ p, Run st p n
  · obtain ⟨p, hp⟩ := hr
    obtain ⟨q, hq⟩ := first_ex p hp
    exact ⟨_, _, fun h => t9_find h n q hn (by omega) hq, fun h => (r9_Find h hl n q hn (by omega) hq).mono fun _ _ => RfL.to (Nat.le_refl _)⟩
  · have hf : ∀ p, ¬ Run st p n := fun p hp => hr ⟨p, hp⟩
    exact ⟨_, _, fun h => t9_find_no h n hn (.inr hf), fun h => (r9_Find_no h hl n hn (.inr hf)).mono fun _ _ => RfL.to (Nat.le_refl _)⟩
theorem pair_alloc (m : Mt st Q) (hl : Q.length ≤ 1000000) (n : Nat) (hn : n < 18446744073709551616) :
    ∃ (x y z : Int) (st' : Nat → Nat), (∀ {N : Nat} {O : Nat → Prop} {w W : World} {tb : Nat}, T9 N O w W tb st → Calls Tryz.prog 12 #[.pointer (some ⟨tb, 0, none⟩), .int .u64 (n : Nat)] W (LandP N O w tb st' W (.tuple #[.int .u64 x, .int .u64 y, .int .i64 z]))) ∧
      (∀ {F : Nat → Prop} {W : World} {rb : Nat} {o : Option Addr} {k : Nat}, RefAt F W rb st Q o k → Calls Tryz.prog 13 #[.pointer (some ⟨rb, 0, none⟩), .int .u64 (n : Nat)] W (RefP F W rb st' Q.length (.tuple #[.int .u64 x, .int .u64 y, .int .i64 z]))) := by
  by_cases h0 : n = 0
  · subst h0
    refine ⟨_, _, _, _, fun h => ?_, fun h => (r9_alloc_zero h).mono fun _ _ => RfL.to (Nat.le_refl _)⟩
    refine (alloc_any h.tr 0 hn).mono ?_
    rintro e W' (⟨_, he, hc⟩ | ⟨h1, _⟩ | ⟨h1, _⟩)
    · exact ⟨he, h.chg hc⟩
    · omega
    · omega
  by_cases hr : ∃ p, Run st p n
  · obtain ⟨p, hp⟩ := hr
    obtain ⟨q, hq⟩ := first_ex p hp
    exact ⟨_, _, _, _, fun h => t9_alloc h n q hn (by omega) hq, fun h => (r9_alloc h hl n q hn (by omega) hq).mono fun _ _ => RfL.to (Nat.le_refl _)⟩
  · have hf : ∀ p, ¬ Run st p n := fun p hp => hr ⟨p, hp⟩
    exact ⟨_, _, _, _, fun h => t9_alloc_no h n hn (by omega) hf, fun h => (r9_alloc_no h hl n hn (by omega) hf).mono fun _ _ => RfL.to (Nat.le_refl _)⟩
theorem pair_grow (m : Mt st Q) (hl : Q.length ≤ 1000000) (c n : Nat) (hc : c < 18446744073709551616) (hn : n < 18446744073709551616) :
    ∃ (x : Int) (st' : Nat → Nat), (∀ {N : Nat} {O : Nat → Prop} {w W : World} {tb : Nat}, T9 N O w W tb st → Calls Tryz.prog 10 #[.pointer (some ⟨tb, 0, none⟩), .int .u64 (c : Nat), .int .u64 (n : Nat)] W (LandP N O w tb st' W (.int .i64 x))) ∧
      (∀ {F : Nat → Prop} {W : World} {rb : Nat} {o : Option Addr} {k : Nat}, RefAt F W rb st Q o k → Calls Tryz.prog 11 #[.pointer (some ⟨rb, 0, none⟩), .int .u64 (c : Nat), .int .u64 (n : Nat)] W (RefP F W rb st' (Q.length + if n ≤ 262144 then n else 0) (.int .i64 x))) := by
  by_cases hb : GrowBad c n
  · exact ⟨_, _, fun h => t9_grow_bad h c n hc hn hb, fun h => (r9_grow_bad h c n hc hn hb).mono fun _ _ => RfL.to (Nat.le_add_right _ _)⟩
  by_cases ht : 0 < (tl st (c * 512) (n * 512)).p
  · exact ⟨_, _, fun h => t9_grow_twice h c n hb ht, fun h => (r9_grow_twice h hl c n hb ht).mono fun _ _ => RfL.to (Nat.le_add_right _ _)⟩
  · refine ⟨_, _, fun h => t9_grow h c n hb (by omega), fun h => (r9_grow h hl c n hb ht).mono ?_⟩
    rintro e W' ⟨e1, ⟨B, o', k', hB, hr⟩, kp⟩
    refine ⟨e1, ⟨_, o', k', hr, ?_⟩, kp⟩
    unfold grownQ
    rw [List.length_append, List.length_append, news_len, hB, List.length_take, List.length_drop, if_pos (by unfold GrowBad at hb; omega)]
    omega
theorem pair_state (m : Mt st Q) (hl : Q.length ≤ 1000000) (p : Nat) (hp : p < 18446744073709551616) :
    ∃ (a b c : Bool), (∀ {N : Nat} {O : Nat → Prop} {w W : World} {tb : Nat}, T9 N O w W tb st → Calls Tryz.prog 51 #[.pointer (some ⟨tb, 0, none⟩), .int .u64 (p : Nat)] W (LandP N O w tb st W (.tuple #[.bool a, .bool b, .bool c]))) ∧
      (∀ {F : Nat → Prop} {W : World} {rb : Nat} {o : Option Addr} {k : Nat}, RefAt F W rb st Q o k → Calls Tryz.prog 52 #[.pointer (some ⟨rb, 0, none⟩), .int .u64 (p : Nat)] W (RefP F W rb st Q.length (.tuple #[.bool a, .bool b, .bool c]))) := by
  exact ⟨_, _, _, fun h => t9_state h p hp, fun h => (r9_state h hl p hp).mono fun e W' ⟨e1, e2⟩ => RfL.to (Nat.le_refl _) ⟨e1, h.same e2⟩⟩
theorem pair_sum (m : Mt st Q) (hl : Q.length ≤ 1000000) (lv : Int) (i : Nat) (hi : i < 18446744073709551616) :
    ∃ (x y z q : Int), (∀ {N : Nat} {O : Nat → Prop} {w W : World} {tb : Nat}, T9 N O w W tb st → Calls Tryz.prog 23 #[.pointer (some ⟨tb, 0, none⟩), .int .i64 lv, .int .u64 (i : Nat)] W (LandP N O w tb st W (.tuple #[.agg #[.int .i64 x, .int .i64 y, .int .i64 z], .int .i64 q]))) ∧
      (∀ {F : Nat → Prop} {W : World} {rb : Nat} {o : Option Addr} {k : Nat}, RefAt F W rb st Q o k → Calls Tryz.prog 24 #[.pointer (some ⟨rb, 0, none⟩), .int .i64 lv, .int .u64 (i : Nat)] W (RefP F W rb st Q.length (.tuple #[.agg #[.int .i64 x, .int .i64 y, .int .i64 z], .int .i64 q]))) := by
  by_cases hlv : 0 ≤ lv ∧ lv ≤ 3
  · obtain ⟨l, hl2⟩ : ∃ l : Nat, lv = (l : Nat) := ⟨lv.toNat, by omega⟩
    subst hl2
    have l3 : l ≤ 3 := by omega
    by_cases hb : (i + 1) * sz (3 + l) ≤ 34359738368
    · obtain ⟨r, hr⟩ := sum_total9 st (i * sz (3 + l)) (sz (3 + l))
      unfold Su at hr
      refine ⟨_, _, _, _, fun h => t9_sum h l i l3 hb r.s r.m r.e hr, fun h => ?_⟩
      have key := r9_sum_any h hl l i l3 hb
      refine key.mono ?_
      rintro e W' ⟨⟨s, m', e', he, hS⟩, hb'⟩
      obtain ⟨rfl, rfl, rfl⟩ := hS.one hr
      exact RefP.below (Nat.le_refl _) h he hb'
    · refine ⟨0, 0, 0, 1, fun h => ?_, fun h => ?_⟩
      · refine (sumT_any h.tr (l : Nat) i hi).mono ?_
        rintro e W' ⟨⟨h1, _⟩, hb'⟩
        exact ⟨h1 (.inr (by rw [Int.toNat_natCast]; exact hb)), h.read hb'⟩
      · have key := r9_sum_far h l i l3 hb
        exact key.mono fun e W' ⟨he, hb'⟩ => RefP.below (Nat.le_refl _) h he hb'
  · refine ⟨0, 0, 0, 1, fun h => ?_, fun h => ?_⟩
    · refine (sumT_any h.tr lv i hi).mono ?_
      rintro e W' ⟨⟨h1, _⟩, hb'⟩
      exact ⟨h1 (.inl hlv), h.read hb'⟩
    · exact (r9_sum_bad h lv i hlv).mono fun e W' ⟨he, hb'⟩ => RefP.below (Nat.le_refl _) h he hb'
theorem pair_free (m : Mt st Q) (hl : Q.length ≤ 1000000) :
    ∃ x : Int, (∀ {N : Nat} {O : Nat → Prop} {w W : World} {tb : Nat}, T9 N O w W tb st → Calls Tryz.prog 26 #[.pointer (some ⟨tb, 0, none⟩)] W (LandP N O w tb st W (.int .u64 x))) ∧
      (∀ {F : Nat → Prop} {W : World} {rb : Nat} {o : Option Addr} {k : Nat}, RefAt F W rb st Q o k → Calls Tryz.prog 27 #[.pointer (some ⟨rb, 0, none⟩)] W (RefP F W rb st Q.length (.int .u64 x))) :=
  ⟨_, fun h => t9_free h, fun h => (r9_free h hl).mono fun e W' ⟨e1, e2⟩ => RfL.to (Nat.le_refl _) ⟨e1, h.same e2⟩⟩
theorem pair_released (m : Mt st Q) (hl : Q.length ≤ 1000000) :
    ∃ x : Int, (∀ {N : Nat} {O : Nat → Prop} {w W : World} {tb : Nat}, T9 N O w W tb st → Calls Tryz.prog 28 #[.pointer (some ⟨tb, 0, none⟩)] W (LandP N O w tb st W (.int .u64 x))) ∧
      (∀ {F : Nat → Prop} {W : World} {rb : Nat} {o : Option Addr} {k : Nat}, RefAt F W rb st Q o k → Calls Tryz.prog 29 #[.pointer (some ⟨rb, 0, none⟩)] W (RefP F W rb st Q.length (.int .u64 x))) :=
  ⟨_, fun h => t9_released h, fun h => (r9_released h hl).mono fun e W' ⟨e1, e2⟩ => RfL.to (Nat.le_refl _) ⟨e1, h.same e2⟩⟩
end
end Go.Proofs.YtnpimmjkmclkpaaGreatDoor

/- Lists of a law's own, beside a tree. -/
namespace Go.Proofs.YtnpimmjkmclkpaaGreatDoor
open Go.ChangeShapes Go.WideShapes Go.ChangeAt Go.RowKit Go.Proofs.Bt Go.Shelf Go.Proofs.Rx Go.Maps Go.Proofs.Pk
set_option linter.unusedVariables false
set_option linter.unusedSimpArgs false

/-- The law writes its own blocks, and makes more of them. -/
theorem T9.grow {N : Nat} {O O' F : Nat → Prop} {w W W' : World} {tb : Nat} {st : Nat → Nat} (h : T9 N O w W tb st) (k : Kept F W W') (hF : ∀ x, F x → O x ∧ N ≤ x) (hO : ∀ x, O' x → O x ∨ (W.heap.size ≤ x ∧ x < W'.heap.size)) : T9 N O' w W' tb st := by
  have lt := h.tr.lt
  refine ⟨?_, below_kept h.be k (fun x hx => (hF x hx).2) lt.2.2⟩
  obtain ⟨T, L, C, e1, e2, h1, h2⟩ := h.tr
  have sz' := k.size
  refine ⟨T, L, C, e1, e2, ⟨h1.rad.kept k (fun x hx => ⟨(h2 x (hF x hx).1).1, by rw [e2]; exact (hF x hx).2⟩), h1.good, h1.four, h1.out⟩, fun x hx => ?_⟩
  rcases hO x hx with z | z
  · obtain ⟨a, b, c⟩ := h2 x z
    exact ⟨a, b, by omega⟩
  · exact ⟨h1.rad.foot_lt z.1, by omega, z.2⟩
theorem t9_sum_some {N : Nat} {O : Nat → Prop} {w W : World} {tb : Nat} {st : Nat → Nat} (h : T9 N O w W tb st) (lv i : Nat) (hl : lv ≤ 3) (hi : (i + 1) * sz (3 + lv) ≤ 34359738368) :
    Calls Tryz.prog 23 #[.pointer (some ⟨tb, 0, none⟩), .int .i64 (lv : Nat), .int .u64 (i : Nat)] W fun en W' => (∃ s m e : Nat, SumN (bsy st (i * sz (3 + lv))) (sz (3 + lv)) s m e ∧ en = .returned (.tuple #[.agg #[.int .i64 (s : Nat), .int .i64 (m : Nat), .int .i64 (e : Nat)], .int .i64 0])) ∧ T9 N O w W' tb st ∧ Left9 N O W W' := by
  have hp := sz_pos (3 + lv)
  have : i + 1 ≤ (i + 1) * sz (3 + lv) := Nat.le_mul_of_pos_right _ hp
  refine (sumT_any h.tr (lv : Nat) i (by omega)).mono ?_
  rintro en W' ⟨⟨_, h2⟩, b⟩
  rw [Int.toNat_natCast] at h2
  obtain ⟨s', m', e', h3, h4⟩ := h2 (by omega) hi
  exact ⟨⟨s', m', e', h4, h3⟩, h.read b⟩
theorem infoU : (Tryz.prog.info? 31).map (fun i => (i.zero, i.size, i.bytes)) = some (some (.int .u64 0), 1, 8) := by kernel_rfl
/-- Numbers as values. -/
def vals (t : List Nat) : List Value := t.map fun n => .int .u64 (n : Nat)
end Go.Proofs.YtnpimmjkmclkpaaGreatDoor

/- Both trees beside one another: act: its contract. -/
namespace Go.Proofs.YtnpimmjkmclkpaaGreatDoor
open Go.ChangeShapes Go.WideShapes Go.ChangeAt Go.RowKit Go.Proofs.Bt Go.Shelf Go.Proofs.Rx Go.Maps Go.Proofs.Pk
set_option linter.unusedVariables false
set_option linter.unusedSimpArgs false

/-- Both trees have the same pages; the reference's blocks F are none of O. -/
structure Both (N : Nat) (O : Nat → Prop) (w W : World) (tb rb : Nat) (st : Nat → Nat) (Q : List (Nat × Nat)) (F : Nat → Prop) (o : Option Addr) (k : Nat) : Prop where
  t : T9 N (fun x => F x ∨ O x) w W tb st
  r : RefAt F W rb st Q o k
  ap : ∀ x, F x → ¬ O x
def BothE (N : Nat) (O : Nat → Prop) (w W : World) (tb rb M : Nat) : Prop := ∃ st Q F o k, Both N O w W tb rb st Q F o k ∧ Q.length ≤ M
section
variable {N : Nat} {O : Nat → Prop} {w W W' : World} {tb rb : Nat} {st st' : Nat → Nat} {Q : List (Nat × Nat)} {F : Nat → Prop} {o : Option Addr} {k M : Nat}
theorem T9.weak {O' : Nat → Prop} (h : T9 N O w W tb st) (hO : ∀ x, O' x → O x) : T9 N O' w W tb st := h.more (Below.refl _ _) (fun x hx => .inl (hO x hx))
theorem T9.inO (h : T9 N O w W tb st) {x : Nat} (hx : O x) : N ≤ x ∧ x < W.heap.size := by
  obtain ⟨T, L, C, _, _, _, h2⟩ := h.tr
  exact (h2 x hx).2
/-- With a block of one's own. -/
theorem Both.own (h : Both N O w W tb rb st Q F o k) (b : Below W.heap.size W W') : T9 N (fun x => F x ∨ O x ∨ (W.heap.size ≤ x ∧ x < W'.heap.size)) w W' tb st ∧ RefAt F W' rb st Q o k :=
  ⟨h.t.more b (fun x hx => by
    rcases hx with z | z | z
    · exact .inl (.inl z)
    · exact .inl (.inr z)
    · exact .inr z), h.r.below b⟩
/-- Behind a call of each. -/
theorem Both.done {w0 W1 W2 : World} {A : Nat → Prop} {Q' : List (Nat × Nat)} {o' : Option Addr} {k' : Nat} (h : Both N O w W tb rb st Q F o k) (k0 : Kept (fun x => N ≤ x ∧ ¬ O x) W w0) (t1 : T9 N (fun x => F x ∨ O x ∨ A x) w W1 tb st') (l1 : Left9 N (fun x => F x ∨ O x ∨ A x) w0 W1)
    (r2 : RefAt (fun x => F x ∨ (W1.heap.size ≤ x ∧ x < W2.heap.size)) W2 rb st' Q' o' k') (k2 : Kept F W1 W2) (hQ : Q'.length ≤ M) : BothE N O w W2 tb rb M ∧ Left9 N O W W2 := by
  have s2 := k2.size
  have t2 : T9 N (fun x => (F x ∨ (W1.heap.size ≤ x ∧ x < W2.heap.size)) ∨ O x) w W2 tb st' := t1.grow k2 (fun x hx => ⟨.inl hx, (t1.inO (.inl hx)).1⟩) (fun x hx => by
    rcases hx with (z | z) | z
    · exact .inl (.inl z)
    · exact .inr z
    · exact .inl (.inr (.inl z)))
  refine ⟨⟨st', Q', _, o', k', ⟨t2, r2, fun x hx z => ?_⟩, hQ⟩, ?_⟩
  · rcases hx with y | y
    · exact h.ap x y z
    · have := (t1.inO (.inr (.inl z))).2
      omega
  · have l1' : Kept (fun x => N ≤ x ∧ ¬ O x) w0 W1 := Kept.mono l1 (fun x hx => ⟨hx.1, fun z => hx.2 (.inr (.inl z))⟩)
    have k2' : Kept (fun x => N ≤ x ∧ ¬ O x) W1 W2 := k2.mono (fun x hx => ⟨(t1.inO (.inl hx)).1, h.ap x hx⟩)
    exact (k0.trans l1' (fun _ _ z => z)).trans k2' (fun _ _ z => z)
/-- Behind reading alone. -/
theorem Both.read (h : Both N O w W tb rb st Q F o k) (b : Below W.heap.size W W') : Both N O w W' tb rb st Q F o k := ⟨(h.t.read b).1, h.r.below b, h.ap⟩
/-- What is to be done, in a block of its own. -/
def ActB (W : World) (A : Nat) (a : Int) (x y : Nat) : Prop := W.heap[A]? = some (.cells #[.int .i64 a, .int .u64 (x : Nat), .int .u64 (y : Nat)] 33 (0, 0))
theorem ActB.same {W W' : World} {A : Nat} {a : Int} {x y : Nat} (h : ActB W A a x y) (e : W'.heap[A]? = W.heap[A]?) : ActB W' A a x y := e.trans h
theorem ActB.lt {W : World} {A : Nat} {a : Int} {x y : Nat} (h : ActB W A a x y) : A < W.heap.size := (Array.getElem?_eq_some_iff.1 h).1
theorem ActB.c0 {W : World} {A : Nat} {a : Int} {x y : Nat} (h : ActB W A a x y) : W.cell? ⟨A, 0, none⟩ = some (.int .i64 a) := by unfold ActB at h; simp [World.cell?, h]
theorem ActB.c1 {W : World} {A : Nat} {a : Int} {x y : Nat} (h : ActB W A a x y) : W.cell? ⟨A, 1, none⟩ = some (.int .u64 (x : Nat)) := by unfold ActB at h; simp [World.cell?, h]
theorem ActB.c2 {W : World} {A : Nat} {a : Int} {x y : Nat} (h : ActB W A a x y) : W.cell? ⟨A, 2, none⟩ = some (.int .u64 (y : Nat)) := by unfold ActB at h; simp [World.cell?, h]
end
/-- What act leaves. -/
def ActR (N : Nat) (O : Nat → Prop) (w W : World) (tb rb M : Nat) (e : Ending) (W' : World) : Prop := e = .returned (.bool true) ∧ BothE N O w W' tb rb M ∧ Left9 N O W W'
/-- How many chunks an act may add. -/
def more9 (a : Int) (y : Nat) : Nat := if a = 1 ∧ y ≤ 262144 then y else 0
end Go.Proofs.YtnpimmjkmclkpaaGreatDoor
