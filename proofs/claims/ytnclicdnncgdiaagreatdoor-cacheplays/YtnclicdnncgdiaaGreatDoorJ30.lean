/- J30 of the proof of both laws: texts Zo, Zr, Ka, one behind the other. -/
import Derived.Test.YtnclicdnncgdiaaGreatDoorJ27
import Derived.Test.YtnclicdnncgdiaaGreatDoorJ28
import Derived.Test.YtnclicdnncgdiaaGreatDoorJ23
import Derived.Test.YtnclicdnncgdiaaGreatDoorJ22
import Derived.Test.YtnclicdnncgdiaaGreatDoorJ29
import Derived.Test.YtnclicdnncgdiaaGreatDoorJ25
import Derived.Test.YtnclicdnncgdiaaGreatDoorJ26
/- Both trees beside one another: what they answer alike. -/
namespace Go.Proofs.YtnclicdnncgdiaaGreatDoor
open Go.ChangeShapes Go.WideShapes Go.ChangeAt Go.RowKit Go.Proofs.Bt Go.Shelf Go.Proofs.Rx Go.Maps Go.Proofs.Pk
set_option linter.unusedVariables false
set_option linter.unusedSimpArgs false

/-- What a call of the landed tree answers and leaves. -/
def LandP (N : Nat) (O : Nat → Prop) (w : World) (tb : Nat) (st : Nat → Nat) (W : World) (v : Value) (e : Ending) (W' : World) : Prop := e = .returned v ∧ T9 N O w W' tb st ∧ Left9 N O W W'
/-- What a call of the reference answers and leaves: at most M chunks. -/
def RefP (F : Nat → Prop) (W : World) (rb : Nat) (st : Nat → Nat) (M : Nat) (v : Value) (e : Ending) (W' : World) : Prop :=
  e = .returned v ∧ (∃ Q o k, RefAt (fun x => F x ∨ (W.heap.size ≤ x ∧ x < W'.heap.size)) W' rb st Q o k ∧ Q.length ≤ M) ∧ Kept F W W'
theorem RfL.to {F : Nat → Prop} {W : World} {rb : Nat} {st : Nat → Nat} {Q : List (Nat × Nat)} {o : Option Addr} {k M : Nat} {v : Value} (hM : Q.length ≤ M) {e : Ending} {W' : World} (h : RfL F W rb st Q o k v e W') : RefP F W rb st M v e W' :=
  ⟨h.1, ⟨Q, o, k, h.2.1.mono (fun x hx => .inl hx), hM⟩, h.2.2⟩
theorem RefP.below {F : Nat → Prop} {W : World} {rb : Nat} {st : Nat → Nat} {Q : List (Nat × Nat)} {o : Option Addr} {k M : Nat} {v : Value} (hM : Q.length ≤ M) (h : RefAt F W rb st Q o k) {e : Ending} {W' : World} (he : e = .returned v) (hb : Below W.heap.size W W') : RefP F W rb st M v e W' :=
  ⟨he, ⟨Q, o, k, (h.below hb).mono (fun x hx => .inl hx), hM⟩, Kept.of_below hb⟩
theorem first_ex {st : Nat → Nat} {n : Nat} : ∀ p, Run st p n → ∃ q, First st n q := by
  intro p
  induction p using Nat.strongRecOn with
  | ind p ih =>
    intro h
    by_cases z : ∃ p', p' < p ∧ Run st p' n
    · obtain ⟨p', h1, h2⟩ := z
      exact ih p' h1 h2
    · exact ⟨p, h, fun p' hp hr => z ⟨p', hp, hr⟩⟩
section
variable {st : Nat → Nat} {Q : List (Nat × Nat)}
theorem pair_take (m : Mt st Q) (hl : Q.length ≤ 1000000) (p n : Nat) (hp : p < 18446744073709551616) (hn : n < 18446744073709551616) :
    ∃ (x z : Int) (st' : Nat → Nat), (∀ {N : Nat} {O : Nat → Prop} {w W : World} {tb : Nat}, T9 N O w W tb st → Calls Tryz.prog 47 #[.pointer (some ⟨tb, 0, none⟩), .int .u64 (p : Nat), .int .u64 (n : Nat)] W (LandP N O w tb st' W (.tuple #[.int .u64 x, .int .i64 z]))) ∧
      (∀ {F : Nat → Prop} {W : World} {rb : Nat} {o : Option Addr} {k : Nat}, RefAt F W rb st Q o k → Calls Tryz.prog 49 #[.pointer (some ⟨rb, 0, none⟩), .int .u64 (p : Nat), .int .u64 (n : Nat)] W (RefP F W rb st' Q.length (.tuple #[.int .u64 x, .int .i64 z]))) := by
  by_cases hi : InT st p n
  · by_cases hf : (tl st p n).f = n
    · exact ⟨_, _, _, fun h => t9_take h p n hi hf, fun h => (r9_take h hl p n hi hf).mono fun _ _ => RfL.to (Nat.le_refl _)⟩
    · have hf' : (tl st p n).f < n := by have := (tl_le st p n).2.1; omega
      exact ⟨_, _, _, fun h => t9_take_used h p n hi hf', fun h => (r9_take_used h hl p n hi hf').mono fun _ _ => RfL.to (Nat.le_refl _)⟩
  · exact ⟨_, _, _, fun h => t9_take_bad h p n hp hn hi, fun h => (r9_take_bad h hl p n hp hn hi).mono fun _ _ => RfL.to (Nat.le_refl _)⟩
theorem pair_give (m : Mt st Q) (hl : Q.length ≤ 1000000) (p n : Nat) (hp : p < 18446744073709551616) (hn : n < 18446744073709551616) :
    ∃ (x : Int) (st' : Nat → Nat), (∀ {N : Nat} {O : Nat → Prop} {w W : World} {tb : Nat}, T9 N O w W tb st → Calls Tryz.prog 27 #[.pointer (some ⟨tb, 0, none⟩), .int .u64 (p : Nat), .int .u64 (n : Nat)] W (LandP N O w tb st' W (.int .i64 x))) ∧
      (∀ {F : Nat → Prop} {W : World} {rb : Nat} {o : Option Addr} {k : Nat}, RefAt F W rb st Q o k → Calls Tryz.prog 28 #[.pointer (some ⟨rb, 0, none⟩), .int .u64 (p : Nat), .int .u64 (n : Nat), .bool false] W (RefP F W rb st' Q.length (.int .i64 x))) := by
  by_cases hi : InT st p n
  · by_cases hf : (tl st p n).f = 0
    · refine ⟨_, _, fun h => ?_, fun h => (r9_give h hl p n false hi hf).mono fun _ _ => RfL.to (Nat.le_refl _)⟩
      refine (giveT_any h.tr p n hp hn).mono ?_
      rintro e W' ⟨h1, h2, h3⟩
      obtain ⟨e1, e2⟩ := h3 (cntT_inT.2 hi) (by omega)
      exact ⟨e1, h.chg e2⟩
    · refine ⟨_, _, fun h => ?_, fun h => (r9_give_free h hl p n false hi (by omega)).mono fun _ _ => RfL.to (Nat.le_refl _)⟩
      refine (giveT_any h.tr p n hp hn).mono ?_
      rintro e W' ⟨h1, h2, h3⟩
      obtain ⟨e1, e2⟩ := h2 (cntT_inT.2 hi) (by omega)
      exact ⟨e1, h.chg e2⟩
  · refine ⟨_, _, fun h => ?_, fun h => (r9_give_bad h hl p n hp hn false hi).mono fun _ _ => RfL.to (Nat.le_refl _)⟩
    refine (giveT_any h.tr p n hp hn).mono ?_
    rintro e W' ⟨h1, h2, h3⟩
    obtain ⟨e1, e2⟩ := h1 (Classical.not_not.1 fun z => hi (cntT_inT.1 z))
    exact ⟨e1, h.chg e2⟩
theorem pair_back (m : Mt st Q) (hl : Q.length ≤ 1000000) (p n : Nat) (hp : p < 18446744073709551616) (hn : n < 18446744073709551616) :
    ∃ (x : Int) (st' : Nat → Nat), (∀ {N : Nat} {O : Nat → Prop} {w W : World} {tb : Nat}, T9 N O w W tb st → Calls Tryz.prog 54 #[.pointer (some ⟨tb, 0, none⟩), .int .u64 (p : Nat), .int .u64 (n : Nat)] W (LandP N O w tb st' W (.int .i64 x))) ∧
      (∀ {F : Nat → Prop} {W : World} {rb : Nat} {o : Option Addr} {k : Nat}, RefAt F W rb st Q o k → Calls Tryz.prog 28 #[.pointer (some ⟨rb, 0, none⟩), .int .u64 (p : Nat), .int .u64 (n : Nat), .bool true] W (RefP F W rb st' Q.length (.int .i64 x))) := by
  by_cases hi : InT st p n
  · by_cases hf : (tl st p n).f = 0
    · refine ⟨_, _, fun h => ?_, fun h => (r9_give h hl p n true hi hf).mono fun _ _ => RfL.to (Nat.le_refl _)⟩
      refine (backT_any h.tr p n hp hn).mono ?_
      rintro e W' ⟨h1, h2, h3⟩
      obtain ⟨e1, e2⟩ := h3 (cntT_inT.2 hi) (by omega)
      exact ⟨e1, h.chg e2⟩
    · refine ⟨_, _, fun h => ?_, fun h => (r9_give_free h hl p n true hi (by omega)).mono fun _ _ => RfL.to (Nat.le_refl _)⟩
      refine (backT_any h.tr p n hp hn).mono ?_
      rintro e W' ⟨h1, h2, h3⟩
      obtain ⟨e1, e2⟩ := h2 (cntT_inT.2 hi) (by omega)
      exact ⟨e1, h.chg e2⟩
  · refine ⟨_, _, fun h => ?_, fun h => (r9_give_bad h hl p n hp hn true hi).mono fun _ _ => RfL.to (Nat.le_refl _)⟩
    refine (backT_any h.tr p n hp hn).mono ?_
    rintro e W' ⟨h1, h2, h3⟩
    obtain ⟨e1, e2⟩ := h1 (Classical.not_not.1 fun z => hi (cntT_inT.1 z))
    exact ⟨e1, h.chg e2⟩
theorem pair_find (m : Mt st Q) (hl : Q.length ≤ 1000000) (n : Nat) (hn : n < 18446744073709551616) :
    ∃ (x : Int) (b : Bool), (∀ {N : Nat} {O : Nat → Prop} {w W : World} {tb : Nat}, T9 N O w W tb st → Calls Tryz.prog 44 #[.pointer (some ⟨tb, 0, none⟩), .int .u64 (n : Nat)] W (LandP N O w tb st W (.tuple #[.int .u64 x, .bool b]))) ∧
      (∀ {F : Nat → Prop} {W : World} {rb : Nat} {o : Option Addr} {k : Nat}, RefAt F W rb st Q o k → Calls Tryz.prog 55 #[.pointer (some ⟨rb, 0, none⟩), .int .u64 (n : Nat)] W (RefP F W rb st Q.length (.tuple #[.int .u64 x, .bool b]))) := by
  by_cases h0 : n = 0
  · exact ⟨_, _, fun h => t9_find_no h n hn (.inl h0), fun h => (r9_Find_no h hl n hn (.inl h0)).mono fun _ _ => RfL.to (Nat.le_refl _)⟩
  by_cases hr : ∃ p, Run st p n
  · obtain ⟨p, hp⟩ := hr
    obtain ⟨q, hq⟩ := first_ex p hp
    exact ⟨_, _, fun h => t9_find h n q hn (by omega) hq, fun h => (r9_Find h hl n q hn (by omega) hq).mono fun _ _ => RfL.to (Nat.le_refl _)⟩
  · have hf : ∀ p, ¬ Run st p n := fun p hp => hr ⟨p, hp⟩
    exact ⟨_, _, fun h => t9_find_no h n hn (.inr hf), fun h => (r9_Find_no h hl n hn (.inr hf)).mono fun _ _ => RfL.to (Nat.le_refl _)⟩
theorem pair_alloc (m : Mt st Q) (hl : Q.length ≤ 1000000) (n : Nat) (hn : n < 18446744073709551616) :
    ∃ (x y z : Int) (st' : Nat → Nat), (∀ {N : Nat} {O : Nat → Prop} {w W : World} {tb : Nat}, T9 N O w W tb st → Calls Tryz.prog 24 #[.pointer (some ⟨tb, 0, none⟩), .int .u64 (n : Nat)] W (LandP N O w tb st' W (.tuple #[.int .u64 x, .int .u64 y, .int .i64 z]))) ∧
      (∀ {F : Nat → Prop} {W : World} {rb : Nat} {o : Option Addr} {k : Nat}, RefAt F W rb st Q o k → Calls Tryz.prog 25 #[.pointer (some ⟨rb, 0, none⟩), .int .u64 (n : Nat)] W (RefP F W rb st' Q.length (.tuple #[.int .u64 x, .int .u64 y, .int .i64 z]))) := by
  by_cases h0 : n = 0
  · subst h0
    refine ⟨_, _, _, _, fun h => ?_, fun h => (r9_alloc_zero h).mono fun _ _ => RfL.to (Nat.le_refl _)⟩
    refine (alloc_any h.tr 0 hn).mono ?_
    rintro e W' (⟨_, he, hc⟩ | ⟨h1, _⟩ | ⟨h1, _⟩)
    · exact ⟨he, h.chg hc⟩
    · omega
    · omega
  by_cases hr : ∃ p, Run st p n
  · obtain ⟨p, hp⟩ := hr
    obtain ⟨q, hq⟩ := first_ex p hp
    exact ⟨_, _, _, _, fun h => t9_alloc h n q hn (by omega) hq, fun h => (r9_alloc h hl n q hn (by omega) hq).mono fun _ _ => RfL.to (Nat.le_refl _)⟩
  · have hf : ∀ p, ¬ Run st p n := fun p hp => hr ⟨p, hp⟩
    exact ⟨_, _, _, _, fun h => t9_alloc_no h n hn (by omega) hf, fun h => (r9_alloc_no h hl n hn (by omega) hf).mono fun _ _ => RfL.to (Nat.le_refl _)⟩
theorem pair_grow (m : Mt st Q) (hl : Q.length ≤ 1000000) (c n : Nat) (hc : c < 18446744073709551616) (hn : n < 18446744073709551616) :
    ∃ (x : Int) (st' : Nat → Nat), (∀ {N : Nat} {O : Nat → Prop} {w W : World} {tb : Nat}, T9 N O w W tb st → Calls Tryz.prog 6 #[.pointer (some ⟨tb, 0, none⟩), .int .u64 (c : Nat), .int .u64 (n : Nat)] W (LandP N O w tb st' W (.int .i64 x))) ∧
      (∀ {F : Nat → Prop} {W : World} {rb : Nat} {o : Option Addr} {k : Nat}, RefAt F W rb st Q o k → Calls Tryz.prog 7 #[.pointer (some ⟨rb, 0, none⟩), .int .u64 (c : Nat), .int .u64 (n : Nat)] W (RefP F W rb st' (Q.length + if n ≤ 262144 then n else 0) (.int .i64 x))) := by
  by_cases hb : GrowBad c n
  · exact ⟨_, _, fun h => t9_grow_bad h c n hc hn hb, fun h => (r9_grow_bad h c n hc hn hb).mono fun _ _ => RfL.to (Nat.le_add_right _ _)⟩
  by_cases ht : 0 < (tl st (c * 512) (n * 512)).p
  · exact ⟨_, _, fun h => t9_grow_twice h c n hb ht, fun h => (r9_grow_twice h hl c n hb ht).mono fun _ _ => RfL.to (Nat.le_add_right _ _)⟩
  · refine ⟨_, _, fun h => t9_grow h c n hb (by omega), fun h => (r9_grow h hl c n hb ht).mono ?_⟩
    rintro e W' ⟨e1, ⟨B, o', k', hB, hr⟩, kp⟩
    refine ⟨e1, ⟨_, o', k', hr, ?_⟩, kp⟩
    unfold grownQ
    rw [List.length_append, List.length_append, news_len, hB, List.length_take, List.length_drop, if_pos (by unfold GrowBad at hb; omega)]
    omega
theorem pair_state (m : Mt st Q) (hl : Q.length ≤ 1000000) (p : Nat) (hp : p < 18446744073709551616) :
    ∃ (a b c : Bool), (∀ {N : Nat} {O : Nat → Prop} {w W : World} {tb : Nat}, T9 N O w W tb st → Calls Tryz.prog 11 #[.pointer (some ⟨tb, 0, none⟩), .int .u64 (p : Nat)] W (LandP N O w tb st W (.tuple #[.bool a, .bool b, .bool c]))) ∧
      (∀ {F : Nat → Prop} {W : World} {rb : Nat} {o : Option Addr} {k : Nat}, RefAt F W rb st Q o k → Calls Tryz.prog 12 #[.pointer (some ⟨rb, 0, none⟩), .int .u64 (p : Nat)] W (RefP F W rb st Q.length (.tuple #[.bool a, .bool b, .bool c]))) := by
  exact ⟨_, _, _, fun h => t9_state h p hp, fun h => (r9_state h hl p hp).mono fun e W' ⟨e1, e2⟩ => RfL.to (Nat.le_refl _) ⟨e1, h.same e2⟩⟩
theorem pair_free (m : Mt st Q) (hl : Q.length ≤ 1000000) :
    ∃ x : Int, (∀ {N : Nat} {O : Nat → Prop} {w W : World} {tb : Nat}, T9 N O w W tb st → Calls Tryz.prog 35 #[.pointer (some ⟨tb, 0, none⟩)] W (LandP N O w tb st W (.int .u64 x))) ∧
      (∀ {F : Nat → Prop} {W : World} {rb : Nat} {o : Option Addr} {k : Nat}, RefAt F W rb st Q o k → Calls Tryz.prog 36 #[.pointer (some ⟨rb, 0, none⟩)] W (RefP F W rb st Q.length (.int .u64 x))) :=
  ⟨_, fun h => t9_free h, fun h => (r9_free h hl).mono fun e W' ⟨e1, e2⟩ => RfL.to (Nat.le_refl _) ⟨e1, h.same e2⟩⟩
theorem pair_released (m : Mt st Q) (hl : Q.length ≤ 1000000) :
    ∃ x : Int, (∀ {N : Nat} {O : Nat → Prop} {w W : World} {tb : Nat}, T9 N O w W tb st → Calls Tryz.prog 37 #[.pointer (some ⟨tb, 0, none⟩)] W (LandP N O w tb st W (.int .u64 x))) ∧
      (∀ {F : Nat → Prop} {W : World} {rb : Nat} {o : Option Addr} {k : Nat}, RefAt F W rb st Q o k → Calls Tryz.prog 38 #[.pointer (some ⟨rb, 0, none⟩)] W (RefP F W rb st Q.length (.int .u64 x))) :=
  ⟨_, fun h => t9_released h, fun h => (r9_released h hl).mono fun e W' ⟨e1, e2⟩ => RfL.to (Nat.le_refl _) ⟨e1, h.same e2⟩⟩
end
end Go.Proofs.YtnclicdnncgdiaaGreatDoor

/- Both trees beside one another: act: its contract. -/
namespace Go.Proofs.YtnclicdnncgdiaaGreatDoor
open Go.ChangeShapes Go.WideShapes Go.ChangeAt Go.RowKit Go.Proofs.Bt Go.Shelf Go.Proofs.Rx Go.Maps Go.Proofs.Pk
set_option linter.unusedVariables false
set_option linter.unusedSimpArgs false

/-- Both trees have the same pages; the reference's blocks F are none of O. -/
structure Both (N : Nat) (O : Nat → Prop) (w W : World) (tb rb : Nat) (st : Nat → Nat) (Q : List (Nat × Nat)) (F : Nat → Prop) (o : Option Addr) (k : Nat) : Prop where
  t : T9 N (fun x => F x ∨ O x) w W tb st
  r : RefAt F W rb st Q o k
  ap : ∀ x, F x → ¬ O x
def BothE (N : Nat) (O : Nat → Prop) (w W : World) (tb rb M : Nat) : Prop := ∃ st Q F o k, Both N O w W tb rb st Q F o k ∧ Q.length ≤ M
section
variable {N : Nat} {O : Nat → Prop} {w W W' : World} {tb rb : Nat} {st st' : Nat → Nat} {Q : List (Nat × Nat)} {F : Nat → Prop} {o : Option Addr} {k M : Nat}
theorem T9.weak {O' : Nat → Prop} (h : T9 N O w W tb st) (hO : ∀ x, O' x → O x) : T9 N O' w W tb st := h.more (Below.refl _ _) (fun x hx => .inl (hO x hx))
theorem T9.inO (h : T9 N O w W tb st) {x : Nat} (hx : O x) : N ≤ x ∧ x < W.heap.size := by
  obtain ⟨T, L, C, _, _, _, h2⟩ := h.tr
  exact (h2 x hx).2
/-- With a block of one's own. -/
theorem Both.own (h : Both N O w W tb rb st Q F o k) (b : Below W.heap.size W W') : T9 N (fun x => F x ∨ O x ∨ (W.heap.size ≤ x ∧ x < W'.heap.size)) w W' tb st ∧ RefAt F W' rb st Q o k :=
  ⟨h.t.more b (fun x hx => by
    rcases hx with z | z | z
    · exact .inl (.inl z)
    · exact .inl (.inr z)
    · exact .inr z), h.r.below b⟩
/-- Behind a call of each. -/
theorem Both.done {w0 W1 W2 : World} {A : Nat → Prop} {Q' : List (Nat × Nat)} {o' : Option Addr} {k' : Nat} (h : Both N O w W tb rb st Q F o k) (k0 : Kept (fun x => N ≤ x ∧ ¬ O x) W w0) (t1 : T9 N (fun x => F x ∨ O x ∨ A x) w W1 tb st') (l1 : Left9 N (fun x => F x ∨ O x ∨ A x) w0 W1)
    (r2 : RefAt (fun x => F x ∨ (W1.heap.size ≤ x ∧ x < W2.heap.size)) W2 rb st' Q' o' k') (k2 : Kept F W1 W2) (hQ : Q'.length ≤ M) : BothE N O w W2 tb rb M ∧ Left9 N O W W2 := by
  have s2 := k2.size
  have t2 : T9 N (fun x => (F x ∨ (W1.heap.size ≤ x ∧ x < W2.heap.size)) ∨ O x) w W2 tb st' := t1.grow k2 (fun x hx => ⟨.inl hx, (t1.inO (.inl hx)).1⟩) (fun x hx => by
    rcases hx with (z | z) | z
    · exact .inl (.inl z)
    · exact .inr z
    · exact .inl (.inr (.inl z)))
  refine ⟨⟨st', Q', _, o', k', ⟨t2, r2, fun x hx z => ?_⟩, hQ⟩, ?_⟩
  · rcases hx with y | y
    · exact h.ap x y z
    · have := (t1.inO (.inr (.inl z))).2
      omega
  · have l1' : Kept (fun x => N ≤ x ∧ ¬ O x) w0 W1 := Kept.mono l1 (fun x hx => ⟨hx.1, fun z => hx.2 (.inr (.inl z))⟩)
    have k2' : Kept (fun x => N ≤ x ∧ ¬ O x) W1 W2 := k2.mono (fun x hx => ⟨(t1.inO (.inl hx)).1, h.ap x hx⟩)
    exact (k0.trans l1' (fun _ _ z => z)).trans k2' (fun _ _ z => z)
/-- Behind reading alone. -/
theorem Both.read (h : Both N O w W tb rb st Q F o k) (b : Below W.heap.size W W') : Both N O w W' tb rb st Q F o k := ⟨(h.t.read b).1, h.r.below b, h.ap⟩
end
/-- What act leaves. -/
def ActR (N : Nat) (O : Nat → Prop) (w W : World) (tb rb M : Nat) (e : Ending) (W' : World) : Prop := e = .returned (.bool true) ∧ BothE N O w W' tb rb M ∧ Left9 N O W W'
/-- How many chunks an act may add. -/
def more9 (a : Int) (y : Nat) : Nat := if a = 1 ∧ y ≤ 262144 then y else 0
end Go.Proofs.YtnclicdnncgdiaaGreatDoor

/- Two trees and two pairs of caches beside one another: what is known of them; what both sides answer alike. -/
namespace Go.Proofs.YtnclicdnncgdiaaGreatDoor
open Go.ChangeShapes Go.WideShapes Go.ChangeAt Go.RowKit Go.Proofs.Bt Go.Shelf Go.Proofs.Rx Go.Maps Go.Proofs.Pk
set_option linter.unusedVariables false
set_option linter.unusedSimpArgs false

/-- What a cache has: its block's first page as the one and as the other keeps it, which pages it has, which are released. -/
structure Cd where
  B : Nat
  Bq : Nat
  hs : Nat → Bool
  gn : Nat → Bool
def Cd.H (x : Cd) : Nat := wd x.hs 64
def Cd.G (x : Cd) : Nat := wd (fun j => x.hs j && x.gn j) 64
theorem wd_congr {f g : Nat → Bool} (h : ∀ k, k < 64 → f k = g k) : wd f 64 = wd g 64 := (wd_of (wd_lt f (Nat.le_refl _)) fun k hk => by rw [wd_bit, decide_eq_true hk, Bool.true_and]; exact h k hk)
theorem H_bit {x : Cd} {j : Nat} : x.H.testBit j = (decide (j < 64) && x.hs j) := wd_bit _ _ _
theorem G_bit {x : Cd} {j : Nat} : x.G.testBit j = (decide (j < 64) && (x.hs j && x.gn j)) := wd_bit _ _ _
theorem H_none {x : Cd} (h : none64 x.hs) : x.H = 0 := zero_of_bits fun k => by
  rw [H_bit]
  by_cases z : k < 64
  · rw [h k z, Bool.and_false]
  · rw [decide_eq_false z]; rfl
theorem H_some {x : Cd} (h : ¬ none64 x.hs) : x.H ≠ 0 := fun z => h fun k hk => by
  have := H_bit (x := x) (j := k)
  rw [z, Nat.zero_testBit, decide_eq_true hk, Bool.true_and] at this
  exact this.symm
theorem word_wd (f : Nat → Bool) : word64 f = wd f 64 := wd_of (word64_lt f) fun k hk => word64_bit f hk
/-- What stands of a cache beside a tree. -/
structure Gd (st : Nat → Nat) (x : Cd) : Prop where
  eq : none64 x.hs ∨ x.B = x.Bq
  b : x.B + 64 ≤ 34359738368
  q : x.Bq + 64 ≤ 34359738368
  own : ∀ j, j < 64 → x.hs j = true → st (x.Bq + j) = 1
/-- No page is of both. -/
def Apart2 (x y : Cd) : Prop := ∀ i j, i < 64 → j < 64 → x.hs i = true → y.hs j = true → x.Bq + i ≠ y.Bq + j
theorem Apart2.symm {x y : Cd} (h : Apart2 x y) : Apart2 y x := fun i j hi hj h1 h2 e => h j i hj hi h2 h1 e.symm
theorem Gd.of {st st' : Nat → Nat} {x : Cd} (h : Gd st x) (hs : ∀ q, st q = 1 → st' q = 1) : Gd st' x := ⟨h.eq, h.b, h.q, fun j hj z => hs _ (h.own j hj z)⟩
section
variable {st : Nat → Nat} {Q : List (Nat × Nat)}
/-- What a call of the landed cache answers and leaves. -/
def LndP (N : Nat) (O : Nat → Prop) (w : World) (tb cb : Nat) (st : Nat → Nat) (x : Cd) (W : World) (v : Value) (e : Ending) (W' : World) : Prop :=
  e = .returned v ∧ TC N O w W' tb cb st x.B x.H x.G ∧ LeftC N O cb W W'
/-- What a call of the reference's answers and leaves. -/
def RfcP (F : Nat → Prop) (W : World) (rb b : Nat) (st : Nat → Nat) (x : Cd) (Q : List (Nat × Nat)) (o : Option Addr) (k : Nat) (v : Value) (e : Ending) (W' : World) : Prop :=
  e = .returned v ∧ RefAt F W' rb st Q o k ∧ PcAt W' b x.Bq x.hs x.gn ∧ Kept (fun z => F z ∨ z = b) W W'
/-- What others keep of theirs. -/
def Fair (st st' : Nat → Nat) (x x' : Cd) : Prop := Gd st' x' ∧ ∀ y, Gd st y → Apart2 x y → Gd st' y ∧ Apart2 x' y
theorem Fair.refl {x : Cd} (h : Gd st x) : Fair st st x x := ⟨h, fun y hy ha => ⟨hy, ha⟩⟩
theorem below_drewN (W : World) (j : Nat) : Below W.heap.size W (W.drewN j) := ⟨rfl, rfl, rfl, Nat.le_refl _, fun _ _ => rfl⟩
theorem rfc_same {F : Nat → Prop} {W W' : World} {rb b : Nat} {x : Cd} {o : Option Addr} {k : Nat} {v : Value} {e : Ending} (r : RefAt F W rb st Q o k) (p : PcAt W b x.Bq x.hs x.gn) (he : e = .returned v) (hb : Below W.heap.size W W') : RfcP F W rb b st x Q o k v e W' :=
  ⟨he, r.below hb, p.below hb, Kept.of_below hb⟩
theorem pair_fill (hl : Q.length ≤ 1000000) (x : Cd) (g : Gd st x) (ho : ∀ q, 34359738368 ≤ q → st q = 0) :
    ∃ (v : Int) (st' : Nat → Nat) (x' : Cd), (∀ {N : Nat} {O : Nat → Prop} {w W : World} {tb cb : Nat}, TC N O w W tb cb st x.B x.H x.G → Calls Tryz.prog 18 #[.pointer (some ⟨cb, 0, none⟩), .pointer (some ⟨tb, 0, none⟩)] W (LndP N O w tb cb st' x' W (.int .i64 v))) ∧
      (∀ {F : Nat → Prop} {W : World} {rb b : Nat} {o : Option Addr} {k : Nat}, RefAt F W rb st Q o k → PcAt W b x.Bq x.hs x.gn → ¬ F b → Calls Tryz.prog 19 #[.pointer (some ⟨b, 0, none⟩), .pointer (some ⟨rb, 0, none⟩)] W (RfcP F W rb b st' x' Q o k (.int .i64 v))) ∧ Fair st st' x x' := by
  by_cases z : none64 x.hs
  · by_cases hr : ∃ p, Run st p 1
    · obtain ⟨p0, hp0⟩ := hr
      obtain ⟨p, hp⟩ := first_ex p0 hp0
      have pl : p < 34359738368 := by
        have := hp.1 p (Nat.le_refl _) (by omega)
        rcases Nat.lt_or_ge p 34359738368 with y | y
        · exact y
        · rw [ho p y] at this; omega
      obtain ⟨B, hB⟩ : ∃ B, p / 64 * 64 = B := ⟨_, rfl⟩
      have hB2 : p - p % 64 = B := by omega
      have fr : ∀ j, fre st (B + j) = true → 2 ≤ st (B + j) := fun j h => by unfold fre at h; exact of_decide_eq_true h
      refine ⟨0, fillS st B 64, ⟨B, B, fun j => if j < 64 then fre st (B + j) else x.hs j, fun j => if j < 64 then rel st (B + j) else x.gn j⟩, fun {N O w W tb cb} h => ?_, fun {F W rb b o k} r pc hb => ?_, ⟨⟨.inr rfl, ?_, ?_, ?_⟩, ?_⟩⟩
      · rw [H_none z] at h
        refine (tc_fill h p hp).mono ?_
        rintro e W' ⟨e1, c1, l1⟩
        rw [hB] at c1
        refine ⟨e1, ?_, l1⟩
        have eH : wd (fun j => fre st (B + j)) 64 = Cd.H ⟨B, B, fun j => if j < 64 then fre st (B + j) else x.hs j, fun j => if j < 64 then rel st (B + j) else x.gn j⟩ := wd_congr fun k hk => by dsimp only; rw [if_pos hk]
        have eG : wd (fun j => rel st (B + j)) 64 = Cd.G ⟨B, B, fun j => if j < 64 then fre st (B + j) else x.hs j, fun j => if j < 64 then rel st (B + j) else x.gn j⟩ := wd_congr fun k hk => by
          dsimp only
          rw [if_pos hk, if_pos hk]
          unfold fre rel
          by_cases y : st (B + k) = 3
          · rw [decide_eq_true y, decide_eq_true (by omega)]; rfl
          · rw [decide_eq_false y, Bool.and_false]
        rw [← eH, ← eG]
        exact c1
      · refine (pcFill pc r hl hb z p hp).mono ?_
        rintro e W' ⟨e1, q1, r1, k1⟩
        rw [hB2] at q1 r1
        exact ⟨e1, r1, q1, k1⟩
      · show B + 64 ≤ 34359738368; omega
      · show B + 64 ≤ 34359738368; omega
      · intro j hj hh
        have hh' : (if j < 64 then fre st (B + j) else x.hs j) = true := hh
        rw [if_pos hj] at hh'
        show fillS st B 64 (B + j) = 1
        unfold fillS
        rw [if_pos ⟨by omega, by omega, fr j hh'⟩]
      · intro y gy ap
        refine ⟨gy.of fun q hq => ?_, fun i j hi hj h1 h2 e => ?_⟩
        · unfold fillS
          split
          · rfl
          · exact hq
        · have h1' : (if i < 64 then fre st (B + i) else x.hs i) = true := h1
          rw [if_pos hi] at h1'
          have := fr i h1'
          have e' : B + i = y.Bq + j := e
          rw [e', gy.own j hj h2] at this
          omega
    · have hf : ∀ p, ¬ Run st p 1 := fun p hp => hr ⟨p, hp⟩
      refine ⟨30, st, x, fun {N O w W tb cb} h => ?_, fun {F W rb b o k} r pc hb => ?_, Fair.refl g⟩
      · rw [H_none z] at h
        refine (tc_fill_full h hf).mono ?_
        rintro e W' ⟨e1, c1, l1⟩
        refine ⟨e1, ?_, l1⟩
        rw [H_none z]
        exact c1
      · refine (pcFill_full pc r hl z hf).mono ?_
        rintro e W' ⟨e1, j, e2⟩
        exact rfc_same r pc e1 (by rw [e2]; exact below_drewN W j)
  · refine ⟨33, st, x, fun {N O w W tb cb} h => ?_, fun {F W rb b o k} r pc hb => ?_, Fair.refl g⟩
    · exact tc_fill_state h (H_some z)
    · refine (pcFill_state pc z).mono ?_
      rintro e W' ⟨e1, e2⟩
      exact rfc_same r pc e1 (by rw [e2]; exact Below.refl _ _)
theorem flush_same {x : Cd} (g : Gd st x) : flushS st x.B x.H.testBit x.G.testBit 64 = flushS st x.Bq x.hs x.gn 64 := by
  funext q
  by_cases z : none64 x.hs
  · unfold flushS
    rw [if_neg (fun y => by rw [H_none z, Nat.zero_testBit] at y; cases y.2.2), if_neg (fun y => by rw [z (q - x.Bq) (by omega)] at y; cases y.2.2)]
  · have e := g.eq.resolve_left z
    unfold flushS
    rw [e, H_bit, G_bit]
    by_cases y : x.Bq ≤ q ∧ q < x.Bq + 64
    · have l : q - x.Bq < 64 := by omega
      rw [decide_eq_true l, Bool.true_and, Bool.true_and]
      cases h : x.hs (q - x.Bq) with
      | true => rw [Bool.true_and]
      | false => rw [if_neg (fun y => by cases y.2.2), if_neg (fun y => by cases y.2.2)]
    · rw [if_neg (fun u => y ⟨u.1, u.2.1⟩), if_neg (fun u => y ⟨u.1, u.2.1⟩)]
theorem pair_flush (hl : Q.length ≤ 1000000) (x : Cd) (g : Gd st x) :
    ∃ (st' : Nat → Nat) (x' : Cd), (∀ {N : Nat} {O : Nat → Prop} {w W : World} {tb cb : Nat}, TC N O w W tb cb st x.B x.H x.G → Calls Tryz.prog 22 #[.pointer (some ⟨cb, 0, none⟩), .pointer (some ⟨tb, 0, none⟩)] W (LndP N O w tb cb st' x' W (.tuple #[]))) ∧
      (∀ {F : Nat → Prop} {W : World} {rb b : Nat} {o : Option Addr} {k : Nat}, RefAt F W rb st Q o k → PcAt W b x.Bq x.hs x.gn → ¬ F b → Calls Tryz.prog 23 #[.pointer (some ⟨b, 0, none⟩), .pointer (some ⟨rb, 0, none⟩)] W (RfcP F W rb b st' x' Q o k (.tuple #[]))) ∧ Fair st st' x x' := by
  have nn : none64 (fun j => if j < 64 then false else x.hs j) := fun k hk => by dsimp only; rw [if_pos hk]
  refine ⟨flushS st x.Bq x.hs x.gn 64, ⟨0, x.Bq, fun j => if j < 64 then false else x.hs j, x.gn⟩, fun {N O w W tb cb} h => ?_, fun {F W rb b o k} r pc hb => ?_, ⟨⟨.inl nn, (show 0 + 64 ≤ 34359738368 by decide), g.q, fun j hj hh => ?_⟩, fun y gy ap => ⟨⟨gy.eq, gy.b, gy.q, fun j hj hh => ?_⟩, fun i j hi hj h1 h2 => ?_⟩⟩⟩
  · refine (tc_flush h g.b (fun j hj => ?_) (fun j hj => ?_)).mono ?_
    · rw [G_bit, Bool.and_eq_true, Bool.and_eq_true] at hj
      rw [H_bit, hj.1, hj.2.1]; rfl
    · rw [H_bit, Bool.and_eq_true] at hj
      have l := of_decide_eq_true hj.1
      rcases g.eq with z | z
      · rw [z j l] at hj; cases hj.2
      · rw [z]; exact g.own j l hj.2
    · rintro e W' ⟨e1, c1, l1⟩
      rw [flush_same g] at c1
      refine ⟨e1, ?_, l1⟩
      have e0 : Cd.H ⟨0, x.Bq, fun j => if j < 64 then false else x.hs j, x.gn⟩ = 0 := H_none nn
      have e2 : Cd.G ⟨0, x.Bq, fun j => if j < 64 then false else x.hs j, x.gn⟩ = 0 := zero_of_bits fun k => by
        rw [G_bit]
        by_cases z : k < 64
        · show (decide (k < 64) && ((if k < 64 then false else x.hs k) && x.gn k)) = false
          rw [if_pos z]; simp
        · rw [decide_eq_false z]; rfl
      rw [e0, e2]
      exact c1
  · refine (pcFlush pc r hl hb g.q g.own).mono ?_
    rintro e W' ⟨e1, q1, r1, k1⟩
    exact ⟨e1, r1, q1, k1⟩
  · have hh' : (if j < 64 then false else x.hs j) = true := hh
    rw [if_pos hj] at hh'
    cases hh'
  · have h1 := gy.own j hj hh
    unfold flushS
    rw [if_neg (fun z => ?_)]
    · exact h1
    · exact ap (y.Bq + j - x.Bq) j (by omega) hj z.2.2 hh (by omega)
  · have hh' : (if i < 64 then false else x.hs i) = true := h1
    rw [if_pos hi] at hh'
    cases hh'
theorem s64_row {x : Cd} {p n : Nat} : Run (s64 x.hs) p n ↔ Row x.H p n := by
  constructor
  · intro h k hk
    have := h (p + k) (by omega) (by omega)
    rw [H_bit]
    unfold s64 at this
    split at this
    · rename_i z
      rw [decide_eq_true z.1, z.2]; rfl
    · omega
  · intro h q q1 q2
    have := h (q - p) (by omega)
    rw [show p + (q - p) = q by omega, H_bit, Bool.and_eq_true] at this
    exact s64_has (of_decide_eq_true this.1) this.2
theorem pair_give10 (x : Cd) (g : Gd st x) (n : Int) :
    ∃ (v1 v2 v3 : Int) (x' : Cd), (∀ {N : Nat} {O : Nat → Prop} {w W : World} {tb cb : Nat}, TC N O w W tb cb st x.B x.H x.G → Calls Tryz.prog 20 #[.pointer (some ⟨cb, 0, none⟩), .int .i64 n] W (LndP N O w tb cb st x' W (.tuple #[.int .u64 v1, .int .i64 v2, .int .i64 v3]))) ∧
      (∀ {F : Nat → Prop} {W : World} {rb b : Nat} {o : Option Addr} {k : Nat}, RefAt F W rb st Q o k → PcAt W b x.Bq x.hs x.gn → ¬ F b → Calls Tryz.prog 21 #[.pointer (some ⟨b, 0, none⟩), .int .i64 n] W (RfcP F W rb b st x' Q o k (.tuple #[.int .u64 v1, .int .i64 v2, .int .i64 v3]))) ∧ Fair st st x x' := by
  have refl : ∀ {N : Nat} {O : Nat → Prop} {w W : World} {tb cb : Nat}, TC N O w W tb cb st x.B x.H x.G → ∀ {e : Ending} {W' : World} {v : Value}, e = .returned v → W' = W → LndP N O w tb cb st x W v e W' := by
    intro N O w W tb cb h e W' v he hW
    exact ⟨he, by rw [hW]; exact h, by rw [hW]; exact Kept.refl _ _⟩
  by_cases ok : 1 ≤ n ∧ n ≤ 64
  · by_cases hr : ∃ a, Row x.H a n.toNat
    · obtain ⟨a0, ha0⟩ := hr
      obtain ⟨a, -, ra, fa⟩ := least_of (fun a => Row x.H a n.toNat) a0 ha0
      have la := row_lt (wd_lt x.hs (Nat.le_refl _)) (by omega) ra
      have hh : ∀ k, a ≤ k → k < a + n.toNat → x.hs k = true := fun k k1 k2 => by
        have := ra (k - a) (by omega)
        rw [show a + (k - a) = k by omega, H_bit, Bool.and_eq_true] at this
        exact this.2
      have ns : ¬ none64 x.hs := fun z => by have := z a (by omega); rw [hh a (Nat.le_refl _) (by omega)] at this; cases this
      have eB := g.eq.resolve_left ns
      refine ⟨((x.Bq + a : Nat) : Int), (cnt x.gn a n.toNat : Nat), 0, ⟨x.B, x.Bq, fun j => if a ≤ j ∧ j < a + n.toNat then false else x.hs j, x.gn⟩, fun {N O w W tb cb} h => ?_, fun {F W rb b o k} r pc hb => ?_, ⟨⟨.inr eB, g.b, g.q, fun j hj hj2 => ?_⟩, fun y gy ap => ⟨gy, fun i j hi hj h1 h2 => ?_⟩⟩⟩
      · refine (tc_alloc h g.b n ok.1 ok.2 a ra fa).mono ?_
        rintro e W' ⟨e1, c1, l1⟩
        have e0 : cnt x.G.testBit a n.toNat = cnt x.gn a n.toNat := cnt_congr fun k hk => by rw [G_bit, decide_eq_true (by omega), hh (a + k) (by omega) (by omega)]; rfl
        rw [e0, eB] at e1
        refine ⟨e1, ?_, l1⟩
        have eH : andn x.H (on1 a n.toNat) = Cd.H ⟨x.B, x.Bq, fun j => if a ≤ j ∧ j < a + n.toNat then false else x.hs j, x.gn⟩ := wd_of (andn_lt _ (wd_lt x.hs (Nat.le_refl _))) fun k hk => by
          rw [andn_bit, on1_bit, H_bit, decide_eq_true hk, Bool.true_and]
          show _ = (if a ≤ k ∧ k < a + n.toNat then false else x.hs k)
          by_cases z : a ≤ k ∧ k < a + n.toNat
          · rw [if_pos z, decide_eq_true z]; simp
          · rw [if_neg z, decide_eq_false z]; simp
        have eG : andn x.G (on1 a n.toNat) = Cd.G ⟨x.B, x.Bq, fun j => if a ≤ j ∧ j < a + n.toNat then false else x.hs j, x.gn⟩ := wd_of (andn_lt _ (wd_lt _ (Nat.le_refl _))) fun k hk => by
          rw [andn_bit, on1_bit, G_bit, decide_eq_true hk, Bool.true_and]
          show _ = ((if a ≤ k ∧ k < a + n.toNat then false else x.hs k) && x.gn k)
          by_cases z : a ≤ k ∧ k < a + n.toNat
          · rw [if_pos z, decide_eq_true z]; simp
          · rw [if_neg z, decide_eq_false z]; simp
        rw [← eH, ← eG]
        exact c1
      · refine (pcAlloc pc g.q n).mono ?_
        rintro e W' (⟨h1, _⟩ | ⟨_, h2, _⟩ | ⟨_, b2, h2, h3, e1, q1, k1⟩)
        · exact absurd ok h1
        · exact absurd (s64_row.2 ra) (h2 a)
        · obtain rfl : b2 = a := by
            rcases Nat.lt_trichotomy a b2 with y | y | y
            · exact absurd (s64_row.2 ra) (h2.2 a y)
            · exact y.symm
            · exact absurd (s64_row.1 h2.1) (fa b2 y)
          exact ⟨e1, r.far hb k1, q1, k1.mono (fun z hz => .inr hz)⟩
      · have hj3 : (if a ≤ j ∧ j < a + n.toNat then false else x.hs j) = true := hj2
        split at hj3
        · cases hj3
        · exact g.own j hj hj3
      · have hj3 : (if a ≤ i ∧ i < a + n.toNat then false else x.hs i) = true := h1
        split at hj3
        · cases hj3
        · exact ap i j hi hj hj3 h2
    · have no : ∀ a, ¬ Row x.H a n.toNat := fun a ha => hr ⟨a, ha⟩
      refine ⟨0, 0, 30, x, fun {N O w W tb cb} h => ?_, fun {F W rb b o k} r pc hb => ?_, Fair.refl g⟩
      · exact (tc_alloc_no h g.b n ok.1 ok.2 no).mono fun e W' ⟨e1, e2⟩ => refl h e1 e2
      · refine (pcAlloc pc g.q n).mono ?_
        rintro e W' (⟨h1, _⟩ | ⟨_, h2, e1, e2⟩ | ⟨_, b2, h2, h3, e1, q1, k1⟩)
        · exact absurd ok h1
        · exact rfc_same r pc e1 (by rw [e2]; exact Below.refl _ _)
        · exact absurd (s64_row.1 h2.1) (no b2)
  · refine ⟨0, 0, 1, x, fun {N O w W tb cb} h => ?_, fun {F W rb b o k} r pc hb => ?_, Fair.refl g⟩
    · exact (tc_alloc_bad h g.b n ok).mono fun e W' ⟨e1, e2⟩ => refl h e1 e2
    · refine (pcAlloc pc g.q n).mono ?_
      rintro e W' (⟨h1, e1, e2⟩ | ⟨h2, _⟩ | ⟨h2, _⟩)
      · exact rfc_same r pc e1 (by rw [e2]; exact Below.refl _ _)
      · exact absurd h2 ok
      · exact absurd h2 ok
end
end Go.Proofs.YtnclicdnncgdiaaGreatDoor
