/- Package fix: New, Take, Give, Bytes of a store of records: contracts. -/
import Derived.Test.YtmpddppjkfflnaaFx
namespace Go.Proofs.Ytmpddppjkfflnaa
open Go.ChangeShapes Go.WideShapes Go.ChangeAt Go.RowKit Go.Shelf Go.Proofs.Rx Go.Maps
set_option linter.unusedVariables false
set_option linter.unusedSimpArgs false

attribute [local go_sem] Oper.semAt_some

/-! ### Ceil, Bytes -/
def ceilV (n a : Int) : Int := if a = 0 then 0 else if n % a = 0 then n / a else n / a + 1
theorem ceil_fits (n a : Int) (hn : 0 ≤ n ∧ n ≤ 18446744073709551615) (ha : 0 ≤ a ∧ a ≤ 18446744073709551615) (hm : ¬ n % a = 0) (h0 : ¬ a = 0) : n / a + 1 ≤ 18446744073709551615 := by
  have h1 : a ≠ 1 := by intro h; subst h; simp at hm
  have h2 := Int.mul_ediv_add_emod n a
  have h3 : 0 ≤ n / a := Int.ediv_nonneg hn.1 ha.1
  have h4 : 2 * (n / a) ≤ a * (n / a) := Int.mul_le_mul_of_nonneg_right (by omega) h3
  have h5 := Int.emod_nonneg n h0
  omega
theorem ceil_any (n a : Int) (hn : 0 ≤ n ∧ n ≤ 18446744073709551615) (ha : 0 ≤ a ∧ a ≤ 18446744073709551615) (w : World) :
    Calls Try.prog 29 #[.int .u64 n, .int .u64 a] w fun e w' => e = .returned (.tuple #[.int .u64 (ceilV n a), .bool (decide (a ≠ 0))]) ∧ w' = w := by
  by_cases h0 : a = 0
  · subst h0
    go_enter Try.func29, Try.ntmps29
    go_wp2
    go_ret2
    exact ⟨rfl, rfl⟩
  · obtain ⟨e1, e2, f1, f2, f3, f4, f5⟩ := mod_facts n a hn.1 ha.1 h0
    have z : (a == 0) = false := by simpa using h0
    have eO : decide (a ≠ 0) = true := by simpa using h0
    rw [eO]
    clear e1 e2 eO
    by_cases hm : n % a = 0
    · have eV : ceilV n a = n / a := by simp [ceilV, h0, hm]
      rw [eV]
      have t : (n % a == 0) = true := by simpa using hm
      clear eV hm
      go_enter Try.func29, Try.ntmps29
      go_wp2
      go_ret2
      exact ⟨rfl, rfl⟩
    · have eV : ceilV n a = n / a + 1 := by simp [ceilV, h0, hm]
      have small : n / a + 1 ≤ 18446744073709551615 := ceil_fits n a hn ha hm h0
      rw [eV]
      have t : (n % a == 0) = false := by simpa using hm
      clear eV hm
      go_enter Try.func29, Try.ntmps29
      go_wp2
      go_ret2
      exact ⟨rfl, rfl⟩
/-- Whole pieces. -/
def byV (n a : Int) : Int := (n + a - 1) / a * 16384
theorem ceil_eq (n a : Int) (hn : 0 ≤ n) (ha : 1 ≤ a) : ceilV n a = (n + a - 1) / a := by
  have h1 := Int.mul_ediv_add_emod n a
  have h2 := Int.emod_nonneg n (show a ≠ 0 by omega)
  have h3 := Int.emod_lt_of_pos n (show 0 < a by omega)
  unfold ceilV
  rw [if_neg (by omega)]
  by_cases c : n % a = 0
  · rw [if_pos c]
    have e : n + a - 1 = (a - 1) + n / a * a := by rw [Int.mul_comm (n / a) a]; omega
    rw [e, Int.add_mul_ediv_right _ _ (by omega), Int.ediv_eq_zero_of_lt (show 0 ≤ a - 1 by omega) (by omega), Int.zero_add]
  · rw [if_neg c]
    have e : n + a - 1 = (n % a - 1) + (n / a + 1) * a := by rw [Int.add_mul, Int.mul_comm (n / a) a]; omega
    rw [e, Int.add_mul_ediv_right _ _ (by omega), Int.ediv_eq_zero_of_lt (show 0 ≤ n % a - 1 by omega) (by omega), Int.zero_add]
theorem ceil_small (n a : Int) (hn : 0 ≤ n) (hn2 : n ≤ 100000) (ha : 1 ≤ a) (ha2 : a ≤ 16384) : 0 ≤ (n + a - 1) / a ∧ (n + a - 1) / a ≤ 200000 := by
  have := Int.ediv_le_self (b := a) (a := n + a - 1) (by omega)
  exact ⟨Int.ediv_nonneg (by omega) (by omega), by omega⟩
section
variable {N : Nat} {W W' : World} {fb : Nat} {v p : Value} {bs : List Nat} {each c : Int} {L : List Bool} {B : List Nat}
theorem bytes_any (h : FxAt N W fb v p bs each c L B) (hL : L.length ≤ 100000) (h1 : 1 ≤ each) (h2 : each ≤ 16384) :
    Calls Try.prog 22 #[.pointer (some ⟨fb, 0, none⟩)] W fun e W' => e = .returned (.int .i64 (byV L.length each)) ∧ ∃ j, W' = W.drewN j := by
  have y0 := h.bk.cell 0 _ rfl
  have y1 := h.bk.cell 1 _ rfl
  obtain ⟨m, hm⟩ : ∃ m : Nat, L.length = m := ⟨_, rfl⟩
  obtain ⟨o, cap, rfl⟩ := row_form h.row
  rw [hm] at y1 hL ⊢
  have C := hide (ceil_any (m : Int) each (by omega) (by omega))
  rw [ceil_eq _ _ (by omega) h1] at C
  generalize decide (each ≠ 0) = O at C
  obtain ⟨s1, s2⟩ := ceil_small (m : Int) each (by omega) (by omega) h1 h2
  unfold byV
  generalize ((m : Int) + each - 1) / each = Q at *
  have w1 : IntKind.u64.wrap (m : Int) = (m : Int) := by rw [IntKind.wrap_u64]; omega
  have w2 : IntKind.u64.wrap each = each := by rw [IntKind.wrap_u64]; omega
  have w3 : IntKind.i64.wrap Q = Q := by rw [IntKind.wrap_i64]; omega
  have w4 : IntKind.i64.wrap (Q * 16384) = Q * 16384 := by rw [IntKind.wrap_i64]; omega
  clear h hm
  go_enter Try.func22, Try.ntmps22
  go_wp2_with fail
  go_quiet (first | (go_at_call 29; refine Calls.quiet_of_same (C.out _)))
  go_wp2_with fail
  go_ret
  exact ⟨rfl, _, rfl⟩
/-! ### New -/
theorem new_no (s : Int) (h : s < 1 ∨ 16384 < s) (w : World) :
    Calls Try.prog 7 #[.int .i64 s] w fun e w' => e = .returned (.tuple #[.pointer none, .int .i64 1]) ∧ w' = w := by
  by_cases c1 : s < 1
  · have d1 : decide (s < 1) = true := decide_eq_true c1
    go_enter Try.func7, Try.ntmps7
    go_wp2_with fail
    go_ret2
    exact ⟨rfl, rfl⟩
  · have d1 : decide (s < 1) = false := decide_eq_false c1
    have d2 : decide (16384 < s) = true := decide_eq_true (h.resolve_left c1)
    go_enter Try.func7, Try.ntmps7
    go_wp2_with fail
    go_ret2
    exact ⟨rfl, rfl⟩
theorem new_ok (s : Int) (h1 : 1 ≤ s) (h2 : s ≤ 16384) (w : World) :
    Calls Try.prog 7 #[.int .i64 s] w fun e w' => e = .returned (.tuple #[.pointer (some ⟨w.heap.size, 0, none⟩), .int .i64 0]) ∧ w' = w.alloc (.cells #[.int .i64 (16384 / s), .slice none 0 0, .int .i64 0, .pointer none] 55) := by
  have d1 : decide (s < 1) = false := decide_eq_false (by omega)
  have d2 : decide (16384 < s) = false := decide_eq_false (by omega)
  have z : (s == 0) = false := by simp; omega
  have q0 : (16384 : Int).tdiv s = 16384 / s := Int.tdiv_eq_ediv_of_nonneg (by omega)
  have q9 : 0 ≤ 16384 / s := Int.ediv_nonneg (by omega) (by omega)
  have q8 : 16384 / s ≤ 16384 := Int.ediv_le_self _ (by omega)
  have q3 : IntKind.i64.wrap (16384 / s) = 16384 / s := by rw [IntKind.wrap_i64]; omega
  go_enter Try.func7, Try.ntmps7
  go_wp2_with fail
  go_ret2
  exact ⟨rfl, rfl⟩
theorem FxAt.new (hN : N ≤ W.heap.size) (each : Int) : FxAt N (W.alloc (.cells #[.int .i64 each, .slice none 0 0, .int .i64 0, .pointer none] 55)) W.heap.size (.slice none 0 0) (.pointer none) [] each 0 [] [] :=
  ⟨World.alloc_heap_new W _, World.ownsRow_nil _ _ _ _, ⟨rfl, rfl⟩, hN, by simp [Value.ownBlock], by simp, by simp, by simp⟩
/-! ### What is written -/
theorem FxAt.setOut {g cap : Nat} (h : FxAt N W fb (.slice (some ⟨g, 0, none⟩) L.length cap) p bs each c L B) (j : Nat) (x : Bool) :
    FxAt N (W.setCell ⟨g, j, none⟩ (.bool x)) fb (.slice (some ⟨g, 0, none⟩) L.length cap) p bs each c (L.set j x) B ∧ Kept (fun z => z = g) W (W.setCell ⟨g, j, none⟩ (.bool x)) := by
  have k := kept_set (F := fun z => z = g) W g j (.bool x) rfl
  refine ⟨⟨h.bk.kept k (fun e => h.n0 (by rw [e]; rfl)), ?_, h.lk.kept k (fun z hz e => h.n2 g rfl (e ▸ hz)), h.x, h.n0, h.n1, h.n2, h.ge⟩, k⟩
  have := (h.row.stored j (.bool x)).1
  rw [List.length_set, List.map_set]
  exact this
theorem FxAt.setCount (h : FxAt N W fb v p bs each c L B) (c' : Int) : FxAt N (W.setCell ⟨fb, 2, none⟩ (.int .i64 c')) fb v p bs each c' L B ∧ Kept (fun z => z = fb) W (W.setCell ⟨fb, 2, none⟩ (.int .i64 c')) := by
  have k := kept_set (F := fun z => z = fb) W fb 2 (.int .i64 c') rfl
  exact ⟨⟨h.bk.set 2 _, owns_kept h.row k (fun g hg e => h.n0 (e ▸ hg)), h.lk.kept k (fun z hz e => h.n1 (e ▸ hz)), h.x, h.n0, h.n1, h.n2, h.ge⟩, k⟩
theorem FxAt.push (h : FxAt N W fb v p bs each c L B) (hN : N ≤ W.heap.size) (hk : L.length < 100000) (q : Bool) (ty : TypeId) :
    ∃ g cap Y, (Builtin.append_ #[52, 52] ty #[v, .slice (some ⟨W.heap.size, 0, none⟩) 1 1]).run Try.prog (W.alloc (.cells #[.bool q] 4)) = .ok (.slice (some ⟨g, 0, none⟩) (L.length + 1) cap) Y ∧ Bk Y fb 55 #[.int .i64 each, v, .int .i64 c, p] ∧
      FxAt N (Y.setCell ⟨fb, 1, none⟩ (.slice (some ⟨g, 0, none⟩) (L.length + 1) cap)) fb (.slice (some ⟨g, 0, none⟩) (L.length + 1) cap) p bs each c (L ++ [q]) B ∧ Kept (ownF fb v bs) W (Y.setCell ⟨fb, 1, none⟩ (.slice (some ⟨g, 0, none⟩) (L.length + 1) cap)) ∧ ∀ z, ownF fb (.slice (some ⟨g, 0, none⟩) (L.length + 1) cap) bs z → ownF fb v bs z ∨ W.heap.size ≤ z := by
  have b2 := below_alloc W (.cells #[.bool q] 4)
  have h2 := h.below b2
  have n2 := World.alloc_heap_new W (.cells #[.bool q] 4)
  have xl := h.bk.lt
  obtain ⟨g, cap, Y, r1, r2, r3, r4, r5⟩ := bools_more h2.row hk W.heap.size q n2 (by rw [World.size_alloc]; omega) ty
  rw [World.size_alloc] at r4
  have gx : g ≠ fb := by
    rcases r4 with z | z
    · exact fun e => h.n0 (e ▸ z)
    · omega
  have gb : g ∉ bs := fun e => by
    rcases r4 with z | z
    · exact h.n2 g z e
    · have := h.lk.lt g e; omega
  have kz := kept_set (F := fun z => z = fb) Y fb 1 (.slice (some ⟨g, 0, none⟩) (L.length + 1) cap) rfl
  have bkY := h2.bk.kept r3 h.n0
  refine ⟨g, cap, Y, r1, bkY, ⟨bkY.set 1 _, by rw [List.length_append, List.length_singleton]; exact owns_kept r2 kz (fun z hz => by rw [← own_eq hz]; exact gx), (h2.lk.kept r3 (fun z hz u => h.n2 z u hz)).kept kz (fun z hz e => h.n1 (e ▸ hz)), h.x, (fun z => gx (own_eq z)), h.n1, (fun z hz => by rw [← own_eq hz]; exact gb), h.ge⟩, ?_, fun z hz => ?_⟩
  · refine ((Kept.of_below b2).trans (r3.mono (G := ownF fb v bs) fun z hz => ?_) (fun _ _ f => f)).trans (kz.mono (G := ownF fb v bs) fun z hz => .inl hz) (fun _ _ f => f)
    exact .inr (.inl hz)
  · rcases hz with hz | hz | hz
    · exact .inl (.inl hz)
    · rcases r4 with r | r
      · exact .inl (.inr (.inl (own_eq hz ▸ r)))
      · exact .inr (by rw [← own_eq hz]; omega)
    · exact .inl (.inr (.inr hz))
/-- What a change leaves. -/
def FxTo (N : Nat) (W W' : World) (fb : Nat) (v : Value) (bs : List Nat) (each c : Int) (L : List Bool) (B : List Nat) : Prop :=
  ∃ v' p' bs', FxAt N W' fb v' p' bs' each c L B ∧ Kept (ownF fb v bs) W W' ∧ ∀ z, ownF fb v' bs' z → ownF fb v bs z ∨ W.heap.size ≤ z
/-! ### Take -/
set_option maxRecDepth 100000 in
theorem take_new (h : FxAt N W fb v p bs each c L []) (hN : N ≤ W.heap.size) (hk : L.length < 100000) (hc0 : 0 ≤ c) (hc : c ≤ 100000) :
    Calls Try.prog 14 #[.pointer (some ⟨fb, 0, none⟩)] W fun e W' => e = .returned (.int .i64 ((L.length : Int) + 1)) ∧ FxTo N W W' fb v bs each (c + 1) (L ++ [true]) [] := by
  have y1 := h.bk.cell 1 _ rfl
  have CP := hide (pop_none h)
  obtain ⟨g, cap, Y, r1, r2, r3, r4, r5⟩ := h.push hN hk false 52
  obtain ⟨m, hm⟩ : ∃ m : Nat, L.length = m := ⟨_, rfl⟩
  rw [hm] at r1 r3 r4 r5 hk ⊢
  have RUN := hide r1
  have z1 := r2.cell 1 _ rfl
  have z2 := r2.fz 1
  have i0 : m < (L ++ [false]).length := by simp [hm]
  obtain ⟨g', cap', e', q1, q2⟩ := r3.cellAt i0 (x := false) (by rw [List.getElem?_append_right (by omega), hm]; simp)
  obtain ⟨rfl, -, rfl⟩ : g = g' ∧ True ∧ cap = cap' := by simp at e'; exact ⟨e'.1, trivial, e'.2.2⟩
  clear e'
  have eL : (L ++ [false]).length = m + 1 := by simp [hm]
  rw [← eL] at r3
  obtain ⟨s1, k1⟩ := r3.setOut m true
  have x2 := s1.bk.cell 2 _ rfl
  have x3 := s1.bk.fz 2
  obtain ⟨s2, k2⟩ := s1.setCount (c + 1)
  rw [show (L ++ [false]).set m true = L ++ [true] from by rw [List.set_append_right _ _ (by omega), hm]; simp] at s2
  rw [eL] at s2 x2 x3 k1 k2
  have KK := hide ((r4.trans (k1.mono (G := fun z => ownF fb v bs z ∨ W.heap.size ≤ z) fun z hz => ?_) (fun z hz u => u.resolve_right (by omega))).trans (k2.mono (G := fun z => ownF fb v bs z ∨ W.heap.size ≤ z) fun z hz => .inl (.inl hz)) (fun z hz u => u.resolve_right (by omega)))
  rotate_left
  · exact r5 z (.inr (.inl (by rw [hz]; rfl)))
  have S2 := hide (And.intro s2 r5)
  have w0 : IntKind.i64.wrap ((m : Int) + 1 - 1) = (m : Int) := by rw [IntKind.wrap_i64]; omega
  have w1 : IntKind.i64.wrap (c + 1) = c + 1 := by rw [IntKind.wrap_i64]; omega
  have e1 : ((m : Int) + 1 - 1).toNat = m := by omega
  clear h r1 r2 r3 r4 r5 s1 s2 k1 k2 eL i0
  go_enter Try.func14, Try.ntmps14
  go_wp2_with fail
  refine CP.out.mono ?_
  rintro e W1 ⟨rfl, hw⟩
  rw [hw]
  clear hw CP W1
  go_wp2_with (at_builtin; refine list_append_run (by rfl) (.tmp 12) (.tmp 13) 52 (by rfl) (by rfl) (by rfl) RUN.out ?_)
  go_ret
  exact ⟨rfl, _, _, _, S2.out.1, KK.out, S2.out.2⟩
set_option maxRecDepth 100000 in
theorem take_old {i : Nat} (h : FxAt N W fb v p bs each c L (i :: B)) (h1 : 1 ≤ i) (h2 : i ≤ L.length) (hk : L.length ≤ 100000) (hc0 : 0 ≤ c) (hc : c ≤ 100000) :
    Calls Try.prog 14 #[.pointer (some ⟨fb, 0, none⟩)] W fun e W' => e = .returned (.int .i64 (i : Nat)) ∧ FxTo N W W' fb v bs each (c + 1) (L.set (i - 1) true) B := by
  have H := hide h
  have CP := hide (pop_some h)
  obtain ⟨m, hm⟩ : ∃ m : Nat, L.length = m := ⟨_, rfl⟩
  have d0 : ((i : Int) == 0) = false := by simp; omega
  have w0 : IntKind.i64.wrap ((i : Int) - 1) = (i : Int) - 1 := by rw [IntKind.wrap_i64]; omega
  have w1 : IntKind.i64.wrap (c + 1) = c + 1 := by rw [IntKind.wrap_i64]; omega
  have e1 : ((i : Int) - 1).toNat = i - 1 := by omega
  have l0 : 0 ≤ (i : Int) - 1 := by omega
  have l1 : (i : Int) - 1 < (m : Int) := by omega
  have l2 : i - 1 < m := by omega
  clear h
  go_enter Try.func14, Try.ntmps14
  go_wp2_with fail
  refine CP.out.mono ?_
  rintro e W1 ⟨rfl, ⟨p', bs', h', hb'⟩, k'⟩
  obtain ⟨g, cap, e', q1, q2⟩ := h'.cellAt (j := i - 1) (by omega) (List.getElem?_eq_getElem (by omega))
  generalize L[i - 1]'(by omega) = X at q1
  subst e'
  have y1 := h'.bk.cell 1 _ rfl
  rw [hm] at y1
  obtain ⟨s1, k1⟩ := h'.setOut (i - 1) true
  have x2 := s1.bk.cell 2 _ rfl
  have x3 := s1.bk.fz 2
  obtain ⟨s2, k2⟩ := s1.setCount (c + 1)
  rw [hm] at x2
  have KK := hide (show Kept (ownF fb (.slice (some ⟨g, 0, none⟩) L.length cap) bs) W _ from ((k'.mono (G := ownF fb (.slice (some ⟨g, 0, none⟩) L.length cap) bs) fun z hz => .inl hz).trans (k1.mono (G := ownF fb (.slice (some ⟨g, 0, none⟩) L.length cap) bs) fun z hz => .inr (.inl (by rw [hz]; rfl))) (fun _ _ f => f)).trans (k2.mono (G := ownF fb (.slice (some ⟨g, 0, none⟩) L.length cap) bs) fun z hz => .inl hz) (fun _ _ f => f))
  have S2 := hide s2
  have HB := hide hb'
  clear h' k' k1 k2 s1 s2 hb' CP H
  go_wp2_with fail
  go_ret
  refine ⟨rfl, _, _, _, S2.out, KK.out, fun z hz => .inl ?_⟩
  rcases hz with hz | hz | hz
  · exact .inl hz
  · exact .inr (.inl hz)
  · exact .inr (.inr (HB.out z hz))
/-! ### Give -/
theorem give_no (h : FxAt N W fb v p bs each c L B) (hL : L.length ≤ 100000) (i : Int) (h0 : -9223372036854775808 ≤ i) (hi : lv L i = false) :
    Calls Try.prog 16 #[.pointer (some ⟨fb, 0, none⟩), .int .i64 i] W fun e W' => e = .returned (.int .i64 31) ∧ W' = W := by
  have C := hide (live_any h hL i h0)
  rw [hi] at C
  clear h
  go_enter Try.func16, Try.ntmps16
  go_wp2_with fail
  refine C.out.mono ?_
  rintro e W1 ⟨rfl, hw⟩
  rw [hw]
  clear hw C W1
  go_wp2_with fail
  go_ret
  exact ⟨rfl, rfl⟩
theorem lv_le {L : List Bool} {i : Int} (h : lv L i = true) : 1 ≤ i ∧ i ≤ L.length := by
  refine ⟨?_, ?_⟩
  · by_cases c : i < 1
    · rw [lv_out (.inl c)] at h; cases h
    · omega
  · by_cases c : (L.length : Int) < i
    · rw [lv_out (.inr c)] at h; cases h
    · omega
/-- One more at the list's head. -/
theorem FxAt.link (h : FxAt N W fb v p bs each c L B) (hN : N ≤ W.heap.size) (i : Nat) :
    FxAt N ((W.alloc (.cells #[.int .i64 (i : Nat), p] 66)).setCell ⟨fb, 3, none⟩ (.pointer (some ⟨W.heap.size, 0, none⟩))) fb v (.pointer (some ⟨W.heap.size, 0, none⟩)) (W.heap.size :: bs) each c L (i :: B) ∧ Kept (fun z => z = fb) W ((W.alloc (.cells #[.int .i64 (i : Nat), p] 66)).setCell ⟨fb, 3, none⟩ (.pointer (some ⟨W.heap.size, 0, none⟩))) := by
  have b := below_alloc W (.cells #[.int .i64 (i : Nat), p] 66)
  have h2 := h.below b
  have xl := h.bk.lt
  have hn : Bk (W.alloc (.cells #[.int .i64 (i : Nat), p] 66)) W.heap.size 66 #[.int .i64 (i : Nat), p] := World.alloc_heap_new W _
  have k := kept_set (F := fun z => z = fb) (W.alloc (.cells #[.int .i64 (i : Nat), p] 66)) fb 3 (.pointer (some ⟨W.heap.size, 0, none⟩)) rfl
  refine ⟨⟨h2.bk.set 3 _, owns_kept h2.row k (fun g hg e => h.n0 (e ▸ hg)), ⟨W.heap.size, p, bs, rfl, rfl, hn.kept k (by omega), h2.lk.kept k (fun z hz e => h.n1 (e ▸ hz))⟩, h.x, h.n0, ?_, ?_, ?_⟩, (Kept.of_below b).trans k (fun _ _ f => f)⟩
  · intro e
    rcases List.mem_cons.1 e with e | e
    · omega
    · exact h.n1 e
  · intro g hg e
    rcases List.mem_cons.1 e with e | e
    · have := (own_ge h.row hg).2; omega
    · exact h.n2 g hg e
  · intro z e
    rcases List.mem_cons.1 e with e | e
    · omega
    · exact h.ge z e
set_option maxRecDepth 100000 in
theorem give_ok (h : FxAt N W fb v p bs each c L B) (hN : N ≤ W.heap.size) (hL : L.length ≤ 100000) (i : Nat) (hi : lv L i = true) (hc0 : 0 ≤ c) (hc : c ≤ 100000) :
    Calls Try.prog 16 #[.pointer (some ⟨fb, 0, none⟩), .int .i64 (i : Nat)] W fun e W' => e = .returned (.int .i64 0) ∧ FxTo N W W' fb v bs each (c - 1) (L.set (i - 1) false) (i :: B) := by
  have C := hide (live_any h hL i (by omega))
  rw [hi] at C
  obtain ⟨i1, i2⟩ := lv_le hi
  obtain ⟨m, hm⟩ : ∃ m : Nat, L.length = m := ⟨_, rfl⟩
  have w0 : IntKind.i64.wrap ((i : Int) - 1) = (i : Int) - 1 := by rw [IntKind.wrap_i64]; omega
  have w1 : IntKind.i64.wrap (c - 1) = c - 1 := by rw [IntKind.wrap_i64]; omega
  have e1 : ((i : Int) - 1).toNat = i - 1 := by omega
  have l0 : 0 ≤ (i : Int) - 1 := by omega
  have l1 : (i : Int) - 1 < (m : Int) := by omega
  have l2 : i - 1 < m := by omega
  obtain ⟨g, cap, e', q1, q2⟩ := h.cellAt (j := i - 1) (by omega) (List.getElem?_eq_getElem (by omega))
  generalize L[i - 1]'(by omega) = X at q1
  subst e'
  have y1 := h.bk.cell 1 _ rfl
  rw [hm] at y1
  obtain ⟨s1, k1⟩ := h.setOut (i - 1) false
  have x2 := s1.bk.cell 2 _ rfl
  have x3 := s1.bk.fz 2
  obtain ⟨s2, k2⟩ := s1.setCount (c - 1)
  obtain ⟨pq, hpq⟩ := s2.lk.ptr
  subst hpq
  have x4 := s2.bk.cell 3 _ rfl
  obtain ⟨s3, k3⟩ := s2.link (by simpa using hN) i
  have x5 := (s2.below (below_alloc _ (.cells #[.int .i64 (i : Nat), .pointer pq] 66))).bk.cell 3 _ rfl
  have x6 := (s2.below (below_alloc _ (.cells #[.int .i64 (i : Nat), .pointer pq] 66))).bk.fz 3
  simp only [World.size_setCell] at s3 k3
  have KK := hide (show Kept (ownF fb (.slice (some ⟨g, 0, none⟩) L.length cap) bs) W _ from ((k1.mono (G := ownF fb (.slice (some ⟨g, 0, none⟩) L.length cap) bs) fun z hz => .inr (.inl (by rw [hz]; rfl))).trans (k2.mono (G := ownF fb (.slice (some ⟨g, 0, none⟩) L.length cap) bs) fun z hz => .inl hz) (fun _ _ f => f)).trans (k3.mono (G := ownF fb (.slice (some ⟨g, 0, none⟩) L.length cap) bs) fun z hz => .inl hz) (fun _ _ f => f))
  have S3 := hide s3
  rw [hm] at x2 x4 x5
  clear h k1 k2 k3 s1 s2 s3 hi i1 i2
  go_enter Try.func16, Try.ntmps16
  go_wp2_with fail
  refine C.out.mono ?_
  rintro e W1 ⟨rfl, hw⟩
  rw [hw]
  clear hw C W1
  go_wp2_with fail
  go_ret
  refine ⟨rfl, _, _, _, S3.out, KK.out, fun z hz => ?_⟩
  rcases hz with hz | hz | hz
  · exact .inl (.inl hz)
  · exact .inl (.inr (.inl hz))
  · rcases List.mem_cons.1 hz with hz | hz
    · exact .inr (by omega)
    · exact .inl (.inr (.inr hz))
end
end Go.Proofs.Ytmpddppjkfflnaa
