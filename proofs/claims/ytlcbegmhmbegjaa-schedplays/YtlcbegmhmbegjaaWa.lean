/- What only reads a machine. -/
import Derived.Test.YtlcbegmhmbegjaaLi
namespace Go.Proofs.Ytlcbegmhmbegjaa
open Go.ChangeShapes Go.WideShapes Go.ChangeAt Go.RowKit Go.Proofs.Sc Go.Maps
set_option linter.unusedVariables false
set_option linter.unusedSimpArgs false

variable {w : World} {b : Nat} {S : Sc} {v0 v3 : Value} {bh bc n : Nat} {vs : List Value} {T : Nat → Prop}
theorem place_core (p n : Int) (hp : i64 p) (h0 : 0 < n) (h1 : n ≤ 64) (w : World) : Calls Try.prog 21 #[.int .i64 p, .int .i64 n] w fun e w' => e = .returned (.int .i64 (p % n)) ∧ w' = w := by
  have p0 := hp.1
  have p1 := hp.2
  by_cases c : 0 ≤ p
  · have e1 : p % n < n := Int.emod_lt_of_pos _ h0
    have e2 : 0 ≤ p % n := Int.emod_nonneg _ (by omega)
    go_enter Try.func21, Try.ntmps21
    go_wp2_with fail
    go_ret
    exact ⟨rfl, rfl⟩
  · have b0 : (n == 0) = false := beq_eq_false_iff_ne.2 (by omega)
    have g1 : p % n < n := Int.emod_lt_of_pos _ h0
    have g2 : 0 ≤ p % n := Int.emod_nonneg _ (by omega)
    have key : (p % n = 0 ∧ p.tmod n = 0) ∨ (0 < p % n ∧ p.tmod n = p % n - n) := by
      have e : p.tmod n = p % n - if 0 ≤ p ∨ n ∣ p then 0 else (n.natAbs : Int) := by rw [Int.tmod_eq_emod]; split <;> simp
      by_cases d : n ∣ p
      · rw [if_pos (Or.inr d), Int.emod_eq_zero_of_dvd d] at e
        exact Or.inl ⟨Int.emod_eq_zero_of_dvd d, by omega⟩
      · rw [if_neg (by omega)] at e
        refine Or.inr ⟨?_, by omega⟩
        rcases Int.lt_or_eq_of_le g2 with z | z
        · exact z
        · exact absurd (Int.dvd_of_emod_eq_zero z.symm) d
    have e1 : -n < p.tmod n := by omega
    have e2 : p.tmod n ≤ 0 := by omega
    by_cases z : p.tmod n < 0
    · have hz : p % n = p.tmod n + n := by omega
      rw [hz]
      clear hz key g1 g2
      go_enter Try.func21, Try.ntmps21
      go_wp2_with fail
      go_ret
      exact ⟨rfl, rfl⟩
    · have hz : p % n = 0 := by omega
      have ht : p.tmod n = 0 := by omega
      rw [hz]
      clear hz key g1 g2 e1 e2 z
      go_enter Try.func21, Try.ntmps21
      go_wp2_with fail
      go_ret
      exact ⟨rfl, rfl⟩
/-- Behind a box: a machine's maps, as a lookup has them. -/
theorem Lies.look_hold (h : Lies w b S v0 v3 bh bc n vs T) {w' : World} (hk : Below w.heap.size w w') (a : Int) (ha : i64 a) :
    (Instr.lookup 45 (.map (some bh)) (.int .i64 a) true).run Try.prog w' = .ok (.tuple #[.int .i64 ((heldOf S.hold a).getD 0), .bool (S.hold a).isSome]) w' := by
  have := (h.below hk).hold.looks a ha
  rw [this]
  unfold heldOf
  cases S.hold a <;> rfl
theorem Lies.look_cell (h : Lies w b S v0 v3 bh bc n vs T) {w' : World} (hk : Below w.heap.size w w') (a : Int) (ha : i64 a) :
    (Instr.lookup 45 (.map (some bc)) (.int .i64 a) false).run Try.prog w' = .ok (.int .i64 (S.cell a)) w' := by
  obtain ⟨H, k1, k2⟩ := (h.below hk).cell
  rw [← k2]
  exact k1.look a ha
theorem waits_core (h : Lies w b S v0 v3 bh bc n vs T) (s : Stp) (hs : s.Ok) (hc : i64 (S.cell s.a)) :
    Calls Try.prog 32 #[.pointer (some ⟨b, 0, none⟩), .agg #[.int .i64 s.op, .int .i64 s.a, .int .i64 s.b]] w fun e w' => e = .returned (.bool (waitsS S s)) ∧ Below w.heap.size w w' := by
  obtain ⟨op, a, x⟩ := s
  obtain ⟨⟨o1, o2⟩, ⟨a1, a2⟩, ⟨x1, x2⟩⟩ := hs
  simp only at o1 o2 a1 a2 x1 x2 hc ⊢
  have c1 := h.c1
  have c2 := h.c2
  have hbl := cell_lt c1
  have hB : Below w.heap.size w (w.alloc (.cells #[.int .i64 op, .int .i64 a, .int .i64 x] 36)) := (Below.refl _ _).alloc (Nat.le_refl _) _
  have hl := h.look_hold hB.drew a ⟨a1, a2⟩
  have hk := h.look_cell hB.drew a ⟨a1, a2⟩
  obtain ⟨y, hy⟩ : ∃ y, S.cell a = y := ⟨_, rfl⟩
  obtain ⟨z, hz⟩ : ∃ z, (S.hold a).isSome = z := ⟨_, rfl⟩
  obtain ⟨q, hq⟩ : ∃ q, (heldOf S.hold a).getD 0 = q := ⟨_, rfl⟩
  rw [hz, hq] at hl
  rw [hy] at hk hc
  obtain ⟨y1, y2⟩ := hc
  have hw : waitsS S ⟨op, a, x⟩ = if op = 1 then z else if op = 4 then decide (y < x) else false := by rw [← hy, ← hz]; rfl
  rw [hw]
  clear h hw hy hz hq
  by_cases e1 : op = 1
  · subst e1
    rw [if_pos rfl]
    go_enter Try.func32, Try.ntmps32
    go_wp2_with fail
    refine still_all (by kernel_rfl) (by kernel_rfl) ?_
    repeat still_step
    refine wpStill_nil ?_
    go_wp2_with fail
    go_ret
    exact ⟨rfl, hB.drew⟩
  · have d1 : (op == 1) = false := beq_eq_false_iff_ne.2 e1
    rw [if_neg e1]
    by_cases e4 : op = 4
    · subst e4
      rw [if_pos rfl]
      go_enter Try.func32, Try.ntmps32
      go_wp2_with fail
      refine still_all (by kernel_rfl) (by kernel_rfl) ?_
      repeat still_step
      refine wpStill_nil ?_
      go_wp2_with fail
      go_ret
      exact ⟨rfl, hB.drew⟩
    · have d4 : (op == 4) = false := beq_eq_false_iff_ne.2 e4
      rw [if_neg e4]
      go_enter Try.func32, Try.ntmps32
      go_wp2_with fail
      go_ret
      exact ⟨rfl, hB⟩
/-- What a cell of 'ahead' holds. -/
theorem Lies.at (h : Lies w b S v0 v3 bh bc n vs T) {i : Nat} {t : List Stp} (hi : S.ahead[i]? = some t) :
    ∃ g cap v, v0 = .slice (some ⟨g, 0, none⟩) S.ahead.length cap ∧ w.cell? ⟨g, i, none⟩ = some v ∧ vs[i]? = some v ∧ StepsAt w v t T ∧ (∀ k, w.frozen? ⟨g, k, none⟩ = false) := by
  have hl : i < S.ahead.length := (List.getElem?_eq_some_iff.1 hi).1
  obtain ⟨g, cap, e, _, _⟩ := h.row.form (by omega)
  obtain ⟨v, e1, e2⟩ := h.els i t hi
  have hr := h.row
  rw [e] at hr
  exact ⟨g, cap, v, e, (hr.cellAt i (by omega)).trans e1, e1, e2, fun k => hr.frozenAt k⟩
theorem Lies.shape (h : Lies w b S v0 v3 bh bc n vs T) : ∃ o cap, v0 = .slice o S.ahead.length cap ∧ (S.ahead ≠ [] → ∃ g, o = some ⟨g, 0, none⟩) := by
  obtain ⟨_, ⟨e, z⟩ | ⟨g, cap, cur, e, _⟩⟩ := h.row
  · exact ⟨none, 0, by rw [e, z], fun y => absurd (List.eq_nil_of_length_eq_zero z) y⟩
  · exact ⟨_, cap, e, fun _ => ⟨g, rfl⟩⟩
theorem SI.left {m : Addr} {F : Nat → Prop} (h : SI w m S F) (t : Int) (ht : i64 t) :
    Calls Try.prog 29 #[.pointer (some m), .int .i64 t] w fun e w' => e = .returned (.tuple #[.int .i64 ((leftS S t).1 : Nat), .int .i64 ((leftS S t).2 : Nat)]) ∧ Below w.heap.size w w' := by
  obtain ⟨b, v0, v3, bh, bc, n, vs, T, rfl, rfl, l, wf, _⟩ := h
  have c0 := l.c0
  have t0 := ht.1
  have t1 := ht.2
  have hT := wf.tasks
  obtain ⟨o, cap, e0, _⟩ := l.shape
  by_cases c : t < 0
  · have e : leftS S t = (0, 1) := by unfold leftS; rw [if_pos (Or.inl c)]
    rw [e]
    clear e l
    go_enter Try.func29, Try.ntmps29
    go_wp2_with fail
    go_ret2
    exact ⟨rfl, Below.refl _ _⟩
  · by_cases c2 : (S.ahead.length : Int) ≤ t
    · have e : leftS S t = (0, 1) := by unfold leftS; rw [if_pos (Or.inr c2)]
      rw [e]
      subst e0
      obtain ⟨k, hk⟩ : ∃ k, S.ahead.length = k := ⟨_, rfl⟩
      rw [hk] at c0 c2 hT
      have d : decide (t ≥ (k : Int)) = true := decide_eq_true c2
      have d1 : decide (t < 0) = false := decide_eq_false c
      clear e l hk
      go_enter Try.func29, Try.ntmps29
      go_wp2_with fail
      go_ret2
      exact ⟨rfl, Below.refl _ _⟩
    · obtain ⟨i, rfl⟩ : ∃ i : Nat, t = (i : Int) := ⟨t.toNat, by omega⟩
      have hi : i < S.ahead.length := by omega
      obtain ⟨g, cap', v, e1, cv, hvi, hv, hfz⟩ := l.at (List.getElem?_eq_getElem hi)
      obtain ⟨o2, cap2, rfl, h2, h3, hrest⟩ := hv
      clear hvi hfz hrest
      have e : leftS S (i : Int) = ((S.ahead[i]).length, 0) := by unfold leftS; rw [if_neg (by omega), List.getD_eq_getElem?_getD, Int.toNat_natCast, List.getElem?_eq_getElem hi]; rfl
      rw [e]
      subst e1
      obtain ⟨k, hk⟩ : ∃ k, S.ahead.length = k := ⟨_, rfl⟩
      obtain ⟨j, hj⟩ : ∃ j, (S.ahead[i]).length = j := ⟨_, rfl⟩
      rw [hj] at cv h2 ⊢
      rw [hk] at c0 c2 hT
      have c2' : (i : Int) < (k : Int) := by omega
      have d : decide ((i : Int) ≥ (k : Int)) = false := decide_eq_false (by omega)
      have d1 : decide ((i : Int) < 0) = false := decide_eq_false c
      clear e l hk hj e0 c c2 hi
      go_enter Try.func29, Try.ntmps29
      go_wp2_with fail
      go_ret2
      exact ⟨rfl, Below.refl _ _⟩
theorem SI.holder {m : Addr} {F : Nat → Prop} (h : SI w m S F) (l : Int) (ht : i64 l) :
    Calls Try.prog 19 #[.pointer (some m), .int .i64 l] w fun e w' => e = .returned (.tuple #[.int .i64 ((heldOf S.hold l).getD 0), .bool (S.hold l).isSome]) ∧ Below w.heap.size w w' := by
  obtain ⟨b, v0, v3, bh, bc, n, vs, T, rfl, rfl, k, wf, _⟩ := h
  have c1 := k.c1
  have hl := k.look_hold (Below.refl _ _) l ht
  clear k
  go_enter Try.func19, Try.ntmps19
  go_wp2_with fail
  go_ret2
  exact ⟨rfl, Below.refl _ _⟩
theorem SI.cellAt {m : Addr} {F : Nat → Prop} (h : SI w m S F) (l : Int) (ht : i64 l) :
    Calls Try.prog 31 #[.pointer (some m), .int .i64 l] w fun e w' => e = .returned (.int .i64 (S.cell l)) ∧ Below w.heap.size w w' := by
  obtain ⟨b, v0, v3, bh, bc, n, vs, T, rfl, rfl, k, wf, _⟩ := h
  have c1 := k.c2
  have hl := k.look_cell (Below.refl _ _) l ht
  clear k
  go_enter Try.func31, Try.ntmps31
  go_wp2_with fail
  go_ret
  exact ⟨rfl, Below.refl _ _⟩
end Go.Proofs.Ytlcbegmhmbegjaa
