/- rightRows. -/
import Derived.Test.YtnpimmjkmclkpaaDoorMb
namespace Go.Proofs.YtnpimmjkmclkpaaDoor.Mg
open Go.ChangeShapes Go.WideShapes Go.ChangeAt Go.RowKit Go.Proofs.Pk Go.Maps
set_option linter.unusedVariables false
set_option linter.unusedSimpArgs false

/-- May there be rows of so many pages, and is each right? -/
structure RR (t : List Sm) (p : Int) : Prop where
  p1 : 1 ≤ p
  p2 : p ≤ 2097152
  len : t.length ≤ 64
  all : ∀ j, j < t.length → Rgt (nth t j) p
def RowsP (t : List Sm) (p : Int) (w : World) (e : Ending) (w' : World) : Prop := (RR t p → e = .returned (.bool true)) ∧ (¬ RR t p → e = .returned (.bool false)) ∧ Below w.heap.size w w'
theorem RowsP.yes {t : List Sm} {p : Int} {w w' : World} (h : RR t p) (hb : Below w.heap.size w w') : RowsP t p w (.returned (.bool true)) w' := ⟨fun _ => rfl, fun z => absurd h z, hb⟩
theorem RowsP.no {t : List Sm} {p : Int} {w w' : World} (h : ¬ RR t p) (hb : Below w.heap.size w w') : RowsP t p w (.returned (.bool false)) w' := ⟨fun z => absurd z h, fun _ => rfl, hb⟩
set_option maxRecDepth 100000 in
theorem rows_core {w : World} {v : Value} {t : List Sm} {T : Nat → Prop} (h : SumsAt w v t T) (p : Int) : Calls Tryd.prog 28 #[v, .int .i64 p] w (RowsP t p w) := by
  obtain ⟨o, cap, rfl, h1, h2⟩ := h.shape
  have H := hide h
  obtain ⟨PO, hPO⟩ : ∃ PO, PO = RowsP t p w := ⟨_, rfl⟩
  rw [← hPO]
  have HP := hide hPO
  obtain ⟨n, hn⟩ : ∃ n, t.length = n := ⟨_, rfl⟩
  have HN := hide hn
  rw [hn] at H h1 ⊢
  clear h hPO hn
  have bad : ¬ (1 ≤ p ∧ p ≤ 2097152 ∧ n ≤ 64) → Hid (PO (.returned (.bool false)) w) := fun z => hide (by rw [HP.out]; exact RowsP.no (fun y => z ⟨y.p1, y.p2, by rw [← HN.out]; exact y.len⟩) (Below.refl _ _))
  have q : decide (p < 1) = true ∨ decide (p < 1) = false ∧ (decide (2097152 < p) = true ∨ decide (2097152 < p) = false ∧ (decide (64 < (n : Int)) = true ∨ decide (64 < (n : Int)) = false)) := by
    simp only [decide_eq_true_eq, decide_eq_false_iff_not]
    omega
  rcases q with d1 | ⟨d1, d2 | ⟨d2, d3 | d3⟩⟩
  · have FN := bad (by simp only [decide_eq_true_eq] at d1; omega)
    clear bad H HP
    go_enter Tryd.func28, Tryd.ntmps28
    go_wp2_with fail
    first | exact FN.out | (go_ret; exact FN.out)
  · have FN := bad (by simp only [decide_eq_true_eq] at d2; omega)
    clear bad H HP
    go_enter Tryd.func28, Tryd.ntmps28
    go_wp2_with fail
    first | exact FN.out | (go_ret; exact FN.out)
  · have FN := bad (by simp only [decide_eq_true_eq] at d3; omega)
    clear bad H HP
    go_enter Tryd.func28, Tryd.ntmps28
    go_wp2_with fail
    first | exact FN.out | (go_ret; exact FN.out)
  · have z1 : 1 ≤ p := by simp only [decide_eq_false_iff_not] at d1; omega
    have z2 : p ≤ 2097152 := by simp only [decide_eq_false_iff_not] at d2; omega
    have z3 : n ≤ 64 := by simp only [decide_eq_false_iff_not] at d3; omega
    clear bad
    go_enter Tryd.func28, Tryd.ntmps28
    go_wp2_with fail
    go_loopw [20] (fun iv wr => ∃ (i : Nat), iv = .int .i64 (i : Int) ∧ i ≤ n ∧ Hid (∀ j, j < i → Rgt (nth t j) p) ∧ Hid (Below w.heap.size w wr)) (fun iv _ => n - (intOf iv).toNat)
    case atStart => exact ⟨0, rfl, Nat.zero_le _, hide (fun j hj => by omega), hide (Below.refl _ _)⟩
    case round =>
      obtain ⟨i, rfl, hi, ha, hB⟩ := hrel
      by_cases hlt : i < n
      · obtain ⟨g, off, x, rfl, hx, hg, c0, c1, c2⟩ := H.out.at hB.out hlt
        have i1 : (i : Int) < (n : Int) := by omega
        have i2 : (0 : Int) ≤ (i : Int) := by omega
        have hxn := nth_at hx
        clear hx
        by_cases e : Rgt x p
        · have CB := fun w => hide (right_yes x p e z2 w)
          have ha' : Hid (∀ j, j < i + 1 → Rgt (nth t j) p) := hide (fun j hj => by
            by_cases z : j = i
            · subst z; rw [hxn]; exact e
            · exact ha.out j (by omega))
          clear hxn e ha
          obtain ⟨s, m, y⟩ := x
          unfold sumV at CB
          dsimp only at CB c0 c1 c2
          go_wp2_with fail
          refine (CB _).out.mono ?_
          rintro e w' ⟨rfl, hb⟩
          have HB := hide (hB.out.trans ((box_cells hb).1.mono hB.out.size))
          clear hb CB
          go_wp2_with fail
          go_roundw
          case rel => exact ⟨i + 1, by go_num, by omega, ha', HB⟩
          case measure => simp [intOf]; omega
        · have CB := fun w => hide (right_no x p e z2 w)
          have NR : Hid (¬ RR t p) := hide (fun z => e (by have := z.all i (by rw [HN.out]; exact hlt); rwa [hxn] at this))
          clear hxn e ha
          obtain ⟨s, m, y⟩ := x
          unfold sumV at CB
          dsimp only at CB c0 c1 c2
          go_wp2_with fail
          refine (CB _).out.mono ?_
          rintro e w' ⟨rfl, hb⟩
          have FN : Hid (PO (.returned (.bool false)) w') := hide (by rw [HP.out]; exact RowsP.no NR.out (hB.out.trans ((box_cells hb).1.mono hB.out.size)))
          clear hb CB
          go_wp2_with fail
          first | exact FN.out | (go_ret; exact FN.out)
      · obtain rfl : i = n := by omega
        have FN : Hid (PO (.returned (.bool true)) wr) := hide (by rw [HP.out]; exact RowsP.yes ⟨z1, z2, by rw [HN.out]; exact z3, fun j hj => ha.out j (by rw [← HN.out]; exact hj)⟩ hB.out)
        have d0 : ¬ (i : Int) < (i : Int) := by omega
        clear ha HP
        go_wp2_with fail
        first | exact FN.out | (go_ret; exact FN.out)
end Go.Proofs.YtnpimmjkmclkpaaDoor.Mg
