/- bounded, right, endBehind; the reference's Right. -/
import Derived.Test.YtnpimmjkmclkpaaDoorMa
namespace Go.Proofs.YtnpimmjkmclkpaaDoor.Mg
open Go.ChangeShapes Go.WideShapes Go.ChangeAt Go.RowKit Go.Proofs.Pk Go.Maps
set_option linter.unusedVariables false
set_option linter.unusedSimpArgs false

theorem alloc1 (w : World) (o : Obj) : Below w.heap.size w (w.alloc o) := (Below.refl _ w).alloc (Nat.le_refl _) _
theorem cells_of {w : World} {b : Nat} {cs : Array Value} {t : TypeId} {z : Nat × Nat} (h : w.heap[b]? = some (.cells cs t z)) (i : Nat) : w.cell? ⟨b, i, none⟩ = cs[i]? := by
  unfold World.cell?; rw [h]; rfl
/-- A summary in a box of its own, behind whatever. -/
theorem box_cells {w w' : World} {s m e : Int} (hb : Below (w.alloc (.cells #[.int .i64 s, .int .i64 m, .int .i64 e] 38)).heap.size (w.alloc (.cells #[.int .i64 s, .int .i64 m, .int .i64 e] 38)) w') :
    Below w.heap.size w w' ∧ w'.cell? ⟨w.heap.size, 0, none⟩ = some (.int .i64 s) ∧ w'.cell? ⟨w.heap.size, 1, none⟩ = some (.int .i64 m) ∧ w'.cell? ⟨w.heap.size, 2, none⟩ = some (.int .i64 e) := by
  have hn := heap_alloc_new w (.cells #[.int .i64 s, .int .i64 m, .int .i64 e] 38)
  have hl : w.heap.size < (w.alloc (.cells #[.int .i64 s, .int .i64 m, .int .i64 e] 38)).heap.size := by simp
  refine ⟨(alloc1 _ _).trans (hb.mono (by simp)), ?_, ?_, ?_⟩
  · exact (hb.cell (p := ⟨w.heap.size, 0, none⟩) hl).trans (cells_of hn 0)
  · exact (hb.cell (p := ⟨w.heap.size, 1, none⟩) hl).trans (cells_of hn 1)
  · exact (hb.cell (p := ⟨w.heap.size, 2, none⟩) hl).trans (cells_of hn 2)
theorem bounded_yes (a : Sm) (p : Int) (h : Bnd a p) (w : World) : Calls Tryd.prog 51 #[sumV a, .int .i64 p] w fun e w' => e = .returned (.bool true) ∧ Below w.heap.size w w' := by
  obtain ⟨s, m, e⟩ := a
  obtain ⟨h1, h2, h3, h4, h5, h6⟩ := h
  dsimp only at h1 h2 h3 h4 h5 h6
  unfold sumV
  have d1 : decide (s < 0) = false := decide_eq_false (by omega)
  have d2 : decide (e < 0) = false := decide_eq_false (by omega)
  have d3 : decide (m < s) = false := decide_eq_false (by omega)
  have d4 : decide (m < e) = false := decide_eq_false (by omega)
  have d5 : decide (p < m) = false := decide_eq_false (by omega)
  by_cases c : m < p
  · have d6 : decide (m < p) = true := decide_eq_true c
    clear h1 h2 h3 h4 h5 h6 c
    go_enter Tryd.func51, Tryd.ntmps51
    go_wp2_with fail
    go_ret
    exact ⟨rfl, alloc1 _ _⟩
  · have d6 : decide (m < p) = false := decide_eq_false c
    have d7 : (s == p) = true := beq_iff_eq.2 (by omega)
    have d8 : (e == p) = true := beq_iff_eq.2 (by omega)
    clear h1 h2 h3 h4 h5 h6 c
    go_enter Tryd.func51, Tryd.ntmps51
    go_wp2_with fail
    go_ret
    exact ⟨rfl, alloc1 _ _⟩
theorem bounded_no (a : Sm) (p : Int) (h : ¬ Bnd a p) (w : World) : Calls Tryd.prog 51 #[sumV a, .int .i64 p] w fun e w' => e = .returned (.bool false) ∧ Below w.heap.size w w' := by
  obtain ⟨s, m, e⟩ := a
  unfold Bnd at h
  dsimp only at h
  unfold sumV
  have q : decide (s < 0) = true ∨ decide (s < 0) = false ∧ (decide (e < 0) = true ∨ decide (e < 0) = false ∧ (decide (m < s) = true ∨ decide (m < s) = false ∧ (decide (m < e) = true ∨ decide (m < e) = false ∧ (decide (p < m) = true ∨ decide (p < m) = false ∧ decide (m < p) = false ∧ ((s == p) = false ∨ (s == p) = true ∧ (e == p) = false))))) := by
    simp only [decide_eq_true_eq, decide_eq_false_iff_not, beq_eq_false_iff_ne, beq_iff_eq, ne_eq]
    omega
  clear h
  rcases q with d1 | ⟨d1, d2 | ⟨d2, d3 | ⟨d3, d4 | ⟨d4, d5 | ⟨d5, d6, d7 | ⟨d7, d8⟩⟩⟩⟩⟩⟩
  all_goals
    go_enter Tryd.func51, Tryd.ntmps51
    go_wp2_with fail
    go_ret
    exact ⟨rfl, alloc1 _ _⟩
theorem right_yes (a : Sm) (p : Int) (h : Rgt a p) (h2 : p ≤ 2097152) (w : World) : Calls Tryd.prog 37 #[sumV a, .int .i64 p] w fun e w' => e = .returned (.bool true) ∧ Below w.heap.size w w' := by
  have B := hide h.1
  have hb := h.1
  have hr := h.2
  clear h
  obtain ⟨s, m, e⟩ := a
  obtain ⟨h1, h2, h3, h4, h5, h6⟩ := hb
  dsimp only at h1 h2 h3 h4 h5 h6 hr
  have b1 : 0 ≤ s + e := by omega
  have b2 : s + e ≤ 4194304 := by omega
  have CB := fun w => hide (bounded_yes ⟨s, m, e⟩ p B.out w)
  unfold sumV at CB ⊢
  dsimp only at CB ⊢
  by_cases c : m = p
  · have d : (m == p) = true := beq_iff_eq.2 c
    clear h1 h2 h3 h4 h5 h6 hr B c
    go_enter Tryd.func37, Tryd.ntmps37
    go_wp2_with fail
    refine (CB _).out.mono ?_
    rintro e w' ⟨rfl, hb⟩
    obtain ⟨B, x0, x1, x2⟩ := box_cells hb
    have HB := hide B
    clear hb B CB
    go_wp2_with fail
    go_ret
    exact ⟨rfl, HB.out⟩
  · have d : (m == p) = false := beq_eq_false_iff_ne.2 c
    have d2 : decide (s + e < p) = true := decide_eq_true (by omega)
    clear h6 hr B c h5
    go_enter Tryd.func37, Tryd.ntmps37
    go_wp2_with fail
    refine (CB _).out.mono ?_
    rintro e w' ⟨rfl, hb⟩
    obtain ⟨B, x0, x1, x2⟩ := box_cells hb
    have HB := hide B
    clear hb B CB
    go_wp2_with fail
    go_ret
    exact ⟨rfl, HB.out⟩
theorem right_no (a : Sm) (p : Int) (h : ¬ Rgt a p) (h2 : p ≤ 2097152) (w : World) : Calls Tryd.prog 37 #[sumV a, .int .i64 p] w fun e w' => e = .returned (.bool false) ∧ Below w.heap.size w w' := by
  have H := hide h
  clear h
  by_cases hb : Bnd a p
  · obtain ⟨s, m, e⟩ := a
    have B := hide hb
    have hr : ¬ (m = p ∨ s + e < p) := fun z => H.out ⟨hb, z⟩
    obtain ⟨h1, h2, h3, h4, h5, h6⟩ := hb
    dsimp only at h1 h2 h3 h4 h5 h6 hr
    have b1 : 0 ≤ s + e := by omega
    have b2 : s + e ≤ 4194304 := by omega
    have CB := fun w => hide (bounded_yes ⟨s, m, e⟩ p B.out w)
    unfold sumV at CB ⊢
    dsimp only at CB ⊢
    have d : (m == p) = false := beq_eq_false_iff_ne.2 (by omega)
    have d2 : decide (s + e < p) = false := decide_eq_false (by omega)
    clear h6 hr B h5 H
    go_enter Tryd.func37, Tryd.ntmps37
    go_wp2_with fail
    refine (CB _).out.mono ?_
    rintro e w' ⟨rfl, hb⟩
    obtain ⟨B, x0, x1, x2⟩ := box_cells hb
    have HB := hide B
    clear hb B CB
    go_wp2_with fail
    go_ret
    exact ⟨rfl, HB.out⟩
  · have CB := fun w => hide (bounded_no a p hb w)
    obtain ⟨s, m, e⟩ := a
    unfold sumV at CB ⊢
    dsimp only at CB ⊢
    clear hb H h2
    go_enter Tryd.func37, Tryd.ntmps37
    go_wp2_with fail
    refine (CB _).out.mono ?_
    rintro e w' ⟨rfl, hb⟩
    obtain ⟨B, x0, x1, x2⟩ := box_cells hb
    have HB := hide B
    clear hb B CB
    go_wp2_with fail
    go_ret
    exact ⟨rfl, HB.out⟩
/-- endBehind. -/
theorem end_any (E : Int) (a : Sm) (p : Int) (h1 : 0 ≤ E) (h2 : E ≤ 1000000000) (h3 : 1 ≤ p) (h4 : p ≤ 2097152) (w : World) : Calls Tryd.prog 29 #[.int .i64 E, sumV a, .int .i64 p] w fun e w' => e = .returned (.int .i64 (if a.e = p then E + p else a.e)) ∧ Below w.heap.size w w' := by
  obtain ⟨s, m, e⟩ := a
  unfold sumV
  dsimp only
  by_cases c : e = p
  · have d : (e == p) = true := beq_iff_eq.2 c
    rw [if_pos c]
    clear c
    go_enter Tryd.func29, Tryd.ntmps29
    go_wp2_with fail
    go_ret
    exact ⟨rfl, alloc1 _ _⟩
  · have d : (e == p) = false := beq_eq_false_iff_ne.2 c
    rw [if_neg c]
    clear c
    go_enter Tryd.func29, Tryd.ntmps29
    go_wp2_with fail
    go_ret
    exact ⟨rfl, alloc1 _ _⟩
end Go.Proofs.YtnpimmjkmclkpaaDoor.Mg
