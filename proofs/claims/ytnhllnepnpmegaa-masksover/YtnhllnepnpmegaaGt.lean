/- MasksGreat. -/
import Derived.Test.YtnhllnepnpmegaaAw
namespace Go.Proofs.Ytnhllnepnpmegaa
open Go.ChangeShapes Go.WideShapes Go.ChangeAt Go.RowKit Go.Shelf Go.Proofs.Rx Go.Maps Go.Proofs.Bt
set_option linter.unusedVariables false
set_option linter.unusedSimpArgs false

attribute [local go_sem] Oper.semAt_some

theorem own_empty (w : World) (e : TypeId) (size : Nat) : (w.alloc (.cells #[] e)).ownsRow w.heap.size e size (.slice (some ⟨w.heap.size, 0, none⟩) 0 0) 0 [] :=
  ⟨by simp, Or.inr ⟨w.heap.size, 0, #[], rfl, Nat.le_refl _, by show (w.heap.push _)[w.heap.size]? = _; simp, Nat.le_refl _, Nat.zero_le _, by simp, by simp⟩⟩
/-- append([]bool{}, list...). -/
theorem copy_bools {W : World} {o : Option Addr} {len cap : Nat} {X : Nat → Bool} (h : BoolsAt W o len cap X) (h1 : 1 ≤ len) (h2 : len ≤ 100000) :
    ∃ g cap' W', (Builtin.append_ #[32, 32] 32 #[.slice (some ⟨W.heap.size, 0, none⟩) 0 0, .slice o len cap]).run Try.prog (W.alloc (.cells #[] 4)) = .ok (.slice (some ⟨g, 0, none⟩) len cap') W' ∧ W'.ownsRow W.heap.size 4 1 (.slice (some ⟨g, 0, none⟩) len cap') len ((List.range len).map fun k => .bool (X k)) ∧ Below W.heap.size W W' ∧ W.heap.size ≤ g ∧ g < W'.heap.size := by
  obtain ⟨b0, f0, rfl, hb0, hc0⟩ := h.at (show 0 < len by omega)
  obtain ⟨i0, hi0, hz0, hz1, hz2⟩ := info_parts infoB
  have bA := below_alloc W (.cells #[] 4)
  obtain ⟨g, cap', W', r1, o1, g1, hat, hlt⟩ := run_append_lies (P := Try.prog) (w := W.alloc (.cells #[] 4)) 32 32 W.heap.size 4 i0 _ 1 1 Try.underlying32 hi0 hz0 hz1 hz2 rfl (by decide) _ 0 [] (own_empty W 4 1) ⟨b0, f0, none⟩ len cap ((List.range len).map fun k => .bool (X k)) (by simp) (fun j u hu => by
    rw [List.getElem?_map] at hu
    have hj : j < len := by
      rcases Nat.lt_or_ge j len with c | c
      · exact c
      · rw [List.getElem?_eq_none (by simpa using c)] at hu; cases hu
    rw [List.getElem?_range hj] at hu
    have hu : Value.bool (X j) = u := by simpa using hu
    rw [addr_add0, ← hu]
    exact (bA.cell (p := ⟨b0, f0 + j, none⟩) hb0).trans (hc0 j hj)) (fun u hu => by
    obtain ⟨k, _, rfl⟩ := List.mem_map.1 hu; rfl) (by omega) (by unfold maxLen; omega) (by omega) (by simp) _ rfl
  rw [Nat.zero_add, List.nil_append] at *
  refine ⟨g, cap', W', r1, o1, ?_, ?_, hlt⟩
  · have k : Kept (fun z => z = W.heap.size) (W.alloc (.cells #[] 4)) W' := Kept.of_grown g1 (fun z e => by injection e with e; exact e.symm)
    exact bA.trans (k.below (by simp) (fun z hz => by rw [hz]; exact Nat.le_refl _))
  · rcases hat with e | e
    · have e : some W.heap.size = some g := e
      injection e with e; omega
    · rw [e]; simp
theorem row_bools {W : World} {M g cap len : Nat} {X : Nat → Bool} (h : W.ownsRow M 4 1 (.slice (some ⟨g, 0, none⟩) len cap) len ((List.range len).map fun k => .bool (X k))) : BoolsAt W (some ⟨g, 0, none⟩) len cap X :=
  ⟨fun z => (by cases z), fun ad e i hi => by
    obtain rfl : (⟨g, 0, none⟩ : Addr) = ad := by injection e
    rw [addr_add0, Nat.zero_add, h.cellAt i (by simpa using hi), List.getElem?_map, List.getElem?_range hi]
    rfl⟩
/-! ### Things counted -/
theorem great_row {p len n : Nat} {X : Nat → Bool} (hl : 0 < len) (i j : Nat) (h : i + j ≤ n) : cnt (thF p len n (cutF X len)) (p + len * i) (len * j) = j * cnt X 0 len := by
  rw [← cut_cnt X len, ← per_mul (cutF X len) len hl j]
  refine cnt_congr fun k hk => ?_
  have e1 : len * i + k < n * len := by
    have : len * (i + j) ≤ len * n := Nat.mul_le_mul_left _ h
    rw [Nat.mul_add] at this
    rw [Nat.mul_comm n len]; omega
  unfold thF
  rw [decide_eq_true (by omega), Bool.true_and, show p + len * i + k - p = len * i + k by omega, Nat.mul_add_mod, Nat.zero_add]
theorem great_cut {p len n k : Nat} {X : Nat → Bool} {f : Nat → Bool} (hl : 0 < len) (h1 : 1 ≤ k) (h2 : k ≤ n) (hf : ∀ x, f x = if p + len * (k - 1) ≤ x ∧ x < p + len * k then false else thF p len n (cutF X len) x) : cnt f p (len * n) = (n - 1) * cnt X 0 len := by
  have e1 : len * n = len * (k - 1) + (len + len * (n - k)) := by
    have : len * n = len * ((k - 1) + (1 + (n - k))) := by congr 1; omega
    rw [this, Nat.mul_add, Nat.mul_add, Nat.mul_one]
  have e2 : len * k = len * (k - 1) + len := by
    have : len * k = len * ((k - 1) + 1) := by congr 1; omega
    rw [this, Nat.mul_add, Nat.mul_one]
  rw [e1, cnt_add, cnt_add]
  have a1 : cnt f p (len * (k - 1)) = (k - 1) * cnt X 0 len := by
    rw [← great_row (p := p) (n := n) hl 0 (k - 1) (by omega), Nat.mul_zero, Nat.add_zero]
    exact cnt_congr fun j hj => by rw [hf, if_neg (by omega)]
  have a2 : cnt f (p + len * (k - 1)) len = 0 := cnt_none fun j hj => by rw [hf, if_pos (by omega)]
  have a3 : cnt f (p + len * (k - 1) + len) (len * (n - k)) = (n - k) * cnt X 0 len := by
    rw [← great_row (p := p) (n := n) hl k (n - k) (by omega), show p + len * (k - 1) + len = p + len * k by omega]
    exact cnt_congr fun j hj => by rw [hf, if_neg (by omega)]
  rw [a1, a2, a3, Nat.zero_add, ← Nat.add_mul]
  congr 1; omega
end Go.Proofs.Ytnhllnepnpmegaa
