/- ClassWaste, walked. -/
import Derived.Test.YtamkjodfjdhhmaaSl
namespace Go.Proofs.Ytamkjodfjdhhmaa
open Go.ChangeShapes Go.WideShapes Go.ChangeAt Go.RowKit Go.Proofs.Cl Go.Shelf
set_option linter.unusedVariables false
set_option linter.unusedSimpArgs false

theorem powF_is : ∀ f n, powF f n = true → ∃ j, n = 2 ^ j := by
  intro f
  induction f with
  | zero => intro n h; cases h
  | succ f ih =>
    intro n h
    by_cases c : 1 < n ∧ n % 2 = 0
    · rw [powF, if_pos c] at h
      obtain ⟨j, hj⟩ := ih _ h
      exact ⟨j + 1, by rw [Nat.pow_succ]; omega⟩
    · rw [powF, if_neg c] at h
      exact ⟨0, by simpa using h⟩
theorem pow_is {n : Nat} (h : Cl.pow n = true) : ∃ j, n = 2 ^ j := powF_is 64 n h
theorem exp_lt {j m : Nat} (h : 2 ^ j ≤ 2 ^ m) : j ≤ m := by
  rcases Nat.lt_or_ge m j with c | c
  · have := Nat.pow_lt_pow_right (show 1 < 2 by omega) c
    omega
  · exact c
theorem page_mem {p : Nat} (h : Cl.pow p = true) (h1 : 1024 ≤ p) (h2 : p ≤ 65536) : p ∈ [1024, 2048, 4096, 8192, 16384, 32768, 65536] := by
  obtain ⟨j, rfl⟩ := pow_is h
  have a : j ≤ 16 := exp_lt (m := 16) h2
  have b : 10 ≤ j := exp_lt (j := 10) h1
  have : j = 10 ∨ j = 11 ∨ j = 12 ∨ j = 13 ∨ j = 14 ∨ j = 15 ∨ j = 16 := by omega
  rcases this with rfl | rfl | rfl | rfl | rfl | rfl | rfl <;> decide
theorem most_mem {p : Nat} (h : Cl.pow p = true) (h1 : 64 ≤ p) (h2 : p ≤ 262144) : p ∈ [64, 128, 256, 512, 1024, 2048, 4096, 8192, 16384, 32768, 65536, 131072, 262144] := by
  obtain ⟨j, rfl⟩ := pow_is h
  have a : j ≤ 18 := exp_lt (m := 18) h2
  have b : 6 ≤ j := exp_lt (j := 6) h1
  have : j = 6 ∨ j = 7 ∨ j = 8 ∨ j = 9 ∨ j = 10 ∨ j = 11 ∨ j = 12 ∨ j = 13 ∨ j = 14 ∨ j = 15 ∨ j = 16 ∨ j = 17 ∨ j = 18 := by omega
  rcases this with rfl | rfl | rfl | rfl | rfl | rfl | rfl | rfl | rfl | rfl | rfl | rfl | rfl <;> decide
theorem waste_ok {p m : Nat} (h : okB p m = true) : wasteAll p m = true := by
  obtain ⟨a, b, c, d, e, f⟩ := okB_page h
  rw [Int.toNat_natCast] at e f
  have h1 := List.all_eq_true.1 (List.all_eq_true.1 waste_all p (page_mem e (by omega) (by omega))) m (most_mem f (by omega) (by omega))
  rcases Bool.or_eq_true_iff.1 h1 with h2 | h2
  · have := of_decide_eq_true h2; omega
  · exact h2
/-- What the law asks of a class and the size ahead of it. -/
structure Fine (page : Nat) (strict : Bool) (p : Nat) (c : Cls) : Prop where
  le : p ≤ c.size
  ne : p = c.size → strict = false
  eight : c.size % 8 = 0
  pages : 1 ≤ c.pages
  slots : 1 ≤ c.slots
  fits : c.slots * c.size ≤ c.pages * page
  left : c.pages * page - c.slots * c.size < c.size
  eighth : c.pages * page - c.slots * c.size ≤ c.pages * page / 8
theorem waste_at {page : Nat} {strict : Bool} : ∀ {l : List Cls} {p : Nat} {x : Cls}, x.size = p → wasteB page strict p l = true → ∀ (i : Nat) (c d : Cls), l[i]? = some c → (x :: l)[i]? = some d → Fine page strict d.size c := by
  intro l
  induction l with
  | nil => intro p x _ _ i c d hc; simp at hc
  | cons a l ih =>
    intro p x hx h i c d hc hd
    simp only [wasteB, Bool.and_eq_true] at h
    obtain ⟨⟨⟨⟨⟨⟨⟨⟨h1, h2⟩, h3⟩, h4⟩, h5⟩, h6⟩, h7⟩, h8⟩, h9⟩ := h
    cases i with
    | zero =>
      simp at hc hd
      subst hc hd
      refine ⟨by rw [hx]; exact of_decide_eq_true h1, fun e => ?_, by simpa using h3, of_decide_eq_true h4, of_decide_eq_true h5, of_decide_eq_true h6, of_decide_eq_true h7, of_decide_eq_true h8⟩
      rw [hx] at e
      simpa [e] using h2
    | succ i => exact ih rfl h9 i c d (by simpa using hc) (by simpa using hd)
theorem waste_get {p m : Nat} (h : okB p m = true) : (∃ c r, classes p m = c :: r ∧ c.size = 8) ∧ (∃ d, (make p m)[(make p m).length - 1]? = some d ∧ m ≤ d.size) ∧ ∀ (i : Nat) (c d : Cls), (make p m)[i + 1]? = some c → (make p m)[i]? = some d → Fine p (p == 8192 && m == 32768) d.size c := by
  have hw := waste_ok h
  unfold wasteAll at hw
  cases hc : classes p m with
  | nil => rw [hc] at hw; cases hw
  | cons c r =>
    rw [hc] at hw
    simp only [Bool.and_eq_true] at hw
    obtain ⟨⟨h1, h2⟩, h3⟩ := hw
    refine ⟨⟨c, r, rfl, by simpa using h1⟩, ?_, ?_⟩
    · obtain ⟨d, hd, hz⟩ := (Option.any_eq_true _ _).1 h2
      refine ⟨d, ?_, by simpa using hz⟩
      unfold make
      rw [hc]
      rw [List.getLast?_eq_getElem?] at hd
      simpa using hd
    · intro i x d hx hd
      unfold make at hx hd
      rw [hc] at hx hd
      exact waste_at (x := zeroC) rfl h3 i x d (by simpa using hx) hd
end Go.Proofs.Ytamkjodfjdhhmaa
