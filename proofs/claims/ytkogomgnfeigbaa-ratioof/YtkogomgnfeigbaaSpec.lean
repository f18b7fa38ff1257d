/-
  What the document asks of ratio (chapter 2), as plain functions over the doubles of the model, and what follows (2.7), no Go in sight.
-/
import Derived.Test.YtkogomgnfeigbaaRatio
namespace Go.Proofs.Dbl
open Ieee

def canon : Nat := 9221120237041090561
def ge (x y : Nat) : Bool := double.order x y == some .gt || double.order x y == some .eq
/-- Of a double the part ahead of the point, as Times cuts it. -/
def cutW (x : Nat) : Nat := if ge x 4607182418800017408 then (if ge x 4895412794951729152 then 18446744073709551615 else (((double.read x).toInt .zero).getD 0).toNat) else 0
def ofV (a b : Nat) : Nat := (double.div (F a) (F b)).getD canon
def timesV (n r : Nat) : Nat := match double.mul (F n) r with
  | some x => cutW x
  | none => 0

/-! ### Words -/
theorem word_split (r : Nat) (h : r < 18446744073709551616) : ∃ t y, y < 9223372036854775808 ∧ r = double.word t y := by
  by_cases hr : r < 9223372036854775808
  · exact ⟨false, r, hr, rfl⟩
  · refine ⟨true, r - 9223372036854775808, by omega, ?_⟩
    unfold Format.word
    rw [d_sw]; simp only [if_true]; omega

theorem read_nan (t : Bool) (y : Nat) (h1 : 9218868437227405312 < y) (h2 : y < 9223372036854775808) : double.read (double.word t y) = .nan t (y - 9218868437227405312) := by
  have hw : double.word t y / 2 ^ 63 % 2 = t.toNat ∧ double.word t y % 2 ^ 63 = y := by
    unfold Format.word
    rw [d_sw]
    cases t
    · simp only [Bool.false_eq_true, if_false, Bool.toNat_false]; omega
    · simp only [if_true, Bool.toNat_true]; omega
  unfold Format.read
  rw [d_sw, d_bin, d_inf, d_lp, hw.1, hw.2]
  have hb : (t.toNat == 1) = t := by cases t <;> rfl
  rw [hb, if_neg (by omega), if_neg (by omega), if_neg (by omega)]

theorem mul_nan_right (a : Nat) (t : Bool) (y : Nat) (h1 : 9218868437227405312 < y) (h2 : y < 9223372036854775808) : double.mul a (double.word t y) = none := by
  unfold Format.mul
  rw [read_nan t y h1 h2]
  cases double.read a <;> rfl

theorem mul_inf_right (x : Nat) (t : Bool) (hx : x < 9218868437227405312) : double.mul x (double.word t 9218868437227405312) = if x = 0 then none else some (double.word t 9218868437227405312) := by
  obtain ⟨m, p, e, v⟩ := read_num false x hx
  have z := read_zero_mag false x m _ hx e
  rw [word_false] at e
  unfold Format.mul
  rw [e, read_inf]
  simp only [Datum.product]
  by_cases h : x = 0
  · rw [if_pos h, if_pos (z.2 h)]; rfl
  · rw [if_neg h, if_neg (fun hh => h (z.1 hh))]
    cases t <;> rfl

/-! ### The cut -/
theorem ge_pos (q y : Nat) (hq : q ≤ 9218868437227405312) (hy : y ≤ 9218868437227405312) : ge q y = decide (y ≤ q) := by
  unfold ge
  have := order_key false false q y hq hy
  rw [word_false, word_false] at this
  rw [this]
  unfold key
  simp only [Bool.false_eq_true, if_false]
  rcases Nat.lt_trichotomy q y with h | h | h
  · rw [Int.compare_eq_lt.2 (by omega)]
    have : ¬ y ≤ q := by omega
    simp [this]
  · subst h
    simp
  · rw [Int.compare_eq_gt.2 (by omega)]
    have : y ≤ q := by omega
    simp [this]
theorem ge_neg (q y : Nat) (hq : q ≤ 9218868437227405312) (hy : y ≤ 9218868437227405312) (h0 : 0 < y) : ge (double.word true q) y = false := by
  unfold ge
  have := order_key true false q y hq hy
  rw [word_false] at this
  rw [this]
  unfold key
  simp only [Bool.false_eq_true, if_false, if_true]
  rw [Int.compare_eq_lt.2 (by omega)]
  rfl

theorem cut_pos (q J : Nat) (hJ : J = 1074) (hq : q ≤ 9218868437227405312) : cutW q = if q < 4607182418800017408 then 0 else if 4895412794951729152 ≤ q then 18446744073709551615 else V q / 2 ^ J := by
  unfold cutW
  rw [ge_pos q _ hq (by decide), ge_pos q _ hq (by decide)]
  by_cases h1 : q < 4607182418800017408
  · rw [if_pos h1, if_neg (by simp; omega)]
  · rw [if_neg h1, if_pos (by simp; omega)]
    by_cases h2 : 4895412794951729152 ≤ q
    · rw [if_pos h2, if_pos (by simpa using h2)]
    · rw [if_neg h2, if_neg (by simpa using h2), trunc_eq q (by omega), ← hJ]
      rfl
theorem cut_inf : cutW 9218868437227405312 = 18446744073709551615 := by
  obtain ⟨J, hJ⟩ : ∃ J, J = 1074 := ⟨_, rfl⟩
  rw [cut_pos _ J hJ (by decide), if_neg (by decide), if_pos (by decide)]
theorem cut_neg (q : Nat) (hq : q ≤ 9218868437227405312) : cutW (double.word true q) = 0 := by
  unfold cutW
  rw [ge_neg q _ hq (by decide) (by decide)]
  rfl

theorem V_two64 (J : Nat) (hJ : J = 1074) : V 4895412794951729152 = 18446744073709551616 * 2 ^ J := by subst hJ; decide +kernel
theorem V_one' (J : Nat) (hJ : J = 1074) : V 4607182418800017408 = 2 ^ J := by subst hJ; exact V_one

theorem cut_lt (q J : Nat) (hJ : J = 1074) (h : q < 4895412794951729152) : V q / 2 ^ J < 18446744073709551616 := by
  have := V_lt _ _ h
  rw [V_two64 J hJ] at this
  exact (Nat.div_lt_iff_lt_mul (Nat.two_pow_pos J)).2 this

theorem cut_le (q : Nat) (hq : q ≤ 9218868437227405312) : cutW q ≤ 18446744073709551615 := by
  obtain ⟨J, hJ⟩ : ∃ J, J = 1074 := ⟨_, rfl⟩
  rw [cut_pos q J hJ hq]
  by_cases h1 : q < 4607182418800017408
  · rw [if_pos h1]; omega
  · rw [if_neg h1]
    by_cases h2 : 4895412794951729152 ≤ q
    · rw [if_pos h2]; omega
    · rw [if_neg h2]
      have := cut_lt q J hJ (by omega)
      clear hJ
      generalize V q / 2 ^ J = z at *
      omega

theorem cut_mono (q q' : Nat) (h : q ≤ q') (hq : q' ≤ 9218868437227405312) : cutW q ≤ cutW q' := by
  obtain ⟨J, hJ⟩ : ∃ J, J = 1074 := ⟨_, rfl⟩
  rw [cut_pos q J hJ (by omega), cut_pos q' J hJ hq]
  by_cases h1 : q < 4607182418800017408
  · rw [if_pos h1]; exact Nat.zero_le _
  · rw [if_neg h1, if_neg (show ¬ q' < 4607182418800017408 by omega)]
    by_cases h2 : 4895412794951729152 ≤ q'
    · rw [if_pos h2]
      by_cases h3 : 4895412794951729152 ≤ q
      · rw [if_pos h3]; exact Nat.le_refl _
      · rw [if_neg h3]
        have := cut_lt q J hJ (by omega)
        clear hJ
        generalize V q / 2 ^ J = z at *
        omega
    · rw [if_neg h2, if_neg (show ¬ 4895412794951729152 ≤ q by omega)]
      exact Nat.div_le_div_right (V_le _ _ h)

/-! ### Times -/
theorem mulR_le (x y : Nat) : mulR x y ≤ 9218868437227405312 := by
  unfold mulR
  split
  · exact Nat.zero_le _
  · exact Nat.min_le_right _ _

theorem times_nan (n : Nat) (t : Bool) (y : Nat) (h1 : 9218868437227405312 < y) (h2 : y < 9223372036854775808) : timesV n (double.word t y) = 0 := by
  unfold timesV
  rw [mul_nan_right _ t y h1 h2]
theorem times_fin (n y : Nat) (hn : n < 18446744073709551616) (hy : y < 9218868437227405312) : timesV n y = cutW (mulR (F n) y) := by
  unfold timesV
  have f := F_lt n hn
  have := mul_word false false (F n) y (by omega) hy
  rw [show (false ^^ false) = false from rfl, word_false, word_false, word_false] at this
  rw [this]
theorem times_neg (n y : Nat) (hn : n < 18446744073709551616) (hy : y ≤ 9218868437227405312) : timesV n (double.word true y) = 0 := by
  unfold timesV
  have f := F_lt n hn
  by_cases h : y = 9218868437227405312
  · subst h
    rw [mul_inf_right (F n) true (by omega)]
    by_cases h0 : F n = 0
    · rw [if_pos h0]
    · rw [if_neg h0]; exact cut_neg _ (by decide)
  · have := mul_word false true (F n) y (by omega) (by omega)
    rw [word_false, show (false ^^ true) = true from rfl] at this
    rw [this]
    exact cut_neg _ (mulR_le _ _)
theorem times_inf (n : Nat) (hn : n < 18446744073709551616) : timesV n 9218868437227405312 = if n = 0 then 0 else 18446744073709551615 := by
  unfold timesV
  have f := F_lt n hn
  have := mul_inf_right (F n) false (by omega)
  rw [word_false] at this
  rw [this]
  by_cases h0 : n = 0
  · subst h0
    rw [if_pos F_zero, if_pos rfl]
  · rw [if_neg (F_ne n h0), if_neg h0]
    exact cut_inf

theorem times_le (n r : Nat) (hn : n < 18446744073709551616) (hr : r < 18446744073709551616) : timesV n r ≤ 18446744073709551615 := by
  obtain ⟨t, y, hy, rfl⟩ := word_split r hr
  by_cases h1 : 9218868437227405312 < y
  · rw [times_nan n t y h1 hy]; omega
  · cases t
    · by_cases h2 : y = 9218868437227405312
      · subst h2
        rw [word_false, times_inf n hn]; split <;> omega
      · rw [word_false, times_fin n y hn (by omega)]
        exact cut_le _ (mulR_le _ _)
    · rw [times_neg n y hn (by omega)]; omega

/-- More is never worth less. -/
theorem times_mono (a b r : Nat) (h : a ≤ b) (hb : b < 18446744073709551616) (hr : r < 18446744073709551616) : timesV a r ≤ timesV b r := by
  obtain ⟨t, y, hy, rfl⟩ := word_split r hr
  by_cases h1 : 9218868437227405312 < y
  · rw [times_nan a t y h1 hy]; exact Nat.zero_le _
  · cases t
    · by_cases h2 : y = 9218868437227405312
      · subst h2
        rw [word_false, times_inf a (by omega), times_inf b hb]
        split
        · exact Nat.zero_le _
        · rw [if_neg (by omega)]; exact Nat.le_refl _
      · rw [word_false, times_fin a y (by omega) (by omega), times_fin b y hb (by omega)]
        exact cut_mono _ _ (mulR_mono _ _ _ (F_mono a b h)) (mulR_le _ _)
    · rw [times_neg a y (by omega) (by omega)]; exact Nat.zero_le _

/-- Times one. -/
theorem times_one (n : Nat) (hn : n < 9007199254740992) : timesV n 4607182418800017408 = n := by
  obtain ⟨J, hJ⟩ : ∃ J, J = 1074 := ⟨_, rfl⟩
  have f := F_lt n (by omega)
  rw [times_fin n _ (by omega) (by decide), mulR_one (F n) (by omega), cut_pos _ J hJ (by omega)]
  have v : V (F n) = n * 2 ^ J := by rw [hJ]; exact V_F n (by omega)
  clear hJ
  by_cases h0 : n = 0
  · subst h0
    rw [if_pos (by rw [F_zero]; decide)]
  · have g : 4607182418800017408 ≤ F n := by
      have := F_mono 1 n (by omega)
      have e : F 1 = 4607182418800017408 := by decide +kernel
      omega
    have g2 : F n < 4895412794951729152 := by
      have := F_mono n 9007199254740992 (by omega)
      have e : F 9007199254740992 = 4845873199050653696 := by decide +kernel
      omega
    rw [if_neg (by omega), if_neg (by omega), v, Nat.mul_div_cancel _ (Nat.two_pow_pos J)]

/-! ### Of -/
theorem of_form (a b : Nat) (ha : a < 18446744073709551616) (hb : b < 18446744073709551616) :
    (a = 0 ∧ b = 0 ∧ double.div (F a) (F b) = none ∧ ofV a b = canon) ∨ (¬ (a = 0 ∧ b = 0) ∧ ∃ q, q ≤ 9218868437227405312 ∧ double.div (F a) (F b) = some q ∧ ofV a b = q) := by
  obtain ⟨J, hJ⟩ : ∃ J, J = 1074 := ⟨_, rfl⟩
  have fa := F_lt a ha
  have fb := F_lt b hb
  by_cases h0 : b = 0
  · subst h0
    rw [F_zero]
    by_cases h1 : a = 0
    · subst h1
      left
      refine ⟨rfl, rfl, by rw [F_zero]; exact div_zero_zero, ?_⟩
      unfold ofV
      rw [F_zero, div_zero_zero]; rfl
    · right
      have e := div_by_zero (F a) (by omega) (F_ne a h1)
      refine ⟨fun h => h1 h.1, _, Nat.le_refl _, e, ?_⟩
      unfold ofV
      rw [F_zero, e]; rfl
  · right
    by_cases h1 : a = 0
    · subst h1
      have e := div_zero_num (F b) (by omega) (F_ne b h0)
      rw [← F_zero] at e
      refine ⟨fun h => h0 h.2, 0, by omega, by rw [e, F_zero], ?_⟩
      unfold ofV
      rw [e, F_zero]; rfl
    · obtain ⟨q, e, hq, _, _⟩ := div_sides (F a) (F b) (by omega) (F_ne a h1) (by omega) (F_ne b h0) J hJ
      refine ⟨fun h => h1 h.1, q, hq, e, ?_⟩
      unfold ofV
      rw [e]; rfl

end Go.Proofs.Dbl
