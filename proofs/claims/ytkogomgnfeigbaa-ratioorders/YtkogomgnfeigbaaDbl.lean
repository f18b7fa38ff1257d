/-
  Plain facts on the doubles of the model (Ieee.double), no Go in sight: a positive number, told in units of a power of two, is rounded to a rung; rounding does not fall as the number rises, and a number that is a double is its own rung.
-/
import Ieee.Arith
namespace Go.Proofs.Dbl
open Ieee

/-! ### Rounding n by 2^d to the nearest, ties to even -/
def rne (n d : Nat) : Nat := n / 2 ^ d + (decide (2 ^ d < 2 * (n % 2 ^ d)) || (2 ^ d == 2 * (n % 2 ^ d) && n / 2 ^ d % 2 == 1)).toNat

theorem toNat_le_one (b : Bool) : b.toNat ≤ 1 := by cases b <;> decide

theorem cut_eq (neg : Bool) (n d : Nat) : Toward.even.cut neg n d = rne n d := by
  unfold Toward.cut rne
  simp only [Nat.one_shiftLeft]
  by_cases h : d ≤ n.log2 + 2
  · rw [Nat.min_eq_left h]
  · rw [Nat.min_eq_right (by omega)]
    have h1 : n < 2 ^ (n.log2 + 1) := Nat.lt_log2_self
    have h2 : 2 ^ (n.log2 + 2) = 2 * 2 ^ (n.log2 + 1) := by rw [Nat.pow_succ]; omega
    have h3 : 2 ^ (n.log2 + 2) ≤ 2 ^ d := Nat.pow_le_pow_right (by decide) (by omega)
    rw [Nat.div_eq_of_lt (by omega), Nat.mod_eq_of_lt (by omega), Nat.div_eq_of_lt (show n < 2 ^ d by omega), Nat.mod_eq_of_lt (show n < 2 ^ d by omega)]
    have a1 : ¬ 2 ^ (n.log2 + 2) < 2 * n := by omega
    have a2 : ¬ 2 ^ d < 2 * n := by omega
    simp [a1, a2]

theorem rne_mono (n m d : Nat) (h : n ≤ m) : rne n d ≤ rne m d := by
  unfold rne
  have hp : 0 < 2 ^ d := Nat.two_pow_pos d
  have hq : n / 2 ^ d ≤ m / 2 ^ d := Nat.div_le_div_right h
  by_cases he : n / 2 ^ d = m / 2 ^ d
  · have e1 := Nat.div_add_mod n (2 ^ d)
    have e2 := Nat.div_add_mod m (2 ^ d)
    rw [he] at e1 ⊢
    have hr : n % 2 ^ d ≤ m % 2 ^ d := by omega
    generalize n % 2 ^ d = r at *
    generalize m % 2 ^ d = s at *
    generalize m / 2 ^ d = q at *
    generalize 2 ^ d = g at *
    have : ∀ a b : Bool, (a = true → b = true) → a.toNat ≤ b.toNat := by decide
    apply Nat.add_le_add_left
    apply this
    simp only [Bool.or_eq_true, decide_eq_true_eq, Bool.and_eq_true, beq_iff_eq]
    intro hh
    rcases hh with hh | ⟨h1, h2⟩
    · left; omega
    · by_cases g1 : g < 2 * s
      · left; exact g1
      · right; exact ⟨by omega, h2⟩
  · have := toNat_le_one (decide (2 ^ d < 2 * (n % 2 ^ d)) || (2 ^ d == 2 * (n % 2 ^ d) && n / 2 ^ d % 2 == 1))
    omega

/-- A multiple is its own rounding. -/
theorem rne_mul (q d : Nat) : rne (q * 2 ^ d) d = q := by
  have hp : 0 < 2 ^ d := Nat.two_pow_pos d
  unfold rne
  rw [Nat.mul_div_cancel _ hp, Nat.mul_mod_left]
  have a1 : ¬ 2 ^ d < 2 * 0 := by omega
  have a2 : ¬ 2 ^ d = 2 * 0 := by omega
  simp [a1]

/-- Whatever is scaled up and down by the same power. -/
theorem rne_scale (n d t : Nat) : rne (n * 2 ^ t) (d + t) = rne n d := by
  have hp : 0 < 2 ^ t := Nat.two_pow_pos t
  unfold rne
  have e1 : n * 2 ^ t / 2 ^ (d + t) = n / 2 ^ d := by rw [Nat.pow_add]; exact Nat.mul_div_mul_right _ _ hp
  have e2 : n * 2 ^ t % 2 ^ (d + t) = n % 2 ^ d * 2 ^ t := by rw [Nat.pow_add]; exact Nat.mul_mod_mul_right _ _ _
  rw [e1, e2, Nat.pow_add]
  have a1 : (2 ^ d * 2 ^ t < 2 * (n % 2 ^ d * 2 ^ t)) ↔ 2 ^ d < 2 * (n % 2 ^ d) := by
    rw [← Nat.mul_assoc]; exact Nat.mul_lt_mul_right hp
  have a2 : (2 ^ d * 2 ^ t = 2 * (n % 2 ^ d * 2 ^ t)) ↔ 2 ^ d = 2 * (n % 2 ^ d) := by
    rw [← Nat.mul_assoc]; exact Nat.mul_right_cancel_iff hp
  have b2 : (2 ^ d * 2 ^ t == 2 * (n % 2 ^ d * 2 ^ t)) = (2 ^ d == 2 * (n % 2 ^ d)) := by
    rw [Bool.eq_iff_iff]; simp only [beq_iff_eq]; exact a2
  rw [b2, decide_eq_decide.2 a1]

/-! ### The rung of a number X, told in units of 2 ^ (leastPlace - s) -/
def N (s X : Nat) : Nat := (max (X.log2 - 52) s - s) * 2 ^ 52 + rne X (max (X.log2 - 52) s)

theorem mul_pow_ne (a t : Nat) (h : a ≠ 0) : a * 2 ^ t ≠ 0 := by
  have hp : 2 ^ t ≠ 0 := Nat.pos_iff_ne_zero.1 (Nat.two_pow_pos t)
  intro hh; rcases Nat.mul_eq_zero.1 hh with hh | hh
  · exact h hh
  · exact hp hh
theorem log2_mul_pow (X t : Nat) (h : X ≠ 0) : (X * 2 ^ t).log2 = X.log2 + t := by
  have h1 := Nat.log2_self_le h
  have h2 : X < 2 ^ (X.log2 + 1) := Nat.lt_log2_self
  have hp : 0 < 2 ^ t := Nat.two_pow_pos t
  have hx : X * 2 ^ t ≠ 0 := by
    intro hh; rcases Nat.mul_eq_zero.1 hh with hh | hh <;> omega
  rw [Nat.log2_eq_iff hx]
  refine ⟨?_, ?_⟩
  · rw [Nat.pow_add]; exact Nat.mul_le_mul_right _ h1
  · rw [show X.log2 + t + 1 = X.log2 + 1 + t by omega, Nat.pow_add]; exact (Nat.mul_lt_mul_right hp).2 h2

theorem N_scale (s X t : Nat) (h : X ≠ 0) : N (s + t) (X * 2 ^ t) = N s X := by
  unfold N
  rw [log2_mul_pow X t h]
  by_cases hc : s + 52 ≤ X.log2
  · rw [show max (X.log2 - 52) s = X.log2 - 52 by omega, show max (X.log2 + t - 52) (s + t) = X.log2 - 52 + t by omega, rne_scale,
      show X.log2 - 52 + t - (s + t) = X.log2 - 52 - s by omega]
  · rw [show max (X.log2 - 52) s = s by omega, show max (X.log2 + t - 52) (s + t) = s + t by omega, rne_scale, Nat.sub_self, Nat.sub_self]

theorem N_mono (s X Y : Nat) (h0 : X ≠ 0) (h : X ≤ Y) : N s X ≤ N s Y := by
  have hY : Y ≠ 0 := by omega
  have hl : X.log2 ≤ Y.log2 := by
    by_cases hh : X.log2 ≤ Y.log2
    · exact hh
    · have a := Nat.log2_self_le h0
      have b : Y < 2 ^ (Y.log2 + 1) := Nat.lt_log2_self
      have c : 2 ^ (Y.log2 + 1) ≤ 2 ^ X.log2 := Nat.pow_le_pow_right (by decide) (by omega)
      omega
  unfold N
  by_cases he : max (X.log2 - 52) s = max (Y.log2 - 52) s
  · rw [he]; exact Nat.add_le_add_left (rne_mono _ _ _ h) _
  · -- the greater one has a greater last place: from its binade's first rung on
    have hlt : max (X.log2 - 52) s < max (Y.log2 - 52) s := by omega
    have hYd : max (Y.log2 - 52) s = Y.log2 - 52 := by omega
    rw [hYd]
    rw [hYd] at hlt
    have h52 : 52 ≤ Y.log2 := by omega
    have up : rne X (max (X.log2 - 52) s) ≤ 2 ^ 53 := by
      generalize hd : max (X.log2 - 52) s = d at *
      have hx : X < 2 ^ (X.log2 + 1) := Nat.lt_log2_self
      have hx2 : 2 ^ (X.log2 + 1) ≤ 2 ^ (53 + d) := Nat.pow_le_pow_right (by decide) (by omega)
      have := rne_mono X (2 ^ 53 * 2 ^ d) d (by rw [← Nat.pow_add]; omega)
      rw [rne_mul] at this; exact this
    have lo : 2 ^ 52 ≤ rne Y (Y.log2 - 52) := by
      have hy := Nat.log2_self_le hY
      have := rne_mono (2 ^ 52 * 2 ^ (Y.log2 - 52)) Y (Y.log2 - 52) (by rw [← Nat.pow_add, show 52 + (Y.log2 - 52) = Y.log2 by omega]; exact hy)
      rw [rne_mul] at this; exact this
    have hds : s ≤ max (X.log2 - 52) s := Nat.le_max_right _ _
    generalize rne X (max (X.log2 - 52) s) = a at *
    generalize rne Y (Y.log2 - 52) = b at *
    generalize max (X.log2 - 52) s = d at *
    have : d - s + 1 ≤ Y.log2 - 52 - s := by omega
    have := Nat.mul_le_mul_right (2 ^ 52) this
    rw [Nat.add_mul] at this
    have e53 : 2 ^ 53 = 2 * 2 ^ 52 := by decide
    omega

/-! ### The format -/
theorem d_lp : double.leastPlace = -1074 := by decide
theorem d_bin : double.binade = 2 ^ 52 := by decide
theorem d_inf : double.infRung = 9218868437227405312 := by decide
theorem d_sw : double.signWeight = 2 ^ 63 := by decide

/-- The nearest word is the rung of the number in whatever units are small enough. -/
theorem nearest_eq (neg : Bool) (mag : Nat) (place : Int) (s k : Nat) (h : mag ≠ 0) (hk : (k : Int) = place + 1074 + s) :
    double.nearest neg mag place = double.word neg (min (N s (mag * 2 ^ k)) 9218868437227405312) := by
  unfold Format.nearest
  rw [if_neg h]
  simp only [d_lp, d_bin, d_inf, cut_eq]
  have hl := log2_mul_pow mag k h
  have fb : double.fractionBits = 52 := rfl
  rw [fb]
  obtain ⟨D, hD⟩ : ∃ D, D = max ((mag * 2 ^ k).log2 - 52) s := ⟨_, rfl⟩
  have hlast : max (place + (mag.log2 : Int) - ((52 : Nat) : Int)) (-1074) = (D : Int) - 1074 - s := by rw [hD, hl]; omega
  rw [hlast]
  have e1 : ((D : Int) - 1074 - s - -1074).toNat = D - s := by omega
  have e2 : rne (mag <<< (place - ((D : Int) - 1074 - s)).toNat) ((D : Int) - 1074 - s - place).toNat = rne (mag * 2 ^ k) D := by
    rw [Nat.shiftLeft_eq]
    by_cases hc : k ≤ D
    · rw [show (place - ((D : Int) - 1074 - s)).toNat = 0 by omega, show ((D : Int) - 1074 - s - place).toNat = D - k by omega]
      rw [Nat.pow_zero, Nat.mul_one, ← rne_scale mag (D - k) k, show D - k + k = D by omega]
    · rw [show (place - ((D : Int) - 1074 - s)).toNat = k - D by omega, show ((D : Int) - 1074 - s - place).toNat = 0 by omega]
      rw [← rne_scale (mag * 2 ^ (k - D)) 0 D, Nat.zero_add, Nat.mul_assoc, ← Nat.pow_add, show k - D + D = k by omega]
  rw [e1, e2]
  unfold N
  rw [← hD]

/-! ### What a rung stands for, in units of 2 ^ leastPlace -/
def V (r : Nat) : Nat := if r < 2 ^ 52 then r else (2 ^ 52 + r % 2 ^ 52) * 2 ^ (r / 2 ^ 52 - 1)

theorem V_pos (r : Nat) (h : r ≠ 0) : V r ≠ 0 := by
  unfold V
  split
  · exact h
  · have := Nat.two_pow_pos (r / 2 ^ 52 - 1)
    intro hh
    rcases Nat.mul_eq_zero.1 hh with hh | hh <;> omega
theorem V_zero : V 0 = 0 := by decide

theorem N_V (r : Nat) (h : r ≠ 0) : N 0 (V r) = r := by
  unfold V
  split
  · rename_i hr
    have hl : r.log2 < 52 := (Nat.log2_lt h).2 hr
    unfold N
    rw [show max (r.log2 - 52) 0 = 0 by omega]
    have := rne_mul r 0
    rw [Nat.pow_zero, Nat.mul_one] at this
    rw [this]; omega
  · rename_i hr
    have hm : (2 ^ 52 + r % 2 ^ 52) ≠ 0 := by omega
    have hl : (2 ^ 52 + r % 2 ^ 52).log2 = 52 := by
      rw [Nat.log2_eq_iff hm]
      have := Nat.mod_lt r (show 0 < 2 ^ 52 by decide)
      refine ⟨by omega, by omega⟩
    unfold N
    rw [log2_mul_pow _ _ hm, hl, show max (52 + (r / 2 ^ 52 - 1) - 52) 0 = r / 2 ^ 52 - 1 by omega, rne_mul]
    have := Nat.div_add_mod r (2 ^ 52)
    have h1 : 1 ≤ r / 2 ^ 52 := (Nat.le_div_iff_mul_le (by decide)).2 (by omega)
    rw [Nat.sub_zero, Nat.sub_mul]
    have h2 : 1 * 2 ^ 52 ≤ r / 2 ^ 52 * 2 ^ 52 := Nat.mul_le_mul_right _ h1
    rw [Nat.mul_comm (2 ^ 52) (r / 2 ^ 52)] at this
    omega

theorem V_lt (r t : Nat) (h : r < t) : V r < V t := by
  by_cases hh : V r < V t
  · exact hh
  · have ht := V_pos t (by omega)
    have := N_mono 0 (V t) (V r) ht (by omega)
    rw [N_V t (by omega), N_V r (by intro h0; subst h0; rw [V_zero] at hh; omega)] at this
    omega
theorem V_le (r t : Nat) (h : r ≤ t) : V r ≤ V t := by
  by_cases he : r = t
  · subst he; exact Nat.le_refl _
  · exact Nat.le_of_lt (V_lt r t (by omega))
theorem V_lt_iff (r t : Nat) : V r < V t ↔ r < t := by
  constructor
  · intro h
    by_cases hh : r < t
    · exact hh
    · have := V_le t r (by omega); omega
  · exact V_lt r t

/-- What a word without its sign stands for. -/
theorem read_num (neg : Bool) (r : Nat) (h : r < 9218868437227405312) :
    ∃ (m : Nat) (p : Nat), double.read (double.word neg r) = .number neg m ((p : Int) - 1074) ∧ m * 2 ^ p = V r := by
  have hw : double.word neg r / 2 ^ 63 % 2 = neg.toNat ∧ double.word neg r % 2 ^ 63 = r := by
    unfold Format.word
    rw [d_sw]
    cases neg
    · simp only [Bool.false_eq_true, if_false, Bool.toNat_false]; omega
    · simp only [if_true, Bool.toNat_true]; omega
  unfold Format.read
  rw [d_sw, d_bin, d_inf, d_lp, hw.1, hw.2]
  have hb : (neg.toNat == 1) = neg := by cases neg <;> rfl
  rw [hb]
  unfold V
  by_cases hr : r < 2 ^ 52
  · rw [if_pos hr, if_pos hr]
    exact ⟨r, 0, rfl, by rw [Nat.pow_zero, Nat.mul_one]⟩
  · rw [if_neg hr, if_neg hr, if_pos h]
    refine ⟨_, r / 2 ^ 52 - 1, ?_, rfl⟩
    congr 1
theorem read_inf (neg : Bool) : double.read (double.word neg 9218868437227405312) = .infinity neg := by cases neg <;> decide +kernel

/-! ### A number that has its last digit in place is its own rung's -/
theorem V_of (D q : Nat) (h : (2 ^ 52 ≤ q ∧ q ≤ 2 ^ 53) ∨ (D = 0 ∧ q ≤ 2 ^ 53)) : V (D * 2 ^ 52 + q) = q * 2 ^ D := by
  by_cases h1 : q < 2 ^ 52
  · have hD : D = 0 := by omega
    subst hD
    unfold V
    rw [if_pos (by omega)]; omega
  · by_cases h2 : q = 2 ^ 53
    · subst h2
      have e : D * 2 ^ 52 + 2 ^ 53 = (D + 2) * 2 ^ 52 := by omega
      unfold V
      rw [if_neg (by omega), e, Nat.mul_mod_left, Nat.mul_div_cancel _ (by decide), show D + 2 - 1 = 1 + D by omega, Nat.pow_add, ← Nat.mul_assoc]
    · unfold V
      have e1 : (D * 2 ^ 52 + q) % 2 ^ 52 = q - 2 ^ 52 := by omega
      have e2 : (D * 2 ^ 52 + q) / 2 ^ 52 = D + 1 := by omega
      rw [if_neg (by omega), e1, e2, show 2 ^ 52 + (q - 2 ^ 52) = q by omega, Nat.add_sub_cancel]

theorem V_N (X : Nat) (h0 : X ≠ 0) (h : X % 2 ^ (X.log2 - 52) = 0) : V (N 0 X) = X := by
  have hx : X < 2 ^ (X.log2 + 1) := Nat.lt_log2_self
  have hl := Nat.log2_self_le h0
  unfold N
  rw [show max (X.log2 - 52) 0 = X.log2 - 52 by omega, Nat.sub_zero]
  have e := Nat.div_add_mod X (2 ^ (X.log2 - 52))
  rw [h, Nat.add_zero, Nat.mul_comm] at e
  have r := rne_mul (X / 2 ^ (X.log2 - 52)) (X.log2 - 52)
  rw [e] at r
  rw [r, V_of, e]
  by_cases h52 : 52 ≤ X.log2
  · left
    have p52 : 2 ^ X.log2 = 2 ^ 52 * 2 ^ (X.log2 - 52) := by rw [← Nat.pow_add]; congr 1; omega
    have p53 : 2 ^ (X.log2 + 1) = 2 ^ 53 * 2 ^ (X.log2 - 52) := by rw [← Nat.pow_add]; congr 1; omega
    have hp : 0 < 2 ^ (X.log2 - 52) := Nat.two_pow_pos _
    refine ⟨(Nat.le_div_iff_mul_le hp).2 (by omega), ?_⟩
    exact Nat.le_of_lt ((Nat.div_lt_iff_lt_mul hp).2 (by omega))
  · right
    refine ⟨by omega, ?_⟩
    rw [show X.log2 - 52 = 0 by omega, Nat.pow_zero, Nat.div_one]
    have : 2 ^ (X.log2 + 1) ≤ 2 ^ 53 := Nat.pow_le_pow_right (by decide) (by omega)
    omega

/-- A number of at most 53 digits, wherever they stand: exact. -/
theorem exact_dyadic (m t : Nat) (h0 : m ≠ 0) (h : m ≤ 2 ^ 53) : V (N 0 (m * 2 ^ t)) = m * 2 ^ t := by
  have hp : 0 < 2 ^ t := Nat.two_pow_pos t
  have hx : m * 2 ^ t ≠ 0 := by intro hh; rcases Nat.mul_eq_zero.1 hh with hh | hh <;> omega
  apply V_N _ hx
  rw [log2_mul_pow m t h0]
  by_cases h53 : m = 2 ^ 53
  · subst h53
    rw [show (2 ^ 53 : Nat).log2 = 53 by decide +kernel, ← Nat.pow_add, show 53 + t - 52 = 1 + t by omega, show 53 + t = 52 + (1 + t) by omega, Nat.pow_add 2 52]
    exact Nat.mul_mod_left _ _
  · have hl : m.log2 < 53 := (Nat.log2_lt h0).2 (by omega)
    have : ∃ c, t = (m.log2 + t - 52) + c := ⟨t - (m.log2 + t - 52), by omega⟩
    obtain ⟨c, hc⟩ := this
    rw [show m * 2 ^ t = m * 2 ^ c * 2 ^ (m.log2 + t - 52) by rw [Nat.mul_assoc, ← Nat.pow_add]; congr 2; omega]
    exact Nat.mul_mod_left _ _

/-! ### float64 of a whole number -/
def F (a : Nat) : Nat := double.nearest false a 0

theorem word_false (r : Nat) : double.word false r = r := rfl
theorem F_zero : F 0 = 0 := by decide
theorem F_eq (a : Nat) (h : a ≠ 0) : F a = min (N 0 (a * 2 ^ 1074)) 9218868437227405312 := by
  unfold F
  rw [nearest_eq false a 0 0 1074 h (by omega), word_false]

theorem F_lt (a : Nat) (h : a < 2 ^ 64) : F a ≤ 4895412794951729152 := by
  by_cases h0 : a = 0
  · subst h0; rw [F_zero]; omega
  · rw [F_eq a h0]
    have := N_mono 0 (a * 2 ^ 1074) (2 ^ 64 * 2 ^ 1074) (mul_pow_ne a 1074 h0) (Nat.mul_le_mul_right _ (by omega))
    have e : N 0 (2 ^ 64 * 2 ^ 1074) = 4895412794951729152 := by decide +kernel
    rw [e] at this
    generalize N 0 (a * 2 ^ 1074) = x at *
    omega
theorem F_mono (a b : Nat) (h : a ≤ b) : F a ≤ F b := by
  by_cases h0 : a = 0
  · subst h0; rw [F_zero]; omega
  · rw [F_eq a h0, F_eq b (by omega)]
    have := N_mono 0 (a * 2 ^ 1074) (b * 2 ^ 1074) (mul_pow_ne a 1074 h0) (Nat.mul_le_mul_right _ h)
    generalize N 0 (a * 2 ^ 1074) = x at *
    generalize N 0 (b * 2 ^ 1074) = y at *
    omega
theorem F_ne (a : Nat) (h : a ≠ 0) : F a ≠ 0 := by
  have := F_mono 1 a (by omega)
  have e : F 1 = 4607182418800017408 := by decide +kernel
  omega
theorem V_F (a : Nat) (h : a ≤ 2 ^ 53) : V (F a) = a * 2 ^ 1074 := by
  by_cases h0 : a = 0
  · subst h0
    generalize 2 ^ 1074 = u
    rw [F_zero, V_zero, Nat.zero_mul]
  · have hl := F_lt a (by omega)
    have e := F_eq a h0
    have x := exact_dyadic a 1074 h0 h
    have e2 : F a = N 0 (a * 2 ^ 1074) := by
      clear x
      generalize N 0 (a * 2 ^ 1074) = y at *
      omega
    rw [e2]; exact x

end Go.Proofs.Dbl
