/-
  Plain facts on the doubles of the model, no Go in sight: products, quotients, the order, and the cut to a whole number, by rungs.
-/
import Derived.Test.YtkogomgnfeigbabDbl
namespace Go.Proofs.Dbl
open Ieee

/-! ### Products -/
def mulR (x y : Nat) : Nat := if x = 0 ∨ y = 0 then 0 else min (N 1074 (V x * V y)) 9218868437227405312

theorem read_zero_mag (neg : Bool) (r m : Nat) (p : Int) (h : r < 9218868437227405312) (e : double.read (double.word neg r) = .number neg m p) : m = 0 ↔ r = 0 := by
  obtain ⟨m', p', e', hv⟩ := read_num neg r h
  rw [e'] at e
  injection e with _ em _
  subst em
  constructor
  · intro h0
    subst h0
    rw [Nat.zero_mul] at hv
    by_cases hr : r = 0
    · exact hr
    · exact absurd hv.symm (V_pos r hr)
  · intro hr
    subst hr
    rw [V_zero] at hv
    rcases Nat.mul_eq_zero.1 hv with hh | hh
    · exact hh
    · exact absurd hh (Nat.pos_iff_ne_zero.1 (Nat.two_pow_pos p'))

theorem mul_word (s t : Bool) (x y : Nat) (hx : x < 9218868437227405312) (hy : y < 9218868437227405312) :
    double.mul (double.word s x) (double.word t y) = some (double.word (s ^^ t) (mulR x y)) := by
  obtain ⟨m, p, e1, v1⟩ := read_num s x hx
  obtain ⟨n, q, e2, v2⟩ := read_num t y hy
  have z1 := read_zero_mag s x m _ hx e1
  have z2 := read_zero_mag t y n _ hy e2
  unfold Format.mul
  rw [e1, e2]
  simp only [Datum.product, Option.map, Format.write]
  unfold mulR
  by_cases h : x = 0 ∨ y = 0
  · rw [if_pos h]
    have : m * n = 0 := by
      rcases h with h | h
      · rw [z1.2 h, Nat.zero_mul]
      · rw [z2.2 h, Nat.mul_zero]
    rw [this]
    unfold Format.nearest
    rw [if_pos rfl]
  · rw [if_neg h]
    have hm : m * n ≠ 0 := by
      intro hh
      rcases Nat.mul_eq_zero.1 hh with hh | hh
      · exact h (Or.inl (z1.1 hh))
      · exact h (Or.inr (z2.1 hh))
    rw [nearest_eq (s ^^ t) (m * n) _ 1074 (p + q) hm (by omega)]
    have e : m * n * 2 ^ (p + q) = V x * V y := by
      rw [← v1, ← v2, Nat.pow_add, Nat.mul_mul_mul_comm]
    rw [e]

theorem mulR_mono (x x' y : Nat) (h : x ≤ x') : mulR x y ≤ mulR x' y := by
  unfold mulR
  by_cases h0 : x = 0 ∨ y = 0
  · rw [if_pos h0]; exact Nat.zero_le _
  · rw [if_neg h0, if_neg (by omega)]
    have h1 : x ≠ 0 := fun hh => h0 (Or.inl hh)
    have h2 : y ≠ 0 := fun hh => h0 (Or.inr hh)
    have hv : V x * V y ≠ 0 := by
      intro hh
      rcases Nat.mul_eq_zero.1 hh with hh | hh
      · exact V_pos x h1 hh
      · exact V_pos y h2 hh
    have := N_mono 1074 (V x * V y) (V x' * V y) hv (Nat.mul_le_mul_right _ (V_le x x' h))
    omega

/-- 1.0 -/
theorem V_one : V 4607182418800017408 = 2 ^ 1074 := by decide +kernel
theorem mulR_one (x : Nat) (hx : x < 9218868437227405312) : mulR x 4607182418800017408 = x := by
  unfold mulR
  by_cases h0 : x = 0
  · rw [if_pos (Or.inl h0), h0]
  · rw [if_neg (by omega), V_one]
    have := N_scale 0 (V x) 1074 (V_pos x h0)
    rw [Nat.zero_add] at this
    rw [this, N_V x h0]
    omega

/-! ### The cut to a whole number -/
theorem cut_zero (neg : Bool) (n d : Nat) : Toward.zero.cut neg n d = n / 2 ^ d := by
  unfold Toward.cut
  simp only [Nat.one_shiftLeft, Bool.toNat_false, Nat.add_zero]
  by_cases h : d ≤ n.log2 + 2
  · rw [Nat.min_eq_left h]
  · rw [Nat.min_eq_right (by omega)]
    have h1 : n < 2 ^ (n.log2 + 1) := Nat.lt_log2_self
    have h2 : 2 ^ (n.log2 + 2) = 2 * 2 ^ (n.log2 + 1) := by rw [Nat.pow_succ]; omega
    have h3 : 2 ^ (n.log2 + 2) ≤ 2 ^ d := Nat.pow_le_pow_right (by decide) (by omega)
    rw [Nat.div_eq_of_lt (by omega), Nat.div_eq_of_lt (show n < 2 ^ d by omega)]

theorem trunc_aux (m p K : Nat) (k : Int) (hk : k = (K : Int)) : m * 2 ^ ((p : Int) - k).toNat / 2 ^ (-((p : Int) - k)).toNat = m * 2 ^ p / 2 ^ K := by
  subst hk
  by_cases hp : K ≤ p
  · obtain ⟨c, rfl⟩ : ∃ c, p = c + K := ⟨p - K, by omega⟩
    rw [show (((c + K : Nat) : Int) - K).toNat = c by omega, show (-(((c + K : Nat) : Int) - K)).toNat = 0 by omega, Nat.pow_zero, Nat.div_one, Nat.pow_add, ← Nat.mul_assoc]
    exact (Nat.mul_div_cancel _ (Nat.two_pow_pos K)).symm
  · obtain ⟨c, rfl⟩ : ∃ c, K = c + p := ⟨K - p, by omega⟩
    rw [show ((p : Int) - ((c + p : Nat) : Int)).toNat = 0 by omega, show (-((p : Int) - ((c + p : Nat) : Int))).toNat = c by omega, Nat.pow_zero, Nat.mul_one, Nat.pow_add]
    exact (Nat.mul_div_mul_right _ _ (Nat.two_pow_pos p)).symm

theorem trunc_eq (r : Nat) (h : r < 9218868437227405312) : (double.read r).toInt .zero = some ((V r / 2 ^ 1074 : Nat) : Int) := by
  obtain ⟨m, p, e, v⟩ := read_num false r h
  rw [word_false] at e
  rw [e]
  simp only [Datum.toInt, Datum.integral, cut_zero, signed, Bool.false_eq_true, if_false, Nat.shiftLeft_eq]
  rw [trunc_aux m p 1074 1074 (by decide), v, Nat.pow_zero, Nat.mul_one]

/-! ### The order -/
def key (neg : Bool) (r : Nat) : Int := if neg then -(r : Int) else (r : Int)

theorem compare_mul (x y : Int) (b : Nat) : compare (x * ((2 ^ b : Nat) : Int)) (y * ((2 ^ b : Nat) : Int)) = compare x y := by
  have hp : (0 : Int) < ((2 ^ b : Nat) : Int) := by have := Nat.two_pow_pos b; omega
  rcases Int.lt_trichotomy x y with h | h | h
  · rw [Int.compare_eq_lt.2 h, Int.compare_eq_lt.2 (Int.mul_lt_mul_of_pos_right h hp)]
  · subst h; simp
  · rw [Int.compare_eq_gt.2 h, Int.compare_eq_gt.2 (Int.mul_lt_mul_of_pos_right h hp)]

theorem signed_V (s : Bool) (m p b r : Nat) (h : b ≤ p) (v : m * 2 ^ p = V r) : signed s m (p - b) * ((2 ^ b : Nat) : Int) = key s (V r) := by
  have e : m <<< (p - b) * 2 ^ b = V r := by rw [Nat.shiftLeft_eq, Nat.mul_assoc, ← Nat.pow_add, Nat.sub_add_cancel h, v]
  unfold signed key
  cases s
  · simp only [Bool.false_eq_true, if_false]
    rw [← e, Int.natCast_mul]
  · simp only [if_true]
    rw [← e, Int.natCast_mul, Int.neg_mul]

theorem compare_key (s t : Bool) (r q : Nat) : compare (key s (V r)) (key t (V q)) = compare (key s r) (key t q) := by
  have h0 : ∀ x, V x = 0 ↔ x = 0 := fun x => ⟨fun h => by
    by_cases hx : x = 0
    · exact hx
    · exact absurd h (V_pos x hx), fun h => by rw [h]; exact V_zero⟩
  have hr := h0 r
  have hq := h0 q
  have l1 := V_lt_iff r q
  have l2 := V_lt_iff q r
  have key_lt : key s (V r) < key t (V q) ↔ key s r < key t q := by unfold key; cases s <;> cases t <;> simp only [Bool.false_eq_true, if_false, if_true] <;> omega
  have key_gt : key t (V q) < key s (V r) ↔ key t q < key s r := by unfold key; cases s <;> cases t <;> simp only [Bool.false_eq_true, if_false, if_true] <;> omega
  rcases Int.lt_trichotomy (key s r) (key t q) with h | h | h
  · rw [Int.compare_eq_lt.2 h, Int.compare_eq_lt.2 (key_lt.2 h)]
  · have e : key s (V r) = key t (V q) := by omega
    rw [h, e]; simp
  · rw [Int.compare_eq_gt.2 h, Int.compare_eq_gt.2 (key_gt.2 h)]

theorem order_num (s t : Bool) (r q : Nat) (hr : r < 9218868437227405312) (hq : q < 9218868437227405312) :
    double.order (double.word s r) (double.word t q) = some (compare (key s r) (key t q)) := by
  obtain ⟨m, a, e1, v1⟩ := read_num s r hr
  obtain ⟨n, b, e2, v2⟩ := read_num t q hq
  unfold Format.order
  rw [e1, e2]
  simp only [Datum.order]
  congr 1
  rw [show ((a : Int) - 1074 - min ((a : Int) - 1074) ((b : Int) - 1074)).toNat = a - min a b by omega, show ((b : Int) - 1074 - min ((a : Int) - 1074) ((b : Int) - 1074)).toNat = b - min a b by omega]
  rw [← compare_mul _ _ (min a b), signed_V s m a (min a b) r (Nat.min_le_left _ _) v1, signed_V t n b (min a b) q (Nat.min_le_right _ _) v2]
  exact compare_key s t r q

theorem order_key (s t : Bool) (r q : Nat) (hr : r ≤ 9218868437227405312) (hq : q ≤ 9218868437227405312) :
    double.order (double.word s r) (double.word t q) = some (compare (key s r) (key t q)) := by
  by_cases h1 : r = 9218868437227405312
  · by_cases h2 : q = 9218868437227405312
    · subst h1 h2
      unfold Format.order
      rw [read_inf, read_inf]
      cases s <;> cases t <;> decide
    · subst h1
      obtain ⟨n, b, e2, v2⟩ := read_num t q (by omega)
      unfold Format.order
      rw [read_inf, e2]
      simp only [Datum.order]
      congr 1
      unfold key
      cases s <;> cases t <;> simp only [Bool.false_eq_true, if_false, if_true]
      · exact (Int.compare_eq_gt.2 (by omega)).symm
      · exact (Int.compare_eq_gt.2 (by omega)).symm
      · exact (Int.compare_eq_lt.2 (by omega)).symm
      · exact (Int.compare_eq_lt.2 (by omega)).symm
  · by_cases h2 : q = 9218868437227405312
    · subst h2
      obtain ⟨m, a, e1, v1⟩ := read_num s r (by omega)
      unfold Format.order
      rw [read_inf, e1]
      simp only [Datum.order]
      congr 1
      unfold key
      cases s <;> cases t <;> simp only [Bool.false_eq_true, if_false, if_true]
      · exact (Int.compare_eq_lt.2 (by omega)).symm
      · exact (Int.compare_eq_gt.2 (by omega)).symm
      · exact (Int.compare_eq_lt.2 (by omega)).symm
      · exact (Int.compare_eq_gt.2 (by omega)).symm
    · exact order_num s t r q (by omega) (by omega)

end Go.Proofs.Dbl
