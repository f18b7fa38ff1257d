/-
  Plain facts on the doubles of the model, no Go in sight: quotients, held between numbers that end early enough; sums with a nought.
-/
import Derived.Test.YtkogomgnfeigbabDblOps
namespace Go.Proofs.Dbl
open Ieee

/-! ### Quotients -/
theorem log2_le (a b : Nat) (h0 : a ≠ 0) (h : a ≤ b) : a.log2 ≤ b.log2 := by
  by_cases hh : a.log2 ≤ b.log2
  · exact hh
  · have x := Nat.log2_self_le h0
    have y : b < 2 ^ (b.log2 + 1) := Nat.lt_log2_self
    have c : 2 ^ (b.log2 + 1) ≤ 2 ^ a.log2 := Nat.pow_le_pow_right (by decide) (by omega)
    omega

/-- What a finite word that is no nought reads as: at most 53 digits. -/
theorem read_small (neg : Bool) (r : Nat) (h : r < 9218868437227405312) (h0 : r ≠ 0) :
    ∃ (m : Nat) (p : Nat), double.read (double.word neg r) = .number neg m ((p : Int) - 1074) ∧ m * 2 ^ p = V r ∧ m ≠ 0 ∧ m.log2 ≤ 52 ∧ p ≤ 2045 := by
  obtain ⟨m, p, e, v⟩ := read_num neg r h
  have z := read_zero_mag neg r m _ h e
  have hm : m ≠ 0 := fun hh => h0 (z.1 hh)
  have hw : double.word neg r / 2 ^ 63 % 2 = neg.toNat ∧ double.word neg r % 2 ^ 63 = r := by
    unfold Format.word
    rw [d_sw]
    cases neg
    · simp only [Bool.false_eq_true, if_false, Bool.toNat_false]; omega
    · simp only [if_true, Bool.toNat_true]; omega
  have e' := e
  unfold Format.read at e'
  rw [d_sw, d_bin, d_inf, d_lp, hw.1, hw.2] at e'
  by_cases hr : r < 2 ^ 52
  · rw [if_pos hr] at e'
    injection e' with _ em ep
    subst em
    refine ⟨r, p, e, v, hm, ?_, by omega⟩
    have := (Nat.log2_lt hm).2 hr
    omega
  · rw [if_neg hr, if_pos h] at e'
    injection e' with _ em ep
    refine ⟨m, p, e, v, hm, ?_, ?_⟩
    · have hlt : m < 2 ^ 53 := by
        have := Nat.mod_lt r (show 0 < 2 ^ 52 by decide)
        omega
      have := (Nat.log2_lt hm).2 hlt
      omega
    · have : r / 2 ^ 52 < 2047 := (Nat.div_lt_iff_lt_mul (by decide)).2 (by omega)
      omega

theorem div_sandwich (x y : Nat) (hx : x < 9218868437227405312) (hx0 : x ≠ 0) (hy : y < 9218868437227405312) (hy0 : y ≠ 0) (K : Nat) (hK : K = 3074) :
    ∃ k u : Nat, u ≠ 0 ∧ k + 55 + (V y).log2 = (V x).log2 + K ∧ double.div x y = some (min (N 2000 (u * 2 ^ k)) 9218868437227405312) ∧
      (∀ c, V x * 2 ^ K ≤ c * 2 ^ (k + 1) * V y ↔ u ≤ 2 * c) ∧ (∀ c, c * 2 ^ (k + 1) * V y ≤ V x * 2 ^ K ↔ 2 * c ≤ u) := by
  obtain ⟨m, p, e1, v1, m0, ml, pl⟩ := read_small false x hx hx0
  obtain ⟨n, q, e2, v2, n0, nl, ql⟩ := read_small false y hy hy0
  rw [word_false] at e1 e2
  have lx : (V x).log2 = m.log2 + p := by rw [← v1]; exact log2_mul_pow m p m0
  have ly : (V y).log2 = n.log2 + q := by rw [← v2]; exact log2_mul_pow n q n0
  obtain ⟨more, hmore⟩ : ∃ more, more = 54 + n.log2 - m.log2 := ⟨_, rfl⟩
  obtain ⟨k, hk⟩ : ∃ k : Nat, k + q + more + 1 = p + K := ⟨p + K - q - more - 1, by omega⟩
  obtain ⟨d, hd⟩ : ∃ d, d = m * 2 ^ more / n := ⟨_, rfl⟩
  obtain ⟨rem, hrem⟩ : ∃ rem, rem = m * 2 ^ more % n := ⟨_, rfl⟩
  have hdm := Nat.div_add_mod (m * 2 ^ more) n
  rw [← hd, ← hrem] at hdm
  have hlt : rem < n := by rw [hrem]; exact Nat.mod_lt _ (by omega)
  have hM : m * 2 ^ more ≠ 0 := mul_pow_ne m more m0
  have hS : 2 * d + (rem != 0).toNat ≠ 0 := by
    intro hh
    have d0 : d = 0 := by omega
    have r0 : (rem != 0).toNat = 0 := by omega
    by_cases hr : rem = 0
    · rw [d0, hr, Nat.mul_zero] at hdm; omega
    · have : (rem != 0) = true := by simpa using hr
      rw [this] at r0; simp at r0
  have hval : ∀ c, (V x * 2 ^ K ≤ c * 2 ^ (k + 1) * V y ↔ m * 2 ^ more ≤ c * n) ∧ (c * 2 ^ (k + 1) * V y ≤ V x * 2 ^ K ↔ c * n ≤ m * 2 ^ more) := by
    intro c
    have a : V x * 2 ^ K = m * 2 ^ more * 2 ^ (k + q + 1) := by
      rw [← v1, Nat.mul_assoc, ← Nat.pow_add, Nat.mul_assoc, ← Nat.pow_add, ← hk]; congr 2; omega
    have b : c * 2 ^ (k + 1) * V y = c * n * 2 ^ (k + q + 1) := by
      rw [← v2, Nat.mul_mul_mul_comm, ← Nat.pow_add]; congr 2; omega
    have hp : 0 < 2 ^ (k + q + 1) := Nat.two_pow_pos _
    rw [a, b]
    exact ⟨Nat.mul_le_mul_right_iff hp, Nat.mul_le_mul_right_iff hp⟩
  refine ⟨k, 2 * d + (rem != 0).toNat, hS, by omega, ?_, ?_, ?_⟩
  · unfold Format.div
    rw [e1, e2]
    have fb : double.fractionBits + 2 = 54 := rfl
    simp only [Datum.quotient, fb]
    rw [if_neg n0]
    simp only [Option.map, Format.write, Nat.shiftLeft_eq]
    rw [← hmore, ← hd, ← hrem, nearest_eq (false ^^ false) (2 * d + (rem != 0).toNat) _ 2000 k hS (by omega), show (false ^^ false) = false from rfl, word_false]
  · intro c
    rw [(hval c).1]
    have t1 := toNat_le_one (rem != 0)
    constructor
    · intro h
      have hdc : d ≤ c := by
        by_cases hh : d ≤ c
        · exact hh
        · have := Nat.mul_le_mul_right n (show c + 1 ≤ d by omega)
          rw [Nat.add_mul, Nat.mul_comm d n] at this
          omega
      by_cases he : d = c
      · have r0 : rem = 0 := by
          rw [he, Nat.mul_comm n c] at hdm; omega
        rw [r0, he]; simp
      · omega
    · intro h
      by_cases he : d = c
      · have r0 : rem = 0 := by
          by_cases hr : rem = 0
          · exact hr
          · have : (rem != 0) = true := by simpa using hr
            rw [this, Bool.toNat_true] at h
            omega
        rw [he, Nat.mul_comm n c] at hdm
        omega
      · have := Nat.mul_le_mul_right n (show d + 1 ≤ c by omega)
        rw [Nat.add_mul, Nat.mul_comm d n] at this
        omega
  · intro c
    rw [(hval c).2]
    have t1 := toNat_le_one (rem != 0)
    constructor
    · intro h
      have hdc : c ≤ d := by
        rw [hd]; exact (Nat.le_div_iff_mul_le (by omega)).2 h
      omega
    · intro h
      have := Nat.mul_le_mul_right n (show c ≤ d by omega)
      rw [Nat.mul_comm d n] at this
      omega

theorem div_zero_num (y : Nat) (hy : y < 9218868437227405312) (hy0 : y ≠ 0) : double.div 0 y = some 0 := by
  obtain ⟨n, q, e2, v2, n0, nl, ql⟩ := read_small false y hy hy0
  rw [word_false] at e2
  have e1 : double.read 0 = .number false 0 (-1074) := by decide
  unfold Format.div
  rw [e1, e2]
  simp only [Datum.quotient]
  rw [if_neg n0]
  simp only [Nat.zero_shiftLeft, Nat.zero_div, Nat.zero_mod, Option.map, Format.write, bne_self_eq_false, Bool.toNat_false, Nat.mul_zero, Nat.add_zero]
  unfold Format.nearest
  rw [if_pos rfl]
  rfl
theorem div_by_zero (x : Nat) (hx : x < 9218868437227405312) (hx0 : x ≠ 0) : double.div x 0 = some 9218868437227405312 := by
  obtain ⟨m, p, e1, v1, m0, ml, pl⟩ := read_small false x hx hx0
  rw [word_false] at e1
  have e2 : double.read 0 = .number false 0 (-1074) := by decide
  unfold Format.div
  rw [e1, e2]
  simp only [Datum.quotient]
  rw [if_pos trivial, if_neg m0]
  rfl
theorem div_zero_zero : double.div 0 0 = none := by decide

/-! ### Sums with a nought -/
theorem add_zero (s t : Bool) (x : Nat) (hx : x < 9218868437227405312) (hx0 : x ≠ 0) : double.add (double.word s x) (double.word t 0) = some (double.word s x) ∧ double.add (double.word t 0) (double.word s x) = some (double.word s x) := by
  obtain ⟨m, p, e1, v1, m0, ml, pl⟩ := read_small s x hx hx0
  have e2 : double.read (double.word t 0) = .number t 0 (-1074) := by cases t <;> decide
  have hv := V_pos x hx0
  have w : double.nearest s (V x) (-1074) = double.word s x := by
    rw [nearest_eq s (V x) (-1074) 0 0 hv (by omega), Nat.pow_zero, Nat.mul_one, N_V x hx0]
    congr 1
    omega
  have s0 : signed t 0 0 = 0 := by cases t <;> decide
  have s1 : signed s m p = key s (V x) := by
    have := signed_V s m p 0 x (Nat.zero_le _) v1
    rw [Nat.sub_zero, Nat.pow_zero] at this
    omega
  have s2 : key s (V x) ≠ 0 := by unfold key; cases s <;> simp <;> omega
  have s3 : (key s (V x)).natAbs = V x := by unfold key; cases s <;> simp
  have s4 : decide (key s (V x) < 0) = s := by unfold key; cases s <;> simp <;> omega
  unfold Format.add
  rw [e1, e2]
  simp only [Datum.sum, Option.map, Format.write]
  rw [show min ((p : Int) - 1074) (-1074) = -1074 by omega, show min (-1074) ((p : Int) - 1074) = -1074 by omega,
    show ((p : Int) - 1074 - -1074).toNat = p by omega, show ((-1074 : Int) - -1074).toNat = 0 by decide, s0, s1, Int.add_zero, Int.zero_add, if_neg s2, if_neg s2, s3, s4, w]
  exact ⟨rfl, rfl⟩

end Go.Proofs.Dbl
