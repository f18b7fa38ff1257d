/- Words of 64 bits: rows of set bits among them: no Go in sight. -/
import Derived.Test.YtnclicdnncgdiaaDoorBt
namespace Go.Proofs.Bt
set_option linter.unusedVariables false

/-- n set bits from a place on. -/
def on1 (a n : Nat) : Nat := (2 ^ n - 1) * 2 ^ a
theorem on1_bit (a n k : Nat) : (on1 a n).testBit k = decide (a ≤ k ∧ k < a + n) := by
  unfold on1
  rw [← Nat.shiftLeft_eq, Nat.testBit_shiftLeft, Nat.testBit_two_pow_sub_one, ← Bool.decide_and]
  congr 1
  simp only [eq_iff_iff]
  omega
theorem on1_lt {a n : Nat} (h : a + n ≤ 64) : on1 a n < 18446744073709551616 := lt_of_bits fun k hk => by rw [on1_bit]; exact decide_eq_false (by omega)
theorem on1_full : on1 0 64 = 18446744073709551615 := by decide
/-- All ones, shifted down, then up. -/
theorem ones_down {n : Nat} (h : n ≤ 64) : 18446744073709551615 / 2 ^ (64 - n) = 2 ^ n - 1 := by
  have e : (18446744073709551616 : Nat) = 2 ^ n * 2 ^ (64 - n) := by rw [← Nat.pow_add, show n + (64 - n) = 64 by omega]
  have hp : 0 < 2 ^ (64 - n) := Nat.two_pow_pos _
  have hn : 0 < 2 ^ n := Nat.two_pow_pos _
  rw [Nat.div_eq_iff hp]
  have e2 : (2 ^ n - 1) * 2 ^ (64 - n) = 2 ^ n * 2 ^ (64 - n) - 2 ^ (64 - n) := by rw [Nat.sub_mul, Nat.one_mul]
  have h3 : 2 ^ (64 - n) ≤ 2 ^ n * 2 ^ (64 - n) := Nat.le_mul_of_pos_left _ hn
  rw [e2, ← e]
  rw [← e] at h3
  omega
theorem bit_down (x i k : Nat) : (x / 2 ^ i).testBit k = x.testBit (i + k) := by
  rw [Nat.testBit_div_two_pow, Nat.add_comm]
theorem down_lt {x : Nat} (i : Nat) (h : x < 18446744073709551616) : x / 2 ^ i < 18446744073709551616 := Nat.lt_of_le_of_lt (Nat.div_le_self _ _) h

/-! ### The first row of so many set bits, by halving -/
/-- n bits from a place on are set. -/
def Row (x p n : Nat) : Prop := ∀ k, k < n → x.testBit (p + k) = true
theorem row_half {x p n : Nat} (h : n / 2 ≤ n) (hn : 1 < n) : Row (x &&& (x / 2 ^ (n / 2))) p (n - n / 2) ↔ Row x p n := by
  constructor
  · intro h1 k hk
    by_cases z : k < n - n / 2
    · have := h1 k z
      rw [Nat.testBit_and, Bool.and_eq_true] at this
      exact this.1
    · have := h1 (k - n / 2) (by omega)
      rw [Nat.testBit_and, Bool.and_eq_true, bit_down] at this
      rw [← this.2]
      congr 1
      omega
  · intro h1 k hk
    rw [Nat.testBit_and, bit_down, h1 k (by omega), show n / 2 + (p + k) = p + (n / 2 + k) by omega, h1 _ (by omega)]
    rfl
theorem row_one {x p : Nat} : Row x p 1 ↔ x.testBit p = true := ⟨fun h => h 0 (by omega), fun h k hk => by rw [show p + k = p by omega]; exact h⟩
theorem row_lt {x p n : Nat} (hx : x < 18446744073709551616) (hn : 1 ≤ n) (h : Row x p n) : p + n ≤ 64 := by
  rcases Nat.lt_or_ge 64 (p + n) with y | y
  · have := h (n - 1) (by omega)
    rw [bit_high hx (by omega)] at this
    cases this
  · exact y
theorem zero_of_bits {x : Nat} (h : ∀ k, x.testBit k = false) : x = 0 := Nat.eq_of_testBit_eq fun k => by rw [h k, Nat.zero_testBit]
theorem bit_of_ne {x : Nat} (h : x ≠ 0) : ∃ k, x.testBit k = true := by
  apply Classical.byContradiction
  intro z
  apply h
  apply zero_of_bits
  intro k
  cases hk : x.testBit k with
  | false => rfl
  | true => exact absurd ⟨k, hk⟩ z

/-! ### The rows of set bits, one by one -/
/-- The first row of set bits: where it begins, how long it is. -/
def at1 (x : Nat) : Nat := Lib.ctz 64 x
def len1 (x : Nat) : Nat := Lib.ctz 64 (inv (x / 2 ^ at1 x))
theorem ctz_zero : Lib.ctz 64 0 = 64 := by unfold Lib.ctz; rfl
theorem row1 {x : Nat} (h0 : x ≠ 0) (hx : x < 18446744073709551616) : at1 x < 64 ∧ 1 ≤ len1 x ∧ at1 x + len1 x ≤ 64 ∧ Row x (at1 x) (len1 x) ∧ ∀ k, k < at1 x → x.testBit k = false := by
  obtain ⟨h1, h2, h3⟩ := ctz_bit h0 hx
  have ea : at1 x = Lib.ctz 64 x := rfl
  rw [← ea] at h1 h2 h3
  have hd := down_lt (at1 x) hx
  have b0 : ∀ k, k < 64 → (inv (x / 2 ^ at1 x)).testBit k = !x.testBit (at1 x + k) := fun k hk => by rw [inv_bit hd hk, bit_down]
  unfold len1
  by_cases z : inv (x / 2 ^ at1 x) = 0
  · rw [z, ctz_zero]
    have all : ∀ k, k < 64 → x.testBit (at1 x + k) = true := fun k hk => by
      have := b0 k hk
      rw [z, Nat.zero_testBit] at this
      cases h : x.testBit (at1 x + k) with
      | true => rfl
      | false => rw [h] at this; cases this
    have : at1 x = 0 := by
      rcases Nat.eq_zero_or_pos (at1 x) with y | y
      · exact y
      · have := all 63 (by omega)
        rw [bit_high hx (by omega)] at this
        cases this
    exact ⟨h1, by omega, by omega, all, h3⟩
  · obtain ⟨c1, c2, c3⟩ := ctz_bit z (inv_lt _)
    generalize Lib.ctz 64 (inv (x / 2 ^ at1 x)) = n at *
    have r : Row x (at1 x) n := fun k hk => by
      have h := c3 k hk
      rw [b0 k (by omega)] at h
      simpa using h
    have n1 : 1 ≤ n := by
      rcases Nat.eq_zero_or_pos n with y | y
      · rw [y, b0 0 (by omega), Nat.add_zero, h2] at c2
        cases c2
      · exact y
    exact ⟨h1, n1, row_lt hx n1 r, r, h3⟩
/-- What is left behind it. -/
def nx1 (x : Nat) : Nat := andn x (on1 (at1 x) (len1 x))
theorem nx1_bit (x k : Nat) : (nx1 x).testBit k = (x.testBit k && !decide (at1 x ≤ k ∧ k < at1 x + len1 x)) := by unfold nx1; rw [andn_bit, on1_bit]
theorem nx1_lt {x : Nat} (h : x < 18446744073709551616) : nx1 x < 18446744073709551616 := andn_lt _ h
theorem nx1_less {x : Nat} (h0 : x ≠ 0) (hx : x < 18446744073709551616) : nx1 x < x := by
  obtain ⟨h1, h2, h3, h4, h5⟩ := row1 h0 hx
  have e : x &&& nx1 x = nx1 x := Nat.eq_of_testBit_eq fun k => by rw [Nat.testBit_and, nx1_bit]; cases x.testBit k <;> rfl
  have l : nx1 x ≤ x := by rw [← e]; exact Nat.and_le_left
  refine Nat.lt_of_le_of_ne l fun z => ?_
  have b := h4 0 (by omega)
  have c : (nx1 x).testBit (at1 x + 0) = false := by rw [nx1_bit, decide_eq_true (by omega)]; simp
  rw [z, b] at c
  cases c
/-- What is left behind so many rows. -/
def lft (x : Nat) : Nat → Nat
  | 0 => x
  | k + 1 => nx1 (lft x k)
theorem lft_lt {x : Nat} (h : x < 18446744073709551616) : ∀ k, lft x k < 18446744073709551616
  | 0 => h
  | k + 1 => nx1_lt (lft_lt h k)
theorem lft_low {x : Nat} (h : x < 18446744073709551616) : ∀ k j, j < k → (lft x k).testBit j = false := by
  intro k
  induction k with
  | zero => intro j hj; omega
  | succ k ih =>
    intro j hj
    show (nx1 (lft x k)).testBit j = false
    rw [nx1_bit]
    by_cases z : lft x k = 0
    · rw [z, Nat.zero_testBit]; rfl
    · obtain ⟨h1, h2, h3, h4, h5⟩ := row1 z (lft_lt h k)
      have hk : k ≤ at1 (lft x k) := by
        rcases Nat.lt_or_ge (at1 (lft x k)) k with y | y
        · have := h4 0 (by omega)
          rw [Nat.add_zero, ih _ y] at this
          cases this
        · exact y
      by_cases y : j < at1 (lft x k)
      · rw [h5 j y]; rfl
      · rw [decide_eq_true (by omega)]; simp
theorem lft_end {x : Nat} (h : x < 18446744073709551616) : lft x 64 = 0 := zero_of_bits fun k => by
  by_cases z : k < 64
  · exact lft_low h 64 k z
  · exact bit_high (lft_lt h 64) (by omega)
theorem least_of (P : Nat → Prop) : ∀ m, P m → ∃ N, N ≤ m ∧ P N ∧ ∀ k, k < N → ¬ P k := by
  intro m
  induction m with
  | zero => intro h; exact ⟨0, Nat.le_refl _, h, fun k hk => by omega⟩
  | succ m ih =>
    intro h
    by_cases z : ∃ k, k ≤ m ∧ P k
    · obtain ⟨k, hk, hp⟩ := z
      -- the least of those up to m
      have : ∀ n, n ≤ m → P n → ∃ N, N ≤ n ∧ P N ∧ ∀ k, k < N → ¬ P k := by
        intro n
        induction n using Nat.strongRecOn with
        | _ n ihn =>
          intro hn hp
          by_cases y : ∃ j, j < n ∧ P j
          · obtain ⟨j, hj, hpj⟩ := y
            obtain ⟨N, h1, h2, h3⟩ := ihn j hj (by omega) hpj
            exact ⟨N, by omega, h2, h3⟩
          · exact ⟨n, Nat.le_refl _, hp, fun k hk hpk => y ⟨k, hk, hpk⟩⟩
      obtain ⟨N, h1, h2, h3⟩ := this k hk hp
      exact ⟨N, by omega, h2, h3⟩
    · exact ⟨m + 1, Nat.le_refl _, h, fun k hk hp => z ⟨k, by omega, hp⟩⟩
/-- How many rows there are. -/
theorem rows_many {x : Nat} (h : x < 18446744073709551616) : ∃ N, N ≤ 64 ∧ lft x N = 0 ∧ ∀ k, k < N → lft x k ≠ 0 := least_of (fun k => lft x k = 0) 64 (lft_end h)

/-! ### Words of truths -/
/-- The first i truths as a word. -/
def wd (f : Nat → Bool) : Nat → Nat
  | 0 => 0
  | i + 1 => wd f i ||| (if f i then on1 i 1 else 0)
theorem wd_bit (f : Nat → Bool) (i k : Nat) : (wd f i).testBit k = (decide (k < i) && f k) := by
  induction i with
  | zero => simp [wd]
  | succ i ih =>
    rw [wd, Nat.testBit_or, ih]
    by_cases e : k = i
    · subst e
      rw [decide_eq_false (by omega), decide_eq_true (by omega)]
      cases f k with
      | true => rw [if_pos rfl, on1_bit, decide_eq_true (by omega)]; rfl
      | false => simp
    · have h1 : (if f i = true then on1 i 1 else 0).testBit k = false := by
        split
        · rw [on1_bit]; exact decide_eq_false (by omega)
        · exact Nat.zero_testBit _
      rw [h1, Bool.or_false]
      congr 1
      rw [decide_eq_decide]
      omega
theorem wd_lt (f : Nat → Bool) {i : Nat} (h : i ≤ 64) : wd f i < 18446744073709551616 := lt_of_bits fun k hk => by rw [wd_bit, decide_eq_false (by omega)]; rfl
theorem wd_of {f : Nat → Bool} {x : Nat} (hx : x < 18446744073709551616) (h : ∀ k, k < 64 → x.testBit k = f k) : x = wd f 64 :=
  eq_of_bits hx (wd_lt f (Nat.le_refl _)) fun k hk => by rw [h k hk, wd_bit, decide_eq_true hk]; rfl
end Go.Proofs.Bt
