/- Words of bits, counts by strips, things one behind the other: plain. -/
import Derived.Test.YtnhllnepnpmegaaFa
namespace Go.Proofs.Ytnhllnepnpmegaa
open Go.Proofs.Bt
set_option linter.unusedVariables false
set_option linter.unusedSimpArgs false

/-- The number of the first i bits. -/
def wd (f : Nat → Bool) : Nat → Nat
  | 0 => 0
  | i + 1 => wd f i ||| (if f i then 2 ^ i else 0)
theorem wd_bit (f : Nat → Bool) (i k : Nat) : (wd f i).testBit k = (decide (k < i) && f k) := by
  induction i with
  | zero => simp [wd]
  | succ i ih =>
    rw [wd, Nat.testBit_or, ih]
    by_cases e : k = i
    · subst e
      cases h : f k <;> simp [h, Nat.testBit_two_pow_self]
    · have e1 : (if f i = true then 2 ^ i else 0).testBit k = false := by
        split
        · rw [Nat.testBit_two_pow]; exact decide_eq_false (fun h => e h.symm)
        · simp
      rw [e1, Bool.or_false]
      congr 1
      rw [Bool.eq_iff_iff]; simp; omega
theorem wd_lt (f : Nat → Bool) {i : Nat} (h : i ≤ 64) : wd f i < 18446744073709551616 := lt_of_bits fun k hk => by rw [wd_bit, decide_eq_false (by omega)]; rfl
theorem wd_of {f : Nat → Bool} {x : Nat} (hx : x < 18446744073709551616) (h : ∀ k, k < 64 → x.testBit k = f k) : x = wd f 64 :=
  eq_of_bits hx (wd_lt f (Nat.le_refl _)) fun k hk => by rw [h k hk, wd_bit, decide_eq_true hk]; rfl
theorem wd_congr {f f' : Nat → Bool} (h : ∀ k, k < 64 → f k = f' k) : wd f 64 = wd f' 64 := wd_of (wd_lt _ (Nat.le_refl _)) fun k hk => by rw [wd_bit, decide_eq_true hk, Bool.true_and, h k hk]
theorem wd_none {f : Nat → Bool} (h : ∀ k, k < 64 → f k = false) : wd f 64 = 0 := (wd_of (x := 0) (by decide) fun k hk => by rw [h k hk]; simp).symm
theorem wd_or (f g : Nat → Bool) : wd f 64 ||| wd g 64 = wd (fun k => f k || g k) 64 := wd_of (or_lt (wd_lt _ (Nat.le_refl _)) (wd_lt _ (Nat.le_refl _))) fun k hk => by rw [Nat.testBit_or, wd_bit, wd_bit, decide_eq_true hk]; rfl
theorem wd_pow (f : Nat → Bool) (r : Nat) (hr : r < 64) : wd f 64 ||| 2 ^ r = wd (fun k => f k || decide (k = r)) 64 := by
  have hp : 2 ^ r < 18446744073709551616 := by
    have : 2 ^ r < 2 ^ 64 := Nat.pow_lt_pow_right (by decide) hr
    exact this
  refine wd_of (or_lt (wd_lt _ (Nat.le_refl _)) hp) fun k hk => ?_
  rw [Nat.testBit_or, wd_bit, decide_eq_true hk, Nat.testBit_two_pow, Bool.true_and]
  congr 1
  rw [Bool.eq_iff_iff]; simp only [decide_eq_true_eq]; omega
/-- The bits of a strip that are of one form within a row, of another outside it. -/
theorem wd_mix (f g : Nat → Bool) (W a b : Nat) : andn (wd (fun k => f (64 * W + k)) 64) (prt W a b) ||| (wd (fun k => g (64 * W + k)) 64 &&& prt W a b) = wd (fun k => if a ≤ 64 * W + k ∧ 64 * W + k < b then g (64 * W + k) else f (64 * W + k)) 64 := by
  refine wd_of (or_lt (andn_lt _ (wd_lt _ (Nat.le_refl _))) (and_lt _ (wd_lt _ (Nat.le_refl _)))) fun k hk => ?_
  rw [Nat.testBit_or, andn_bit, Nat.testBit_and, wd_bit, wd_bit, prt_bit _ _ _ _ hk, decide_eq_true hk]
  by_cases c : a ≤ 64 * W + k ∧ 64 * W + k < b
  · rw [if_pos c, decide_eq_true c]; simp
  · rw [if_neg c, decide_eq_false c]; simp
theorem pc_cnt : ∀ (m x : Nat), x < 2 ^ m → pc x = cnt x.testBit 0 m := by
  intro m
  induction m with
  | zero => intro x h; rw [show x = 0 by simpa using h, pc_zero]; rfl
  | succ m ih =>
    intro x h
    rw [pc_step, ih (x / 2) (by rw [Nat.pow_succ] at h; omega), show m + 1 = 1 + m by omega, cnt_add]
    congr 1
    · simp only [cnt, Nat.zero_add]
      rw [Nat.testBit_zero]
      by_cases h2 : x % 2 = 1
      · simp [h2]
      · rw [decide_eq_false h2]; simp; omega
    · exact cnt_congr fun k hk => by rw [Nat.testBit_div_two, Nat.zero_add]; congr 1; omega
theorem cnt_cut (f : Nat → Bool) (i a b : Nat) : ∀ n, cnt (fun q => f q && decide (a ≤ q ∧ q < b)) i n = cnt f (max i a) (min (i + n) b - max i a)
  | 0 => by rw [show min (i + 0) b - max i a = 0 by omega]; rfl
  | n + 1 => by
    rw [cnt, cnt_cut f i a b n]
    by_cases c : a ≤ i + n ∧ i + n < b
    · rw [decide_eq_true c, Bool.and_true, show min (i + (n + 1)) b - max i a = (min (i + n) b - max i a) + 1 by omega, cnt, show max i a + (min (i + n) b - max i a) = i + n by omega]
    · rw [decide_eq_false c, Bool.and_false]
      by_cases d : i + n < a
      · rw [show min (i + (n + 1)) b - max i a = 0 by omega, show min (i + n) b - max i a = 0 by omega]; rfl
      · rw [show min (i + (n + 1)) b - max i a = min (i + n) b - max i a by omega]; rfl
theorem strip_cnt (f : Nat → Bool) (k a b : Nat) : pc (wd (fun i => f (64 * k + i)) 64 &&& prt k a b) = cnt f (max (64 * k) a) (min (64 * k + 64) b - max (64 * k) a) := by
  rw [pc_cnt 64 _ (and_lt _ (wd_lt _ (Nat.le_refl _))), ← cnt_cut]
  exact cnt_congr fun q hq => by
    rw [Nat.zero_add, Nat.testBit_and, prt_bit _ _ _ _ hq, wd_bit, decide_eq_true hq]; rfl
/-- How many are ahead of a word. -/
def cto (f : Nat → Bool) (x : Nat) : Nat := cnt f 0 x
theorem cto_add (f : Nat → Bool) (x n : Nat) : cto f (x + n) = cto f x + cnt f x n := by unfold cto; rw [cnt_add, Nat.zero_add]
theorem cnt_cto (f : Nat → Bool) {a b : Nat} (h : a ≤ b) : cnt f a (b - a) = cto f b - cto f a := by
  have := cto_add f a (b - a)
  rw [show a + (b - a) = b by omega] at this
  omega
theorem cto_mono (f : Nat → Bool) {a b : Nat} (h : a ≤ b) : cto f a ≤ cto f b := by
  have := cto_add f a (b - a)
  rw [show a + (b - a) = b by omega] at this
  omega
theorem cto_le (f : Nat → Bool) (x : Nat) : cto f x ≤ x := cnt_le f 0 x
/-! ### Things one behind the other -/
def thF (fi wds n : Nat) (mb : Nat → Bool) (x : Nat) : Bool := decide (fi ≤ x ∧ x < fi + n * wds) && mb ((x - fi) % wds)
theorem per_mul (mb : Nat → Bool) (w : Nat) (hw : 0 < w) : ∀ q, cnt (fun i => mb (i % w)) 0 (w * q) = q * cnt mb 0 w
  | 0 => by rw [Nat.mul_zero, Nat.zero_mul]; rfl
  | q + 1 => by
    rw [Nat.mul_add, Nat.mul_one, cnt_add, per_mul mb w hw q, Nat.add_mul, Nat.one_mul]
    congr 1
    exact cnt_congr fun k hk => by rw [Nat.zero_add, Nat.zero_add, Nat.mul_add_mod, Nat.mod_eq_of_lt hk]
theorem per_cnt (mb : Nat → Bool) (w : Nat) (hw : 0 < w) (m : Nat) : cnt (fun i => mb (i % w)) 0 m = m / w * cnt mb 0 w + cnt mb 0 (m % w) := by
  have e := Nat.div_add_mod m w
  rw [show cnt (fun i => mb (i % w)) 0 m = cnt (fun i => mb (i % w)) 0 (w * (m / w) + m % w) by rw [e], cnt_add, per_mul mb w hw]
  congr 1
  exact cnt_congr fun k hk => by
    have : k < w := Nat.lt_trans hk (Nat.mod_lt _ hw)
    rw [Nat.zero_add, Nat.zero_add, Nat.mul_add_mod, Nat.mod_eq_of_lt this]
theorem th_cto (fi wds n : Nat) (mb : Nat → Bool) (hw : 0 < wds) (x m : Nat) (hm : m = min (max x fi) (fi + n * wds) - fi) : cto (thF fi wds n mb) x = m / wds * cnt mb 0 wds + cnt mb 0 (m % wds) := by
  rw [← per_cnt mb wds hw m]
  have z0 : ∀ j, j ≤ fi → cto (thF fi wds n mb) j = 0 := fun j hj => cnt_none fun k hk => by unfold thF; rw [decide_eq_false (by omega)]; rfl
  by_cases c : x ≤ fi
  · rw [z0 x c, show m = 0 by omega]; rfl
  · have e1 : x = fi + (m + (x - fi - m)) := by omega
    rw [e1, cto_add, z0 fi (Nat.le_refl _), cnt_add, Nat.zero_add]
    rw [show cnt (thF fi wds n mb) (fi + m) (x - fi - m) = 0 from cnt_none fun k hk => by unfold thF; rw [decide_eq_false (by omega)]; rfl]
    rw [Nat.add_zero]
    exact cnt_congr fun k hk => by
      unfold thF
      rw [decide_eq_true (by omega), Bool.true_and, Nat.add_sub_cancel_left, Nat.zero_add]
end Go.Proofs.Ytnhllnepnpmegaa
