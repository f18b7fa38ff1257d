/- Rows of 512 bits as plain functions: no Go in sight. -/
import Derived.Lib.TrailingZeros
import Derived.Laws.MathBits
namespace Go.Proofs.Bt

/-- How many of the n bits from i on are set. -/
def cnt (f : Nat → Bool) (i : Nat) : Nat → Nat
  | 0 => 0
  | n + 1 => cnt f i n + (f (i + n)).toNat
theorem cnt_add (f : Nat → Bool) (i n m : Nat) : cnt f i (n + m) = cnt f i n + cnt f (i + n) m := by
  induction m with
  | zero => rfl
  | succ m ih => rw [← Nat.add_assoc, cnt, cnt, ih, Nat.add_assoc i n m]; omega
theorem cnt_congr {f g : Nat → Bool} {i j n : Nat} (h : ∀ k, k < n → f (i + k) = g (j + k)) : cnt f i n = cnt g j n := by
  induction n with
  | zero => rfl
  | succ n ih => rw [cnt, cnt, ih (fun k hk => h k (by omega)), h n (by omega)]
theorem toNat_le (b : Bool) : b.toNat ≤ 1 := by cases b <;> simp
theorem cnt_le (f : Nat → Bool) (i n : Nat) : cnt f i n ≤ n := by
  induction n with
  | zero => exact Nat.le_refl _
  | succ n ih => rw [cnt]; have := toNat_le (f (i + n)); omega
theorem cnt_zero {f : Nat → Bool} {i n : Nat} : cnt f i n = 0 ↔ ∀ k, k < n → f (i + k) = false := by
  induction n with
  | zero => exact ⟨fun _ k hk => by omega, fun _ => rfl⟩
  | succ n ih =>
    rw [cnt]
    constructor
    · intro h k hk
      have h1 := ih.1 (by omega)
      by_cases e : k = n
      · subst e; cases hf : f (i + k) with
        | false => rfl
        | true => rw [hf] at h; simp at h
      · exact h1 k (by omega)
    · intro h
      rw [ih.2 (fun k hk => h k (by omega)), h n (by omega)]; rfl
theorem cnt_full {f : Nat → Bool} {i n : Nat} : cnt f i n = n ↔ ∀ k, k < n → f (i + k) = true := by
  induction n with
  | zero => exact ⟨fun _ k hk => by omega, fun _ => rfl⟩
  | succ n ih =>
    rw [cnt]
    have l1 := cnt_le f i n
    have l2 := toNat_le (f (i + n))
    constructor
    · intro h k hk
      have h1 := ih.1 (by omega)
      by_cases e : k = n
      · subst e; cases hf : f (i + k) with
        | true => rfl
        | false => rw [hf] at h; simp at h; omega
      · exact h1 k (by omega)
    · intro h
      rw [ih.2 (fun k hk => h k (by omega)), h n (by omega)]; rfl
theorem cnt_none {f : Nat → Bool} {i n : Nat} (h : ∀ k, k < n → f (i + k) = false) : cnt f i n = 0 := cnt_zero.2 h

/-! ### Words -/
/-- Bit i of words. -/
def bitW (g : Nat → Nat) (i : Nat) : Bool := (g (i / 64)).testBit (i % 64)
theorem bitW_at (g : Nat → Nat) (w k : Nat) (hk : k < 64) : bitW g (64 * w + k) = (g w).testBit k := by
  unfold bitW
  rw [show (64 * w + k) / 64 = w by omega, show (64 * w + k) % 64 = k by omega]
/-- The lowest bits of a word. -/
def low (n : Nat) : Nat := 2 ^ min n 64 - 1
theorem low_lt (n : Nat) : low n < 18446744073709551616 := by
  unfold low
  have : 2 ^ min n 64 ≤ 2 ^ 64 := Nat.pow_le_pow_right (by decide) (Nat.min_le_right _ _)
  have : 0 < 2 ^ min n 64 := Nat.two_pow_pos _
  have e : (2 : Nat) ^ 64 = 18446744073709551616 := by decide
  omega
theorem low_bit (n k : Nat) : (low n).testBit k = decide (k < n ∧ k < 64) := by
  unfold low
  rw [Nat.testBit_two_pow_sub_one]
  congr 1
  simp only [eq_iff_iff]; omega
/-- The bits of a that are not in b. -/
def andn (a b : Nat) : Nat := a ^^^ (a &&& b)
theorem andn_bit (a b k : Nat) : (andn a b).testBit k = (a.testBit k && !b.testBit k) := by
  unfold andn
  rw [Nat.testBit_xor, Nat.testBit_and]
  cases a.testBit k <;> cases b.testBit k <;> rfl
theorem lt_of_bits {a : Nat} (h : ∀ k, 64 ≤ k → a.testBit k = false) : a < 18446744073709551616 := Nat.lt_pow_two_of_testBit a h
theorem bit_high {a k : Nat} (h : a < 18446744073709551616) (hk : 64 ≤ k) : a.testBit k = false := by
  apply Nat.testBit_lt_two_pow
  exact Nat.lt_of_lt_of_le h (by rw [show (18446744073709551616 : Nat) = 2 ^ 64 by decide]; exact Nat.pow_le_pow_right (by decide) hk)
theorem andn_lt {a : Nat} (b : Nat) (h : a < 18446744073709551616) : andn a b < 18446744073709551616 := lt_of_bits fun k hk => by rw [andn_bit, bit_high h hk]; rfl
theorem or_lt {a b : Nat} (h : a < 18446744073709551616) (h' : b < 18446744073709551616) : a ||| b < 18446744073709551616 := lt_of_bits fun k hk => by rw [Nat.testBit_or, bit_high h hk, bit_high h' hk]; rfl
theorem and_lt {a : Nat} (b : Nat) (h : a < 18446744073709551616) : a &&& b < 18446744073709551616 := lt_of_bits fun k hk => by rw [Nat.testBit_and, bit_high h hk]; rfl
/-- All other bits of a word. -/
def inv (a : Nat) : Nat := 18446744073709551615 - a
theorem inv_lt (a : Nat) : inv a < 18446744073709551616 := by unfold inv; omega
theorem inv_bit {a k : Nat} (h : a < 18446744073709551616) (hk : k < 64) : (inv a).testBit k = !a.testBit k := by
  have := Nat.testBit_two_pow_sub_succ (n := 64) h k
  rw [show (2 : Nat) ^ 64 - (a + 1) = inv a by unfold inv; omega] at this
  rw [this, decide_eq_true hk]; rfl
theorem eq_of_bits {a b : Nat} (ha : a < 18446744073709551616) (hb : b < 18446744073709551616) (h : ∀ k, k < 64 → a.testBit k = b.testBit k) : a = b := by
  apply Nat.eq_of_testBit_eq
  intro k
  by_cases hk : k < 64
  · exact h k hk
  · rw [bit_high ha (by omega), bit_high hb (by omega)]
/-- The bits of word w that stand from a bit on and below another. -/
def prt (w a b : Nat) : Nat := andn (low (b - 64 * w)) (low (a - 64 * w))
theorem prt_lt (w a b : Nat) : prt w a b < 18446744073709551616 := andn_lt _ (low_lt _)
theorem prt_bit (w a b k : Nat) (hk : k < 64) : (prt w a b).testBit k = decide (a ≤ 64 * w + k ∧ 64 * w + k < b) := by
  unfold prt
  rw [andn_bit, low_bit, low_bit]
  rw [Bool.eq_iff_iff]
  simp only [Bool.and_eq_true, Bool.not_eq_true', decide_eq_true_eq, decide_eq_false_iff_not]
  omega

/-- The first set bit. -/
theorem ctz_bit {x : Nat} (h0 : x ≠ 0) (h : x < 18446744073709551616) : Lib.ctz 64 x < 64 ∧ x.testBit (Lib.ctz 64 x) = true ∧ ∀ k, k < Lib.ctz 64 x → x.testBit k = false := by
  obtain ⟨m, hm, hl⟩ := Lib.ctzFrom_spec 64 x (by omega) h
  have e : Lib.ctz 64 x = Lib.ctzFrom 64 x := by unfold Lib.ctz; rw [if_neg h0]
  rw [e]
  generalize Lib.ctzFrom 64 x = t at *
  refine ⟨hl, ?_, fun k hk => ?_⟩
  · rw [hm, Nat.testBit_two_pow_mul]; simp
  · rw [hm, Nat.testBit_two_pow_mul]; simp; omega

/-! ### Counting by words -/
theorem cnt_span (F f : Nat → Bool) (i n : Nat) (hin : i + n ≤ 512) (hF : ∀ k, k < 512 → F k = (f k && decide (i ≤ k ∧ k < i + n))) : cnt F 0 512 = cnt f i n := by
  rw [show 512 = i + (n + (512 - i - n)) by omega, cnt_add, cnt_add]
  rw [cnt_none (i := 0) (n := i), cnt_none (i := 0 + i + n), cnt_congr (g := f) (j := i)]
  · omega
  · intro k hk; rw [show 0 + i + k = i + k by omega, hF _ (by omega), decide_eq_true (by omega), Bool.and_true]
  · intro k hk; rw [hF _ (by omega), decide_eq_false (by omega), Bool.and_false]
  · intro k hk; rw [hF _ (by omega), decide_eq_false (by omega), Bool.and_false]

/-! ### Rows of clear bits -/
/-- The rows of clear bits from p on, n bits; one may be open. -/
def scan (F : Nat → Bool) : Nat → Nat → Option Nat → List (Nat × Nat)
  | 0, _, none => []
  | 0, p, some b => [(b, p)]
  | n + 1, p, none => if F p then scan F n (p + 1) none else scan F n (p + 1) (some p)
  | n + 1, p, some b => if F p then (b, p) :: scan F n (p + 1) none else scan F n (p + 1) (some b)
def rest (F : Nat → Bool) (p : Nat) (s : Option Nat) : List (Nat × Nat) := scan F (512 - p) p s
def runs (F : Nat → Bool) : List (Nat × Nat) := rest F 0 none
theorem rest_next_none {F : Nat → Bool} {p : Nat} (hp : p < 512) (h : F p = true) : rest F p none = rest F (p + 1) none := by
  unfold rest
  rw [show 512 - p = (512 - (p + 1)) + 1 by omega, scan, if_pos h]
theorem rest_next_some {F : Nat → Bool} {p b : Nat} (hp : p < 512) (h : F p = false) : rest F p (some b) = rest F (p + 1) (some b) := by
  unfold rest
  rw [show 512 - p = (512 - (p + 1)) + 1 by omega, scan, if_neg (by rw [h]; decide)]
theorem rest_open {F : Nat → Bool} {p : Nat} (hp : p < 512) (h : F p = false) : rest F p none = rest F p (some p) := by
  rw [rest_next_some hp h]
  unfold rest
  rw [show 512 - p = (512 - (p + 1)) + 1 by omega, scan, if_neg (by rw [h]; decide)]
theorem rest_shut {F : Nat → Bool} {p b : Nat} (hp : p < 512) (h : F p = true) : rest F p (some b) = (b, p) :: rest F p none := by
  rw [rest_next_none hp h]
  unfold rest
  rw [show 512 - p = (512 - (p + 1)) + 1 by omega, scan, if_pos h]
theorem rest_end_none (F : Nat → Bool) : rest F 512 none = [] := rfl
theorem rest_end_some (F : Nat → Bool) (b : Nat) : rest F 512 (some b) = [(b, 512)] := rfl
theorem rest_skip {F : Nat → Bool} {s : Option Nat} (p d : Nat) (hq : p + d ≤ 512) (h : ∀ k, p ≤ k → k < p + d → F k = s.isNone) : rest F p s = rest F (p + d) s := by
  induction d with
  | zero => rfl
  | succ d ih =>
    rw [ih (by omega) (fun k h1 h2 => h k h1 (by omega))]
    have hk := h (p + d) (by omega) (by omega)
    cases s with
    | none => exact rest_next_none (by omega) hk
    | some b => exact rest_next_some (by omega) hk

/-- What is known of the rows behind p: they lie from there on, each as long as it can be, one behind the other, and nothing else is clear. -/
structure Row1 (F : Nat → Bool) (x : Nat × Nat) : Prop where
  lt : x.1 < x.2
  le : x.2 ≤ 512
  clear : ∀ k, x.1 ≤ k → k < x.2 → F k = false
  stop : x.2 < 512 → F x.2 = true
  start : 0 < x.1 → F (x.1 - 1) = true
theorem scan_facts (F : Nat → Bool) : ∀ (n p : Nat) (s : Option Nat), p + n = 512 →
    (∀ b, s = some b → b < p ∧ (∀ k, b ≤ k → k < p → F k = false) ∧ (0 < b → F (b - 1) = true)) → (s = none → 0 < p → F (p - 1) = true) →
    (∀ x ∈ scan F n p s, Row1 F x ∧ (∀ b, s = some b → b ≤ x.1) ∧ (s = none → p ≤ x.1)) ∧
    (∀ k, p ≤ k → k < 512 → F k = false → ∃ x ∈ scan F n p s, x.1 ≤ k ∧ k < x.2) ∧
    (∀ b, s = some b → ∃ x ∈ scan F n p s, x.1 = b) ∧
    List.Pairwise (fun x y => x.2 < y.1) (scan F n p s) := by
  intro n
  induction n with
  | zero =>
    intro p s hp h1 h2
    cases s with
    | none => exact ⟨(fun x hx => by cases hx), (fun k a b => by omega), (fun b h => by cases h), List.Pairwise.nil⟩
    | some b =>
      obtain ⟨a1, a2, a3⟩ := h1 b rfl
      refine ⟨fun x hx => ?_, (fun k a b => by omega), fun c h => ?_, List.pairwise_singleton _ _⟩
      · simp only [scan, List.mem_singleton] at hx
        subst hx
        exact ⟨⟨a1, (by show p ≤ 512; omega), a2, (by show p < 512 → _; omega), a3⟩, (fun c h => by cases h; exact Nat.le_refl _), (fun h => by cases h)⟩
      · cases h; exact ⟨(b, p), by simp [scan], rfl⟩
  | succ n ih =>
    intro p s hp h1 h2
    cases s with
    | none =>
      cases hF : F p with
      | true =>
        have e : scan F (n + 1) p none = scan F n (p + 1) none := by rw [scan, if_pos hF]
        rw [e]
        obtain ⟨i1, i2, i3, i4⟩ := ih (p + 1) none (by omega) (fun b h => by cases h) (fun _ _ => hF)
        refine ⟨fun x hx => ⟨(i1 x hx).1, (fun b h => by cases h), fun _ => by have := (i1 x hx).2.2 rfl; omega⟩, fun k a b c => ?_, i3, i4⟩
        by_cases e : k = p
        · subst e; rw [hF] at c; cases c
        · exact i2 k (by omega) b c
      | false =>
        have e : scan F (n + 1) p none = scan F n (p + 1) (some p) := by rw [scan, if_neg (by rw [hF]; decide)]
        rw [e]
        obtain ⟨i1, i2, i3, i4⟩ := ih (p + 1) (some p) (by omega) (fun b h => by cases h; exact ⟨by omega, (fun k a b => by rw [show k = p by omega]; exact hF), h2 rfl⟩) (fun h => by cases h)
        refine ⟨fun x hx => ⟨(i1 x hx).1, (fun b h => by cases h), fun _ => (i1 x hx).2.1 p rfl⟩, fun k a b c => ?_, (fun b h => by cases h), i4⟩
        by_cases e : k = p
        · subst e
          obtain ⟨x, hx, e⟩ := i3 k rfl
          have := (i1 x hx).1.lt
          exact ⟨x, hx, by omega, by omega⟩
        · exact i2 k (by omega) b c
    | some b =>
      obtain ⟨a1, a2, a3⟩ := h1 b rfl
      cases hF : F p with
      | true =>
        have e : scan F (n + 1) p (some b) = (b, p) :: scan F n (p + 1) none := by rw [scan, if_pos hF]
        rw [e]
        obtain ⟨i1, i2, i3, i4⟩ := ih (p + 1) none (by omega) (fun b h => by cases h) (fun _ _ => hF)
        refine ⟨fun x hx => ?_, fun k a b c => ?_, fun c h => ?_, ?_⟩
        · rcases List.mem_cons.1 hx with rfl | hx
          · exact ⟨⟨a1, (by show p ≤ 512; omega), a2, (fun _ => hF), a3⟩, (fun c h => by cases h; exact Nat.le_refl _), (fun h => by cases h)⟩
          · exact ⟨(i1 x hx).1, (fun c h => by cases h; have := (i1 x hx).2.2 rfl; omega), (fun h => by cases h)⟩
        · by_cases e : k = p
          · subst e; rw [hF] at c; cases c
          · obtain ⟨x, hx, e⟩ := i2 k (by omega) b c
            exact ⟨x, List.mem_cons_of_mem _ hx, e⟩
        · cases h; exact ⟨(b, p), List.mem_cons_self, rfl⟩
        · refine List.pairwise_cons.2 ⟨fun x hx => ?_, i4⟩
          have := (i1 x hx).2.2 rfl
          show p < x.1
          omega
      | false =>
        have e : scan F (n + 1) p (some b) = scan F n (p + 1) (some b) := by rw [scan, if_neg (by rw [hF]; decide)]
        rw [e]
        obtain ⟨i1, i2, i3, i4⟩ := ih (p + 1) (some b) (by omega) (fun c h => by cases h; exact ⟨by omega, (fun k x y => by
          by_cases e : k = p
          · subst e; exact hF
          · exact a2 k x (by omega)), a3⟩) (fun h => by cases h)
        refine ⟨fun x hx => ⟨(i1 x hx).1, (i1 x hx).2.1, (fun h => by cases h)⟩, fun k a c d => ?_, i3, i4⟩
        by_cases e : k = p
        · subst e
          obtain ⟨x, hx, e⟩ := i3 b rfl
          have h5 := (i1 x hx).1
          refine ⟨x, hx, by omega, ?_⟩
          by_cases hlt : k < x.2
          · exact hlt
          · exfalso
            have hb := h5.stop (by omega)
            have := h5.lt
            rw [a2 x.2 (by omega) (by
              by_cases e2 : x.2 = k
              · rw [e2, hF] at hb; cases hb
              · omega)] at hb
            cases hb
        · exact i2 k (by omega) c d
theorem runs_facts (F : Nat → Bool) : (∀ x ∈ runs F, Row1 F x) ∧ (∀ k, k < 512 → F k = false → ∃ x ∈ runs F, x.1 ≤ k ∧ k < x.2) ∧ List.Pairwise (fun x y => x.2 < y.1) (runs F) := by
  obtain ⟨h1, h2, _, h4⟩ := scan_facts F 512 0 none rfl (fun b h => by cases h) (fun _ h => by omega)
  exact ⟨fun x hx => (h1 x hx).1, fun k hk hc => h2 k (by omega) hk hc, h4⟩
end Go.Proofs.Bt
