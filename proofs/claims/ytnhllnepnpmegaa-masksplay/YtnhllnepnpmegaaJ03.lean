/- J03 of the proof of both laws: texts Bt, Fa, Pm, one behind the other. -/
import Derived.Test.YtnhllnepnpmegaaJ02
import Derived.Lib.TrailingZeros
import Derived.Laws.MathBits
import Derived.Laws.Bits64b
import Derived.Shelf.Abstract
import Derived.Deep.QuietTactic
/- Rows of 512 bits as plain functions: no Go in sight. -/
namespace Go.Proofs.Bt

/-- How many of the n bits from i on are set. -/
def cnt (f : Nat → Bool) (i : Nat) : Nat → Nat
  | 0 => 0
  | n + 1 => cnt f i n + (f (i + n)).toNat
theorem cnt_add (f : Nat → Bool) (i n m : Nat) : cnt f i (n + m) = cnt f i n + cnt f (i + n) m := by
  induction m with
  | zero => rfl
  | succ m ih => rw [← Nat.add_assoc, cnt, cnt, ih, Nat.add_assoc i n m]; omega
theorem cnt_congr {f g : Nat → Bool} {i j n : Nat} (h : ∀ k, k < n → f (i + k) = g (j + k)) : cnt f i n = cnt g j n := by
  induction n with
  | zero => rfl
  | succ n ih => rw [cnt, cnt, ih (fun k hk => h k (by omega)), h n (by omega)]
theorem toNat_le (b : Bool) : b.toNat ≤ 1 := by cases b <;> simp
theorem cnt_le (f : Nat → Bool) (i n : Nat) : cnt f i n ≤ n := by
  induction n with
  | zero => exact Nat.le_refl _
  | succ n ih => rw [cnt]; have := toNat_le (f (i + n)); omega
theorem cnt_zero {f : Nat → Bool} {i n : Nat} : cnt f i n = 0 ↔ ∀ k, k < n → f (i + k) = false := by
  induction n with
  | zero => exact ⟨fun _ k hk => by omega, fun _ => rfl⟩
  | succ n ih =>
    rw [cnt]
    constructor
    · intro h k hk
      have h1 := ih.1 (by omega)
      by_cases e : k = n
      · subst e; cases hf : f (i + k) with
        | false => rfl
        | true => rw [hf] at h; simp at h
      · exact h1 k (by omega)
    · intro h
      rw [ih.2 (fun k hk => h k (by omega)), h n (by omega)]; rfl
theorem cnt_full {f : Nat → Bool} {i n : Nat} : cnt f i n = n ↔ ∀ k, k < n → f (i + k) = true := by
  induction n with
  | zero => exact ⟨fun _ k hk => by omega, fun _ => rfl⟩
  | succ n ih =>
    rw [cnt]
    have l1 := cnt_le f i n
    have l2 := toNat_le (f (i + n))
    constructor
    · intro h k hk
      have h1 := ih.1 (by omega)
      by_cases e : k = n
      · subst e; cases hf : f (i + k) with
        | true => rfl
        | false => rw [hf] at h; simp at h; omega
      · exact h1 k (by omega)
    · intro h
      rw [ih.2 (fun k hk => h k (by omega)), h n (by omega)]; rfl
theorem cnt_none {f : Nat → Bool} {i n : Nat} (h : ∀ k, k < n → f (i + k) = false) : cnt f i n = 0 := cnt_zero.2 h

/-! ### Words -/
/-- Bit i of words. -/
def bitW (g : Nat → Nat) (i : Nat) : Bool := (g (i / 64)).testBit (i % 64)
theorem bitW_at (g : Nat → Nat) (w k : Nat) (hk : k < 64) : bitW g (64 * w + k) = (g w).testBit k := by
  unfold bitW
  rw [show (64 * w + k) / 64 = w by omega, show (64 * w + k) % 64 = k by omega]
/-- The lowest bits of a word. -/
def low (n : Nat) : Nat := 2 ^ min n 64 - 1
theorem low_lt (n : Nat) : low n < 18446744073709551616 := by
  unfold low
  have : 2 ^ min n 64 ≤ 2 ^ 64 := Nat.pow_le_pow_right (by decide) (Nat.min_le_right _ _)
  have : 0 < 2 ^ min n 64 := Nat.two_pow_pos _
  have e : (2 : Nat) ^ 64 = 18446744073709551616 := by decide
  omega
theorem low_bit (n k : Nat) : (low n).testBit k = decide (k < n ∧ k < 64) := by
  unfold low
  rw [Nat.testBit_two_pow_sub_one]
  congr 1
  simp only [eq_iff_iff]; omega
/-- The bits of a that are not in b. -/
def andn (a b : Nat) : Nat := a ^^^ (a &&& b)
theorem andn_bit (a b k : Nat) : (andn a b).testBit k = (a.testBit k && !b.testBit k) := by
  unfold andn
  rw [Nat.testBit_xor, Nat.testBit_and]
  cases a.testBit k <;> cases b.testBit k <;> rfl
theorem lt_of_bits {a : Nat} (h : ∀ k, 64 ≤ k → a.testBit k = false) : a < 18446744073709551616 := Nat.lt_pow_two_of_testBit a h
theorem bit_high {a k : Nat} (h : a < 18446744073709551616) (hk : 64 ≤ k) : a.testBit k = false := by
  apply Nat.testBit_lt_two_pow
  exact Nat.lt_of_lt_of_le h (by rw [show (18446744073709551616 : Nat) = 2 ^ 64 by decide]; exact Nat.pow_le_pow_right (by decide) hk)
theorem andn_lt {a : Nat} (b : Nat) (h : a < 18446744073709551616) : andn a b < 18446744073709551616 := lt_of_bits fun k hk => by rw [andn_bit, bit_high h hk]; rfl
theorem or_lt {a b : Nat} (h : a < 18446744073709551616) (h' : b < 18446744073709551616) : a ||| b < 18446744073709551616 := lt_of_bits fun k hk => by rw [Nat.testBit_or, bit_high h hk, bit_high h' hk]; rfl
theorem and_lt {a : Nat} (b : Nat) (h : a < 18446744073709551616) : a &&& b < 18446744073709551616 := lt_of_bits fun k hk => by rw [Nat.testBit_and, bit_high h hk]; rfl
/-- All other bits of a word. -/
def inv (a : Nat) : Nat := 18446744073709551615 - a
theorem inv_lt (a : Nat) : inv a < 18446744073709551616 := by unfold inv; omega
theorem inv_bit {a k : Nat} (h : a < 18446744073709551616) (hk : k < 64) : (inv a).testBit k = !a.testBit k := by
  have := Nat.testBit_two_pow_sub_succ (n := 64) h k
  rw [show (2 : Nat) ^ 64 - (a + 1) = inv a by unfold inv; omega] at this
  rw [this, decide_eq_true hk]; rfl
theorem eq_of_bits {a b : Nat} (ha : a < 18446744073709551616) (hb : b < 18446744073709551616) (h : ∀ k, k < 64 → a.testBit k = b.testBit k) : a = b := by
  apply Nat.eq_of_testBit_eq
  intro k
  by_cases hk : k < 64
  · exact h k hk
  · rw [bit_high ha (by omega), bit_high hb (by omega)]
/-- The bits of word w that stand from a bit on and below another. -/
def prt (w a b : Nat) : Nat := andn (low (b - 64 * w)) (low (a - 64 * w))
theorem prt_lt (w a b : Nat) : prt w a b < 18446744073709551616 := andn_lt _ (low_lt _)
theorem prt_bit (w a b k : Nat) (hk : k < 64) : (prt w a b).testBit k = decide (a ≤ 64 * w + k ∧ 64 * w + k < b) := by
  unfold prt
  rw [andn_bit, low_bit, low_bit]
  rw [Bool.eq_iff_iff]
  simp only [Bool.and_eq_true, Bool.not_eq_true', decide_eq_true_eq, decide_eq_false_iff_not]
  omega

/-- The first set bit. -/
theorem ctz_bit {x : Nat} (h0 : x ≠ 0) (h : x < 18446744073709551616) : Lib.ctz 64 x < 64 ∧ x.testBit (Lib.ctz 64 x) = true ∧ ∀ k, k < Lib.ctz 64 x → x.testBit k = false := by
  obtain ⟨m, hm, hl⟩ := Lib.ctzFrom_spec 64 x (by omega) h
  have e : Lib.ctz 64 x = Lib.ctzFrom 64 x := by unfold Lib.ctz; rw [if_neg h0]
  rw [e]
  generalize Lib.ctzFrom 64 x = t at *
  refine ⟨hl, ?_, fun k hk => ?_⟩
  · rw [hm, Nat.testBit_two_pow_mul]; simp
  · rw [hm, Nat.testBit_two_pow_mul]; simp; omega

/-! ### Counting by words -/
theorem cnt_span (F f : Nat → Bool) (i n : Nat) (hin : i + n ≤ 512) (hF : ∀ k, k < 512 → F k = (f k && decide (i ≤ k ∧ k < i + n))) : cnt F 0 512 = cnt f i n := by
  rw [show 512 = i + (n + (512 - i - n)) by omega, cnt_add, cnt_add]
  rw [cnt_none (i := 0) (n := i), cnt_none (i := 0 + i + n), cnt_congr (g := f) (j := i)]
  · omega
  · intro k hk; rw [show 0 + i + k = i + k by omega, hF _ (by omega), decide_eq_true (by omega), Bool.and_true]
  · intro k hk; rw [hF _ (by omega), decide_eq_false (by omega), Bool.and_false]
  · intro k hk; rw [hF _ (by omega), decide_eq_false (by omega), Bool.and_false]

/-! ### Rows of clear bits -/
/-- The rows of clear bits from p on, n bits; one may be open. -/
def scan (F : Nat → Bool) : Nat → Nat → Option Nat → List (Nat × Nat)
  | 0, _, none => []
  | 0, p, some b => [(b, p)]
  | n + 1, p, none => if F p then scan F n (p + 1) none else scan F n (p + 1) (some p)
  | n + 1, p, some b => if F p then (b, p) :: scan F n (p + 1) none else scan F n (p + 1) (some b)
def rest (F : Nat → Bool) (p : Nat) (s : Option Nat) : List (Nat × Nat) := scan F (512 - p) p s
def runs (F : Nat → Bool) : List (Nat × Nat) := rest F 0 none
theorem rest_next_none {F : Nat → Bool} {p : Nat} (hp : p < 512) (h : F p = true) : rest F p none = rest F (p + 1) none := by
  unfold rest
  rw [show 512 - p = (512 - (p + 1)) + 1 by omega, scan, if_pos h]
theorem rest_next_some {F : Nat → Bool} {p b : Nat} (hp : p < 512) (h : F p = false) : rest F p (some b) = rest F (p + 1) (some b) := by
  unfold rest
  rw [show 512 - p = (512 - (p + 1)) + 1 by omega, scan, if_neg (by rw [h]; decide)]
theorem rest_open {F : Nat → Bool} {p : Nat} (hp : p < 512) (h : F p = false) : rest F p none = rest F p (some p) := by
  rw [rest_next_some hp h]
  unfold rest
  rw [show 512 - p = (512 - (p + 1)) + 1 by omega, scan, if_neg (by rw [h]; decide)]
theorem rest_shut {F : Nat → Bool} {p b : Nat} (hp : p < 512) (h : F p = true) : rest F p (some b) = (b, p) :: rest F p none := by
  rw [rest_next_none hp h]
  unfold rest
  rw [show 512 - p = (512 - (p + 1)) + 1 by omega, scan, if_pos h]
theorem rest_end_none (F : Nat → Bool) : rest F 512 none = [] := rfl
theorem rest_end_some (F : Nat → Bool) (b : Nat) : rest F 512 (some b) = [(b, 512)] := rfl
theorem rest_skip {F : Nat → Bool} {s : Option Nat} (p d : Nat) (hq : p + d ≤ 512) (h : ∀ k, p ≤ k → k < p + d → F k = s.isNone) : rest F p s = rest F (p + d) s := by
  induction d with
  | zero => rfl
  | succ d ih =>
    rw [ih (by omega) (fun k h1 h2 => h k h1 (by omega))]
    have hk := h (p + d) (by omega) (by omega)
    cases s with
    | none => exact rest_next_none (by omega) hk
    | some b => exact rest_next_some (by omega) hk

/-- What is known of the rows behind p: they lie from there on, each as long as it can be, one behind the other, and nothing else is clear. -/
structure Row1 (F : Nat → Bool) (x : Nat × Nat) : Prop where
  lt : x.1 < x.2
  le : x.2 ≤ 512
  clear : ∀ k, x.1 ≤ k → k < x.2 → F k = false
  stop : x.2 < 512 → F x.2 = true
  start : 0 < x.1 → F (x.1 - 1) = true
theorem scan_facts (F : Nat → Bool) : ∀ (n p : Nat) (s : Option Nat), p + n = 512 →
    (∀ b, s = some b → b < p ∧ (∀ k, b ≤ k → k < p → F k = false) ∧ (0 < b → F (b - 1) = true)) → (s = none → 0 < p → F (p - 1) = true) →
    (∀ x ∈ scan F n p s, Row1 F x ∧ (∀ b, s = some b → b ≤ x.1) ∧ (s = none → p ≤ x.1)) ∧
    (∀ k, p ≤ k → k < 512 → F k = false → ∃ x ∈ scan F n p s, x.1 ≤ k ∧ k < x.2) ∧
    (∀ b, s = some b → ∃ x ∈ scan F n p s, x.1 = b) ∧
    List.Pairwise (fun x y => x.2 < y.1) (scan F n p s) := by
  intro n
  induction n with
  | zero =>
    intro p s hp h1 h2
    cases s with
    | none => exact ⟨(fun x hx => by cases hx), (fun k a b => by omega), (fun b h => by cases h), List.Pairwise.nil⟩
    | some b =>
      obtain ⟨a1, a2, a3⟩ := h1 b rfl
      refine ⟨fun x hx => ?_, (fun k a b => by omega), fun c h => ?_, List.pairwise_singleton _ _⟩
      · simp only [scan, List.mem_singleton] at hx
        subst hx
        exact ⟨⟨a1, (by show p ≤ 512; omega), a2, (by show p < 512 → _; omega), a3⟩, (fun c h => by cases h; exact Nat.le_refl _), (fun h => by cases h)⟩
      · cases h; exact ⟨(b, p), by simp [scan], rfl⟩
  | succ n ih =>
    intro p s hp h1 h2
    cases s with
    | none =>
      cases hF : F p with
      | true =>
        have e : scan F (n + 1) p none = scan F n (p + 1) none := by rw [scan, if_pos hF]
        rw [e]
        obtain ⟨i1, i2, i3, i4⟩ := ih (p + 1) none (by omega) (fun b h => by cases h) (fun _ _ => hF)
        refine ⟨fun x hx => ⟨(i1 x hx).1, (fun b h => by cases h), fun _ => by have := (i1 x hx).2.2 rfl; omega⟩, fun k a b c => ?_, i3, i4⟩
        by_cases e : k = p
        · subst e; rw [hF] at c; cases c
        · exact i2 k (by omega) b c
      | false =>
        have e : scan F (n + 1) p none = scan F n (p + 1) (some p) := by rw [scan, if_neg (by rw [hF]; decide)]
        rw [e]
        obtain ⟨i1, i2, i3, i4⟩ := ih (p + 1) (some p) (by omega) (fun b h => by cases h; exact ⟨by omega, (fun k a b => by rw [show k = p by omega]; exact hF), h2 rfl⟩) (fun h => by cases h)
        refine ⟨fun x hx => ⟨(i1 x hx).1, (fun b h => by cases h), fun _ => (i1 x hx).2.1 p rfl⟩, fun k a b c => ?_, (fun b h => by cases h), i4⟩
        by_cases e : k = p
        · subst e
          obtain ⟨x, hx, e⟩ := i3 k rfl
          have := (i1 x hx).1.lt
          exact ⟨x, hx, by omega, by omega⟩
        · exact i2 k (by omega) b c
    | some b =>
      obtain ⟨a1, a2, a3⟩ := h1 b rfl
      cases hF : F p with
      | true =>
        have e : scan F (n + 1) p (some b) = (b, p) :: scan F n (p + 1) none := by rw [scan, if_pos hF]
        rw [e]
        obtain ⟨i1, i2, i3, i4⟩ := ih (p + 1) none (by omega) (fun b h => by cases h) (fun _ _ => hF)
        refine ⟨fun x hx => ?_, fun k a b c => ?_, fun c h => ?_, ?_⟩
        · rcases List.mem_cons.1 hx with rfl | hx
          · exact ⟨⟨a1, (by show p ≤ 512; omega), a2, (fun _ => hF), a3⟩, (fun c h => by cases h; exact Nat.le_refl _), (fun h => by cases h)⟩
          · exact ⟨(i1 x hx).1, (fun c h => by cases h; have := (i1 x hx).2.2 rfl; omega), (fun h => by cases h)⟩
        · by_cases e : k = p
          · subst e; rw [hF] at c; cases c
          · obtain ⟨x, hx, e⟩ := i2 k (by omega) b c
            exact ⟨x, List.mem_cons_of_mem _ hx, e⟩
        · cases h; exact ⟨(b, p), List.mem_cons_self, rfl⟩
        · refine List.pairwise_cons.2 ⟨fun x hx => ?_, i4⟩
          have := (i1 x hx).2.2 rfl
          show p < x.1
          omega
      | false =>
        have e : scan F (n + 1) p (some b) = scan F n (p + 1) (some b) := by rw [scan, if_neg (by rw [hF]; decide)]
        rw [e]
        obtain ⟨i1, i2, i3, i4⟩ := ih (p + 1) (some b) (by omega) (fun c h => by cases h; exact ⟨by omega, (fun k x y => by
          by_cases e : k = p
          · subst e; exact hF
          · exact a2 k x (by omega)), a3⟩) (fun h => by cases h)
        refine ⟨fun x hx => ⟨(i1 x hx).1, (i1 x hx).2.1, (fun h => by cases h)⟩, fun k a c d => ?_, i3, i4⟩
        by_cases e : k = p
        · subst e
          obtain ⟨x, hx, e⟩ := i3 b rfl
          have h5 := (i1 x hx).1
          refine ⟨x, hx, by omega, ?_⟩
          by_cases hlt : k < x.2
          · exact hlt
          · exfalso
            have hb := h5.stop (by omega)
            have := h5.lt
            rw [a2 x.2 (by omega) (by
              by_cases e2 : x.2 = k
              · rw [e2, hF] at hb; cases hb
              · omega)] at hb
            cases hb
        · exact i2 k (by omega) c d
theorem runs_facts (F : Nat → Bool) : (∀ x ∈ runs F, Row1 F x) ∧ (∀ k, k < 512 → F k = false → ∃ x ∈ runs F, x.1 ≤ k ∧ k < x.2) ∧ List.Pairwise (fun x y => x.2 < y.1) (runs F) := by
  obtain ⟨h1, h2, _, h4⟩ := scan_facts F 512 0 none rfl (fun b h => by cases h) (fun _ h => by omega)
  exact ⟨fun x hx => (h1 x hx).1, fun k hk hc => h2 k (by omega) hk hc, h4⟩
end Go.Proofs.Bt

/- Small functions of package masks: strips, windows, within: contracts. -/
namespace Go.Proofs.Ytnhllnepnpmegaa
open Go.ChangeShapes Go.WideShapes Go.ChangeAt Go.RowKit Go.Shelf Go.Proofs.Rx Go.Maps Go.Proofs.Bt
set_option linter.unusedVariables false
set_option linter.unusedSimpArgs false

attribute [local go_sem] Oper.semAt_some

theorem andn_inv (a b : Nat) (ha : a < 18446744073709551616) (hb : b < 18446744073709551616) : a &&& (18446744073709551615 - b) = andn a b := by
  refine eq_of_bits (and_lt _ ha) (andn_lt _ ha) fun k hk => ?_
  have := inv_bit hb hk
  unfold inv at this
  rw [Nat.testBit_and, andn_bit, this]
theorem w_andNot (a b : Nat) (ha : a < 18446744073709551616) (hb : b < 18446744073709551616) : bits .andNot .u64 (a : Int) (b : Int) = ((andn a b : Nat) : Int) := by
  rw [u64_andNot_nat a b ha hb, andn_inv a b ha hb]
theorem w_or (a b : Nat) (ha : a < 18446744073709551616) (hb : b < 18446744073709551616) : bits .or .u64 (a : Int) (b : Int) = ((a ||| b : Nat) : Int) := bits_or_u64_nat a b ha hb
theorem w_and (a b : Nat) (ha : a < 18446744073709551616) (hb : b < 18446744073709551616) : bits .and .u64 (a : Int) (b : Int) = ((a &&& b : Nat) : Int) := bits_and_u64_nat a b ha hb
theorem stripOf_any (x : Nat) (hx : x < 1152921504606846976) (w : World) : Calls Try.prog 25 #[.int .u64 (x : Nat)] w fun e w' => e = .returned (.int .u64 ((64 * (x / 64) : Nat) : Int)) ∧ w' = w := by
  have e : (x : Int) - (x : Int) % 64 = ((64 * (x / 64) : Nat) : Int) := by omega
  rw [← e]
  clear e
  obtain ⟨X, hX⟩ : ∃ X : Int, (x : Int) = X := ⟨_, rfl⟩
  have h0 : 0 ≤ X := by omega
  have h1 : X < 1152921504606846976 := by omega
  have m0 : 0 ≤ X % 64 := by omega
  have m1 : X % 64 ≤ X := by omega
  rw [hX]
  clear hX hx
  go_enter Try.func25, Try.ntmps25
  go_wp2_with fail
  go_ret
  exact ⟨rfl, rfl⟩
/-- A strip's bits from one on and below another. -/
theorem wm (W a b s t : Nat) (hs : s < 64) (ht : t < 64) (h : ∀ k, k < 64 → ((s ≤ k ∧ k + t < 64) ↔ (a ≤ 64 * W + k ∧ 64 * W + k < b))) :
    bits .and .u64 (IntKind.u64.wrap (18446744073709551615 * 2 ^ s)) (18446744073709551615 / 2 ^ t) = ((prt W a b : Nat) : Int) := by
  have e1 : IntKind.u64.wrap (18446744073709551615 * 2 ^ s) = ((18446744073709551615 * 2 ^ s % 2 ^ 64 : Nat) : Int) := by
    simp [IntKind.wrap, IntKind.bits, IntKind.signed]
  have e2 : (18446744073709551615 : Int) / 2 ^ t = ((18446744073709551615 / 2 ^ t : Nat) : Int) := by simp
  have l1 : 18446744073709551615 * 2 ^ s % 2 ^ 64 < 18446744073709551616 := Nat.mod_lt _ (by decide)
  have l2 : 18446744073709551615 / 2 ^ t < 18446744073709551616 := Nat.lt_of_le_of_lt (Nat.div_le_self _ _) (by decide)
  rw [e1, e2, w_and _ _ l1 l2]
  congr 1
  refine eq_of_bits (and_lt _ l1) (prt_lt _ _ _) fun k hk => ?_
  rw [Nat.testBit_and, prt_bit _ _ _ _ hk, Nat.testBit_mod_two_pow, Nat.testBit_mul_two_pow, Nat.testBit_div_two_pow, show (18446744073709551615 : Nat) = 2 ^ 64 - 1 by decide, Nat.testBit_two_pow_sub_one, Nat.testBit_two_pow_sub_one]
  rw [Bool.eq_iff_iff]
  simp only [Bool.and_eq_true, decide_eq_true_eq]
  rw [← h k hk]
  omega
theorem prt_zero (W a b : Nat) (h : ∀ k, k < 64 → ¬ (a ≤ 64 * W + k ∧ 64 * W + k < b)) : prt W a b = 0 :=
  eq_of_bits (prt_lt _ _ _) (by decide) fun k hk => by rw [prt_bit _ _ _ _ hk, decide_eq_false (h k hk)]; simp
theorem within_any (W a b : Nat) (hW : W < 18014398509481984) (ha : a < 1152921504606846976) (hb : b < 1152921504606846976) (w : World) :
    Calls Try.prog 38 #[.int .u64 ((64 * W : Nat) : Int), .int .u64 (a : Nat), .int .u64 (b : Nat)] w fun e w' => e = .returned (.int .u64 (prt W a b : Nat)) ∧ w' = w := by
  have z1 := wm W a b 0 0
  have z2 := fun s => wm W a b s 0
  have z3 := wm W a b 0
  have z4 := wm W a b
  have y5 := prt_zero W a b
  simp only [Int.pow_zero, Int.mul_one, Int.ediv_one] at z1 z2 z3
  obtain ⟨R, hR⟩ : ∃ R : Int, ((prt W a b : Nat) : Int) = R := ⟨_, rfl⟩
  have z5 : (∀ k, k < 64 → ¬ (a ≤ 64 * W + k ∧ 64 * W + k < b)) → (0 : Int) = R := fun h => by rw [← hR, y5 h]; rfl
  clear y5
  simp only [hR] at z1 z2 z3 z4 ⊢
  obtain ⟨X, hX⟩ : ∃ X : Int, ((64 * W : Nat) : Int) = X := ⟨_, rfl⟩
  obtain ⟨A, hA⟩ : ∃ X : Int, (a : Int) = X := ⟨_, rfl⟩
  obtain ⟨E, hE⟩ : ∃ X : Int, (b : Int) = X := ⟨_, rfl⟩
  rw [hX, hA, hE]
  have h0 : 0 ≤ X := by omega
  have h1 : X < 1152921504606846976 := by omega
  have a0 : 0 ≤ A := by omega
  have a1 : A < 1152921504606846976 := by omega
  have e0 : 0 ≤ E := by omega
  have e1 : E < 1152921504606846976 := by omega
  have Z1 := hide z1
  have Z2 := hide z2
  have Z3 := hide z3
  have Z4 := hide z4
  have Z5 := hide z5
  have HX := hide hX
  have HA := hide hA
  have HE := hide hE
  clear hX hA hE z1 z2 z3 z4 z5 hR ha hb hW
  go_enter Try.func38, Try.ntmps38
  go_wp2_with fail
  all_goals go_ret
  all_goals refine ⟨?_, rfl⟩
  all_goals have hX := HX.out
  all_goals have hA := HA.out
  all_goals have hE := HE.out
  · rw [Z5.out (by omega)]; rfl
  · rw [Z5.out (by omega)]; rfl
  · rw [Z5.out (by omega)]; rfl
  · rw [Z4.out (A - X).toNat (X + 64 - E).toNat (by omega) (by omega) (by omega)]; rfl
  · rw [Z2.out (A - X).toNat (by omega) (by omega) (by omega)]; rfl
  · rw [Z3.out (X + 64 - E).toNat (by omega) (by omega) (by omega)]; rfl
  · rw [Z1.out (by omega) (by omega) (by omega)]; rfl
theorem windowOf_any (x : Nat) (hx : x < 1152921504606846976) (w : World) : Calls Try.prog 33 #[.int .u64 (x : Nat)] w fun e w' => e = .returned (.int .u64 ((512 * (x / 512) : Nat) : Int)) ∧ w' = w := by
  have e : (x : Int) - (x : Int) % 512 = ((512 * (x / 512) : Nat) : Int) := by omega
  rw [← e]
  clear e
  obtain ⟨X, hX⟩ : ∃ X : Int, (x : Int) = X := ⟨_, rfl⟩
  have h0 : 0 ≤ X := by omega
  have h1 : X < 1152921504606846976 := by omega
  have m0 : 0 ≤ X % 512 := by omega
  have m1 : X % 512 ≤ X := by omega
  rw [hX]
  clear hX hx
  go_enter Try.func33, Try.ntmps33
  go_wp2_with fail
  go_ret
  exact ⟨rfl, rfl⟩
theorem windowUp_any (x : Nat) (hx : x < 281474976710656) (w : World) : Calls Try.prog 31 #[.int .u64 (x : Nat)] w fun e w' => e = .returned (.int .u64 ((512 * ((x + 511) / 512) : Nat) : Int)) ∧ w' = w := by
  have C := windowOf_any (x + 511) (by omega) w
  obtain ⟨V, hV⟩ : ∃ V : Int, ((512 * ((x + 511) / 512) : Nat) : Int) = V := ⟨_, rfl⟩
  rw [hV] at C ⊢
  obtain ⟨X, hX⟩ : ∃ X : Int, (x : Int) = X := ⟨_, rfl⟩
  have e : ((x + 511 : Nat) : Int) = X + 512 - 1 := by omega
  rw [e] at C
  rw [hX]
  have h0 : 0 ≤ X := by omega
  have h1 : X < 281474976710656 := by omega
  have HC := hide C
  clear hV hX e hx C
  go_enter Try.func31, Try.ntmps31
  go_wp2_with fail
  refine HC.out.mono ?_
  rintro e w' ⟨rfl, hw⟩; rw [hw]; clear hw w'
  go_wp2_with fail
  go_ret
  exact ⟨rfl, rfl⟩
end Go.Proofs.Ytnhllnepnpmegaa

/- Words of bits, counts by strips, things one behind the other: plain. -/
namespace Go.Proofs.Ytnhllnepnpmegaa
open Go.Proofs.Bt
set_option linter.unusedVariables false
set_option linter.unusedSimpArgs false

/-- The number of the first i bits. -/
def wd (f : Nat → Bool) : Nat → Nat
  | 0 => 0
  | i + 1 => wd f i ||| (if f i then 2 ^ i else 0)
theorem wd_bit (f : Nat → Bool) (i k : Nat) : (wd f i).testBit k = (decide (k < i) && f k) := by
  induction i with
  | zero => simp [wd]
  | succ i ih =>
    rw [wd, Nat.testBit_or, ih]
    by_cases e : k = i
    · subst e
      cases h : f k <;> simp [h, Nat.testBit_two_pow_self]
    · have e1 : (if f i = true then 2 ^ i else 0).testBit k = false := by
        split
        · rw [Nat.testBit_two_pow]; exact decide_eq_false (fun h => e h.symm)
        · simp
      rw [e1, Bool.or_false]
      congr 1
      rw [Bool.eq_iff_iff]; simp; omega
theorem wd_lt (f : Nat → Bool) {i : Nat} (h : i ≤ 64) : wd f i < 18446744073709551616 := lt_of_bits fun k hk => by rw [wd_bit, decide_eq_false (by omega)]; rfl
theorem wd_of {f : Nat → Bool} {x : Nat} (hx : x < 18446744073709551616) (h : ∀ k, k < 64 → x.testBit k = f k) : x = wd f 64 :=
  eq_of_bits hx (wd_lt f (Nat.le_refl _)) fun k hk => by rw [h k hk, wd_bit, decide_eq_true hk]; rfl
theorem wd_congr {f f' : Nat → Bool} (h : ∀ k, k < 64 → f k = f' k) : wd f 64 = wd f' 64 := wd_of (wd_lt _ (Nat.le_refl _)) fun k hk => by rw [wd_bit, decide_eq_true hk, Bool.true_and, h k hk]
theorem wd_none {f : Nat → Bool} (h : ∀ k, k < 64 → f k = false) : wd f 64 = 0 := (wd_of (x := 0) (by decide) fun k hk => by rw [h k hk]; simp).symm
theorem wd_or (f g : Nat → Bool) : wd f 64 ||| wd g 64 = wd (fun k => f k || g k) 64 := wd_of (or_lt (wd_lt _ (Nat.le_refl _)) (wd_lt _ (Nat.le_refl _))) fun k hk => by rw [Nat.testBit_or, wd_bit, wd_bit, decide_eq_true hk]; rfl
theorem wd_pow (f : Nat → Bool) (r : Nat) (hr : r < 64) : wd f 64 ||| 2 ^ r = wd (fun k => f k || decide (k = r)) 64 := by
  have hp : 2 ^ r < 18446744073709551616 := by
    have : 2 ^ r < 2 ^ 64 := Nat.pow_lt_pow_right (by decide) hr
    exact this
  refine wd_of (or_lt (wd_lt _ (Nat.le_refl _)) hp) fun k hk => ?_
  rw [Nat.testBit_or, wd_bit, decide_eq_true hk, Nat.testBit_two_pow, Bool.true_and]
  congr 1
  rw [Bool.eq_iff_iff]; simp only [decide_eq_true_eq]; omega
/-- The bits of a strip that are of one form within a row, of another outside it. -/
theorem wd_mix (f g : Nat → Bool) (W a b : Nat) : andn (wd (fun k => f (64 * W + k)) 64) (prt W a b) ||| (wd (fun k => g (64 * W + k)) 64 &&& prt W a b) = wd (fun k => if a ≤ 64 * W + k ∧ 64 * W + k < b then g (64 * W + k) else f (64 * W + k)) 64 := by
  refine wd_of (or_lt (andn_lt _ (wd_lt _ (Nat.le_refl _))) (and_lt _ (wd_lt _ (Nat.le_refl _)))) fun k hk => ?_
  rw [Nat.testBit_or, andn_bit, Nat.testBit_and, wd_bit, wd_bit, prt_bit _ _ _ _ hk, decide_eq_true hk]
  by_cases c : a ≤ 64 * W + k ∧ 64 * W + k < b
  · rw [if_pos c, decide_eq_true c]; simp
  · rw [if_neg c, decide_eq_false c]; simp
theorem pc_cnt : ∀ (m x : Nat), x < 2 ^ m → pc x = cnt x.testBit 0 m := by
  intro m
  induction m with
  | zero => intro x h; rw [show x = 0 by simpa using h, pc_zero]; rfl
  | succ m ih =>
    intro x h
    rw [pc_step, ih (x / 2) (by rw [Nat.pow_succ] at h; omega), show m + 1 = 1 + m by omega, cnt_add]
    congr 1
    · simp only [cnt, Nat.zero_add]
      rw [Nat.testBit_zero]
      by_cases h2 : x % 2 = 1
      · simp [h2]
      · rw [decide_eq_false h2]; simp; omega
    · exact cnt_congr fun k hk => by rw [Nat.testBit_div_two, Nat.zero_add]; congr 1; omega
theorem cnt_cut (f : Nat → Bool) (i a b : Nat) : ∀ n, cnt (fun q => f q && decide (a ≤ q ∧ q < b)) i n = cnt f (max i a) (min (i + n) b - max i a)
  | 0 => by rw [show min (i + 0) b - max i a = 0 by omega]; rfl
  | n + 1 => by
    rw [cnt, cnt_cut f i a b n]
    by_cases c : a ≤ i + n ∧ i + n < b
    · rw [decide_eq_true c, Bool.and_true, show min (i + (n + 1)) b - max i a = (min (i + n) b - max i a) + 1 by omega, cnt, show max i a + (min (i + n) b - max i a) = i + n by omega]
    · rw [decide_eq_false c, Bool.and_false]
      by_cases d : i + n < a
      · rw [show min (i + (n + 1)) b - max i a = 0 by omega, show min (i + n) b - max i a = 0 by omega]; rfl
      · rw [show min (i + (n + 1)) b - max i a = min (i + n) b - max i a by omega]; rfl
theorem strip_cnt (f : Nat → Bool) (k a b : Nat) : pc (wd (fun i => f (64 * k + i)) 64 &&& prt k a b) = cnt f (max (64 * k) a) (min (64 * k + 64) b - max (64 * k) a) := by
  rw [pc_cnt 64 _ (and_lt _ (wd_lt _ (Nat.le_refl _))), ← cnt_cut]
  exact cnt_congr fun q hq => by
    rw [Nat.zero_add, Nat.testBit_and, prt_bit _ _ _ _ hq, wd_bit, decide_eq_true hq]; rfl
/-- How many are ahead of a word. -/
def cto (f : Nat → Bool) (x : Nat) : Nat := cnt f 0 x
theorem cto_add (f : Nat → Bool) (x n : Nat) : cto f (x + n) = cto f x + cnt f x n := by unfold cto; rw [cnt_add, Nat.zero_add]
theorem cnt_cto (f : Nat → Bool) {a b : Nat} (h : a ≤ b) : cnt f a (b - a) = cto f b - cto f a := by
  have := cto_add f a (b - a)
  rw [show a + (b - a) = b by omega] at this
  omega
theorem cto_mono (f : Nat → Bool) {a b : Nat} (h : a ≤ b) : cto f a ≤ cto f b := by
  have := cto_add f a (b - a)
  rw [show a + (b - a) = b by omega] at this
  omega
theorem cto_le (f : Nat → Bool) (x : Nat) : cto f x ≤ x := cnt_le f 0 x
/-! ### Things one behind the other -/
def thF (fi wds n : Nat) (mb : Nat → Bool) (x : Nat) : Bool := decide (fi ≤ x ∧ x < fi + n * wds) && mb ((x - fi) % wds)
theorem per_mul (mb : Nat → Bool) (w : Nat) (hw : 0 < w) : ∀ q, cnt (fun i => mb (i % w)) 0 (w * q) = q * cnt mb 0 w
  | 0 => by rw [Nat.mul_zero, Nat.zero_mul]; rfl
  | q + 1 => by
    rw [Nat.mul_add, Nat.mul_one, cnt_add, per_mul mb w hw q, Nat.add_mul, Nat.one_mul]
    congr 1
    exact cnt_congr fun k hk => by rw [Nat.zero_add, Nat.zero_add, Nat.mul_add_mod, Nat.mod_eq_of_lt hk]
theorem per_cnt (mb : Nat → Bool) (w : Nat) (hw : 0 < w) (m : Nat) : cnt (fun i => mb (i % w)) 0 m = m / w * cnt mb 0 w + cnt mb 0 (m % w) := by
  have e := Nat.div_add_mod m w
  rw [show cnt (fun i => mb (i % w)) 0 m = cnt (fun i => mb (i % w)) 0 (w * (m / w) + m % w) by rw [e], cnt_add, per_mul mb w hw]
  congr 1
  exact cnt_congr fun k hk => by
    have : k < w := Nat.lt_trans hk (Nat.mod_lt _ hw)
    rw [Nat.zero_add, Nat.zero_add, Nat.mul_add_mod, Nat.mod_eq_of_lt this]
theorem th_cto (fi wds n : Nat) (mb : Nat → Bool) (hw : 0 < wds) (x m : Nat) (hm : m = min (max x fi) (fi + n * wds) - fi) : cto (thF fi wds n mb) x = m / wds * cnt mb 0 wds + cnt mb 0 (m % wds) := by
  rw [← per_cnt mb wds hw m]
  have z0 : ∀ j, j ≤ fi → cto (thF fi wds n mb) j = 0 := fun j hj => cnt_none fun k hk => by unfold thF; rw [decide_eq_false (by omega)]; rfl
  by_cases c : x ≤ fi
  · rw [z0 x c, show m = 0 by omega]; rfl
  · have e1 : x = fi + (m + (x - fi - m)) := by omega
    rw [e1, cto_add, z0 fi (Nat.le_refl _), cnt_add, Nat.zero_add]
    rw [show cnt (thF fi wds n mb) (fi + m) (x - fi - m) = 0 from cnt_none fun k hk => by unfold thF; rw [decide_eq_false (by omega)]; rfl]
    rw [Nat.add_zero]
    exact cnt_congr fun k hk => by
      unfold thF
      rw [decide_eq_true (by omega), Bool.true_and, Nat.add_sub_cancel_left, Nat.zero_add]
end Go.Proofs.Ytnhllnepnpmegaa
