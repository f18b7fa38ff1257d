/- Slots as bits of words, and what is told of them: no Go in sight. -/
import Derived.Test.YtblfefibgoiaaaaDoorBt
namespace Go.Proofs.Sn
open Go.Proofs.Bt
set_option linter.unusedVariables false
set_option linter.unusedSimpArgs false

def Small (ws : List Nat) : Prop := ∀ x ∈ ws, x < 18446744073709551616
/-- A bit of a list of words. -/
def wb (ws : List Nat) (i : Nat) : Bool := (ws.getD (i / 64) 0).testBit (i % 64)
def upd (u : Nat → Bool) (i : Nat) (x : Bool) : Nat → Bool := fun k => if k = i then x else u k
theorem upd_self (u : Nat → Bool) (i : Nat) (x : Bool) : upd u i x i = x := if_pos rfl
theorem upd_ne (u : Nat → Bool) {i k : Nat} (x : Bool) (h : k ≠ i) : upd u i x k = u k := if_neg h
theorem wb_out {ws : List Nat} {i : Nat} (h : ws.length ≤ i / 64) : wb ws i = false := by
  unfold wb
  rw [List.getD_eq_getElem?_getD, List.getElem?_eq_none h]
  exact Nat.zero_testBit _
theorem wb_in {ws : List Nat} {i x : Nat} (h : ws[i / 64]? = some x) : wb ws i = x.testBit (i % 64) := by
  unfold wb
  rw [List.getD_eq_getElem?_getD, h]
  rfl
theorem wb_nil (i : Nat) : wb [] i = false := wb_out (by simp)
theorem wb_lt {ws : List Nat} {i : Nat} (h : wb ws i = true) : i / 64 < ws.length := by
  apply Classical.byContradiction
  intro z
  rw [wb_out (by omega)] at h
  cases h
theorem wb_zero (ws : List Nat) (i : Nat) : wb (ws ++ [0]) i = wb ws i := by
  unfold wb
  rw [List.getD_eq_getElem?_getD, List.getD_eq_getElem?_getD]
  by_cases h : i / 64 < ws.length
  · rw [List.getElem?_append_left h]
  · rw [List.getElem?_append_right (by omega), List.getElem?_eq_none (l := ws) (by omega)]
    by_cases e : i / 64 - ws.length = 0
    · rw [e]; rfl
    · rw [List.getElem?_eq_none (by simp; omega)]
theorem Small.zero {ws : List Nat} (h : Small ws) : Small (ws ++ [0]) := by
  intro x hx
  rcases List.mem_append.1 hx with e | e
  · exact h x e
  · simp at e; omega
theorem Small.at {ws : List Nat} (h : Small ws) {k x : Nat} (hx : ws[k]? = some x) : x < 18446744073709551616 := h x (List.mem_of_getElem? hx)
theorem Small.set {ws : List Nat} (h : Small ws) {x : Nat} (hx : x < 18446744073709551616) (k : Nat) : Small (ws.set k x) := by
  intro y hy
  rcases List.mem_or_eq_of_mem_set hy with e | e
  · exact h y e
  · omega
theorem Small.nil : Small [] := fun x hx => by cases hx
theorem wb_set {ws : List Nat} {q : Nat} (h : q < ws.length) (x k : Nat) : wb (ws.set q x) k = if k / 64 = q then x.testBit (k % 64) else wb ws k := by
  unfold wb
  rw [List.getD_eq_getElem?_getD, List.getD_eq_getElem?_getD]
  by_cases e : k / 64 = q
  · rw [if_pos e, e, List.getElem?_set_self h]; rfl
  · rw [if_neg e, List.getElem?_set_ne (by omega)]
theorem split64 {k i : Nat} : k = i ↔ k / 64 = i / 64 ∧ k % 64 = i % 64 := by omega
theorem wb_on {ws : List Nat} {i x : Nat} (h : ws[i / 64]? = some x) : wb (ws.set (i / 64) (x ||| 2 ^ (i % 64))) = upd (wb ws) i true := by
  funext k
  rw [wb_set (List.getElem?_eq_some_iff.1 h).1]
  unfold upd
  by_cases e : k / 64 = i / 64
  · rw [if_pos e, Nat.testBit_or, Nat.testBit_two_pow]
    by_cases c : k = i
    · rw [if_pos c, c]; simp
    · rw [if_neg c, decide_eq_false (fun z => c (split64.2 ⟨e, z.symm⟩)), Bool.or_false, wb_in (e.symm ▸ h)]
  · rw [if_neg e, if_neg (fun z => e (by rw [z]))]
theorem wb_off {ws : List Nat} {i x : Nat} (h : ws[i / 64]? = some x) : wb (ws.set (i / 64) (andn x (2 ^ (i % 64)))) = upd (wb ws) i false := by
  funext k
  rw [wb_set (List.getElem?_eq_some_iff.1 h).1]
  unfold upd
  by_cases e : k / 64 = i / 64
  · rw [if_pos e, andn_bit, Nat.testBit_two_pow]
    by_cases c : k = i
    · rw [if_pos c, c]; simp
    · rw [if_neg c, decide_eq_false (fun z => c (split64.2 ⟨e, z.symm⟩)), Bool.not_false, Bool.and_true, wb_in (e.symm ▸ h)]
  · rw [if_neg e, if_neg (fun z => e (by rw [z]))]
theorem pow_lt (i : Nat) : 2 ^ (i % 64) < 18446744073709551616 := by
  have : 2 ^ (i % 64) ≤ 2 ^ 63 := Nat.pow_le_pow_right (by decide) (by omega)
  have e : (2 : Nat) ^ 63 = 9223372036854775808 := by decide
  omega

/-! ### The first clear bit -/
/-- k is the first that is not set, from i on. -/
def First (u : Nat → Bool) (i k : Nat) : Prop := i ≤ k ∧ u k = false ∧ ∀ j, i ≤ j → j < k → u j = true
theorem First.one {u : Nat → Bool} {i k k' : Nat} (h : First u i k) (h' : First u i k') : k = k' := by
  rcases Nat.lt_trichotomy k k' with c | c | c
  · have := h'.2.2 k h.1 c; rw [h.2.1] at this; cases this
  · exact c
  · have := h.2.2 k' h'.1 c; rw [h'.2.1] at this; cases this
/-- What a word says of it: none of its bits from i on is clear, or the first is found. -/
theorem word_none {ws : List Nat} {i x : Nat} (hx : ws[i / 64]? = some x) (hs : x < 18446744073709551616) (h : inv x / 2 ^ (i % 64) = 0) : ∀ j, i ≤ j → j < i + (64 - i % 64) → wb ws j = true := by
  intro j h1 h2
  have e : j / 64 = i / 64 := by omega
  rw [wb_in (e.symm ▸ hx)]
  have b : (inv x / 2 ^ (i % 64)).testBit (j % 64 - i % 64) = !x.testBit (j % 64) := by
    rw [Nat.testBit_div_two_pow, show j % 64 - i % 64 + i % 64 = j % 64 by omega]
    exact inv_bit hs (by omega)
  rw [h, Nat.zero_testBit] at b
  cases c : x.testBit (j % 64) with
  | true => rfl
  | false => rw [c] at b; cases b
theorem word_some {ws : List Nat} {i x : Nat} (hx : ws[i / 64]? = some x) (hs : x < 18446744073709551616) (h : inv x / 2 ^ (i % 64) ≠ 0) : First (wb ws) i (i + Lib.ctz 64 (inv x / 2 ^ (i % 64))) ∧ Lib.ctz 64 (inv x / 2 ^ (i % 64)) < 64 := by
  have hl : inv x / 2 ^ (i % 64) < 18446744073709551616 := Nat.lt_of_le_of_lt (Nat.div_le_self _ _) (inv_lt _)
  obtain ⟨c1, c2, c3⟩ := ctz_bit h hl
  generalize Lib.ctz 64 (inv x / 2 ^ (i % 64)) = c at *
  have b : ∀ k, (inv x / 2 ^ (i % 64)).testBit k = (inv x).testBit (k + i % 64) := fun k => by rw [Nat.testBit_div_two_pow]
  rw [b] at c2
  have lc : c + i % 64 < 64 := by
    apply Classical.byContradiction
    intro z
    rw [bit_high (inv_lt _) (by omega)] at c2
    cases c2
  rw [inv_bit hs lc] at c2
  refine ⟨⟨by omega, ?_, fun j h1 h2 => ?_⟩, c1⟩
  · have e : (i + c) / 64 = i / 64 := by omega
    rw [wb_in (e.symm ▸ hx), show (i + c) % 64 = c + i % 64 by omega]
    simpa using c2
  · have e : j / 64 = i / 64 := by omega
    have := c3 (j - i) (by omega)
    rw [b, inv_bit hs (by omega)] at this
    rw [wb_in (e.symm ▸ hx), show j % 64 = j - i + i % 64 by omega]
    simpa using this

/-! ### Lists of bits -/
theorem filter_none {p : Nat → Bool} {n : Nat} (h : ∀ k, k < n → p k = false) : (List.range n).filter p = [] := by
  rw [List.filter_eq_nil_iff]
  intro a ha
  rw [h a (List.mem_range.1 ha)]
  simp
theorem filter_take {p q : Nat → Bool} {c n : Nat} (hc : c < n) (h1 : p c = true) (h2 : ∀ k, k < c → p k = false) (h3 : ∀ k, q k = (p k && !decide (k = c))) : (List.range n).filter p = c :: (List.range n).filter q := by
  obtain ⟨d, rfl⟩ : ∃ d, n = c + 1 + d := ⟨n - (c + 1), by omega⟩
  rw [List.range_add, List.filter_append, List.filter_append, List.range_succ, List.filter_append, List.filter_append, filter_none h2, filter_none (fun k hk => by rw [h3, h2 k hk]; rfl)]
  have e1 : [c].filter p = [c] := by simp [h1]
  have e2 : [c].filter q = [] := by simp [h3]
  rw [e1, e2, List.nil_append, List.nil_append, List.nil_append, List.singleton_append]
  congr 1
  apply List.filter_congr
  intro x hx
  obtain ⟨y, _, rfl⟩ := List.mem_map.1 hx
  rw [h3, decide_eq_false (by omega)]
  simp
/-- The lowest set bit is cleared. -/
def drop1 (x : Nat) : Nat := x &&& (x - 1)
theorem drop1_bit {x : Nat} (h0 : x ≠ 0) (hx : x < 18446744073709551616) (k : Nat) : (drop1 x).testBit k = (x.testBit k && !decide (k = Lib.ctz 64 x)) := by
  obtain ⟨m, hm, hl⟩ := Lib.ctzFrom_spec 64 x (by omega) hx
  have e : Lib.ctz 64 x = Lib.ctzFrom 64 x := by unfold Lib.ctz; rw [if_neg h0]
  rw [e]
  generalize Lib.ctzFrom 64 x = t at *
  have hp : 0 < 2 ^ t := Nat.two_pow_pos t
  have e1 : x = 2 ^ t * (2 * m + 1) + 0 := by omega
  have e2 : x - 1 = 2 ^ t * (2 * m) + (2 ^ t - 1) := by rw [hm, Nat.mul_add, Nat.mul_one]; omega
  unfold drop1
  rw [Nat.testBit_and, e2]
  rw [Nat.testBit_two_pow_mul_add _ (by omega)]
  by_cases c : k < t
  · have : x.testBit k = false := by rw [hm, Nat.testBit_two_pow_mul]; simp; omega
    rw [this]; rfl
  · rw [if_neg c]
    have hb : x.testBit k = (2 * m + 1).testBit (k - t) := by rw [hm, Nat.testBit_two_pow_mul]; simp; omega
    rw [hb]
    by_cases d : k = t
    · subst d; simp
    · obtain ⟨j, hj⟩ : ∃ j, k - t = j + 1 := ⟨k - t - 1, by omega⟩
      rw [hj, decide_eq_false d, Nat.testBit_succ, Nat.testBit_succ, show (2 * m + 1) / 2 = m by omega, show 2 * m / 2 = m by omega]
      simp
theorem drop1_lt {x : Nat} (h0 : x ≠ 0) : drop1 x < x := by
  have : drop1 x ≤ x - 1 := Nat.and_le_right
  omega
/-- The bits of a word. -/
def bitsW (k x : Nat) : List Nat := ((List.range 64).filter x.testBit).map (fun j => 64 * k + j)
theorem bitsW_zero (k : Nat) : bitsW k 0 = [] := by
  unfold bitsW
  rw [filter_none (fun k _ => Nat.zero_testBit k)]
  rfl
theorem bitsW_step {k x : Nat} (h0 : x ≠ 0) (hx : x < 18446744073709551616) : bitsW k x = (64 * k + Lib.ctz 64 x) :: bitsW k (drop1 x) := by
  obtain ⟨c1, c2, c3⟩ := ctz_bit h0 hx
  unfold bitsW
  rw [filter_take c1 c2 c3 (drop1_bit h0 hx), List.map_cons]
/-- Those of w that o has not. -/
def lsW (ws os : List Nat) (n : Nat) : List Nat := (List.range n).filter (fun i => wb ws i && !wb os i)
theorem lsW_step {ws os : List Nat} {k x : Nat} (hx : ws[k]? = some x) : lsW ws os (64 * (k + 1)) = lsW ws os (64 * k) ++ bitsW k (andn x (os.getD k 0)) := by
  unfold lsW bitsW
  rw [Nat.mul_add, Nat.mul_one, List.range_add, List.filter_append]
  congr 1
  rw [List.filter_map]
  congr 1
  apply List.filter_congr
  intro j hj
  have h64 := List.mem_range.1 hj
  have e : (64 * k + j) / 64 = k := by omega
  show (wb ws (64 * k + j) && !wb os (64 * k + j)) = _
  rw [andn_bit, wb_in (by rw [e]; exact hx)]
  unfold wb
  rw [e, show (64 * k + j) % 64 = j by omega]
/-- Of functions. -/
def lsF (u m : Nat → Bool) (n : Nat) : List Nat := (List.range n).filter (fun i => u i && !m i)
theorem filter_le {p : Nat → Bool} {a b : Nat} (hab : a ≤ b) (h : ∀ i, p i = true → i < a) : (List.range b).filter p = (List.range a).filter p := by
  obtain ⟨d, rfl⟩ : ∃ d, b = a + d := ⟨b - a, by omega⟩
  rw [List.range_add, List.filter_append]
  have : ((List.range d).map (fun x => a + x)).filter p = [] := by
    rw [List.filter_eq_nil_iff]
    intro x hx
    obtain ⟨y, _, rfl⟩ := List.mem_map.1 hx
    intro z
    have := h _ z
    omega
  rw [this, List.append_nil]
theorem filter_ext {p : Nat → Bool} {a b : Nat} (h1 : ∀ i, p i = true → i < a) (h2 : ∀ i, p i = true → i < b) : (List.range a).filter p = (List.range b).filter p := by
  rcases Nat.le_total a b with c | c
  · exact (filter_le c h1).symm
  · exact filter_le c h2
theorem lsW_eq {ws os : List Nat} {n : Nat} (h : ∀ i, wb ws i = true → i < n) : lsW ws os (64 * ws.length) = lsF (wb ws) (wb os) n := by
  refine filter_ext (fun i hi => ?_) (fun i hi => ?_)
  · have := wb_lt (Bool.and_eq_true _ _ ▸ hi).1
    omega
  · exact h i (Bool.and_eq_true _ _ ▸ hi).1
theorem lsF_nil {u m : Nat → Bool} {n : Nat} (h : ∀ i, u i = true → i < n) : lsF u m n = [] ↔ ∀ i, u i = true → m i = true := by
  unfold lsF
  rw [List.filter_eq_nil_iff]
  constructor
  · intro z i hi
    have := z i (List.mem_range.2 (h i hi))
    rw [hi] at this
    simpa using this
  · intro z i _ y
    rw [Bool.and_eq_true] at y
    rw [z i y.1] at y
    simp at y
/-! ### Counts -/
theorem cnt_upd (u : Nat → Bool) (i : Nat) (x : Bool) {n : Nat} (h : i < n) : cnt (upd u i x) 0 n + (u i).toNat = cnt u 0 n + x.toNat := by
  obtain ⟨d, rfl⟩ : ∃ d, n = i + (1 + d) := ⟨n - i - 1, by omega⟩
  rw [cnt_add, cnt_add, cnt_add, cnt_add]
  rw [cnt_congr (f := upd u i x) (g := u) (i := 0) (j := 0) (n := i) (fun k hk => upd_ne u x (by omega))]
  rw [cnt_congr (f := upd u i x) (g := u) (i := 0 + i + 1) (j := 0 + i + 1) (n := d) (fun k hk => upd_ne u x (by omega))]
  have e1 : cnt (upd u i x) (0 + i) 1 = x.toNat := by
    show 0 + (upd u i x (0 + i + 0)).toNat = _
    rw [show 0 + i + 0 = i by omega, upd_self]; omega
  have e2 : cnt u (0 + i) 1 = (u i).toNat := by
    show 0 + (u (0 + i + 0)).toNat = _
    rw [show 0 + i + 0 = i by omega]; omega
  omega
theorem cnt_le_ext {u : Nat → Bool} {a b : Nat} (hab : a ≤ b) (h : ∀ i, u i = true → i < a) : cnt u 0 b = cnt u 0 a := by
  obtain ⟨d, rfl⟩ : ∃ d, b = a + d := ⟨b - a, by omega⟩
  rw [cnt_add, cnt_none (i := 0 + a)]
  · omega
  · intro k hk
    cases c : u (0 + a + k) with
    | false => rfl
    | true => have := h _ c; omega
theorem cnt_ext {u : Nat → Bool} {a b : Nat} (h1 : ∀ i, u i = true → i < a) (h2 : ∀ i, u i = true → i < b) : cnt u 0 a = cnt u 0 b := by
  rcases Nat.le_total a b with c | c
  · exact (cnt_le_ext c h1).symm
  · exact cnt_le_ext c h2
theorem cnt_less {u m : Nat → Bool} (h : ∀ i, m i = true → u i = true) (n : Nat) : cnt u 0 n = cnt m 0 n + (lsF u m n).length := by
  induction n with
  | zero => rfl
  | succ n ih =>
    rw [cnt, cnt, ih]
    unfold lsF
    rw [List.range_succ, List.filter_append, List.length_append]
    rw [Nat.zero_add]
    cases c : u n with
    | false =>
      cases d : m n with
      | false => simp [c]
      | true => rw [h n d] at c; cases c
    | true =>
      cases d : m n with
      | false => simp [c, d]; omega
      | true => simp [c, d]; omega
theorem cnt_off {u : Nat → Bool} {n : Nat} (h : ∀ i, u i = true → i < n) : cnt u 0 n = 0 ↔ ∀ i, u i = false := by
  rw [cnt_zero]
  constructor
  · intro z i
    cases c : u i with
    | false => rfl
    | true => have := z i (h i c); rw [Nat.zero_add, c] at this; cases this
  · intro z k _; exact z _
end Go.Proofs.Sn
