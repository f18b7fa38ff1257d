/- J24 of the proof of both laws: texts Pd, Qa, Qd, one behind the other. -/
import Derived.Test.YtnclicdnncgdiaaGreatDoorJ23
import Derived.Test.YtnclicdnncgdiaaGreatDoorJ01
import Derived.Test.YtnclicdnncgdiaaGreatDoorJ03
import Derived.Test.YtnclicdnncgdiaaGreatDoorJ12
/- The reference's cache: Tell: its contract. -/
namespace Go.Proofs.YtnclicdnncgdiaaGreatDoor
open Go.ChangeShapes Go.WideShapes Go.ChangeAt Go.RowKit Go.Proofs.Bt Go.Shelf Go.Proofs.Rx Go.Maps Go.Proofs.Pk
set_option linter.unusedVariables false
set_option linter.unusedSimpArgs false

/-- The n highest bits of word k. -/
def wv (f : Nat → Bool) (k : Nat) : Nat → Nat
  | 0 => 0
  | n + 1 => 2 * wv f k n + (f (64 * k + (63 - n))).toNat
theorem wv_lt (f : Nat → Bool) (k n : Nat) : wv f k n < 2 ^ n := by
  induction n with
  | zero => simp [wv]
  | succ n ih => rw [wv, Nat.pow_succ]; have := toNat_le (f (64 * k + (63 - n))); omega
theorem wv_bit (f : Nat → Bool) (k : Nat) : ∀ (n q : Nat), q < n → n ≤ 64 → (wv f k n).testBit q = f (64 * k + (64 - n) + q) := by
  intro n
  induction n with
  | zero => intro q h; omega
  | succ n ih =>
    intro q hq hn
    rw [wv]
    cases q with
    | zero =>
      rw [Nat.testBit_zero, show 64 * k + (64 - (n + 1)) + 0 = 64 * k + (63 - n) by omega]
      cases f (64 * k + (63 - n)) <;> simp <;> omega
    | succ q =>
      rw [Nat.testBit_succ, show (2 * wv f k n + (f (64 * k + (63 - n))).toNat) / 2 = wv f k n by have := toNat_le (f (64 * k + (63 - n))); omega, ih q (by omega) (by omega)]
      congr 1
      omega
theorem wv64 (f : Nat → Bool) (k : Nat) : wv f k 64 < 18446744073709551616 := wv_lt f k 64
/-- The word of 64 truths, the lowest first. -/
def word64 (f : Nat → Bool) : Nat := wv f 0 64
theorem word64_bit (f : Nat → Bool) {q : Nat} (hq : q < 64) : (word64 f).testBit q = f q := by
  unfold word64
  rw [wv_bit f 0 64 q hq (Nat.le_refl _)]
  congr 1
  omega
theorem word64_lt (f : Nat → Bool) : word64 f < 18446744073709551616 := wv64 f 0
theorem wv_next (f : Nat → Bool) {i : Int} (h0 : 0 ≤ i) (h1 : i ≤ 63) : wv f 0 (63 - (i - 1)).toNat = 2 * wv f 0 (63 - i).toNat + (f i.toNat).toNat := by
  rw [show (63 - (i - 1)).toNat = (63 - i).toNat + 1 by omega, wv]
  congr 2
  congr 1
  omega
theorem wv_half (f : Nat → Bool) {i : Int} (h0 : 0 ≤ i) : wv f 0 (63 - i).toNat < 9223372036854775808 :=
  Nat.lt_of_lt_of_le (wv_lt f 0 _) (by rw [show (9223372036854775808 : Nat) = 2 ^ 63 by decide]; exact Nat.pow_le_pow_right (by decide) (by omega))
/-- What Tell answers. -/
def TellR (W : World) (B : Nat) (hs gn : Nat → Bool) (e : Ending) (w' : World) : Prop :=
  ((none64 hs ∧ e = .returned (.tuple #[.int .u64 0, .int .u64 0, .int .u64 0])) ∨ (¬ none64 hs ∧ e = .returned (.tuple #[.int .u64 (B : Nat), .int .u64 (word64 hs : Nat), .int .u64 (word64 (fun i => hs i && gn i) : Nat)]))) ∧ w' = W
set_option maxRecDepth 100000 in
theorem pcTell {W : World} {b B : Nat} {hs gn : Nat → Bool} (h : PcAt W b B hs gn) :
    Calls Tryz.prog 32 #[.pointer (some ⟨b, 0, none⟩)] W (TellR W B hs gn) := by
  obtain ⟨R, hR⟩ : ∃ R, R = TellR W B hs gn := ⟨_, rfl⟩
  rw [← hR]
  have HH := hide h
  by_cases z : none64 hs
  · have CE := hide (pcEmpty h true (by simp [z]))
    have F0 := hide (show R (.returned (.tuple #[.int .u64 0, .int .u64 0, .int .u64 0])) W from by rw [hR]; exact ⟨.inl ⟨z, rfl⟩, rfl⟩)
    clear hR h z
    go_enter Tryz.func32, Tryz.ntmps32
    go_wp2_with fail
    refine CE.out.mono ?_
    rintro e w1 ⟨rfl, hw⟩
    rw [hw]
    clear hw w1 CE
    go_wp2_with fail
    first | exact F0.out | (refine bodyPost_ret (results_tmp3 Tryz.results32 _ _ _) rfl ?_; exact F0.out)
  have CE := hide (pcEmpty h false (by simp [z]))
  have c0 := h.c0
  obtain ⟨g, hg⟩ : ∃ g : Nat → Bool, g = fun i => hs i && gn i := ⟨_, rfl⟩
  have F0 := hide (show ∀ x y : Int, x = (wv hs 0 64 : Nat) → y = (wv g 0 64 : Nat) → R (.returned (.tuple #[.int .u64 (B : Nat), .int .u64 x, .int .u64 y])) W from fun x y hx hy => by
    rw [hR, hx, hy, hg]
    exact ⟨.inr ⟨z, rfl⟩, rfl⟩)
  have HG := hide hg
  clear hR h z hg
  go_enter Tryz.func32, Tryz.ntmps32
  go_wp2_with fail
  refine CE.out.mono ?_
  rintro e w1 ⟨rfl, hw⟩
  rw [hw]
  clear hw w1 CE
  go_wp2_with fail
  go_loop [5, 6, 7] (fun xv yv iv => ∃ x y i : Int, xv = .int .u64 x ∧ yv = .int .u64 y ∧ iv = .int .i64 i ∧ -1 ≤ i ∧ i ≤ 63 ∧ 0 ≤ x ∧ 0 ≤ y ∧ Hid (x = (wv hs 0 (63 - i).toNat : Nat) ∧ y = (wv g 0 (63 - i).toNat : Nat))) (fun _ _ iv => (intOf iv + 1).toNat)
  case atStart => exact ⟨0, 0, 63, rfl, rfl, rfl, by omega, by omega, by omega, by omega, hide ⟨rfl, rfl⟩⟩
  case round =>
    obtain ⟨x, y, i, rfl, rfl, rfl, i0, i1, x0, y0, HI⟩ := hrel
    by_cases hi : 0 ≤ i
    · have c1 := HH.out.hs.cell i.toNat (by omega)
      have c2 := HH.out.gn.cell i.toNat (by omega)
      have x1 : x < 9223372036854775808 := by have := wv_half hs (i := i) hi; have := HI.out.1; omega
      have y1 : y < 9223372036854775808 := by have := wv_half g (i := i) hi; have := HI.out.2; omega
      have NX := hide (show ∀ x' y' : Int, x' = 2 * x + ((hs i.toNat).toNat : Nat) → y' = 2 * y + ((g i.toNat).toNat : Nat) → x' = (wv hs 0 (63 - (i - 1)).toNat : Nat) ∧ y' = (wv g 0 (63 - (i - 1)).toNat : Nat) from fun x' y' h1 h2 => by
        rw [wv_next hs hi i1, wv_next g hi i1, h1, h2, HI.out.1, HI.out.2]
        constructor <;> omega)
      rw [HG.out] at NX
      cases hv : hs i.toNat with
      | false =>
        rw [hv] at c1
        have N2 := hide (NX.out (2 * x) (2 * y) (by simp [hv]) (by simp [hv]))
        rw [← HG.out] at N2
        clear hv HI NX c2
        go_wp2_with fail
        refine ⟨⟨2 * x, 2 * y, i - 1, by go_num, by go_num, by go_num, by omega, by omega, by omega, by omega, N2⟩, ?_⟩
        simp [intOf]; omega
      | true =>
        rw [hv] at c1
        cases hu : gn i.toNat with
        | false =>
          rw [hu] at c2
          have N2 := hide (NX.out (2 * x + 1) (2 * y) (by simp [hv]) (by simp [hv, hu]))
          rw [← HG.out] at N2
          clear hv hu HI NX
          go_wp2_with fail
          refine ⟨⟨2 * x + 1, 2 * y, i - 1, by go_num, by go_num, by go_num, by omega, by omega, by omega, by omega, N2⟩, ?_⟩
          simp [intOf]; omega
        | true =>
          rw [hu] at c2
          have N2 := hide (NX.out (2 * x + 1) (2 * y + 1) (by simp [hv]) (by simp [hv, hu]))
          rw [← HG.out] at N2
          clear hv hu HI NX
          go_wp2_with fail
          refine ⟨⟨2 * x + 1, 2 * y + 1, i - 1, by go_num, by go_num, by go_num, by omega, by omega, by omega, by omega, N2⟩, ?_⟩
          simp [intOf]; omega
    · have e1 : i = -1 := by omega
      subst e1
      have F1 := hide (F0.out x y HI.out.1 HI.out.2)
      clear hi HI F0
      go_wp2_with fail
      first | exact F1.out | (refine bodyPost_ret (results_tmp3 Tryz.results32 _ _ _) rfl ?_; exact F1.out)
end Go.Proofs.YtnclicdnncgdiaaGreatDoor

/- Words of 64 bits: rows of set bits among them: no Go in sight. -/
namespace Go.Proofs.Bt
set_option linter.unusedVariables false

/-- n set bits from a place on. -/
def on1 (a n : Nat) : Nat := (2 ^ n - 1) * 2 ^ a
theorem on1_bit (a n k : Nat) : (on1 a n).testBit k = decide (a ≤ k ∧ k < a + n) := by
  unfold on1
  rw [← Nat.shiftLeft_eq, Nat.testBit_shiftLeft, Nat.testBit_two_pow_sub_one, ← Bool.decide_and]
  congr 1
  simp only [eq_iff_iff]
  omega
theorem on1_lt {a n : Nat} (h : a + n ≤ 64) : on1 a n < 18446744073709551616 := lt_of_bits fun k hk => by rw [on1_bit]; exact decide_eq_false (by omega)
theorem on1_full : on1 0 64 = 18446744073709551615 := by decide
/-- All ones, shifted down, then up. -/
theorem ones_down {n : Nat} (h : n ≤ 64) : 18446744073709551615 / 2 ^ (64 - n) = 2 ^ n - 1 := by
  have e : (18446744073709551616 : Nat) = 2 ^ n * 2 ^ (64 - n) := by rw [← Nat.pow_add, show n + (64 - n) = 64 by omega]
  have hp : 0 < 2 ^ (64 - n) := Nat.two_pow_pos _
  have hn : 0 < 2 ^ n := Nat.two_pow_pos _
  rw [Nat.div_eq_iff hp]
  have e2 : (2 ^ n - 1) * 2 ^ (64 - n) = 2 ^ n * 2 ^ (64 - n) - 2 ^ (64 - n) := by rw [Nat.sub_mul, Nat.one_mul]
  have h3 : 2 ^ (64 - n) ≤ 2 ^ n * 2 ^ (64 - n) := Nat.le_mul_of_pos_left _ hn
  rw [e2, ← e]
  rw [← e] at h3
  omega
theorem bit_down (x i k : Nat) : (x / 2 ^ i).testBit k = x.testBit (i + k) := by
  rw [Nat.testBit_div_two_pow, Nat.add_comm]
theorem down_lt {x : Nat} (i : Nat) (h : x < 18446744073709551616) : x / 2 ^ i < 18446744073709551616 := Nat.lt_of_le_of_lt (Nat.div_le_self _ _) h

/-! ### The first row of so many set bits, by halving -/
/-- n bits from a place on are set. -/
def Row (x p n : Nat) : Prop := ∀ k, k < n → x.testBit (p + k) = true
theorem row_half {x p n : Nat} (h : n / 2 ≤ n) (hn : 1 < n) : Row (x &&& (x / 2 ^ (n / 2))) p (n - n / 2) ↔ Row x p n := by
  constructor
  · intro h1 k hk
    by_cases z : k < n - n / 2
    · have := h1 k z
      rw [Nat.testBit_and, Bool.and_eq_true] at this
      exact this.1
    · have := h1 (k - n / 2) (by omega)
      rw [Nat.testBit_and, Bool.and_eq_true, bit_down] at this
      rw [← this.2]
      congr 1
      omega
  · intro h1 k hk
    rw [Nat.testBit_and, bit_down, h1 k (by omega), show n / 2 + (p + k) = p + (n / 2 + k) by omega, h1 _ (by omega)]
    rfl
theorem row_one {x p : Nat} : Row x p 1 ↔ x.testBit p = true := ⟨fun h => h 0 (by omega), fun h k hk => by rw [show p + k = p by omega]; exact h⟩
theorem row_lt {x p n : Nat} (hx : x < 18446744073709551616) (hn : 1 ≤ n) (h : Row x p n) : p + n ≤ 64 := by
  rcases Nat.lt_or_ge 64 (p + n) with y | y
  · have := h (n - 1) (by omega)
    rw [bit_high hx (by omega)] at this
    cases this
  · exact y
theorem zero_of_bits {x : Nat} (h : ∀ k, x.testBit k = false) : x = 0 := Nat.eq_of_testBit_eq fun k => by rw [h k, Nat.zero_testBit]
theorem bit_of_ne {x : Nat} (h : x ≠ 0) : ∃ k, x.testBit k = true := by
  apply Classical.byContradiction
  intro z
  apply h
  apply zero_of_bits
  intro k
  cases hk : x.testBit k with
  | false => rfl
  | true => exact absurd ⟨k, hk⟩ z

/-! ### The rows of set bits, one by one -/
/-- The first row of set bits: where it begins, how long it is. -/
def at1 (x : Nat) : Nat := Lib.ctz 64 x
def len1 (x : Nat) : Nat := Lib.ctz 64 (inv (x / 2 ^ at1 x))
theorem ctz_zero : Lib.ctz 64 0 = 64 := by unfold Lib.ctz; rfl
theorem row1 {x : Nat} (h0 : x ≠ 0) (hx : x < 18446744073709551616) : at1 x < 64 ∧ 1 ≤ len1 x ∧ at1 x + len1 x ≤ 64 ∧ Row x (at1 x) (len1 x) ∧ ∀ k, k < at1 x → x.testBit k = false := by
  obtain ⟨h1, h2, h3⟩ := ctz_bit h0 hx
  have ea : at1 x = Lib.ctz 64 x := rfl
  rw [← ea] at h1 h2 h3
  have hd := down_lt (at1 x) hx
  have b0 : ∀ k, k < 64 → (inv (x / 2 ^ at1 x)).testBit k = !x.testBit (at1 x + k) := fun k hk => by rw [inv_bit hd hk, bit_down]
  unfold len1
  by_cases z : inv (x / 2 ^ at1 x) = 0
  · rw [z, ctz_zero]
    have all : ∀ k, k < 64 → x.testBit (at1 x + k) = true := fun k hk => by
      have := b0 k hk
      rw [z, Nat.zero_testBit] at this
      cases h : x.testBit (at1 x + k) with
      | true => rfl
      | false => rw [h] at this; cases this
    have : at1 x = 0 := by
      rcases Nat.eq_zero_or_pos (at1 x) with y | y
      · exact y
      · have := all 63 (by omega)
        rw [bit_high hx (by omega)] at this
        cases this
    exact ⟨h1, by omega, by omega, all, h3⟩
  · obtain ⟨c1, c2, c3⟩ := ctz_bit z (inv_lt _)
    generalize Lib.ctz 64 (inv (x / 2 ^ at1 x)) = n at *
    have r : Row x (at1 x) n := fun k hk => by
      have h := c3 k hk
      rw [b0 k (by omega)] at h
      simpa using h
    have n1 : 1 ≤ n := by
      rcases Nat.eq_zero_or_pos n with y | y
      · rw [y, b0 0 (by omega), Nat.add_zero, h2] at c2
        cases c2
      · exact y
    exact ⟨h1, n1, row_lt hx n1 r, r, h3⟩
/-- What is left behind it. -/
def nx1 (x : Nat) : Nat := andn x (on1 (at1 x) (len1 x))
theorem nx1_bit (x k : Nat) : (nx1 x).testBit k = (x.testBit k && !decide (at1 x ≤ k ∧ k < at1 x + len1 x)) := by unfold nx1; rw [andn_bit, on1_bit]
theorem nx1_lt {x : Nat} (h : x < 18446744073709551616) : nx1 x < 18446744073709551616 := andn_lt _ h
theorem nx1_less {x : Nat} (h0 : x ≠ 0) (hx : x < 18446744073709551616) : nx1 x < x := by
  obtain ⟨h1, h2, h3, h4, h5⟩ := row1 h0 hx
  have e : x &&& nx1 x = nx1 x := Nat.eq_of_testBit_eq fun k => by rw [Nat.testBit_and, nx1_bit]; cases x.testBit k <;> rfl
  have l : nx1 x ≤ x := by rw [← e]; exact Nat.and_le_left
  refine Nat.lt_of_le_of_ne l fun z => ?_
  have b := h4 0 (by omega)
  have c : (nx1 x).testBit (at1 x + 0) = false := by rw [nx1_bit, decide_eq_true (by omega)]; simp
  rw [z, b] at c
  cases c
/-- What is left behind so many rows. -/
def lft (x : Nat) : Nat → Nat
  | 0 => x
  | k + 1 => nx1 (lft x k)
theorem lft_lt {x : Nat} (h : x < 18446744073709551616) : ∀ k, lft x k < 18446744073709551616
  | 0 => h
  | k + 1 => nx1_lt (lft_lt h k)
theorem lft_low {x : Nat} (h : x < 18446744073709551616) : ∀ k j, j < k → (lft x k).testBit j = false := by
  intro k
  induction k with
  | zero => intro j hj; omega
  | succ k ih =>
    intro j hj
    show (nx1 (lft x k)).testBit j = false
    rw [nx1_bit]
    by_cases z : lft x k = 0
    · rw [z, Nat.zero_testBit]; rfl
    · obtain ⟨h1, h2, h3, h4, h5⟩ := row1 z (lft_lt h k)
      have hk : k ≤ at1 (lft x k) := by
        rcases Nat.lt_or_ge (at1 (lft x k)) k with y | y
        · have := h4 0 (by omega)
          rw [Nat.add_zero, ih _ y] at this
          cases this
        · exact y
      by_cases y : j < at1 (lft x k)
      · rw [h5 j y]; rfl
      · rw [decide_eq_true (by omega)]; simp
theorem lft_end {x : Nat} (h : x < 18446744073709551616) : lft x 64 = 0 := zero_of_bits fun k => by
  by_cases z : k < 64
  · exact lft_low h 64 k z
  · exact bit_high (lft_lt h 64) (by omega)
theorem least_of (P : Nat → Prop) : ∀ m, P m → ∃ N, N ≤ m ∧ P N ∧ ∀ k, k < N → ¬ P k := by
  intro m
  induction m with
  | zero => intro h; exact ⟨0, Nat.le_refl _, h, fun k hk => by omega⟩
  | succ m ih =>
    intro h
    by_cases z : ∃ k, k ≤ m ∧ P k
    · obtain ⟨k, hk, hp⟩ := z
      -- the least of those up to m
      have : ∀ n, n ≤ m → P n → ∃ N, N ≤ n ∧ P N ∧ ∀ k, k < N → ¬ P k := by
        intro n
        induction n using Nat.strongRecOn with
        | _ n ihn =>
          intro hn hp
          by_cases y : ∃ j, j < n ∧ P j
          · obtain ⟨j, hj, hpj⟩ := y
            obtain ⟨N, h1, h2, h3⟩ := ihn j hj (by omega) hpj
            exact ⟨N, by omega, h2, h3⟩
          · exact ⟨n, Nat.le_refl _, hp, fun k hk hpk => y ⟨k, hk, hpk⟩⟩
      obtain ⟨N, h1, h2, h3⟩ := this k hk hp
      exact ⟨N, by omega, h2, h3⟩
    · exact ⟨m + 1, Nat.le_refl _, h, fun k hk hp => z ⟨k, by omega, hp⟩⟩
/-- How many rows there are. -/
theorem rows_many {x : Nat} (h : x < 18446744073709551616) : ∃ N, N ≤ 64 ∧ lft x N = 0 ∧ ∀ k, k < N → lft x k ≠ 0 := least_of (fun k => lft x k = 0) 64 (lft_end h)

/-! ### Words of truths -/
/-- The first i truths as a word. -/
def wd (f : Nat → Bool) : Nat → Nat
  | 0 => 0
  | i + 1 => wd f i ||| (if f i then on1 i 1 else 0)
theorem wd_bit (f : Nat → Bool) (i k : Nat) : (wd f i).testBit k = (decide (k < i) && f k) := by
  induction i with
  | zero => simp [wd]
  | succ i ih =>
    rw [wd, Nat.testBit_or, ih]
    by_cases e : k = i
    · subst e
      rw [decide_eq_false (by omega), decide_eq_true (by omega)]
      cases f k with
      | true => rw [if_pos rfl, on1_bit, decide_eq_true (by omega)]; rfl
      | false => simp
    · have h1 : (if f i = true then on1 i 1 else 0).testBit k = false := by
        split
        · rw [on1_bit]; exact decide_eq_false (by omega)
        · exact Nat.zero_testBit _
      rw [h1, Bool.or_false]
      congr 1
      rw [decide_eq_decide]
      omega
theorem wd_lt (f : Nat → Bool) {i : Nat} (h : i ≤ 64) : wd f i < 18446744073709551616 := lt_of_bits fun k hk => by rw [wd_bit, decide_eq_false (by omega)]; rfl
theorem wd_of {f : Nat → Bool} {x : Nat} (hx : x < 18446744073709551616) (h : ∀ k, k < 64 → x.testBit k = f k) : x = wd f 64 :=
  eq_of_bits hx (wd_lt f (Nat.le_refl _)) fun k hk => by rw [h k hk, wd_bit, decide_eq_true hk]; rfl
end Go.Proofs.Bt

/- Package pcache: words: ones, find: contracts. -/
namespace Go.Proofs.YtnclicdnncgdiaaGreatDoor
open Go.ChangeShapes Go.WideShapes Go.ChangeAt Go.RowKit Go.Proofs.Bt
set_option linter.unusedVariables false
set_option linter.unusedSimpArgs false

theorem tz_zero (w : World) : Calls Tryz.prog 84 #[.int .u64 0] w fun e w' => e = .returned (.int .i64 64) ∧ w' = w := by
  go_enter Tryz.func84, Tryz.ntmps84
  go_wp2
  go_ret
  exact ⟨rfl, rfl⟩
theorem tz_all (x : Nat) (hx : x < 18446744073709551616) (w : World) (hT : TabW w) :
    Calls Tryz.prog 84 #[.int .u64 x] w fun e w' => e = .returned (.int .i64 (Lib.ctz 64 x : Nat)) ∧ w' = w := by
  by_cases z : x = 0
  · subst z
    rw [ctz_zero]
    exact tz_zero w
  · exact tz_any x z hx w hT
theorem ctz_le (x : Nat) (hx : x < 18446744073709551616) : Lib.ctz 64 x ≤ 64 := by
  by_cases z : x = 0
  · rw [z, ctz_zero]; exact Nat.le_refl _
  · have := (ctz_bit z hx).1
    omega
theorem mask_wrap (a n : Nat) (h : a + n ≤ 64) : IntKind.u64.wrap ((18446744073709551615 : Int) / 2 ^ (64 - n) * 2 ^ a) = ((on1 a n : Nat) : Int) := by
  have e1 : ((18446744073709551615 : Int) / 2 ^ (64 - n) * 2 ^ a) = ((18446744073709551615 / 2 ^ (64 - n) * 2 ^ a : Nat) : Int) := by simp
  rw [e1, ones_down (by omega)]
  have hb := on1_lt h
  unfold on1 at hb ⊢
  rw [IntKind.wrap_u64]
  generalize (2 ^ n - 1) * 2 ^ a = x at *
  omega
theorem mask_any (a n : Int) (a0 : 0 ≤ a) (n1 : 1 ≤ n) (h : a + n ≤ 64) (w : World) :
    Calls Tryz.prog 51 #[.int .i64 a, .int .i64 n] w fun e w' => e = .returned (.int .u64 (on1 a.toNat n.toNat : Nat)) ∧ w' = w := by
  have e := mask_wrap a.toNat n.toNat (by omega)
  rw [show 64 - n.toNat = (64 - n).toNat by omega] at e
  have HE := hide e
  clear e
  go_enter Tryz.func51, Tryz.ntmps51
  go_wp2_with fail
  go_ret
  rw [HE.out]
  exact ⟨rfl, rfl⟩
/-- A word in which a bit is set where so many bits of another begin. -/
def Fnd (x n y : Nat) : Prop := y < 18446744073709551616 ∧ ∀ p, Row y p 1 ↔ Row x p n
set_option maxRecDepth 100000 in
theorem find64_any (x : Nat) (hx : x < 18446744073709551616) (n : Int) (n1 : 1 ≤ n) (n2 : n ≤ 64) (w : World) (hT : TabW w) :
    Calls Tryz.prog 50 #[.int .u64 (x : Nat), .int .i64 n] w fun e w' => (∃ y, Fnd x n.toNat y ∧ e = .returned (.tuple #[.int .i64 (Lib.ctz 64 y : Nat), .bool (decide (y ≠ 0))])) ∧ w' = w := by
  obtain ⟨R, hR⟩ : ∃ R : Ending → World → Prop, R = fun e w' => (∃ y, Fnd x n.toNat y ∧ e = .returned (.tuple #[.int .i64 (Lib.ctz 64 y : Nat), .bool (decide (y ≠ 0))])) ∧ w' = w := ⟨_, rfl⟩
  rw [← hR]
  have HR := hide hR
  have HT := hide hT
  clear hR hT
  go_enter Tryz.func50, Tryz.ntmps50
  go_wp2_with fail
  go_loop [0, 1] (fun xv nv => ∃ (X : Nat) (m : Int), xv = .int .u64 (X : Nat) ∧ nv = .int .i64 m ∧ 1 ≤ m ∧ m ≤ 64 ∧ X < 18446744073709551616 ∧ Hid (∀ p, Row X p m.toNat ↔ Row x p n.toNat)) (fun _ nv => (intOf nv).toNat)
  case atStart => exact ⟨x, n, rfl, rfl, n1, n2, hx, hide (fun _ => Iff.rfl)⟩
  case round =>
    obtain ⟨X, m, rfl, rfl, m1, m2, hX, HI⟩ := hrel
    by_cases hm : 1 < m
    · have HH := hide (show ∀ p, Row (X &&& (X / 2 ^ (m / 2).toNat)) p (m - m / 2).toNat ↔ Row x p n.toNat from fun p => by
        rw [← HI.out p, show (m / 2).toNat = m.toNat / 2 by omega, show (m - m / 2).toNat = m.toNat - m.toNat / 2 by omega]
        exact row_half (by omega) (by omega))
      have HE := hide (show bits .and .u64 (X : Int) ((X : Int) / 2 ^ (m / 2).toNat) = ((X &&& (X / 2 ^ (m / 2).toNat) : Nat) : Int) from by
        have e1 : ((X : Int) / 2 ^ (m / 2).toNat) = ((X / 2 ^ (m / 2).toNat : Nat) : Int) := by simp
        rw [e1]
        exact w_and _ _ hX (down_lt _ hX))
      clear HI
      go_wp2_with fail
      refine ⟨⟨_, m - m / 2, by rw [HE.out], by go_num, by omega, by omega, and_lt _ hX, HH⟩, ?_⟩
      simp [intOf]; omega
    · obtain rfl : m = 1 := by omega
      have F := hide (show R (.returned (.tuple #[.int .i64 (Lib.ctz 64 X : Nat), .bool (decide (X ≠ 0))])) w from by
        rw [HR.out]
        exact ⟨⟨X, ⟨hX, HI.out⟩, rfl⟩, rfl⟩)
      have CT := hide (tz_all X hX w HT.out)
      generalize (Lib.ctz 64 X : Int) = z at F CT
      have dz : ((X : Int) != 0) = decide (X ≠ 0) := by
        rw [Bool.eq_iff_iff]; simp [bne_iff_ne]
      generalize decide (X ≠ 0) = q at F dz
      clear HI hm HR
      go_wp2_with fail
      refine CT.out.mono ?_
      rintro e w1 ⟨rfl, hw⟩
      rw [hw]
      clear hw CT
      go_wp2_with fail
      first | exact F.out | (refine bodyPost_ret (results_tmp2 Tryz.results50 _ _) rfl ?_; exact F.out)
end Go.Proofs.YtnclicdnncgdiaaGreatDoor
/- Package pcache: the rows of a word, one by one: the iterator's contract. -/
namespace Go.Proofs.YtnclicdnncgdiaaGreatDoor
open Go.ChangeShapes Go.WideShapes Go.ChangeAt Go.RowKit Go.Proofs.Bt Go.Shelf Go.Proofs.Rx Go.Maps
set_option linter.unusedVariables false
set_option linter.unusedSimpArgs false

attribute [local go_sem] Oper.semAt_some

/-- What the iterator reads. -/
structure RdW (B0 x : Nat) (w : World) : Prop where
  c : w.heap[B0]? = some (.cells #[.int .u64 (x : Nat)] 22 (0, 0))
  tab : TabW w
theorem wrows_any (x : Nat) (w : World) :
    Calls Tryz.prog 46 #[.int .u64 (x : Nat)] w fun e w' => e = .returned (.func (.func 83) #[] #[.pointer (some ⟨w.heap.size, 0, none⟩)]) ∧ w' = w.alloc (.cells #[.int .u64 (x : Nat)] 22) := by
  go_enter Tryz.func46, Tryz.ntmps46
  go_wp2_with fail
  go_ret
  exact ⟨rfl, rfl⟩
theorem inv_xor (x : Nat) (hx : x < 18446744073709551616) : bits .xor .u64 IntKind.u64.max (x : Int) = ((inv x : Nat) : Int) := by
  rw [show IntKind.u64.max = ((18446744073709551615 : Nat) : Int) by decide, u64_xor_nat _ _ (by decide) hx]
  congr 1
  refine eq_of_bits (lt_of_bits fun k hk => ?_) (inv_lt _) fun k hk => ?_
  · rw [Nat.testBit_xor, bit_high hx hk, bit_high (by decide) hk]; rfl
  · rw [Nat.testBit_xor, inv_bit hx hk, show (18446744073709551615 : Nat) = 2 ^ 64 - 1 by decide, Nat.testBit_two_pow_sub_one, decide_eq_true hk]
    cases x.testBit k <;> rfl
def encsW (x k : Nat) : Array Value := #[.int .u64 (at1 (lft x k) : Nat), .int .u64 (len1 (lft x k) : Nat)]
set_option maxRecDepth 100000 in
set_option maxHeartbeats 1000000 in
theorem word_seq (B0 x N : Nat) (hx : x < 18446744073709551616) (hN : lft x N = 0) (hk : ∀ k, k < N → lft x k ≠ 0) (n : Nat) :
    SeqB n Tryz.prog 83 #[.pointer (some ⟨B0, 0, none⟩)] (encsW x) (RdW B0 x) (List.range N) := by
  intro l J Jx W hR hJ hY h0
  have rd : ∀ j A, J (List.range j) A → Hid (A.cell? ⟨B0, 0, none⟩ = some (.int .u64 (x : Nat)) ∧ TabW A) := fun j A h => by
    have r := hR _ _ h
    exact hide ⟨by simp [World.cell?, r.c], r.tab⟩
  have HJ := hide hJ
  have HY := hide hY
  have H0 := hide h0
  have HK := hide hk
  have HN := hide hN
  have HX := hide hx
  clear hR hJ hY h0 hk hN hx
  refine callsIn_of_wp Tryz.func83 rfl trivial ?_ rfl
  simp only [Tryz.ntmps83, List.size_toArray, List.length_cons, List.length_nil, Nat.reduceAdd, Nat.reduceSub, Array.replicate_succ, Array.replicate_zero, List.push_toArray, List.append_toArray, List.nil_append, List.cons_append]
  obtain ⟨r0', -⟩ := (rd 0 _ H0.out).out
  gi_wp2_with fail
  gi_loopw [3] (fun xv wr => ∃ (X : Nat) (j : Nat), xv = .int .u64 (X : Nat) ∧ j ≤ N ∧ X < 18446744073709551616 ∧ Hid (X = lft x j) ∧ Hid (J (List.range j) wr)) (fun xv _ => (intOf xv).toNat)
  case atStart => exact ⟨x, 0, rfl, by omega, HX.out, hide rfl, H0⟩
  case round =>
    obtain ⟨X, j, rfl, hj, hX, HE, HJJ⟩ := hrel
    have HT := hide (rd j _ HJJ.out).out.2
    clear rd r0'
    by_cases hlt : j < N
    · have x0 := HK.out j hlt
      rw [← HE.out] at x0
      have dz : ((X : Int) != 0) = true := by simpa using x0
      obtain ⟨a1, a2, a3, a4, -⟩ := row1 x0 hX
      obtain ⟨fn, tmps, assign, body, hy, hRr⟩ := HY.out (List.range j) j _ (range_pre hlt) HJJ.out
      simp only [encsW] at hy
      rw [← HE.out] at hy
      have HRR := hide hRr
      have C1 := hide (tz_all X hX wr HT.out)
      have C2 := hide (tz_all (inv (X / 2 ^ at1 X)) (inv_lt _) wr HT.out)
      rw [show Lib.ctz 64 X = at1 X from rfl] at C1
      rw [show Lib.ctz 64 (inv (X / 2 ^ at1 X)) = len1 X from rfl] at C2
      rw [← inv_xor _ (down_lt _ hX)] at C2
      obtain ⟨a, ha⟩ : ∃ a : Nat, at1 X = a := ⟨_, rfl⟩
      obtain ⟨m, hm⟩ : ∃ m : Nat, len1 X = m := ⟨_, rfl⟩
      rw [hm, ha, show (((X / 2 ^ a : Nat)) : Int) = (X : Int) / 2 ^ a by simp] at C2
      generalize hY : bits .xor .u64 IntKind.u64.max ((X : Int) / 2 ^ a) = Y at C2
      have C3 := fun Z => hide (mask_any (a : Int) (m : Int) (by omega) (by omega) (by omega) Z)
      have NX := hide (show andn X (on1 a m) = nx1 X from by rw [← ha, ← hm]; rfl)
      rw [ha] at C1 a1 a3 hy
      rw [hm] at a2 a3 hy
      clear hRr HT
      gi_wp2_with fail
      refine wcall C1.out ?_
      rintro e w1 ⟨rfl, hw1⟩
      rw [hw1]
      clear hw1
      gi_wp2_with fail
      refine wcall C2.out ?_
      rintro e w1 ⟨rfl, hw1⟩
      rw [hw1]
      clear hw1 C1 C2 hY
      gi_wp2_with fail
      refine ⟨(fun h => by cases h), HRR.out.mono ?_⟩
      clear HRR hy
      rintro e' w4 (⟨rfl, j4⟩ | ⟨rfl, jx4⟩)
      · have X4 := hide j4
        rw [← List.range_succ] at X4
        clear j4
        gi_wp2_with fail
        refine wcall (C3 _).out ?_
        rintro e w5 ⟨rfl, hw5⟩
        rw [hw5]
        clear hw5 C3
        gi_wp2_with fail
        refine ⟨⟨nx1 X, j + 1, ?_, by omega, nx1_lt hX, hide (by rw [HE.out]; rfl), X4⟩, ?_⟩
        · rw [w_andNot _ _ hX (on1_lt (by omega)), NX.out]
        · have := nx1_less x0 hX
          rw [w_andNot _ _ hX (on1_lt (by omega)), NX.out]
          simp [intOf]; omega
      · have X4 := hide jx4
        clear jx4 C3
        gi_wp2_with fail
        refine bodyPost_ret (results_none rfl _ _ _) rfl ?_
        exact ⟨⟨_, rfl⟩, .inr ⟨_, _, range_pre hlt, X4.out⟩⟩
    · obtain rfl : j = N := by omega
      have x0 : X = 0 := by rw [HE.out, HN.out]
      have dz : ((X : Int) != 0) = false := by rw [x0]; rfl
      clear HE x0
      gi_wp2_with fail
      go_end0
      exact ⟨⟨_, rfl⟩, .inl HJJ.out⟩
end Go.Proofs.YtnclicdnncgdiaaGreatDoor
/- Package pcache: how a cache lies; New, Empty, Tell, Alloc: contracts. -/
namespace Go.Proofs.YtnclicdnncgdiaaGreatDoor
open Go.ChangeShapes Go.WideShapes Go.ChangeAt Go.RowKit Go.Proofs.Bt Go.Shelf Go.Proofs.Rx Go.Maps
set_option linter.unusedVariables false
set_option linter.unusedSimpArgs false

/-- A cache in a block: the block's first page, a word of the pages that it has, one of those that are released. -/
structure CcAt (W : World) (b B H G : Nat) : Prop where
  c0 : W.cell? ⟨b, 0, none⟩ = some (.int .u64 (B : Nat))
  c1 : W.cell? ⟨b, 1, none⟩ = some (.int .u64 (H : Nat))
  c2 : W.cell? ⟨b, 2, none⟩ = some (.int .u64 (G : Nat))
  fz : ∀ k, W.frozen? ⟨b, k, none⟩ = false
  h : H < 18446744073709551616
  g : G < 18446744073709551616
section
variable {W W' : World} {b B H G : Nat}
theorem CcAt.block (h : CcAt W b B H G) (e : W'.heap[b]? = W.heap[b]?) : CcAt W' b B H G := ⟨(cell_block e _).trans h.c0, (cell_block e _).trans h.c1, (cell_block e _).trans h.c2, fun k => (fz_block e).trans (h.fz k), h.h, h.g⟩
theorem CcAt.lt (h : CcAt W b B H G) : b < W.heap.size := World.block_lt_of_cell? W ⟨b, 0, none⟩ h.c0
theorem CcAt.kept {F : Nat → Prop} (h : CcAt W b B H G) (k : Kept F W W') (hF : ¬ F b) : CcAt W' b B H G := h.block (k.block b h.lt hF)
theorem CcAt.below (h : CcAt W b B H G) (k : Below W.heap.size W W') : CcAt W' b B H G := h.block (k.block b h.lt)
theorem CcAt.drew (h : CcAt W b B H G) (j : Nat) : CcAt (W.drewN j) b B H G := h.block rfl
theorem off_ne {b i j : Nat} (h : i ≠ j) : (⟨b, i, none⟩ : Addr) ≠ ⟨b, j, none⟩ := fun z => h (congrArg Addr.off z)
theorem CcAt.set0 (h : CcAt W b B H G) (x : Nat) : CcAt (W.setCell ⟨b, 0, none⟩ (.int .u64 (x : Nat))) b x H G :=
  ⟨World.cell?_setCell_same _ _ _ h.c0, by rw [World.cell?_setCell_other _ _ _ _ (by simp)]; exact h.c1, by rw [World.cell?_setCell_other _ _ _ _ (by simp)]; exact h.c2, fun k => by rw [World.frozen?_setCell]; exact h.fz k, h.h, h.g⟩
theorem CcAt.set1 (h : CcAt W b B H G) (x : Nat) (hx : x < 18446744073709551616) : CcAt (W.setCell ⟨b, 1, none⟩ (.int .u64 (x : Nat))) b B x G :=
  ⟨by rw [World.cell?_setCell_other _ _ _ _ (by simp)]; exact h.c0, World.cell?_setCell_same _ _ _ h.c1, by rw [World.cell?_setCell_other _ _ _ _ (by simp)]; exact h.c2, fun k => by rw [World.frozen?_setCell]; exact h.fz k, hx, h.g⟩
theorem CcAt.set2 (h : CcAt W b B H G) (x : Nat) (hx : x < 18446744073709551616) : CcAt (W.setCell ⟨b, 2, none⟩ (.int .u64 (x : Nat))) b B H x :=
  ⟨by rw [World.cell?_setCell_other _ _ _ _ (by simp)]; exact h.c0, by rw [World.cell?_setCell_other _ _ _ _ (by simp)]; exact h.c1, World.cell?_setCell_same _ _ _ h.c2, fun k => by rw [World.frozen?_setCell]; exact h.fz k, h.h, hx⟩
end
theorem ccNew (w : World) : Calls Tryz.prog 5 #[] w fun e w' => e = .returned (.pointer (some ⟨w.heap.size, 0, none⟩)) ∧ w' = w.alloc (.cells #[.int .u64 0, .int .u64 0, .int .u64 0] 54) := by
  go_enter Tryz.func5, Tryz.ntmps5
  go_wp2_with fail
  go_ret
  exact ⟨rfl, rfl⟩
theorem CcAt.new {w W : World} {b : Nat} (hW : W = w.alloc (.cells #[.int .u64 0, .int .u64 0, .int .u64 0] 54)) (hb : b = w.heap.size) : CcAt W b 0 0 0 := by
  have f : W.heap[b]? = some (.cells #[.int .u64 0, .int .u64 0, .int .u64 0] 54 (0, 0)) := by rw [hW, hb]; exact World.alloc_heap_new w _
  exact ⟨by simp [World.cell?, f], by simp [World.cell?, f], by simp [World.cell?, f], fun k => by simp [World.frozen?, f], by decide, by decide⟩
theorem ccEmpty {W : World} {b B H G : Nat} (h : CcAt W b B H G) :
    Calls Tryz.prog 33 #[.pointer (some ⟨b, 0, none⟩)] W fun e w' => e = .returned (.bool (decide (H = 0))) ∧ w' = W := by
  have c1 := h.c1
  have dz : ((H : Int) == 0) = decide (H = 0) := by rw [Bool.eq_iff_iff]; simp
  have HE := hide dz
  obtain ⟨q, hq⟩ : ∃ q, decide (H = 0) = q := ⟨_, rfl⟩
  rw [hq] at dz ⊢
  clear h hq HE
  go_enter Tryz.func33, Tryz.ntmps33
  go_wp2_with fail
  first | exact ⟨rfl, rfl⟩ | (go_ret; exact ⟨rfl, rfl⟩)
/-- What Tell answers. -/
def tellV (B H G : Nat) : Value := if H = 0 then .tuple #[.int .u64 0, .int .u64 0, .int .u64 0] else .tuple #[.int .u64 (B : Nat), .int .u64 (H : Nat), .int .u64 (G : Nat)]
set_option maxRecDepth 100000 in
theorem ccTell {W : World} {b B H G : Nat} (h : CcAt W b B H G) :
    Calls Tryz.prog 31 #[.pointer (some ⟨b, 0, none⟩)] W fun e w' => e = .returned (tellV B H G) ∧ ∃ j, w' = W.drewN j := by
  obtain ⟨R, hR⟩ : ∃ R : Ending → World → Prop, R = fun e w' => e = .returned (tellV B H G) ∧ ∃ j, w' = W.drewN j := ⟨_, rfl⟩
  rw [← hR]
  have CE := hide (ccEmpty h)
  have c0 := h.c0
  have c1 := h.c1
  have c2 := h.c2
  by_cases z : H = 0
  · have F0 := hide (show R (.returned (.tuple #[.int .u64 0, .int .u64 0, .int .u64 0])) W from by rw [hR]; unfold tellV; rw [if_pos z]; exact ⟨rfl, 0, rfl⟩)
    rw [decide_eq_true z] at CE
    clear hR h z
    go_enter Tryz.func31, Tryz.ntmps31
    go_wp2_with fail
    refine CE.out.mono ?_
    rintro e w1 ⟨rfl, hw⟩
    rw [hw]
    clear hw w1 CE
    go_wp2_with fail
    first | exact F0.out | (refine bodyPost_ret (results_tmp3 Tryz.results31 _ _ _) rfl ?_; exact F0.out)
  · have F0 := hide (show ∀ j, R (.returned (.tuple #[.int .u64 (B : Nat), .int .u64 (H : Nat), .int .u64 (G : Nat)])) (W.drewN j) from fun j => by rw [hR]; unfold tellV; rw [if_neg z]; exact ⟨rfl, j, rfl⟩)
    have F1 := F0.out 0
    rw [show W.drewN 0 = W from rfl] at F1
    have F1 := hide F1
    rw [decide_eq_false z] at CE
    clear hR h z
    go_enter Tryz.func31, Tryz.ntmps31
    go_wp2_with fail
    refine CE.out.mono ?_
    rintro e w1 ⟨rfl, hw⟩
    rw [hw]
    clear hw w1 CE
    go_wp2_with fail
    first | exact F1.out | (refine bodyPost_ret (results_tmp3 Tryz.results31 _ _ _) rfl ?_; exact F1.out) | (go_quiet (fail); go_wp2_with fail; first | exact F0.out _ | (refine bodyPost_ret (results_tmp3 Tryz.results31 _ _ _) rfl ?_; exact F0.out _))
/-- What Alloc answers and leaves. -/
def CcAl (W : World) (b B H G : Nat) (n : Int) (e : Ending) (W' : World) : Prop :=
  (¬ (1 ≤ n ∧ n ≤ 64) ∧ e = .returned (.tuple #[.int .u64 0, .int .i64 0, .int .i64 1]) ∧ W' = W) ∨
  ((1 ≤ n ∧ n ≤ 64) ∧ (∀ p, ¬ Row H p n.toNat) ∧ e = .returned (.tuple #[.int .u64 0, .int .i64 0, .int .i64 30]) ∧ W' = W) ∨
  ((1 ≤ n ∧ n ≤ 64) ∧ ∃ a : Nat, Row H a n.toNat ∧ (∀ p, p < a → ¬ Row H p n.toNat) ∧ a + n.toNat ≤ 64 ∧ e = .returned (.tuple #[.int .u64 ((B + a : Nat) : Int), .int .i64 (cnt G.testBit a n.toNat : Nat), .int .i64 0]) ∧ CcAt W' b B (andn H (on1 a n.toNat)) (andn G (on1 a n.toNat)) ∧ Kept (fun x => x = b) W W')
theorem cnt_mask {G a n : Nat} (hG : G < 18446744073709551616) (h : a + n ≤ 64) : pc (G &&& on1 a n) = cnt G.testBit a n := by
  rw [pc_cnt 64 _ (and_lt _ hG), show 64 = a + (n + (64 - a - n)) by omega, cnt_add, cnt_add, cnt_none (i := 0) (n := a), cnt_none (i := 0 + a + n), cnt_congr (g := G.testBit) (j := a)]
  · omega
  · intro k hk; rw [show 0 + a + k = a + k by omega, Nat.testBit_and, on1_bit, decide_eq_true (by omega), Bool.and_true]
  · intro k hk; rw [Nat.testBit_and, on1_bit, decide_eq_false (by omega), Bool.and_false]
  · intro k hk; rw [Nat.testBit_and, on1_bit, decide_eq_false (by omega), Bool.and_false]
set_option maxRecDepth 100000 in
set_option maxHeartbeats 1000000 in
theorem ccAlloc {W : World} {b B H G : Nat} (h : CcAt W b B H G) (hT : TabW W) (hB : B + 64 ≤ 34359738368) (n : Int) :
    Calls Tryz.prog 20 #[.pointer (some ⟨b, 0, none⟩), .int .i64 n] W (CcAl W b B H G n) := by
  obtain ⟨R, hR⟩ : ∃ R, R = CcAl W b B H G n := ⟨_, rfl⟩
  rw [← hR]
  have c0 := h.c0
  have c1 := h.c1
  have c2 := h.c2
  by_cases ok : 1 ≤ n ∧ n ≤ 64
  · obtain ⟨n1, n2⟩ := ok
    have CF := hide (find64_any H h.h n n1 n2 W hT)
    have HR := hide hR
    have HH := hide h
    clear hR h hT
    go_enter Tryz.func20, Tryz.ntmps20
    go_wp2_with fail
    refine CF.out.mono ?_
    rintro e w1 ⟨⟨y, ⟨hy, hf⟩, rfl⟩, hw1⟩
    rw [hw1]
    clear hw1 w1 CF
    by_cases z : y = 0
    · have F0 := hide (show R (.returned (.tuple #[.int .u64 0, .int .i64 0, .int .i64 30])) W from by
        rw [HR.out]
        refine .inr (.inl ⟨⟨n1, n2⟩, fun p hp => ?_, rfl, rfl⟩)
        have := row_one.1 ((hf p).2 hp)
        rw [z, Nat.zero_testBit] at this
        cases this)
      have dz : decide (y ≠ 0) = false := by simp [z]
      generalize (Lib.ctz 64 y : Int) = t
      rw [dz]
      clear z hf hy dz HR
      go_wp2_with fail
      first | exact F0.out | (refine bodyPost_ret (results_tmp3 Tryz.results20 _ _ _) rfl ?_; exact F0.out)
    · obtain ⟨t1, t2, t3⟩ := ctz_bit z hy
      obtain ⟨a, ha⟩ : ∃ a, Lib.ctz 64 y = a := ⟨_, rfl⟩
      rw [ha] at t1 t2 t3 ⊢
      have ra : Row H a n.toNat := (hf a).1 (row_one.2 t2)
      have la := row_lt HH.out.h (by omega) ra
      have dz : decide (y ≠ 0) = true := by simp [z]
      rw [dz]
      have CM := hide (mask_any (a : Int) n (by omega) n1 (by omega) W)
      rw [Int.toNat_natCast] at CM
      obtain ⟨M, hM⟩ : ∃ M : Nat, on1 a n.toNat = M := ⟨_, rfl⟩
      have lM : M < 18446744073709551616 := by rw [← hM]; exact on1_lt la
      have CO := hide (ones_any (G &&& M) (and_lt _ HH.out.g) W)
      have e1 : bits .and .u64 (G : Int) (M : Int) = ((G &&& M : Nat) : Int) := w_and _ _ HH.out.g lM
      have e2 : bits .andNot .u64 (H : Int) (M : Int) = ((andn H M : Nat) : Int) := w_andNot _ _ HH.out.h lM
      have e3 : bits .andNot .u64 (G : Int) (M : Int) = ((andn G M : Nat) : Int) := w_andNot _ _ HH.out.g lM
      rw [← hM, cnt_mask HH.out.g la, hM] at CO
      rw [hM] at CM
      have fz1 := HH.out.fz 1
      have fz2 := HH.out.fz 2
      obtain ⟨c, hc⟩ : ∃ c : Int, (cnt G.testBit a n.toNat : Int) = c := ⟨_, rfl⟩
      obtain ⟨BI, hBI⟩ : ∃ BI : Int, (B : Int) = BI := ⟨_, rfl⟩
      have F0 := hide (show ∀ j X, X = ((W.setCell ⟨b, 1, none⟩ (.int .u64 (andn H M : Nat))).setCell ⟨b, 2, none⟩ (.int .u64 (andn G M : Nat))).drewN j → R (.returned (.tuple #[.int .u64 (BI + (a : Int)), .int .i64 c, .int .i64 0])) X from fun j X hX => by
        rw [HR.out, ← hc, ← hBI]
        have q := ((HH.out.set1 _ (andn_lt M HH.out.h)).set2 _ (andn_lt M HH.out.g)).drew j
        refine .inr (.inr ⟨⟨n1, n2⟩, a, ra, fun p hp hr => ?_, la, rfl, ?_, ?_⟩)
        · have := row_one.1 ((hf p).2 hr)
          rw [t3 p hp] at this
          cases this
        · rw [hX, hM]; exact q
        · rw [hX]
          exact ((kept_set (F := fun x => x = b) W b _ _ rfl).trans (kept_set (F := fun x => x = b) _ b _ _ rfl) (fun _ _ z => z)).trans (Kept.of_below (F := fun x => x = b) ⟨rfl, rfl, rfl, Nat.le_refl _, fun _ _ => rfl⟩) (fun _ _ z => z))
      rw [hc] at CO
      rw [hBI] at c0
      have b0 : 0 ≤ BI := by omega
      have b1 : BI + 64 ≤ 34359738368 := by omega
      clear ha hf t2 t3 ra dz hM hc hBI HR
      go_wp2_with fail
      refine CM.out.mono ?_
      rintro e w1 ⟨rfl, hw1⟩
      rw [hw1]
      clear hw1 w1 CM
      go_wp2_with fail
      refine CO.out.mono ?_
      rintro e w1 ⟨rfl, hw1⟩
      rw [hw1]
      clear hw1 w1 CO
      go_wp2_with fail
      refine bodyPost_ret (results_tmp3 Tryz.results20 _ _ _) rfl ?_
      exact F0.out 0 _ rfl
  · have F0 := hide (show R (.returned (.tuple #[.int .u64 0, .int .i64 0, .int .i64 1])) W from by rw [hR]; exact .inl ⟨ok, rfl, rfl⟩)
    clear hR h c0 c1 c2 hT
    by_cases z : n < 1
    · have d1 : decide (n < 1) = true := decide_eq_true z
      clear ok z
      go_enter Tryz.func20, Tryz.ntmps20
      go_wp2_with fail
      first | exact F0.out | (refine bodyPost_ret (results_tmp3 Tryz.results20 _ _ _) rfl ?_; exact F0.out)
    · have d1 : decide (n < 1) = false := decide_eq_false z
      have d2 : decide (64 < n) = true := decide_eq_true (by omega)
      clear ok z
      go_enter Tryz.func20, Tryz.ntmps20
      go_wp2_with fail
      first | exact F0.out | (refine bodyPost_ret (results_tmp3 Tryz.results20 _ _ _) rfl ?_; exact F0.out)
end Go.Proofs.YtnclicdnncgdiaaGreatDoor
