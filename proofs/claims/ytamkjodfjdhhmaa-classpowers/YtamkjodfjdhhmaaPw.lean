/- ClassPowers, walked. -/
import Derived.Test.YtamkjodfjdhhmaaSl
namespace Go.Proofs.Ytamkjodfjdhhmaa
open Go.ChangeShapes Go.WideShapes Go.ChangeAt Go.RowKit Go.Proofs.Cl Go.Shelf
set_option linter.unusedVariables false
set_option linter.unusedSimpArgs false

theorem powers_table (k : Nat) (h1 : 3 ≤ k) (h2 : k ≤ 15) : (clsOf (2 ^ k)).size = 2 ^ k := by
  have a : ([3, 4, 5, 6, 7, 8, 9, 10, 11, 12, 13, 14, 15].all fun k => (clsOf (2 ^ k)).size == 2 ^ k) = true := by decide +kernel
  have := List.all_eq_true.1 a k (by simp; omega)
  simpa using this
theorem pow_bd (k : Nat) (h1 : 3 ≤ k) (h2 : k ≤ 15) : 8 ≤ 2 ^ k ∧ 2 ^ k ≤ 32768 :=
  ⟨Nat.pow_le_pow_right (n := 2) (by omega) h1, Nat.pow_le_pow_right (n := 2) (by omega) h2⟩
/-- A class's size is its own class. -/
theorem cls_self {c : Cls} (h : c ∈ table) : (clsOf c.size).size = c.size := by
  have a : (table.all fun c => (clsOf c.size).size == c.size) = true := by decide +kernel
  simpa using List.all_eq_true.1 a c h
theorem rnd_ge (n : Nat) : n ≤ rndN n := by
  unfold rndN
  split
  · rename_i h; exact cls_room h
  · omega
theorem rnd_self (n : Nat) : rndN (rndN n) = rndN n := by
  by_cases h : n ≤ 32768
  · have e : rndN n = (clsOf n).size := if_pos h
    have hm := cls_mem h
    rw [e]
    have : (clsOf n).size ≤ 32768 := table_sizes hm
    rw [rndN, if_pos this]
    exact cls_self hm
  · have e : rndN n = (n + 8191) / 8192 * 8192 := if_neg h
    rw [e]
    rw [rndN, if_neg (by omega)]
    omega
theorem rnd_mono {a b : Nat} (h : a ≤ b) : rndN a ≤ rndN b := by
  by_cases hb : b ≤ 32768
  · have ha : a ≤ 32768 := by omega
    have ea : rndN a = (clsOf a).size := if_pos ha
    have eb : rndN b = (clsOf b).size := if_pos hb
    rw [ea, eb]
    -- b's class does for a, so that a's class stands no later
    have hi : idx a ≤ idx b := by
      rcases Nat.lt_or_ge (idx b) (idx a) with c | c
      · have := cls_ahead c (cls_at hb)
        have := cls_room hb
        omega
      · exact c
    have sorted : (List.range 66).all (fun i => decide ((table.getD i zeroC).size ≤ (table.getD (i + 1) zeroC).size)) = true := by decide +kernel
    have step : ∀ i, i < 66 → (table.getD i zeroC).size ≤ (table.getD (i + 1) zeroC).size := fun i hi => by
      have := List.all_eq_true.1 sorted i (by simpa using hi)
      simpa using this
    have mono : ∀ d i, i + d < 67 → (table.getD i zeroC).size ≤ (table.getD (i + d) zeroC).size := by
      intro d
      induction d with
      | zero => intro i _; exact Nat.le_refl _
      | succ d ih => intro i h; exact Nat.le_trans (ih i (by omega)) (step (i + d) (by omega))
    have := mono (idx b - idx a) (idx a) (by have := idx_lt hb; omega)
    rw [show idx a + (idx b - idx a) = idx b by omega] at this
    exact this
  · have eb : rndN b = (b + 8191) / 8192 * 8192 := if_neg hb
    by_cases ha : a ≤ 32768
    · have ea : rndN a = (clsOf a).size := if_pos ha
      have := table_sizes (cls_mem ha)
      rw [ea, eb]; omega
    · have ea : rndN a = (a + 8191) / 8192 * 8192 := if_neg ha
      rw [ea, eb]
      exact Nat.mul_le_mul_right _ (Nat.div_le_div_right (by omega))
theorem rnd_top {n : Nat} (h : n ≤ 1099511627776) : rndN n ≤ 1099511627776 := by
  by_cases hs : n ≤ 32768
  · have e : rndN n = (clsOf n).size := if_pos hs
    have := table_sizes (cls_mem hs)
    omega
  · have e : rndN n = (n + 8191) / 8192 * 8192 := if_neg hs
    omega
set_option maxRecDepth 100000 in
set_option maxHeartbeats 2000000 in
theorem powers_mid (k kn P x y : Nat) (a b lo hi : Nat) (h1 : 3 ≤ k) (h2 : k ≤ 15) (ha : lo ≤ 1099511627776) (hb : hi ≤ 1099511627776) (hab : (lo ≤ hi ∧ a = lo ∧ b = hi) ∨ (lo < hi ∧ a = hi ∧ b = lo)) (hP : wrap64 ((2 : Int) ^ k) = (P : Int)) (hP2 : IntKind.i64.wrap ((2 : Int) ^ k) = (P : Int)) (p1 : 8 ≤ P) (p2 : P ≤ 32768) (k1 : 1 ≤ kn) (k2 : kn ≤ 67) (xa : lo ≤ x) (yb : hi ≤ y) (xy : x ≤ y) (y1 : y ≤ 1099511627776) (w : World)
    (O : ∀ w, Calls Try.prog 14 #[.int .i64 P] w fun e w' => e = .returned (.tuple #[.int .i64 (kn : Int), .int .i64 0]) ∧ Below w.heap.size w w')
    (c : Cls) (hc : (zeroC :: table)[kn]? = some c) (hcs : c.size = P)
    (RL : ∀ w, Calls Try.prog 16 #[.int .u64 lo] w fun e w' => e = .returned (.tuple #[.int .u64 x, .int .i64 0]) ∧ Below w.heap.size w w')
    (RH : ∀ w, Calls Try.prog 16 #[.int .u64 hi] w fun e w' => e = .returned (.tuple #[.int .u64 y, .int .i64 0]) ∧ Below w.heap.size w w')
    (RX : ∀ w, Calls Try.prog 16 #[.int .u64 x] w fun e w' => e = .returned (.tuple #[.int .u64 x, .int .i64 0]) ∧ Below w.heap.size w w') :
    Calls Try.prog 8 #[.int .i64 k, .int .u64 a, .int .u64 b] w fun e w' => e = .returned (.bool true) ∧ Below w.heap.size w w' := by
  have n1 : (3 : Int) ≤ (k : Int) := by omega
  have n2 : (k : Int) ≤ 15 := by omega
  have n3 : (lo : Int) ≤ 1099511627776 := by omega
  have n4 : (hi : Int) ≤ 1099511627776 := by omega
  have n5 : (lo : Int) ≤ (x : Int) := by omega
  have n6 : (hi : Int) ≤ (y : Int) := by omega
  have n7 : (x : Int) ≤ (y : Int) := by omega
  have n8 : (x : Int) ≤ 1099511627776 := by omega
  have q1 : (1 : Int) ≤ (kn : Int) := by omega
  have q2 : (kn : Int) < 68 := by omega
  have OO := hide O
  have HC := hide hc
  have HCS := hide hcs
  have HL := hide RL
  have HH := hide RH
  have HX := hide RX
  clear O hc hcs RL RH RX
  rcases hab with ⟨z, rfl, rfl⟩ | ⟨z, rfl, rfl⟩
  · have n9 : (a : Int) ≤ (b : Int) := by omega
    go_enter Try.func8, Try.ntmps8
    go_wp2_with fail
    refine (OO.out _).mono ?_
    rintro e w0 ⟨rfl, b0⟩
    have B0 := hide b0
    clear OO b0
    go_wp2_with fail
    refine (table_any _).mono ?_
    rintro e w1 ⟨g, cap, rfl, o1, b1⟩
    have L1 := list_at o1 (by rw [List.length_cons, table_len])
    have y0 := (L1 kn c HC.out).1
    rw [HCS.out] at y0
    have B1 := hide (B0.out.trans (b1.mono B0.out.size))
    clear o1 b1 B0 L1
    go_wp2_with fail
    have d1 : decide ((kn : Int) < 1) = false := decide_eq_false (by omega)
    have d2 : decide (68 ≤ (kn : Int)) = false := decide_eq_false (by omega)
    refine still_all (by kernel_rfl) (by kernel_rfl) ?_
    repeat still_step
    refine wpStill_nil ?_
    go_wp2_with fail
    refine (HL.out _).mono ?_
    rintro e w2 ⟨rfl, b2⟩
    have B2 := hide ((B1.out.drew).trans (b2.mono B1.out.size))
    clear HL b2 B1 y0 d1 d2
    go_wp2_with fail
    refine (HH.out _).mono ?_
    rintro e w3 ⟨rfl, b3⟩
    have B3 := hide (B2.out.trans (b3.mono B2.out.size))
    clear HH b3 B2
    go_wp2_with fail
    refine (HX.out _).mono ?_
    rintro e w4 ⟨rfl, b4⟩
    have B4 := hide (B3.out.trans (b4.mono B3.out.size))
    clear HX b4 B3
    go_wp2_with fail
    refine (awake_core _).mono ?_
    rintro e w5 ⟨rfl, b5⟩
    have B5 := hide (B4.out.trans (b5.mono B4.out.size))
    clear b5 B4
    go_wp2_with fail
    go_ret
    exact ⟨rfl, B5.out⟩
  · have n9 : (b : Int) < (a : Int) := by omega
    go_enter Try.func8, Try.ntmps8
    go_wp2_with fail
    refine (OO.out _).mono ?_
    rintro e w0 ⟨rfl, b0⟩
    have B0 := hide b0
    clear OO b0
    go_wp2_with fail
    refine (table_any _).mono ?_
    rintro e w1 ⟨g, cap, rfl, o1, b1⟩
    have L1 := list_at o1 (by rw [List.length_cons, table_len])
    have y0 := (L1 kn c HC.out).1
    rw [HCS.out] at y0
    have B1 := hide (B0.out.trans (b1.mono B0.out.size))
    clear o1 b1 B0 L1
    go_wp2_with fail
    have d1 : decide ((kn : Int) < 1) = false := decide_eq_false (by omega)
    have d2 : decide (68 ≤ (kn : Int)) = false := decide_eq_false (by omega)
    refine still_all (by kernel_rfl) (by kernel_rfl) ?_
    repeat still_step
    refine wpStill_nil ?_
    go_wp2_with fail
    refine (HL.out _).mono ?_
    rintro e w2 ⟨rfl, b2⟩
    have B2 := hide ((B1.out.drew).trans (b2.mono B1.out.size))
    clear HL b2 B1 y0 d1 d2
    go_wp2_with fail
    refine (HH.out _).mono ?_
    rintro e w3 ⟨rfl, b3⟩
    have B3 := hide (B2.out.trans (b3.mono B2.out.size))
    clear HH b3 B2
    go_wp2_with fail
    refine (HX.out _).mono ?_
    rintro e w4 ⟨rfl, b4⟩
    have B4 := hide (B3.out.trans (b4.mono B3.out.size))
    clear HX b4 B3
    go_wp2_with fail
    refine (awake_core _).mono ?_
    rintro e w5 ⟨rfl, b5⟩
    have B5 := hide (B4.out.trans (b5.mono B4.out.size))
    clear b5 B4
    go_wp2_with fail
    go_ret
    exact ⟨rfl, B5.out⟩
set_option maxRecDepth 100000 in
set_option maxHeartbeats 2000000 in
theorem powers_core (k a b : Int) (hk0 : -9223372036854775808 ≤ k) (hk1 : k ≤ 9223372036854775807) (ha0 : 0 ≤ a) (ha1 : a ≤ 18446744073709551615) (hb0 : 0 ≤ b) (hb1 : b ≤ 18446744073709551615) (w : World) :
    Calls Try.prog 8 #[.int .i64 k, .int .u64 a, .int .u64 b] w fun e w' => e = .returned (.bool true) ∧ Below w.heap.size w w' := by
  by_cases h1 : k < 3
  · go_enter Try.func8, Try.ntmps8
    go_wp2_with fail
    go_ret
    exact ⟨rfl, Below.refl _ _⟩
  have g1 : (3 : Int) ≤ k := by omega
  by_cases h2 : 15 < k
  · go_enter Try.func8, Try.ntmps8
    go_wp2_with fail
    go_ret
    exact ⟨rfl, Below.refl _ _⟩
  have g2 : k ≤ 15 := by omega
  by_cases h3 : 1099511627776 < a
  · go_enter Try.func8, Try.ntmps8
    go_wp2_with fail
    go_ret
    exact ⟨rfl, Below.refl _ _⟩
  have g3 : a ≤ 1099511627776 := by omega
  by_cases h4 : 1099511627776 < b
  · go_enter Try.func8, Try.ntmps8
    go_wp2_with fail
    go_ret
    exact ⟨rfl, Below.refl _ _⟩
  obtain ⟨k, rfl⟩ : ∃ n : Nat, k = (n : Int) := ⟨k.toNat, by omega⟩
  obtain ⟨a, rfl⟩ : ∃ n : Nat, a = (n : Int) := ⟨a.toNat, by omega⟩
  obtain ⟨b, rfl⟩ : ∃ n : Nat, b = (n : Int) := ⟨b.toNat, by omega⟩
  obtain ⟨p1, p2⟩ := pow_bd k (by omega) (by omega)
  have hs := powers_table k (by omega) (by omega)
  have hP : wrap64 ((2 : Int) ^ k) = ((2 ^ k : Nat) : Int) := by
    have e : ((2 ^ k : Nat) : Int) = (2 : Int) ^ k := by rw [Int.natCast_pow]; rfl
    rw [← e]; unfold wrap64; omega
  have hP2 : IntKind.i64.wrap ((2 : Int) ^ k) = ((2 ^ k : Nat) : Int) := by
    have e : ((2 ^ k : Nat) : Int) = (2 : Int) ^ k := by rw [Int.natCast_pow]; rfl
    rw [← e]
    unfold IntKind.wrap
    simp only [IntKind.bits, IntKind.signed]
    simp
    split <;> omega
  have O : ∀ w, Calls Try.prog 14 #[.int .i64 ((2 ^ k : Nat) : Int)] w fun e w' => e = .returned (.tuple #[.int .i64 ((idx (2 ^ k) + 1 : Nat) : Int), .int .i64 0]) ∧ Below w.heap.size w w' := fun w => of_ok (2 ^ k) p2 w
  have hl := idx_lt p2
  have hc : (zeroC :: table)[idx (2 ^ k) + 1]? = some (clsOf (2 ^ k)) := by simpa using cls_at p2
  rcases Nat.le_total a b with z | z
  · exact powers_mid k (idx (2 ^ k) + 1) (2 ^ k) (rndN a) (rndN b) a b a b (by omega) (by omega) (by omega) (by omega) (.inl ⟨z, rfl, rfl⟩) hP hP2 p1 p2 (by omega) (by omega) (rnd_ge a) (rnd_ge b) (rnd_mono z) (rnd_top (by omega)) w O _ hc hs (fun w => round_ok a (by omega) w) (fun w => round_ok b (by omega) w)
      (fun w => by have := round_ok (rndN a) (rnd_top (by omega)) w; rw [rnd_self] at this; exact this)
  · by_cases e : a = b
    · subst e
      exact powers_mid k (idx (2 ^ k) + 1) (2 ^ k) (rndN a) (rndN a) a a a a (by omega) (by omega) (by omega) (by omega) (.inl ⟨z, rfl, rfl⟩) hP hP2 p1 p2 (by omega) (by omega) (rnd_ge a) (rnd_ge a) (rnd_mono z) (rnd_top (by omega)) w O _ hc hs (fun w => round_ok a (by omega) w) (fun w => round_ok a (by omega) w)
        (fun w => by have := round_ok (rndN a) (rnd_top (by omega)) w; rw [rnd_self] at this; exact this)
    · exact powers_mid k (idx (2 ^ k) + 1) (2 ^ k) (rndN b) (rndN a) a b b a (by omega) (by omega) (by omega) (by omega) (.inr ⟨by omega, rfl, rfl⟩) hP hP2 p1 p2 (by omega) (by omega) (rnd_ge b) (rnd_ge a) (rnd_mono z) (rnd_top (by omega)) w O _ hc hs (fun w => round_ok b (by omega) w) (fun w => round_ok a (by omega) w)
        (fun w => by have := round_ok (rndN b) (rnd_top (by omega)) w; rw [rnd_self] at this; exact this)
end Go.Proofs.Ytamkjodfjdhhmaa
