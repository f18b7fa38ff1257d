/- The reference's Of and Round; the law's same. -/
import Derived.Test.YtamkjodfjdhhmaaRm
namespace Go.Proofs.Ytamkjodfjdhhmaa
open Go.ChangeShapes Go.WideShapes Go.ChangeAt Go.RowKit Go.Proofs.Cl Go.Shelf
set_option linter.unusedVariables false
set_option linter.unusedSimpArgs false

theorem refTable (w : World) : Calls Try.prog 9 #[.int .i64 8192, .int .i64 32768] w fun e w' => ∃ g cap, e = .returned (.tuple #[.slice (some ⟨g, 0, none⟩) 68 cap, .int .i64 0]) ∧ w'.ownsRow w.heap.size 30 4 (.slice (some ⟨g, 0, none⟩) 68 cap) 68 (flatC (zeroC :: table)) ∧ Below w.heap.size w w' := by
  refine (refMake_ok 8192 32768 (by decide +kernel) w).mono ?_
  rintro e w1 ⟨v, rfl, o1, b1⟩
  rw [make_eq, List.length_cons, table_len] at o1
  obtain ⟨g, cap, rfl⟩ := ownsRow_succ o1
  exact ⟨g, cap, rfl, o1, b1⟩
theorem refOf_err (n : Int) (h : n < 0 ∨ 32768 < n) (w : World) : Calls Try.prog 15 #[.int .i64 n] w fun e w' => e = .returned (.tuple #[.int .i64 0, .int .i64 1]) ∧ w' = w := by
  rcases h with h | h
  · go_enter Try.func15, Try.ntmps15
    go_wp2_with fail
    go_ret2
    exact ⟨rfl, rfl⟩
  · have h0 : ¬ n < 0 := by omega
    go_enter Try.func15, Try.ntmps15
    go_wp2_with fail
    go_ret2
    exact ⟨rfl, rfl⟩
set_option maxRecDepth 100000 in
theorem refOf_ok (sz : Nat) (hs : sz ≤ 32768) (w : World) : Calls Try.prog 15 #[.int .i64 sz] w fun e w' => e = .returned (.tuple #[.int .i64 ((idx sz : Int) + 1), .int .i64 0]) ∧ Below w.heap.size w w' := by
  have h0 : (0 : Int) ≤ (sz : Int) := by omega
  have h1 : (sz : Int) ≤ 32768 := by omega
  have hi := idx_lt hs
  go_enter Try.func15, Try.ntmps15
  go_wp2_with fail
  refine (refTable _).mono ?_
  rintro e w1 ⟨g, cap, rfl, o1, b1⟩
  have L1 := hide (list_at o1 (by rw [List.length_cons, table_len]))
  have B1 := hide b1
  clear o1 b1
  go_wp2_with fail
  go_loop [6] (fun iv => ∃ i : Nat, iv = .int .i64 (i : Int) ∧ 1 ≤ i ∧ i ≤ idx sz + 1) (fun iv => 68 - (intOf iv).toNat)
  case atStart => exact ⟨1, rfl, Nat.le_refl _, by omega⟩
  case round =>
    obtain ⟨i, rfl, i1, i2⟩ := hrel
    have hl : i < (zeroC :: table).length := by rw [List.length_cons, table_len]; omega
    obtain ⟨c, hc⟩ : ∃ c, (zeroC :: table)[i]? = some c := ⟨_, List.getElem?_eq_getElem hl⟩
    have hc' : table[i - 1]? = some c := by
      rw [show i = (i - 1) + 1 by omega, List.getElem?_cons_succ] at hc; exact hc
    have y0 := (L1.out i c hc).1
    have j1 : (1 : Int) ≤ (i : Int) := by omega
    have j2 : (i : Int) < 68 := by omega
    by_cases e : i = idx sz + 1
    · have hr : sz ≤ c.size := by
        have := cls_at hs
        rw [show idx sz = i - 1 by omega, hc'] at this
        rw [Option.some.inj this]
        exact cls_room hs
      have k1 : (sz : Int) ≤ (c.size : Int) := by omega
      have E := hide e
      clear e hc hc' hl i2 hi
      go_wp2_with fail
      go_ret2
      exact ⟨by rw [E.out, Int.natCast_add]; rfl, B1.out⟩
    · have hr : c.size < sz := cls_ahead (j := i - 1) (by omega) hc'
      have k1 : (c.size : Int) < (sz : Int) := by omega
      clear hc hc' hl
      go_wp2_with fail
      go_round
      case rel => exact ⟨i + 1, by go_num, by omega, by omega⟩
      case measure => simp [intOf]; omega
theorem refRound_long (n : Int) (h : 1099511627776 < n) (w : World) : Calls Try.prog 17 #[.int .u64 n] w fun e w' => e = .returned (.tuple #[.int .u64 0, .int .i64 2]) ∧ w' = w := by
  go_enter Try.func17, Try.ntmps17
  go_wp2_with fail
  go_ret2
  exact ⟨rfl, rfl⟩
set_option maxRecDepth 100000 in
theorem refRound_ok (n : Nat) (h : n ≤ 1099511627776) (w : World) : Calls Try.prog 17 #[.int .u64 n] w fun e w' => e = .returned (.tuple #[.int .u64 (rndN n : Nat), .int .i64 0]) ∧ Below w.heap.size w w' := by
  have h0 : (n : Int) ≤ 1099511627776 := by omega
  by_cases hs : n ≤ 32768
  · have h1 : (n : Int) ≤ 32768 := by omega
    have e : rndN n = (clsOf n).size := if_pos hs
    have m1 := table_sizes (cls_mem hs)
    rw [e]
    have hi := idx_lt hs
    have hc : (zeroC :: table)[idx n + 1]? = some (clsOf n) := by rw [List.getElem?_cons_succ]; exact cls_at hs
    obtain ⟨kn, hk⟩ : ∃ kn, kn = idx n + 1 := ⟨_, rfl⟩
    have O := fun w => refOf_ok n hs w
    rw [show ((idx n : Int) + 1) = (kn : Int) by omega] at O
    rw [← hk] at hc
    have OO := hide O
    have HC := hide hc
    have k1 : (0 : Int) ≤ (kn : Int) := by omega
    have k2 : (kn : Int) < 68 := by omega
    clear e O hc hk hi
    go_enter Try.func17, Try.ntmps17
    go_wp2_with fail
    refine (refTable _).mono ?_
    rintro e w1 ⟨g, cap, rfl, o1, b1⟩
    have L1 := hide (list_at o1 (by rw [List.length_cons, table_len]))
    have B1 := hide b1
    clear o1 b1
    go_wp2_with fail
    refine (OO.out _).mono ?_
    rintro e w2 ⟨rfl, b2⟩
    have L2 := L1.out.below b2
    have y0 := (L2 kn _ HC.out).1
    have B2 := hide (B1.out.trans (b2.mono B1.out.size))
    clear OO b2 L2 L1 B1
    go_wp2_with fail
    go_ret2
    exact ⟨rfl, B2.out⟩
  · have U := hide (upRef_at n h w)
    have h1 : (32768 : Int) < (n : Int) := by omega
    have e : rndN n = (n + 8191) / 8192 * 8192 := if_neg hs
    rw [e]
    generalize ((n + 8191) / 8192 * 8192 : Nat) = u at U
    clear e
    go_enter Try.func17, Try.ntmps17
    go_wp2_with fail
    refine U.out.mono ?_
    rintro e w1 ⟨rfl, hw⟩
    rw [hw]
    clear hw w1 U
    go_wp2_with fail
    go_ret2
    exact ⟨rfl, Below.refl _ _⟩
end Go.Proofs.Ytamkjodfjdhhmaa
