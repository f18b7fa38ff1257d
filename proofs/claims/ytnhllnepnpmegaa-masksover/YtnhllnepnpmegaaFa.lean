/- Small functions of package masks: strips, windows, within: contracts. -/
import Derived.Test.YtnhllnepnpmegaaHq
import Derived.Test.YtnhllnepnpmegaaOc
import Derived.Test.YtnhllnepnpmegaaBt
import Derived.Laws.Bits64b
import Derived.Shelf.Abstract
import Derived.Deep.QuietTactic
namespace Go.Proofs.Ytnhllnepnpmegaa
open Go.ChangeShapes Go.WideShapes Go.ChangeAt Go.RowKit Go.Shelf Go.Proofs.Rx Go.Maps Go.Proofs.Bt
set_option linter.unusedVariables false
set_option linter.unusedSimpArgs false

attribute [local go_sem] Oper.semAt_some

theorem andn_inv (a b : Nat) (ha : a < 18446744073709551616) (hb : b < 18446744073709551616) : a &&& (18446744073709551615 - b) = andn a b := by
  refine eq_of_bits (and_lt _ ha) (andn_lt _ ha) fun k hk => ?_
  have := inv_bit hb hk
  unfold inv at this
  rw [Nat.testBit_and, andn_bit, this]
theorem w_andNot (a b : Nat) (ha : a < 18446744073709551616) (hb : b < 18446744073709551616) : bits .andNot .u64 (a : Int) (b : Int) = ((andn a b : Nat) : Int) := by
  rw [u64_andNot_nat a b ha hb, andn_inv a b ha hb]
theorem w_or (a b : Nat) (ha : a < 18446744073709551616) (hb : b < 18446744073709551616) : bits .or .u64 (a : Int) (b : Int) = ((a ||| b : Nat) : Int) := bits_or_u64_nat a b ha hb
theorem w_and (a b : Nat) (ha : a < 18446744073709551616) (hb : b < 18446744073709551616) : bits .and .u64 (a : Int) (b : Int) = ((a &&& b : Nat) : Int) := bits_and_u64_nat a b ha hb
theorem stripOf_any (x : Nat) (hx : x < 1152921504606846976) (w : World) : Calls Try.prog 25 #[.int .u64 (x : Nat)] w fun e w' => e = .returned (.int .u64 ((64 * (x / 64) : Nat) : Int)) ∧ w' = w := by
  have e : (x : Int) - (x : Int) % 64 = ((64 * (x / 64) : Nat) : Int) := by omega
  rw [← e]
  clear e
  obtain ⟨X, hX⟩ : ∃ X : Int, (x : Int) = X := ⟨_, rfl⟩
  have h0 : 0 ≤ X := by omega
  have h1 : X < 1152921504606846976 := by omega
  have m0 : 0 ≤ X % 64 := by omega
  have m1 : X % 64 ≤ X := by omega
  rw [hX]
  clear hX hx
  go_enter Try.func25, Try.ntmps25
  go_wp2_with fail
  go_ret
  exact ⟨rfl, rfl⟩
/-- A strip's bits from one on and below another. -/
theorem wm (W a b s t : Nat) (hs : s < 64) (ht : t < 64) (h : ∀ k, k < 64 → ((s ≤ k ∧ k + t < 64) ↔ (a ≤ 64 * W + k ∧ 64 * W + k < b))) :
    bits .and .u64 (IntKind.u64.wrap (18446744073709551615 * 2 ^ s)) (18446744073709551615 / 2 ^ t) = ((prt W a b : Nat) : Int) := by
  have e1 : IntKind.u64.wrap (18446744073709551615 * 2 ^ s) = ((18446744073709551615 * 2 ^ s % 2 ^ 64 : Nat) : Int) := by
    simp [IntKind.wrap, IntKind.bits, IntKind.signed]
  have e2 : (18446744073709551615 : Int) / 2 ^ t = ((18446744073709551615 / 2 ^ t : Nat) : Int) := by simp
  have l1 : 18446744073709551615 * 2 ^ s % 2 ^ 64 < 18446744073709551616 := Nat.mod_lt _ (by decide)
  have l2 : 18446744073709551615 / 2 ^ t < 18446744073709551616 := Nat.lt_of_le_of_lt (Nat.div_le_self _ _) (by decide)
  rw [e1, e2, w_and _ _ l1 l2]
  congr 1
  refine eq_of_bits (and_lt _ l1) (prt_lt _ _ _) fun k hk => ?_
  rw [Nat.testBit_and, prt_bit _ _ _ _ hk, Nat.testBit_mod_two_pow, Nat.testBit_mul_two_pow, Nat.testBit_div_two_pow, show (18446744073709551615 : Nat) = 2 ^ 64 - 1 by decide, Nat.testBit_two_pow_sub_one, Nat.testBit_two_pow_sub_one]
  rw [Bool.eq_iff_iff]
  simp only [Bool.and_eq_true, decide_eq_true_eq]
  rw [← h k hk]
  omega
theorem prt_zero (W a b : Nat) (h : ∀ k, k < 64 → ¬ (a ≤ 64 * W + k ∧ 64 * W + k < b)) : prt W a b = 0 :=
  eq_of_bits (prt_lt _ _ _) (by decide) fun k hk => by rw [prt_bit _ _ _ _ hk, decide_eq_false (h k hk)]; simp
theorem within_any (W a b : Nat) (hW : W < 18014398509481984) (ha : a < 1152921504606846976) (hb : b < 1152921504606846976) (w : World) :
    Calls Try.prog 38 #[.int .u64 ((64 * W : Nat) : Int), .int .u64 (a : Nat), .int .u64 (b : Nat)] w fun e w' => e = .returned (.int .u64 (prt W a b : Nat)) ∧ w' = w := by
  have z1 := wm W a b 0 0
  have z2 := fun s => wm W a b s 0
  have z3 := wm W a b 0
  have z4 := wm W a b
  have y5 := prt_zero W a b
  simp only [Int.pow_zero, Int.mul_one, Int.ediv_one] at z1 z2 z3
  obtain ⟨R, hR⟩ : ∃ R : Int, ((prt W a b : Nat) : Int) = R := ⟨_, rfl⟩
  have z5 : (∀ k, k < 64 → ¬ (a ≤ 64 * W + k ∧ 64 * W + k < b)) → (0 : Int) = R := fun h => by rw [← hR, y5 h]; rfl
  clear y5
  simp only [hR] at z1 z2 z3 z4 ⊢
  obtain ⟨X, hX⟩ : ∃ X : Int, ((64 * W : Nat) : Int) = X := ⟨_, rfl⟩
  obtain ⟨A, hA⟩ : ∃ X : Int, (a : Int) = X := ⟨_, rfl⟩
  obtain ⟨E, hE⟩ : ∃ X : Int, (b : Int) = X := ⟨_, rfl⟩
  rw [hX, hA, hE]
  have h0 : 0 ≤ X := by omega
  have h1 : X < 1152921504606846976 := by omega
  have a0 : 0 ≤ A := by omega
  have a1 : A < 1152921504606846976 := by omega
  have e0 : 0 ≤ E := by omega
  have e1 : E < 1152921504606846976 := by omega
  have Z1 := hide z1
  have Z2 := hide z2
  have Z3 := hide z3
  have Z4 := hide z4
  have Z5 := hide z5
  have HX := hide hX
  have HA := hide hA
  have HE := hide hE
  clear hX hA hE z1 z2 z3 z4 z5 hR ha hb hW
  go_enter Try.func38, Try.ntmps38
  go_wp2_with fail
  all_goals go_ret
  all_goals refine ⟨?_, rfl⟩
  all_goals have hX := HX.out
  all_goals have hA := HA.out
  all_goals have hE := HE.out
  · rw [Z5.out (by omega)]; rfl
  · rw [Z5.out (by omega)]; rfl
  · rw [Z5.out (by omega)]; rfl
  · rw [Z4.out (A - X).toNat (X + 64 - E).toNat (by omega) (by omega) (by omega)]; rfl
  · rw [Z2.out (A - X).toNat (by omega) (by omega) (by omega)]; rfl
  · rw [Z3.out (X + 64 - E).toNat (by omega) (by omega) (by omega)]; rfl
  · rw [Z1.out (by omega) (by omega) (by omega)]; rfl
theorem windowOf_any (x : Nat) (hx : x < 1152921504606846976) (w : World) : Calls Try.prog 33 #[.int .u64 (x : Nat)] w fun e w' => e = .returned (.int .u64 ((512 * (x / 512) : Nat) : Int)) ∧ w' = w := by
  have e : (x : Int) - (x : Int) % 512 = ((512 * (x / 512) : Nat) : Int) := by omega
  rw [← e]
  clear e
  obtain ⟨X, hX⟩ : ∃ X : Int, (x : Int) = X := ⟨_, rfl⟩
  have h0 : 0 ≤ X := by omega
  have h1 : X < 1152921504606846976 := by omega
  have m0 : 0 ≤ X % 512 := by omega
  have m1 : X % 512 ≤ X := by omega
  rw [hX]
  clear hX hx
  go_enter Try.func33, Try.ntmps33
  go_wp2_with fail
  go_ret
  exact ⟨rfl, rfl⟩
theorem windowUp_any (x : Nat) (hx : x < 281474976710656) (w : World) : Calls Try.prog 31 #[.int .u64 (x : Nat)] w fun e w' => e = .returned (.int .u64 ((512 * ((x + 511) / 512) : Nat) : Int)) ∧ w' = w := by
  have C := windowOf_any (x + 511) (by omega) w
  obtain ⟨V, hV⟩ : ∃ V : Int, ((512 * ((x + 511) / 512) : Nat) : Int) = V := ⟨_, rfl⟩
  rw [hV] at C ⊢
  obtain ⟨X, hX⟩ : ∃ X : Int, (x : Int) = X := ⟨_, rfl⟩
  have e : ((x + 511 : Nat) : Int) = X + 512 - 1 := by omega
  rw [e] at C
  rw [hX]
  have h0 : 0 ≤ X := by omega
  have h1 : X < 281474976710656 := by omega
  have HC := hide C
  clear hV hX e hx C
  go_enter Try.func31, Try.ntmps31
  go_wp2_with fail
  refine HC.out.mono ?_
  rintro e w' ⟨rfl, hw⟩; rw [hw]; clear hw w'
  go_wp2_with fail
  go_ret
  exact ⟨rfl, rfl⟩
end Go.Proofs.Ytnhllnepnpmegaa
