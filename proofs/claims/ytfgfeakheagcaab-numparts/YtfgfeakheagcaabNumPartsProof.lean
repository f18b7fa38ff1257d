/-
  For every n and d (64 bits each): Ceil is the quotient, or one more where something is left over, and the law returns true. No condition.
-/
import Derived.Test.YtfgfeakheagcaabRows
import Derived.WalkKit
import Derived.ProofKit
import Derived.OpenShut
import Derived.Test.YtfgfeakheagcaabNum
import Derived.RegionTactic
import Derived.Deep.RegionWith
namespace Go.Proofs.Ytfgfeakheagcaab.numParts
open Go.ChangeShapes Go.WideShapes Go.ChangeAt Go.RowKit
set_option linter.unusedVariables false

theorem own : ownKnob Try.prog.godebug = none := by kernel_rfl

/-- The road on which the quotient is asked. -/
theorem core (n d c : Int) (hn : 0 < n ∧ n ≤ 18446744073709551615) (hd : 0 < d ∧ d ≤ 18446744073709551615) (z : (d == 0) = false) (y : (n == 0) = false) (hc : 1 ≤ c ∧ c ≤ 18446744073709551615) (t : (c - 1 == (n - 1) / d) = true)
    (c1 : ∀ w : World, Calls Try.prog 8 #[.int .u64 n, .int .u64 d] w fun e w' => e = .returned (.tuple #[.int .u64 c, .bool true]) ∧ w' = w) (w : World) :
    Calls Try.prog 4 #[.int .u64 n, .int .u64 d] w fun e w' => e = .returned (.bool true) ∧ Grown w w' := by
  have c5 := awake_any
  have b1 : 0 ≤ (n - 1) / d := Int.ediv_nonneg (by omega) (by omega)
  have b2 : (n - 1) / d ≤ n - 1 := Int.ediv_le_self _ (by omega)
  go_enter Try.func4, Try.ntmps4
  go_wp2_with (first
    | (go_at_call 8; refine (c1 _).mono ?_; rintro e w' ⟨rfl, rfl⟩)
    | (go_at_call 7; refine (c5 _).mono ?_; rintro e w' ⟨rfl, rfl⟩))
  go_ret
  exact ⟨rfl, Grown.refl _⟩

theorem zeroD (n : Int) (hn : 0 ≤ n ∧ n ≤ 18446744073709551615)
    (c1 : ∀ w : World, Calls Try.prog 8 #[.int .u64 n, .int .u64 0] w fun e w' => e = .returned (.tuple #[.int .u64 0, .bool false]) ∧ w' = w) (w : World) :
    Calls Try.prog 4 #[.int .u64 n, .int .u64 0] w fun e w' => e = .returned (.bool true) ∧ Grown w w' := by
  have c5 := awake_any
  go_enter Try.func4, Try.ntmps4
  go_wp2_with (first
    | (go_at_call 8; refine (c1 _).mono ?_; rintro e w' ⟨rfl, rfl⟩)
    | (go_at_call 7; refine (c5 _).mono ?_; rintro e w' ⟨rfl, rfl⟩))
  go_ret
  exact ⟨rfl, Grown.refl _⟩

theorem zeroN (d : Int) (hd : 0 < d ∧ d ≤ 18446744073709551615) (z : (d == 0) = false)
    (c1 : ∀ w : World, Calls Try.prog 8 #[.int .u64 0, .int .u64 d] w fun e w' => e = .returned (.tuple #[.int .u64 0, .bool true]) ∧ w' = w) (w : World) :
    Calls Try.prog 4 #[.int .u64 0, .int .u64 d] w fun e w' => e = .returned (.bool true) ∧ Grown w w' := by
  have c5 := awake_any
  go_enter Try.func4, Try.ntmps4
  go_wp2_with (first
    | (go_at_call 8; refine (c1 _).mono ?_; rintro e w' ⟨rfl, rfl⟩)
    | (go_at_call 7; refine (c5 _).mono ?_; rintro e w' ⟨rfl, rfl⟩))
  go_ret
  exact ⟨rfl, Grown.refl _⟩

/-- One less than a quotient rounded up is the quotient of one less. -/
theorem parts_arith (n d : Int) (hn : 0 < n) (hd : 0 < d) : 1 ≤ ceilV n d ∧ ceilV n d - 1 = (n - 1) / d := by
  have em := Int.mul_ediv_add_emod n d
  have e0 := Int.emod_nonneg n (show d ≠ 0 by omega)
  have e1 := Int.emod_lt_of_pos n hd
  unfold ceilV
  rw [if_neg (by omega)]
  by_cases hm : n % d = 0
  · rw [if_pos hm]
    have hq : 0 < n / d := by
      by_cases hz : n / d ≤ 0
      · have := Int.mul_le_mul_of_nonneg_left hz (show 0 ≤ d by omega)
        omega
      · omega
    refine ⟨by omega, ?_⟩
    have z1 : (d - 1) / d = 0 := Int.ediv_eq_zero_of_lt (by omega) (by omega)
    have e2 : n - 1 = d - 1 + d * (n / d - 1) := by rw [Int.mul_sub]; omega
    have e3 : (d - 1 + d * (n / d - 1)) / d = (d - 1) / d + (n / d - 1) := Int.add_mul_ediv_left _ _ (by omega)
    rw [← e2, z1] at e3
    omega
  · rw [if_neg hm]
    have hq : 0 ≤ n / d := Int.ediv_nonneg (by omega) (by omega)
    refine ⟨by omega, ?_⟩
    have z1 : (n % d - 1) / d = 0 := Int.ediv_eq_zero_of_lt (by omega) (by omega)
    have e2 : n - 1 = (n % d - 1) + d * (n / d) := by omega
    have e3 : ((n % d - 1) + d * (n / d)) / d = (n % d - 1) / d + n / d := Int.add_mul_ediv_left _ _ (by omega)
    rw [← e2, z1] at e3
    omega

/-! ### The walk -/
theorem walk (a0 : Int) (a1 : Int) (w0 : (Lit.int .u64 a0).wf = true) (w1 : (Lit.int .u64 a1).wf = true) (w : World) :
    Calls Try.prog 4 #[.int .u64 a0, .int .u64 a1] w fun e w' => e = .returned (.bool true) ∧ Grown w w' := by
  have hn := bounds_u64 w0
  have hd := bounds_u64 w1
  clear w0 w1
  have c1 := fun w => ceil_any a0 a1 hn hd w
  by_cases h0 : a1 = 0
  · subst h0
    exact zeroD a0 hn c1 w
  · have z : (a1 == 0) = false := by simpa using h0
    have eO : decide (a1 ≠ 0) = true := by simpa using h0
    rw [eO] at c1
    by_cases h1 : a0 = 0
    · subst h1
      have e : ceilV 0 a1 = 0 := by simp [ceilV]
      rw [e] at c1
      exact zeroN a1 (by omega) z c1 w
    · obtain ⟨p1, p2⟩ := parts_arith a0 a1 (by omega) (by omega)
      have q2 : (a0 - 1) / a1 ≤ a0 - 1 := Int.ediv_le_self _ (by omega)
      exact core a0 a1 _ (by omega) (by omega) z (by simpa using h1) ⟨p1, by omega⟩ (by simpa using p2) c1 w

/-! ### The row -/
set_option maxRecDepth 100000 in
theorem lifted (os : Os) (started : os.Started) (H : Type) (enc : TypeId × Value → H) :
    ReturnsInHanded {} Try.checked os 4 .any (Rows.numPartsSpec.pre6 enc Try.prog Try.f4 Rows.numPartsRow.domain false) (Rows.numPartsSpec.post enc Try.prog Try.f4 false true false false) := by
  refine returnsInHanded_of_change (C := Try.checked) own started (by kernel_rfl) Try.func4
    (ChangeSpec.witness6 (enc := enc) (C := Try.checked) false ⟨#[], #[.int .u64 0, .int .u64 0], []⟩ 8 (by kernel_rfl) (by kernel_rfl) (by kernel_rfl) (by kernel_rfl)) ?_
  intro W base args ds gs before hval0 hW hcnd _
  have hval : ∀ (j : Nat) t v, Try.f4.params[j]? = some t → args[j]? = some v → Value.okWide Try.prog W .any base t v := hval0
  have hW' := hW
  obtain ⟨p, q, hA0, hV, rfl, hfz, hnd⟩ := hW
  have hA : DataW.TrodAll enc Try.prog W 0 (fun _ => true) true Try.f4.params.toList args.toList ds p := hA0
  rw [Try.params4] at hA hval
  obtain ⟨v0, vs0, d0, ds0, p0, q0, hargs, rfl, rfl, h0, r0⟩ := trodAll_cons hA
  obtain ⟨v1, vs1, d1, ds1, p1, q1, rfl, rfl, rfl, h1, r1⟩ := trodAll_cons r0
  obtain ⟨rfl, rfl, rfl⟩ := trodAll_nil r1
  obtain rfl : args = #[v0, v1] := by cases args; simp_all
  obtain ⟨rfl, rfl⟩ := trodVars_none hV
  obtain ⟨a0, rfl, rfl, rfl, w0⟩ := open_int Try.underlying22 (hval 0 22 v0 rfl rfl) h0
  obtain ⟨a1, rfl, rfl, rfl, w1⟩ := open_int Try.underlying22 (hval 1 22 v1 rfl rfl) h1
  clear hA0 hval0
  simp only [List.append_nil] at hW'
  refine (walk a0 a1 w0 w1 W).mono fun e W' ⟨he, hg⟩ => ?_
  subst he
  exact ⟨_, rfl, post_of_same (pa := []) (pv := []) hW' (fun _ _ _ => (trodAll_cons_mk (shut_bool Try.underlying4 _) trodAll_mk0)) (fun sp _ => (trodAll_cons_mk (shut_int Try.underlying22 w0) (trodAll_cons_mk (shut_int Try.underlying22 w1) trodAll_mk0))) (fun _ _ => rfl) rfl
    (hg.frame _) hg.2.1 (ok_one (by kernel_rfl) rfl (okWide_bool_mk Try.underlying4 _))⟩

theorem over : Rows.numPartsRow.holds Try.pinned (OpenSpec.ofChange Rows.numPartsSpec) :=
  OpenClaim.holds_of_wide 4 Try.f4 rfl rfl rfl rfl rfl rfl rfl ⟨rfl, rfl, rfl, rfl, rfl⟩ rfl rfl rfl rfl rfl (by kernel_rfl) Try.func4 (by kernel_rfl)
    (of_decide_eq_true (by kernel_rfl)) (by unfold Func.isWrapper; first | (rw [if_pos (by decide +kernel)]; kernel_rfl) | (rw [if_neg (by decide +kernel)]; exact ⟨rfl, rfl⟩))
    (fun os started H enc _ => lifted os started H enc)

theorem proved : Rows.NumPartsSaid :=
  over
#print axioms proved
end Go.Proofs.Ytfgfeakheagcaab.numParts
