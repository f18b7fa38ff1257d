/-
  For every d and x (32 bits each), d from 2 to 32768 and x below 2^17 or at most 2^32 by d: num.Quot(x, num.Magic(d)) is x by d, rounded down, and the law returns true. No condition.
-/
import Derived.Test.YtfgfeakheagcaaaRows
import Derived.WalkKit
import Derived.ProofKit
import Derived.OpenShut
import Derived.Test.YtfgfeakheagcaaaPow
import Derived.RegionTactic
import Derived.Deep.QuietTactic
import Derived.BigQuiet
namespace Go.Proofs.Ytfgfeakheagcaaa.numExact
open Go.ChangeShapes Go.WideShapes Go.ChangeAt Go.RowKit
set_option linter.unusedVariables false

theorem own : ownKnob Try.prog.godebug = none := by kernel_rfl

theorem exact_arith (d x : Int) (h2 : 2 ≤ d) (hd : d ≤ 32768) (hx : 0 ≤ x) (h : x < 131072 ∨ x ≤ 4294967296 / d) : quotV x (magicV d) = x / d := by
  have xd : x * d ≤ 4294967296 := by
    rcases h with h | h
    · have := Int.mul_le_mul (show x ≤ 131071 by omega) hd (by omega) (by decide)
      omega
    · have h1 := Int.mul_le_mul_of_nonneg_right h (show 0 ≤ d by omega)
      have h3 := Int.ediv_mul_le 4294967296 (show d ≠ 0 by omega)
      omega
  have em := Int.mul_ediv_add_emod 4294967295 d
  have e0 := Int.emod_nonneg 4294967295 (show d ≠ 0 by omega)
  have e1 := Int.emod_lt_of_pos 4294967295 (show 0 < d by omega)
  have xm := Int.mul_ediv_add_emod x d
  have x0 := Int.emod_nonneg x (show d ≠ 0 by omega)
  have x1 := Int.emod_lt_of_pos x (show 0 < d by omega)
  unfold quotV magicV
  rw [if_neg (by omega)]
  generalize 4294967295 / d = k at *
  generalize 4294967295 % d = r at *
  generalize x / d = q at *
  generalize x % d = s at *
  have hm : d * (k + 1) = 4294967296 + (d - 1 - r) := by rw [Int.mul_add]; omega
  have ht : d * (x * (k + 1)) = x * 4294967296 + x * (d - 1 - r) := by rw [Int.mul_left_comm, hm, Int.mul_add]
  have he0 : 0 ≤ x * (d - 1 - r) := Int.mul_nonneg hx (by omega)
  have he1 : x * (d - 1 - r) ≤ x * (d - 1) := Int.mul_le_mul_of_nonneg_left (by omega) hx
  have he2 : x * (d - 1) = x * d - x := by rw [Int.mul_sub]; omega
  have he3 : x * (d - 1 - r) < 4294967296 := by
    by_cases hz : x = 0
    · subst hz; omega
    · omega
  have lo : q * 4294967296 ≤ x * (k + 1) := by
    apply Int.le_of_mul_le_mul_left _ (show 0 < d by omega)
    rw [ht, ← Int.mul_assoc]
    omega
  have hi : x * (k + 1) < (q + 1) * 4294967296 := by
    apply Int.lt_of_mul_lt_mul_left _ (show 0 ≤ d by omega)
    rw [ht, ← Int.mul_assoc, Int.mul_add d q 1]
    omega
  omega

/-- The road on which the quotient is asked. -/
theorem core (d x m q : Int) (hd : 0 ≤ d ∧ d ≤ 4294967295) (hx : 0 ≤ x ∧ x ≤ 4294967295) (h2 : 2 ≤ d) (h3 : d ≤ 32768) (h : x < 131072 ∨ x ≤ 4294967296 / d) (z : (d == 0) = false) (t : (q == x / d) = true)
    (c1 : ∀ w : World, Calls Try.prog 20 #[.int .u32 d] w fun e w' => e = .returned (.int .u32 m) ∧ w' = w)
    (c2 : ∀ w : World, Calls Try.prog 22 #[.int .u32 x, .int .u32 m] w fun e w' => e = .returned (.int .u32 q) ∧ w' = w) (w : World) :
    Calls Try.prog 6 #[.int .u32 d, .int .u32 x] w fun e w' => e = .returned (.bool true) ∧ Grown w w' := by
  have c5 := awake_any
  have g : ¬ d < 2 := by omega
  have g2 : ¬ 32768 < d := by omega
  by_cases k : x < 131072
  · clear h
    go_enter Try.func6, Try.ntmps6
    go_wp2_with fail
    go_quiet (first
      | (go_at_call 20; refine Calls.quiet_of_same (c1 _))
      | (go_at_call 22; refine Calls.quiet_of_same (c2 _))
      | (go_at_call 15; refine Calls.quiet_of_same (c5 _)))
    go_wp2
    go_ret
    exact ⟨rfl, by repeat (first | exact Grown.refl _ | apply Grown.drew | apply Grown.alloc)⟩
  · have k2 : x ≤ 4294967296 / d := by omega
    have k3 : ¬ 4294967296 / d < x := by omega
    have k4 : 0 ≤ 4294967296 / d := by omega
    have k5 : 4294967296 / d ≤ 4294967296 := Int.ediv_le_self _ (by decide)
    clear h
    go_enter Try.func6, Try.ntmps6
    go_wp2_with fail
    go_quiet (first
      | (go_at_call 20; refine Calls.quiet_of_same (c1 _))
      | (go_at_call 22; refine Calls.quiet_of_same (c2 _))
      | (go_at_call 15; refine Calls.quiet_of_same (c5 _)))
    go_wp2
    go_ret
    exact ⟨rfl, by repeat (first | exact Grown.refl _ | apply Grown.drew | apply Grown.alloc)⟩

/-! ### The walk -/
theorem walk (a0 : Int) (a1 : Int) (w0 : (Lit.int .u32 a0).wf = true) (w1 : (Lit.int .u32 a1).wf = true) (w : World) :
    Calls Try.prog 6 #[.int .u32 a0, .int .u32 a1] w fun e w' => e = .returned (.bool true) ∧ Grown w w' := by
  have hd := bounds_u32 w0
  have hx := bounds_u32 w1
  clear w0 w1
  by_cases h2 : a0 < 2
  · go_enter Try.func6, Try.ntmps6
    go_wp2
    go_ret
    exact ⟨rfl, Grown.refl _⟩
  · by_cases h3 : 32768 < a0
    · go_enter Try.func6, Try.ntmps6
      go_wp2
      go_ret
      exact ⟨rfl, Grown.refl _⟩
    · have z : (a0 == 0) = false := by simp; omega
      by_cases h4 : a1 < 131072 ∨ a1 ≤ 4294967296 / a0
      · have e := exact_arith a0 a1 (by omega) (by omega) hx.1 h4
        have mb : 0 ≤ magicV a0 ∧ magicV a0 ≤ 4294967295 := by
          have := magic_fits a0 (by omega)
          unfold magicV; rw [if_neg (by omega)]; omega
        exact core a0 a1 _ _ hd hx (by omega) (by omega) h4 z (by simpa using e) (fun w => magic_any a0 hd w) (fun w => quot_any a1 _ hx mb w) w
      · have k1 : ¬ a1 < 131072 := by omega
        have k2 : 4294967296 / a0 < a1 := by omega
        have k4 : 0 ≤ 4294967296 / a0 := Int.ediv_nonneg (by decide) (by omega)
        have k5 : 4294967296 / a0 ≤ 4294967296 := Int.ediv_le_self _ (by decide)
        clear h4
        go_enter Try.func6, Try.ntmps6
        go_wp2
        go_ret
        exact ⟨rfl, Grown.refl _⟩

/-! ### The row -/
set_option maxRecDepth 100000 in
theorem lifted (os : Os) (started : os.Started) (H : Type) (enc : TypeId × Value → H) :
    ReturnsInHanded {} Try.checked os 6 .any (Rows.numExactSpec.pre6 enc Try.prog Try.f6 Rows.numExactRow.domain false) (Rows.numExactSpec.post enc Try.prog Try.f6 false true false false) := by
  refine returnsInHanded_of_change (C := Try.checked) own started (by kernel_rfl) Try.func6
    (ChangeSpec.witness6 (enc := enc) (C := Try.checked) false ⟨#[], #[.int .u32 0, .int .u32 0], []⟩ 8 (by kernel_rfl) (by kernel_rfl) (by kernel_rfl) (by kernel_rfl)) ?_
  intro W base args ds gs before hval0 hW hcnd _
  have hval : ∀ (j : Nat) t v, Try.f6.params[j]? = some t → args[j]? = some v → Value.okWide Try.prog W .any base t v := hval0
  have hW' := hW
  obtain ⟨p, q, hA0, hV, rfl, hfz, hnd⟩ := hW
  have hA : DataW.TrodAll enc Try.prog W 0 (fun _ => true) true Try.f6.params.toList args.toList ds p := hA0
  rw [Try.params6] at hA hval
  obtain ⟨v0, vs0, d0, ds0, p0, q0, hargs, rfl, rfl, h0, r0⟩ := trodAll_cons hA
  obtain ⟨v1, vs1, d1, ds1, p1, q1, rfl, rfl, rfl, h1, r1⟩ := trodAll_cons r0
  obtain ⟨rfl, rfl, rfl⟩ := trodAll_nil r1
  obtain rfl : args = #[v0, v1] := by cases args; simp_all
  obtain ⟨rfl, rfl⟩ := trodVars_none hV
  obtain ⟨a0, rfl, rfl, rfl, w0⟩ := open_int Try.underlying29 (hval 0 29 v0 rfl rfl) h0
  obtain ⟨a1, rfl, rfl, rfl, w1⟩ := open_int Try.underlying29 (hval 1 29 v1 rfl rfl) h1
  clear hA0 hval0
  simp only [List.append_nil] at hW'
  refine (walk a0 a1 w0 w1 W).mono fun e W' ⟨he, hg⟩ => ?_
  subst he
  exact ⟨_, rfl, post_of_same (pa := []) (pv := []) hW' (fun _ _ _ => (trodAll_cons_mk (shut_bool Try.underlying4 _) trodAll_mk0)) (fun sp _ => (trodAll_cons_mk (shut_int Try.underlying29 w0) (trodAll_cons_mk (shut_int Try.underlying29 w1) trodAll_mk0))) (fun _ _ => rfl) rfl
    (hg.frame _) hg.2.1 (ok_one (by kernel_rfl) rfl (okWide_bool_mk Try.underlying4 _))⟩

theorem over : Rows.numExactRow.holds Try.pinned (OpenSpec.ofChange Rows.numExactSpec) :=
  OpenClaim.holds_of_wide 6 Try.f6 rfl rfl rfl rfl rfl rfl rfl ⟨rfl, rfl, rfl, rfl, rfl⟩ rfl rfl rfl rfl rfl (by kernel_rfl) Try.func6 (by kernel_rfl)
    (of_decide_eq_true (by kernel_rfl)) (by unfold Func.isWrapper; first | (rw [if_pos (by decide +kernel)]; kernel_rfl) | (rw [if_neg (by decide +kernel)]; exact ⟨rfl, rfl⟩))
    (fun os started H enc _ => lifted os started H enc)

theorem proved : Rows.NumExactSaid :=
  over
#print axioms proved
end Go.Proofs.Ytfgfeakheagcaaa.numExact
