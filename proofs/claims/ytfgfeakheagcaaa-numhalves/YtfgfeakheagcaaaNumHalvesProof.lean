/-
  For every n (64 bits): n lies from 2^Log(n) to below the next power; Pow(n) just if it is that power; the law returns true. No condition.
-/
import Derived.Test.YtfgfeakheagcaaaRows
import Derived.WalkKit
import Derived.ProofKit
import Derived.OpenShut
import Derived.Test.YtfgfeakheagcaaaPow
import Derived.RegionTactic
import Derived.Deep.QuietTactic
import Derived.BigQuiet
namespace Go.Proofs.Ytfgfeakheagcaaa.numHalves
open Go.ChangeShapes Go.WideShapes Go.ChangeAt Go.RowKit
set_option linter.unusedVariables false

theorem own : ownKnob Try.prog.godebug = none := by kernel_rfl

/-- The number of bits: from its power of two to below the next. -/
theorem len_between : ∀ n : Nat, n ≠ 0 → n < 18446744073709551616 → ∃ j, Lib.bitLen n = j + 1 ∧ 2 ^ j ≤ n ∧ n < 2 ^ (j + 1) := by
  intro n
  induction n using Nat.strongRecOn with
  | _ n ih =>
    intro h0 hn
    by_cases h1 : n = 1
    · subst h1; exact ⟨0, by decide, by decide, by decide⟩
    · obtain ⟨j, a, b, c⟩ := ih (n / 2) (by omega) (by omega) (by omega)
      refine ⟨j + 1, ?_, ?_, ?_⟩
      · rw [Lib.bitLen_half n h0 hn, a]; omega
      · rw [Nat.pow_succ]; omega
      · rw [Nat.pow_succ]; omega
theorem len_bounds (n : Nat) (h0 : n ≠ 0) (hn : n < 18446744073709551616) : ∃ j, j ≤ 63 ∧ Lib.bitLen n = j + 1 ∧ 2 ^ j ≤ n ∧ n < 2 ^ (j + 1) := by
  obtain ⟨j, a, b, c⟩ := len_between n h0 hn
  have hL := Lib.bitLen_le n 64 (by decide) hn
  exact ⟨j, by omega, a, b, c⟩

theorem isPow_two_pow : ∀ j : Nat, isPow (2 ^ j) = true := by
  intro j
  induction j with
  | zero => rw [isPow]; simp
  | succ j ih =>
    have h : 1 ≤ 2 ^ j := Nat.one_le_two_pow
    have e : 2 ^ (j + 1) = 2 * 2 ^ j := by rw [Nat.pow_succ]; omega
    rw [isPow_even _ (by omega) (by omega), e, Nat.mul_div_cancel_left _ (by decide)]
    exact ih

theorem isPow_is : ∀ n : Nat, isPow n = true → ∃ j, n = 2 ^ j := by
  intro n
  induction n using Nat.strongRecOn with
  | _ n ih =>
    intro h
    by_cases hc : 1 < n ∧ n % 2 = 0
    · rw [isPow_even n hc.1 hc.2] at h
      obtain ⟨j, hj⟩ := ih (n / 2) (by omega) h
      exact ⟨j + 1, by rw [Nat.pow_succ, ← hj]; omega⟩
    · rw [isPow_odd n hc] at h
      exact ⟨0, by simpa using h⟩

/-- A number between two powers is a power just if it is the lower one. -/
theorem isPow_between (n j : Nat) (h1 : 2 ^ j ≤ n) (h2 : n < 2 ^ (j + 1)) : isPow n = ((n : Int) == ((2 ^ j : Nat) : Int)) := by
  rw [Bool.eq_iff_iff]
  constructor
  · intro h
    obtain ⟨i, hi⟩ := isPow_is n h
    subst hi
    have a := (Nat.pow_le_pow_iff_right (show 1 < 2 by decide)).1 h1
    have b := (Nat.pow_lt_pow_iff_right (show 1 < 2 by decide)).1 h2
    have : i = j := by omega
    subst this
    simp
  · intro h
    have : n = 2 ^ j := by simp only [beq_iff_eq] at h; omega
    rw [this]; exact isPow_two_pow j

theorem core (n p : Int) (j : Nat) (hj : j ≤ 63) (hn : 0 < n ∧ n ≤ 18446744073709551615) (hp : 0 < p ∧ p ≤ 18446744073709551615) (z : (n == 0) = false) (t1 : (n / 2 ^ j != 1) = false) (t2 : decide ((j : Int) < 0) = false) (t3 : decide (63 < (j : Int)) = false) (hs : IntKind.u64.wrap (2 ^ j) = p)
    (c1 : ∀ w : World, Calls Try.prog 18 #[.int .u64 n] w fun e w' => e = .returned (.int .i64 (j : Int)) ∧ w' = w)
    (c2 : ∀ w : World, Calls Try.prog 16 #[.int .u64 n] w fun e w' => e = .returned (.bool (n == p)) ∧ w' = w)
    (c3 : ∀ w : World, Calls Try.prog 18 #[.int .u64 p] w fun e w' => e = .returned (.int .i64 (j : Int)) ∧ w' = w)
    (c4 : ∀ w : World, Calls Try.prog 16 #[.int .u64 p] w fun e w' => e = .returned (.bool true) ∧ w' = w) (w : World) :
    Calls Try.prog 8 #[.int .u64 n] w fun e w' => e = .returned (.bool true) ∧ Grown w w' := by
  have c5 := awake_any
  go_enter Try.func8, Try.ntmps8
  go_wp2_with (first
      | (go_at_call 18; refine (c1 _).mono ?_; rintro e w' ⟨rfl, rfl⟩))
  go_quiet (first
      | (go_at_call 16; refine Calls.quiet_of_same (c2 _))
      | (go_at_call 18; refine Calls.quiet_of_same (c3 _))
      | (go_at_call 16; refine Calls.quiet_of_same (c4 _))
      | (go_at_call 15; refine Calls.quiet_of_same (c5 _)))
  go_wp2
  go_ret
  exact ⟨rfl, by repeat (first | exact Grown.refl _ | apply Grown.drew | apply Grown.alloc)⟩

theorem zero (c1 : ∀ w : World, Calls Try.prog 18 #[.int .u64 0] w fun e w' => e = .returned (.int .i64 (-1)) ∧ w' = w)
    (c2 : ∀ w : World, Calls Try.prog 16 #[.int .u64 0] w fun e w' => e = .returned (.bool false) ∧ w' = w) (w : World) :
    Calls Try.prog 8 #[.int .u64 0] w fun e w' => e = .returned (.bool true) ∧ Grown w w' := by
  have c5 := awake_any
  go_enter Try.func8, Try.ntmps8
  go_wp2_with (first
      | (go_at_call 18; refine (c1 _).mono ?_; rintro e w' ⟨rfl, rfl⟩)
      | (go_at_call 16; refine (c2 _).mono ?_; rintro e w' ⟨rfl, rfl⟩)
      | (go_at_call 15; refine (c5 _).mono ?_; rintro e w' ⟨rfl, rfl⟩))
  go_ret
  exact ⟨rfl, Grown.refl _⟩

/-! ### The walk -/
theorem walk (a0 : Int) (w0 : (Lit.int .u64 a0).wf = true) (w : World) :
    Calls Try.prog 8 #[.int .u64 a0] w fun e w' => e = .returned (.bool true) ∧ Grown w w' := by
  have b0 := bounds_u64 w0
  obtain ⟨n, rfl⟩ : ∃ n : Nat, a0 = (n : Int) := ⟨a0.toNat, by omega⟩
  have hn : n < 18446744073709551616 := by omega
  clear w0
  by_cases h0 : n = 0
  · subst h0
    refine zero (fun w => ?_) (fun w => ?_) w
    · exact log_any 0 (by decide) w
    · have e : isPow 0 = false := by rw [isPow_odd 0 (by omega)]; rfl
      have := pow_any 0 (by decide) w
      rw [e] at this; exact this
  · obtain ⟨j, hj, hL, h1, h2⟩ := len_bounds n h0 hn
    have p64 : 2 ^ j < 18446744073709551616 := Nat.lt_of_le_of_lt h1 hn
    have p0 : 0 < 2 ^ j := Nat.two_pow_pos j
    obtain ⟨i, _, hI, h3, h4⟩ := len_bounds (2 ^ j) (by omega) p64
    have hij : i = j := by
      have a := (Nat.pow_le_pow_iff_right (show 1 < 2 by decide)).1 h3
      have b := (Nat.pow_lt_pow_iff_right (show 1 < 2 by decide)).1 h4
      omega
    subst hij
    have c1 := fun w => log_any n hn w
    have c2 := fun w => pow_any n hn w
    have c3 := fun w => log_any (2 ^ i) p64 w
    have c4 := fun w => pow_any (2 ^ i) p64 w
    rw [hL, show ((i + 1 : Nat) : Int) - 1 = (i : Int) by omega] at c1
    rw [hI, show ((i + 1 : Nat) : Int) - 1 = (i : Int) by omega] at c3
    rw [isPow_between n i h1 h2] at c2
    rw [isPow_two_pow] at c4
    have q : n / 2 ^ i = 1 := by
      rw [Nat.div_eq_iff p0]
      rw [Nat.pow_succ] at h2
      omega
    refine core n ((2 ^ i : Nat) : Int) i hj (by omega) (by omega) (by simp; omega) ?_ (by simp) (by simp; omega) ?_ c1 c2 c3 c4 w
    · have : (n : Int) / 2 ^ i = 1 := by
        have e : (n : Int) / ((2 ^ i : Nat) : Int) = ((n / 2 ^ i : Nat) : Int) := rfl
        rw [q] at e
        simpa using e
      rw [this]; rfl
    · rw [IntKind.wrap_u64, show (2 : Int) ^ i = ((2 ^ i : Nat) : Int) by simp]
      omega

/-! ### The row -/
set_option maxRecDepth 100000 in
theorem lifted (os : Os) (started : os.Started) (H : Type) (enc : TypeId × Value → H) :
    ReturnsInHanded {} Try.checked os 8 .any (Rows.numHalvesSpec.pre6 enc Try.prog Try.f8 Rows.numHalvesRow.domain false) (Rows.numHalvesSpec.post enc Try.prog Try.f8 false true false false) := by
  refine returnsInHanded_of_change (C := Try.checked) own started (by kernel_rfl) Try.func8
    (ChangeSpec.witness6 (enc := enc) (C := Try.checked) false ⟨#[], #[.int .u64 0], []⟩ 8 (by kernel_rfl) (by kernel_rfl) (by kernel_rfl) (by kernel_rfl)) ?_
  intro W base args ds gs before hval0 hW hcnd _
  have hval : ∀ (j : Nat) t v, Try.f8.params[j]? = some t → args[j]? = some v → Value.okWide Try.prog W .any base t v := hval0
  have hW' := hW
  obtain ⟨p, q, hA0, hV, rfl, hfz, hnd⟩ := hW
  have hA : DataW.TrodAll enc Try.prog W 0 (fun _ => true) true Try.f8.params.toList args.toList ds p := hA0
  rw [Try.params8] at hA hval
  obtain ⟨v0, vs0, d0, ds0, p0, q0, hargs, rfl, rfl, h0, r0⟩ := trodAll_cons hA
  obtain ⟨rfl, rfl, rfl⟩ := trodAll_nil r0
  obtain rfl : args = #[v0] := by cases args; simp_all
  obtain ⟨rfl, rfl⟩ := trodVars_none hV
  obtain ⟨a0, rfl, rfl, rfl, w0⟩ := open_int Try.underlying22 (hval 0 22 v0 rfl rfl) h0
  clear hA0 hval0
  simp only [List.append_nil] at hW'
  refine (walk a0 w0 W).mono fun e W' ⟨he, hg⟩ => ?_
  subst he
  exact ⟨_, rfl, post_of_same (pa := []) (pv := []) hW' (fun _ _ _ => (trodAll_cons_mk (shut_bool Try.underlying4 _) trodAll_mk0)) (fun sp _ => (trodAll_cons_mk (shut_int Try.underlying22 w0) trodAll_mk0)) (fun _ _ => rfl) rfl
    (hg.frame _) hg.2.1 (ok_one (by kernel_rfl) rfl (okWide_bool_mk Try.underlying4 _))⟩

theorem over : Rows.numHalvesRow.holds Try.pinned (OpenSpec.ofChange Rows.numHalvesSpec) :=
  OpenClaim.holds_of_wide 8 Try.f8 rfl rfl rfl rfl rfl rfl rfl ⟨rfl, rfl, rfl, rfl, rfl⟩ rfl rfl rfl rfl rfl (by kernel_rfl) Try.func8 (by kernel_rfl)
    (of_decide_eq_true (by kernel_rfl)) (by unfold Func.isWrapper; first | (rw [if_pos (by decide +kernel)]; kernel_rfl) | (rw [if_neg (by decide +kernel)]; exact ⟨rfl, rfl⟩))
    (fun os started H enc _ => lifted os started H enc)

theorem proved : Rows.NumHalvesSaid :=
  over
#print axioms proved
end Go.Proofs.Ytfgfeakheagcaaa.numHalves
