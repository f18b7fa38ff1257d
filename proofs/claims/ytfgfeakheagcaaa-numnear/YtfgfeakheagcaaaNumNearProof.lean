/-
  For every n and a (64 bits each): Up lies at most one multiple above Down, both are multiples with n between, and the law returns true. No condition.
-/
import Derived.Test.YtfgfeakheagcaaaRows
import Derived.WalkKit
import Derived.ProofKit
import Derived.OpenShut
import Derived.Test.YtfgfeakheagcaaaPow
import Derived.RegionTactic
import Derived.Deep.RegionWith
namespace Go.Proofs.Ytfgfeakheagcaaa.numNear
open Go.ChangeShapes Go.WideShapes Go.ChangeAt Go.RowKit
set_option linter.unusedVariables false

theorem own : ownKnob Try.prog.godebug = none := by kernel_rfl

/-- a is 0. -/
theorem near0 (n : Int) (hn : 0 ≤ n ∧ n ≤ 18446744073709551615)
    (c1 : ∀ w : World, Calls Try.prog 11 #[.int .u64 n, .int .u64 0] w fun e w' => e = .returned (.tuple #[.int .u64 0, .bool false]) ∧ w' = w)
    (c2 : ∀ w : World, Calls Try.prog 9 #[.int .u64 n, .int .u64 0] w fun e w' => e = .returned (.tuple #[.int .u64 0, .bool false]) ∧ w' = w)
    (c3 : ∀ w : World, Calls Try.prog 13 #[.int .u64 n, .int .u64 0] w fun e w' => e = .returned (.tuple #[.int .u64 0, .bool false]) ∧ w' = w) (w : World) :
    Calls Try.prog 7 #[.int .u64 n, .int .u64 0] w fun e w' => e = .returned (.bool true) ∧ Grown w w' := by
  have c5 := awake_any
  go_enter Try.func7, Try.ntmps7
  go_wp2_with (first
    | (go_at_call 11; refine (c1 _).mono ?_; rintro e w' ⟨rfl, rfl⟩)
    | (go_at_call 9; refine (c2 _).mono ?_; rintro e w' ⟨rfl, rfl⟩)
    | (go_at_call 13; refine (c3 _).mono ?_; rintro e w' ⟨rfl, rfl⟩)
    | (go_at_call 15; refine (c5 _).mono ?_; rintro e w' ⟨rfl, rfl⟩))
  go_ret
  exact ⟨rfl, Grown.refl _⟩

/-- n is a multiple of a. -/
theorem near1 (n a k : Int) (hn : 0 ≤ n ∧ n ≤ 18446744073709551615) (ha : 0 < a ∧ a ≤ 18446744073709551615) (z : (a == 0) = false) (t : (n % a == 0) = true) (t' : n % a = 0) (hk : k * a = n) (tk : (n / a == k) = true)
    (c1 : ∀ w : World, Calls Try.prog 11 #[.int .u64 n, .int .u64 a] w fun e w' => e = .returned (.tuple #[.int .u64 n, .bool true]) ∧ w' = w)
    (c2 : ∀ w : World, Calls Try.prog 9 #[.int .u64 n, .int .u64 a] w fun e w' => e = .returned (.tuple #[.int .u64 n, .bool true]) ∧ w' = w)
    (c3 : ∀ w : World, Calls Try.prog 13 #[.int .u64 n, .int .u64 a] w fun e w' => e = .returned (.tuple #[.int .u64 k, .bool true]) ∧ w' = w) (w : World) :
    Calls Try.prog 7 #[.int .u64 n, .int .u64 a] w fun e w' => e = .returned (.bool true) ∧ Grown w w' := by
  have c5 := awake_any
  go_enter Try.func7, Try.ntmps7
  go_wp2_with (first
    | (go_at_call 11; refine (c1 _).mono ?_; rintro e w' ⟨rfl, rfl⟩)
    | (go_at_call 9; refine (c2 _).mono ?_; rintro e w' ⟨rfl, rfl⟩)
    | (go_at_call 13; refine (c3 _).mono ?_; rintro e w' ⟨rfl, rfl⟩)
    | (go_at_call 15; refine (c5 _).mono ?_; rintro e w' ⟨rfl, rfl⟩))
  go_ret
  exact ⟨rfl, Grown.refl _⟩

/-- n is none, the next multiple fits. -/
theorem near2 (n a d u k : Int) (hn : 0 ≤ n ∧ n ≤ 18446744073709551615) (ha : 0 < a ∧ a ≤ 18446744073709551615) (z : (a == 0) = false) (t : (n % a == 0) = false) (t' : ¬ n % a = 0) (t'' : (n % a != 0) = true) (hd : 0 ≤ d ∧ d ≤ n) (hda : n - d < a) (td : (d % a == 0) = true) (td' : d % a = 0)
    (hu : n ≤ u ∧ u ≤ 18446744073709551615) (tu : (u % a == 0) = true) (te : (u == d) = false) (tf : (u - d == a) = true) (hk : n ≤ k * a ∧ k * a ≤ 18446744073709551615 ∧ k * a - n < a) (tk : (u / a == k) = true)
    (c1 : ∀ w : World, Calls Try.prog 11 #[.int .u64 n, .int .u64 a] w fun e w' => e = .returned (.tuple #[.int .u64 d, .bool true]) ∧ w' = w)
    (c2 : ∀ w : World, Calls Try.prog 9 #[.int .u64 n, .int .u64 a] w fun e w' => e = .returned (.tuple #[.int .u64 u, .bool true]) ∧ w' = w)
    (c3 : ∀ w : World, Calls Try.prog 13 #[.int .u64 n, .int .u64 a] w fun e w' => e = .returned (.tuple #[.int .u64 k, .bool true]) ∧ w' = w) (w : World) :
    Calls Try.prog 7 #[.int .u64 n, .int .u64 a] w fun e w' => e = .returned (.bool true) ∧ Grown w w' := by
  have c5 := awake_any
  go_enter Try.func7, Try.ntmps7
  go_wp2_with (first
    | (go_at_call 11; refine (c1 _).mono ?_; rintro e w' ⟨rfl, rfl⟩)
    | (go_at_call 9; refine (c2 _).mono ?_; rintro e w' ⟨rfl, rfl⟩)
    | (go_at_call 13; refine (c3 _).mono ?_; rintro e w' ⟨rfl, rfl⟩)
    | (go_at_call 15; refine (c5 _).mono ?_; rintro e w' ⟨rfl, rfl⟩))
  go_ret
  exact ⟨rfl, Grown.refl _⟩

/-- n is none, the next multiple does not fit. -/
theorem near3 (n a d k : Int) (hn : 0 ≤ n ∧ n ≤ 18446744073709551615) (ha : 0 < a ∧ a ≤ 18446744073709551615) (z : (a == 0) = false) (t : (n % a == 0) = false) (t' : ¬ n % a = 0) (t'' : (n % a != 0) = true) (hd : 0 ≤ d ∧ d ≤ n) (hda : n - d < a) (td : (d % a == 0) = true) (td' : d % a = 0)
    (hf : 18446744073709551615 - a < d) (hk : ¬ a ≤ IntKind.u64.wrap (IntKind.u64.wrap (k * a) - n))
    (c1 : ∀ w : World, Calls Try.prog 11 #[.int .u64 n, .int .u64 a] w fun e w' => e = .returned (.tuple #[.int .u64 d, .bool true]) ∧ w' = w)
    (c2 : ∀ w : World, Calls Try.prog 9 #[.int .u64 n, .int .u64 a] w fun e w' => e = .returned (.tuple #[.int .u64 0, .bool false]) ∧ w' = w)
    (c3 : ∀ w : World, Calls Try.prog 13 #[.int .u64 n, .int .u64 a] w fun e w' => e = .returned (.tuple #[.int .u64 k, .bool true]) ∧ w' = w) (w : World) :
    Calls Try.prog 7 #[.int .u64 n, .int .u64 a] w fun e w' => e = .returned (.bool true) ∧ Grown w w' := by
  have c5 := awake_any
  go_enter Try.func7, Try.ntmps7
  go_wp2_with (first
    | (go_at_call 11; refine (c1 _).mono ?_; rintro e w' ⟨rfl, rfl⟩)
    | (go_at_call 9; refine (c2 _).mono ?_; rintro e w' ⟨rfl, rfl⟩)
    | (go_at_call 13; refine (c3 _).mono ?_; rintro e w' ⟨rfl, rfl⟩)
    | (go_at_call 15; refine (c5 _).mono ?_; rintro e w' ⟨rfl, rfl⟩))
  go_ret
  exact ⟨rfl, Grown.refl _⟩

/-! ### The walk -/
theorem walk (a0 : Int) (a1 : Int) (w0 : (Lit.int .u64 a0).wf = true) (w1 : (Lit.int .u64 a1).wf = true) (w : World) :
    Calls Try.prog 7 #[.int .u64 a0, .int .u64 a1] w fun e w' => e = .returned (.bool true) ∧ Grown w w' := by
  have hn := bounds_u64 w0
  have ha := bounds_u64 w1
  clear w0 w1
  have c1 := fun w => down_any a0 a1 hn ha w
  have c2 := fun w => up_any a0 a1 hn ha w
  have c3 := fun w => ceil_any a0 a1 hn ha w
  by_cases h0 : a1 = 0
  · subst h0
    exact near0 a0 hn c1 c2 c3 w
  · obtain ⟨e1, e2, f1, f2, f3, f4, f5⟩ := mod_facts a0 a1 hn.1 ha.1 h0
    have z : (a1 == 0) = false := by simpa using h0
    have eO : decide (a1 ≠ 0) = true := by simpa using h0
    have eD : downV a0 a1 = a0 - a0 % a1 := by simp [downV, h0]
    have hdm := Int.mul_ediv_add_emod a0 a1
    have hpos : 0 < a1 := by omega
    rw [eO, eD] at c1
    rw [eO] at c3
    have md : (a0 - a0 % a1) % a1 = 0 := by
      rw [show a0 - a0 % a1 = a1 * (a0 / a1) by omega]; exact Int.mul_emod_right a1 _
    by_cases hm : a0 % a1 = 0
    · have eV : upV a0 a1 = a0 := by simp [upV, upOk, h0, hm]
      have eU : upOk a0 a1 = true := by simp [upOk, h0, hm]
      have eC : ceilV a0 a1 = a0 / a1 := by simp [ceilV, h0, hm]
      rw [eV, eU] at c2
      rw [eC] at c3
      rw [hm, Int.sub_zero] at c1
      exact near1 a0 a1 _ hn ⟨hpos, ha.2⟩ z (by simpa using hm) hm (by rw [Int.mul_comm]; omega) (by simp) c1 c2 c3 w
    · have eC : ceilV a0 a1 = a0 / a1 + 1 := by simp [ceilV, h0, hm]
      rw [eC] at c3
      have kA : (a0 / a1 + 1) * a1 = a0 - a0 % a1 + a1 := by rw [Int.add_mul, Int.mul_comm]; omega
      by_cases hl : a0 - a0 % a1 + a1 ≤ 18446744073709551615
      · have eV : upV a0 a1 = a0 - a0 % a1 + a1 := by simp [upV, upOk, h0, hm, hl]
        have eU : upOk a0 a1 = true := by simp [upOk, h0, hm, hl]
        rw [eV, eU] at c2
        have q1 : (a0 - a0 % a1 + a1) % a1 = 0 := by rw [Int.add_emod_right]; exact md
        have q2 : (a0 - a0 % a1 + a1) / a1 = a0 / a1 + 1 := by rw [← kA]; exact Int.mul_ediv_cancel _ h0
        exact near2 a0 a1 _ _ _ hn ⟨hpos, ha.2⟩ z (by simpa using hm) hm (by simpa using hm) ⟨by omega, by omega⟩ (by omega) (beq_iff_eq.2 md) md ⟨by omega, hl⟩ (beq_iff_eq.2 q1) (by simp; omega) (by simp; omega)
          ⟨by omega, by omega, by omega⟩ (beq_iff_eq.2 q2) c1 c2 c3 w
      · have eU : upOk a0 a1 = false := by simp [upOk, h0, hm]; omega
        have eV : upV a0 a1 = 0 := by simp [upV, eU]
        rw [eV, eU] at c2
        exact near3 a0 a1 _ _ hn ⟨hpos, ha.2⟩ z (by simpa using hm) hm (by simpa using hm) ⟨by omega, by omega⟩ (by omega) (beq_iff_eq.2 md) md (by omega)
          (by rw [kA, IntKind.wrap_u64, IntKind.wrap_u64]; omega) c1 c2 c3 w

/-! ### The row -/
set_option maxRecDepth 100000 in
theorem lifted (os : Os) (started : os.Started) (H : Type) (enc : TypeId × Value → H) :
    ReturnsInHanded {} Try.checked os 7 .any (Rows.numNearSpec.pre6 enc Try.prog Try.f7 Rows.numNearRow.domain false) (Rows.numNearSpec.post enc Try.prog Try.f7 false true false false) := by
  refine returnsInHanded_of_change (C := Try.checked) own started (by kernel_rfl) Try.func7
    (ChangeSpec.witness6 (enc := enc) (C := Try.checked) false ⟨#[], #[.int .u64 0, .int .u64 0], []⟩ 8 (by kernel_rfl) (by kernel_rfl) (by kernel_rfl) (by kernel_rfl)) ?_
  intro W base args ds gs before hval0 hW hcnd _
  have hval : ∀ (j : Nat) t v, Try.f7.params[j]? = some t → args[j]? = some v → Value.okWide Try.prog W .any base t v := hval0
  have hW' := hW
  obtain ⟨p, q, hA0, hV, rfl, hfz, hnd⟩ := hW
  have hA : DataW.TrodAll enc Try.prog W 0 (fun _ => true) true Try.f7.params.toList args.toList ds p := hA0
  rw [Try.params7] at hA hval
  obtain ⟨v0, vs0, d0, ds0, p0, q0, hargs, rfl, rfl, h0, r0⟩ := trodAll_cons hA
  obtain ⟨v1, vs1, d1, ds1, p1, q1, rfl, rfl, rfl, h1, r1⟩ := trodAll_cons r0
  obtain ⟨rfl, rfl, rfl⟩ := trodAll_nil r1
  obtain rfl : args = #[v0, v1] := by cases args; simp_all
  obtain ⟨rfl, rfl⟩ := trodVars_none hV
  obtain ⟨a0, rfl, rfl, rfl, w0⟩ := open_int Try.underlying22 (hval 0 22 v0 rfl rfl) h0
  obtain ⟨a1, rfl, rfl, rfl, w1⟩ := open_int Try.underlying22 (hval 1 22 v1 rfl rfl) h1
  clear hA0 hval0
  simp only [List.append_nil] at hW'
  refine (walk a0 a1 w0 w1 W).mono fun e W' ⟨he, hg⟩ => ?_
  subst he
  exact ⟨_, rfl, post_of_same (pa := []) (pv := []) hW' (fun _ _ _ => (trodAll_cons_mk (shut_bool Try.underlying4 _) trodAll_mk0)) (fun sp _ => (trodAll_cons_mk (shut_int Try.underlying22 w0) (trodAll_cons_mk (shut_int Try.underlying22 w1) trodAll_mk0))) (fun _ _ => rfl) rfl
    (hg.frame _) hg.2.1 (ok_one (by kernel_rfl) rfl (okWide_bool_mk Try.underlying4 _))⟩

theorem over : Rows.numNearRow.holds Try.pinned (OpenSpec.ofChange Rows.numNearSpec) :=
  OpenClaim.holds_of_wide 7 Try.f7 rfl rfl rfl rfl rfl rfl rfl ⟨rfl, rfl, rfl, rfl, rfl⟩ rfl rfl rfl rfl rfl (by kernel_rfl) Try.func7 (by kernel_rfl)
    (of_decide_eq_true (by kernel_rfl)) (by unfold Func.isWrapper; first | (rw [if_pos (by decide +kernel)]; kernel_rfl) | (rw [if_neg (by decide +kernel)]; exact ⟨rfl, rfl⟩))
    (fun os started H enc _ => lifted os started H enc)

theorem proved : Rows.NumNearSaid :=
  over
#print axioms proved
end Go.Proofs.Ytfgfeakheagcaaa.numNear
