/-
  For every n, m and a (64 bits each): what is rounded once is not moved by rounding again, greater numbers are rounded no lower, and the law returns true. No condition.
-/
import Derived.Test.YtfgfeakheagcaabRows
import Derived.WalkKit
import Derived.ProofKit
import Derived.OpenShut
import Derived.Test.YtfgfeakheagcaabNum
import Derived.RegionTactic
import Derived.Deep.RegionWith
namespace Go.Proofs.Ytfgfeakheagcaab.numSteps
open Go.ChangeShapes Go.WideShapes Go.ChangeAt Go.RowKit
set_option linter.unusedVariables false

theorem own : ownKnob Try.prog.godebug = none := by kernel_rfl

theorem s0l (n m a d f u v : Int) (hn : 0 ≤ n ∧ n ≤ 18446744073709551615) (hm : 0 ≤ m ∧ m ≤ 18446744073709551615) (ha : 0 < a ∧ a ≤ 18446744073709551615) (z : (a == 0) = false) (hs : n ≤ m) (hdf : d ≤ f) (huv : u ≤ v)
    (c1 : ∀ w : World, Calls Try.prog 5 #[.int .u64 n, .int .u64 a] w fun e w' => e = .returned (.tuple #[.int .u64 d, .bool true]) ∧ w' = w)
    (c2 : ∀ w : World, Calls Try.prog 5 #[.int .u64 d, .int .u64 a] w fun e w' => e = .returned (.tuple #[.int .u64 d, .bool true]) ∧ w' = w)
    (c3 : ∀ w : World, Calls Try.prog 5 #[.int .u64 m, .int .u64 a] w fun e w' => e = .returned (.tuple #[.int .u64 f, .bool true]) ∧ w' = w)
    (c4 : ∀ w : World, Calls Try.prog 6 #[.int .u64 n, .int .u64 a] w fun e w' => e = .returned (.tuple #[.int .u64 u, .bool true]) ∧ w' = w)
    (c6 : ∀ w : World, Calls Try.prog 6 #[.int .u64 m, .int .u64 a] w fun e w' => e = .returned (.tuple #[.int .u64 v, .bool true]) ∧ w' = w)
    (c7 : ∀ w : World, Calls Try.prog 6 #[.int .u64 u, .int .u64 a] w fun e w' => e = .returned (.tuple #[.int .u64 u, .bool true]) ∧ w' = w)
    (c8 : ∀ w : World, Calls Try.prog 5 #[.int .u64 u, .int .u64 a] w fun e w' => e = .returned (.tuple #[.int .u64 u, .bool true]) ∧ w' = w) (w : World) :
    Calls Try.prog 3 #[.int .u64 n, .int .u64 m, .int .u64 a] w fun e w' => e = .returned (.bool true) ∧ Grown w w' := by
  have c5 := awake_any
  go_enter Try.func3, Try.ntmps3
  go_wp2_with fail
  go_at_call 5
  refine (c1 _).mono ?_
  rintro e w' ⟨rfl, rfl⟩
  go_wp2_with fail
  go_at_call 5
  refine (c2 _).mono ?_
  rintro e w' ⟨rfl, rfl⟩
  go_wp2_with fail
  go_at_call 5
  refine (c3 _).mono ?_
  rintro e w' ⟨rfl, rfl⟩
  go_wp2_with fail
  go_at_call 6
  refine (c4 _).mono ?_
  rintro e w' ⟨rfl, rfl⟩
  go_wp2_with fail
  go_at_call 6
  refine (c6 _).mono ?_
  rintro e w' ⟨rfl, rfl⟩
  go_wp2_with fail
  go_at_call 6
  refine (c7 _).mono ?_
  rintro e w' ⟨rfl, rfl⟩
  go_wp2_with fail
  go_at_call 5
  refine (c8 _).mono ?_
  rintro e w' ⟨rfl, rfl⟩
  go_wp2_with fail
  go_at_call 7
  refine (c5 _).mono ?_
  rintro e w' ⟨rfl, rfl⟩
  go_wp2_with fail
  go_ret
  exact ⟨rfl, Grown.refl _⟩

theorem s1l (n m a d f u v : Int) (hn : 0 ≤ n ∧ n ≤ 18446744073709551615) (hm : 0 ≤ m ∧ m ≤ 18446744073709551615) (ha : 0 < a ∧ a ≤ 18446744073709551615) (z : (a == 0) = false) (hs : n ≤ m) (hdf : d ≤ f) (huv : True)
    (c1 : ∀ w : World, Calls Try.prog 5 #[.int .u64 n, .int .u64 a] w fun e w' => e = .returned (.tuple #[.int .u64 d, .bool true]) ∧ w' = w)
    (c2 : ∀ w : World, Calls Try.prog 5 #[.int .u64 d, .int .u64 a] w fun e w' => e = .returned (.tuple #[.int .u64 d, .bool true]) ∧ w' = w)
    (c3 : ∀ w : World, Calls Try.prog 5 #[.int .u64 m, .int .u64 a] w fun e w' => e = .returned (.tuple #[.int .u64 f, .bool true]) ∧ w' = w)
    (c4 : ∀ w : World, Calls Try.prog 6 #[.int .u64 n, .int .u64 a] w fun e w' => e = .returned (.tuple #[.int .u64 u, .bool true]) ∧ w' = w)
    (c6 : ∀ w : World, Calls Try.prog 6 #[.int .u64 m, .int .u64 a] w fun e w' => e = .returned (.tuple #[.int .u64 v, .bool false]) ∧ w' = w)
    (c7 : ∀ w : World, Calls Try.prog 6 #[.int .u64 u, .int .u64 a] w fun e w' => e = .returned (.tuple #[.int .u64 u, .bool true]) ∧ w' = w)
    (c8 : ∀ w : World, Calls Try.prog 5 #[.int .u64 u, .int .u64 a] w fun e w' => e = .returned (.tuple #[.int .u64 u, .bool true]) ∧ w' = w) (w : World) :
    Calls Try.prog 3 #[.int .u64 n, .int .u64 m, .int .u64 a] w fun e w' => e = .returned (.bool true) ∧ Grown w w' := by
  have c5 := awake_any
  go_enter Try.func3, Try.ntmps3
  go_wp2_with fail
  go_at_call 5
  refine (c1 _).mono ?_
  rintro e w' ⟨rfl, rfl⟩
  go_wp2_with fail
  go_at_call 5
  refine (c2 _).mono ?_
  rintro e w' ⟨rfl, rfl⟩
  go_wp2_with fail
  go_at_call 5
  refine (c3 _).mono ?_
  rintro e w' ⟨rfl, rfl⟩
  go_wp2_with fail
  go_at_call 6
  refine (c4 _).mono ?_
  rintro e w' ⟨rfl, rfl⟩
  go_wp2_with fail
  go_at_call 6
  refine (c6 _).mono ?_
  rintro e w' ⟨rfl, rfl⟩
  go_wp2_with fail
  go_at_call 6
  refine (c7 _).mono ?_
  rintro e w' ⟨rfl, rfl⟩
  go_wp2_with fail
  go_at_call 5
  refine (c8 _).mono ?_
  rintro e w' ⟨rfl, rfl⟩
  go_wp2_with fail
  go_at_call 7
  refine (c5 _).mono ?_
  rintro e w' ⟨rfl, rfl⟩
  go_wp2_with fail
  go_ret
  exact ⟨rfl, Grown.refl _⟩

theorem s2l (n m a d f u v : Int) (hn : 0 ≤ n ∧ n ≤ 18446744073709551615) (hm : 0 ≤ m ∧ m ≤ 18446744073709551615) (ha : 0 < a ∧ a ≤ 18446744073709551615) (z : (a == 0) = false) (hs : n ≤ m) (hdf : d ≤ f) (huv : True)
    (c1 : ∀ w : World, Calls Try.prog 5 #[.int .u64 n, .int .u64 a] w fun e w' => e = .returned (.tuple #[.int .u64 d, .bool true]) ∧ w' = w)
    (c2 : ∀ w : World, Calls Try.prog 5 #[.int .u64 d, .int .u64 a] w fun e w' => e = .returned (.tuple #[.int .u64 d, .bool true]) ∧ w' = w)
    (c3 : ∀ w : World, Calls Try.prog 5 #[.int .u64 m, .int .u64 a] w fun e w' => e = .returned (.tuple #[.int .u64 f, .bool true]) ∧ w' = w)
    (c4 : ∀ w : World, Calls Try.prog 6 #[.int .u64 n, .int .u64 a] w fun e w' => e = .returned (.tuple #[.int .u64 u, .bool false]) ∧ w' = w)
    (c6 : ∀ w : World, Calls Try.prog 6 #[.int .u64 m, .int .u64 a] w fun e w' => e = .returned (.tuple #[.int .u64 v, .bool false]) ∧ w' = w) (w : World) :
    Calls Try.prog 3 #[.int .u64 n, .int .u64 m, .int .u64 a] w fun e w' => e = .returned (.bool true) ∧ Grown w w' := by
  have c5 := awake_any
  go_enter Try.func3, Try.ntmps3
  go_wp2_with fail
  go_at_call 5
  refine (c1 _).mono ?_
  rintro e w' ⟨rfl, rfl⟩
  go_wp2_with fail
  go_at_call 5
  refine (c2 _).mono ?_
  rintro e w' ⟨rfl, rfl⟩
  go_wp2_with fail
  go_at_call 5
  refine (c3 _).mono ?_
  rintro e w' ⟨rfl, rfl⟩
  go_wp2_with fail
  go_at_call 6
  refine (c4 _).mono ?_
  rintro e w' ⟨rfl, rfl⟩
  go_wp2_with fail
  go_at_call 6
  refine (c6 _).mono ?_
  rintro e w' ⟨rfl, rfl⟩
  go_wp2_with fail
  go_at_call 7
  refine (c5 _).mono ?_
  rintro e w' ⟨rfl, rfl⟩
  go_wp2_with fail
  go_ret
  exact ⟨rfl, Grown.refl _⟩

theorem s0g (n m a d f u v : Int) (hn : 0 ≤ n ∧ n ≤ 18446744073709551615) (hm : 0 ≤ m ∧ m ≤ 18446744073709551615) (ha : 0 < a ∧ a ≤ 18446744073709551615) (z : (a == 0) = false) (hs : n < m) (hdf : d ≤ f) (huv : u ≤ v)
    (c1 : ∀ w : World, Calls Try.prog 5 #[.int .u64 n, .int .u64 a] w fun e w' => e = .returned (.tuple #[.int .u64 d, .bool true]) ∧ w' = w)
    (c2 : ∀ w : World, Calls Try.prog 5 #[.int .u64 d, .int .u64 a] w fun e w' => e = .returned (.tuple #[.int .u64 d, .bool true]) ∧ w' = w)
    (c3 : ∀ w : World, Calls Try.prog 5 #[.int .u64 m, .int .u64 a] w fun e w' => e = .returned (.tuple #[.int .u64 f, .bool true]) ∧ w' = w)
    (c4 : ∀ w : World, Calls Try.prog 6 #[.int .u64 n, .int .u64 a] w fun e w' => e = .returned (.tuple #[.int .u64 u, .bool true]) ∧ w' = w)
    (c6 : ∀ w : World, Calls Try.prog 6 #[.int .u64 m, .int .u64 a] w fun e w' => e = .returned (.tuple #[.int .u64 v, .bool true]) ∧ w' = w)
    (c7 : ∀ w : World, Calls Try.prog 6 #[.int .u64 u, .int .u64 a] w fun e w' => e = .returned (.tuple #[.int .u64 u, .bool true]) ∧ w' = w)
    (c8 : ∀ w : World, Calls Try.prog 5 #[.int .u64 u, .int .u64 a] w fun e w' => e = .returned (.tuple #[.int .u64 u, .bool true]) ∧ w' = w) (w : World) :
    Calls Try.prog 3 #[.int .u64 m, .int .u64 n, .int .u64 a] w fun e w' => e = .returned (.bool true) ∧ Grown w w' := by
  have c5 := awake_any
  go_enter Try.func3, Try.ntmps3
  go_wp2_with fail
  go_at_call 5
  refine (c1 _).mono ?_
  rintro e w' ⟨rfl, rfl⟩
  go_wp2_with fail
  go_at_call 5
  refine (c2 _).mono ?_
  rintro e w' ⟨rfl, rfl⟩
  go_wp2_with fail
  go_at_call 5
  refine (c3 _).mono ?_
  rintro e w' ⟨rfl, rfl⟩
  go_wp2_with fail
  go_at_call 6
  refine (c4 _).mono ?_
  rintro e w' ⟨rfl, rfl⟩
  go_wp2_with fail
  go_at_call 6
  refine (c6 _).mono ?_
  rintro e w' ⟨rfl, rfl⟩
  go_wp2_with fail
  go_at_call 6
  refine (c7 _).mono ?_
  rintro e w' ⟨rfl, rfl⟩
  go_wp2_with fail
  go_at_call 5
  refine (c8 _).mono ?_
  rintro e w' ⟨rfl, rfl⟩
  go_wp2_with fail
  go_at_call 7
  refine (c5 _).mono ?_
  rintro e w' ⟨rfl, rfl⟩
  go_wp2_with fail
  go_ret
  exact ⟨rfl, Grown.refl _⟩

theorem s1g (n m a d f u v : Int) (hn : 0 ≤ n ∧ n ≤ 18446744073709551615) (hm : 0 ≤ m ∧ m ≤ 18446744073709551615) (ha : 0 < a ∧ a ≤ 18446744073709551615) (z : (a == 0) = false) (hs : n < m) (hdf : d ≤ f) (huv : True)
    (c1 : ∀ w : World, Calls Try.prog 5 #[.int .u64 n, .int .u64 a] w fun e w' => e = .returned (.tuple #[.int .u64 d, .bool true]) ∧ w' = w)
    (c2 : ∀ w : World, Calls Try.prog 5 #[.int .u64 d, .int .u64 a] w fun e w' => e = .returned (.tuple #[.int .u64 d, .bool true]) ∧ w' = w)
    (c3 : ∀ w : World, Calls Try.prog 5 #[.int .u64 m, .int .u64 a] w fun e w' => e = .returned (.tuple #[.int .u64 f, .bool true]) ∧ w' = w)
    (c4 : ∀ w : World, Calls Try.prog 6 #[.int .u64 n, .int .u64 a] w fun e w' => e = .returned (.tuple #[.int .u64 u, .bool true]) ∧ w' = w)
    (c6 : ∀ w : World, Calls Try.prog 6 #[.int .u64 m, .int .u64 a] w fun e w' => e = .returned (.tuple #[.int .u64 v, .bool false]) ∧ w' = w)
    (c7 : ∀ w : World, Calls Try.prog 6 #[.int .u64 u, .int .u64 a] w fun e w' => e = .returned (.tuple #[.int .u64 u, .bool true]) ∧ w' = w)
    (c8 : ∀ w : World, Calls Try.prog 5 #[.int .u64 u, .int .u64 a] w fun e w' => e = .returned (.tuple #[.int .u64 u, .bool true]) ∧ w' = w) (w : World) :
    Calls Try.prog 3 #[.int .u64 m, .int .u64 n, .int .u64 a] w fun e w' => e = .returned (.bool true) ∧ Grown w w' := by
  have c5 := awake_any
  go_enter Try.func3, Try.ntmps3
  go_wp2_with fail
  go_at_call 5
  refine (c1 _).mono ?_
  rintro e w' ⟨rfl, rfl⟩
  go_wp2_with fail
  go_at_call 5
  refine (c2 _).mono ?_
  rintro e w' ⟨rfl, rfl⟩
  go_wp2_with fail
  go_at_call 5
  refine (c3 _).mono ?_
  rintro e w' ⟨rfl, rfl⟩
  go_wp2_with fail
  go_at_call 6
  refine (c4 _).mono ?_
  rintro e w' ⟨rfl, rfl⟩
  go_wp2_with fail
  go_at_call 6
  refine (c6 _).mono ?_
  rintro e w' ⟨rfl, rfl⟩
  go_wp2_with fail
  go_at_call 6
  refine (c7 _).mono ?_
  rintro e w' ⟨rfl, rfl⟩
  go_wp2_with fail
  go_at_call 5
  refine (c8 _).mono ?_
  rintro e w' ⟨rfl, rfl⟩
  go_wp2_with fail
  go_at_call 7
  refine (c5 _).mono ?_
  rintro e w' ⟨rfl, rfl⟩
  go_wp2_with fail
  go_ret
  exact ⟨rfl, Grown.refl _⟩

theorem s2g (n m a d f u v : Int) (hn : 0 ≤ n ∧ n ≤ 18446744073709551615) (hm : 0 ≤ m ∧ m ≤ 18446744073709551615) (ha : 0 < a ∧ a ≤ 18446744073709551615) (z : (a == 0) = false) (hs : n < m) (hdf : d ≤ f) (huv : True)
    (c1 : ∀ w : World, Calls Try.prog 5 #[.int .u64 n, .int .u64 a] w fun e w' => e = .returned (.tuple #[.int .u64 d, .bool true]) ∧ w' = w)
    (c2 : ∀ w : World, Calls Try.prog 5 #[.int .u64 d, .int .u64 a] w fun e w' => e = .returned (.tuple #[.int .u64 d, .bool true]) ∧ w' = w)
    (c3 : ∀ w : World, Calls Try.prog 5 #[.int .u64 m, .int .u64 a] w fun e w' => e = .returned (.tuple #[.int .u64 f, .bool true]) ∧ w' = w)
    (c4 : ∀ w : World, Calls Try.prog 6 #[.int .u64 n, .int .u64 a] w fun e w' => e = .returned (.tuple #[.int .u64 u, .bool false]) ∧ w' = w)
    (c6 : ∀ w : World, Calls Try.prog 6 #[.int .u64 m, .int .u64 a] w fun e w' => e = .returned (.tuple #[.int .u64 v, .bool false]) ∧ w' = w) (w : World) :
    Calls Try.prog 3 #[.int .u64 m, .int .u64 n, .int .u64 a] w fun e w' => e = .returned (.bool true) ∧ Grown w w' := by
  have c5 := awake_any
  go_enter Try.func3, Try.ntmps3
  go_wp2_with fail
  go_at_call 5
  refine (c1 _).mono ?_
  rintro e w' ⟨rfl, rfl⟩
  go_wp2_with fail
  go_at_call 5
  refine (c2 _).mono ?_
  rintro e w' ⟨rfl, rfl⟩
  go_wp2_with fail
  go_at_call 5
  refine (c3 _).mono ?_
  rintro e w' ⟨rfl, rfl⟩
  go_wp2_with fail
  go_at_call 6
  refine (c4 _).mono ?_
  rintro e w' ⟨rfl, rfl⟩
  go_wp2_with fail
  go_at_call 6
  refine (c6 _).mono ?_
  rintro e w' ⟨rfl, rfl⟩
  go_wp2_with fail
  go_at_call 7
  refine (c5 _).mono ?_
  rintro e w' ⟨rfl, rfl⟩
  go_wp2_with fail
  go_ret
  exact ⟨rfl, Grown.refl _⟩

/-- The least multiple not below n, in numbers without bounds. -/
def U (n a : Int) : Int := if n % a = 0 then n else n - n % a + a
theorem U_facts (n a : Int) (ha : 0 < a) : U n a % a = 0 ∧ n ≤ U n a ∧ U n a < n + a := by
  have em := Int.mul_ediv_add_emod n a
  have e0 := Int.emod_nonneg n (show a ≠ 0 by omega)
  have e1 := Int.emod_lt_of_pos n ha
  unfold U
  by_cases h : n % a = 0
  · rw [if_pos h]; exact ⟨h, by omega, by omega⟩
  · rw [if_neg h]
    refine ⟨?_, by omega, by omega⟩
    rw [show n - n % a + a = a * (n / a + 1) by rw [Int.mul_add]; omega]
    exact Int.mul_emod_right a _
theorem mult_le (x y a : Int) (ha : 0 < a) (hx : x % a = 0) (hy : y % a = 0) (h : x < y + a) : x ≤ y := by
  have e1 := Int.mul_ediv_add_emod x a
  have e2 := Int.mul_ediv_add_emod y a
  have : x / a < y / a + 1 := by
    apply Int.lt_of_mul_lt_mul_left (a := a) _ (by omega)
    rw [Int.mul_add]; omega
  have := Int.mul_le_mul_of_nonneg_left (show x / a ≤ y / a by omega) (show 0 ≤ a by omega)
  omega
theorem U_mono (n m a : Int) (ha : 0 < a) (h : n ≤ m) : U n a ≤ U m a := by
  obtain ⟨a1, a2, a3⟩ := U_facts n a ha
  obtain ⟨b1, b2, b3⟩ := U_facts m a ha
  exact mult_le _ _ a ha a1 b1 (by omega)
theorem up_U (n a : Int) (ha : 0 < a) (hn : n ≤ 18446744073709551615) : upOk n a = decide (U n a ≤ 18446744073709551615) ∧ upV n a = if U n a ≤ 18446744073709551615 then U n a else 0 := by
  have h0 : a ≠ 0 := by omega
  unfold upV upOk U
  by_cases h : n % a = 0
  · simp [h, h0, hn]
  · by_cases hl : n - n % a + a ≤ 18446744073709551615
    · simp [h, h0, hl]
    · simp [h, h0, hl]
theorem up_fixed (n a : Int) (ha : 0 < a) (h : n % a = 0) : upOk n a = true ∧ upV n a = n := by
  have h0 : a ≠ 0 := by omega
  simp [upV, upOk, h, h0]
theorem down_facts (n a : Int) (ha : 0 < a) : downV n a % a = 0 ∧ downV n a ≤ n ∧ n < downV n a + a := by
  have em := Int.mul_ediv_add_emod n a
  have e0 := Int.emod_nonneg n (show a ≠ 0 by omega)
  have e1 := Int.emod_lt_of_pos n ha
  unfold downV
  rw [if_neg (by omega)]
  refine ⟨?_, by omega, by omega⟩
  rw [show n - n % a = a * (n / a) by omega]
  exact Int.mul_emod_right a _
theorem down_fixed (n a : Int) (h : n % a = 0) : downV n a = n ∨ a = 0 := by
  unfold downV
  by_cases h0 : a = 0
  · exact Or.inr h0
  · rw [if_neg h0, h]; exact Or.inl (by omega)
theorem down_nonneg (n a : Int) (hn : 0 ≤ n) (ha : 0 < a) : 0 ≤ downV n a := by
  obtain ⟨a1, a2, a3⟩ := down_facts n a ha
  have e : (0 : Int) % a = 0 := Int.zero_emod a
  exact mult_le 0 _ a ha e a1 (by omega)

/-- Both orders of n and m, in one. -/
theorem both (n m a : Int) (hn : 0 ≤ n ∧ n ≤ 18446744073709551615) (hm : 0 ≤ m ∧ m ≤ 18446744073709551615) (ha : 0 < a ∧ a ≤ 18446744073709551615) (hs : n ≤ m) (w : World) :
    Calls Try.prog 3 #[.int .u64 n, .int .u64 m, .int .u64 a] w (fun e w' => e = .returned (.bool true) ∧ Grown w w') ∧
    (n < m → Calls Try.prog 3 #[.int .u64 m, .int .u64 n, .int .u64 a] w fun e w' => e = .returned (.bool true) ∧ Grown w w') := by
  have h0 : a ≠ 0 := by omega
  have ha' : 0 ≤ a ∧ a ≤ 18446744073709551615 := by omega
  have z : (a == 0) = false := by simpa using h0
  have eO : decide (a ≠ 0) = true := by simpa using h0
  obtain ⟨d1, d2, d3⟩ := down_facts n a ha.1
  have dn := down_nonneg n a hn.1 ha.1
  obtain ⟨f1, f2, f3⟩ := down_facts m a ha.1
  have hdf : downV n a ≤ downV m a := mult_le _ _ a ha.1 d1 f1 (by omega)
  have c1 := fun w => down_any n a hn ha' w
  have c2 := fun w => down_any (downV n a) a ⟨dn, by omega⟩ ha' w
  have c3 := fun w => down_any m a hm ha' w
  have c4 := fun w => up_any n a hn ha' w
  have c6 := fun w => up_any m a hm ha' w
  rw [eO] at c1 c2 c3
  have dd : downV (downV n a) a = downV n a := (down_fixed _ a d1).resolve_right h0
  rw [dd] at c2
  obtain ⟨p1, p2⟩ := up_U n a ha.1 hn.2
  obtain ⟨q1, q2⟩ := up_U m a ha.1 hm.2
  rw [p1, p2] at c4
  rw [q1, q2] at c6
  obtain ⟨u1, u2, u3⟩ := U_facts n a ha.1
  have hU := U_mono n m a ha.1 hs
  by_cases hp : U n a ≤ 18446744073709551615
  · have c7 := fun w => up_any (U n a) a ⟨by omega, hp⟩ ha' w
    have c8 := fun w => down_any (U n a) a ⟨by omega, hp⟩ ha' w
    obtain ⟨r1, r2⟩ := up_fixed (U n a) a ha.1 u1
    have r3 : downV (U n a) a = U n a := (down_fixed _ a u1).resolve_right h0
    rw [r1, r2] at c7
    rw [eO, r3] at c8
    rw [if_pos hp, decide_eq_true hp] at c4
    by_cases hq : U m a ≤ 18446744073709551615
    · rw [if_pos hq, decide_eq_true hq] at c6
      exact ⟨s0l n m a _ _ _ _ hn hm ha z hs hdf hU c1 c2 c3 c4 c6 c7 c8 w, fun h => s0g n m a _ _ _ _ hn hm ha z h hdf hU c1 c2 c3 c4 c6 c7 c8 w⟩
    · rw [if_neg hq, decide_eq_false hq] at c6
      exact ⟨s1l n m a _ _ _ _ hn hm ha z hs hdf trivial c1 c2 c3 c4 c6 c7 c8 w, fun h => s1g n m a _ _ _ _ hn hm ha z h hdf trivial c1 c2 c3 c4 c6 c7 c8 w⟩
  · rw [if_neg hp, decide_eq_false hp] at c4
    have hq : ¬ U m a ≤ 18446744073709551615 := by omega
    rw [if_neg hq, decide_eq_false hq] at c6
    exact ⟨s2l n m a _ _ _ _ hn hm ha z hs hdf trivial c1 c2 c3 c4 c6 w, fun h => s2g n m a _ _ _ _ hn hm ha z h hdf trivial c1 c2 c3 c4 c6 w⟩

/-! ### The walk -/
theorem walk (a0 : Int) (a1 : Int) (a2 : Int) (w0 : (Lit.int .u64 a0).wf = true) (w1 : (Lit.int .u64 a1).wf = true) (w2 : (Lit.int .u64 a2).wf = true) (w : World) :
    Calls Try.prog 3 #[.int .u64 a0, .int .u64 a1, .int .u64 a2] w fun e w' => e = .returned (.bool true) ∧ Grown w w' := by
  have hn := bounds_u64 w0
  have hm := bounds_u64 w1
  have ha := bounds_u64 w2
  clear w0 w1 w2
  by_cases h0 : a2 = 0
  · subst h0
    go_enter Try.func3, Try.ntmps3
    go_wp2
    go_ret
    exact ⟨rfl, Grown.refl _⟩
  · by_cases hs : a0 ≤ a1
    · exact (both a0 a1 a2 hn hm (by omega) hs w).1
    · exact (both a1 a0 a2 hm hn (by omega) (by omega) w).2 (by omega)

/-! ### The row -/
set_option maxRecDepth 100000 in
theorem lifted (os : Os) (started : os.Started) (H : Type) (enc : TypeId × Value → H) :
    ReturnsInHanded {} Try.checked os 3 .any (Rows.numStepsSpec.pre6 enc Try.prog Try.f3 Rows.numStepsRow.domain false) (Rows.numStepsSpec.post enc Try.prog Try.f3 false true false false) := by
  refine returnsInHanded_of_change (C := Try.checked) own started (by kernel_rfl) Try.func3
    (ChangeSpec.witness6 (enc := enc) (C := Try.checked) false ⟨#[], #[.int .u64 0, .int .u64 0, .int .u64 0], []⟩ 8 (by kernel_rfl) (by kernel_rfl) (by kernel_rfl) (by kernel_rfl)) ?_
  intro W base args ds gs before hval0 hW hcnd _
  have hval : ∀ (j : Nat) t v, Try.f3.params[j]? = some t → args[j]? = some v → Value.okWide Try.prog W .any base t v := hval0
  have hW' := hW
  obtain ⟨p, q, hA0, hV, rfl, hfz, hnd⟩ := hW
  have hA : DataW.TrodAll enc Try.prog W 0 (fun _ => true) true Try.f3.params.toList args.toList ds p := hA0
  rw [Try.params3] at hA hval
  obtain ⟨v0, vs0, d0, ds0, p0, q0, hargs, rfl, rfl, h0, r0⟩ := trodAll_cons hA
  obtain ⟨v1, vs1, d1, ds1, p1, q1, rfl, rfl, rfl, h1, r1⟩ := trodAll_cons r0
  obtain ⟨v2, vs2, d2, ds2, p2, q2, rfl, rfl, rfl, h2, r2⟩ := trodAll_cons r1
  obtain ⟨rfl, rfl, rfl⟩ := trodAll_nil r2
  obtain rfl : args = #[v0, v1, v2] := by cases args; simp_all
  obtain ⟨rfl, rfl⟩ := trodVars_none hV
  obtain ⟨a0, rfl, rfl, rfl, w0⟩ := open_int Try.underlying22 (hval 0 22 v0 rfl rfl) h0
  obtain ⟨a1, rfl, rfl, rfl, w1⟩ := open_int Try.underlying22 (hval 1 22 v1 rfl rfl) h1
  obtain ⟨a2, rfl, rfl, rfl, w2⟩ := open_int Try.underlying22 (hval 2 22 v2 rfl rfl) h2
  clear hA0 hval0
  simp only [List.append_nil] at hW'
  refine (walk a0 a1 a2 w0 w1 w2 W).mono fun e W' ⟨he, hg⟩ => ?_
  subst he
  exact ⟨_, rfl, post_of_same (pa := []) (pv := []) hW' (fun _ _ _ => (trodAll_cons_mk (shut_bool Try.underlying4 _) trodAll_mk0)) (fun sp _ => (trodAll_cons_mk (shut_int Try.underlying22 w0) (trodAll_cons_mk (shut_int Try.underlying22 w1) (trodAll_cons_mk (shut_int Try.underlying22 w2) trodAll_mk0)))) (fun _ _ => rfl) rfl
    (hg.frame _) hg.2.1 (ok_one (by kernel_rfl) rfl (okWide_bool_mk Try.underlying4 _))⟩

theorem over : Rows.numStepsRow.holds Try.pinned (OpenSpec.ofChange Rows.numStepsSpec) :=
  OpenClaim.holds_of_wide 3 Try.f3 rfl rfl rfl rfl rfl rfl rfl ⟨rfl, rfl, rfl, rfl, rfl⟩ rfl rfl rfl rfl rfl (by kernel_rfl) Try.func3 (by kernel_rfl)
    (of_decide_eq_true (by kernel_rfl)) (by unfold Func.isWrapper; first | (rw [if_pos (by decide +kernel)]; kernel_rfl) | (rw [if_neg (by decide +kernel)]; exact ⟨rfl, rfl⟩))
    (fun os started H enc _ => lifted os started H enc)

theorem proved : Rows.NumStepsSaid :=
  over
#print axioms proved
end Go.Proofs.Ytfgfeakheagcaab.numSteps
