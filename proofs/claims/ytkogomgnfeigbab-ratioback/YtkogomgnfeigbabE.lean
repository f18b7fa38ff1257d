/- The roads of the chapter's laws, over what the functions that they call answer. -/
import Derived.Test.YtkogomgnfeigbabRows
import Derived.WalkKit
import Derived.ProofKit
import Derived.OpenShut
import Derived.WalkLawsBesides
import Derived.Deep.Draws
namespace Go.Proofs.Ytkogomgnfeigbab
open Go.ChangeShapes Go.WideShapes Go.ChangeAt Go.RowKit

theorem Grown.drewN {w w' : World} (h : Grown w w') (k : Nat) : Grown w (w'.drewN k) := h

theorem edges1 (n r : Int) 
    (c1 : ∀ w : World, Calls Try.prog 8 #[.int .u64 n, .int .u64 r] w fun e w' => e = .returned (.int .u64 0) ∧ ∃ k, w' = w.drewN k)
    (c2 : ∀ w : World, Calls Try.prog 9 #[.int .u64 r] w fun e w' => e = .returned (.bool true) ∧ ∃ k, w' = w.drewN k)
    (cA : ∀ w : World, Calls Try.prog 10 #[] w fun e w' => e = .returned (.bool true) ∧ ∃ k, w' = w.drewN k) (w : World) :
    Calls Try.prog 3 #[.int .u64 n, .int .u64 r] w fun e w' => e = .returned (.bool true) ∧ Grown w w' := by
  go_enter Try.func3, Try.ntmps3
  go_wp2_with fail
  go_at_call 8
  refine (c1 _).mono ?_
  rintro e w' ⟨rfl, k, rfl⟩
  go_wp2_with fail
  go_at_call 9
  refine (c2 _).mono ?_
  rintro e w' ⟨rfl, k, rfl⟩
  go_wp2_with fail
  go_at_call 10
  refine (cA _).mono ?_
  rintro e w' ⟨rfl, k, rfl⟩
  go_wp2_with fail
  go_ret
  exact ⟨rfl, Grown.drewN (Grown.refl _) _⟩

theorem edges2 (n r : Int) (h : 9223372036854775808 ≤ r)
    (c1 : ∀ w : World, Calls Try.prog 8 #[.int .u64 n, .int .u64 r] w fun e w' => e = .returned (.int .u64 0) ∧ ∃ k, w' = w.drewN k)
    (c2 : ∀ w : World, Calls Try.prog 9 #[.int .u64 r] w fun e w' => e = .returned (.bool false) ∧ ∃ k, w' = w.drewN k)
    (cA : ∀ w : World, Calls Try.prog 10 #[] w fun e w' => e = .returned (.bool true) ∧ ∃ k, w' = w.drewN k) (w : World) :
    Calls Try.prog 3 #[.int .u64 n, .int .u64 r] w fun e w' => e = .returned (.bool true) ∧ Grown w w' := by
  go_enter Try.func3, Try.ntmps3
  go_wp2_with fail
  go_at_call 8
  refine (c1 _).mono ?_
  rintro e w' ⟨rfl, k, rfl⟩
  go_wp2_with fail
  go_at_call 9
  refine (c2 _).mono ?_
  rintro e w' ⟨rfl, k, rfl⟩
  go_wp2_with fail
  go_at_call 10
  refine (cA _).mono ?_
  rintro e w' ⟨rfl, k, rfl⟩
  go_wp2_with fail
  go_ret
  exact ⟨rfl, Grown.drewN (Grown.refl _) _⟩

theorem edges3 (r : Int) (h : ¬ 9223372036854775808 ≤ r)
    (c1 : ∀ w : World, Calls Try.prog 8 #[.int .u64 0, .int .u64 r] w fun e w' => e = .returned (.int .u64 0) ∧ ∃ k, w' = w.drewN k)
    (c2 : ∀ w : World, Calls Try.prog 9 #[.int .u64 r] w fun e w' => e = .returned (.bool false) ∧ ∃ k, w' = w.drewN k)
    (cA : ∀ w : World, Calls Try.prog 10 #[] w fun e w' => e = .returned (.bool true) ∧ ∃ k, w' = w.drewN k) (w : World) :
    Calls Try.prog 3 #[.int .u64 0, .int .u64 r] w fun e w' => e = .returned (.bool true) ∧ Grown w w' := by
  go_enter Try.func3, Try.ntmps3
  go_wp2_with fail
  go_at_call 8
  refine (c1 _).mono ?_
  rintro e w' ⟨rfl, k, rfl⟩
  go_wp2_with fail
  go_at_call 9
  refine (c2 _).mono ?_
  rintro e w' ⟨rfl, k, rfl⟩
  go_wp2_with fail
  go_at_call 10
  refine (cA _).mono ?_
  rintro e w' ⟨rfl, k, rfl⟩
  go_wp2_with fail
  go_ret
  exact ⟨rfl, Grown.drewN (Grown.refl _) _⟩

theorem edges4 (n : Int) (z : (n == 0) = false)
    (c1 : ∀ w : World, Calls Try.prog 8 #[.int .u64 n, .int .u64 0] w fun e w' => e = .returned (.int .u64 0) ∧ ∃ k, w' = w.drewN k)
    (c2 : ∀ w : World, Calls Try.prog 9 #[.int .u64 0] w fun e w' => e = .returned (.bool false) ∧ ∃ k, w' = w.drewN k)
    (cA : ∀ w : World, Calls Try.prog 10 #[] w fun e w' => e = .returned (.bool true) ∧ ∃ k, w' = w.drewN k) (w : World) :
    Calls Try.prog 3 #[.int .u64 n, .int .u64 0] w fun e w' => e = .returned (.bool true) ∧ Grown w w' := by
  go_enter Try.func3, Try.ntmps3
  go_wp2_with fail
  go_at_call 8
  refine (c1 _).mono ?_
  rintro e w' ⟨rfl, k, rfl⟩
  go_wp2_with fail
  go_at_call 9
  refine (c2 _).mono ?_
  rintro e w' ⟨rfl, k, rfl⟩
  go_wp2_with fail
  go_at_call 10
  refine (cA _).mono ?_
  rintro e w' ⟨rfl, k, rfl⟩
  go_wp2_with fail
  go_ret
  exact ⟨rfl, Grown.drewN (Grown.refl _) _⟩

theorem edges5 (n : Int) (z : (n == 0) = false)
    (c1 : ∀ w : World, Calls Try.prog 8 #[.int .u64 n, .int .u64 9218868437227405312] w fun e w' => e = .returned (.int .u64 18446744073709551615) ∧ ∃ k, w' = w.drewN k)
    (c2 : ∀ w : World, Calls Try.prog 9 #[.int .u64 9218868437227405312] w fun e w' => e = .returned (.bool false) ∧ ∃ k, w' = w.drewN k)
    (cA : ∀ w : World, Calls Try.prog 10 #[] w fun e w' => e = .returned (.bool true) ∧ ∃ k, w' = w.drewN k) (w : World) :
    Calls Try.prog 3 #[.int .u64 n, .int .u64 9218868437227405312] w fun e w' => e = .returned (.bool true) ∧ Grown w w' := by
  go_enter Try.func3, Try.ntmps3
  go_wp2_with fail
  go_at_call 8
  refine (c1 _).mono ?_
  rintro e w' ⟨rfl, k, rfl⟩
  go_wp2_with fail
  go_at_call 9
  refine (c2 _).mono ?_
  rintro e w' ⟨rfl, k, rfl⟩
  go_wp2_with fail
  go_at_call 10
  refine (cA _).mono ?_
  rintro e w' ⟨rfl, k, rfl⟩
  go_wp2_with fail
  go_ret
  exact ⟨rfl, Grown.drewN (Grown.refl _) _⟩

theorem edges6 (n : Int) (z : (n == 0) = false) (h : n < 9007199254740992)
    (c1 : ∀ w : World, Calls Try.prog 8 #[.int .u64 n, .int .u64 4607182418800017408] w fun e w' => e = .returned (.int .u64 n) ∧ ∃ k, w' = w.drewN k)
    (c2 : ∀ w : World, Calls Try.prog 9 #[.int .u64 4607182418800017408] w fun e w' => e = .returned (.bool false) ∧ ∃ k, w' = w.drewN k)
    (cA : ∀ w : World, Calls Try.prog 10 #[] w fun e w' => e = .returned (.bool true) ∧ ∃ k, w' = w.drewN k) (w : World) :
    Calls Try.prog 3 #[.int .u64 n, .int .u64 4607182418800017408] w fun e w' => e = .returned (.bool true) ∧ Grown w w' := by
  go_enter Try.func3, Try.ntmps3
  go_wp2_with fail
  go_at_call 8
  refine (c1 _).mono ?_
  rintro e w' ⟨rfl, k, rfl⟩
  go_wp2_with fail
  go_at_call 9
  refine (c2 _).mono ?_
  rintro e w' ⟨rfl, k, rfl⟩
  go_wp2_with fail
  go_at_call 10
  refine (cA _).mono ?_
  rintro e w' ⟨rfl, k, rfl⟩
  go_wp2_with fail
  go_ret
  exact ⟨rfl, Grown.drewN (Grown.refl _) _⟩

theorem edges7 (n x : Int) (z : (n == 0) = false) (h : ¬ n < 9007199254740992)
    (c1 : ∀ w : World, Calls Try.prog 8 #[.int .u64 n, .int .u64 4607182418800017408] w fun e w' => e = .returned (.int .u64 x) ∧ ∃ k, w' = w.drewN k)
    (c2 : ∀ w : World, Calls Try.prog 9 #[.int .u64 4607182418800017408] w fun e w' => e = .returned (.bool false) ∧ ∃ k, w' = w.drewN k)
    (cA : ∀ w : World, Calls Try.prog 10 #[] w fun e w' => e = .returned (.bool true) ∧ ∃ k, w' = w.drewN k) (w : World) :
    Calls Try.prog 3 #[.int .u64 n, .int .u64 4607182418800017408] w fun e w' => e = .returned (.bool true) ∧ Grown w w' := by
  go_enter Try.func3, Try.ntmps3
  go_wp2_with fail
  go_at_call 8
  refine (c1 _).mono ?_
  rintro e w' ⟨rfl, k, rfl⟩
  go_wp2_with fail
  go_at_call 9
  refine (c2 _).mono ?_
  rintro e w' ⟨rfl, k, rfl⟩
  go_wp2_with fail
  go_at_call 10
  refine (cA _).mono ?_
  rintro e w' ⟨rfl, k, rfl⟩
  go_wp2_with fail
  go_ret
  exact ⟨rfl, Grown.drewN (Grown.refl _) _⟩

theorem edges8 (n r x : Int) (z : (n == 0) = false) (h : ¬ 9223372036854775808 ≤ r) (y1 : (r == 0) = false) (y2 : (r == 9218868437227405312) = false) (y3 : (r == 4607182418800017408) = false)
    (c1 : ∀ w : World, Calls Try.prog 8 #[.int .u64 n, .int .u64 r] w fun e w' => e = .returned (.int .u64 x) ∧ ∃ k, w' = w.drewN k)
    (c2 : ∀ w : World, Calls Try.prog 9 #[.int .u64 r] w fun e w' => e = .returned (.bool false) ∧ ∃ k, w' = w.drewN k)
    (cA : ∀ w : World, Calls Try.prog 10 #[] w fun e w' => e = .returned (.bool true) ∧ ∃ k, w' = w.drewN k) (w : World) :
    Calls Try.prog 3 #[.int .u64 n, .int .u64 r] w fun e w' => e = .returned (.bool true) ∧ Grown w w' := by
  go_enter Try.func3, Try.ntmps3
  go_wp2_with fail
  go_at_call 8
  refine (c1 _).mono ?_
  rintro e w' ⟨rfl, k, rfl⟩
  go_wp2_with fail
  go_at_call 9
  refine (c2 _).mono ?_
  rintro e w' ⟨rfl, k, rfl⟩
  go_wp2_with fail
  go_at_call 10
  refine (cA _).mono ?_
  rintro e w' ⟨rfl, k, rfl⟩
  go_wp2_with fail
  go_ret
  exact ⟨rfl, Grown.drewN (Grown.refl _) _⟩

theorem back1 (a n : Int) (h : n < 1)
    (w : World) :
    Calls Try.prog 5 #[.int .u64 a, .int .u64 n] w fun e w' => e = .returned (.bool true) ∧ Grown w w' := by
  go_enter Try.func5, Try.ntmps5
  go_wp2_with fail
  go_ret
  exact ⟨rfl, Grown.refl _⟩

theorem back2 (a n : Int) (h : 67108864 < n)
    (w : World) :
    Calls Try.prog 5 #[.int .u64 a, .int .u64 n] w fun e w' => e = .returned (.bool true) ∧ Grown w w' := by
  go_enter Try.func5, Try.ntmps5
  go_wp2_with fail
  go_ret
  exact ⟨rfl, Grown.refl _⟩

theorem back3 (a n : Int) (h1 : ¬ n < 1) (h2 : ¬ 67108864 < n) (h : 67108864 < a)
    (w : World) :
    Calls Try.prog 5 #[.int .u64 a, .int .u64 n] w fun e w' => e = .returned (.bool true) ∧ Grown w w' := by
  go_enter Try.func5, Try.ntmps5
  go_wp2_with fail
  go_ret
  exact ⟨rfl, Grown.refl _⟩

theorem back4 (a n o : Int) (ha : 0 ≤ a ∧ a ≤ 67108864) (hn : 1 ≤ n ∧ n ≤ 67108864)
    (c1 : ∀ w : World, Calls Try.prog 12 #[.int .u64 a, .int .u64 n] w fun e w' => e = .returned (.int .u64 o) ∧ ∃ k, w' = w.drewN k)
    (c2 : ∀ w : World, Calls Try.prog 8 #[.int .u64 n, .int .u64 o] w fun e w' => e = .returned (.int .u64 a) ∧ ∃ k, w' = w.drewN k)
    (c3 : ∀ w : World, Calls Try.prog 12 #[.int .u64 (2 * a), .int .u64 (2 * n)] w fun e w' => e = .returned (.int .u64 o) ∧ ∃ k, w' = w.drewN k)
    (cA : ∀ w : World, Calls Try.prog 10 #[] w fun e w' => e = .returned (.bool true) ∧ ∃ k, w' = w.drewN k) (w : World) :
    Calls Try.prog 5 #[.int .u64 a, .int .u64 n] w fun e w' => e = .returned (.bool true) ∧ Grown w w' := by
  go_enter Try.func5, Try.ntmps5
  go_wp2_with fail
  go_at_call 12
  refine (c1 _).mono ?_
  rintro e w' ⟨rfl, k, rfl⟩
  go_wp2_with fail
  go_at_call 8
  refine (c2 _).mono ?_
  rintro e w' ⟨rfl, k, rfl⟩
  go_wp2_with fail
  go_at_call 12
  refine (c1 _).mono ?_
  rintro e w' ⟨rfl, k, rfl⟩
  go_wp2_with fail
  go_at_call 12
  refine (c3 _).mono ?_
  rintro e w' ⟨rfl, k, rfl⟩
  go_wp2_with fail
  go_at_call 10
  refine (cA _).mono ?_
  rintro e w' ⟨rfl, k, rfl⟩
  go_wp2_with fail
  go_ret
  exact ⟨rfl, Grown.drewN (Grown.refl _) _⟩

theorem back5 (a n o : Int) (ha : 0 ≤ a ∧ a ≤ 67108864) (hn : 1 ≤ n ∧ n ≤ 67108864) (h0 : 0 < a) (t : (a - 1 == a) = false)
    (c1 : ∀ w : World, Calls Try.prog 12 #[.int .u64 a, .int .u64 n] w fun e w' => e = .returned (.int .u64 o) ∧ ∃ k, w' = w.drewN k)
    (c2 : ∀ w : World, Calls Try.prog 8 #[.int .u64 n, .int .u64 o] w fun e w' => e = .returned (.int .u64 (a - 1)) ∧ ∃ k, w' = w.drewN k)
    (c3 : ∀ w : World, Calls Try.prog 12 #[.int .u64 (2 * a), .int .u64 (2 * n)] w fun e w' => e = .returned (.int .u64 o) ∧ ∃ k, w' = w.drewN k)
    (cA : ∀ w : World, Calls Try.prog 10 #[] w fun e w' => e = .returned (.bool true) ∧ ∃ k, w' = w.drewN k) (w : World) :
    Calls Try.prog 5 #[.int .u64 a, .int .u64 n] w fun e w' => e = .returned (.bool true) ∧ Grown w w' := by
  go_enter Try.func5, Try.ntmps5
  go_wp2_with fail
  go_at_call 12
  refine (c1 _).mono ?_
  rintro e w' ⟨rfl, k, rfl⟩
  go_wp2_with fail
  go_at_call 8
  refine (c2 _).mono ?_
  rintro e w' ⟨rfl, k, rfl⟩
  go_wp2_with fail
  go_at_call 12
  refine (c1 _).mono ?_
  rintro e w' ⟨rfl, k, rfl⟩
  go_wp2_with fail
  go_at_call 12
  refine (c3 _).mono ?_
  rintro e w' ⟨rfl, k, rfl⟩
  go_wp2_with fail
  go_at_call 10
  refine (cA _).mono ?_
  rintro e w' ⟨rfl, k, rfl⟩
  go_wp2_with fail
  go_ret
  exact ⟨rfl, Grown.drewN (Grown.refl _) _⟩

end Go.Proofs.Ytkogomgnfeigbab
