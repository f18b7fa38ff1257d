/- The roads of the chapter's laws, over what the functions that they call answer. -/
import Derived.Test.YtkogomgnfeigbabRows
import Derived.WalkKit
import Derived.ProofKit
import Derived.OpenShut
import Derived.WalkLawsBesides
import Derived.Deep.Draws
import Derived.Test.YtkogomgnfeigbabE
namespace Go.Proofs.Ytkogomgnfeigbab
open Go.ChangeShapes Go.WideShapes Go.ChangeAt Go.RowKit

theorem three_mmm1 (a b c : Int) (t : (a == b) = false)
    (c1 : ∀ w : World, Calls Try.prog 11 #[.int .u64 a, .int .u64 b] w fun e w' => e = .returned (.int .i64 (-1)) ∧ ∃ k, w' = w.drewN k)
    (c2 : ∀ w : World, Calls Try.prog 11 #[.int .u64 b, .int .u64 c] w fun e w' => e = .returned (.int .i64 (-1)) ∧ ∃ k, w' = w.drewN k)
    (c3 : ∀ w : World, Calls Try.prog 11 #[.int .u64 a, .int .u64 c] w fun e w' => e = .returned (.int .i64 (-1)) ∧ ∃ k, w' = w.drewN k)
    (c4 : ∀ w : World, Calls Try.prog 11 #[.int .u64 b, .int .u64 a] w fun e w' => e = .returned (.int .i64 1) ∧ ∃ k, w' = w.drewN k)
    (c5 : ∀ w : World, Calls Try.prog 11 #[.int .u64 a, .int .u64 a] w fun e w' => e = .returned (.int .i64 0) ∧ ∃ k, w' = w.drewN k)
    (n1 : ∀ w : World, Calls Try.prog 9 #[.int .u64 a] w fun e w' => e = .returned (.bool false) ∧ ∃ k, w' = w.drewN k)
    (cA : ∀ w : World, Calls Try.prog 10 #[] w fun e w' => e = .returned (.bool true) ∧ ∃ k, w' = w.drewN k) (w : World) :
    Calls Try.prog 4 #[.int .u64 a, .int .u64 b, .int .u64 c] w fun e w' => e = .returned (.bool true) ∧ Grown w w' := by
  go_enter Try.func4, Try.ntmps4
  go_wp2_with fail
  go_at_call 11
  refine (c1 _).mono ?_
  rintro e w' ⟨rfl, k, rfl⟩
  go_wp2_with fail
  go_at_call 11
  refine (c2 _).mono ?_
  rintro e w' ⟨rfl, k, rfl⟩
  go_wp2_with fail
  go_at_call 11
  refine (c3 _).mono ?_
  rintro e w' ⟨rfl, k, rfl⟩
  go_wp2_with fail
  go_at_call 11
  refine (c4 _).mono ?_
  rintro e w' ⟨rfl, k, rfl⟩
  go_wp2_with fail
  go_at_call 11
  refine (c5 _).mono ?_
  rintro e w' ⟨rfl, k, rfl⟩
  go_wp2_with fail
  go_at_call 9
  refine (n1 _).mono ?_
  rintro e w' ⟨rfl, k, rfl⟩
  go_wp2_with fail
  go_at_call 10
  refine (cA _).mono ?_
  rintro e w' ⟨rfl, k, rfl⟩
  go_wp2_with fail
  go_ret
  exact ⟨rfl, Grown.drewN (Grown.refl _) _⟩

theorem three_mmm2 (a b c : Int) (t : (a == b) = false)
    (c1 : ∀ w : World, Calls Try.prog 11 #[.int .u64 a, .int .u64 b] w fun e w' => e = .returned (.int .i64 (-1)) ∧ ∃ k, w' = w.drewN k)
    (c2 : ∀ w : World, Calls Try.prog 11 #[.int .u64 b, .int .u64 c] w fun e w' => e = .returned (.int .i64 (-1)) ∧ ∃ k, w' = w.drewN k)
    (c3 : ∀ w : World, Calls Try.prog 11 #[.int .u64 a, .int .u64 c] w fun e w' => e = .returned (.int .i64 (-1)) ∧ ∃ k, w' = w.drewN k)
    (c4 : ∀ w : World, Calls Try.prog 11 #[.int .u64 b, .int .u64 a] w fun e w' => e = .returned (.int .i64 1) ∧ ∃ k, w' = w.drewN k)
    (c5 : ∀ w : World, Calls Try.prog 11 #[.int .u64 a, .int .u64 a] w fun e w' => e = .returned (.int .i64 0) ∧ ∃ k, w' = w.drewN k)
    (n1 : ∀ w : World, Calls Try.prog 9 #[.int .u64 a] w fun e w' => e = .returned (.bool true) ∧ ∃ k, w' = w.drewN k)
    (n2 : ∀ w : World, Calls Try.prog 9 #[.int .u64 b] w fun e w' => e = .returned (.bool false) ∧ ∃ k, w' = w.drewN k)
    (cA : ∀ w : World, Calls Try.prog 10 #[] w fun e w' => e = .returned (.bool true) ∧ ∃ k, w' = w.drewN k) (w : World) :
    Calls Try.prog 4 #[.int .u64 a, .int .u64 b, .int .u64 c] w fun e w' => e = .returned (.bool true) ∧ Grown w w' := by
  go_enter Try.func4, Try.ntmps4
  go_wp2_with fail
  go_at_call 11
  refine (c1 _).mono ?_
  rintro e w' ⟨rfl, k, rfl⟩
  go_wp2_with fail
  go_at_call 11
  refine (c2 _).mono ?_
  rintro e w' ⟨rfl, k, rfl⟩
  go_wp2_with fail
  go_at_call 11
  refine (c3 _).mono ?_
  rintro e w' ⟨rfl, k, rfl⟩
  go_wp2_with fail
  go_at_call 11
  refine (c4 _).mono ?_
  rintro e w' ⟨rfl, k, rfl⟩
  go_wp2_with fail
  go_at_call 11
  refine (c5 _).mono ?_
  rintro e w' ⟨rfl, k, rfl⟩
  go_wp2_with fail
  go_at_call 9
  refine (n1 _).mono ?_
  rintro e w' ⟨rfl, k, rfl⟩
  go_wp2_with fail
  go_at_call 9
  refine (n2 _).mono ?_
  rintro e w' ⟨rfl, k, rfl⟩
  go_wp2_with fail
  go_at_call 10
  refine (cA _).mono ?_
  rintro e w' ⟨rfl, k, rfl⟩
  go_wp2_with fail
  go_ret
  exact ⟨rfl, Grown.drewN (Grown.refl _) _⟩

theorem three_mzm1 (a b c : Int) (t : (a == b) = false)
    (c1 : ∀ w : World, Calls Try.prog 11 #[.int .u64 a, .int .u64 b] w fun e w' => e = .returned (.int .i64 (-1)) ∧ ∃ k, w' = w.drewN k)
    (c2 : ∀ w : World, Calls Try.prog 11 #[.int .u64 b, .int .u64 c] w fun e w' => e = .returned (.int .i64 0) ∧ ∃ k, w' = w.drewN k)
    (c3 : ∀ w : World, Calls Try.prog 11 #[.int .u64 a, .int .u64 c] w fun e w' => e = .returned (.int .i64 (-1)) ∧ ∃ k, w' = w.drewN k)
    (c4 : ∀ w : World, Calls Try.prog 11 #[.int .u64 b, .int .u64 a] w fun e w' => e = .returned (.int .i64 1) ∧ ∃ k, w' = w.drewN k)
    (c5 : ∀ w : World, Calls Try.prog 11 #[.int .u64 a, .int .u64 a] w fun e w' => e = .returned (.int .i64 0) ∧ ∃ k, w' = w.drewN k)
    (n1 : ∀ w : World, Calls Try.prog 9 #[.int .u64 a] w fun e w' => e = .returned (.bool false) ∧ ∃ k, w' = w.drewN k)
    (cA : ∀ w : World, Calls Try.prog 10 #[] w fun e w' => e = .returned (.bool true) ∧ ∃ k, w' = w.drewN k) (w : World) :
    Calls Try.prog 4 #[.int .u64 a, .int .u64 b, .int .u64 c] w fun e w' => e = .returned (.bool true) ∧ Grown w w' := by
  go_enter Try.func4, Try.ntmps4
  go_wp2_with fail
  go_at_call 11
  refine (c1 _).mono ?_
  rintro e w' ⟨rfl, k, rfl⟩
  go_wp2_with fail
  go_at_call 11
  refine (c2 _).mono ?_
  rintro e w' ⟨rfl, k, rfl⟩
  go_wp2_with fail
  go_at_call 11
  refine (c3 _).mono ?_
  rintro e w' ⟨rfl, k, rfl⟩
  go_wp2_with fail
  go_at_call 11
  refine (c4 _).mono ?_
  rintro e w' ⟨rfl, k, rfl⟩
  go_wp2_with fail
  go_at_call 11
  refine (c5 _).mono ?_
  rintro e w' ⟨rfl, k, rfl⟩
  go_wp2_with fail
  go_at_call 9
  refine (n1 _).mono ?_
  rintro e w' ⟨rfl, k, rfl⟩
  go_wp2_with fail
  go_at_call 10
  refine (cA _).mono ?_
  rintro e w' ⟨rfl, k, rfl⟩
  go_wp2_with fail
  go_ret
  exact ⟨rfl, Grown.drewN (Grown.refl _) _⟩

theorem three_mzm2 (a b c : Int) (t : (a == b) = false)
    (c1 : ∀ w : World, Calls Try.prog 11 #[.int .u64 a, .int .u64 b] w fun e w' => e = .returned (.int .i64 (-1)) ∧ ∃ k, w' = w.drewN k)
    (c2 : ∀ w : World, Calls Try.prog 11 #[.int .u64 b, .int .u64 c] w fun e w' => e = .returned (.int .i64 0) ∧ ∃ k, w' = w.drewN k)
    (c3 : ∀ w : World, Calls Try.prog 11 #[.int .u64 a, .int .u64 c] w fun e w' => e = .returned (.int .i64 (-1)) ∧ ∃ k, w' = w.drewN k)
    (c4 : ∀ w : World, Calls Try.prog 11 #[.int .u64 b, .int .u64 a] w fun e w' => e = .returned (.int .i64 1) ∧ ∃ k, w' = w.drewN k)
    (c5 : ∀ w : World, Calls Try.prog 11 #[.int .u64 a, .int .u64 a] w fun e w' => e = .returned (.int .i64 0) ∧ ∃ k, w' = w.drewN k)
    (n1 : ∀ w : World, Calls Try.prog 9 #[.int .u64 a] w fun e w' => e = .returned (.bool true) ∧ ∃ k, w' = w.drewN k)
    (n2 : ∀ w : World, Calls Try.prog 9 #[.int .u64 b] w fun e w' => e = .returned (.bool false) ∧ ∃ k, w' = w.drewN k)
    (cA : ∀ w : World, Calls Try.prog 10 #[] w fun e w' => e = .returned (.bool true) ∧ ∃ k, w' = w.drewN k) (w : World) :
    Calls Try.prog 4 #[.int .u64 a, .int .u64 b, .int .u64 c] w fun e w' => e = .returned (.bool true) ∧ Grown w w' := by
  go_enter Try.func4, Try.ntmps4
  go_wp2_with fail
  go_at_call 11
  refine (c1 _).mono ?_
  rintro e w' ⟨rfl, k, rfl⟩
  go_wp2_with fail
  go_at_call 11
  refine (c2 _).mono ?_
  rintro e w' ⟨rfl, k, rfl⟩
  go_wp2_with fail
  go_at_call 11
  refine (c3 _).mono ?_
  rintro e w' ⟨rfl, k, rfl⟩
  go_wp2_with fail
  go_at_call 11
  refine (c4 _).mono ?_
  rintro e w' ⟨rfl, k, rfl⟩
  go_wp2_with fail
  go_at_call 11
  refine (c5 _).mono ?_
  rintro e w' ⟨rfl, k, rfl⟩
  go_wp2_with fail
  go_at_call 9
  refine (n1 _).mono ?_
  rintro e w' ⟨rfl, k, rfl⟩
  go_wp2_with fail
  go_at_call 9
  refine (n2 _).mono ?_
  rintro e w' ⟨rfl, k, rfl⟩
  go_wp2_with fail
  go_at_call 10
  refine (cA _).mono ?_
  rintro e w' ⟨rfl, k, rfl⟩
  go_wp2_with fail
  go_ret
  exact ⟨rfl, Grown.drewN (Grown.refl _) _⟩

theorem three_mpm1 (a b c : Int) (t : (a == b) = false)
    (c1 : ∀ w : World, Calls Try.prog 11 #[.int .u64 a, .int .u64 b] w fun e w' => e = .returned (.int .i64 (-1)) ∧ ∃ k, w' = w.drewN k)
    (c2 : ∀ w : World, Calls Try.prog 11 #[.int .u64 b, .int .u64 c] w fun e w' => e = .returned (.int .i64 1) ∧ ∃ k, w' = w.drewN k)
    (c3 : ∀ w : World, Calls Try.prog 11 #[.int .u64 a, .int .u64 c] w fun e w' => e = .returned (.int .i64 (-1)) ∧ ∃ k, w' = w.drewN k)
    (c4 : ∀ w : World, Calls Try.prog 11 #[.int .u64 b, .int .u64 a] w fun e w' => e = .returned (.int .i64 1) ∧ ∃ k, w' = w.drewN k)
    (c5 : ∀ w : World, Calls Try.prog 11 #[.int .u64 a, .int .u64 a] w fun e w' => e = .returned (.int .i64 0) ∧ ∃ k, w' = w.drewN k)
    (n1 : ∀ w : World, Calls Try.prog 9 #[.int .u64 a] w fun e w' => e = .returned (.bool false) ∧ ∃ k, w' = w.drewN k)
    (cA : ∀ w : World, Calls Try.prog 10 #[] w fun e w' => e = .returned (.bool true) ∧ ∃ k, w' = w.drewN k) (w : World) :
    Calls Try.prog 4 #[.int .u64 a, .int .u64 b, .int .u64 c] w fun e w' => e = .returned (.bool true) ∧ Grown w w' := by
  go_enter Try.func4, Try.ntmps4
  go_wp2_with fail
  go_at_call 11
  refine (c1 _).mono ?_
  rintro e w' ⟨rfl, k, rfl⟩
  go_wp2_with fail
  go_at_call 11
  refine (c2 _).mono ?_
  rintro e w' ⟨rfl, k, rfl⟩
  go_wp2_with fail
  go_at_call 11
  refine (c3 _).mono ?_
  rintro e w' ⟨rfl, k, rfl⟩
  go_wp2_with fail
  go_at_call 11
  refine (c4 _).mono ?_
  rintro e w' ⟨rfl, k, rfl⟩
  go_wp2_with fail
  go_at_call 11
  refine (c5 _).mono ?_
  rintro e w' ⟨rfl, k, rfl⟩
  go_wp2_with fail
  go_at_call 9
  refine (n1 _).mono ?_
  rintro e w' ⟨rfl, k, rfl⟩
  go_wp2_with fail
  go_at_call 10
  refine (cA _).mono ?_
  rintro e w' ⟨rfl, k, rfl⟩
  go_wp2_with fail
  go_ret
  exact ⟨rfl, Grown.drewN (Grown.refl _) _⟩

theorem three_mpm2 (a b c : Int) (t : (a == b) = false)
    (c1 : ∀ w : World, Calls Try.prog 11 #[.int .u64 a, .int .u64 b] w fun e w' => e = .returned (.int .i64 (-1)) ∧ ∃ k, w' = w.drewN k)
    (c2 : ∀ w : World, Calls Try.prog 11 #[.int .u64 b, .int .u64 c] w fun e w' => e = .returned (.int .i64 1) ∧ ∃ k, w' = w.drewN k)
    (c3 : ∀ w : World, Calls Try.prog 11 #[.int .u64 a, .int .u64 c] w fun e w' => e = .returned (.int .i64 (-1)) ∧ ∃ k, w' = w.drewN k)
    (c4 : ∀ w : World, Calls Try.prog 11 #[.int .u64 b, .int .u64 a] w fun e w' => e = .returned (.int .i64 1) ∧ ∃ k, w' = w.drewN k)
    (c5 : ∀ w : World, Calls Try.prog 11 #[.int .u64 a, .int .u64 a] w fun e w' => e = .returned (.int .i64 0) ∧ ∃ k, w' = w.drewN k)
    (n1 : ∀ w : World, Calls Try.prog 9 #[.int .u64 a] w fun e w' => e = .returned (.bool true) ∧ ∃ k, w' = w.drewN k)
    (n2 : ∀ w : World, Calls Try.prog 9 #[.int .u64 b] w fun e w' => e = .returned (.bool false) ∧ ∃ k, w' = w.drewN k)
    (cA : ∀ w : World, Calls Try.prog 10 #[] w fun e w' => e = .returned (.bool true) ∧ ∃ k, w' = w.drewN k) (w : World) :
    Calls Try.prog 4 #[.int .u64 a, .int .u64 b, .int .u64 c] w fun e w' => e = .returned (.bool true) ∧ Grown w w' := by
  go_enter Try.func4, Try.ntmps4
  go_wp2_with fail
  go_at_call 11
  refine (c1 _).mono ?_
  rintro e w' ⟨rfl, k, rfl⟩
  go_wp2_with fail
  go_at_call 11
  refine (c2 _).mono ?_
  rintro e w' ⟨rfl, k, rfl⟩
  go_wp2_with fail
  go_at_call 11
  refine (c3 _).mono ?_
  rintro e w' ⟨rfl, k, rfl⟩
  go_wp2_with fail
  go_at_call 11
  refine (c4 _).mono ?_
  rintro e w' ⟨rfl, k, rfl⟩
  go_wp2_with fail
  go_at_call 11
  refine (c5 _).mono ?_
  rintro e w' ⟨rfl, k, rfl⟩
  go_wp2_with fail
  go_at_call 9
  refine (n1 _).mono ?_
  rintro e w' ⟨rfl, k, rfl⟩
  go_wp2_with fail
  go_at_call 9
  refine (n2 _).mono ?_
  rintro e w' ⟨rfl, k, rfl⟩
  go_wp2_with fail
  go_at_call 10
  refine (cA _).mono ?_
  rintro e w' ⟨rfl, k, rfl⟩
  go_wp2_with fail
  go_ret
  exact ⟨rfl, Grown.drewN (Grown.refl _) _⟩

theorem three_mpz1 (a b c : Int) (t : (a == b) = false)
    (c1 : ∀ w : World, Calls Try.prog 11 #[.int .u64 a, .int .u64 b] w fun e w' => e = .returned (.int .i64 (-1)) ∧ ∃ k, w' = w.drewN k)
    (c2 : ∀ w : World, Calls Try.prog 11 #[.int .u64 b, .int .u64 c] w fun e w' => e = .returned (.int .i64 1) ∧ ∃ k, w' = w.drewN k)
    (c3 : ∀ w : World, Calls Try.prog 11 #[.int .u64 a, .int .u64 c] w fun e w' => e = .returned (.int .i64 0) ∧ ∃ k, w' = w.drewN k)
    (c4 : ∀ w : World, Calls Try.prog 11 #[.int .u64 b, .int .u64 a] w fun e w' => e = .returned (.int .i64 1) ∧ ∃ k, w' = w.drewN k)
    (c5 : ∀ w : World, Calls Try.prog 11 #[.int .u64 a, .int .u64 a] w fun e w' => e = .returned (.int .i64 0) ∧ ∃ k, w' = w.drewN k)
    (n1 : ∀ w : World, Calls Try.prog 9 #[.int .u64 a] w fun e w' => e = .returned (.bool false) ∧ ∃ k, w' = w.drewN k)
    (cA : ∀ w : World, Calls Try.prog 10 #[] w fun e w' => e = .returned (.bool true) ∧ ∃ k, w' = w.drewN k) (w : World) :
    Calls Try.prog 4 #[.int .u64 a, .int .u64 b, .int .u64 c] w fun e w' => e = .returned (.bool true) ∧ Grown w w' := by
  go_enter Try.func4, Try.ntmps4
  go_wp2_with fail
  go_at_call 11
  refine (c1 _).mono ?_
  rintro e w' ⟨rfl, k, rfl⟩
  go_wp2_with fail
  go_at_call 11
  refine (c2 _).mono ?_
  rintro e w' ⟨rfl, k, rfl⟩
  go_wp2_with fail
  go_at_call 11
  refine (c3 _).mono ?_
  rintro e w' ⟨rfl, k, rfl⟩
  go_wp2_with fail
  go_at_call 11
  refine (c4 _).mono ?_
  rintro e w' ⟨rfl, k, rfl⟩
  go_wp2_with fail
  go_at_call 11
  refine (c5 _).mono ?_
  rintro e w' ⟨rfl, k, rfl⟩
  go_wp2_with fail
  go_at_call 9
  refine (n1 _).mono ?_
  rintro e w' ⟨rfl, k, rfl⟩
  go_wp2_with fail
  go_at_call 10
  refine (cA _).mono ?_
  rintro e w' ⟨rfl, k, rfl⟩
  go_wp2_with fail
  go_ret
  exact ⟨rfl, Grown.drewN (Grown.refl _) _⟩

theorem three_mpz2 (a b c : Int) (t : (a == b) = false)
    (c1 : ∀ w : World, Calls Try.prog 11 #[.int .u64 a, .int .u64 b] w fun e w' => e = .returned (.int .i64 (-1)) ∧ ∃ k, w' = w.drewN k)
    (c2 : ∀ w : World, Calls Try.prog 11 #[.int .u64 b, .int .u64 c] w fun e w' => e = .returned (.int .i64 1) ∧ ∃ k, w' = w.drewN k)
    (c3 : ∀ w : World, Calls Try.prog 11 #[.int .u64 a, .int .u64 c] w fun e w' => e = .returned (.int .i64 0) ∧ ∃ k, w' = w.drewN k)
    (c4 : ∀ w : World, Calls Try.prog 11 #[.int .u64 b, .int .u64 a] w fun e w' => e = .returned (.int .i64 1) ∧ ∃ k, w' = w.drewN k)
    (c5 : ∀ w : World, Calls Try.prog 11 #[.int .u64 a, .int .u64 a] w fun e w' => e = .returned (.int .i64 0) ∧ ∃ k, w' = w.drewN k)
    (n1 : ∀ w : World, Calls Try.prog 9 #[.int .u64 a] w fun e w' => e = .returned (.bool true) ∧ ∃ k, w' = w.drewN k)
    (n2 : ∀ w : World, Calls Try.prog 9 #[.int .u64 b] w fun e w' => e = .returned (.bool false) ∧ ∃ k, w' = w.drewN k)
    (cA : ∀ w : World, Calls Try.prog 10 #[] w fun e w' => e = .returned (.bool true) ∧ ∃ k, w' = w.drewN k) (w : World) :
    Calls Try.prog 4 #[.int .u64 a, .int .u64 b, .int .u64 c] w fun e w' => e = .returned (.bool true) ∧ Grown w w' := by
  go_enter Try.func4, Try.ntmps4
  go_wp2_with fail
  go_at_call 11
  refine (c1 _).mono ?_
  rintro e w' ⟨rfl, k, rfl⟩
  go_wp2_with fail
  go_at_call 11
  refine (c2 _).mono ?_
  rintro e w' ⟨rfl, k, rfl⟩
  go_wp2_with fail
  go_at_call 11
  refine (c3 _).mono ?_
  rintro e w' ⟨rfl, k, rfl⟩
  go_wp2_with fail
  go_at_call 11
  refine (c4 _).mono ?_
  rintro e w' ⟨rfl, k, rfl⟩
  go_wp2_with fail
  go_at_call 11
  refine (c5 _).mono ?_
  rintro e w' ⟨rfl, k, rfl⟩
  go_wp2_with fail
  go_at_call 9
  refine (n1 _).mono ?_
  rintro e w' ⟨rfl, k, rfl⟩
  go_wp2_with fail
  go_at_call 9
  refine (n2 _).mono ?_
  rintro e w' ⟨rfl, k, rfl⟩
  go_wp2_with fail
  go_at_call 10
  refine (cA _).mono ?_
  rintro e w' ⟨rfl, k, rfl⟩
  go_wp2_with fail
  go_ret
  exact ⟨rfl, Grown.drewN (Grown.refl _) _⟩

theorem three_mpp1 (a b c : Int) (t : (a == b) = false)
    (c1 : ∀ w : World, Calls Try.prog 11 #[.int .u64 a, .int .u64 b] w fun e w' => e = .returned (.int .i64 (-1)) ∧ ∃ k, w' = w.drewN k)
    (c2 : ∀ w : World, Calls Try.prog 11 #[.int .u64 b, .int .u64 c] w fun e w' => e = .returned (.int .i64 1) ∧ ∃ k, w' = w.drewN k)
    (c3 : ∀ w : World, Calls Try.prog 11 #[.int .u64 a, .int .u64 c] w fun e w' => e = .returned (.int .i64 1) ∧ ∃ k, w' = w.drewN k)
    (c4 : ∀ w : World, Calls Try.prog 11 #[.int .u64 b, .int .u64 a] w fun e w' => e = .returned (.int .i64 1) ∧ ∃ k, w' = w.drewN k)
    (c5 : ∀ w : World, Calls Try.prog 11 #[.int .u64 a, .int .u64 a] w fun e w' => e = .returned (.int .i64 0) ∧ ∃ k, w' = w.drewN k)
    (n1 : ∀ w : World, Calls Try.prog 9 #[.int .u64 a] w fun e w' => e = .returned (.bool false) ∧ ∃ k, w' = w.drewN k)
    (cA : ∀ w : World, Calls Try.prog 10 #[] w fun e w' => e = .returned (.bool true) ∧ ∃ k, w' = w.drewN k) (w : World) :
    Calls Try.prog 4 #[.int .u64 a, .int .u64 b, .int .u64 c] w fun e w' => e = .returned (.bool true) ∧ Grown w w' := by
  go_enter Try.func4, Try.ntmps4
  go_wp2_with fail
  go_at_call 11
  refine (c1 _).mono ?_
  rintro e w' ⟨rfl, k, rfl⟩
  go_wp2_with fail
  go_at_call 11
  refine (c2 _).mono ?_
  rintro e w' ⟨rfl, k, rfl⟩
  go_wp2_with fail
  go_at_call 11
  refine (c3 _).mono ?_
  rintro e w' ⟨rfl, k, rfl⟩
  go_wp2_with fail
  go_at_call 11
  refine (c4 _).mono ?_
  rintro e w' ⟨rfl, k, rfl⟩
  go_wp2_with fail
  go_at_call 11
  refine (c5 _).mono ?_
  rintro e w' ⟨rfl, k, rfl⟩
  go_wp2_with fail
  go_at_call 9
  refine (n1 _).mono ?_
  rintro e w' ⟨rfl, k, rfl⟩
  go_wp2_with fail
  go_at_call 10
  refine (cA _).mono ?_
  rintro e w' ⟨rfl, k, rfl⟩
  go_wp2_with fail
  go_ret
  exact ⟨rfl, Grown.drewN (Grown.refl _) _⟩

theorem three_mpp2 (a b c : Int) (t : (a == b) = false)
    (c1 : ∀ w : World, Calls Try.prog 11 #[.int .u64 a, .int .u64 b] w fun e w' => e = .returned (.int .i64 (-1)) ∧ ∃ k, w' = w.drewN k)
    (c2 : ∀ w : World, Calls Try.prog 11 #[.int .u64 b, .int .u64 c] w fun e w' => e = .returned (.int .i64 1) ∧ ∃ k, w' = w.drewN k)
    (c3 : ∀ w : World, Calls Try.prog 11 #[.int .u64 a, .int .u64 c] w fun e w' => e = .returned (.int .i64 1) ∧ ∃ k, w' = w.drewN k)
    (c4 : ∀ w : World, Calls Try.prog 11 #[.int .u64 b, .int .u64 a] w fun e w' => e = .returned (.int .i64 1) ∧ ∃ k, w' = w.drewN k)
    (c5 : ∀ w : World, Calls Try.prog 11 #[.int .u64 a, .int .u64 a] w fun e w' => e = .returned (.int .i64 0) ∧ ∃ k, w' = w.drewN k)
    (n1 : ∀ w : World, Calls Try.prog 9 #[.int .u64 a] w fun e w' => e = .returned (.bool true) ∧ ∃ k, w' = w.drewN k)
    (n2 : ∀ w : World, Calls Try.prog 9 #[.int .u64 b] w fun e w' => e = .returned (.bool false) ∧ ∃ k, w' = w.drewN k)
    (cA : ∀ w : World, Calls Try.prog 10 #[] w fun e w' => e = .returned (.bool true) ∧ ∃ k, w' = w.drewN k) (w : World) :
    Calls Try.prog 4 #[.int .u64 a, .int .u64 b, .int .u64 c] w fun e w' => e = .returned (.bool true) ∧ Grown w w' := by
  go_enter Try.func4, Try.ntmps4
  go_wp2_with fail
  go_at_call 11
  refine (c1 _).mono ?_
  rintro e w' ⟨rfl, k, rfl⟩
  go_wp2_with fail
  go_at_call 11
  refine (c2 _).mono ?_
  rintro e w' ⟨rfl, k, rfl⟩
  go_wp2_with fail
  go_at_call 11
  refine (c3 _).mono ?_
  rintro e w' ⟨rfl, k, rfl⟩
  go_wp2_with fail
  go_at_call 11
  refine (c4 _).mono ?_
  rintro e w' ⟨rfl, k, rfl⟩
  go_wp2_with fail
  go_at_call 11
  refine (c5 _).mono ?_
  rintro e w' ⟨rfl, k, rfl⟩
  go_wp2_with fail
  go_at_call 9
  refine (n1 _).mono ?_
  rintro e w' ⟨rfl, k, rfl⟩
  go_wp2_with fail
  go_at_call 9
  refine (n2 _).mono ?_
  rintro e w' ⟨rfl, k, rfl⟩
  go_wp2_with fail
  go_at_call 10
  refine (cA _).mono ?_
  rintro e w' ⟨rfl, k, rfl⟩
  go_wp2_with fail
  go_ret
  exact ⟨rfl, Grown.drewN (Grown.refl _) _⟩

theorem three_zmm1 (a b c : Int) (t : (a == b) = true)
    (c1 : ∀ w : World, Calls Try.prog 11 #[.int .u64 a, .int .u64 b] w fun e w' => e = .returned (.int .i64 0) ∧ ∃ k, w' = w.drewN k)
    (c2 : ∀ w : World, Calls Try.prog 11 #[.int .u64 b, .int .u64 c] w fun e w' => e = .returned (.int .i64 (-1)) ∧ ∃ k, w' = w.drewN k)
    (c3 : ∀ w : World, Calls Try.prog 11 #[.int .u64 a, .int .u64 c] w fun e w' => e = .returned (.int .i64 (-1)) ∧ ∃ k, w' = w.drewN k)
    (c4 : ∀ w : World, Calls Try.prog 11 #[.int .u64 b, .int .u64 a] w fun e w' => e = .returned (.int .i64 0) ∧ ∃ k, w' = w.drewN k)
    (c5 : ∀ w : World, Calls Try.prog 11 #[.int .u64 a, .int .u64 a] w fun e w' => e = .returned (.int .i64 0) ∧ ∃ k, w' = w.drewN k)
    (cA : ∀ w : World, Calls Try.prog 10 #[] w fun e w' => e = .returned (.bool true) ∧ ∃ k, w' = w.drewN k) (w : World) :
    Calls Try.prog 4 #[.int .u64 a, .int .u64 b, .int .u64 c] w fun e w' => e = .returned (.bool true) ∧ Grown w w' := by
  go_enter Try.func4, Try.ntmps4
  go_wp2_with fail
  go_at_call 11
  refine (c1 _).mono ?_
  rintro e w' ⟨rfl, k, rfl⟩
  go_wp2_with fail
  go_at_call 11
  refine (c2 _).mono ?_
  rintro e w' ⟨rfl, k, rfl⟩
  go_wp2_with fail
  go_at_call 11
  refine (c3 _).mono ?_
  rintro e w' ⟨rfl, k, rfl⟩
  go_wp2_with fail
  go_at_call 11
  refine (c4 _).mono ?_
  rintro e w' ⟨rfl, k, rfl⟩
  go_wp2_with fail
  go_at_call 11
  refine (c5 _).mono ?_
  rintro e w' ⟨rfl, k, rfl⟩
  go_wp2_with fail
  go_at_call 10
  refine (cA _).mono ?_
  rintro e w' ⟨rfl, k, rfl⟩
  go_wp2_with fail
  go_ret
  exact ⟨rfl, Grown.drewN (Grown.refl _) _⟩

theorem three_zmm2 (a b c : Int) (t : (a == b) = false)
    (c1 : ∀ w : World, Calls Try.prog 11 #[.int .u64 a, .int .u64 b] w fun e w' => e = .returned (.int .i64 0) ∧ ∃ k, w' = w.drewN k)
    (c2 : ∀ w : World, Calls Try.prog 11 #[.int .u64 b, .int .u64 c] w fun e w' => e = .returned (.int .i64 (-1)) ∧ ∃ k, w' = w.drewN k)
    (c3 : ∀ w : World, Calls Try.prog 11 #[.int .u64 a, .int .u64 c] w fun e w' => e = .returned (.int .i64 (-1)) ∧ ∃ k, w' = w.drewN k)
    (c4 : ∀ w : World, Calls Try.prog 11 #[.int .u64 b, .int .u64 a] w fun e w' => e = .returned (.int .i64 0) ∧ ∃ k, w' = w.drewN k)
    (c5 : ∀ w : World, Calls Try.prog 11 #[.int .u64 a, .int .u64 a] w fun e w' => e = .returned (.int .i64 0) ∧ ∃ k, w' = w.drewN k)
    (n1 : ∀ w : World, Calls Try.prog 9 #[.int .u64 a] w fun e w' => e = .returned (.bool true) ∧ ∃ k, w' = w.drewN k)
    (n2 : ∀ w : World, Calls Try.prog 9 #[.int .u64 b] w fun e w' => e = .returned (.bool true) ∧ ∃ k, w' = w.drewN k)
    (cA : ∀ w : World, Calls Try.prog 10 #[] w fun e w' => e = .returned (.bool true) ∧ ∃ k, w' = w.drewN k) (w : World) :
    Calls Try.prog 4 #[.int .u64 a, .int .u64 b, .int .u64 c] w fun e w' => e = .returned (.bool true) ∧ Grown w w' := by
  go_enter Try.func4, Try.ntmps4
  go_wp2_with fail
  go_at_call 11
  refine (c1 _).mono ?_
  rintro e w' ⟨rfl, k, rfl⟩
  go_wp2_with fail
  go_at_call 11
  refine (c2 _).mono ?_
  rintro e w' ⟨rfl, k, rfl⟩
  go_wp2_with fail
  go_at_call 11
  refine (c3 _).mono ?_
  rintro e w' ⟨rfl, k, rfl⟩
  go_wp2_with fail
  go_at_call 11
  refine (c4 _).mono ?_
  rintro e w' ⟨rfl, k, rfl⟩
  go_wp2_with fail
  go_at_call 11
  refine (c5 _).mono ?_
  rintro e w' ⟨rfl, k, rfl⟩
  go_wp2_with fail
  go_at_call 9
  refine (n1 _).mono ?_
  rintro e w' ⟨rfl, k, rfl⟩
  go_wp2_with fail
  go_at_call 9
  refine (n2 _).mono ?_
  rintro e w' ⟨rfl, k, rfl⟩
  go_wp2_with fail
  go_at_call 10
  refine (cA _).mono ?_
  rintro e w' ⟨rfl, k, rfl⟩
  go_wp2_with fail
  go_ret
  exact ⟨rfl, Grown.drewN (Grown.refl _) _⟩

theorem three_zzz1 (a b c : Int) (t : (a == b) = true)
    (c1 : ∀ w : World, Calls Try.prog 11 #[.int .u64 a, .int .u64 b] w fun e w' => e = .returned (.int .i64 0) ∧ ∃ k, w' = w.drewN k)
    (c2 : ∀ w : World, Calls Try.prog 11 #[.int .u64 b, .int .u64 c] w fun e w' => e = .returned (.int .i64 0) ∧ ∃ k, w' = w.drewN k)
    (c3 : ∀ w : World, Calls Try.prog 11 #[.int .u64 a, .int .u64 c] w fun e w' => e = .returned (.int .i64 0) ∧ ∃ k, w' = w.drewN k)
    (c4 : ∀ w : World, Calls Try.prog 11 #[.int .u64 b, .int .u64 a] w fun e w' => e = .returned (.int .i64 0) ∧ ∃ k, w' = w.drewN k)
    (c5 : ∀ w : World, Calls Try.prog 11 #[.int .u64 a, .int .u64 a] w fun e w' => e = .returned (.int .i64 0) ∧ ∃ k, w' = w.drewN k)
    (cA : ∀ w : World, Calls Try.prog 10 #[] w fun e w' => e = .returned (.bool true) ∧ ∃ k, w' = w.drewN k) (w : World) :
    Calls Try.prog 4 #[.int .u64 a, .int .u64 b, .int .u64 c] w fun e w' => e = .returned (.bool true) ∧ Grown w w' := by
  go_enter Try.func4, Try.ntmps4
  go_wp2_with fail
  go_at_call 11
  refine (c1 _).mono ?_
  rintro e w' ⟨rfl, k, rfl⟩
  go_wp2_with fail
  go_at_call 11
  refine (c2 _).mono ?_
  rintro e w' ⟨rfl, k, rfl⟩
  go_wp2_with fail
  go_at_call 11
  refine (c3 _).mono ?_
  rintro e w' ⟨rfl, k, rfl⟩
  go_wp2_with fail
  go_at_call 11
  refine (c4 _).mono ?_
  rintro e w' ⟨rfl, k, rfl⟩
  go_wp2_with fail
  go_at_call 11
  refine (c5 _).mono ?_
  rintro e w' ⟨rfl, k, rfl⟩
  go_wp2_with fail
  go_at_call 10
  refine (cA _).mono ?_
  rintro e w' ⟨rfl, k, rfl⟩
  go_wp2_with fail
  go_ret
  exact ⟨rfl, Grown.drewN (Grown.refl _) _⟩

theorem three_zzz2 (a b c : Int) (t : (a == b) = false)
    (c1 : ∀ w : World, Calls Try.prog 11 #[.int .u64 a, .int .u64 b] w fun e w' => e = .returned (.int .i64 0) ∧ ∃ k, w' = w.drewN k)
    (c2 : ∀ w : World, Calls Try.prog 11 #[.int .u64 b, .int .u64 c] w fun e w' => e = .returned (.int .i64 0) ∧ ∃ k, w' = w.drewN k)
    (c3 : ∀ w : World, Calls Try.prog 11 #[.int .u64 a, .int .u64 c] w fun e w' => e = .returned (.int .i64 0) ∧ ∃ k, w' = w.drewN k)
    (c4 : ∀ w : World, Calls Try.prog 11 #[.int .u64 b, .int .u64 a] w fun e w' => e = .returned (.int .i64 0) ∧ ∃ k, w' = w.drewN k)
    (c5 : ∀ w : World, Calls Try.prog 11 #[.int .u64 a, .int .u64 a] w fun e w' => e = .returned (.int .i64 0) ∧ ∃ k, w' = w.drewN k)
    (n1 : ∀ w : World, Calls Try.prog 9 #[.int .u64 a] w fun e w' => e = .returned (.bool true) ∧ ∃ k, w' = w.drewN k)
    (n2 : ∀ w : World, Calls Try.prog 9 #[.int .u64 b] w fun e w' => e = .returned (.bool true) ∧ ∃ k, w' = w.drewN k)
    (cA : ∀ w : World, Calls Try.prog 10 #[] w fun e w' => e = .returned (.bool true) ∧ ∃ k, w' = w.drewN k) (w : World) :
    Calls Try.prog 4 #[.int .u64 a, .int .u64 b, .int .u64 c] w fun e w' => e = .returned (.bool true) ∧ Grown w w' := by
  go_enter Try.func4, Try.ntmps4
  go_wp2_with fail
  go_at_call 11
  refine (c1 _).mono ?_
  rintro e w' ⟨rfl, k, rfl⟩
  go_wp2_with fail
  go_at_call 11
  refine (c2 _).mono ?_
  rintro e w' ⟨rfl, k, rfl⟩
  go_wp2_with fail
  go_at_call 11
  refine (c3 _).mono ?_
  rintro e w' ⟨rfl, k, rfl⟩
  go_wp2_with fail
  go_at_call 11
  refine (c4 _).mono ?_
  rintro e w' ⟨rfl, k, rfl⟩
  go_wp2_with fail
  go_at_call 11
  refine (c5 _).mono ?_
  rintro e w' ⟨rfl, k, rfl⟩
  go_wp2_with fail
  go_at_call 9
  refine (n1 _).mono ?_
  rintro e w' ⟨rfl, k, rfl⟩
  go_wp2_with fail
  go_at_call 9
  refine (n2 _).mono ?_
  rintro e w' ⟨rfl, k, rfl⟩
  go_wp2_with fail
  go_at_call 10
  refine (cA _).mono ?_
  rintro e w' ⟨rfl, k, rfl⟩
  go_wp2_with fail
  go_ret
  exact ⟨rfl, Grown.drewN (Grown.refl _) _⟩

theorem three_zpp1 (a b c : Int) (t : (a == b) = true)
    (c1 : ∀ w : World, Calls Try.prog 11 #[.int .u64 a, .int .u64 b] w fun e w' => e = .returned (.int .i64 0) ∧ ∃ k, w' = w.drewN k)
    (c2 : ∀ w : World, Calls Try.prog 11 #[.int .u64 b, .int .u64 c] w fun e w' => e = .returned (.int .i64 1) ∧ ∃ k, w' = w.drewN k)
    (c3 : ∀ w : World, Calls Try.prog 11 #[.int .u64 a, .int .u64 c] w fun e w' => e = .returned (.int .i64 1) ∧ ∃ k, w' = w.drewN k)
    (c4 : ∀ w : World, Calls Try.prog 11 #[.int .u64 b, .int .u64 a] w fun e w' => e = .returned (.int .i64 0) ∧ ∃ k, w' = w.drewN k)
    (c5 : ∀ w : World, Calls Try.prog 11 #[.int .u64 a, .int .u64 a] w fun e w' => e = .returned (.int .i64 0) ∧ ∃ k, w' = w.drewN k)
    (cA : ∀ w : World, Calls Try.prog 10 #[] w fun e w' => e = .returned (.bool true) ∧ ∃ k, w' = w.drewN k) (w : World) :
    Calls Try.prog 4 #[.int .u64 a, .int .u64 b, .int .u64 c] w fun e w' => e = .returned (.bool true) ∧ Grown w w' := by
  go_enter Try.func4, Try.ntmps4
  go_wp2_with fail
  go_at_call 11
  refine (c1 _).mono ?_
  rintro e w' ⟨rfl, k, rfl⟩
  go_wp2_with fail
  go_at_call 11
  refine (c2 _).mono ?_
  rintro e w' ⟨rfl, k, rfl⟩
  go_wp2_with fail
  go_at_call 11
  refine (c3 _).mono ?_
  rintro e w' ⟨rfl, k, rfl⟩
  go_wp2_with fail
  go_at_call 11
  refine (c4 _).mono ?_
  rintro e w' ⟨rfl, k, rfl⟩
  go_wp2_with fail
  go_at_call 11
  refine (c5 _).mono ?_
  rintro e w' ⟨rfl, k, rfl⟩
  go_wp2_with fail
  go_at_call 10
  refine (cA _).mono ?_
  rintro e w' ⟨rfl, k, rfl⟩
  go_wp2_with fail
  go_ret
  exact ⟨rfl, Grown.drewN (Grown.refl _) _⟩

theorem three_zpp2 (a b c : Int) (t : (a == b) = false)
    (c1 : ∀ w : World, Calls Try.prog 11 #[.int .u64 a, .int .u64 b] w fun e w' => e = .returned (.int .i64 0) ∧ ∃ k, w' = w.drewN k)
    (c2 : ∀ w : World, Calls Try.prog 11 #[.int .u64 b, .int .u64 c] w fun e w' => e = .returned (.int .i64 1) ∧ ∃ k, w' = w.drewN k)
    (c3 : ∀ w : World, Calls Try.prog 11 #[.int .u64 a, .int .u64 c] w fun e w' => e = .returned (.int .i64 1) ∧ ∃ k, w' = w.drewN k)
    (c4 : ∀ w : World, Calls Try.prog 11 #[.int .u64 b, .int .u64 a] w fun e w' => e = .returned (.int .i64 0) ∧ ∃ k, w' = w.drewN k)
    (c5 : ∀ w : World, Calls Try.prog 11 #[.int .u64 a, .int .u64 a] w fun e w' => e = .returned (.int .i64 0) ∧ ∃ k, w' = w.drewN k)
    (n1 : ∀ w : World, Calls Try.prog 9 #[.int .u64 a] w fun e w' => e = .returned (.bool true) ∧ ∃ k, w' = w.drewN k)
    (n2 : ∀ w : World, Calls Try.prog 9 #[.int .u64 b] w fun e w' => e = .returned (.bool true) ∧ ∃ k, w' = w.drewN k)
    (cA : ∀ w : World, Calls Try.prog 10 #[] w fun e w' => e = .returned (.bool true) ∧ ∃ k, w' = w.drewN k) (w : World) :
    Calls Try.prog 4 #[.int .u64 a, .int .u64 b, .int .u64 c] w fun e w' => e = .returned (.bool true) ∧ Grown w w' := by
  go_enter Try.func4, Try.ntmps4
  go_wp2_with fail
  go_at_call 11
  refine (c1 _).mono ?_
  rintro e w' ⟨rfl, k, rfl⟩
  go_wp2_with fail
  go_at_call 11
  refine (c2 _).mono ?_
  rintro e w' ⟨rfl, k, rfl⟩
  go_wp2_with fail
  go_at_call 11
  refine (c3 _).mono ?_
  rintro e w' ⟨rfl, k, rfl⟩
  go_wp2_with fail
  go_at_call 11
  refine (c4 _).mono ?_
  rintro e w' ⟨rfl, k, rfl⟩
  go_wp2_with fail
  go_at_call 11
  refine (c5 _).mono ?_
  rintro e w' ⟨rfl, k, rfl⟩
  go_wp2_with fail
  go_at_call 9
  refine (n1 _).mono ?_
  rintro e w' ⟨rfl, k, rfl⟩
  go_wp2_with fail
  go_at_call 9
  refine (n2 _).mono ?_
  rintro e w' ⟨rfl, k, rfl⟩
  go_wp2_with fail
  go_at_call 10
  refine (cA _).mono ?_
  rintro e w' ⟨rfl, k, rfl⟩
  go_wp2_with fail
  go_ret
  exact ⟨rfl, Grown.drewN (Grown.refl _) _⟩

theorem three_pmm1 (a b c : Int) (t : (a == b) = false)
    (c1 : ∀ w : World, Calls Try.prog 11 #[.int .u64 a, .int .u64 b] w fun e w' => e = .returned (.int .i64 1) ∧ ∃ k, w' = w.drewN k)
    (c2 : ∀ w : World, Calls Try.prog 11 #[.int .u64 b, .int .u64 c] w fun e w' => e = .returned (.int .i64 (-1)) ∧ ∃ k, w' = w.drewN k)
    (c3 : ∀ w : World, Calls Try.prog 11 #[.int .u64 a, .int .u64 c] w fun e w' => e = .returned (.int .i64 (-1)) ∧ ∃ k, w' = w.drewN k)
    (c4 : ∀ w : World, Calls Try.prog 11 #[.int .u64 b, .int .u64 a] w fun e w' => e = .returned (.int .i64 (-1)) ∧ ∃ k, w' = w.drewN k)
    (c5 : ∀ w : World, Calls Try.prog 11 #[.int .u64 a, .int .u64 a] w fun e w' => e = .returned (.int .i64 0) ∧ ∃ k, w' = w.drewN k)
    (n1 : ∀ w : World, Calls Try.prog 9 #[.int .u64 a] w fun e w' => e = .returned (.bool false) ∧ ∃ k, w' = w.drewN k)
    (cA : ∀ w : World, Calls Try.prog 10 #[] w fun e w' => e = .returned (.bool true) ∧ ∃ k, w' = w.drewN k) (w : World) :
    Calls Try.prog 4 #[.int .u64 a, .int .u64 b, .int .u64 c] w fun e w' => e = .returned (.bool true) ∧ Grown w w' := by
  go_enter Try.func4, Try.ntmps4
  go_wp2_with fail
  go_at_call 11
  refine (c1 _).mono ?_
  rintro e w' ⟨rfl, k, rfl⟩
  go_wp2_with fail
  go_at_call 11
  refine (c2 _).mono ?_
  rintro e w' ⟨rfl, k, rfl⟩
  go_wp2_with fail
  go_at_call 11
  refine (c3 _).mono ?_
  rintro e w' ⟨rfl, k, rfl⟩
  go_wp2_with fail
  go_at_call 11
  refine (c4 _).mono ?_
  rintro e w' ⟨rfl, k, rfl⟩
  go_wp2_with fail
  go_at_call 11
  refine (c5 _).mono ?_
  rintro e w' ⟨rfl, k, rfl⟩
  go_wp2_with fail
  go_at_call 9
  refine (n1 _).mono ?_
  rintro e w' ⟨rfl, k, rfl⟩
  go_wp2_with fail
  go_at_call 10
  refine (cA _).mono ?_
  rintro e w' ⟨rfl, k, rfl⟩
  go_wp2_with fail
  go_ret
  exact ⟨rfl, Grown.drewN (Grown.refl _) _⟩

theorem three_pmm2 (a b c : Int) (t : (a == b) = false)
    (c1 : ∀ w : World, Calls Try.prog 11 #[.int .u64 a, .int .u64 b] w fun e w' => e = .returned (.int .i64 1) ∧ ∃ k, w' = w.drewN k)
    (c2 : ∀ w : World, Calls Try.prog 11 #[.int .u64 b, .int .u64 c] w fun e w' => e = .returned (.int .i64 (-1)) ∧ ∃ k, w' = w.drewN k)
    (c3 : ∀ w : World, Calls Try.prog 11 #[.int .u64 a, .int .u64 c] w fun e w' => e = .returned (.int .i64 (-1)) ∧ ∃ k, w' = w.drewN k)
    (c4 : ∀ w : World, Calls Try.prog 11 #[.int .u64 b, .int .u64 a] w fun e w' => e = .returned (.int .i64 (-1)) ∧ ∃ k, w' = w.drewN k)
    (c5 : ∀ w : World, Calls Try.prog 11 #[.int .u64 a, .int .u64 a] w fun e w' => e = .returned (.int .i64 0) ∧ ∃ k, w' = w.drewN k)
    (n1 : ∀ w : World, Calls Try.prog 9 #[.int .u64 a] w fun e w' => e = .returned (.bool true) ∧ ∃ k, w' = w.drewN k)
    (n2 : ∀ w : World, Calls Try.prog 9 #[.int .u64 b] w fun e w' => e = .returned (.bool false) ∧ ∃ k, w' = w.drewN k)
    (cA : ∀ w : World, Calls Try.prog 10 #[] w fun e w' => e = .returned (.bool true) ∧ ∃ k, w' = w.drewN k) (w : World) :
    Calls Try.prog 4 #[.int .u64 a, .int .u64 b, .int .u64 c] w fun e w' => e = .returned (.bool true) ∧ Grown w w' := by
  go_enter Try.func4, Try.ntmps4
  go_wp2_with fail
  go_at_call 11
  refine (c1 _).mono ?_
  rintro e w' ⟨rfl, k, rfl⟩
  go_wp2_with fail
  go_at_call 11
  refine (c2 _).mono ?_
  rintro e w' ⟨rfl, k, rfl⟩
  go_wp2_with fail
  go_at_call 11
  refine (c3 _).mono ?_
  rintro e w' ⟨rfl, k, rfl⟩
  go_wp2_with fail
  go_at_call 11
  refine (c4 _).mono ?_
  rintro e w' ⟨rfl, k, rfl⟩
  go_wp2_with fail
  go_at_call 11
  refine (c5 _).mono ?_
  rintro e w' ⟨rfl, k, rfl⟩
  go_wp2_with fail
  go_at_call 9
  refine (n1 _).mono ?_
  rintro e w' ⟨rfl, k, rfl⟩
  go_wp2_with fail
  go_at_call 9
  refine (n2 _).mono ?_
  rintro e w' ⟨rfl, k, rfl⟩
  go_wp2_with fail
  go_at_call 10
  refine (cA _).mono ?_
  rintro e w' ⟨rfl, k, rfl⟩
  go_wp2_with fail
  go_ret
  exact ⟨rfl, Grown.drewN (Grown.refl _) _⟩

theorem three_pmz1 (a b c : Int) (t : (a == b) = false)
    (c1 : ∀ w : World, Calls Try.prog 11 #[.int .u64 a, .int .u64 b] w fun e w' => e = .returned (.int .i64 1) ∧ ∃ k, w' = w.drewN k)
    (c2 : ∀ w : World, Calls Try.prog 11 #[.int .u64 b, .int .u64 c] w fun e w' => e = .returned (.int .i64 (-1)) ∧ ∃ k, w' = w.drewN k)
    (c3 : ∀ w : World, Calls Try.prog 11 #[.int .u64 a, .int .u64 c] w fun e w' => e = .returned (.int .i64 0) ∧ ∃ k, w' = w.drewN k)
    (c4 : ∀ w : World, Calls Try.prog 11 #[.int .u64 b, .int .u64 a] w fun e w' => e = .returned (.int .i64 (-1)) ∧ ∃ k, w' = w.drewN k)
    (c5 : ∀ w : World, Calls Try.prog 11 #[.int .u64 a, .int .u64 a] w fun e w' => e = .returned (.int .i64 0) ∧ ∃ k, w' = w.drewN k)
    (n1 : ∀ w : World, Calls Try.prog 9 #[.int .u64 a] w fun e w' => e = .returned (.bool false) ∧ ∃ k, w' = w.drewN k)
    (cA : ∀ w : World, Calls Try.prog 10 #[] w fun e w' => e = .returned (.bool true) ∧ ∃ k, w' = w.drewN k) (w : World) :
    Calls Try.prog 4 #[.int .u64 a, .int .u64 b, .int .u64 c] w fun e w' => e = .returned (.bool true) ∧ Grown w w' := by
  go_enter Try.func4, Try.ntmps4
  go_wp2_with fail
  go_at_call 11
  refine (c1 _).mono ?_
  rintro e w' ⟨rfl, k, rfl⟩
  go_wp2_with fail
  go_at_call 11
  refine (c2 _).mono ?_
  rintro e w' ⟨rfl, k, rfl⟩
  go_wp2_with fail
  go_at_call 11
  refine (c3 _).mono ?_
  rintro e w' ⟨rfl, k, rfl⟩
  go_wp2_with fail
  go_at_call 11
  refine (c4 _).mono ?_
  rintro e w' ⟨rfl, k, rfl⟩
  go_wp2_with fail
  go_at_call 11
  refine (c5 _).mono ?_
  rintro e w' ⟨rfl, k, rfl⟩
  go_wp2_with fail
  go_at_call 9
  refine (n1 _).mono ?_
  rintro e w' ⟨rfl, k, rfl⟩
  go_wp2_with fail
  go_at_call 10
  refine (cA _).mono ?_
  rintro e w' ⟨rfl, k, rfl⟩
  go_wp2_with fail
  go_ret
  exact ⟨rfl, Grown.drewN (Grown.refl _) _⟩

theorem three_pmz2 (a b c : Int) (t : (a == b) = false)
    (c1 : ∀ w : World, Calls Try.prog 11 #[.int .u64 a, .int .u64 b] w fun e w' => e = .returned (.int .i64 1) ∧ ∃ k, w' = w.drewN k)
    (c2 : ∀ w : World, Calls Try.prog 11 #[.int .u64 b, .int .u64 c] w fun e w' => e = .returned (.int .i64 (-1)) ∧ ∃ k, w' = w.drewN k)
    (c3 : ∀ w : World, Calls Try.prog 11 #[.int .u64 a, .int .u64 c] w fun e w' => e = .returned (.int .i64 0) ∧ ∃ k, w' = w.drewN k)
    (c4 : ∀ w : World, Calls Try.prog 11 #[.int .u64 b, .int .u64 a] w fun e w' => e = .returned (.int .i64 (-1)) ∧ ∃ k, w' = w.drewN k)
    (c5 : ∀ w : World, Calls Try.prog 11 #[.int .u64 a, .int .u64 a] w fun e w' => e = .returned (.int .i64 0) ∧ ∃ k, w' = w.drewN k)
    (n1 : ∀ w : World, Calls Try.prog 9 #[.int .u64 a] w fun e w' => e = .returned (.bool true) ∧ ∃ k, w' = w.drewN k)
    (n2 : ∀ w : World, Calls Try.prog 9 #[.int .u64 b] w fun e w' => e = .returned (.bool false) ∧ ∃ k, w' = w.drewN k)
    (cA : ∀ w : World, Calls Try.prog 10 #[] w fun e w' => e = .returned (.bool true) ∧ ∃ k, w' = w.drewN k) (w : World) :
    Calls Try.prog 4 #[.int .u64 a, .int .u64 b, .int .u64 c] w fun e w' => e = .returned (.bool true) ∧ Grown w w' := by
  go_enter Try.func4, Try.ntmps4
  go_wp2_with fail
  go_at_call 11
  refine (c1 _).mono ?_
  rintro e w' ⟨rfl, k, rfl⟩
  go_wp2_with fail
  go_at_call 11
  refine (c2 _).mono ?_
  rintro e w' ⟨rfl, k, rfl⟩
  go_wp2_with fail
  go_at_call 11
  refine (c3 _).mono ?_
  rintro e w' ⟨rfl, k, rfl⟩
  go_wp2_with fail
  go_at_call 11
  refine (c4 _).mono ?_
  rintro e w' ⟨rfl, k, rfl⟩
  go_wp2_with fail
  go_at_call 11
  refine (c5 _).mono ?_
  rintro e w' ⟨rfl, k, rfl⟩
  go_wp2_with fail
  go_at_call 9
  refine (n1 _).mono ?_
  rintro e w' ⟨rfl, k, rfl⟩
  go_wp2_with fail
  go_at_call 9
  refine (n2 _).mono ?_
  rintro e w' ⟨rfl, k, rfl⟩
  go_wp2_with fail
  go_at_call 10
  refine (cA _).mono ?_
  rintro e w' ⟨rfl, k, rfl⟩
  go_wp2_with fail
  go_ret
  exact ⟨rfl, Grown.drewN (Grown.refl _) _⟩

theorem three_pmp1 (a b c : Int) (t : (a == b) = false)
    (c1 : ∀ w : World, Calls Try.prog 11 #[.int .u64 a, .int .u64 b] w fun e w' => e = .returned (.int .i64 1) ∧ ∃ k, w' = w.drewN k)
    (c2 : ∀ w : World, Calls Try.prog 11 #[.int .u64 b, .int .u64 c] w fun e w' => e = .returned (.int .i64 (-1)) ∧ ∃ k, w' = w.drewN k)
    (c3 : ∀ w : World, Calls Try.prog 11 #[.int .u64 a, .int .u64 c] w fun e w' => e = .returned (.int .i64 1) ∧ ∃ k, w' = w.drewN k)
    (c4 : ∀ w : World, Calls Try.prog 11 #[.int .u64 b, .int .u64 a] w fun e w' => e = .returned (.int .i64 (-1)) ∧ ∃ k, w' = w.drewN k)
    (c5 : ∀ w : World, Calls Try.prog 11 #[.int .u64 a, .int .u64 a] w fun e w' => e = .returned (.int .i64 0) ∧ ∃ k, w' = w.drewN k)
    (n1 : ∀ w : World, Calls Try.prog 9 #[.int .u64 a] w fun e w' => e = .returned (.bool false) ∧ ∃ k, w' = w.drewN k)
    (cA : ∀ w : World, Calls Try.prog 10 #[] w fun e w' => e = .returned (.bool true) ∧ ∃ k, w' = w.drewN k) (w : World) :
    Calls Try.prog 4 #[.int .u64 a, .int .u64 b, .int .u64 c] w fun e w' => e = .returned (.bool true) ∧ Grown w w' := by
  go_enter Try.func4, Try.ntmps4
  go_wp2_with fail
  go_at_call 11
  refine (c1 _).mono ?_
  rintro e w' ⟨rfl, k, rfl⟩
  go_wp2_with fail
  go_at_call 11
  refine (c2 _).mono ?_
  rintro e w' ⟨rfl, k, rfl⟩
  go_wp2_with fail
  go_at_call 11
  refine (c3 _).mono ?_
  rintro e w' ⟨rfl, k, rfl⟩
  go_wp2_with fail
  go_at_call 11
  refine (c4 _).mono ?_
  rintro e w' ⟨rfl, k, rfl⟩
  go_wp2_with fail
  go_at_call 11
  refine (c5 _).mono ?_
  rintro e w' ⟨rfl, k, rfl⟩
  go_wp2_with fail
  go_at_call 9
  refine (n1 _).mono ?_
  rintro e w' ⟨rfl, k, rfl⟩
  go_wp2_with fail
  go_at_call 10
  refine (cA _).mono ?_
  rintro e w' ⟨rfl, k, rfl⟩
  go_wp2_with fail
  go_ret
  exact ⟨rfl, Grown.drewN (Grown.refl _) _⟩

theorem three_pmp2 (a b c : Int) (t : (a == b) = false)
    (c1 : ∀ w : World, Calls Try.prog 11 #[.int .u64 a, .int .u64 b] w fun e w' => e = .returned (.int .i64 1) ∧ ∃ k, w' = w.drewN k)
    (c2 : ∀ w : World, Calls Try.prog 11 #[.int .u64 b, .int .u64 c] w fun e w' => e = .returned (.int .i64 (-1)) ∧ ∃ k, w' = w.drewN k)
    (c3 : ∀ w : World, Calls Try.prog 11 #[.int .u64 a, .int .u64 c] w fun e w' => e = .returned (.int .i64 1) ∧ ∃ k, w' = w.drewN k)
    (c4 : ∀ w : World, Calls Try.prog 11 #[.int .u64 b, .int .u64 a] w fun e w' => e = .returned (.int .i64 (-1)) ∧ ∃ k, w' = w.drewN k)
    (c5 : ∀ w : World, Calls Try.prog 11 #[.int .u64 a, .int .u64 a] w fun e w' => e = .returned (.int .i64 0) ∧ ∃ k, w' = w.drewN k)
    (n1 : ∀ w : World, Calls Try.prog 9 #[.int .u64 a] w fun e w' => e = .returned (.bool true) ∧ ∃ k, w' = w.drewN k)
    (n2 : ∀ w : World, Calls Try.prog 9 #[.int .u64 b] w fun e w' => e = .returned (.bool false) ∧ ∃ k, w' = w.drewN k)
    (cA : ∀ w : World, Calls Try.prog 10 #[] w fun e w' => e = .returned (.bool true) ∧ ∃ k, w' = w.drewN k) (w : World) :
    Calls Try.prog 4 #[.int .u64 a, .int .u64 b, .int .u64 c] w fun e w' => e = .returned (.bool true) ∧ Grown w w' := by
  go_enter Try.func4, Try.ntmps4
  go_wp2_with fail
  go_at_call 11
  refine (c1 _).mono ?_
  rintro e w' ⟨rfl, k, rfl⟩
  go_wp2_with fail
  go_at_call 11
  refine (c2 _).mono ?_
  rintro e w' ⟨rfl, k, rfl⟩
  go_wp2_with fail
  go_at_call 11
  refine (c3 _).mono ?_
  rintro e w' ⟨rfl, k, rfl⟩
  go_wp2_with fail
  go_at_call 11
  refine (c4 _).mono ?_
  rintro e w' ⟨rfl, k, rfl⟩
  go_wp2_with fail
  go_at_call 11
  refine (c5 _).mono ?_
  rintro e w' ⟨rfl, k, rfl⟩
  go_wp2_with fail
  go_at_call 9
  refine (n1 _).mono ?_
  rintro e w' ⟨rfl, k, rfl⟩
  go_wp2_with fail
  go_at_call 9
  refine (n2 _).mono ?_
  rintro e w' ⟨rfl, k, rfl⟩
  go_wp2_with fail
  go_at_call 10
  refine (cA _).mono ?_
  rintro e w' ⟨rfl, k, rfl⟩
  go_wp2_with fail
  go_ret
  exact ⟨rfl, Grown.drewN (Grown.refl _) _⟩

theorem three_pzp1 (a b c : Int) (t : (a == b) = false)
    (c1 : ∀ w : World, Calls Try.prog 11 #[.int .u64 a, .int .u64 b] w fun e w' => e = .returned (.int .i64 1) ∧ ∃ k, w' = w.drewN k)
    (c2 : ∀ w : World, Calls Try.prog 11 #[.int .u64 b, .int .u64 c] w fun e w' => e = .returned (.int .i64 0) ∧ ∃ k, w' = w.drewN k)
    (c3 : ∀ w : World, Calls Try.prog 11 #[.int .u64 a, .int .u64 c] w fun e w' => e = .returned (.int .i64 1) ∧ ∃ k, w' = w.drewN k)
    (c4 : ∀ w : World, Calls Try.prog 11 #[.int .u64 b, .int .u64 a] w fun e w' => e = .returned (.int .i64 (-1)) ∧ ∃ k, w' = w.drewN k)
    (c5 : ∀ w : World, Calls Try.prog 11 #[.int .u64 a, .int .u64 a] w fun e w' => e = .returned (.int .i64 0) ∧ ∃ k, w' = w.drewN k)
    (n1 : ∀ w : World, Calls Try.prog 9 #[.int .u64 a] w fun e w' => e = .returned (.bool false) ∧ ∃ k, w' = w.drewN k)
    (cA : ∀ w : World, Calls Try.prog 10 #[] w fun e w' => e = .returned (.bool true) ∧ ∃ k, w' = w.drewN k) (w : World) :
    Calls Try.prog 4 #[.int .u64 a, .int .u64 b, .int .u64 c] w fun e w' => e = .returned (.bool true) ∧ Grown w w' := by
  go_enter Try.func4, Try.ntmps4
  go_wp2_with fail
  go_at_call 11
  refine (c1 _).mono ?_
  rintro e w' ⟨rfl, k, rfl⟩
  go_wp2_with fail
  go_at_call 11
  refine (c2 _).mono ?_
  rintro e w' ⟨rfl, k, rfl⟩
  go_wp2_with fail
  go_at_call 11
  refine (c3 _).mono ?_
  rintro e w' ⟨rfl, k, rfl⟩
  go_wp2_with fail
  go_at_call 11
  refine (c4 _).mono ?_
  rintro e w' ⟨rfl, k, rfl⟩
  go_wp2_with fail
  go_at_call 11
  refine (c5 _).mono ?_
  rintro e w' ⟨rfl, k, rfl⟩
  go_wp2_with fail
  go_at_call 9
  refine (n1 _).mono ?_
  rintro e w' ⟨rfl, k, rfl⟩
  go_wp2_with fail
  go_at_call 10
  refine (cA _).mono ?_
  rintro e w' ⟨rfl, k, rfl⟩
  go_wp2_with fail
  go_ret
  exact ⟨rfl, Grown.drewN (Grown.refl _) _⟩

theorem three_pzp2 (a b c : Int) (t : (a == b) = false)
    (c1 : ∀ w : World, Calls Try.prog 11 #[.int .u64 a, .int .u64 b] w fun e w' => e = .returned (.int .i64 1) ∧ ∃ k, w' = w.drewN k)
    (c2 : ∀ w : World, Calls Try.prog 11 #[.int .u64 b, .int .u64 c] w fun e w' => e = .returned (.int .i64 0) ∧ ∃ k, w' = w.drewN k)
    (c3 : ∀ w : World, Calls Try.prog 11 #[.int .u64 a, .int .u64 c] w fun e w' => e = .returned (.int .i64 1) ∧ ∃ k, w' = w.drewN k)
    (c4 : ∀ w : World, Calls Try.prog 11 #[.int .u64 b, .int .u64 a] w fun e w' => e = .returned (.int .i64 (-1)) ∧ ∃ k, w' = w.drewN k)
    (c5 : ∀ w : World, Calls Try.prog 11 #[.int .u64 a, .int .u64 a] w fun e w' => e = .returned (.int .i64 0) ∧ ∃ k, w' = w.drewN k)
    (n1 : ∀ w : World, Calls Try.prog 9 #[.int .u64 a] w fun e w' => e = .returned (.bool true) ∧ ∃ k, w' = w.drewN k)
    (n2 : ∀ w : World, Calls Try.prog 9 #[.int .u64 b] w fun e w' => e = .returned (.bool false) ∧ ∃ k, w' = w.drewN k)
    (cA : ∀ w : World, Calls Try.prog 10 #[] w fun e w' => e = .returned (.bool true) ∧ ∃ k, w' = w.drewN k) (w : World) :
    Calls Try.prog 4 #[.int .u64 a, .int .u64 b, .int .u64 c] w fun e w' => e = .returned (.bool true) ∧ Grown w w' := by
  go_enter Try.func4, Try.ntmps4
  go_wp2_with fail
  go_at_call 11
  refine (c1 _).mono ?_
  rintro e w' ⟨rfl, k, rfl⟩
  go_wp2_with fail
  go_at_call 11
  refine (c2 _).mono ?_
  rintro e w' ⟨rfl, k, rfl⟩
  go_wp2_with fail
  go_at_call 11
  refine (c3 _).mono ?_
  rintro e w' ⟨rfl, k, rfl⟩
  go_wp2_with fail
  go_at_call 11
  refine (c4 _).mono ?_
  rintro e w' ⟨rfl, k, rfl⟩
  go_wp2_with fail
  go_at_call 11
  refine (c5 _).mono ?_
  rintro e w' ⟨rfl, k, rfl⟩
  go_wp2_with fail
  go_at_call 9
  refine (n1 _).mono ?_
  rintro e w' ⟨rfl, k, rfl⟩
  go_wp2_with fail
  go_at_call 9
  refine (n2 _).mono ?_
  rintro e w' ⟨rfl, k, rfl⟩
  go_wp2_with fail
  go_at_call 10
  refine (cA _).mono ?_
  rintro e w' ⟨rfl, k, rfl⟩
  go_wp2_with fail
  go_ret
  exact ⟨rfl, Grown.drewN (Grown.refl _) _⟩

theorem three_ppp1 (a b c : Int) (t : (a == b) = false)
    (c1 : ∀ w : World, Calls Try.prog 11 #[.int .u64 a, .int .u64 b] w fun e w' => e = .returned (.int .i64 1) ∧ ∃ k, w' = w.drewN k)
    (c2 : ∀ w : World, Calls Try.prog 11 #[.int .u64 b, .int .u64 c] w fun e w' => e = .returned (.int .i64 1) ∧ ∃ k, w' = w.drewN k)
    (c3 : ∀ w : World, Calls Try.prog 11 #[.int .u64 a, .int .u64 c] w fun e w' => e = .returned (.int .i64 1) ∧ ∃ k, w' = w.drewN k)
    (c4 : ∀ w : World, Calls Try.prog 11 #[.int .u64 b, .int .u64 a] w fun e w' => e = .returned (.int .i64 (-1)) ∧ ∃ k, w' = w.drewN k)
    (c5 : ∀ w : World, Calls Try.prog 11 #[.int .u64 a, .int .u64 a] w fun e w' => e = .returned (.int .i64 0) ∧ ∃ k, w' = w.drewN k)
    (n1 : ∀ w : World, Calls Try.prog 9 #[.int .u64 a] w fun e w' => e = .returned (.bool false) ∧ ∃ k, w' = w.drewN k)
    (cA : ∀ w : World, Calls Try.prog 10 #[] w fun e w' => e = .returned (.bool true) ∧ ∃ k, w' = w.drewN k) (w : World) :
    Calls Try.prog 4 #[.int .u64 a, .int .u64 b, .int .u64 c] w fun e w' => e = .returned (.bool true) ∧ Grown w w' := by
  go_enter Try.func4, Try.ntmps4
  go_wp2_with fail
  go_at_call 11
  refine (c1 _).mono ?_
  rintro e w' ⟨rfl, k, rfl⟩
  go_wp2_with fail
  go_at_call 11
  refine (c2 _).mono ?_
  rintro e w' ⟨rfl, k, rfl⟩
  go_wp2_with fail
  go_at_call 11
  refine (c3 _).mono ?_
  rintro e w' ⟨rfl, k, rfl⟩
  go_wp2_with fail
  go_at_call 11
  refine (c4 _).mono ?_
  rintro e w' ⟨rfl, k, rfl⟩
  go_wp2_with fail
  go_at_call 11
  refine (c5 _).mono ?_
  rintro e w' ⟨rfl, k, rfl⟩
  go_wp2_with fail
  go_at_call 9
  refine (n1 _).mono ?_
  rintro e w' ⟨rfl, k, rfl⟩
  go_wp2_with fail
  go_at_call 10
  refine (cA _).mono ?_
  rintro e w' ⟨rfl, k, rfl⟩
  go_wp2_with fail
  go_ret
  exact ⟨rfl, Grown.drewN (Grown.refl _) _⟩

theorem three_ppp2 (a b c : Int) (t : (a == b) = false)
    (c1 : ∀ w : World, Calls Try.prog 11 #[.int .u64 a, .int .u64 b] w fun e w' => e = .returned (.int .i64 1) ∧ ∃ k, w' = w.drewN k)
    (c2 : ∀ w : World, Calls Try.prog 11 #[.int .u64 b, .int .u64 c] w fun e w' => e = .returned (.int .i64 1) ∧ ∃ k, w' = w.drewN k)
    (c3 : ∀ w : World, Calls Try.prog 11 #[.int .u64 a, .int .u64 c] w fun e w' => e = .returned (.int .i64 1) ∧ ∃ k, w' = w.drewN k)
    (c4 : ∀ w : World, Calls Try.prog 11 #[.int .u64 b, .int .u64 a] w fun e w' => e = .returned (.int .i64 (-1)) ∧ ∃ k, w' = w.drewN k)
    (c5 : ∀ w : World, Calls Try.prog 11 #[.int .u64 a, .int .u64 a] w fun e w' => e = .returned (.int .i64 0) ∧ ∃ k, w' = w.drewN k)
    (n1 : ∀ w : World, Calls Try.prog 9 #[.int .u64 a] w fun e w' => e = .returned (.bool true) ∧ ∃ k, w' = w.drewN k)
    (n2 : ∀ w : World, Calls Try.prog 9 #[.int .u64 b] w fun e w' => e = .returned (.bool false) ∧ ∃ k, w' = w.drewN k)
    (cA : ∀ w : World, Calls Try.prog 10 #[] w fun e w' => e = .returned (.bool true) ∧ ∃ k, w' = w.drewN k) (w : World) :
    Calls Try.prog 4 #[.int .u64 a, .int .u64 b, .int .u64 c] w fun e w' => e = .returned (.bool true) ∧ Grown w w' := by
  go_enter Try.func4, Try.ntmps4
  go_wp2_with fail
  go_at_call 11
  refine (c1 _).mono ?_
  rintro e w' ⟨rfl, k, rfl⟩
  go_wp2_with fail
  go_at_call 11
  refine (c2 _).mono ?_
  rintro e w' ⟨rfl, k, rfl⟩
  go_wp2_with fail
  go_at_call 11
  refine (c3 _).mono ?_
  rintro e w' ⟨rfl, k, rfl⟩
  go_wp2_with fail
  go_at_call 11
  refine (c4 _).mono ?_
  rintro e w' ⟨rfl, k, rfl⟩
  go_wp2_with fail
  go_at_call 11
  refine (c5 _).mono ?_
  rintro e w' ⟨rfl, k, rfl⟩
  go_wp2_with fail
  go_at_call 9
  refine (n1 _).mono ?_
  rintro e w' ⟨rfl, k, rfl⟩
  go_wp2_with fail
  go_at_call 9
  refine (n2 _).mono ?_
  rintro e w' ⟨rfl, k, rfl⟩
  go_wp2_with fail
  go_at_call 10
  refine (cA _).mono ?_
  rintro e w' ⟨rfl, k, rfl⟩
  go_wp2_with fail
  go_ret
  exact ⟨rfl, Grown.drewN (Grown.refl _) _⟩

end Go.Proofs.Ytkogomgnfeigbab
