/- The roads of five of the chapter's laws, over what the functions that they call answer. -/
import Derived.Test.YtkogomgnfeigbaaLaws
import Derived.Laws.BitsAllLaws
import Derived.Outline
namespace Go.Proofs.Ytkogomgnfeigbaa
open Go.ChangeShapes Go.WideShapes Go.ChangeAt Go.RowKit Go.Proofs.Dbl

theorem ratioOf_core (a b r o t : Int) 
    (c1 : ∀ w : World, Calls Try.prog 9 #[.int .u64 a, .int .u64 b] w fun e w' => e = .returned (.int .u64 o) ∧ ∃ k, w' = w.drewN k)
    (c2 : ∀ w : World, Calls Try.prog 10 #[.int .u64 a, .int .u64 b] w fun e w' => e = .returned (.int .u64 o) ∧ ∃ k, w' = w.drewN k)
    (c3 : ∀ w : World, Calls Try.prog 11 #[.int .u64 a, .int .u64 r] w fun e w' => e = .returned (.int .u64 t) ∧ ∃ k, w' = w.drewN k)
    (c4 : ∀ w : World, Calls Try.prog 12 #[.int .u64 a, .int .u64 r] w fun e w' => e = .returned (.int .u64 t) ∧ ∃ k, w' = w.drewN k)
    (cA : ∀ w : World, Calls Try.prog 13 #[] w fun e w' => e = .returned (.bool true) ∧ ∃ k, w' = w.drewN k) (w : World) :
    Calls Try.prog 3 #[.int .u64 a, .int .u64 b, .int .u64 r] w fun e w' => e = .returned (.bool true) ∧ Grown w w' := by
  go_enter Try.func3, Try.ntmps3
  go_wp2_with fail
  go_at_call 9
  refine (c1 _).mono ?_
  rintro e w' ⟨rfl, k, rfl⟩
  go_wp2_with fail
  go_at_call 10
  refine (c2 _).mono ?_
  rintro e w' ⟨rfl, k, rfl⟩
  go_wp2_with fail
  go_at_call 11
  refine (c3 _).mono ?_
  rintro e w' ⟨rfl, k, rfl⟩
  go_wp2_with fail
  go_at_call 12
  refine (c4 _).mono ?_
  rintro e w' ⟨rfl, k, rfl⟩
  go_wp2_with fail
  go_at_call 13
  refine (cA _).mono ?_
  rintro e w' ⟨rfl, k, rfl⟩
  go_wp2_with fail
  go_ret
  exact ⟨rfl, Grown.drewN (Grown.refl _) _⟩

theorem ratioGoals_core (l g p q o t : Int) 
    (c1 : ∀ w : World, Calls Try.prog 14 #[.int .u64 l, .int .i64 q] w fun e w' => e = .returned (.int .u64 o) ∧ ∃ k, w' = w.drewN k)
    (c2 : ∀ w : World, Calls Try.prog 15 #[.int .u64 l, .int .i64 q] w fun e w' => e = .returned (.int .u64 o) ∧ ∃ k, w' = w.drewN k)
    (c3 : ∀ w : World, Calls Try.prog 16 #[.int .u64 l, .int .u64 g, .int .u64 p] w fun e w' => e = .returned (.int .u64 t) ∧ ∃ k, w' = w.drewN k)
    (c4 : ∀ w : World, Calls Try.prog 17 #[.int .u64 l, .int .u64 g, .int .u64 p] w fun e w' => e = .returned (.int .u64 t) ∧ ∃ k, w' = w.drewN k)
    (cA : ∀ w : World, Calls Try.prog 13 #[] w fun e w' => e = .returned (.bool true) ∧ ∃ k, w' = w.drewN k) (w : World) :
    Calls Try.prog 4 #[.int .u64 l, .int .u64 g, .int .u64 p, .int .i64 q] w fun e w' => e = .returned (.bool true) ∧ Grown w w' := by
  go_enter Try.func4, Try.ntmps4
  go_wp2_with fail
  go_at_call 14
  refine (c1 _).mono ?_
  rintro e w' ⟨rfl, k, rfl⟩
  go_wp2_with fail
  go_at_call 15
  refine (c2 _).mono ?_
  rintro e w' ⟨rfl, k, rfl⟩
  go_wp2_with fail
  go_at_call 16
  refine (c3 _).mono ?_
  rintro e w' ⟨rfl, k, rfl⟩
  go_wp2_with fail
  go_at_call 17
  refine (c4 _).mono ?_
  rintro e w' ⟨rfl, k, rfl⟩
  go_wp2_with fail
  go_at_call 13
  refine (cA _).mono ?_
  rintro e w' ⟨rfl, k, rfl⟩
  go_wp2_with fail
  go_ret
  exact ⟨rfl, Grown.drewN (Grown.refl _) _⟩

theorem ratioMixes_core (a b x o : Int) 
    (c1 : ∀ w : World, Calls Try.prog 18 #[.int .u64 a, .int .u64 b, .int .u64 x] w fun e w' => e = .returned (.int .u64 o) ∧ ∃ k, w' = w.drewN k)
    (c2 : ∀ w : World, Calls Try.prog 19 #[.int .u64 a, .int .u64 b, .int .u64 x] w fun e w' => e = .returned (.int .u64 o) ∧ ∃ k, w' = w.drewN k)
    (cA : ∀ w : World, Calls Try.prog 13 #[] w fun e w' => e = .returned (.bool true) ∧ ∃ k, w' = w.drewN k) (w : World) :
    Calls Try.prog 5 #[.int .u64 a, .int .u64 b, .int .u64 x] w fun e w' => e = .returned (.bool true) ∧ Grown w w' := by
  go_enter Try.func5, Try.ntmps5
  go_wp2_with fail
  go_at_call 18
  refine (c1 _).mono ?_
  rintro e w' ⟨rfl, k, rfl⟩
  go_wp2_with fail
  go_at_call 19
  refine (c2 _).mono ?_
  rintro e w' ⟨rfl, k, rfl⟩
  go_wp2_with fail
  go_at_call 13
  refine (cA _).mono ?_
  rintro e w' ⟨rfl, k, rfl⟩
  go_wp2_with fail
  go_ret
  exact ⟨rfl, Grown.drewN (Grown.refl _) _⟩

theorem ratioOrders_core (a b o : Int) 
    (c1 : ∀ w : World, Calls Try.prog 20 #[.int .u64 a, .int .u64 b] w fun e w' => e = .returned (.int .i64 o) ∧ ∃ k, w' = w.drewN k)
    (c2 : ∀ w : World, Calls Try.prog 21 #[.int .u64 a, .int .u64 b] w fun e w' => e = .returned (.int .i64 o) ∧ ∃ k, w' = w.drewN k)
    (cA : ∀ w : World, Calls Try.prog 13 #[] w fun e w' => e = .returned (.bool true) ∧ ∃ k, w' = w.drewN k) (w : World) :
    Calls Try.prog 6 #[.int .u64 a, .int .u64 b] w fun e w' => e = .returned (.bool true) ∧ Grown w w' := by
  go_enter Try.func6, Try.ntmps6
  go_wp2_with fail
  go_at_call 20
  refine (c1 _).mono ?_
  rintro e w' ⟨rfl, k, rfl⟩
  go_wp2_with fail
  go_at_call 21
  refine (c2 _).mono ?_
  rintro e w' ⟨rfl, k, rfl⟩
  go_wp2_with fail
  go_at_call 13
  refine (cA _).mono ?_
  rintro e w' ⟨rfl, k, rfl⟩
  go_wp2_with fail
  go_ret
  exact ⟨rfl, Grown.drewN (Grown.refl _) _⟩

theorem ratioGrows_l (a b r q ta tb ga gb : Int) (hs : a ≤ b) (ht : ta ≤ tb) (hg : ga ≤ gb) (h1 : 4194304 ≤ ga) (h2 : a ≤ ga)
    (c1 : ∀ w : World, Calls Try.prog 11 #[.int .u64 a, .int .u64 r] w fun e w' => e = .returned (.int .u64 ta) ∧ ∃ k, w' = w.drewN k)
    (c2 : ∀ w : World, Calls Try.prog 11 #[.int .u64 b, .int .u64 r] w fun e w' => e = .returned (.int .u64 tb) ∧ ∃ k, w' = w.drewN k)
    (c3 : ∀ w : World, Calls Try.prog 14 #[.int .u64 a, .int .i64 q] w fun e w' => e = .returned (.int .u64 ga) ∧ ∃ k, w' = w.drewN k)
    (c4 : ∀ w : World, Calls Try.prog 14 #[.int .u64 b, .int .i64 q] w fun e w' => e = .returned (.int .u64 gb) ∧ ∃ k, w' = w.drewN k)
    (cA : ∀ w : World, Calls Try.prog 13 #[] w fun e w' => e = .returned (.bool true) ∧ ∃ k, w' = w.drewN k) (w : World) :
    Calls Try.prog 8 #[.int .u64 a, .int .u64 b, .int .u64 r, .int .i64 q] w fun e w' => e = .returned (.bool true) ∧ Grown w w' := by
  go_enter Try.func8, Try.ntmps8
  go_wp2_with fail
  go_at_call 11
  refine (c1 _).mono ?_
  rintro e w' ⟨rfl, k, rfl⟩
  go_wp2_with fail
  go_at_call 11
  refine (c2 _).mono ?_
  rintro e w' ⟨rfl, k, rfl⟩
  go_wp2_with fail
  go_at_call 14
  refine (c3 _).mono ?_
  rintro e w' ⟨rfl, k, rfl⟩
  go_wp2_with fail
  go_at_call 14
  refine (c4 _).mono ?_
  rintro e w' ⟨rfl, k, rfl⟩
  go_wp2_with fail
  go_at_call 14
  refine (c3 _).mono ?_
  rintro e w' ⟨rfl, k, rfl⟩
  go_wp2_with fail
  go_at_call 13
  refine (cA _).mono ?_
  rintro e w' ⟨rfl, k, rfl⟩
  go_wp2_with fail
  go_ret
  exact ⟨rfl, Grown.drewN (Grown.refl _) _⟩

theorem ratioGrows_g (a b r q ta tb ga gb : Int) (hs : a < b) (ht : ta ≤ tb) (hg : ga ≤ gb) (h1 : 4194304 ≤ ga) (h2 : a ≤ ga)
    (c1 : ∀ w : World, Calls Try.prog 11 #[.int .u64 a, .int .u64 r] w fun e w' => e = .returned (.int .u64 ta) ∧ ∃ k, w' = w.drewN k)
    (c2 : ∀ w : World, Calls Try.prog 11 #[.int .u64 b, .int .u64 r] w fun e w' => e = .returned (.int .u64 tb) ∧ ∃ k, w' = w.drewN k)
    (c3 : ∀ w : World, Calls Try.prog 14 #[.int .u64 a, .int .i64 q] w fun e w' => e = .returned (.int .u64 ga) ∧ ∃ k, w' = w.drewN k)
    (c4 : ∀ w : World, Calls Try.prog 14 #[.int .u64 b, .int .i64 q] w fun e w' => e = .returned (.int .u64 gb) ∧ ∃ k, w' = w.drewN k)
    (cA : ∀ w : World, Calls Try.prog 13 #[] w fun e w' => e = .returned (.bool true) ∧ ∃ k, w' = w.drewN k) (w : World) :
    Calls Try.prog 8 #[.int .u64 b, .int .u64 a, .int .u64 r, .int .i64 q] w fun e w' => e = .returned (.bool true) ∧ Grown w w' := by
  go_enter Try.func8, Try.ntmps8
  go_wp2_with fail
  go_at_call 11
  refine (c1 _).mono ?_
  rintro e w' ⟨rfl, k, rfl⟩
  go_wp2_with fail
  go_at_call 11
  refine (c2 _).mono ?_
  rintro e w' ⟨rfl, k, rfl⟩
  go_wp2_with fail
  go_at_call 14
  refine (c3 _).mono ?_
  rintro e w' ⟨rfl, k, rfl⟩
  go_wp2_with fail
  go_at_call 14
  refine (c4 _).mono ?_
  rintro e w' ⟨rfl, k, rfl⟩
  go_wp2_with fail
  go_at_call 14
  refine (c3 _).mono ?_
  rintro e w' ⟨rfl, k, rfl⟩
  go_wp2_with fail
  go_at_call 13
  refine (cA _).mono ?_
  rintro e w' ⟨rfl, k, rfl⟩
  go_wp2_with fail
  go_ret
  exact ⟨rfl, Grown.drewN (Grown.refl _) _⟩

theorem and63 (x : Nat) (hx : x < 18446744073709551616) : bits .and .u64 (x : Int) 9223372036854775807 = ((x % 9223372036854775808 : Nat) : Int) := by
  rw [show (9223372036854775807 : Int) = ((9223372036854775807 : Nat) : Int) from rfl, u64_and_nat x _ hx (by decide)]
  congr 1
  exact Nat.and_two_pow_sub_one_eq_mod x 63
theorem nan_any (x : Nat) (hx : x < 18446744073709551616) (w : World) : Calls Try.prog 22 #[.int .u64 x] w fun e w' => e = .returned (.bool (isNan x)) ∧ w' = w := by
  have e : decide (9218868437227405312 < bits .and .u64 (x : Int) 9223372036854775807) = isNan x := by
    rw [and63 x hx]
    unfold isNan
    rw [decide_eq_decide]
    omega
  rw [← e]
  clear e hx
  go_enter Try.func22, Try.ntmps22
  go_wp2
  go_ret
  exact ⟨rfl, rfl⟩
end Go.Proofs.Ytkogomgnfeigbaa
