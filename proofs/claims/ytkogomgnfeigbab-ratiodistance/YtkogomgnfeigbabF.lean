/- The roads of the chapter's laws, over what the functions that they call answer. -/
import Derived.Test.YtkogomgnfeigbabRows
import Derived.WalkKit
import Derived.ProofKit
import Derived.OpenShut
import Derived.WalkLawsBesides
import Derived.Deep.Draws
import Derived.Test.YtkogomgnfeigbabE
namespace Go.Proofs.Ytkogomgnfeigbab
open Go.ChangeShapes Go.WideShapes Go.ChangeAt Go.RowKit

theorem dist1 (l g p : Int) (h : 1099511627776 < p)
    (w : World) :
    Calls Try.prog 6 #[.int .u64 l, .int .u64 g, .int .u64 p] w fun e w' => e = .returned (.bool true) ∧ Grown w w' := by
  go_enter Try.func6, Try.ntmps6
  go_wp2_with fail
  go_ret
  exact ⟨rfl, Grown.refl _⟩

theorem dist2 (l g p o d : Int) (h : ¬ 1099511627776 < p) (hd : d ≤ 0) (hgl : g ≤ l)
    (c1 : ∀ w : World, Calls Try.prog 13 #[.int .u64 l, .int .u64 g, .int .u64 p] w fun e w' => e = .returned (.int .u64 o) ∧ ∃ k, w' = w.drewN k)
    (c2 : ∀ w : World, Calls Try.prog 12 #[.int .u64 p, .int .u64 8192] w fun e w' => e = .returned (.int .u64 o) ∧ ∃ k, w' = w.drewN k)
    (c3 : ∀ w : World, Calls Try.prog 11 #[.int .u64 o, .int .u64 o] w fun e w' => e = .returned (.int .i64 d) ∧ ∃ k, w' = w.drewN k)
    (cA : ∀ w : World, Calls Try.prog 10 #[] w fun e w' => e = .returned (.bool true) ∧ ∃ k, w' = w.drewN k) (w : World) :
    Calls Try.prog 6 #[.int .u64 l, .int .u64 g, .int .u64 p] w fun e w' => e = .returned (.bool true) ∧ Grown w w' := by
  go_enter Try.func6, Try.ntmps6
  go_wp2_with fail
  go_at_call 13
  refine (c1 _).mono ?_
  rintro e w' ⟨rfl, k, rfl⟩
  go_wp2_with fail
  go_at_call 12
  refine (c2 _).mono ?_
  rintro e w' ⟨rfl, k, rfl⟩
  go_wp2_with fail
  go_at_call 11
  refine (c3 _).mono ?_
  rintro e w' ⟨rfl, k, rfl⟩
  go_wp2_with fail
  go_at_call 12
  refine (c2 _).mono ?_
  rintro e w' ⟨rfl, k, rfl⟩
  go_wp2_with fail
  go_at_call 10
  refine (cA _).mono ?_
  rintro e w' ⟨rfl, k, rfl⟩
  go_wp2_with fail
  go_ret
  exact ⟨rfl, Grown.drewN (Grown.refl _) _⟩

theorem dist3 (l g p o d : Int) (h : ¬ 1099511627776 < p) (hd : d ≤ 0) (_hl : 0 ≤ l ∧ l ≤ 18446744073709551615) (_hg : 0 ≤ g ∧ g ≤ 18446744073709551615) (hgl : ¬ g ≤ l) (hn : g - l ≤ 8192)
    (c1 : ∀ w : World, Calls Try.prog 13 #[.int .u64 l, .int .u64 g, .int .u64 p] w fun e w' => e = .returned (.int .u64 o) ∧ ∃ k, w' = w.drewN k)
    (c2 : ∀ w : World, Calls Try.prog 12 #[.int .u64 p, .int .u64 8192] w fun e w' => e = .returned (.int .u64 o) ∧ ∃ k, w' = w.drewN k)
    (c3 : ∀ w : World, Calls Try.prog 11 #[.int .u64 o, .int .u64 o] w fun e w' => e = .returned (.int .i64 d) ∧ ∃ k, w' = w.drewN k)
    (cA : ∀ w : World, Calls Try.prog 10 #[] w fun e w' => e = .returned (.bool true) ∧ ∃ k, w' = w.drewN k) (w : World) :
    Calls Try.prog 6 #[.int .u64 l, .int .u64 g, .int .u64 p] w fun e w' => e = .returned (.bool true) ∧ Grown w w' := by
  go_enter Try.func6, Try.ntmps6
  go_wp2_with fail
  go_at_call 13
  refine (c1 _).mono ?_
  rintro e w' ⟨rfl, k, rfl⟩
  go_wp2_with fail
  go_at_call 12
  refine (c2 _).mono ?_
  rintro e w' ⟨rfl, k, rfl⟩
  go_wp2_with fail
  go_at_call 11
  refine (c3 _).mono ?_
  rintro e w' ⟨rfl, k, rfl⟩
  go_wp2_with fail
  go_at_call 12
  refine (c2 _).mono ?_
  rintro e w' ⟨rfl, k, rfl⟩
  go_wp2_with fail
  go_at_call 10
  refine (cA _).mono ?_
  rintro e w' ⟨rfl, k, rfl⟩
  go_wp2_with fail
  go_ret
  exact ⟨rfl, Grown.drewN (Grown.refl _) _⟩

theorem dist4 (l g p q o d t : Int) (h : ¬ 1099511627776 < p) (hd : d ≤ 0) (hl : 0 ≤ l ∧ l ≤ 18446744073709551615) (hg : 0 ≤ g ∧ g ≤ 18446744073709551615) (hgl : ¬ g ≤ l) (hn : ¬ g - l ≤ 8192) (ht : t ≤ p)
    (c1 : ∀ w : World, Calls Try.prog 13 #[.int .u64 l, .int .u64 g, .int .u64 p] w fun e w' => e = .returned (.int .u64 q) ∧ ∃ k, w' = w.drewN k)
    (c2 : ∀ w : World, Calls Try.prog 12 #[.int .u64 p, .int .u64 8192] w fun e w' => e = .returned (.int .u64 o) ∧ ∃ k, w' = w.drewN k)
    (c3 : ∀ w : World, Calls Try.prog 11 #[.int .u64 q, .int .u64 o] w fun e w' => e = .returned (.int .i64 d) ∧ ∃ k, w' = w.drewN k)
    (c4 : ∀ w : World, Calls Try.prog 8 #[.int .u64 8192, .int .u64 q] w fun e w' => e = .returned (.int .u64 t) ∧ ∃ k, w' = w.drewN k)
    (cA : ∀ w : World, Calls Try.prog 10 #[] w fun e w' => e = .returned (.bool true) ∧ ∃ k, w' = w.drewN k) (w : World) :
    Calls Try.prog 6 #[.int .u64 l, .int .u64 g, .int .u64 p] w fun e w' => e = .returned (.bool true) ∧ Grown w w' := by
  go_enter Try.func6, Try.ntmps6
  go_wp2_with fail
  go_at_call 13
  refine (c1 _).mono ?_
  rintro e w' ⟨rfl, k, rfl⟩
  go_wp2_with fail
  go_at_call 12
  refine (c2 _).mono ?_
  rintro e w' ⟨rfl, k, rfl⟩
  go_wp2_with fail
  go_at_call 11
  refine (c3 _).mono ?_
  rintro e w' ⟨rfl, k, rfl⟩
  go_wp2_with fail
  go_at_call 8
  refine (c4 _).mono ?_
  rintro e w' ⟨rfl, k, rfl⟩
  go_wp2_with fail
  go_at_call 10
  refine (cA _).mono ?_
  rintro e w' ⟨rfl, k, rfl⟩
  go_wp2_with fail
  go_ret
  exact ⟨rfl, Grown.drewN (Grown.refl _) _⟩

theorem even1 (a b : Int) 
    (n1 : ∀ w : World, Calls Try.prog 9 #[.int .u64 a] w fun e w' => e = .returned (.bool true) ∧ ∃ k, w' = w.drewN k) (w : World) :
    Calls Try.prog 7 #[.int .u64 a, .int .u64 b] w fun e w' => e = .returned (.bool true) ∧ Grown w w' := by
  go_enter Try.func7, Try.ntmps7
  go_wp2_with fail
  go_at_call 9
  refine (n1 _).mono ?_
  rintro e w' ⟨rfl, k, rfl⟩
  go_wp2_with fail
  go_ret
  exact ⟨rfl, Grown.drewN (Grown.refl _) _⟩

theorem even2 (a b : Int) 
    (n1 : ∀ w : World, Calls Try.prog 9 #[.int .u64 a] w fun e w' => e = .returned (.bool false) ∧ ∃ k, w' = w.drewN k)
    (n2 : ∀ w : World, Calls Try.prog 9 #[.int .u64 b] w fun e w' => e = .returned (.bool true) ∧ ∃ k, w' = w.drewN k) (w : World) :
    Calls Try.prog 7 #[.int .u64 a, .int .u64 b] w fun e w' => e = .returned (.bool true) ∧ Grown w w' := by
  go_enter Try.func7, Try.ntmps7
  go_wp2_with fail
  go_at_call 9
  refine (n1 _).mono ?_
  rintro e w' ⟨rfl, k, rfl⟩
  go_wp2_with fail
  go_at_call 9
  refine (n2 _).mono ?_
  rintro e w' ⟨rfl, k, rfl⟩
  go_wp2_with fail
  go_ret
  exact ⟨rfl, Grown.drewN (Grown.refl _) _⟩

theorem even3 (a b : Int) (h : 9218868437227405312 ≤ bits .and .u64 a 9223372036854775807)
    (n1 : ∀ w : World, Calls Try.prog 9 #[.int .u64 a] w fun e w' => e = .returned (.bool false) ∧ ∃ k, w' = w.drewN k)
    (n2 : ∀ w : World, Calls Try.prog 9 #[.int .u64 b] w fun e w' => e = .returned (.bool false) ∧ ∃ k, w' = w.drewN k) (w : World) :
    Calls Try.prog 7 #[.int .u64 a, .int .u64 b] w fun e w' => e = .returned (.bool true) ∧ Grown w w' := by
  go_enter Try.func7, Try.ntmps7
  go_wp2_with fail
  go_at_call 9
  refine (n1 _).mono ?_
  rintro e w' ⟨rfl, k, rfl⟩
  go_wp2_with fail
  go_at_call 9
  refine (n2 _).mono ?_
  rintro e w' ⟨rfl, k, rfl⟩
  go_wp2_with fail
  go_ret
  exact ⟨rfl, Grown.drewN (Grown.refl _) _⟩

theorem even4 (a b : Int) (h1 : ¬ 9218868437227405312 ≤ bits .and .u64 a 9223372036854775807) (h : 9218868437227405312 ≤ bits .and .u64 b 9223372036854775807)
    (n1 : ∀ w : World, Calls Try.prog 9 #[.int .u64 a] w fun e w' => e = .returned (.bool false) ∧ ∃ k, w' = w.drewN k)
    (n2 : ∀ w : World, Calls Try.prog 9 #[.int .u64 b] w fun e w' => e = .returned (.bool false) ∧ ∃ k, w' = w.drewN k) (w : World) :
    Calls Try.prog 7 #[.int .u64 a, .int .u64 b] w fun e w' => e = .returned (.bool true) ∧ Grown w w' := by
  go_enter Try.func7, Try.ntmps7
  go_wp2_with fail
  go_at_call 9
  refine (n1 _).mono ?_
  rintro e w' ⟨rfl, k, rfl⟩
  go_wp2_with fail
  go_at_call 9
  refine (n2 _).mono ?_
  rintro e w' ⟨rfl, k, rfl⟩
  go_wp2_with fail
  go_ret
  exact ⟨rfl, Grown.drewN (Grown.refl _) _⟩

theorem even5 (a b x y ma mb mx my : Int) (ea : bits .and .u64 a 9223372036854775807 = ma) (eb : bits .and .u64 b 9223372036854775807 = mb) (ex : bits .and .u64 x 9223372036854775807 = mx) (ey : bits .and .u64 y 9223372036854775807 = my) (h1 : ma < 9218868437227405312) (h : mb < 9218868437227405312)
    (n1 : ∀ w : World, Calls Try.prog 9 #[.int .u64 a] w fun e w' => e = .returned (.bool false) ∧ ∃ k, w' = w.drewN k)
    (n2 : ∀ w : World, Calls Try.prog 9 #[.int .u64 b] w fun e w' => e = .returned (.bool false) ∧ ∃ k, w' = w.drewN k)
    (c1 : ∀ w : World, Calls Try.prog 14 #[.int .u64 a, .int .u64 b, .int .u64 0] w fun e w' => e = .returned (.int .u64 x) ∧ ∃ k, w' = w.drewN k)
    (c2 : ∀ w : World, Calls Try.prog 14 #[.int .u64 a, .int .u64 b, .int .u64 4607182418800017408] w fun e w' => e = .returned (.int .u64 y) ∧ ∃ k, w' = w.drewN k)
    (c3 : ∀ w : World, Calls Try.prog 11 #[.int .u64 mx, .int .u64 ma] w fun e w' => e = .returned (.int .i64 0) ∧ ∃ k, w' = w.drewN k)
    (c4 : ∀ w : World, Calls Try.prog 11 #[.int .u64 my, .int .u64 mb] w fun e w' => e = .returned (.int .i64 0) ∧ ∃ k, w' = w.drewN k)
    (c5 : ∀ w : World, Calls Try.prog 14 #[.int .u64 a, .int .u64 b, .int .u64 9221120237041090561] w fun e w' => e = .returned (.int .u64 9221120237041090561) ∧ ∃ k, w' = w.drewN k)
    (cA : ∀ w : World, Calls Try.prog 10 #[] w fun e w' => e = .returned (.bool true) ∧ ∃ k, w' = w.drewN k) (w : World) :
    Calls Try.prog 7 #[.int .u64 a, .int .u64 b] w fun e w' => e = .returned (.bool true) ∧ Grown w w' := by
  go_enter Try.func7, Try.ntmps7
  go_wp2_with fail
  go_at_call 9
  refine (n1 _).mono ?_
  rintro e w' ⟨rfl, k, rfl⟩
  go_wp2_with fail
  go_at_call 9
  refine (n2 _).mono ?_
  rintro e w' ⟨rfl, k, rfl⟩
  go_wp2_with fail
  go_at_call 14
  refine (c1 _).mono ?_
  rintro e w' ⟨rfl, k, rfl⟩
  go_wp2_with fail
  go_at_call 14
  refine (c2 _).mono ?_
  rintro e w' ⟨rfl, k, rfl⟩
  go_wp2_with fail
  go_at_call 11
  refine (c3 _).mono ?_
  rintro e w' ⟨rfl, k, rfl⟩
  go_wp2_with fail
  go_at_call 11
  refine (c4 _).mono ?_
  rintro e w' ⟨rfl, k, rfl⟩
  go_wp2_with fail
  go_at_call 14
  refine (c5 _).mono ?_
  rintro e w' ⟨rfl, k, rfl⟩
  go_wp2_with fail
  go_at_call 10
  refine (cA _).mono ?_
  rintro e w' ⟨rfl, k, rfl⟩
  go_wp2_with fail
  go_ret
  exact ⟨rfl, Grown.drewN (Grown.refl _) _⟩

end Go.Proofs.Ytkogomgnfeigbab
