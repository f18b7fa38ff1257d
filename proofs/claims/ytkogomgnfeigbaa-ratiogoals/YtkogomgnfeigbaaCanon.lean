/- The roads of RatioCanon, over what the functions that it calls answer. -/
import Derived.Test.YtkogomgnfeigbaaLaws2
import Derived.Outline
namespace Go.Proofs.Ytkogomgnfeigbaa
open Go.ChangeShapes Go.WideShapes Go.ChangeAt Go.RowKit Go.Proofs.Dbl

theorem cells3 (w : World) (K : Nat) (v0 v1 v2 : Value) : ((w.drewN K).alloc (.cells #[v0, v1, v2] 22)).cell? ⟨w.heap.size, 0, none⟩ = some v0 ∧ ((w.drewN K).alloc (.cells #[v0, v1, v2] 22)).cell? ⟨w.heap.size, 1, none⟩ = some v1 ∧ ((w.drewN K).alloc (.cells #[v0, v1, v2] 22)).cell? ⟨w.heap.size, 2, none⟩ = some v2 := by
  refine ⟨?_, ?_, ?_⟩ <;> simp [World.cell?, World.alloc, World.drewN]

theorem canon_ff (a b x o m p : Int) (tn : ((a == 0) && (b == 0)) = false)
    (c1 : ∀ w : World, Calls Try.prog 9 #[.int .u64 a, .int .u64 b] w fun e w' => e = .returned (.int .u64 o) ∧ ∃ k, w' = w.drewN k)
    (c2 : ∀ w : World, Calls Try.prog 18 #[.int .u64 a, .int .u64 b, .int .u64 x] w fun e w' => e = .returned (.int .u64 m) ∧ ∃ k, w' = w.drewN k)
    (c3 : ∀ w : World, Calls Try.prog 16 #[.int .u64 a, .int .u64 b, .int .u64 x] w fun e w' => e = .returned (.int .u64 p) ∧ ∃ k, w' = w.drewN k)
    (n1 : ∀ w : World, Calls Try.prog 22 #[.int .u64 o] w fun e w' => e = .returned (.bool false) ∧ ∃ k, w' = w.drewN k)
    (n2 : ∀ w : World, Calls Try.prog 22 #[.int .u64 m] w fun e w' => e = .returned (.bool false) ∧ ∃ k, w' = w.drewN k)
    (n3 : ∀ w : World, Calls Try.prog 22 #[.int .u64 p] w fun e w' => e = .returned (.bool false) ∧ ∃ k, w' = w.drewN k)
    (cA : ∀ w : World, Calls Try.prog 13 #[] w fun e w' => e = .returned (.bool true) ∧ ∃ k, w' = w.drewN k) (w : World) :
    Calls Try.prog 7 #[.int .u64 a, .int .u64 b, .int .u64 x] w fun e w' => e = .returned (.bool true) ∧ Grown w w' := by
  have hc0 := fun K => (cells3 w K (.int .u64 o) (.int .u64 m) (.int .u64 p)).1
  have hc1 := fun K => (cells3 w K (.int .u64 o) (.int .u64 m) (.int .u64 p)).2.1
  have hc2 := fun K => (cells3 w K (.int .u64 o) (.int .u64 m) (.int .u64 p)).2.2
  cases ta : (a == 0)
  · clear tn
    go_enter Try.func7, Try.ntmps7
    go_wp2_with fail
    go_at_call 9
    refine (c1 _).mono ?_
    rintro e w' ⟨rfl, k, rfl⟩
    go_wp2_with fail
    go_at_call 18
    refine (c2 _).mono ?_
    rintro e w' ⟨rfl, k, rfl⟩
    go_wp2_with fail
    go_at_call 16
    refine (c3 _).mono ?_
    rintro e w' ⟨rfl, k, rfl⟩
    go_wp2_with fail
    refine wp_loop_rounds 4 ?_
    rw [rounds_succ]
    go_wp2_with fail
    go_at_call 22
    refine (n1 _).mono ?_
    rintro e w' ⟨rfl, k, rfl⟩
    go_wp2_with fail
    rw [rounds_succ]
    go_wp2_with fail
    go_at_call 22
    refine (n2 _).mono ?_
    rintro e w' ⟨rfl, k, rfl⟩
    go_wp2_with fail
    rw [rounds_succ]
    go_wp2_with fail
    go_at_call 22
    refine (n3 _).mono ?_
    rintro e w' ⟨rfl, k, rfl⟩
    go_wp2_with fail
    rw [rounds_succ]
    go_wp2_with fail
    go_at_call 16
    refine (c3 _).mono ?_
    rintro e w' ⟨rfl, k, rfl⟩
    go_wp2_with fail
    go_at_call 22
    refine (n3 _).mono ?_
    rintro e w' ⟨rfl, k, rfl⟩
    go_wp2_with fail
    go_at_call 9
    refine (c1 _).mono ?_
    rintro e w' ⟨rfl, k, rfl⟩
    go_wp2_with fail
    go_at_call 22
    refine (n1 _).mono ?_
    rintro e w' ⟨rfl, k, rfl⟩
    go_wp2_with fail
    go_at_call 13
    refine (cA _).mono ?_
    rintro e w' ⟨rfl, k, rfl⟩
    go_wp2_with fail
    go_ret
    exact ⟨rfl, by repeat (first | exact Grown.refl _ | apply Grown.drewN | apply Grown.drew | apply Grown.alloc)⟩
  · have tb : (b == 0) = false := by rw [ta] at tn; simpa using tn
    clear tn
    go_enter Try.func7, Try.ntmps7
    go_wp2_with fail
    go_at_call 9
    refine (c1 _).mono ?_
    rintro e w' ⟨rfl, k, rfl⟩
    go_wp2_with fail
    go_at_call 18
    refine (c2 _).mono ?_
    rintro e w' ⟨rfl, k, rfl⟩
    go_wp2_with fail
    go_at_call 16
    refine (c3 _).mono ?_
    rintro e w' ⟨rfl, k, rfl⟩
    go_wp2_with fail
    refine wp_loop_rounds 4 ?_
    rw [rounds_succ]
    go_wp2_with fail
    go_at_call 22
    refine (n1 _).mono ?_
    rintro e w' ⟨rfl, k, rfl⟩
    go_wp2_with fail
    rw [rounds_succ]
    go_wp2_with fail
    go_at_call 22
    refine (n2 _).mono ?_
    rintro e w' ⟨rfl, k, rfl⟩
    go_wp2_with fail
    rw [rounds_succ]
    go_wp2_with fail
    go_at_call 22
    refine (n3 _).mono ?_
    rintro e w' ⟨rfl, k, rfl⟩
    go_wp2_with fail
    rw [rounds_succ]
    go_wp2_with fail
    go_at_call 16
    refine (c3 _).mono ?_
    rintro e w' ⟨rfl, k, rfl⟩
    go_wp2_with fail
    go_at_call 22
    refine (n3 _).mono ?_
    rintro e w' ⟨rfl, k, rfl⟩
    go_wp2_with fail
    go_at_call 9
    refine (c1 _).mono ?_
    rintro e w' ⟨rfl, k, rfl⟩
    go_wp2_with fail
    go_at_call 22
    refine (n1 _).mono ?_
    rintro e w' ⟨rfl, k, rfl⟩
    go_wp2_with fail
    go_at_call 13
    refine (cA _).mono ?_
    rintro e w' ⟨rfl, k, rfl⟩
    go_wp2_with fail
    go_ret
    exact ⟨rfl, by repeat (first | exact Grown.refl _ | apply Grown.drewN | apply Grown.drew | apply Grown.alloc)⟩

theorem canon_ft (a b x o _m p : Int) (tn : ((a == 0) && (b == 0)) = false)
    (c1 : ∀ w : World, Calls Try.prog 9 #[.int .u64 a, .int .u64 b] w fun e w' => e = .returned (.int .u64 o) ∧ ∃ k, w' = w.drewN k)
    (c2 : ∀ w : World, Calls Try.prog 18 #[.int .u64 a, .int .u64 b, .int .u64 x] w fun e w' => e = .returned (.int .u64 9221120237041090561) ∧ ∃ k, w' = w.drewN k)
    (c3 : ∀ w : World, Calls Try.prog 16 #[.int .u64 a, .int .u64 b, .int .u64 x] w fun e w' => e = .returned (.int .u64 p) ∧ ∃ k, w' = w.drewN k)
    (n1 : ∀ w : World, Calls Try.prog 22 #[.int .u64 o] w fun e w' => e = .returned (.bool false) ∧ ∃ k, w' = w.drewN k)
    (n2 : ∀ w : World, Calls Try.prog 22 #[.int .u64 9221120237041090561] w fun e w' => e = .returned (.bool true) ∧ ∃ k, w' = w.drewN k)
    (n3 : ∀ w : World, Calls Try.prog 22 #[.int .u64 p] w fun e w' => e = .returned (.bool false) ∧ ∃ k, w' = w.drewN k)
    (cA : ∀ w : World, Calls Try.prog 13 #[] w fun e w' => e = .returned (.bool true) ∧ ∃ k, w' = w.drewN k) (w : World) :
    Calls Try.prog 7 #[.int .u64 a, .int .u64 b, .int .u64 x] w fun e w' => e = .returned (.bool true) ∧ Grown w w' := by
  have hc0 := fun K => (cells3 w K (.int .u64 o) (.int .u64 9221120237041090561) (.int .u64 p)).1
  have hc1 := fun K => (cells3 w K (.int .u64 o) (.int .u64 9221120237041090561) (.int .u64 p)).2.1
  have hc2 := fun K => (cells3 w K (.int .u64 o) (.int .u64 9221120237041090561) (.int .u64 p)).2.2
  cases ta : (a == 0)
  · clear tn
    go_enter Try.func7, Try.ntmps7
    go_wp2_with fail
    go_at_call 9
    refine (c1 _).mono ?_
    rintro e w' ⟨rfl, k, rfl⟩
    go_wp2_with fail
    go_at_call 18
    refine (c2 _).mono ?_
    rintro e w' ⟨rfl, k, rfl⟩
    go_wp2_with fail
    go_at_call 16
    refine (c3 _).mono ?_
    rintro e w' ⟨rfl, k, rfl⟩
    go_wp2_with fail
    refine wp_loop_rounds 4 ?_
    rw [rounds_succ]
    go_wp2_with fail
    go_at_call 22
    refine (n1 _).mono ?_
    rintro e w' ⟨rfl, k, rfl⟩
    go_wp2_with fail
    rw [rounds_succ]
    go_wp2_with fail
    go_at_call 22
    refine (n2 _).mono ?_
    rintro e w' ⟨rfl, k, rfl⟩
    go_wp2_with fail
    rw [rounds_succ]
    go_wp2_with fail
    go_at_call 22
    refine (n3 _).mono ?_
    rintro e w' ⟨rfl, k, rfl⟩
    go_wp2_with fail
    rw [rounds_succ]
    go_wp2_with fail
    go_at_call 16
    refine (c3 _).mono ?_
    rintro e w' ⟨rfl, k, rfl⟩
    go_wp2_with fail
    go_at_call 22
    refine (n3 _).mono ?_
    rintro e w' ⟨rfl, k, rfl⟩
    go_wp2_with fail
    go_at_call 9
    refine (c1 _).mono ?_
    rintro e w' ⟨rfl, k, rfl⟩
    go_wp2_with fail
    go_at_call 22
    refine (n1 _).mono ?_
    rintro e w' ⟨rfl, k, rfl⟩
    go_wp2_with fail
    go_at_call 13
    refine (cA _).mono ?_
    rintro e w' ⟨rfl, k, rfl⟩
    go_wp2_with fail
    go_ret
    exact ⟨rfl, by repeat (first | exact Grown.refl _ | apply Grown.drewN | apply Grown.drew | apply Grown.alloc)⟩
  · have tb : (b == 0) = false := by rw [ta] at tn; simpa using tn
    clear tn
    go_enter Try.func7, Try.ntmps7
    go_wp2_with fail
    go_at_call 9
    refine (c1 _).mono ?_
    rintro e w' ⟨rfl, k, rfl⟩
    go_wp2_with fail
    go_at_call 18
    refine (c2 _).mono ?_
    rintro e w' ⟨rfl, k, rfl⟩
    go_wp2_with fail
    go_at_call 16
    refine (c3 _).mono ?_
    rintro e w' ⟨rfl, k, rfl⟩
    go_wp2_with fail
    refine wp_loop_rounds 4 ?_
    rw [rounds_succ]
    go_wp2_with fail
    go_at_call 22
    refine (n1 _).mono ?_
    rintro e w' ⟨rfl, k, rfl⟩
    go_wp2_with fail
    rw [rounds_succ]
    go_wp2_with fail
    go_at_call 22
    refine (n2 _).mono ?_
    rintro e w' ⟨rfl, k, rfl⟩
    go_wp2_with fail
    rw [rounds_succ]
    go_wp2_with fail
    go_at_call 22
    refine (n3 _).mono ?_
    rintro e w' ⟨rfl, k, rfl⟩
    go_wp2_with fail
    rw [rounds_succ]
    go_wp2_with fail
    go_at_call 16
    refine (c3 _).mono ?_
    rintro e w' ⟨rfl, k, rfl⟩
    go_wp2_with fail
    go_at_call 22
    refine (n3 _).mono ?_
    rintro e w' ⟨rfl, k, rfl⟩
    go_wp2_with fail
    go_at_call 9
    refine (c1 _).mono ?_
    rintro e w' ⟨rfl, k, rfl⟩
    go_wp2_with fail
    go_at_call 22
    refine (n1 _).mono ?_
    rintro e w' ⟨rfl, k, rfl⟩
    go_wp2_with fail
    go_at_call 13
    refine (cA _).mono ?_
    rintro e w' ⟨rfl, k, rfl⟩
    go_wp2_with fail
    go_ret
    exact ⟨rfl, by repeat (first | exact Grown.refl _ | apply Grown.drewN | apply Grown.drew | apply Grown.alloc)⟩

theorem canon_tf (a b x _o m p : Int) (ta : (a == 0) = true) (tb : (b == 0) = true)
    (c1 : ∀ w : World, Calls Try.prog 9 #[.int .u64 a, .int .u64 b] w fun e w' => e = .returned (.int .u64 9221120237041090561) ∧ ∃ k, w' = w.drewN k)
    (c2 : ∀ w : World, Calls Try.prog 18 #[.int .u64 a, .int .u64 b, .int .u64 x] w fun e w' => e = .returned (.int .u64 m) ∧ ∃ k, w' = w.drewN k)
    (c3 : ∀ w : World, Calls Try.prog 16 #[.int .u64 a, .int .u64 b, .int .u64 x] w fun e w' => e = .returned (.int .u64 p) ∧ ∃ k, w' = w.drewN k)
    (n1 : ∀ w : World, Calls Try.prog 22 #[.int .u64 9221120237041090561] w fun e w' => e = .returned (.bool true) ∧ ∃ k, w' = w.drewN k)
    (n2 : ∀ w : World, Calls Try.prog 22 #[.int .u64 m] w fun e w' => e = .returned (.bool false) ∧ ∃ k, w' = w.drewN k)
    (n3 : ∀ w : World, Calls Try.prog 22 #[.int .u64 p] w fun e w' => e = .returned (.bool false) ∧ ∃ k, w' = w.drewN k)
    (cA : ∀ w : World, Calls Try.prog 13 #[] w fun e w' => e = .returned (.bool true) ∧ ∃ k, w' = w.drewN k) (w : World) :
    Calls Try.prog 7 #[.int .u64 a, .int .u64 b, .int .u64 x] w fun e w' => e = .returned (.bool true) ∧ Grown w w' := by
  have hc0 := fun K => (cells3 w K (.int .u64 9221120237041090561) (.int .u64 m) (.int .u64 p)).1
  have hc1 := fun K => (cells3 w K (.int .u64 9221120237041090561) (.int .u64 m) (.int .u64 p)).2.1
  have hc2 := fun K => (cells3 w K (.int .u64 9221120237041090561) (.int .u64 m) (.int .u64 p)).2.2
  go_enter Try.func7, Try.ntmps7
  go_wp2_with fail
  go_at_call 9
  refine (c1 _).mono ?_
  rintro e w' ⟨rfl, k, rfl⟩
  go_wp2_with fail
  go_at_call 18
  refine (c2 _).mono ?_
  rintro e w' ⟨rfl, k, rfl⟩
  go_wp2_with fail
  go_at_call 16
  refine (c3 _).mono ?_
  rintro e w' ⟨rfl, k, rfl⟩
  go_wp2_with fail
  refine wp_loop_rounds 4 ?_
  rw [rounds_succ]
  go_wp2_with fail
  go_at_call 22
  refine (n1 _).mono ?_
  rintro e w' ⟨rfl, k, rfl⟩
  go_wp2_with fail
  rw [rounds_succ]
  go_wp2_with fail
  go_at_call 22
  refine (n2 _).mono ?_
  rintro e w' ⟨rfl, k, rfl⟩
  go_wp2_with fail
  rw [rounds_succ]
  go_wp2_with fail
  go_at_call 22
  refine (n3 _).mono ?_
  rintro e w' ⟨rfl, k, rfl⟩
  go_wp2_with fail
  rw [rounds_succ]
  go_wp2_with fail
  go_at_call 16
  refine (c3 _).mono ?_
  rintro e w' ⟨rfl, k, rfl⟩
  go_wp2_with fail
  go_at_call 22
  refine (n3 _).mono ?_
  rintro e w' ⟨rfl, k, rfl⟩
  go_wp2_with fail
  go_at_call 9
  refine (c1 _).mono ?_
  rintro e w' ⟨rfl, k, rfl⟩
  go_wp2_with fail
  go_at_call 22
  refine (n1 _).mono ?_
  rintro e w' ⟨rfl, k, rfl⟩
  go_wp2_with fail
  go_at_call 13
  refine (cA _).mono ?_
  rintro e w' ⟨rfl, k, rfl⟩
  go_wp2_with fail
  go_ret
  exact ⟨rfl, by repeat (first | exact Grown.refl _ | apply Grown.drewN | apply Grown.drew | apply Grown.alloc)⟩

theorem canon_tt (a b x _o _m p : Int) (ta : (a == 0) = true) (tb : (b == 0) = true)
    (c1 : ∀ w : World, Calls Try.prog 9 #[.int .u64 a, .int .u64 b] w fun e w' => e = .returned (.int .u64 9221120237041090561) ∧ ∃ k, w' = w.drewN k)
    (c2 : ∀ w : World, Calls Try.prog 18 #[.int .u64 a, .int .u64 b, .int .u64 x] w fun e w' => e = .returned (.int .u64 9221120237041090561) ∧ ∃ k, w' = w.drewN k)
    (c3 : ∀ w : World, Calls Try.prog 16 #[.int .u64 a, .int .u64 b, .int .u64 x] w fun e w' => e = .returned (.int .u64 p) ∧ ∃ k, w' = w.drewN k)
    (n1 : ∀ w : World, Calls Try.prog 22 #[.int .u64 9221120237041090561] w fun e w' => e = .returned (.bool true) ∧ ∃ k, w' = w.drewN k)
    (n2 : ∀ w : World, Calls Try.prog 22 #[.int .u64 9221120237041090561] w fun e w' => e = .returned (.bool true) ∧ ∃ k, w' = w.drewN k)
    (n3 : ∀ w : World, Calls Try.prog 22 #[.int .u64 p] w fun e w' => e = .returned (.bool false) ∧ ∃ k, w' = w.drewN k)
    (cA : ∀ w : World, Calls Try.prog 13 #[] w fun e w' => e = .returned (.bool true) ∧ ∃ k, w' = w.drewN k) (w : World) :
    Calls Try.prog 7 #[.int .u64 a, .int .u64 b, .int .u64 x] w fun e w' => e = .returned (.bool true) ∧ Grown w w' := by
  have hc0 := fun K => (cells3 w K (.int .u64 9221120237041090561) (.int .u64 9221120237041090561) (.int .u64 p)).1
  have hc1 := fun K => (cells3 w K (.int .u64 9221120237041090561) (.int .u64 9221120237041090561) (.int .u64 p)).2.1
  have hc2 := fun K => (cells3 w K (.int .u64 9221120237041090561) (.int .u64 9221120237041090561) (.int .u64 p)).2.2
  go_enter Try.func7, Try.ntmps7
  go_wp2_with fail
  go_at_call 9
  refine (c1 _).mono ?_
  rintro e w' ⟨rfl, k, rfl⟩
  go_wp2_with fail
  go_at_call 18
  refine (c2 _).mono ?_
  rintro e w' ⟨rfl, k, rfl⟩
  go_wp2_with fail
  go_at_call 16
  refine (c3 _).mono ?_
  rintro e w' ⟨rfl, k, rfl⟩
  go_wp2_with fail
  refine wp_loop_rounds 4 ?_
  rw [rounds_succ]
  go_wp2_with fail
  go_at_call 22
  refine (n1 _).mono ?_
  rintro e w' ⟨rfl, k, rfl⟩
  go_wp2_with fail
  rw [rounds_succ]
  go_wp2_with fail
  go_at_call 22
  refine (n2 _).mono ?_
  rintro e w' ⟨rfl, k, rfl⟩
  go_wp2_with fail
  rw [rounds_succ]
  go_wp2_with fail
  go_at_call 22
  refine (n3 _).mono ?_
  rintro e w' ⟨rfl, k, rfl⟩
  go_wp2_with fail
  rw [rounds_succ]
  go_wp2_with fail
  go_at_call 16
  refine (c3 _).mono ?_
  rintro e w' ⟨rfl, k, rfl⟩
  go_wp2_with fail
  go_at_call 22
  refine (n3 _).mono ?_
  rintro e w' ⟨rfl, k, rfl⟩
  go_wp2_with fail
  go_at_call 9
  refine (c1 _).mono ?_
  rintro e w' ⟨rfl, k, rfl⟩
  go_wp2_with fail
  go_at_call 22
  refine (n1 _).mono ?_
  rintro e w' ⟨rfl, k, rfl⟩
  go_wp2_with fail
  go_at_call 13
  refine (cA _).mono ?_
  rintro e w' ⟨rfl, k, rfl⟩
  go_wp2_with fail
  go_ret
  exact ⟨rfl, by repeat (first | exact Grown.refl _ | apply Grown.drewN | apply Grown.drew | apply Grown.alloc)⟩

end Go.Proofs.Ytkogomgnfeigbaa
