/- What the reference's Order answers, for every two patterns. -/
import Derived.Test.YtkogomgnfeigbaaRef
import Derived.Deep.QuietTactic
import Derived.BigQuiet
import Derived.Outline
namespace Go.Proofs.Ytkogomgnfeigbaa
open Go.ChangeShapes Go.WideShapes Go.ChangeAt Go.RowKit Go.Proofs.Dbl

/-! ### The reference's Order -/
/-- The roads of the reference's Order, by what its tests answer. -/
theorem ordRef_core (a b : Nat) (n1 n2 l g : Bool) (e1 : (FloatKind.f64.format.order a a == some Ordering.eq) = !n1) (e2 : (FloatKind.f64.format.order b b == some Ordering.eq) = !n2)
    (d1 : (FloatKind.f64.format.order a a != some Ordering.eq) = n1) (d2 : (FloatKind.f64.format.order b b != some Ordering.eq) = n2)
    (t1 : (FloatKind.f64.format.order a b == some Ordering.lt) = l) (t2 : (FloatKind.f64.format.order a b == some Ordering.gt) = g) (v : Int)
    (hv : v = if n1 || n2 then (if n1 then (if n2 then 0 else 1) else -1) else if l then -1 else if g then 1 else if a = b then 0 else if b < a then -1 else 1) (w : World) :
    Calls Try.prog 21 #[.int .u64 a, .int .u64 b] w fun e w' => e = .returned (.int .i64 v) ∧ w' = w := by
  have c := dblRef_any
  subst hv
  cases n1
  · cases n2
    · cases l
      · cases g
        · by_cases h1 : a = b
          · subst h1
            simp only [Bool.or_false, Bool.false_eq_true, if_false, if_true]
            go_enter Try.func21, Try.ntmps21
            go_wp2_with (go_at_call 27; refine (c _ _).mono ?_; rintro e w' ⟨rfl, rfl⟩)
            go_ret
            exact ⟨rfl, rfl⟩
          · have h1' : ((a : Int) == (b : Int)) = false := by simp; omega
            by_cases h2 : b < a
            · have h2' : (b : Int) < (a : Int) := by omega
              simp only [Bool.or_false, Bool.false_eq_true, if_false, if_neg h1, if_pos h2]
              go_enter Try.func21, Try.ntmps21
              go_wp2_with (go_at_call 27; refine (c _ _).mono ?_; rintro e w' ⟨rfl, rfl⟩)
              go_ret
              exact ⟨rfl, rfl⟩
            · have h2' : ¬ (b : Int) < (a : Int) := by omega
              simp only [Bool.or_false, Bool.false_eq_true, if_false, if_neg h1, if_neg h2]
              go_enter Try.func21, Try.ntmps21
              go_wp2_with (go_at_call 27; refine (c _ _).mono ?_; rintro e w' ⟨rfl, rfl⟩)
              go_ret
              exact ⟨rfl, rfl⟩
        · simp only [Bool.or_false, Bool.false_eq_true, if_false, if_true]
          go_enter Try.func21, Try.ntmps21
          go_wp2_with (go_at_call 27; refine (c _ _).mono ?_; rintro e w' ⟨rfl, rfl⟩)
          go_ret
          exact ⟨rfl, rfl⟩
      · simp only [Bool.or_false, Bool.false_eq_true, if_false, if_true]
        go_enter Try.func21, Try.ntmps21
        go_wp2_with (go_at_call 27; refine (c _ _).mono ?_; rintro e w' ⟨rfl, rfl⟩)
        go_ret
        exact ⟨rfl, rfl⟩
    · simp only [Bool.or_true, Bool.false_eq_true, if_false, if_true]
      go_enter Try.func21, Try.ntmps21
      go_wp2_with (go_at_call 27; refine (c _ _).mono ?_; rintro e w' ⟨rfl, rfl⟩)
      go_ret
      exact ⟨rfl, rfl⟩
  · cases n2
    · simp only [Bool.true_or, Bool.false_eq_true, if_false, if_true]
      go_enter Try.func21, Try.ntmps21
      go_wp2_with (go_at_call 27; refine (c _ _).mono ?_; rintro e w' ⟨rfl, rfl⟩)
      go_ret
      exact ⟨rfl, rfl⟩
    · simp only [Bool.true_or, if_true]
      go_enter Try.func21, Try.ntmps21
      go_wp2_with (go_at_call 27; refine (c _ _).mono ?_; rintro e w' ⟨rfl, rfl⟩)
      go_ret
      exact ⟨rfl, rfl⟩
theorem ordRef_any (a b : Nat) (ha : a < 18446744073709551616) (hb : b < 18446744073709551616) (w : World) :
    Calls Try.prog 21 #[.int .u64 a, .int .u64 b] w fun e w' => e = .returned (.int .i64 (ordV a b)) ∧ w' = w := by
  refine ordRef_core a b (isNan a) (isNan b) _ _ (bne_self_is a ha).2 (bne_self_is b hb).2 (bne_self_is a ha).1 (bne_self_is b hb).1 rfl rfl _ ?_ w
  cases h1 : isNan a
  · cases h2 : isNan b
    · simp only [Bool.or_false, Bool.false_eq_true, if_false]
      rcases ord_num a b ha hb h1 h2 with ⟨x, y, z⟩ | ⟨x, y, z⟩ | ⟨x, y, z⟩
      · rw [x, y, z]; rfl
      · rw [x, y, z]; rfl
      · rw [x, y]
        rcases z with ⟨p, z⟩ | ⟨p, z⟩ | ⟨p, z⟩
        · rw [z, if_neg (by decide), if_neg (by decide), if_pos p]
        · rw [z, if_neg (by decide), if_neg (by decide), if_neg (by omega), if_pos p]
        · rw [z, if_neg (by decide), if_neg (by decide), if_neg (by omega), if_neg (by omega)]
    · simp only [Bool.or_true, Bool.false_eq_true, if_false, if_true]
      unfold ordV
      rw [rank_nan b h2, if_pos (rank_num a h1 ha)]
  · cases h2 : isNan b
    · simp only [Bool.true_or, Bool.false_eq_true, if_false, if_true]
      unfold ordV
      have := rank_num b h2 hb
      rw [rank_nan a h1, if_neg (by omega), if_pos this]
    · simp only [Bool.true_or, if_true]
      unfold ordV
      rw [rank_nan a h1, rank_nan b h2]
      simp
end Go.Proofs.Ytkogomgnfeigbaa
