/- The six laws of the first part of chapter 2, for every argument. -/
import Derived.Test.YtkogomgnfeigbaaCanon
import Derived.Test.YtkogomgnfeigbaaOwn
namespace Go.Proofs.Ytkogomgnfeigbaa
open Go.ChangeShapes Go.WideShapes Go.ChangeAt Go.RowKit Go.Proofs.Dbl


/-- What the package's functions answer, and the statement's own. -/
structure Face : Prop where
  of : ∀ (a b : Nat) (w : World), a < 18446744073709551616 → b < 18446744073709551616 → Calls Try.prog 9 #[.int .u64 a, .int .u64 b] w fun e w' => e = .returned (.int .u64 (ofV a b)) ∧ ∃ k, w' = w.drewN k
  times : ∀ (n r : Nat) (w : World), n < 18446744073709551616 → r < 18446744073709551616 → Calls Try.prog 11 #[.int .u64 n, .int .u64 r] w fun e w' => e = .returned (.int .u64 (timesV n r)) ∧ ∃ k, w' = w.drewN k
  awake : ∀ w : World, Calls Try.prog 13 #[] w fun e w' => e = .returned (.bool true) ∧ ∃ k, w' = w.drewN k
  goal : ∀ (l : Nat) (p : Int) (w : World), l < 18446744073709551616 → -9223372036854775808 ≤ p → p ≤ 9223372036854775807 → Calls Try.prog 14 #[.int .u64 l, .int .i64 p] w fun e w' => e = .returned (.int .u64 (goalI l p)) ∧ ∃ k, w' = w.drewN k
  pace : ∀ (l g p : Nat) (w : World), l < 18446744073709551616 → g < 18446744073709551616 → p < 18446744073709551616 → Calls Try.prog 16 #[.int .u64 l, .int .u64 g, .int .u64 p] w fun e w' => e = .returned (.int .u64 (paceV l g p)) ∧ ∃ k, w' = w.drewN k
  mix : ∀ (a b c : Nat) (w : World), a < 18446744073709551616 → b < 18446744073709551616 → c < 18446744073709551616 → Calls Try.prog 18 #[.int .u64 a, .int .u64 b, .int .u64 c] w fun e w' => e = .returned (.int .u64 (mixV a b c)) ∧ ∃ k, w' = w.drewN k
  order : ∀ (a b : Nat) (w : World), a < 18446744073709551616 → b < 18446744073709551616 → Calls Try.prog 20 #[.int .u64 a, .int .u64 b] w fun e w' => e = .returned (.int .i64 (ordV a b)) ∧ ∃ k, w' = w.drewN k

theorem same_world {v : Value} {f : Nat} {args : Array Value} (h : ∀ w : World, Calls Try.prog f args w fun e w' => e = .returned v ∧ w' = w) (w : World) : Calls Try.prog f args w fun e w' => e = .returned v ∧ ∃ k, w' = w.drewN k :=
  (h w).mono fun _ _ ⟨he, hw⟩ => ⟨he, 0, hw⟩

theorem goalRef_int (l : Nat) (p : Int) (hl : l < 18446744073709551616) (h1 : -9223372036854775808 ≤ p) (h2 : p ≤ 9223372036854775807) (w : World) :
    Calls Try.prog 15 #[.int .u64 l, .int .i64 p] w fun e w' => e = .returned (.int .u64 (goalI l p)) ∧ ∃ k, w' = w.drewN k := by
  unfold goalI
  by_cases hp : p < 0
  · rw [if_pos hp]; exact goalRef_neg l p ⟨h1, hp⟩ w
  · rw [if_neg hp]
    obtain ⟨n, rfl⟩ : ∃ n : Nat, p = (n : Int) := ⟨p.toNat, by omega⟩
    rw [Int.toNat_natCast]
    exact goalRef_any l n hl (by omega) w

theorem of_law (Fc : Face) (a b r : Nat) (ha : a < 18446744073709551616) (hb : b < 18446744073709551616) (hr : r < 18446744073709551616) (w : World) :
    Calls Try.prog 3 #[.int .u64 a, .int .u64 b, .int .u64 r] w fun e w' => e = .returned (.bool true) ∧ Grown w w' :=
  ratioOf_core a b r _ _ (fun w => Fc.of a b w ha hb) (fun w => ofRef_any a b ha hb w) (fun w => Fc.times a r w ha hr) (fun w => timesRef_any a r w) Fc.awake w
theorem goals_law (Fc : Face) (l g p : Nat) (q : Int) (hl : l < 18446744073709551616) (hg : g < 18446744073709551616) (hp : p < 18446744073709551616) (h1 : -9223372036854775808 ≤ q) (h2 : q ≤ 9223372036854775807) (w : World) :
    Calls Try.prog 4 #[.int .u64 l, .int .u64 g, .int .u64 p, .int .i64 q] w fun e w' => e = .returned (.bool true) ∧ Grown w w' :=
  ratioGoals_core l g p q _ _ (fun w => Fc.goal l q w hl h1 h2) (fun w => goalRef_int l q hl h1 h2 w) (fun w => Fc.pace l g p w hl hg hp) (fun w => paceRef_any l g p hl hg hp w) Fc.awake w
theorem mixes_law (Fc : Face) (a b x : Nat) (ha : a < 18446744073709551616) (hb : b < 18446744073709551616) (hx : x < 18446744073709551616) (w : World) :
    Calls Try.prog 5 #[.int .u64 a, .int .u64 b, .int .u64 x] w fun e w' => e = .returned (.bool true) ∧ Grown w w' :=
  ratioMixes_core a b x _ (fun w => Fc.mix a b x w ha hb hx) (fun w => mixRef_any a b x w) Fc.awake w
theorem orders_law (Fc : Face) (a b : Nat) (ha : a < 18446744073709551616) (hb : b < 18446744073709551616) (w : World) :
    Calls Try.prog 6 #[.int .u64 a, .int .u64 b] w fun e w' => e = .returned (.bool true) ∧ Grown w w' :=
  ratioOrders_core a b _ (fun w => Fc.order a b w ha hb) (same_world fun w => ordRef_any a b ha hb w) Fc.awake w

theorem goalI_mono (a b : Nat) (q : Int) (h : a ≤ b) (hb : b < 18446744073709551616) (h2 : q ≤ 9223372036854775807) : goalI a q ≤ goalI b q ∧ 4194304 ≤ goalI a q ∧ a ≤ goalI a q := by
  unfold goalI
  by_cases hp : q < 0
  · rw [if_pos hp, if_pos hp]; omega
  · rw [if_neg hp, if_neg hp]
    obtain ⟨x, y, z, _⟩ := goal_mono a b q.toNat h hb (by omega)
    exact ⟨x, y, z⟩

theorem grows_both (Fc : Face) (a b r : Nat) (q : Int) (hb : b < 18446744073709551616) (hr : r < 18446744073709551616) (h1 : -9223372036854775808 ≤ q) (h2 : q ≤ 9223372036854775807) (h : a ≤ b) (w : World) :
    Calls Try.prog 8 #[.int .u64 a, .int .u64 b, .int .u64 r, .int .i64 q] w (fun e w' => e = .returned (.bool true) ∧ Grown w w') ∧
    (a < b → Calls Try.prog 8 #[.int .u64 b, .int .u64 a, .int .u64 r, .int .i64 q] w fun e w' => e = .returned (.bool true) ∧ Grown w w') := by
  have c1 := fun w => Fc.times a r w (by omega) hr
  have c2 := fun w => Fc.times b r w hb hr
  have c3 := fun w => Fc.goal a q w (by omega) h1 h2
  have c4 := fun w => Fc.goal b q w hb h1 h2
  have m := times_mono a b r h hb hr
  obtain ⟨x, y, z⟩ := goalI_mono a b q h hb h2
  exact ⟨ratioGrows_l a b r q _ _ _ _ (by omega) (by omega) (by omega) (by omega) (by omega) c1 c2 c3 c4 Fc.awake w,
    fun hs => ratioGrows_g a b r q _ _ _ _ (by omega) (by omega) (by omega) (by omega) (by omega) c1 c2 c3 c4 Fc.awake w⟩
theorem grows_law (Fc : Face) (a b r : Nat) (q : Int) (ha : a < 18446744073709551616) (hb : b < 18446744073709551616) (hr : r < 18446744073709551616) (h1 : -9223372036854775808 ≤ q) (h2 : q ≤ 9223372036854775807) (w : World) :
    Calls Try.prog 8 #[.int .u64 a, .int .u64 b, .int .u64 r, .int .i64 q] w fun e w' => e = .returned (.bool true) ∧ Grown w w' := by
  by_cases h : a ≤ b
  · exact (grows_both Fc a b r q hb hr h1 h2 h w).1
  · exact (grows_both Fc b a r q ha hr h1 h2 (by omega) w).2 (by omega)

theorem isNan_small (x : Nat) (h : x ≤ 9218868437227405312) : isNan x = false := by unfold isNan; simp; omega

theorem canon_law (Fc : Face) (a b x : Nat) (ha : a < 18446744073709551616) (hb : b < 18446744073709551616) (hx : x < 18446744073709551616) (w : World) :
    Calls Try.prog 7 #[.int .u64 a, .int .u64 b, .int .u64 x] w fun e w' => e = .returned (.bool true) ∧ Grown w w' := by
  have c1 := fun w => Fc.of a b w ha hb
  have c2 := fun w => Fc.mix a b x w ha hb hx
  have c3 := fun w => Fc.pace a b x w ha hb hx
  have cA := Fc.awake
  -- the pace
  have hp : paceV a b x ≤ 9218868437227405312 := by
    unfold paceV
    rcases of_form x (if a < b ∧ 8192 < b - a then b - a else 8192) hx (by split <;> omega) with ⟨_, z, _⟩ | ⟨_, q, hq, _, e⟩
    · split at z <;> omega
    · rw [e]; exact hq
  have n3 := same_world (fun w => nan_any (paceV a b x) (by omega) w)
  rw [isNan_small _ hp] at n3
  -- the mixture
  have hm : (mixV a b x = 9221120237041090561) ∨ (mixV a b x < 18446744073709551616 ∧ isNan (mixV a b x) = false) := by
    rcases mix_form a b x with h | ⟨s, r, hr, h⟩
    · exact Or.inl h
    · right
      rw [h]
      refine ⟨?_, word_notNan s r hr⟩
      unfold Ieee.Format.word
      rw [d_sw]
      cases s
      · simp only [Bool.false_eq_true, if_false]; omega
      · simp only [if_true]; omega
  have nc : isNan 9221120237041090561 = true := by decide
  rcases of_form a b ha hb with ⟨z1, z2, _, ho⟩ | ⟨z, q, hq, _, ho⟩
  · rw [ho] at c1
    have n1 := same_world (fun w => nan_any 9221120237041090561 (by decide) w)
    rw [nc] at n1
    have ta : ((a : Int) == 0) = true := by subst z1; rfl
    have tb : ((b : Int) == 0) = true := by subst z2; rfl
    rcases hm with hm | ⟨hm, hn⟩
    · rw [hm] at c2
      exact canon_tt a b x 0 0 _ ta tb c1 c2 c3 n1 n1 n3 cA w
    · have n2 := same_world (fun w => nan_any (mixV a b x) hm w)
      rw [hn] at n2
      exact canon_tf a b x 0 _ _ ta tb c1 c2 c3 n1 n2 n3 cA w
  · rw [ho] at c1
    have n1 := same_world (fun w => nan_any q (by omega) w)
    rw [isNan_small q hq] at n1
    have tn : (((a : Int) == 0) && ((b : Int) == 0)) = false := by
      rw [Bool.and_eq_false_iff]
      by_cases h0 : a = 0
      · right
        have : b ≠ 0 := fun hh => z ⟨h0, hh⟩
        simp; exact this
      · left; simp; exact h0
    rcases hm with hm | ⟨hm, hn⟩
    · rw [hm] at c2
      have n2 := same_world (fun w => nan_any 9221120237041090561 (by decide) w)
      rw [nc] at n2
      exact canon_ft a b x q 0 _ tn c1 c2 c3 n1 n2 n3 cA w
    · have n2 := same_world (fun w => nan_any (mixV a b x) hm w)
      rw [hn] at n2
      exact canon_ff a b x q _ _ tn c1 c2 c3 n1 n2 n3 cA w

theorem face : Face where
  of := of_any
  times := fun n r w _ _ => times_any n r w
  awake := awake_any
  goal := goal_any
  pace := pace_any
  mix := fun a b c w _ _ _ => mix_any a b c w
  order := order_any

end Go.Proofs.Ytkogomgnfeigbaa
