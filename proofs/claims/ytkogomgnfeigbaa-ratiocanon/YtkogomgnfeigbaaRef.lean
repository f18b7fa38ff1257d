/- What the reference's functions answer, for every argument. -/
import Derived.Test.YtkogomgnfeigbaaBase
namespace Go.Proofs.Ytkogomgnfeigbaa
open Go.ChangeShapes Go.WideShapes Go.ChangeAt Go.RowKit Go.Proofs.Dbl

/-! ### The two entries of package math -/
/-! ### What an operation on doubles runs to -/
/-! ### The reference's pattern and double -/
theorem patRef_num (x : Nat) (hx : x < 18446744073709551616) (h : isNan x = false) (w : World) :
    Calls Try.prog 24 #[.float .f64 x] w fun e w' => e = .returned (.int .u64 x) ∧ w' = w := by
  have t := self_eq x hx h
  have b := bits_run
  clear hx h
  go_enter Try.func24, Try.ntmps24
  go_wp2
  go_ret
  exact ⟨rfl, rfl⟩
theorem patRef_nan (x : Nat) (hx : x < 18446744073709551616) (h : isNan x = true) (w : World) :
    Calls Try.prog 24 #[.float .f64 x] w fun e w' => e = .returned (.int .u64 9221120237041090561) ∧ w' = w := by
  have t := self_ne x hx h
  clear hx h
  go_enter Try.func24, Try.ntmps24
  go_wp2
  go_ret
  exact ⟨rfl, rfl⟩
theorem dblRef_any (a : Nat) (w : World) : Calls Try.prog 27 #[.int .u64 a] w fun e w' => e = .returned (.float .f64 a) ∧ w' = w := by
  have b := from_run
  go_enter Try.func27, Try.ntmps27
  go_wp2
  go_ret
  exact ⟨rfl, rfl⟩
/-! ### The reference's Of -/
theorem ofRef_any (a b : Nat) (ha : a < 18446744073709551616) (hb : b < 18446744073709551616) (w : World) :
    Calls Try.prog 10 #[.int .u64 a, .int .u64 b] w fun e w' => e = .returned (.int .u64 (ofV a b)) ∧ ∃ k, w' = w.drewN k := by
  have eA := ofInt_F a
  have eB := ofInt_F b
  rcases of_form a b ha hb with ⟨z1, z2, hd, ho⟩ | ⟨z1, q, hq, hd, ho⟩
  · have hn := fun w => quo_none 34 (F a) (F b) hd w
    have c := fun w x (h : isNan x = true ∧ x < 18446744073709551616) => patRef_nan x h.2 h.1 w
    rw [ho]
    unfold canon
    clear ho hd ha hb z1 z2
    generalize F a = X at *
    generalize F b = Y at *
    go_enter Try.func10, Try.ntmps10
    go_wp2_with (go_at_call 24; refine (c _ _ (nanW_nan _ _ _)).mono ?_; rintro e w' ⟨rfl, rfl⟩)
    go_ret
    exact ⟨rfl, 1, rfl⟩
  · have hn := fun w => arith_some .quo 34 (F a) (F b) q hd w
    have c := fun w => patRef_num q (by omega) (by unfold isNan; simp; omega) w
    rw [ho]
    clear ho hd ha hb hq z1
    generalize F a = X at *
    generalize F b = Y at *
    go_enter Try.func10, Try.ntmps10
    go_wp2_with (go_at_call 24; refine (c _).mono ?_; rintro e w' ⟨rfl, rfl⟩)
    go_ret
    exact ⟨rfl, 0, rfl⟩
/-! ### The reference's Times -/
/-- The road of a product that is a number. -/
theorem timesRef_core (n r X x v : Nat) (c1 c2 : Bool) (eX : floatOfInt .f64 (n : Int) = X) (hm : ∀ w : World, (binOp .mul 34 (.float .f64 X) (.float .f64 r)).run Try.prog w = .ok (.float .f64 x) w)
    (t1 : (FloatKind.f64.format.order x 4607182418800017408 == some Ordering.gt || FloatKind.f64.format.order x 4607182418800017408 == some Ordering.eq) = c1)
    (t2 : (FloatKind.f64.format.order x 4895412794951729152 == some Ordering.gt || FloatKind.f64.format.order x 4895412794951729152 == some Ordering.eq) = c2)
    (hc : c1 = true → c2 = false → ∀ w : World, (convert 34 22 (.float .f64 x)).run Try.prog w = .ok (.int .u64 (v : Int)) w) (w : World) :
    Calls Try.prog 12 #[.int .u64 n, .int .u64 r] w fun e w' => e = .returned (.int .u64 (if c1 then if c2 then (18446744073709551615 : Int) else (v : Int) else 0)) ∧ w' = w := by
  have c := dblRef_any
  cases c1
  · clear hc t2
    go_enter Try.func12, Try.ntmps12
    go_wp2_with (go_at_call 27; refine (c _ _).mono ?_; rintro e w' ⟨rfl, rfl⟩)
    go_ret
    exact ⟨rfl, rfl⟩
  · cases c2
    · have hc' := hc rfl rfl
      clear hc
      go_enter Try.func12, Try.ntmps12
      go_wp2_with (go_at_call 27; refine (c _ _).mono ?_; rintro e w' ⟨rfl, rfl⟩)
      go_ret
      exact ⟨rfl, rfl⟩
    · clear hc
      go_enter Try.func12, Try.ntmps12
      go_wp2_with (go_at_call 27; refine (c _ _).mono ?_; rintro e w' ⟨rfl, rfl⟩)
      go_ret
      exact ⟨rfl, rfl⟩
theorem timesRef_any (n r : Nat) (w : World) :
    Calls Try.prog 12 #[.int .u64 n, .int .u64 r] w fun e w' => e = .returned (.int .u64 (timesV n r)) ∧ ∃ k, w' = w.drewN k := by
  have eX := ofInt_F n
  unfold timesV
  cases hm : Ieee.double.mul (F n) r with
  | none =>
    have hN := fun w => mul_none 34 (F n) r hm w
    have g := fun (w : World) => ge_nan (nanW w (F n) r) 4607182418800017408 (nanW_nan _ _ _).2 (by decide) (nanW_nan _ _ _).1
    have c := dblRef_any
    clear hm
    generalize F n = X at *
    go_enter Try.func12, Try.ntmps12
    go_wp2_with (go_at_call 27; refine (c _ _).mono ?_; rintro e w' ⟨rfl, rfl⟩)
    go_ret
    exact ⟨rfl, 1, rfl⟩
  | some x =>
    have hN := fun w => arith_some .mul 34 (F n) r x hm w
    have hx := mul_form _ _ _ hm
    refine (timesRef_core n r (F n) x (((Ieee.double.read x).toInt .zero).getD 0).toNat (ge x 4607182418800017408) (ge x 4895412794951729152) eX hN rfl rfl ?_ w).mono fun e w' ⟨he, hw⟩ => ⟨?_, 0, by rw [hw]; rfl⟩
    · intro h1 h2 w
      have := cut_conv x hx h1 h2
      exact run_convert_float_int w 34 22 .f64 .u64 x _ (by rw [Try.underlying34]; rfl) Try.underlying22 this
    · rw [he]
      simp only [cutW]
      cases ge x 4607182418800017408
      · rfl
      · cases ge x 4895412794951729152
        · rfl
        · rfl
/-! ### The reference's Goal and Pace -/
theorem goalRef_core (live percent o t : Int) (hl : 0 ≤ live ∧ live ≤ 18446744073709551615) (hp : 0 ≤ percent ∧ percent ≤ 9223372036854775807) (ht : 0 ≤ t ∧ t ≤ 18446744073709551615)
    (c1 : ∀ w : World, Calls Try.prog 10 #[.int .u64 percent, .int .u64 100] w fun e w' => e = .returned (.int .u64 o) ∧ ∃ k, w' = w.drewN k)
    (c2 : ∀ w : World, Calls Try.prog 12 #[.int .u64 live, .int .u64 o] w fun e w' => e = .returned (.int .u64 t) ∧ ∃ k, w' = w.drewN k) (w : World) :
    Calls Try.prog 15 #[.int .u64 live, .int .i64 percent] w fun e w' => e = .returned (.int .u64 (if 18446744073709551615 - live < t then (18446744073709551615 : Int) else if live + t < 4194304 then (4194304 : Int) else live + t)) ∧ ∃ k, w' = w.drewN k := by
  by_cases h1 : 18446744073709551615 - live < t
  · rw [if_pos h1]
    go_enter Try.func15, Try.ntmps15
    go_wp2_with (first
      | (go_at_call 10; refine (c1 _).mono ?_; rintro e w' ⟨rfl, k, rfl⟩)
      | (go_at_call 12; refine (c2 _).mono ?_; rintro e w' ⟨rfl, k, rfl⟩))
    go_ret
    exact ⟨rfl, _, rfl⟩
  · rw [if_neg h1]
    by_cases h2 : live + t < 4194304
    · rw [if_pos h2]
      go_enter Try.func15, Try.ntmps15
      go_wp2_with (first
        | (go_at_call 10; refine (c1 _).mono ?_; rintro e w' ⟨rfl, k, rfl⟩)
        | (go_at_call 12; refine (c2 _).mono ?_; rintro e w' ⟨rfl, k, rfl⟩))
      go_ret
      exact ⟨rfl, _, rfl⟩
    · rw [if_neg h2]
      go_enter Try.func15, Try.ntmps15
      go_wp2_with (first
        | (go_at_call 10; refine (c1 _).mono ?_; rintro e w' ⟨rfl, k, rfl⟩)
        | (go_at_call 12; refine (c2 _).mono ?_; rintro e w' ⟨rfl, k, rfl⟩))
      go_ret
      exact ⟨rfl, _, rfl⟩
theorem goalRef_neg (live : Nat) (percent : Int) (hp : -9223372036854775808 ≤ percent ∧ percent < 0) (w : World) :
    Calls Try.prog 15 #[.int .u64 live, .int .i64 percent] w fun e w' => e = .returned (.int .u64 18446744073709551615) ∧ ∃ k, w' = w.drewN k := by
  go_enter Try.func15, Try.ntmps15
  go_wp2
  go_ret
  exact ⟨rfl, 0, rfl⟩
theorem goalRef_any (live percent : Nat) (hl : live < 18446744073709551616) (hp : percent < 9223372036854775808) (w : World) :
    Calls Try.prog 15 #[.int .u64 live, .int .i64 percent] w fun e w' => e = .returned (.int .u64 (goalV live percent)) ∧ ∃ k, w' = w.drewN k := by
  rw [← goalV_int live percent hl]
  have b := times_le live _ hl (of_word percent 100 (by omega) (by decide))
  exact goalRef_core live percent _ _ (by omega) (by omega) (by omega) (fun w => ofRef_any percent 100 (by omega) (by decide) w) (fun w => timesRef_any live _ w) w
theorem paceRef_core (live goal pages d o : Nat) (hl : live < 18446744073709551616) (hg : goal < 18446744073709551616) (hd : d = if live < goal ∧ 8192 < goal - live then goal - live else 8192)
    (c1 : ∀ w : World, Calls Try.prog 10 #[.int .u64 pages, .int .u64 d] w fun e w' => e = .returned (.int .u64 o) ∧ ∃ k, w' = w.drewN k) (w : World) :
    Calls Try.prog 17 #[.int .u64 live, .int .u64 goal, .int .u64 pages] w fun e w' => e = .returned (.int .u64 o) ∧ ∃ k, w' = w.drewN k := by
  by_cases h1 : live < goal
  · by_cases h2 : 8192 < goal - live
    · rw [if_pos ⟨h1, h2⟩] at hd
      have e1 : ((goal - live : Nat) : Int) = (goal : Int) - live := by omega
      rw [hd, e1] at c1
      have h2' : (8192 : Int) < (goal : Int) - live := by omega
      clear hd e1
      go_enter Try.func17, Try.ntmps17
      go_wp2_with (first
        | (go_at_call 10; refine (c1 _).mono ?_; rintro e w' ⟨rfl, k, rfl⟩))
      go_ret
      exact ⟨rfl, _, rfl⟩
    · rw [if_neg (fun h => h2 h.2)] at hd
      subst hd
      have h2' : ¬ (8192 : Int) < (goal : Int) - live := by omega
      go_enter Try.func17, Try.ntmps17
      go_wp2_with (first
        | (go_at_call 10; refine (c1 _).mono ?_; rintro e w' ⟨rfl, k, rfl⟩))
      go_ret
      exact ⟨rfl, _, rfl⟩
  · rw [if_neg (fun h => h1 h.1)] at hd
    subst hd
    go_enter Try.func17, Try.ntmps17
    go_wp2_with (first
      | (go_at_call 10; refine (c1 _).mono ?_; rintro e w' ⟨rfl, k, rfl⟩))
    go_ret
    exact ⟨rfl, _, rfl⟩
theorem paceRef_any (live goal pages : Nat) (hl : live < 18446744073709551616) (hg : goal < 18446744073709551616) (hp : pages < 18446744073709551616) (w : World) :
    Calls Try.prog 17 #[.int .u64 live, .int .u64 goal, .int .u64 pages] w fun e w' => e = .returned (.int .u64 (paceV live goal pages)) ∧ ∃ k, w' = w.drewN k :=
  paceRef_core live goal pages _ _ hl hg rfl (fun w => ofRef_any pages _ hp (by split <;> omega) w) w
/-! ### Any operation on doubles, in one law -/
theorem patRef_any (x : Nat) (hx : x < 18446744073709551616) (w : World) : Calls Try.prog 24 #[.float .f64 x] w fun e w' => e = .returned (.int .u64 (patV x)) ∧ w' = w := by
  unfold patV
  cases h : isNan x
  · exact patRef_num x hx h w
  · exact patRef_nan x hx h w
theorem mixRef_any (a b c : Nat) (w : World) : Calls Try.prog 19 #[.int .u64 a, .int .u64 b, .int .u64 c] w fun e w' => e = .returned (.int .u64 (mixV a b c)) ∧ ∃ k, w' = w.drewN k := by
  have r1 := fun x y w => arith_run .sub (Or.inr (Or.inl rfl)) 34 x y w
  have r2 := fun x y w => arith_run .mul (Or.inr (Or.inr (Or.inl rfl))) 34 x y w
  have r3 := fun x y w => arith_run .add (Or.inl rfl) 34 x y w
  have cd := dblRef_any
  have cp := fun op W x y w => patRef_any (resW op W x y) (res_lt op W x y) w
  have h0 := fun w0 w1 w2 w3 => mix_eq a b c w0 w1 w2 w3
  generalize mixV a b c = v at h0
  go_enter Try.func19, Try.ntmps19
  go_wp2_with (first
    | (go_at_call 27; refine (cd _ _).mono ?_; rintro e w' ⟨rfl, rfl⟩)
    | (go_at_call 24; refine (cp _ _ _ _ _).mono ?_; rintro e w' ⟨rfl, rfl⟩))
  go_ret
  exact ⟨by first | rfl | (rw [h0]; rfl), _, rfl⟩
end Go.Proofs.Ytkogomgnfeigbaa
