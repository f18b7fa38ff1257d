/- What the project's package ratio answers, for every argument: Of, Times, Pace, Mix, Order and what they call. -/
import Derived.Test.YtkogomgnfeigbabBase
import Derived.Deep.QuietTactic
import Derived.BigQuiet
import Derived.Outline
import Derived.Laws.BitsAllLaws
namespace Go.Proofs.Ytkogomgnfeigbab
open Go.ChangeShapes Go.WideShapes Go.ChangeAt Go.RowKit Go.Proofs.Dbl

/-! ### Package math: IsNaN, Signbit -/
theorem isNaN_any (x : Nat) (hx : x < 18446744073709551616) (w : World) :
    Calls Try.prog 16 #[.float .f64 x] w fun e w' => e = .returned (.bool (isNan x)) ∧ w' = w := by
  have t := (bne_self_is x hx).1
  generalize isNan x = v at t
  clear hx
  go_enter Try.func16, Try.ntmps16
  go_wp2
  go_ret
  exact ⟨rfl, rfl⟩
def neg (x : Nat) : Bool := decide (9223372036854775808 ≤ x)
theorem sign_core (x : Nat) (v : Int) (s : Bool) (hv : IntKind.i64.wrap (x : Int) = v) (hs : decide (v < 0) = s) (w : World) :
    Calls Try.prog 17 #[.float .f64 x] w fun e w' => e = .returned (.bool s) ∧ w' = w := by
  have b := bits_run
  go_enter Try.func17, Try.ntmps17
  go_wp2
  go_ret
  exact ⟨rfl, rfl⟩
theorem sign_any (x : Nat) (hx : x < 18446744073709551616) (w : World) :
    Calls Try.prog 17 #[.float .f64 x] w fun e w' => e = .returned (.bool (neg x)) ∧ w' = w := by
  refine sign_core x _ _ rfl ?_ w
  unfold neg
  rw [decide_eq_decide, IntKind.wrap_i64]
  omega

/-! ### pattern -/
theorem pat_any (x : Nat) (hx : x < 18446744073709551616) (w : World) : Calls Try.prog 18 #[.float .f64 x] w fun e w' => e = .returned (.int .u64 (patV x)) ∧ w' = w := by
  have b := bits_run
  have c := fun w => isNaN_any x hx w
  unfold patV
  clear hx
  cases h : isNan x
  · rw [h] at c
    clear h
    simp only [Bool.false_eq_true, if_false]
    go_enter Try.func18, Try.ntmps18
    go_wp2_with (go_at_call 16; refine (c _).mono ?_; rintro e w' ⟨rfl, rfl⟩)
    go_ret
    exact ⟨rfl, rfl⟩
  · rw [h] at c
    clear h
    simp only [if_true]
    go_enter Try.func18, Try.ntmps18
    go_wp2_with (go_at_call 16; refine (c _).mono ?_; rintro e w' ⟨rfl, rfl⟩)
    go_ret
    exact ⟨rfl, rfl⟩

/-! ### Of -/
theorem of_val (a b : Nat) (ha : a < 18446744073709551616) (hb : b < 18446744073709551616) (w : World) : patV (resW .quo w (F a) (F b)) = ofV a b := by
  rcases of_form a b ha hb with ⟨_, _, hd, ho⟩ | ⟨_, q, hq, hd, ho⟩
  · have e : floatBits .quo .f64 (F a) (F b) = none := hd
    unfold resW
    rw [e, ho]
    unfold patV
    simp only [Option.getD_none, (nanW_nan w (F a) (F b)).1, if_true]
    rfl
  · have e : floatBits .quo .f64 (F a) (F b) = some q := hd
    unfold resW
    rw [e, ho]
    unfold patV
    have : isNan q = false := by unfold isNan; simp; omega
    simp only [Option.getD_some, this, Bool.false_eq_true, if_false]
theorem of_any (a b : Nat) (w : World) (ha : a < 18446744073709551616) (hb : b < 18446744073709551616) :
    Calls Try.prog 12 #[.int .u64 a, .int .u64 b] w fun e w' => e = .returned (.int .u64 (ofV a b)) ∧ ∃ k, w' = w.drewN k := by
  have eA := ofInt_F a
  have eB := ofInt_F b
  have r := fun x y w => arith_run .quo (Or.inr (Or.inr (Or.inr rfl))) 30 x y w
  have c := fun op W x y w => pat_any (resW op W x y) (res_lt op W x y) w
  have h0 := fun w => of_val a b ha hb w
  clear ha hb
  generalize ofV a b = v at h0
  generalize F a = X at *
  generalize F b = Y at *
  go_enter Try.func12, Try.ntmps12
  go_wp2_with (go_at_call 18; refine (c _ _ _ _ _).mono ?_; rintro e w' ⟨rfl, rfl⟩)
  go_ret
  exact ⟨by first | rfl | (rw [h0]; rfl), _, rfl⟩

/-! ### room and Pace -/
theorem room_core (l g : Int) (hl : 0 ≤ l ∧ l ≤ 18446744073709551615) (hg : 0 ≤ g ∧ g ≤ 18446744073709551615) (d : Int) (hd : d = if l < g ∧ 8192 < g - l then g - l else 8192) (w : World) :
    Calls Try.prog 19 #[.int .u64 l, .int .u64 g] w fun e w' => e = .returned (.int .u64 d) ∧ w' = w := by
  by_cases h1 : g < l
  · have e : d = 8192 := by rw [hd, if_neg (by omega)]
    subst e
    clear hd
    go_enter Try.func19, Try.ntmps19
    go_wp2
    go_ret
    exact ⟨rfl, rfl⟩
  · by_cases h2 : 8192 ≤ g - l
    · have e : d = g - l := by rw [hd]; split <;> omega
      subst e
      clear hd
      go_enter Try.func19, Try.ntmps19
      go_wp2
      go_ret
      exact ⟨rfl, rfl⟩
    · have e : d = 8192 := by rw [hd, if_neg (by omega)]
      subst e
      clear hd
      go_enter Try.func19, Try.ntmps19
      go_wp2
      go_ret
      exact ⟨rfl, rfl⟩
theorem room_any (l g : Nat) (hl : l < 18446744073709551616) (hg : g < 18446744073709551616) (w : World) :
    Calls Try.prog 19 #[.int .u64 l, .int .u64 g] w fun e w' => e = .returned (.int .u64 ((if l < g ∧ 8192 < g - l then g - l else 8192 : Nat) : Int)) ∧ w' = w := by
  refine room_core l g (by omega) (by omega) _ ?_ w
  by_cases h : l < g ∧ 8192 < g - l
  · rw [if_pos h, if_pos (by omega)]; omega
  · rw [if_neg h, if_neg (by omega)]; rfl
theorem pace_core (l g p d o : Int) (c1 : ∀ w : World, Calls Try.prog 19 #[.int .u64 l, .int .u64 g] w fun e w' => e = .returned (.int .u64 d) ∧ w' = w)
    (c2 : ∀ w : World, Calls Try.prog 12 #[.int .u64 p, .int .u64 d] w fun e w' => e = .returned (.int .u64 o) ∧ ∃ k, w' = w.drewN k) (w : World) :
    Calls Try.prog 13 #[.int .u64 l, .int .u64 g, .int .u64 p] w fun e w' => e = .returned (.int .u64 o) ∧ ∃ k, w' = w.drewN k := by
  go_enter Try.func13, Try.ntmps13
  go_wp2_with (first
    | (go_at_call 19; refine (c1 _).mono ?_; rintro e w' ⟨rfl, rfl⟩)
    | (go_at_call 12; refine (c2 _).mono ?_; rintro e w' ⟨rfl, k, rfl⟩))
  go_ret
  exact ⟨rfl, _, rfl⟩
theorem pace_any (l g p : Nat) (w : World) (hl : l < 18446744073709551616) (hg : g < 18446744073709551616) (hp : p < 18446744073709551616) :
    Calls Try.prog 13 #[.int .u64 l, .int .u64 g, .int .u64 p] w fun e w' => e = .returned (.int .u64 (paceV l g p)) ∧ ∃ k, w' = w.drewN k :=
  pace_core l g p _ _ (fun w => room_any l g hl hg w) (fun w => of_any p _ w hp (by split <;> omega)) w

/-! ### Mix -/
theorem mix_any (a b c : Nat) (w : World) : Calls Try.prog 14 #[.int .u64 a, .int .u64 b, .int .u64 c] w fun e w' => e = .returned (.int .u64 (mixV a b c)) ∧ ∃ k, w' = w.drewN k := by
  have r1 := fun x y w => arith_run .sub (Or.inr (Or.inl rfl)) 30 x y w
  have r2 := fun x y w => arith_run .mul (Or.inr (Or.inr (Or.inl rfl))) 30 x y w
  have r3 := fun x y w => arith_run .add (Or.inl rfl) 30 x y w
  have fr := from_run
  have cp := fun op W x y w => pat_any (resW op W x y) (res_lt op W x y) w
  have h0 := fun w0 w1 w2 w3 => mix_eq a b c w0 w1 w2 w3
  generalize mixV a b c = v at h0
  go_enter Try.func14, Try.ntmps14
  go_wp2_with (go_at_call 18; refine (cp _ _ _ _ _).mono ?_; rintro e w' ⟨rfl, rfl⟩)
  go_ret
  exact ⟨by first | rfl | (rw [h0]; rfl), _, rfl⟩

/-! ### Times -/
theorem lt_ge (x y : Nat) (hx : x < 18446744073709551616) (hy : y < 18446744073709551616) (h1 : isNan x = false) (h2 : isNan y = false) : (FloatKind.f64.format.order x y == some Ordering.lt) = !ge x y := by
  have o := order_kx x y hx hy h1 h2
  have e : FloatKind.f64.format.order x y = Ieee.double.order x y := rfl
  unfold ge
  rw [e, o]
  cases compare (kx x) (kx y) <;> rfl
/-- The road of a product that is a number. -/
theorem times_core (n r X x v : Nat) (c1 c2 : Bool) (eX : floatOfInt .f64 (n : Int) = X) (hm : ∀ w : World, (binOp .mul 30 (.float .f64 X) (.float .f64 r)).run Try.prog w = .ok (.float .f64 x) w)
    (c : ∀ w : World, Calls Try.prog 16 #[.float .f64 x] w fun e w' => e = .returned (.bool false) ∧ w' = w)
    (t1 : (FloatKind.f64.format.order x 4607182418800017408 == some Ordering.lt) = !c1)
    (t2 : (FloatKind.f64.format.order x 4895412794951729152 == some Ordering.gt || FloatKind.f64.format.order x 4895412794951729152 == some Ordering.eq) = c2)
    (hc : c1 = true → c2 = false → ∀ w : World, (convert 30 22 (.float .f64 x)).run Try.prog w = .ok (.int .u64 (v : Int)) w) (w : World) :
    Calls Try.prog 8 #[.int .u64 n, .int .u64 r] w fun e w' => e = .returned (.int .u64 (if c1 then if c2 then (18446744073709551615 : Int) else (v : Int) else 0)) ∧ w' = w := by
  have fr := from_run
  cases c1
  · clear hc t2
    have t1' : (FloatKind.f64.format.order x 4607182418800017408 == some Ordering.lt) = true := t1
    clear t1
    go_enter Try.func8, Try.ntmps8
    go_wp2_with (go_at_call 16; refine (c _).mono ?_; rintro e w' ⟨rfl, rfl⟩)
    go_ret
    exact ⟨rfl, rfl⟩
  · have t1' : (FloatKind.f64.format.order x 4607182418800017408 == some Ordering.lt) = false := t1
    clear t1
    cases c2
    · have hc' := hc rfl rfl
      clear hc
      go_enter Try.func8, Try.ntmps8
      go_wp2_with (go_at_call 16; refine (c _).mono ?_; rintro e w' ⟨rfl, rfl⟩)
      go_ret
      exact ⟨rfl, rfl⟩
    · clear hc
      go_enter Try.func8, Try.ntmps8
      go_wp2_with (go_at_call 16; refine (c _).mono ?_; rintro e w' ⟨rfl, rfl⟩)
      go_ret
      exact ⟨rfl, rfl⟩
theorem times_any (n r : Nat) (w : World) :
    Calls Try.prog 8 #[.int .u64 n, .int .u64 r] w fun e w' => e = .returned (.int .u64 (timesV n r)) ∧ ∃ k, w' = w.drewN k := by
  have eX := ofInt_F n
  unfold timesV
  cases hm : Ieee.double.mul (F n) r with
  | none =>
    have hN := fun w => mul_none 30 (F n) r hm w
    have c := fun w x (h : isNan x = true ∧ x < 18446744073709551616) => isNaN_any x h.2 w
    have c' : ∀ (w : World) x, isNan x = true ∧ x < 18446744073709551616 → Calls Try.prog 16 #[.float .f64 x] w fun e w' => e = .returned (.bool true) ∧ w' = w := by
      intro w x h
      have := c w x h
      rw [h.1] at this
      exact this
    have fr := from_run
    clear hm c
    generalize F n = X at *
    go_enter Try.func8, Try.ntmps8
    go_wp2_with (go_at_call 16; refine (c' _ _ (nanW_nan _ _ _)).mono ?_; rintro e w' ⟨rfl, rfl⟩)
    go_ret
    exact ⟨rfl, 1, rfl⟩
  | some x =>
    have hN := fun w => arith_some .mul 30 (F n) r x hm w
    have hx := mul_form _ _ _ hm
    have hlt : x < 18446744073709551616 := by
      have := floatBits_wf (show floatBits .mul .f64 (F n) r = some x from hm)
      simpa [Lit.wf] using this
    have hnn : isNan x = false := by obtain ⟨s, q, hq, e⟩ := hx; rw [e]; exact word_notNan s q hq
    have c := fun w => isNaN_any x hlt w
    rw [hnn] at c
    refine (times_core n r (F n) x (((Ieee.double.read x).toInt .zero).getD 0).toNat (ge x 4607182418800017408) (ge x 4895412794951729152) eX hN c (lt_ge x _ hlt (by decide) hnn (by decide)) rfl ?_ w).mono fun e w' ⟨he, hw⟩ => ⟨?_, 0, by rw [hw]; rfl⟩
    · intro h1 h2 w
      have := cut_conv x hx h1 h2
      exact run_convert_float_int w 30 22 .f64 .u64 x _ (by rw [Try.underlying30]; rfl) Try.underlying22 this
    · rw [he]
      simp only [cutW]
      cases ge x 4607182418800017408
      · rfl
      · cases ge x 4895412794951729152
        · rfl
        · rfl

/-! ### Order -/
/-- The roads of Order, by what its tests answer. -/
theorem order_core (a b : Nat) (N S : Nat → Bool) (l g : Bool)
    (i : ∀ (x : Nat) (w : World), x = a ∨ x = b → Calls Try.prog 16 #[.float .f64 x] w fun e w' => e = .returned (.bool (N x)) ∧ w' = w)
    (j : ∀ (x : Nat) (w : World), x = a ∨ x = b → Calls Try.prog 17 #[.float .f64 x] w fun e w' => e = .returned (.bool (S x)) ∧ w' = w)
    (t1 : (FloatKind.f64.format.order a b == some Ordering.lt) = l) (t2 : (FloatKind.f64.format.order a b == some Ordering.gt) = g) (v : Int)
    (hv : v = if N a then (if N b then 0 else 1) else if N b then -1 else if l then -1 else if g then 1 else if S a == S b then 0 else if S a then -1 else 1) (w : World) :
    Calls Try.prog 11 #[.int .u64 a, .int .u64 b] w fun e w' => e = .returned (.int .i64 v) ∧ w' = w := by
  have fr := from_run
  subst hv
  cases n1 : N a
  · cases n2 : N b
    · cases l
      · cases g
        · cases s1 : S a
          · cases s2 : S b
            · simp only [Bool.false_eq_true, if_false, if_true, beq_self_eq_true]
              go_enter Try.func11, Try.ntmps11
              go_wp2_with (first
                | (go_at_call 16; refine (i _ _ (by first | exact Or.inl rfl | exact Or.inr rfl)).mono ?_; rintro e w' ⟨rfl, rfl⟩)
                | (go_at_call 17; refine (j _ _ (by first | exact Or.inl rfl | exact Or.inr rfl)).mono ?_; rintro e w' ⟨rfl, rfl⟩))
              go_ret
              exact ⟨rfl, rfl⟩
            · simp only [Bool.false_eq_true, if_false, show (false == true) = false from rfl]
              go_enter Try.func11, Try.ntmps11
              go_wp2_with (first
                | (go_at_call 16; refine (i _ _ (by first | exact Or.inl rfl | exact Or.inr rfl)).mono ?_; rintro e w' ⟨rfl, rfl⟩)
                | (go_at_call 17; refine (j _ _ (by first | exact Or.inl rfl | exact Or.inr rfl)).mono ?_; rintro e w' ⟨rfl, rfl⟩))
              go_ret
              exact ⟨rfl, rfl⟩
          · cases s2 : S b
            · simp only [Bool.false_eq_true, if_false, if_true, show (true == false) = false from rfl]
              go_enter Try.func11, Try.ntmps11
              go_wp2_with (first
                | (go_at_call 16; refine (i _ _ (by first | exact Or.inl rfl | exact Or.inr rfl)).mono ?_; rintro e w' ⟨rfl, rfl⟩)
                | (go_at_call 17; refine (j _ _ (by first | exact Or.inl rfl | exact Or.inr rfl)).mono ?_; rintro e w' ⟨rfl, rfl⟩))
              go_ret
              exact ⟨rfl, rfl⟩
            · simp only [Bool.false_eq_true, if_false, if_true, beq_self_eq_true]
              go_enter Try.func11, Try.ntmps11
              go_wp2_with (first
                | (go_at_call 16; refine (i _ _ (by first | exact Or.inl rfl | exact Or.inr rfl)).mono ?_; rintro e w' ⟨rfl, rfl⟩)
                | (go_at_call 17; refine (j _ _ (by first | exact Or.inl rfl | exact Or.inr rfl)).mono ?_; rintro e w' ⟨rfl, rfl⟩))
              go_ret
              exact ⟨rfl, rfl⟩
        · simp only [Bool.false_eq_true, if_false, if_true]
          go_enter Try.func11, Try.ntmps11
          go_wp2_with (first
            | (go_at_call 16; refine (i _ _ (by first | exact Or.inl rfl | exact Or.inr rfl)).mono ?_; rintro e w' ⟨rfl, rfl⟩)
            | (go_at_call 17; refine (j _ _ (by first | exact Or.inl rfl | exact Or.inr rfl)).mono ?_; rintro e w' ⟨rfl, rfl⟩))
          go_ret
          exact ⟨rfl, rfl⟩
      · simp only [Bool.false_eq_true, if_false, if_true]
        go_enter Try.func11, Try.ntmps11
        go_wp2_with (first
          | (go_at_call 16; refine (i _ _ (by first | exact Or.inl rfl | exact Or.inr rfl)).mono ?_; rintro e w' ⟨rfl, rfl⟩)
          | (go_at_call 17; refine (j _ _ (by first | exact Or.inl rfl | exact Or.inr rfl)).mono ?_; rintro e w' ⟨rfl, rfl⟩))
        go_ret
        exact ⟨rfl, rfl⟩
    · simp only [Bool.false_eq_true, if_false, if_true]
      go_enter Try.func11, Try.ntmps11
      go_wp2_with (first
        | (go_at_call 16; refine (i _ _ (by first | exact Or.inl rfl | exact Or.inr rfl)).mono ?_; rintro e w' ⟨rfl, rfl⟩)
        | (go_at_call 17; refine (j _ _ (by first | exact Or.inl rfl | exact Or.inr rfl)).mono ?_; rintro e w' ⟨rfl, rfl⟩))
      go_ret
      exact ⟨rfl, rfl⟩
  · cases n2 : N b
    · simp only [Bool.false_eq_true, if_false, if_true]
      go_enter Try.func11, Try.ntmps11
      go_wp2_with (first
        | (go_at_call 16; refine (i _ _ (by first | exact Or.inl rfl | exact Or.inr rfl)).mono ?_; rintro e w' ⟨rfl, rfl⟩)
        | (go_at_call 17; refine (j _ _ (by first | exact Or.inl rfl | exact Or.inr rfl)).mono ?_; rintro e w' ⟨rfl, rfl⟩))
      go_ret
      exact ⟨rfl, rfl⟩
    · simp only [if_true]
      go_enter Try.func11, Try.ntmps11
      go_wp2_with (first
        | (go_at_call 16; refine (i _ _ (by first | exact Or.inl rfl | exact Or.inr rfl)).mono ?_; rintro e w' ⟨rfl, rfl⟩)
        | (go_at_call 17; refine (j _ _ (by first | exact Or.inl rfl | exact Or.inr rfl)).mono ?_; rintro e w' ⟨rfl, rfl⟩))
      go_ret
      exact ⟨rfl, rfl⟩
theorem ord_sign (a b : Nat) (h1 : isNan a = false) (h2 : isNan b = false) (h : kx a = kx b) :
    ordV a b = if neg a == neg b then 0 else if neg a then -1 else 1 := by
  unfold kx at h
  unfold ordV rank neg
  rw [h1, h2]
  simp only [Bool.false_eq_true, if_false]
  by_cases x : a < 9223372036854775808
  · have dx : decide (9223372036854775808 ≤ a) = false := by simp; exact x
    rw [if_pos x] at h
    by_cases y : b < 9223372036854775808
    · have dy : decide (9223372036854775808 ≤ b) = false := by simp; exact y
      rw [if_pos y] at h
      simp only [dx, dy, if_pos x, if_pos y, beq_self_eq_true, if_true]
      rw [if_neg (by omega), if_neg (by omega)]
    · have dy : decide (9223372036854775808 ≤ b) = true := by simp; omega
      rw [if_neg y] at h
      simp only [dx, dy, if_pos x, if_neg y]
      rw [if_neg (by omega), if_pos (by omega)]
      rfl
  · have dx : decide (9223372036854775808 ≤ a) = true := by simp; omega
    rw [if_neg x] at h
    by_cases y : b < 9223372036854775808
    · have dy : decide (9223372036854775808 ≤ b) = false := by simp; exact y
      rw [if_pos y] at h
      simp only [dx, dy, if_neg x, if_pos y]
      rw [if_pos (by omega)]
      rfl
    · have dy : decide (9223372036854775808 ≤ b) = true := by simp; omega
      rw [if_neg y] at h
      simp only [dx, dy, if_neg x, if_neg y, beq_self_eq_true, if_true]
      rw [if_neg (by omega), if_neg (by omega)]
theorem order_same (a b : Nat) (ha : a < 18446744073709551616) (hb : b < 18446744073709551616) (w : World) :
    Calls Try.prog 11 #[.int .u64 a, .int .u64 b] w fun e w' => e = .returned (.int .i64 (ordV a b)) ∧ w' = w := by
  refine order_core a b isNan neg _ _ (fun x w h => isNaN_any x (by omega) w) (fun x w h => sign_any x (by omega) w) rfl rfl _ ?_ w
  cases h1 : isNan a
  · cases h2 : isNan b
    · simp only [Bool.false_eq_true, if_false]
      by_cases hk : kx a = kx b
      · have o := order_kx a b ha hb h1 h2
        have e : FloatKind.f64.format.order a b = some (compare (kx a) (kx b)) := o
        rw [ord_sign a b h1 h2 hk, e, hk]
        simp
      · rcases ord_num a b ha hb h1 h2 with ⟨x, y, z⟩ | ⟨x, y, z⟩ | ⟨x, y, z⟩
        · rw [x, y, z]; rfl
        · rw [x, y, z]; rfl
        · have o := order_kx a b ha hb h1 h2
          have e : FloatKind.f64.format.order a b = some (compare (kx a) (kx b)) := o
          rw [e] at x y
          rcases Int.lt_trichotomy (kx a) (kx b) with q | q | q
          · rw [Int.compare_eq_lt.2 q] at x; exact absurd x (by decide)
          · exact absurd q hk
          · rw [Int.compare_eq_gt.2 q] at y; exact absurd y (by decide)
    · simp only [Bool.false_eq_true, if_false, if_true]
      unfold ordV
      rw [rank_nan b h2, if_pos (rank_num a h1 ha)]
  · cases h2 : isNan b
    · simp only [Bool.false_eq_true, if_false, if_true]
      unfold ordV
      have := rank_num b h2 hb
      rw [rank_nan a h1, if_neg (by omega), if_pos this]
    · simp only [if_true]
      unfold ordV
      rw [rank_nan a h1, rank_nan b h2]
      simp
theorem order_any (a b : Nat) (w : World) (ha : a < 18446744073709551616) (hb : b < 18446744073709551616) :
    Calls Try.prog 11 #[.int .u64 a, .int .u64 b] w fun e w' => e = .returned (.int .i64 (ordV a b)) ∧ ∃ k, w' = w.drewN k :=
  (order_same a b ha hb w).mono fun _ _ ⟨he, hw⟩ => ⟨he, 0, hw⟩

/-! ### The statements' awake -/
theorem awake_core
    (c1 : ∀ w : World, Calls Try.prog 12 #[.int .u64 1, .int .u64 2] w fun e w' => e = .returned (.int .u64 4602678819172646912) ∧ ∃ k, w' = w.drewN k)
    (c2 : ∀ w : World, Calls Try.prog 8 #[.int .u64 10, .int .u64 4602678819172646912] w fun e w' => e = .returned (.int .u64 5) ∧ ∃ k, w' = w.drewN k)
    (c3 : ∀ w : World, Calls Try.prog 12 #[.int .u64 0, .int .u64 0] w fun e w' => e = .returned (.int .u64 9221120237041090561) ∧ ∃ k, w' = w.drewN k) (w : World) :
    Calls Try.prog 10 #[] w fun e w' => e = .returned (.bool true) ∧ ∃ k, w' = w.drewN k := by
  go_enter Try.func10, Try.ntmps10
  go_wp2_with fail
  go_at_call 12
  refine (c1 _).mono ?_
  rintro e w' ⟨rfl, k, rfl⟩
  go_wp2_with fail
  go_at_call 8
  refine (c2 _).mono ?_
  rintro e w' ⟨rfl, k, rfl⟩
  go_wp2_with fail
  go_at_call 12
  refine (c3 _).mono ?_
  rintro e w' ⟨rfl, k, rfl⟩
  go_wp2_with fail
  go_ret
  exact ⟨rfl, _, rfl⟩
theorem half_of : ofV 1 2 = 4602678819172646912 := by decide +kernel
theorem half_times : timesV 10 4602678819172646912 = 5 := by decide +kernel
theorem nought_of : ofV 0 0 = 9221120237041090561 := by decide +kernel
theorem awake_any (w : World) : Calls Try.prog 10 #[] w fun e w' => e = .returned (.bool true) ∧ ∃ k, w' = w.drewN k := by
  have c1 := fun w => of_any 1 2 w (by decide) (by decide)
  have c2 := fun w => times_any 10 4602678819172646912 w
  have c3 := fun w => of_any 0 0 w (by decide) (by decide)
  rw [half_of] at c1
  rw [half_times] at c2
  rw [nought_of] at c3
  exact awake_core c1 c2 c3 w
theorem and63 (x : Nat) (hx : x < 18446744073709551616) : bits .and .u64 (x : Int) 9223372036854775807 = ((x % 9223372036854775808 : Nat) : Int) := by
  rw [show (9223372036854775807 : Int) = ((9223372036854775807 : Nat) : Int) from rfl, u64_and_nat x _ hx (by decide)]
  congr 1
  exact Nat.and_two_pow_sub_one_eq_mod x 63
theorem nan_any (x : Nat) (w : World) (hx : x < 18446744073709551616) : Calls Try.prog 9 #[.int .u64 x] w fun e w' => e = .returned (.bool (isNan x)) ∧ ∃ k, w' = w.drewN k := by
  have e : decide (9218868437227405312 < bits .and .u64 (x : Int) 9223372036854775807) = isNan x := by
    rw [and63 x hx]
    unfold isNan
    rw [decide_eq_decide]
    omega
  rw [← e]
  clear e hx
  go_enter Try.func9, Try.ntmps9
  go_wp2
  go_ret
  exact ⟨rfl, 0, rfl⟩

end Go.Proofs.Ytkogomgnfeigbab
