/- What the translated operations on doubles run to, and what package math's two entries answer, for every double and every world. -/
import Derived.Test.YtkogomgnfeigbabRows
import Derived.WalkKit
import Derived.ProofKit
import Derived.OpenShut
import Derived.WalkLawsBesides
import Derived.Laws.FloatArith
import Derived.Laws.Externs
import Derived.Deep.Draws
import Derived.Test.YtkogomgnfeigbabSpecMore
namespace Go.Proofs.Ytkogomgnfeigbab
open Go.ChangeShapes Go.WideShapes Go.ChangeAt Go.RowKit Go.Proofs.Dbl

theorem bits_run (x : Nat) (w : World) : (callFunc 20 #[.float .f64 x]).run Try.prog w = .ok (.value (.int .u64 x)) w :=
  run_callFunc_extern Try.func20 (by kernel_rfl) (by kernel_rfl) (by kernel_rfl) (e := Extern.MathFloatBits.float64bits) (by kernel_rfl) _ w
theorem from_run (a : Nat) (w : World) : (callFunc 15 #[.int .u64 a]).run Try.prog w = .ok (.value (.float .f64 a)) w :=
  run_callFunc_extern Try.func15 (by kernel_rfl) (by kernel_rfl) (by kernel_rfl) (e := Extern.MathFloatBits.float64frombits) (by kernel_rfl) _ w
/-- The NaN that the tape names. -/
def nanW (w : World) (x y : Nat) : Nat := (Question.nanBits .f64 x y).cut (w.tape w.drawn (Question.nanBits .f64 x y))
theorem nanW_nan (w : World) (x y : Nat) : isNan (nanW w x y) = true ∧ nanW w x y < 18446744073709551616 := by
  unfold nanW isNan
  generalize w.tape w.drawn (Question.nanBits .f64 x y) = t
  have e : (Question.nanBits .f64 x y).cut t = (t % 2) * 9223372036854775808 + 9218868437227405312 + 1 + (t / 2) % 4503599627370495 := rfl
  rw [e]
  have hr := Nat.mod_lt (t / 2) (show 0 < 4503599627370495 by decide)
  generalize t / 2 % 4503599627370495 = r at *
  rcases Nat.mod_two_eq_zero_or_one t with h | h <;> rw [h] <;> exact ⟨decide_eq_true (by omega), by omega⟩
theorem arith_some (op : BinOp) (t : TypeId) (x y r : Nat) (h : floatBits op .f64 x y = some r) (w : World) : (binOp op t (.float .f64 x) (.float .f64 y)).run Try.prog w = .ok (.float .f64 r) w := run_float_arith w op t .f64 x y r h
theorem quo_none (t : TypeId) (x y : Nat) (h : Ieee.double.div x y = none) (w : World) : (binOp .quo t (.float .f64 x) (.float .f64 y)).run Try.prog w = .ok (.float .f64 (nanW w x y)) w.drew := by
  have h' : FloatKind.f64.format.div x y = none := h
  simp [binOp, Op.floatArith, h', nanW, Question.forced]
theorem mul_none (t : TypeId) (x y : Nat) (h : Ieee.double.mul x y = none) (w : World) : (binOp .mul t (.float .f64 x) (.float .f64 y)).run Try.prog w = .ok (.float .f64 (nanW w x y)) w.drew := by
  have h' : FloatKind.f64.format.mul x y = none := h
  simp [binOp, Op.floatArith, h', nanW, Question.forced]
theorem add_none (t : TypeId) (x y : Nat) (h : Ieee.double.add x y = none) (w : World) : (binOp .add t (.float .f64 x) (.float .f64 y)).run Try.prog w = .ok (.float .f64 (nanW w x y)) w.drew := by
  have h' : FloatKind.f64.format.add x y = none := h
  simp [binOp, Op.floatArith, h', nanW, Question.forced]
theorem sub_none (t : TypeId) (x y : Nat) (h : Ieee.double.sub x y = none) (w : World) : (binOp .sub t (.float .f64 x) (.float .f64 y)).run Try.prog w = .ok (.float .f64 (nanW w x y)) w.drew := by
  have h' : FloatKind.f64.format.sub x y = none := h
  simp [binOp, Op.floatArith, h', nanW, Question.forced]
theorem ofInt_F (a : Nat) : floatOfInt .f64 (a : Int) = F a := by
  unfold floatOfInt F
  have h : decide ((a : Int) < 0) = false := by simp
  simp only [FloatKind.nearest, FloatKind.encode, h, Int.natAbs_natCast]
  rfl
theorem self_eq (x : Nat) (hx : x < 18446744073709551616) (h : isNan x = false) : (FloatKind.f64.format.order x x != some Ordering.eq) = false := by
  have := order_kx x x hx hx h h
  have e : FloatKind.f64.format.order x x = Ieee.double.order x x := rfl
  rw [e, this]; simp
theorem self_ne (x : Nat) (hx : x < 18446744073709551616) (h : isNan x = true) : (FloatKind.f64.format.order x x != some Ordering.eq) = true := by
  have := order_nan x x hx hx (Or.inl h)
  have e : FloatKind.f64.format.order x x = Ieee.double.order x x := rfl
  rw [e, this]; rfl
theorem mul_form (x y v : Nat) (h : Ieee.double.mul x y = some v) : ∃ s r, r ≤ 9218868437227405312 ∧ v = Ieee.double.word s r := by
  unfold Ieee.Format.mul at h
  cases hx : Ieee.double.read x with
  | nan s t => rw [hx] at h; simp [Ieee.Datum.product] at h
  | infinity s =>
    rw [hx] at h
    cases hy : Ieee.double.read y with
    | nan s t => rw [hy] at h; simp [Ieee.Datum.product] at h
    | infinity t =>
      rw [hy] at h
      simp only [Ieee.Datum.product, Option.map, Option.some.injEq] at h
      exact ⟨_, 9218868437227405312, Nat.le_refl _, h.symm⟩
    | number t n j =>
      rw [hy] at h
      simp only [Ieee.Datum.product] at h
      split at h
      · simp at h
      · simp only [Option.map, Option.some.injEq] at h
        exact ⟨_, 9218868437227405312, Nat.le_refl _, h.symm⟩
  | number s m i =>
    rw [hx] at h
    cases hy : Ieee.double.read y with
    | nan s t => rw [hy] at h; simp [Ieee.Datum.product] at h
    | infinity t =>
      rw [hy] at h
      simp only [Ieee.Datum.product] at h
      split at h
      · simp at h
      · simp only [Option.map, Option.some.injEq] at h
        exact ⟨_, 9218868437227405312, Nat.le_refl _, h.symm⟩
    | number t n j =>
      rw [hy] at h
      simp only [Ieee.Datum.product, Option.map, Option.some.injEq] at h
      obtain ⟨r, hr, e⟩ := write_num _ _ _
      exact ⟨_, r, hr, h.symm.trans e⟩
theorem ge_nan (x y : Nat) (hx : x < 18446744073709551616) (hy : y < 18446744073709551616) (h : isNan x = true) : (FloatKind.f64.format.order x y == some Ordering.gt || FloatKind.f64.format.order x y == some Ordering.eq) = false := by
  have := order_nan x y hx hy (Or.inl h)
  have e : FloatKind.f64.format.order x y = Ieee.double.order x y := rfl
  rw [e, this]; rfl
theorem cut_conv (x : Nat) (hx : ∃ s q, q ≤ 9218868437227405312 ∧ x = Ieee.double.word s q) (h1 : ge x 4607182418800017408 = true) (h2 : ge x 4895412794951729152 = false) :
    floatToIntVal .f64 x .u64 = some ((((Ieee.double.read x).toInt .zero).getD 0).toNat : Int) := by
  obtain ⟨s, q, hq, rfl⟩ := hx
  cases s
  · rw [word_false] at *
    rw [ge_pos q _ hq (by decide)] at h1 h2
    have hlt : q < 4895412794951729152 := by simpa using h2
    obtain ⟨J, hJ⟩ : ∃ J, J = 1074 := ⟨_, rfl⟩
    have t := trunc_eq q (by omega)
    have l := cut_lt q J hJ hlt
    rw [← hJ] at t
    clear hJ
    have d : FloatKind.f64.decode q = Ieee.double.read q := rfl
    unfold floatToIntVal
    rw [d, t]
    generalize V q / 2 ^ J = z at *
    have b1 : IntKind.u64.min = 0 := by decide
    have b2 : IntKind.u64.max = 18446744073709551615 := by decide
    simp only [Option.getD_some, Int.toNat_natCast]
    rw [b1, b2, if_pos (by omega)]
  · rw [ge_neg q _ hq (by decide) (by decide)] at h1
    exact absurd h1 (by decide)
theorem goalV_int (live percent : Nat) (hl : live < 18446744073709551616) : (if 18446744073709551615 - (live : Int) < (timesV live (ofV percent 100) : Int) then (18446744073709551615 : Int) else if (live : Int) + (timesV live (ofV percent 100) : Int) < 4194304 then (4194304 : Int) else (live : Int) + (timesV live (ofV percent 100) : Int)) = (goalV live percent : Int) := by
  unfold goalV
  generalize timesV live (ofV percent 100) = t
  by_cases h1 : 18446744073709551615 - live < t
  · rw [if_pos h1, if_pos (by omega)]; rfl
  · rw [if_neg h1, if_neg (by omega)]
    by_cases h2 : live + t < 4194304
    · rw [if_pos h2, if_pos (by omega)]; rfl
    · rw [if_neg h2, if_neg (by omega)]; exact (Int.natCast_add _ _).symm
def paceV (live goal pages : Nat) : Nat := ofV pages (if live < goal ∧ 8192 < goal - live then goal - live else 8192)
/-- The word that the operation answers, or the NaN that the tape names. -/
def resW (op : BinOp) (w : World) (x y : Nat) : Nat := (floatBits op .f64 x y).getD (nanW w x y)
def dN (op : BinOp) (x y : Nat) : Nat := if (floatBits op .f64 x y).isSome then 0 else 1
theorem arith_run (op : BinOp) (ho : op = .add ∨ op = .sub ∨ op = .mul ∨ op = .quo) (t : TypeId) (x y : Nat) (w : World) : (binOp op t (.float .f64 x) (.float .f64 y)).run Try.prog w = .ok (.float .f64 (resW op w x y)) (w.drewN (dN op x y)) := by
  unfold resW dN
  cases h : floatBits op .f64 x y with
  | some r => exact run_float_arith w op t .f64 x y r h
  | none =>
    rcases ho with rfl | rfl | rfl | rfl
    · exact add_none t x y h w
    · exact sub_none t x y h w
    · exact mul_none t x y h w
    · exact quo_none t x y h w
theorem res_lt (op : BinOp) (w : World) (x y : Nat) : resW op w x y < 18446744073709551616 := by
  unfold resW
  cases h : floatBits op .f64 x y with
  | some r =>
    have := floatBits_wf h
    simpa [Lit.wf] using this
  | none => exact (nanW_nan w x y).2
theorem read_isNan (x : Nat) (hx : x < 18446744073709551616) (h : isNan x = true) : ∃ s t, Ieee.double.read x = .nan s t := by
  obtain ⟨t, y, hy, rfl⟩ := word_split x hx
  have m : Ieee.double.word t y % 9223372036854775808 = y := by
    unfold Ieee.Format.word
    rw [d_sw]
    cases t
    · simp only [Bool.false_eq_true, if_false]; omega
    · simp only [if_true]; omega
  unfold isNan at h
  rw [m] at h
  exact ⟨_, _, read_nan t y (by simpa using h) hy⟩
theorem mul_nan_l (x y : Nat) (hx : x < 18446744073709551616) (h : isNan x = true) : Ieee.double.mul x y = none := by
  obtain ⟨s, t, e⟩ := read_isNan x hx h
  unfold Ieee.Format.mul; rw [e]; cases Ieee.double.read y <;> rfl
theorem mul_nan_r (x y : Nat) (hy : y < 18446744073709551616) (h : isNan y = true) : Ieee.double.mul x y = none := by
  obtain ⟨s, t, e⟩ := read_isNan y hy h
  unfold Ieee.Format.mul; rw [e]; cases Ieee.double.read x <;> rfl
theorem add_nan_l (x y : Nat) (hx : x < 18446744073709551616) (h : isNan x = true) : Ieee.double.add x y = none := by
  obtain ⟨s, t, e⟩ := read_isNan x hx h
  unfold Ieee.Format.add; rw [e]; cases Ieee.double.read y <;> rfl
theorem add_nan_r (x y : Nat) (hy : y < 18446744073709551616) (h : isNan y = true) : Ieee.double.add x y = none := by
  obtain ⟨s, t, e⟩ := read_isNan y hy h
  unfold Ieee.Format.add; rw [e]; cases Ieee.double.read x <;> rfl
def patV (x : Nat) : Nat := if isNan x then 9221120237041090561 else x
theorem word_notNan (s : Bool) (r : Nat) (h : r ≤ 9218868437227405312) : isNan (Ieee.double.word s r) = false := by
  have m : Ieee.double.word s r % 9223372036854775808 = r := by
    unfold Ieee.Format.word
    rw [d_sw]
    cases s
    · simp only [Bool.false_eq_true, if_false]; omega
    · simp only [if_true]; omega
  unfold isNan
  rw [m]
  simp; omega
/-- The mixture, whatever NaNs the tape named on the way. -/
theorem mix_eq (a b c : Nat) (w0 w1 w2 w3 : World) :
    patV (resW .add w3 (resW .mul w1 a (resW .sub w0 4607182418800017408 c)) (resW .mul w2 b c)) = mixV a b c := by
  have canonNan : ∀ (op : BinOp) (w : World) (x y : Nat), floatBits op .f64 x y = none → isNan (resW op w x y) = true := by
    intro op w x y h; unfold resW; rw [h]; exact (nanW_nan w x y).1
  have l := res_lt
  have bad : ∀ x y w, Ieee.double.add x y = none → patV (resW .add w x y) = canon := by
    intro x y w h
    have := canonNan .add w x y h
    unfold patV; rw [this]; rfl
  unfold mixV
  cases h1 : Ieee.double.sub 4607182418800017408 c with
  | none =>
    have n1 := canonNan .sub w0 _ _ h1
    have n2 := canonNan .mul w1 a _ (mul_nan_r a _ (l .sub w0 _ _) n1)
    exact bad _ _ _ (add_nan_l _ _ (l .mul w1 _ _) n2)
  | some rest =>
    have e1 : resW .sub w0 4607182418800017408 c = rest := by unfold resW; rw [show floatBits .sub .f64 4607182418800017408 c = some rest from h1]; rfl
    rw [e1]
    cases h2 : Ieee.double.mul a rest with
    | none =>
      have n2 := canonNan .mul w1 a rest h2
      simp only [Option.bind, h2]
      exact bad _ _ _ (add_nan_l _ _ (l .mul w1 _ _) n2)
    | some x =>
      have e2 : resW .mul w1 a rest = x := by unfold resW; rw [show floatBits .mul .f64 a rest = some x from h2]; rfl
      rw [e2]
      simp only [Option.bind, h2]
      cases h3 : Ieee.double.mul b c with
      | none =>
        have n3 := canonNan .mul w2 b c h3
        exact bad _ _ _ (add_nan_r _ _ (l .mul w2 _ _) n3)
      | some y =>
        have e3 : resW .mul w2 b c = y := by unfold resW; rw [show floatBits .mul .f64 b c = some y from h3]; rfl
        rw [e3]
        simp only
        cases h4 : Ieee.double.add x y with
        | none => exact bad _ _ _ h4
        | some v =>
          have e4 : resW .add w3 x y = v := by unfold resW; rw [show floatBits .add .f64 x y = some v from h4]; rfl
          obtain ⟨s, r, hr, ev⟩ := add_word x y v h4
          rw [e4]
          unfold patV
          rw [ev, word_notNan s r hr]
          rfl
theorem Grown.drewN {w w' : World} (h : Grown w w') (k : Nat) : Grown w (w'.drewN k) := h
def ordV (a b : Nat) : Int := if rank a < rank b then -1 else if rank b < rank a then 1 else 0
theorem eq_self (x : Nat) (hx : x < 18446744073709551616) (h : isNan x = false) : (FloatKind.f64.format.order x x == some Ordering.eq) = true := by
  have := order_kx x x hx hx h h
  have e : FloatKind.f64.format.order x x = Ieee.double.order x x := rfl
  rw [e, this]; simp
theorem ne_self (x : Nat) (hx : x < 18446744073709551616) (h : isNan x = true) : (FloatKind.f64.format.order x x == some Ordering.eq) = false := by
  have := order_nan x x hx hx (Or.inl h)
  have e : FloatKind.f64.format.order x x = Ieee.double.order x x := rfl
  rw [e, this]; rfl
/-- Two that are no NaNs: how they stand, and what the order says. -/
theorem ord_num (a b : Nat) (ha : a < 18446744073709551616) (hb : b < 18446744073709551616) (h1 : isNan a = false) (h2 : isNan b = false) :
    ((FloatKind.f64.format.order a b == some Ordering.lt) = true ∧ (FloatKind.f64.format.order a b == some Ordering.gt) = false ∧ ordV a b = -1) ∨
    ((FloatKind.f64.format.order a b == some Ordering.lt) = false ∧ (FloatKind.f64.format.order a b == some Ordering.gt) = true ∧ ordV a b = 1) ∨
    ((FloatKind.f64.format.order a b == some Ordering.lt) = false ∧ (FloatKind.f64.format.order a b == some Ordering.gt) = false ∧
      ((a = b ∧ ordV a b = 0) ∨ (b < a ∧ ordV a b = -1) ∨ (a < b ∧ ordV a b = 1))) := by
  have o := order_kx a b ha hb h1 h2
  have e : FloatKind.f64.format.order a b = Ieee.double.order a b := rfl
  rw [e, o]
  have n1 : ¬ 9218868437227405312 < a % 9223372036854775808 := by unfold isNan at h1; simpa using h1
  have n2 : ¬ 9218868437227405312 < b % 9223372036854775808 := by unfold isNan at h2; simpa using h2
  rcases Int.lt_trichotomy (kx a) (kx b) with h | h | h
  · left
    refine ⟨by rw [Int.compare_eq_lt.2 h]; rfl, by rw [Int.compare_eq_lt.2 h]; rfl, ?_⟩
    unfold kx at h
    unfold ordV rank
    rw [h1, h2]
    simp only [Bool.false_eq_true, if_false]
    split at h <;> split at h <;> simp only [*, if_true, if_false] <;> rw [if_pos (by omega)]
  · right; right
    refine ⟨by rw [h]; simp, by rw [h]; simp, ?_⟩
    unfold kx at h
    unfold ordV rank
    rw [h1, h2]
    simp only [Bool.false_eq_true, if_false]
    split at h <;> split at h <;> simp only [*, if_true, if_false] <;> omega
  · right; left
    refine ⟨by rw [Int.compare_eq_gt.2 h]; rfl, by rw [Int.compare_eq_gt.2 h]; rfl, ?_⟩
    unfold kx at h
    unfold ordV rank
    rw [h1, h2]
    simp only [Bool.false_eq_true, if_false]
    split at h <;> split at h <;> simp only [*, if_true, if_false] <;> first | (rw [if_neg (by omega)]; done) | (rw [if_neg (by omega), if_pos (by omega)])
theorem rank_nan (a : Nat) (h : isNan a = true) : rank a = 9223372036854775808 := by unfold rank; rw [h]; rfl
theorem rank_num (a : Nat) (h : isNan a = false) (ha : a < 18446744073709551616) : rank a < 9223372036854775808 := by
  unfold rank
  rw [h]
  simp only [Bool.false_eq_true, if_false]
  split <;> omega
theorem bne_self_is (x : Nat) (hx : x < 18446744073709551616) : (FloatKind.f64.format.order x x != some Ordering.eq) = isNan x ∧ (FloatKind.f64.format.order x x == some Ordering.eq) = !isNan x := by
  cases h : isNan x
  · exact ⟨self_eq x hx h, eq_self x hx h⟩
  · exact ⟨self_ne x hx h, ne_self x hx h⟩

end Go.Proofs.Ytkogomgnfeigbab
