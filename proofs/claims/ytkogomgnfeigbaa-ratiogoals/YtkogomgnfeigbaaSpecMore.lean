/-
  What the document asks of ratio (chapter 2), and what follows: distances, goals, the order, mixtures; no Go in sight.
-/
import Derived.Test.YtkogomgnfeigbaaSpec
namespace Go.Proofs.Dbl
open Ieee

/-! ### Paces: a quotient by at least a page -/
theorem V_F8192 (J : Nat) (hJ : J = 1074) : V (F 8192) = 8192 * 2 ^ J := by subst hJ; exact V_F 8192 (by decide)
theorem top1061 (T : Nat) (hT : T = 1061) : N 0 (2 ^ 53 * 2 ^ T) ≤ 4845873199050653696 := by subst hT; decide +kernel
theorem top1074 (T : Nat) (hT : T = 1074) : N 0 (2 ^ 53 * 2 ^ T) ≤ 4845873199050653696 := by subst hT; decide +kernel

theorem dist (pages D : Nat) (hp : pages ≤ 1099511627776) (hD : 8192 ≤ D) (hD' : D < 18446744073709551616) :
    ofV pages D ≤ ofV pages 8192 ∧ ofV pages 8192 ≤ 9218868437227405312 ∧ timesV 8192 (ofV pages D) ≤ pages := by
  obtain ⟨J, hJ⟩ : ∃ J, J = 1074 := ⟨_, rfl⟩
  obtain ⟨T, hT⟩ : ∃ T, T = 1061 := ⟨_, rfl⟩
  have fD := F_lt D hD'
  have fD0 := F_ne D (by omega)
  have f8 := F_lt 8192 (by decide)
  have f80 := F_ne 8192 (by decide)
  by_cases h0 : pages = 0
  · subst h0
    have e1 := div_zero_num (F D) (by omega) fD0
    have e2 := div_zero_num (F 8192) (by omega) f80
    rw [← F_zero] at e1 e2
    have o1 : ofV 0 D = 0 := by unfold ofV; rw [e1, F_zero]; rfl
    have o2 : ofV 0 8192 = 0 := by unfold ofV; rw [e2, F_zero]; rfl
    have t0 : timesV 8192 0 = 0 := by
      rw [times_fin 8192 0 (by decide) (by decide)]
      have : mulR (F 8192) 0 = 0 := by unfold mulR; rw [if_pos (Or.inr rfl)]
      rw [this, cut_pos 0 J hJ (by decide), if_pos (by decide)]
    rw [o1, o2, t0]; omega
  · have fp := F_lt pages (by omega)
    have fp0 := F_ne pages h0
    have vp : V (F pages) = pages * 2 ^ J := by rw [hJ]; exact V_F pages (by omega)
    have v8 := V_F8192 J hJ
    have vD : 8192 * 2 ^ J ≤ V (F D) := by rw [← v8]; exact V_le _ _ (F_mono _ _ hD)
    have lp : (V (F pages)).log2 = pages.log2 + J := by rw [vp]; exact log2_mul_pow pages J h0
    have l8 : (V (F 8192)).log2 = 13 + J := by rw [v8]; exact log2_mul_pow 8192 J (by decide)
    have lD : 13 + J ≤ (V (F D)).log2 := by rw [← l8]; exact log2_le _ _ (V_pos _ f80) (V_le _ _ (F_mono _ _ hD))
    have l2 := log2_lt_of pages 41 h0 (by clear vp v8 vD; omega)
    have g1 : (V (F pages)).log2 + 1020 ≤ T + (V (F D)).log2 := by clear vp v8 vD; omega
    have g2 : (V (F pages)).log2 + 1020 ≤ T + (V (F 8192)).log2 := by clear vp v8 vD; omega
    have eT : 2 ^ J = 8192 * 2 ^ T := by
      rw [show J = 13 + T by clear vp v8 vD; omega, Nat.pow_add]
    have tT := top1061 T hT
    have tJ := top1074 J hJ
    have nJ : ∀ X, N 1074 X = N J X := fun X => by rw [hJ]
    obtain ⟨q, e, qi, up, _⟩ := div_sides (F pages) (F D) (by clear vp v8 vD eT; omega) fp0 (by clear vp v8 vD eT; omega) fD0 J hJ
    obtain ⟨o, e', oi, up', lo'⟩ := div_sides (F pages) (F 8192) (by clear vp v8 vD eT; omega) fp0 (by clear vp v8 vD eT; omega) f80 J hJ
    have q1 := up pages T h0 g1 (by
      rw [vp]
      calc pages * 2 ^ J * 2 ^ J = pages * 2 ^ T * (8192 * 2 ^ J) := by rw [Nat.mul_assoc pages (2 ^ T), Nat.mul_left_comm (2 ^ T), ← Nat.mul_assoc 8192, ← eT, Nat.mul_assoc]
        _ ≤ pages * 2 ^ T * V (F D) := Nat.mul_le_mul_left _ vD)
    have o1 := up' pages T h0 g2 (by
      rw [vp, v8]
      exact Nat.le_of_eq (by rw [Nat.mul_assoc pages (2 ^ T), Nat.mul_left_comm (2 ^ T), ← Nat.mul_assoc 8192, ← eT, Nat.mul_assoc]))
    have o2 := lo' pages T h0 g2 (by
      rw [vp, v8]
      exact Nat.le_of_eq (by rw [Nat.mul_assoc pages (2 ^ T), Nat.mul_left_comm (2 ^ T), ← Nat.mul_assoc 8192, ← eT, Nat.mul_assoc]))
    have p53 : pages ≤ 2 ^ 53 := by clear vp v8 vD eT; omega
    have sm := small_N T pages _ h0 p53 tT
    rw [Nat.min_eq_left (Nat.le_trans sm (by decide))] at o2
    have oq : ofV pages D = q := by unfold ofV; rw [e]; rfl
    have oo : ofV pages 8192 = o := by unfold ofV; rw [e']; rfl
    rw [oq, oo]
    have qo : q ≤ o := Nat.le_trans q1 o2
    refine ⟨qo, oi, ?_⟩
    have qs : q ≤ 4845873199050653696 := Nat.le_trans q1 sm
    have vq : V q ≤ pages * 2 ^ T := by rw [← exact_dyadic pages T h0 p53]; exact V_le _ _ q1
    rw [times_fin 8192 q (by decide) (Nat.lt_of_le_of_lt qs (by decide))]
    -- the product is at most the pages
    have hr : mulR (F 8192) q ≤ N 0 (pages * 2 ^ J) := by
      unfold mulR
      by_cases hq0 : q = 0
      · rw [if_pos (Or.inr hq0)]; exact Nat.zero_le _
      · rw [if_neg (fun h => h.elim f80 hq0), v8]
        have pne : 8192 * V q ≠ 0 := by
          intro hh
          rcases Nat.mul_eq_zero.1 hh with hh | hh
          · exact absurd hh (by decide)
          · exact V_pos q hq0 hh
        have sc := N_scale 0 (8192 * V q) J pne
        rw [Nat.zero_add] at sc
        rw [nJ, Nat.mul_right_comm 8192 (2 ^ J) (V q), sc]
        refine Nat.le_trans (Nat.min_le_left _ _) (N_mono 0 _ _ pne ?_)
        calc 8192 * V q ≤ 8192 * (pages * 2 ^ T) := Nat.mul_le_mul_left _ vq
          _ = pages * 2 ^ J := by rw [Nat.mul_left_comm, ← eT]
    have sj := small_N J pages _ h0 p53 tJ
    have vr : V (mulR (F 8192) q) ≤ pages * 2 ^ J := by rw [← exact_dyadic pages J h0 p53]; exact V_le _ _ hr
    rw [cut_pos _ J hJ (mulR_le _ _)]
    clear hJ hT vp v8 vD eT lp l8 lD g1 g2 tT tJ nJ up up' lo' q1 o1 o2 e e'
    by_cases c1 : mulR (F 8192) q < 4607182418800017408
    · rw [if_pos c1]; exact Nat.zero_le _
    · rw [if_neg c1, if_neg (by omega)]
      have := Nat.div_le_div_right (c := 2 ^ J) vr
      rw [Nat.mul_div_cancel _ (Nat.two_pow_pos J)] at this
      exact this

/-! ### Goals -/
def goalV (live percent : Nat) : Nat :=
  if 18446744073709551615 - live < timesV live (ofV percent 100) then 18446744073709551615
  else if live + timesV live (ofV percent 100) < 4194304 then 4194304 else live + timesV live (ofV percent 100)

theorem of_word (a b : Nat) (ha : a < 18446744073709551616) (hb : b < 18446744073709551616) : ofV a b < 18446744073709551616 := by
  rcases of_form a b ha hb with ⟨_, _, _, h⟩ | ⟨_, q, hq, _, h⟩
  · rw [h]; decide
  · rw [h]; omega

theorem goal_mono (a b percent : Nat) (h : a ≤ b) (hb : b < 18446744073709551616) (hp : percent < 18446744073709551616) :
    goalV a percent ≤ goalV b percent ∧ 4194304 ≤ goalV a percent ∧ a ≤ goalV a percent ∧ goalV a percent ≤ 18446744073709551615 := by
  have ho := of_word percent 100 hp (by decide)
  have m := times_mono a b (ofV percent 100) h hb ho
  have la := times_le a (ofV percent 100) (by omega) ho
  unfold goalV
  generalize timesV a (ofV percent 100) = x at *
  generalize timesV b (ofV percent 100) = y at *
  refine ⟨?_, ?_, ?_, ?_⟩
  · split <;> split <;> (try split) <;> (try split) <;> omega
  · split <;> (try split) <;> omega
  · split <;> (try split) <;> omega
  · split <;> (try split) <;> omega

/-! ### The order -/
/-- Where a double that is no NaN stands, by value. -/
def kx (w : Nat) : Int := if w < 9223372036854775808 then (w : Int) else 9223372036854775808 - (w : Int)
def isNan (w : Nat) : Bool := decide (9218868437227405312 < w % 9223372036854775808)
/-- Where a double stands: -0 ahead of 0, all NaNs behind. -/
def rank (w : Nat) : Int := if isNan w then 9223372036854775808 else if w < 9223372036854775808 then (w : Int) else 9223372036854775807 - (w : Int)

theorem order_nan (a b : Nat) (ha : a < 18446744073709551616) (hb : b < 18446744073709551616) (h : isNan a = true ∨ isNan b = true) : double.order a b = none := by
  obtain ⟨s, x, hx, rfl⟩ := word_split a ha
  obtain ⟨t, y, hy, rfl⟩ := word_split b hb
  have m : ∀ (s : Bool) (x : Nat), x < 9223372036854775808 → double.word s x % 9223372036854775808 = x := by
    intro s x hx
    unfold Format.word
    rw [d_sw]
    cases s
    · simp only [Bool.false_eq_true, if_false]; omega
    · simp only [if_true]; omega
  unfold isNan at h
  rw [m s x hx, m t y hy] at h
  unfold Format.order
  rcases h with h | h
  · rw [read_nan s x (by simpa using h) hx]; rfl
  · rw [read_nan t y (by simpa using h) hy]
    cases double.read (double.word s x) <;> rfl

theorem order_kx (a b : Nat) (ha : a < 18446744073709551616) (hb : b < 18446744073709551616) (h1 : isNan a = false) (h2 : isNan b = false) : double.order a b = some (compare (kx a) (kx b)) := by
  obtain ⟨s, x, hx, rfl⟩ := word_split a ha
  obtain ⟨t, y, hy, rfl⟩ := word_split b hb
  have m : ∀ (s : Bool) (x : Nat), x < 9223372036854775808 → double.word s x % 9223372036854775808 = x ∧ kx (double.word s x) = key s x := by
    intro s x hx
    unfold Format.word kx key
    rw [d_sw]
    cases s
    · simp only [Bool.false_eq_true, if_false]
      rw [if_pos hx]; exact ⟨by omega, rfl⟩
    · simp only [if_true]
      rw [if_neg (by omega)]; exact ⟨by omega, by omega⟩
  unfold isNan at h1 h2
  rw [(m s x hx).1] at h1
  rw [(m t y hy).1] at h2
  rw [(m s x hx).2, (m t y hy).2]
  exact order_key s t x y (by simp at h1; omega) (by simp at h2; omega)

/-! ### Mixtures -/
def mixV (a b w : Nat) : Nat := ((double.sub 4607182418800017408 w).bind fun rest => (double.mul a rest).bind fun x => (double.mul b w).bind fun y => double.add x y).getD canon

theorem write_num (neg : Bool) (m : Nat) (p : Int) : ∃ r, r ≤ 9218868437227405312 ∧ double.write (.number neg m p) = double.word neg r := by
  unfold Format.write Format.nearest
  simp only
  split
  · exact ⟨0, by omega, rfl⟩
  · rw [d_inf]; exact ⟨_, Nat.min_le_right _ _, rfl⟩

theorem add_word (x y v : Nat) (h : double.add x y = some v) : ∃ s r, r ≤ 9218868437227405312 ∧ v = double.word s r := by
  unfold Format.add at h
  cases hx : double.read x with
  | nan s t => rw [hx] at h; simp [Datum.sum] at h
  | infinity s =>
    rw [hx] at h
    cases hy : double.read y with
    | nan s t => rw [hy] at h; simp [Datum.sum] at h
    | infinity t =>
      rw [hy] at h
      simp only [Datum.sum] at h
      split at h
      · simp only [Option.map, Option.some.injEq] at h
        exact ⟨s, 9218868437227405312, Nat.le_refl _, h.symm⟩
      · simp at h
    | number t n j =>
      rw [hy] at h
      simp only [Datum.sum, Option.map, Option.some.injEq] at h
      exact ⟨s, 9218868437227405312, Nat.le_refl _, h.symm⟩
  | number s m i =>
    rw [hx] at h
    cases hy : double.read y with
    | nan s t => rw [hy] at h; simp [Datum.sum] at h
    | infinity t =>
      rw [hy] at h
      simp only [Datum.sum, Option.map, Option.some.injEq] at h
      exact ⟨t, 9218868437227405312, Nat.le_refl _, h.symm⟩
    | number t n j =>
      rw [hy] at h
      simp only [Datum.sum, Option.map, Option.some.injEq] at h
      obtain ⟨r, hr, e⟩ := write_num _ _ _
      exact ⟨_, r, hr, h.symm.trans e⟩

theorem mul_zero_right (s t : Bool) (x : Nat) (hx : x < 9218868437227405312) : double.mul (double.word s x) (double.word t 0) = some (double.word (s ^^ t) 0) := by
  rw [mul_word s t x 0 hx (by decide)]
  have : mulR x 0 = 0 := by unfold mulR; rw [if_pos (Or.inr rfl)]
  rw [this]
theorem mul_one_right (s : Bool) (x : Nat) (hx : x < 9218868437227405312) : double.mul (double.word s x) 4607182418800017408 = some (double.word s x) := by
  have := mul_word s false x 4607182418800017408 hx (by decide)
  rw [mulR_one x hx, Bool.xor_false, word_false] at this
  exact this

/-- Nothing of b. -/
theorem mix_zero (s t : Bool) (x y : Nat) (hx : x < 9218868437227405312) (hy : y < 9218868437227405312) : ∃ u, mixV (double.word s x) (double.word t y) 0 = double.word u x := by
  unfold mixV
  have e1 : double.sub 4607182418800017408 0 = some 4607182418800017408 := by decide +kernel
  have e2 := mul_one_right s x hx
  have e3 := mul_zero_right t false y hy
  rw [word_false] at e3
  rw [e1]
  simp only [Option.bind]
  rw [e2]
  simp only
  rw [e3]
  simp only
  by_cases h0 : x = 0
  · subst h0
    have : ∀ s u : Bool, double.add (double.word s 0) (double.word u 0) = some (double.word (s && u) 0) := by decide +kernel
    rw [this]
    exact ⟨_, rfl⟩
  · rw [(add_zero s (t ^^ false) x hx h0).1]
    exact ⟨s, rfl⟩
/-- All of b. -/
theorem mix_one (s t : Bool) (x y : Nat) (hx : x < 9218868437227405312) (hy : y < 9218868437227405312) : ∃ u, mixV (double.word s x) (double.word t y) 4607182418800017408 = double.word u y := by
  unfold mixV
  have e1 : double.sub 4607182418800017408 4607182418800017408 = some 0 := by decide +kernel
  have e2 := mul_zero_right s false x hx
  have e3 := mul_one_right t y hy
  rw [word_false] at e2
  rw [e1]
  simp only [Option.bind]
  rw [e2]
  simp only
  rw [e3]
  simp only
  by_cases h0 : y = 0
  · subst h0
    have : ∀ s u : Bool, double.add (double.word s 0) (double.word u 0) = some (double.word (s && u) 0) := by decide +kernel
    rw [this]
    exact ⟨_, rfl⟩
  · rw [(add_zero t (s ^^ false) y hy h0).2]
    exact ⟨t, rfl⟩
theorem mix_nan (a b : Nat) : mixV a b canon = canon := by
  have e : double.sub 4607182418800017408 canon = none := by decide +kernel
  unfold mixV
  rw [e]; rfl
theorem mix_form (a b w : Nat) : mixV a b w = canon ∨ ∃ s r, r ≤ 9218868437227405312 ∧ mixV a b w = double.word s r := by
  unfold mixV
  cases h : ((double.sub 4607182418800017408 w).bind fun rest => (double.mul a rest).bind fun x => (double.mul b w).bind fun y => double.add x y) with
  | none => exact Or.inl rfl
  | some v =>
    right
    cases h1 : double.sub 4607182418800017408 w with
    | none => rw [h1] at h; simp at h
    | some rest =>
      rw [h1] at h; simp only [Option.bind] at h
      cases h2 : double.mul a rest with
      | none => rw [h2] at h; simp at h
      | some x =>
        rw [h2] at h; simp only at h
        cases h3 : double.mul b w with
        | none => rw [h3] at h; simp at h
        | some y =>
          rw [h3] at h; simp only at h
          obtain ⟨s, r, hr, e⟩ := add_word x y v h
          exact ⟨s, r, hr, by rw [e]; rfl⟩

end Go.Proofs.Dbl
