/- The five laws of the second part of chapter 2, for every argument. -/
import Derived.Test.YtkogomgnfeigbabE
import Derived.Test.YtkogomgnfeigbabF
import Derived.Test.YtkogomgnfeigbabG
import Derived.Test.YtkogomgnfeigbabOwn
import Derived.Laws.BitsAllLaws
namespace Go.Proofs.Ytkogomgnfeigbab
open Go.ChangeShapes Go.WideShapes Go.ChangeAt Go.RowKit Go.Proofs.Dbl

/-- What the package's functions answer, and the statement's own two. -/
structure Face : Prop where
  times : ∀ (n r : Nat) (w : World), n < 18446744073709551616 → r < 18446744073709551616 → Calls Try.prog 8 #[.int .u64 n, .int .u64 r] w fun e w' => e = .returned (.int .u64 (timesV n r)) ∧ ∃ k, w' = w.drewN k
  nan : ∀ (x : Nat) (w : World), x < 18446744073709551616 → Calls Try.prog 9 #[.int .u64 x] w fun e w' => e = .returned (.bool (isNan x)) ∧ ∃ k, w' = w.drewN k
  awake : ∀ w : World, Calls Try.prog 10 #[] w fun e w' => e = .returned (.bool true) ∧ ∃ k, w' = w.drewN k
  order : ∀ (a b : Nat) (w : World), a < 18446744073709551616 → b < 18446744073709551616 → Calls Try.prog 11 #[.int .u64 a, .int .u64 b] w fun e w' => e = .returned (.int .i64 (ordV a b)) ∧ ∃ k, w' = w.drewN k
  of : ∀ (a b : Nat) (w : World), a < 18446744073709551616 → b < 18446744073709551616 → Calls Try.prog 12 #[.int .u64 a, .int .u64 b] w fun e w' => e = .returned (.int .u64 (ofV a b)) ∧ ∃ k, w' = w.drewN k
  pace : ∀ (l g p : Nat) (w : World), l < 18446744073709551616 → g < 18446744073709551616 → p < 18446744073709551616 → Calls Try.prog 13 #[.int .u64 l, .int .u64 g, .int .u64 p] w fun e w' => e = .returned (.int .u64 (paceV l g p)) ∧ ∃ k, w' = w.drewN k
  mix : ∀ (a b c : Nat) (w : World), a < 18446744073709551616 → b < 18446744073709551616 → c < 18446744073709551616 → Calls Try.prog 14 #[.int .u64 a, .int .u64 b, .int .u64 c] w fun e w' => e = .returned (.int .u64 (mixV a b c)) ∧ ∃ k, w' = w.drewN k

theorem beq_cast (a b : Nat) : ((a : Int) == (b : Int)) = (a == b) := by
  rw [Bool.eq_iff_iff]; simp only [beq_iff_eq]; omega
theorem beq_false (a : Nat) (b : Int) (h : (a : Int) ≠ b) : ((a : Int) == b) = false := by simpa using h

theorem isNan_small (x : Nat) (h : x ≤ 9218868437227405312) : isNan x = false := by unfold isNan; simp; omega

/-! ### Edges -/
theorem times_zero_left (r : Nat) (hr : r < 18446744073709551616) : timesV 0 r = 0 := by
  obtain ⟨t, y, hy, rfl⟩ := word_split r hr
  by_cases h1 : 9218868437227405312 < y
  · exact times_nan 0 t y h1 hy
  · cases t
    · by_cases h2 : y = 9218868437227405312
      · subst h2; rw [word_false, times_inf 0 (by decide), if_pos rfl]
      · rw [word_false, times_fin 0 y (by decide) (by omega)]
        have : mulR (Dbl.F 0) y = 0 := by unfold mulR; rw [if_pos (Or.inl F_zero)]
        rw [this]
        obtain ⟨J, hJ⟩ : ∃ J, J = 1074 := ⟨_, rfl⟩
        rw [cut_pos 0 J hJ (by decide), if_pos (by decide)]
    · exact times_neg 0 y (by decide) (by omega)
theorem times_zero_right (n : Nat) (hn : n < 18446744073709551616) : timesV n 0 = 0 := by
  rw [times_fin n 0 hn (by decide)]
  have : mulR (Dbl.F n) 0 = 0 := by unfold mulR; rw [if_pos (Or.inr rfl)]
  rw [this]
  obtain ⟨J, hJ⟩ : ∃ J, J = 1074 := ⟨_, rfl⟩
  rw [cut_pos 0 J hJ (by decide), if_pos (by decide)]
theorem times_isNan (n r : Nat) (hr : r < 18446744073709551616) (h : isNan r = true) : timesV n r = 0 := by
  obtain ⟨t, y, hy, rfl⟩ := word_split r hr
  have m : Ieee.double.word t y % 9223372036854775808 = y := by
    unfold Ieee.Format.word
    rw [d_sw]
    cases t
    · simp only [Bool.false_eq_true, if_false]; omega
    · simp only [if_true]; omega
  unfold isNan at h
  rw [m] at h
  exact times_nan n t y (by simpa using h) hy
theorem times_sign (n r : Nat) (hn : n < 18446744073709551616) (hr : r < 18446744073709551616) (h : 9223372036854775808 ≤ r) : timesV n r = 0 := by
  cases hN : isNan r
  · obtain ⟨y, hy⟩ : ∃ y, r = y + 9223372036854775808 := ⟨r - 9223372036854775808, by omega⟩
    have e : r = Ieee.double.word true y := by
      unfold Ieee.Format.word
      rw [d_sw]; simp only [if_true]; omega
    have hy2 : y ≤ 9218868437227405312 := by
      unfold isNan at hN
      simp at hN
      omega
    rw [e]; exact times_neg n y hn hy2
  · exact times_isNan n r hr hN

theorem edges_law (Fc : Face) (n r : Nat) (hn : n < 18446744073709551616) (hr : r < 18446744073709551616) (w : World) :
    Calls Try.prog 3 #[.int .u64 n, .int .u64 r] w fun e w' => e = .returned (.bool true) ∧ Grown w w' := by
  have c1 := fun w => Fc.times n r w hn hr
  have c2 := fun w => Fc.nan r w hr
  have cA := Fc.awake
  cases hN : isNan r
  · rw [hN] at c2
    by_cases h1 : 9223372036854775808 ≤ r
    · rw [times_sign n r hn hr h1] at c1
      exact edges2 n r (by omega) c1 c2 cA w
    · by_cases h2 : n = 0
      · subst h2
        rw [times_zero_left r hr] at c1
        exact edges3 r (by omega) c1 c2 cA w
      · have z : ((n : Int) == 0) = false := beq_false n 0 (by omega)
        by_cases h3 : r = 0
        · subst h3
          rw [times_zero_right n hn] at c1
          exact edges4 n z c1 c2 cA w
        · by_cases h4 : r = 9218868437227405312
          · subst h4
            rw [times_inf n hn, if_neg h2] at c1
            exact edges5 n z c1 c2 cA w
          · by_cases h5 : r = 4607182418800017408
            · subst h5
              by_cases h6 : n < 9007199254740992
              · rw [times_one n h6] at c1
                exact edges6 n z (by omega) c1 c2 cA w
              · exact edges7 n _ z (by omega) c1 c2 cA w
            · exact edges8 n r _ z (by omega) (beq_false r 0 (by omega)) (beq_false r _ (by omega)) (beq_false r _ (by omega)) c1 c2 cA w
  · rw [hN] at c2
    rw [times_isNan n r hr hN] at c1
    exact edges1 n r c1 c2 cA w

/-! ### Back -/
theorem back_law (Fc : Face) (a n : Nat) (ha : a < 18446744073709551616) (hn : n < 18446744073709551616) (w : World) :
    Calls Try.prog 5 #[.int .u64 a, .int .u64 n] w fun e w' => e = .returned (.bool true) ∧ Grown w w' := by
  by_cases h1 : n < 1
  · exact back1 a n (by omega) w
  · by_cases h2 : 67108864 < n
    · exact back2 a n (by omega) w
    · by_cases h3 : 67108864 < a
      · exact back3 a n (by omega) (by omega) (by omega) w
      · have c1 := fun w => Fc.of a n w ha hn
        have c3 := fun w => Fc.of (2 * a) (2 * n) w (by omega) (by omega)
        have cA := Fc.awake
        obtain ⟨J, hJ⟩ : ∃ J, J = 1074 := ⟨_, rfl⟩
        have vn : V (Dbl.F n) = n * 2 ^ J := by rw [hJ]; exact V_F n (by omega)
        have vn2 : V (Dbl.F (2 * n)) = 2 * V (Dbl.F n) := by
          rw [vn, show V (Dbl.F (2 * n)) = 2 * n * 2 ^ J by rw [hJ]; exact V_F (2 * n) (by omega), Nat.mul_assoc]
        have fn := F_lt n (by omega)
        have fn2 := F_lt (2 * n) (by omega)
        by_cases h0 : a = 0
        · subst h0
          have e1 := div_zero_num (Dbl.F n) (by clear vn vn2; omega) (F_ne n (by clear vn vn2; omega))
          have e2 := div_zero_num (Dbl.F (2 * n)) (by clear vn vn2; omega) (F_ne (2 * n) (by clear vn vn2; omega))
          have o1 : ofV 0 n = 0 := by unfold ofV; rw [F_zero, e1]; rfl
          have o2 : ofV (2 * 0) (2 * n) = 0 := by unfold ofV; rw [Nat.mul_zero, F_zero, e2]; rfl
          rw [o1] at c1
          rw [o2] at c3
          have c2 := fun w => Fc.times n 0 w hn (by decide)
          rw [times_zero_right n hn] at c2
          exact back4 0 n 0 (by omega) (by clear vn vn2; omega) c1 c2 c3 cA w
        · have va : V (Dbl.F a) = a * 2 ^ J := by rw [hJ]; exact V_F a (by clear vn vn2; omega)
          have va2 : V (Dbl.F (2 * a)) = 2 * V (Dbl.F a) := by
            rw [va, show V (Dbl.F (2 * a)) = 2 * a * 2 ^ J by rw [hJ]; exact V_F (2 * a) (by clear vn vn2 va; omega), Nat.mul_assoc]
          have fa := F_lt a (by clear vn vn2 va va2; omega)
          have fa2 := F_lt (2 * a) (by clear vn vn2 va va2; omega)
          obtain ⟨q, e, hq, hr⟩ := back a n J hJ (by clear vn vn2 va va2; omega) (by clear vn vn2 va va2; omega) (by clear vn vn2 va va2; omega) (by clear vn vn2 va va2; omega) va vn
          have e2 := div_twice (Dbl.F a) (Dbl.F n) (Dbl.F (2 * a)) (Dbl.F (2 * n)) (by clear vn vn2 va va2; omega) (F_ne a h0) (by clear vn vn2 va va2; omega) (F_ne n (by clear vn vn2 va va2; omega))
            (by clear vn vn2 va va2; omega) (F_ne _ (by clear vn vn2 va va2; omega)) (by clear vn vn2 va va2; omega) (F_ne _ (by clear vn vn2 va va2; omega)) va2 vn2
          have o1 : ofV a n = q := by unfold ofV; rw [e]; rfl
          have o2 : ofV (2 * a) (2 * n) = q := by unfold ofV; rw [e2, e]; rfl
          rw [o1] at c1
          rw [o2] at c3
          have c2 := fun w => Fc.times n q w hn (by clear vn vn2 va va2 hr; omega)
          obtain ⟨r1, r2⟩ := hr _ rfl
          have cut : timesV n q = V (mulR (Dbl.F n) q) / 2 ^ J := by
            rw [times_fin n q hn hq, cut_pos _ J hJ (Nat.le_of_lt r1)]
            have small : V (mulR (Dbl.F n) q) / 2 ^ J ≤ 67108864 := by
              clear hJ vn vn2 va va2
              generalize V (mulR (Dbl.F n) q) / 2 ^ J = z at *
              omega
            by_cases s1 : mulR (Dbl.F n) q < 4607182418800017408
            · rw [if_pos s1]
              have := V_lt _ _ s1
              rw [V_one' J hJ] at this
              exact (Nat.div_eq_of_lt this).symm
            · rw [if_neg s1]
              by_cases s2 : 4895412794951729152 ≤ mulR (Dbl.F n) q
              · have := V_le _ _ s2
                rw [V_two64 J hJ] at this
                have := (Nat.le_div_iff_mul_le (Nat.two_pow_pos J)).2 this
                clear hJ vn vn2 va va2
                generalize V (mulR (Dbl.F n) q) / 2 ^ J = z at *
                omega
              · rw [if_neg s2]
          rw [cut] at c2
          clear hJ vn vn2 va va2 cut
          generalize V (mulR (Dbl.F n) q) / 2 ^ J = z at *
          rcases r2 with r2 | r2
          · subst r2
            exact back4 z n q (by omega) (by omega) c1 c2 c3 cA w
          · have ez : (z : Int) = (a : Int) - 1 := by omega
            rw [ez] at c2
            exact back5 a n q (by omega) (by omega) (by omega) (by simp; omega) c1 c2 c3 cA w

/-! ### Distance -/
theorem ord_le (a b : Nat) (ha : a ≤ 9218868437227405312) (hb : b ≤ 9218868437227405312) (h : a ≤ b) : ordV a b ≤ 0 := by
  unfold ordV rank
  rw [isNan_small a ha, isNan_small b hb]
  simp only [Bool.false_eq_true, if_false]
  rw [if_pos (show a < 9223372036854775808 by omega), if_pos (show b < 9223372036854775808 by omega)]
  split
  · omega
  · split <;> omega

theorem dist_law (Fc : Face) (l g p : Nat) (hl : l < 18446744073709551616) (hg : g < 18446744073709551616) (hp : p < 18446744073709551616) (w : World) :
    Calls Try.prog 6 #[.int .u64 l, .int .u64 g, .int .u64 p] w fun e w' => e = .returned (.bool true) ∧ Grown w w' := by
  by_cases h : 1099511627776 < p
  · exact dist1 l g p (by omega) w
  · have c1 := fun w => Fc.pace l g p w hl hg hp
    have c2 := fun w => Fc.of p 8192 w hp (by decide)
    have cA := Fc.awake
    by_cases h1 : l < g ∧ 8192 < g - l
    · have eP : paceV l g p = ofV p (g - l) := by unfold paceV; rw [if_pos h1]
      obtain ⟨d1, d2, d3⟩ := dist p (g - l) (by omega) (by omega) (by omega)
      rw [eP] at c1
      have c3 := fun w => Fc.order (ofV p (g - l)) (ofV p 8192) w (by omega) (by omega)
      have c4 := fun w => Fc.times 8192 (ofV p (g - l)) w (by decide) (by omega)
      exact dist4 l g p _ _ _ _ (by omega) (ord_le _ _ (by omega) d2 d1) (by omega) (by omega) (by omega) (by omega) (by omega) c1 c2 c3 c4 cA w
    · have eP : paceV l g p = ofV p 8192 := by unfold paceV; rw [if_neg h1]
      obtain ⟨d1, d2, d3⟩ := dist p 8192 (by omega) (by decide) (by decide)
      rw [eP] at c1
      have c3 := fun w => Fc.order (ofV p 8192) (ofV p 8192) w (by omega) (by omega)
      by_cases h2 : g ≤ l
      · exact dist2 l g p _ _ (by omega) (ord_le _ _ d2 d2 (Nat.le_refl _)) (by omega) c1 c2 c3 cA w
      · exact dist3 l g p _ _ (by omega) (ord_le _ _ d2 d2 (Nat.le_refl _)) (by omega) (by omega) (by omega) (by omega) c1 c2 c3 cA w

/-! ### Even -/
theorem word_mod (s : Bool) (x : Nat) (hx : x < 9223372036854775808) : Ieee.double.word s x % 9223372036854775808 = x ∧ Ieee.double.word s x < 18446744073709551616 := by
  unfold Ieee.Format.word
  rw [d_sw]
  cases s
  · simp only [Bool.false_eq_true, if_false]; omega
  · simp only [if_true]; omega
theorem ord_self (a : Nat) : ordV a a = 0 := by unfold ordV; simp

theorem even_law (Fc : Face) (a b : Nat) (ha : a < 18446744073709551616) (hb : b < 18446744073709551616) (w : World) :
    Calls Try.prog 7 #[.int .u64 a, .int .u64 b] w fun e w' => e = .returned (.bool true) ∧ Grown w w' := by
  have n1 := fun w => Fc.nan a w ha
  have n2 := fun w => Fc.nan b w hb
  have cA := Fc.awake
  have ea := and63 a ha
  have eb := and63 b hb
  cases hA : isNan a
  · rw [hA] at n1
    cases hB : isNan b
    · rw [hB] at n2
      by_cases h1 : 9218868437227405312 ≤ a % 9223372036854775808
      · exact even3 a b (by rw [ea]; omega) n1 n2 w
      · by_cases h2 : 9218868437227405312 ≤ b % 9223372036854775808
        · exact even4 a b (by rw [ea]; omega) (by rw [eb]; omega) n1 n2 w
        · obtain ⟨s, x, hx, rfl⟩ := word_split a ha
          obtain ⟨t, y, hy, rfl⟩ := word_split b hb
          rw [(word_mod s x hx).1] at h1 ea
          rw [(word_mod t y hy).1] at h2 eb
          obtain ⟨u1, m1⟩ := mix_zero s t x y (by omega) (by omega)
          obtain ⟨u2, m2⟩ := mix_one s t x y (by omega) (by omega)
          have c1 := fun w => Fc.mix (Ieee.double.word s x) (Ieee.double.word t y) 0 w ha hb (by decide)
          have c2 := fun w => Fc.mix (Ieee.double.word s x) (Ieee.double.word t y) 4607182418800017408 w ha hb (by decide)
          have c5 := fun w => Fc.mix (Ieee.double.word s x) (Ieee.double.word t y) canon w ha hb (by decide)
          rw [m1] at c1
          rw [m2] at c2
          rw [mix_nan] at c5
          have ex := and63 _ (word_mod u1 x hx).2
          have ey := and63 _ (word_mod u2 y hy).2
          rw [(word_mod u1 x hx).1] at ex
          rw [(word_mod u2 y hy).1] at ey
          have c3 := fun w => Fc.order x x w (by omega) (by omega)
          have c4 := fun w => Fc.order y y w (by omega) (by omega)
          rw [ord_self] at c3 c4
          exact even5 _ _ _ _ _ _ _ _ ea eb ex ey (by omega) (by omega) n1 n2 c1 c2 c3 c4 c5 cA w
    · rw [hB] at n2
      exact even2 a b n1 n2 w
  · rw [hA] at n1
    exact even1 a b n1 w

/-! ### Three -/
theorem rank_eq (a b : Nat) (ha : a < 18446744073709551616) (hb : b < 18446744073709551616) : rank a = rank b ↔ (a = b ∨ (isNan a = true ∧ isNan b = true)) := by
  unfold rank
  cases h1 : isNan a
  · cases h2 : isNan b
    · simp only [Bool.false_eq_true, if_false, false_and, or_false]
      constructor
      · intro h
        split at h <;> split at h <;> omega
      · intro h; subst h; rfl
    · simp only [Bool.false_eq_true, if_false, if_true, false_and, or_false]
      constructor
      · intro h
        split at h <;> omega
      · intro h; subst h; rw [h1] at h2; cases h2
  · cases h2 : isNan b
    · simp only [Bool.false_eq_true, if_false, if_true, and_false, or_false]
      constructor
      · intro h
        split at h <;> omega
      · intro h; subst h; rw [h1] at h2; cases h2
    · simp

theorem ord_lt (a b : Nat) (h : rank a < rank b) : ordV a b = -1 := by unfold ordV; rw [if_pos h]
theorem ord_gt (a b : Nat) (h : rank b < rank a) : ordV a b = 1 := by unfold ordV; rw [if_neg (by omega), if_pos h]
theorem ord_eq (a b : Nat) (h : rank a = rank b) : ordV a b = 0 := by unfold ordV; rw [if_neg (by omega), if_neg (by omega)]

theorem three_law (Fc : Face) (a b c : Nat) (ha : a < 18446744073709551616) (hb : b < 18446744073709551616) (hc : c < 18446744073709551616) (w : World) :
    Calls Try.prog 4 #[.int .u64 a, .int .u64 b, .int .u64 c] w fun e w' => e = .returned (.bool true) ∧ Grown w w' := by
  have c1 := fun w => Fc.order a b w ha hb
  have c2 := fun w => Fc.order b c w hb hc
  have c3 := fun w => Fc.order a c w ha hc
  have c4 := fun w => Fc.order b a w hb ha
  have c5 := fun w => Fc.order a a w ha ha
  have n1 := fun w => Fc.nan a w ha
  have n2 := fun w => Fc.nan b w hb
  have cA := Fc.awake
  have re := rank_eq a b ha hb
  rw [ord_self] at c5
  have eb := beq_cast a b
  -- what the last test needs, where the two do not stand at one place
  have diff : rank a ≠ rank b → ((a : Int) == (b : Int)) = false ∧ (isNan a = false ∨ (isNan a = true ∧ isNan b = false)) := by
    intro h
    have h' : ¬ (a = b ∨ (isNan a = true ∧ isNan b = true)) := fun hh => h (re.2 hh)
    refine ⟨by rw [eb]; simp; exact fun hh => h' (Or.inl hh), ?_⟩
    cases h1 : isNan a
    · exact Or.inl rfl
    · cases h2 : isNan b
      · exact Or.inr ⟨rfl, rfl⟩
      · exact absurd (Or.inr ⟨h1, h2⟩) h'
  have same : rank a = rank b → ((a : Int) == (b : Int)) = true ∨ (((a : Int) == (b : Int)) = false ∧ isNan a = true ∧ isNan b = true) := by
    intro h
    by_cases hab : a = b
    · left; rw [eb]; simpa using hab
    · right
      rcases re.1 h with hh | hh
      · exact absurd hh hab
      · exact ⟨by rw [eb]; simpa using hab, hh.1, hh.2⟩
  clear re eb
  rcases Int.lt_trichotomy (rank a) (rank b) with hx | hx | hx
  · rcases Int.lt_trichotomy (rank b) (rank c) with hy | hy | hy
    · rcases Int.lt_trichotomy (rank a) (rank c) with hz | hz | hz
      · rw [ord_lt a b hx] at c1
        rw [ord_lt b c hy] at c2
        rw [ord_lt a c hz] at c3
        rw [ord_gt b a hx] at c4
        obtain ⟨t, h | ⟨h1, h2⟩⟩ := diff (by omega)
        · rw [h] at n1
          exact three_mmm1 a b c t c1 c2 c3 c4 c5 n1 cA w
        · rw [h1] at n1
          rw [h2] at n2
          exact three_mmm2 a b c t c1 c2 c3 c4 c5 n1 n2 cA w
      · omega
      · omega
    · rcases Int.lt_trichotomy (rank a) (rank c) with hz | hz | hz
      · rw [ord_lt a b hx] at c1
        rw [ord_eq b c hy] at c2
        rw [ord_lt a c hz] at c3
        rw [ord_gt b a hx] at c4
        obtain ⟨t, h | ⟨h1, h2⟩⟩ := diff (by omega)
        · rw [h] at n1
          exact three_mzm1 a b c t c1 c2 c3 c4 c5 n1 cA w
        · rw [h1] at n1
          rw [h2] at n2
          exact three_mzm2 a b c t c1 c2 c3 c4 c5 n1 n2 cA w
      · omega
      · omega
    · rcases Int.lt_trichotomy (rank a) (rank c) with hz | hz | hz
      · rw [ord_lt a b hx] at c1
        rw [ord_gt b c hy] at c2
        rw [ord_lt a c hz] at c3
        rw [ord_gt b a hx] at c4
        obtain ⟨t, h | ⟨h1, h2⟩⟩ := diff (by omega)
        · rw [h] at n1
          exact three_mpm1 a b c t c1 c2 c3 c4 c5 n1 cA w
        · rw [h1] at n1
          rw [h2] at n2
          exact three_mpm2 a b c t c1 c2 c3 c4 c5 n1 n2 cA w
      · rw [ord_lt a b hx] at c1
        rw [ord_gt b c hy] at c2
        rw [ord_eq a c hz] at c3
        rw [ord_gt b a hx] at c4
        obtain ⟨t, h | ⟨h1, h2⟩⟩ := diff (by omega)
        · rw [h] at n1
          exact three_mpz1 a b c t c1 c2 c3 c4 c5 n1 cA w
        · rw [h1] at n1
          rw [h2] at n2
          exact three_mpz2 a b c t c1 c2 c3 c4 c5 n1 n2 cA w
      · rw [ord_lt a b hx] at c1
        rw [ord_gt b c hy] at c2
        rw [ord_gt a c hz] at c3
        rw [ord_gt b a hx] at c4
        obtain ⟨t, h | ⟨h1, h2⟩⟩ := diff (by omega)
        · rw [h] at n1
          exact three_mpp1 a b c t c1 c2 c3 c4 c5 n1 cA w
        · rw [h1] at n1
          rw [h2] at n2
          exact three_mpp2 a b c t c1 c2 c3 c4 c5 n1 n2 cA w
  · rcases Int.lt_trichotomy (rank b) (rank c) with hy | hy | hy
    · rcases Int.lt_trichotomy (rank a) (rank c) with hz | hz | hz
      · rw [ord_eq a b hx] at c1
        rw [ord_lt b c hy] at c2
        rw [ord_lt a c hz] at c3
        rw [ord_eq b a hx.symm] at c4
        rcases same hx with t | ⟨t, h1, h2⟩
        · exact three_zmm1 a b c t c1 c2 c3 c4 c5 cA w
        · rw [h1] at n1
          rw [h2] at n2
          exact three_zmm2 a b c t c1 c2 c3 c4 c5 n1 n2 cA w
      · omega
      · omega
    · rcases Int.lt_trichotomy (rank a) (rank c) with hz | hz | hz
      · omega
      · rw [ord_eq a b hx] at c1
        rw [ord_eq b c hy] at c2
        rw [ord_eq a c hz] at c3
        rw [ord_eq b a hx.symm] at c4
        rcases same hx with t | ⟨t, h1, h2⟩
        · exact three_zzz1 a b c t c1 c2 c3 c4 c5 cA w
        · rw [h1] at n1
          rw [h2] at n2
          exact three_zzz2 a b c t c1 c2 c3 c4 c5 n1 n2 cA w
      · omega
    · rcases Int.lt_trichotomy (rank a) (rank c) with hz | hz | hz
      · omega
      · omega
      · rw [ord_eq a b hx] at c1
        rw [ord_gt b c hy] at c2
        rw [ord_gt a c hz] at c3
        rw [ord_eq b a hx.symm] at c4
        rcases same hx with t | ⟨t, h1, h2⟩
        · exact three_zpp1 a b c t c1 c2 c3 c4 c5 cA w
        · rw [h1] at n1
          rw [h2] at n2
          exact three_zpp2 a b c t c1 c2 c3 c4 c5 n1 n2 cA w
  · rcases Int.lt_trichotomy (rank b) (rank c) with hy | hy | hy
    · rcases Int.lt_trichotomy (rank a) (rank c) with hz | hz | hz
      · rw [ord_gt a b hx] at c1
        rw [ord_lt b c hy] at c2
        rw [ord_lt a c hz] at c3
        rw [ord_lt b a hx] at c4
        obtain ⟨t, h | ⟨h1, h2⟩⟩ := diff (by omega)
        · rw [h] at n1
          exact three_pmm1 a b c t c1 c2 c3 c4 c5 n1 cA w
        · rw [h1] at n1
          rw [h2] at n2
          exact three_pmm2 a b c t c1 c2 c3 c4 c5 n1 n2 cA w
      · rw [ord_gt a b hx] at c1
        rw [ord_lt b c hy] at c2
        rw [ord_eq a c hz] at c3
        rw [ord_lt b a hx] at c4
        obtain ⟨t, h | ⟨h1, h2⟩⟩ := diff (by omega)
        · rw [h] at n1
          exact three_pmz1 a b c t c1 c2 c3 c4 c5 n1 cA w
        · rw [h1] at n1
          rw [h2] at n2
          exact three_pmz2 a b c t c1 c2 c3 c4 c5 n1 n2 cA w
      · rw [ord_gt a b hx] at c1
        rw [ord_lt b c hy] at c2
        rw [ord_gt a c hz] at c3
        rw [ord_lt b a hx] at c4
        obtain ⟨t, h | ⟨h1, h2⟩⟩ := diff (by omega)
        · rw [h] at n1
          exact three_pmp1 a b c t c1 c2 c3 c4 c5 n1 cA w
        · rw [h1] at n1
          rw [h2] at n2
          exact three_pmp2 a b c t c1 c2 c3 c4 c5 n1 n2 cA w
    · rcases Int.lt_trichotomy (rank a) (rank c) with hz | hz | hz
      · omega
      · omega
      · rw [ord_gt a b hx] at c1
        rw [ord_eq b c hy] at c2
        rw [ord_gt a c hz] at c3
        rw [ord_lt b a hx] at c4
        obtain ⟨t, h | ⟨h1, h2⟩⟩ := diff (by omega)
        · rw [h] at n1
          exact three_pzp1 a b c t c1 c2 c3 c4 c5 n1 cA w
        · rw [h1] at n1
          rw [h2] at n2
          exact three_pzp2 a b c t c1 c2 c3 c4 c5 n1 n2 cA w
    · rcases Int.lt_trichotomy (rank a) (rank c) with hz | hz | hz
      · omega
      · omega
      · rw [ord_gt a b hx] at c1
        rw [ord_gt b c hy] at c2
        rw [ord_gt a c hz] at c3
        rw [ord_lt b a hx] at c4
        obtain ⟨t, h | ⟨h1, h2⟩⟩ := diff (by omega)
        · rw [h] at n1
          exact three_ppp1 a b c t c1 c2 c3 c4 c5 n1 cA w
        · rw [h1] at n1
          rw [h2] at n2
          exact three_ppp2 a b c t c1 c2 c3 c4 c5 n1 n2 cA w

theorem face : Face where
  times := fun n r w _ _ => times_any n r w
  nan := nan_any
  awake := awake_any
  order := order_any
  of := of_any
  pace := pace_any
  mix := fun a b c w _ _ _ => mix_any a b c w

end Go.Proofs.Ytkogomgnfeigbab
