/- PackFewer: its walk. -/
import Derived.Test.YtdkdckgheibjfabPg
import Derived.Test.YtdkdckgheibjfabPl
namespace Go.Proofs.Ytdkdckgheibjfab
open Go.ChangeShapes Go.WideShapes Go.ChangeAt Go.RowKit Go.Proofs.Pk Go.Maps
set_option linter.unusedVariables false
set_option linter.unusedSimpArgs false

set_option maxRecDepth 100000 in
set_option maxHeartbeats 2000000 in
theorem fewer_core {w : World} {v : Value} {t : List Sm} {T : Nat → Prop} (h : SumsAt w v t T) (p n0 m0 : Int) (hl : t.length ≤ 64) (h1 : 1 ≤ n0) (h2 : 1 ≤ m0) :
    Calls Try.prog 3 #[v, .int .i64 p, .int .i64 n0, .int .i64 m0] w fun e w' => e = .returned (.bool true) ∧ Below w.heap.size w w' := by
  obtain ⟨o, cap, rfl, k1, k2⟩ := h.shape
  have H := hide h
  obtain ⟨L, hL⟩ : ∃ L, t.length = L := ⟨_, rfl⟩
  have HL := hide hL
  have hl' := hide hl
  rw [hL] at H k1 hl ⊢
  clear h hL
  have d1 : decide (64 < (L : Int)) = false := decide_eq_false (by omega)
  have d2 : decide (n0 < 1) = false := decide_eq_false (by omega)
  have d3 : decide (m0 < 1) = false := decide_eq_false (by omega)
  obtain ⟨n, m, hnm, n1, m1, hsw⟩ : ∃ n m : Int, n ≤ m ∧ 1 ≤ n ∧ 1 ≤ m ∧ (decide (m0 < n0) = true ∧ n = m0 ∧ m = n0 ∨ decide (m0 < n0) = false ∧ n = n0 ∧ m = m0) := by
    by_cases c : m0 < n0
    · exact ⟨m0, n0, by omega, h2, h1, .inl ⟨decide_eq_true c, rfl, rfl⟩⟩
    · exact ⟨n0, m0, by omega, h1, h2, .inr ⟨decide_eq_false c, rfl, rfl⟩⟩
  have HNM := hide hnm
  clear hnm h1 h2
  rcases hsw with ⟨d4, rfl, rfl⟩ | ⟨d4, rfl, rfl⟩
  all_goals
    go_enter Try.func3, Try.ntmps3
    go_wp2_with fail
    refine (own_core H.out (Nat.le_trans hl'.out (by decide))).mono ?_
    rintro e w1 ⟨g, c, rfl, hM⟩
    rw [HL.out]
    have A1 := hide hM.sums
    have B1 := hide hM.os.be
    have H1 := hide (H.out.below B1.out)
    rw [HL.out] at A1
    clear hM H
    go_wp2_with fail
    refine (fits_core A1.out p _).mono ?_
    rintro e w2 ⟨y2, no2, b2⟩
    have B2 := hide (B1.out.trans (b2.mono B1.out.size))
    have H2 := hide (H1.out.below b2)
    by_cases r : RR t p
    · obtain ⟨i, ok, rfl, hi⟩ := y2 (by assumption) r
      have HI := hide hi
      clear y2 no2 b2 B1 A1 H1 hi
      go_wp2_with fail
      refine (own_core H2.out (Nat.le_trans hl'.out (by decide))).mono ?_
      rintro e w3 ⟨g3, c3, rfl, hM⟩
      rw [HL.out]
      have A3 := hide hM.sums
      have B3 := hide (B2.out.trans (hM.os.be.mono B2.out.size))
      rw [HL.out] at A3
      clear hM B2 H2
      go_wp2_with fail
      refine (fits_core A3.out p _).mono ?_
      rintro e w4 ⟨y4, no4, b4⟩
      obtain ⟨j, is, rfl, hj⟩ := y4 (by assumption) r
      have B4 := hide (B3.out.trans (b4.mono B3.out.size))
      have bi := HI.out.bounds r.p1 r.all
      have bj := hj.bounds r.p1 r.all
      have bL : (t.length : Int) * p ≤ 134217728 := by
        have h1 := r.p1
        have h2 := r.p2
        have : (t.length : Int) * p ≤ 64 * p := Int.mul_le_mul_of_nonneg_right (by have := hl'.out; omega) (by omega)
        omega
      obtain ⟨p1, p2⟩ := And.intro r.p1 r.p2
      have i0 := bi.1
      have i9 : i ≤ 134217728 := by omega
      have j0 := bj.1
      have j9 : j ≤ 134217728 := by omega
      have FW : ok = true → is = true ∧ j / p ≤ i / p := fun z => by
        subst z
        have := HI.out.fewer r.p1 HNM.out r.all hj
        exact ⟨this.1, Int.ediv_le_ediv (by omega) this.2⟩
      have AW : ∀ W, Below w.heap.size w W → Hid (Calls Try.prog 6 #[] W fun e w' => e = .returned (.bool true) ∧ Below w.heap.size w w') := fun W hW => hide ((awake_any W).mono fun e w' h => ⟨h.1, hW.trans (h.2.mono hW.size)⟩)
      clear y4 no4 b4 bi bj bL B3 A3 r HI hj
      cases ok
      · clear FW
        go_wp2_with fail
        refine still_tail 15 (by kernel_rfl) (by kernel_rfl) ?_
        simp only [List.take_succ_cons, List.take_zero, List.drop_succ_cons, List.drop_zero]
        generalize hA : (⟨_, _⟩ : Act) = A
        have HA := hide hA
        clear hA
        iterate 15 (refine wpStill_step (fun K hK => ?_); revert hK; generalize hR : wpStill Try.prog _ _ _ _ = R; intro hK; have HR := hide hR; have HK := hide hK; clear hR hK; rw [← HA.out]; clear HA A; go_simp; refine HK.out _ ?_; generalize hA : (⟨_, _⟩ : Act) = A; have HA := hide hA; clear hA; rw [← HR.out]; clear HK HR K R)
        refine wpStill_nil ?_
        rw [← HA.out]
        clear HA A
        go_wp2_with fail
        refine (AW _ B4.out.drew).out.mono ?_
        rintro _ w5 ⟨rfl, b5⟩
        have B5 := hide b5
        clear b5
        go_wp2_with fail
        go_ret
        exact ⟨rfl, B5.out⟩
      · obtain ⟨rfl, hij⟩ := FW rfl
        have dd : decide (j / p ≤ i / p) = true := decide_eq_true hij
        have t1 : j.tdiv p = j / p := Int.tdiv_eq_ediv_of_nonneg j0
        have t2 : i.tdiv p = i / p := Int.tdiv_eq_ediv_of_nonneg i0
        have p0 : p ≠ 0 := by omega
        have q1 : 0 ≤ j / p := Int.ediv_nonneg j0 (by omega)
        have q2 : j / p ≤ 134217728 := Int.le_trans (Int.ediv_le_self _ j0) j9
        have q3 : 0 ≤ i / p := Int.ediv_nonneg i0 (by omega)
        have q4 : i / p ≤ 134217728 := Int.le_trans (Int.ediv_le_self _ i0) i9
        clear FW hij
        go_wp2_with fail
        refine still_tail 15 (by kernel_rfl) (by kernel_rfl) ?_
        simp only [List.take_succ_cons, List.take_zero, List.drop_succ_cons, List.drop_zero]
        generalize hA : (⟨_, _⟩ : Act) = A
        have HA := hide hA
        clear hA
        iterate 15 (refine wpStill_step (fun K hK => ?_); revert hK; generalize hR : wpStill Try.prog _ _ _ _ = R; intro hK; have HR := hide hR; have HK := hide hK; clear hR hK; rw [← HA.out]; clear HA A; go_simp; refine HK.out _ ?_; generalize hA : (⟨_, _⟩ : Act) = A; have HA := hide hA; clear hA; rw [← HR.out]; clear HK HR K R)
        refine wpStill_nil ?_
        rw [← HA.out]
        clear HA A
        go_wp2_with fail
        · refine (AW _ B4.out.drew).out.mono ?_
          rintro _ w5 ⟨rfl, b5⟩
          have B5 := hide b5
          clear b5
          go_wp2_with fail
          go_ret
          exact ⟨rfl, B5.out⟩
        · exact absurd (of_decide_eq_true dd) (Int.not_le.2 (by assumption))
    · obtain rfl := no2 (fun z => r z.2)
      clear y2 no2 b2 B1 A1 H1
      go_wp2_with fail
      refine (own_core H2.out (Nat.le_trans hl'.out (by decide))).mono ?_
      rintro e w3 ⟨g3, c3, rfl, hM⟩
      rw [HL.out]
      have A3 := hide hM.sums
      have B3 := hide (B2.out.trans (hM.os.be.mono B2.out.size))
      rw [HL.out] at A3
      clear hM B2 H2
      go_wp2_with fail
      refine (fits_core A3.out p _).mono ?_
      rintro e w4 ⟨y4, no4, b4⟩
      obtain rfl := no4 (fun z => r z.2)
      have B4 := hide (B3.out.trans (b4.mono B3.out.size))
      clear y4 no4 b4 B3 A3 r
      go_wp2_with fail
      refine (awake_any _).mono ?_
      rintro _ w5 ⟨rfl, b5⟩
      have B5 := hide (B4.out.trans (b5.mono B4.out.size))
      clear b5
      go_wp2_with fail
      go_ret
      exact ⟨rfl, B5.out⟩
theorem fewer_any {w : World} {v : Value} {t : List Sm} {T : Nat → Prop} (h : SumsAt w v t T) (p n m : Int) :
    Calls Try.prog 3 #[v, .int .i64 p, .int .i64 n, .int .i64 m] w fun e w' => e = .returned (.bool true) ∧ Below w.heap.size w w' := by
  by_cases hq : 64 < t.length ∨ n < 1 ∨ m < 1
  · obtain ⟨o, cap, rfl, k1, k2⟩ := h.shape
    clear h
    obtain ⟨L, hL⟩ : ∃ L, t.length = L := ⟨_, rfl⟩
    rw [hL] at k1 hq ⊢
    clear hL
    have q : decide (64 < (L : Int)) = true ∨ decide (64 < (L : Int)) = false ∧ (decide (n < 1) = true ∨ decide (n < 1) = false ∧ decide (m < 1) = true) := by
      simp only [decide_eq_true_eq, decide_eq_false_iff_not]
      omega
    clear hq
    rcases q with e1 | ⟨e1, e2 | ⟨e2, e3⟩⟩
    all_goals
      go_enter Try.func3, Try.ntmps3
      go_wp2_with fail
      go_ret
      exact ⟨rfl, Below.refl _ _⟩
  · exact fewer_core h p n m (by omega) (by omega) (by omega)
end Go.Proofs.Ytdkdckgheibjfab
