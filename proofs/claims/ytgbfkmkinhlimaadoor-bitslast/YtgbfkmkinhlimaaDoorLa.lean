/- BitsLast: its walk. -/
import Derived.Test.YtgbfkmkinhlimaaDoorEq
namespace Go.Proofs.YtgbfkmkinhlimaaDoor
open Go.ChangeShapes Go.WideShapes Go.ChangeAt Go.RowKit Go.Proofs.Bt Go.Shelf
set_option linter.unusedVariables false
set_option linter.unusedSimpArgs false
attribute [local go_sem] eqRow eqWords

set_option maxRecDepth 100000 in
set_option maxHeartbeats 2000000 in
theorem lastLaw_core (g : Nat → Nat) (hg : ∀ k, g k < 18446744073709551616) (n to : Int) (hn' : n ≤ 9223372036854775807) (h1 : 0 ≤ to) (h2 : to ≤ 512) (w : World) (ht : TabW w) :
    Calls Tryd.prog 8 #[words g, .int .i64 n, .int .i64 to] w fun e w' => e = .returned (.bool true) ∧ Below w.heap.size w w' := by
  obtain ⟨N, hN⟩ : ∃ N, w.heap.size = N := ⟨_, rfl⟩
  rw [hN]
  obtain ⟨w2, hw2⟩ : ∃ w2, w2 = (w.alloc (.cells (cells8 g) 23)).alloc (.cells (cells8 g) 25) := ⟨_, rfl⟩
  have S2 := hide (st_start g hg w ht w2 hw2 N hN).1
  have HW := hide hw2
  obtain ⟨f, hf⟩ : ∃ f, f = bitW g := ⟨_, rfl⟩
  rw [← hf] at S2
  clear ht hg hw2 hf
  have e1 : decide (to < 0) = false := decide_eq_false (by omega)
  have e2 : decide (512 < to) = false := decide_eq_false (by omega)
  unfold words cells8
  go_enter Tryd.func8, Tryd.ntmps8
  go_wp2_with fail
  have hw := HW.out
  unfold cells8 at hw
  rw [← hw]
  clear hw HW
  refine (last_any (N + 1) f n to hn' w2 S2.out.ro S2.out.ta).mono ?_
  rintro e w3 ⟨i, k, rfl, hl, b3⟩
  have S3 := hide (S2.out.next b3)
  clear S2 b3
  have hm : min to.toNat 512 = to.toNat := by omega
  unfold LastP at hl
  rw [hm] at hl
  clear hm
  have fin : ∀ (W : World), St N (N + 1) w W f → Calls Tryd.prog 17 #[] W fun e w' => e = .returned (.bool true) ∧ Below N w w' := fun W hS => (awake_any W hS.ta).mono fun e w' ⟨h1, h2⟩ => ⟨h1, (hS.next h2).be⟩
  have FIN := hide fin
  clear fin
  rcases hl with ⟨rfl, rfl, hx⟩ | ⟨l1, a, m, rfl, rfl, l2, l3, l4, l5, l6, l7⟩
  · by_cases hn : n < 1
    · clear hx
      go_wp2_with fail
      refine (FIN.out _ S3.out).mono ?_
      rintro e w4 ⟨rfl, B4⟩
      have B4 := hide B4
      go_wp2_with fail
      go_ret
      exact ⟨rfl, B4.out⟩
    · have e3 : decide (n < 1) = false := decide_eq_false hn
      have hc : cnt f 0 to.toNat = to.toNat := cnt_full.2 fun q hq => by
        rcases hx with hx | hx
        · omega
        · exact hx _ (by omega)
      have cC := fun w h => count_int (N + 1) f w h 0 to (by omega) h1 (by omega)
      rw [show (0 : Int).toNat = 0 from rfl, hc, show ((to.toNat : Nat) : Int) = to by omega] at cC
      have CC := hide cC
      clear hx cC hc hn
      go_wp2_with fail
      refine (CC.out _ S3.out.ro).mono ?_
      rintro e w4 ⟨rfl, b4⟩
      have S4 := hide (S3.out.next b4)
      clear S3 b4 CC
      go_wp2_with fail
      refine (FIN.out _ S4.out).mono ?_
      rintro e w5 ⟨rfl, B5⟩
      have B5 := hide B5
      go_wp2_with fail
      go_ret
      exact ⟨rfl, B5.out⟩
  · have cz : cnt f a m = 0 := cnt_zero.2 l5
    have c2 : cnt f (a + m) (to.toNat - a - m) = to.toNat - a - m := cnt_full.2 fun q hq => l6 _ (by omega) (by omega)
    have cA := fun w h => count_int (N + 1) f w h (a : Int) (m : Int) (by omega) (by omega) (by omega)
    rw [Int.toNat_natCast, Int.toNat_natCast, cz] at cA
    have cB := fun w h => count_int (N + 1) f w h ((a : Int) + m) (to - a - m) (by omega) (by omega) (by omega)
    rw [show ((a : Int) + m).toNat = a + m by omega, show (to - a - m : Int).toNat = to.toNat - a - m by omega, c2, show ((to.toNat - a - m : Nat) : Int) = to - a - m by omega] at cB
    have cG : 1 ≤ a → ∀ w, RowF w (N + 1) f → Calls Tryd.prog 15 #[.pointer (some ⟨N + 1, 0, none⟩), .int .i64 ((a : Int) - 1)] w fun e w' => e = .returned (.bool (f (a - 1))) ∧ w' = w := fun h w hr => by
      have := get_any (N + 1) f w hr (a - 1) (by omega)
      rw [show ((a - 1 : Nat) : Int) = (a : Int) - 1 by omega] at this
      exact this
    obtain ⟨A, hA⟩ : ∃ A : Int, (a : Int) = A := ⟨_, rfl⟩
    obtain ⟨M, hM⟩ : ∃ M : Int, (m : Int) = M := ⟨_, rfl⟩
    rw [hA, hM] at cA cB
    rw [hA] at cG
    rw [hA, hM]
    have q : (M == n) = true ∨ ((M == n) = false ∧ ((A == 0) = true ∨ ((A == 0) = false ∧ 1 ≤ a ∧ f (a - 1) = true))) := by
      by_cases x : M = n
      · left; simpa using x
      · right
        refine ⟨by simpa using x, ?_⟩
        by_cases y : A = 0
        · left; simpa using y
        · right
          refine ⟨by simpa using y, by omega, ?_⟩
          rcases l7 with l7 | l7 | l7
          · omega
          · omega
          · exact l7
    have g1 : decide (n < 1) = false := decide_eq_false (by omega)
    have g2 : decide (M < 1) = false := decide_eq_false (by omega)
    have g3 : decide (n < M) = false := decide_eq_false (by omega)
    have g4 : decide (A < 0) = false := decide_eq_false (by omega)
    have g5 : decide (to < A + M) = false := decide_eq_false (by omega)
    have g6 : (M == 0) = false := by simp; omega
    have r1 : 0 ≤ A := by omega
    have r2 : 0 ≤ M := by omega
    have r3 : A + M ≤ 512 := by omega
    have r4 : A + M ≤ to := by omega
    have CA := hide cA
    have CB := hide cB
    have CG := hide cG
    clear cA cB cG hA hM l1 l2 l3 l4 l5 l6 l7 cz c2
    go_wp2_with fail
    refine (CA.out _ S3.out.ro).mono ?_
    rintro e w4 ⟨rfl, b4⟩
    have S4 := hide (S3.out.next b4)
    clear S3 b4 CA
    go_wp2_with fail
    refine (CB.out _ S4.out.ro).mono ?_
    rintro e w5 ⟨rfl, b5⟩
    have S5 := hide (S4.out.next b5)
    clear S4 b5 CB
    rcases q with q1 | ⟨q1, q2 | ⟨q2, q3, q4⟩⟩
    · go_wp2_with fail
      refine (FIN.out _ S5.out).mono ?_
      rintro e w6 ⟨rfl, B6⟩
      have B6 := hide B6
      go_wp2_with fail
      go_ret
      exact ⟨rfl, B6.out⟩
    · go_wp2_with fail
      refine (FIN.out _ S5.out).mono ?_
      rintro e w6 ⟨rfl, B6⟩
      have B6 := hide B6
      go_wp2_with fail
      go_ret
      exact ⟨rfl, B6.out⟩
    · have cG := CG.out q3 _ S5.out.ro
      rw [q4] at cG
      have CG2 := hide cG
      clear CG q3 q4 cG
      go_wp2_with fail
      refine (CG2.out).mono ?_
      rintro e w' ⟨rfl, hw'⟩; rw [hw']; clear hw' w'
      go_wp2_with fail
      refine (FIN.out _ S5.out).mono ?_
      rintro e w6 ⟨rfl, B6⟩
      have B6 := hide B6
      go_wp2_with fail
      go_ret
      exact ⟨rfl, B6.out⟩
theorem lastLaw_out (g : Nat → Nat) (n to : Int) (h : to < 0 ∨ 512 < to) (w : World) :
    Calls Tryd.prog 8 #[words g, .int .i64 n, .int .i64 to] w fun e w' => e = .returned (.bool true) ∧ Below w.heap.size w w' := by
  unfold words cells8
  have q : decide (to < 0) = true ∨ (decide (to < 0) = false ∧ decide (512 < to) = true) := by
    by_cases a : to < 0
    · exact .inl (decide_eq_true a)
    · exact .inr ⟨decide_eq_false a, decide_eq_true (by omega)⟩
  clear h
  rcases q with e1 | ⟨e1, e2⟩
  all_goals
    go_enter Tryd.func8, Tryd.ntmps8
    go_wp2_with fail
    go_ret
    exact ⟨rfl, (Below.refl _ w).alloc (Nat.le_refl _) _⟩
theorem lastLaw_any (g : Nat → Nat) (hg : ∀ k, g k < 18446744073709551616) (n to : Int) (hn' : n ≤ 9223372036854775807) (w : World) (ht : TabW w) :
    Calls Tryd.prog 8 #[words g, .int .i64 n, .int .i64 to] w fun e w' => e = .returned (.bool true) ∧ Below w.heap.size w w' := by
  by_cases h : to < 0 ∨ 512 < to
  · exact lastLaw_out g n to h w
  · exact lastLaw_core g hg n to hn' (by omega) (by omega) w ht
end Go.Proofs.YtgbfkmkinhlimaaDoor
