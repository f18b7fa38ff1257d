/- Package radix: count: its contract. -/
import Derived.Test.YtnclicdnncgdiaaDoorXk
namespace Go.Proofs.YtnclicdnncgdiaaDoor
open Go.ChangeShapes Go.WideShapes Go.ChangeAt Go.RowKit Go.Proofs.Bt Go.Shelf Go.Proofs.Rx Go.Maps
set_option linter.unusedVariables false
set_option linter.unusedSimpArgs false

theorem countIn_any (T : Tid) (L : Lv) (C : Ch) (st : Nat → Nat) (h4 : Four st) : ∀ n d, n + d = 6 → CountOk T L C st n d
  | 0, d, h => countIn_core T L C st h4 0 d h (fun z => by omega)
  | n + 1, d, h => countIn_core T L C st h4 (n + 1) d h (fun _ => countIn_any T L C st h4 n (d + 1) (by omega))
/-- A tree in memory whose pages are so. -/
structure Tree (w : World) (T : Tid) (L : Lv) (C : Ch) (st : Nat → Nat) : Prop where
  rad : RadAt w T L C
  good : Rx.Good L C st 6 0 0 (row L 0 0 0)
  four : Four st
  out : ∀ q, 34359738368 ≤ q → st q = 0
theorem Tree.below {w w' : World} {T : Tid} {L : Lv} {C : Ch} {st : Nat → Nat} (h : Tree w T L C st) (k : Below w.heap.size w w') : Tree w' T L C st := ⟨h.rad.below k, h.good, h.four, h.out⟩
/-- What count answers. -/
def cntT (st : Nat → Nat) (p n : Nat) : Tl := if n = 0 ∨ 34359738368 < p + n then ⟨0, 0, 0⟩ else tl st p n
set_option maxRecDepth 100000 in
set_option maxHeartbeats 1000000 in
theorem count9_any {w : World} {T : Tid} {L : Lv} {C : Ch} {st : Nat → Nat} (h : Tree w T L C st) (p n : Nat) (hp : p < 18446744073709551616) (hn : n < 18446744073709551616) :
    Calls Tryd.prog 20 #[tp T, .int .u64 (p : Nat), .int .u64 (n : Nat)] w fun e w' => e = .returned (tlV (cntT st p n)) ∧ Below w.heap.size w w' := by
  obtain ⟨R, hR⟩ : ∃ R, R = (fun (e : Ending) (w' : World) => e = .returned (tlV (cntT st p n)) ∧ Below w.heap.size w w') := ⟨_, rfl⟩
  rw [← hR]
  obtain ⟨N, hN⟩ : ∃ N, w.heap.size = N := ⟨_, rfl⟩
  have HR := hide hR
  have HN := hide hN
  have HH := hide h
  have BAD := hide (show (n = 0 ∨ 34359738368 < p + n) → ∀ W, Below N w W → R (.returned (tlV ⟨0, 0, 0⟩)) W from fun z W hW => by
    rw [HR.out, show cntT st p n = ⟨0, 0, 0⟩ from if_pos z]; exact ⟨rfl, by rw [HN.out]; exact hW⟩)
  have OKK := hide (show ¬ (n = 0 ∨ 34359738368 < p + n) → ∀ W, Below N w W → R (.returned (tlV (tl st p n))) W from fun z W hW => by
    rw [HR.out, show cntT st p n = tl st p n from if_neg z]; exact ⟨rfl, by rw [HN.out]; exact hW⟩)
  have q : ((n : Int) == 0) = true ∨ ((n : Int) == 0) = false ∧ (decide ((34359738368 : Int) < (n : Int)) = true ∨ decide ((34359738368 : Int) < (n : Int)) = false ∧ (decide ((34359738368 : Int) - (n : Int) < (p : Int)) = true ∨ decide ((34359738368 : Int) - (n : Int) < (p : Int)) = false)) := by
    simp only [decide_eq_true_eq, decide_eq_false_iff_not, beq_eq_false_iff_ne, beq_iff_eq, ne_eq]
    omega
  clear hR h
  unfold tp
  unfold tlV at BAD
  have n0 : (0 : Int) ≤ n := by omega
  have n1 : (n : Int) < 18446744073709551616 := by omega
  have p0 : (0 : Int) ≤ p := by omega
  rcases q with d1 | ⟨d1, d2 | ⟨d2, d3 | d3⟩⟩
  · have F := hide (BAD.out (.inl (by simp only [beq_iff_eq] at d1; omega)))
    clear BAD OKK HR hp hn hN
    simp only [Int.cast_ofNat_Int] at F
    generalize (p : Int) = P at *
    generalize (n : Int) = M at *
    go_enter Tryd.func20, Tryd.ntmps20
    go_wp2_with fail
    refine bodyPost_ret (v := .agg #[.int .u64 0, .int .u64 0, .int .u64 0]) (by simp [results, Tryd.results20, go_sem]) rfl (F.out _ (by rw [← HN.out]; exact grown1 _ _))
  · have F := hide (BAD.out (.inr (by simp only [decide_eq_true_eq] at d2; omega)))
    clear BAD OKK HR hp hn hN
    simp only [Int.cast_ofNat_Int] at F
    generalize (p : Int) = P at *
    generalize (n : Int) = M at *
    go_enter Tryd.func20, Tryd.ntmps20
    go_wp2_with fail
    refine bodyPost_ret (v := .agg #[.int .u64 0, .int .u64 0, .int .u64 0]) (by simp [results, Tryd.results20, go_sem]) rfl (F.out _ (by rw [← HN.out]; exact grown1 _ _))
  · have F := hide (BAD.out (.inr (by simp only [decide_eq_true_eq] at d3; omega)))
    have n2 : (n : Int) ≤ 34359738368 := by simp only [decide_eq_false_iff_not] at d2; omega
    clear BAD OKK HR hp hn hN
    simp only [Int.cast_ofNat_Int] at F
    generalize (p : Int) = P at *
    generalize (n : Int) = M at *
    go_enter Tryd.func20, Tryd.ntmps20
    go_wp2_with fail
    refine bodyPost_ret (v := .agg #[.int .u64 0, .int .u64 0, .int .u64 0]) (by simp [results, Tryd.results20, go_sem]) rfl (F.out _ (by rw [← HN.out]; exact grown1 _ _))
  · have z : ¬ (n = 0 ∨ 34359738368 < p + n) := by simp only [decide_eq_false_iff_not, beq_eq_false_iff_ne, ne_eq] at d1 d2 d3; omega
    have F := hide (OKK.out z)
    have n2 : (n : Int) ≤ 34359738368 := by simp only [decide_eq_false_iff_not] at d2; omega
    have p1 : (p : Int) ≤ 34359738368 := by omega
    have CT := fun W (hW : RadAt W T L C) => hide (top_any hW)
    have CC := fun W (hW : RadAt W T L C) => hide (countIn_any T L C st HH.out.four 6 0 rfl W hW 0 (row L 0 0 0) p (p + n) HH.out.good (by decide) (by omega) (by omega) (by show p < (0 + 1) * 34359738368; omega) (by omega))
    have e1 : max p (0 * sz 0) = p := by omega
    have e2 : min (p + n) ((0 + 1) * sz 0) = p + n := by show min (p + n) ((0 + 1) * 34359738368) = p + n; omega
    rw [e1, e2] at CC
    unfold CntP at CC
    rw [show p + n - p = n by omega] at CC
    obtain ⟨r, hr⟩ : ∃ r, row L 0 0 0 = r := ⟨_, rfl⟩
    obtain ⟨t, ht⟩ : ∃ t, tl st p n = t := ⟨_, rfl⟩
    rw [hr] at CT CC
    rw [ht] at CC F
    rw [show ((p + n : Nat) : Int) = (p : Int) + (n : Int) by omega] at CC
    simp only [Int.cast_ofNat_Int] at CC
    unfold tp at CT CC
    unfold rwV at CT CC
    unfold spanV tlV at CC
    unfold tlV at F
    clear BAD OKK HR z hr ht e1 e2 hp hn
    generalize (p : Int) = P at *
    generalize (n : Int) = M at *
    go_enter Tryd.func20, Tryd.ntmps20
    go_wp2_with fail
    refine (CT _ (HH.out.rad.below (grown1 _ _))).out.mono ?_
    rintro e w1 ⟨rfl, b1⟩
    have R1 := hide ((HH.out.rad.below (grown1 _ _)).below b1)
    obtain ⟨B1, l1, c1, fz1⟩ := alloc_at1 w _ _ b1 N HN.out
    have HB := hide B1
    have BK := hide (show Bk w1 N 60 _ from c1)
    clear b1 B1 c1 fz1 CT
    go_wp2_with fail
    refine (CC _ R1.out).out.mono ?_
    rintro e w2 ⟨rfl, b2⟩
    have bk := BK.out.below b2
    have x0 := bk.cell 0 _ rfl
    have x1 := bk.cell 1 _ rfl
    have x2 := bk.cell 2 _ rfl
    have z0 := bk.fz 0
    have z1 := bk.fz 1
    have z2 := bk.fz 2
    have B2 := hide (HB.out.trans (b2.mono (Nat.le_of_lt l1)))
    have K2 := hide bk
    clear b2 bk R1 CC
    go_wp2_with fail
    have fin := ((K2.out.set 0 (.int .u64 (t.p : Nat))).set 1 (.int .u64 (t.f : Nat))).set 2 (.int .u64 (t.r : Nat))
    exact bodyPost_ret (results_c Tryd.results20 _ _ ⟨N, 0, none⟩ _ rfl (tally3 fin)) rfl (F.out _ (((B2.out.setCell (Nat.le_refl _) _).setCell (Nat.le_refl _) _).setCell (Nat.le_refl _) _))
end Go.Proofs.YtnclicdnncgdiaaDoor
