/- BitsWhole: its walk. -/
import Derived.Test.YtgbfkmkinhlimabDoorEq
namespace Go.Proofs.YtgbfkmkinhlimabDoor
open Go.ChangeShapes Go.WideShapes Go.ChangeAt Go.RowKit Go.Proofs.Bt Go.Shelf
set_option linter.unusedVariables false
set_option linter.unusedSimpArgs false
attribute [local go_sem] eqRow eqWords

theorem RowF.congr {w : World} {b : Nat} {f f' : Nat → Bool} (h : RowF w b f) (e : ∀ i, i < 512 → f i = f' i) : RowF w b f' := by
  obtain ⟨g, h1, h2⟩ := h
  exact ⟨g, h1, fun i hi => (h2 i hi).trans (e i hi)⟩
theorem row_none {w : World} {b : Nat} (h : RowF w b (fun _ => false)) : RowAt w b 24 (fun _ => 0) := by
  obtain ⟨g, h1, h2⟩ := h
  refine h1.congr (fun k hk => eq_of_bits (h1.fit k) (by omega) fun q hq => ?_) (fun _ => by omega)
  rw [← bitW_at g k q hq, h2 _ (by omega), Nat.zero_testBit]
theorem full_sum : SumP (fun _ => true) 0 0 0 :=
  ⟨by omega, by omega, (fun k hk => by omega), (fun _ => rfl), (fun k hk => by omega), (fun _ => rfl), ⟨0, by omega, fun k hk => by omega⟩, fun c hc h => by have := h 0 (by omega); cases this⟩
theorem full_find : FindP (fun _ => true) 1 0 0 false := .inr ⟨rfl, rfl, .inr fun c _ _ h => by have := h 0 (by decide); cases this⟩
theorem none_sum : SumP (fun _ => false) 512 512 512 :=
  ⟨by omega, by omega, (fun k hk => rfl), (fun h => by omega), (fun k hk => rfl), (fun h => by omega), ⟨0, by omega, fun k hk => rfl⟩, fun c hc h => by omega⟩
theorem none_in (n : Int) (h1 : 1 ≤ n) (h2 : n ≤ 512) : FindP (fun _ => false) n 0 0 true := .inl ⟨rfl, h1, 0, rfl, by decide, by omega, (fun k hk => rfl), fun c c1 c2 => by omega⟩
theorem none_out (n : Int) (h : n < 1 ∨ 512 < n) : FindP (fun _ => false) n 0 0 false := by
  refine .inr ⟨rfl, rfl, ?_⟩
  rcases h with h | h
  · exact .inl h
  · exact .inr fun c c1 c2 => by omega

set_option maxRecDepth 100000 in
set_option maxHeartbeats 4000000 in
theorem whole_any (g : Nat → Nat) (hg : ∀ k, g k < 18446744073709551616) (n : Int) (hn' : n ≤ 9223372036854775807) (w : World) (ht : TabW w) :
    Calls Tryd.prog 3 #[words g, .int .i64 n] w fun e w' => e = .returned (.bool true) ∧ Below w.heap.size w w' := by
  obtain ⟨N, hN⟩ : ∃ N, w.heap.size = N := ⟨_, rfl⟩
  rw [hN]
  obtain ⟨w2, hw2⟩ : ∃ w2, w2 = (w.alloc (.cells (cells8 g) 23)).alloc (.cells (cells8 g) 24) := ⟨_, rfl⟩
  have T2 := hide (st_start g hg w ht w2 hw2 N hN).1
  have HW := hide hw2
  clear ht hg hw2
  have fin : ∀ (W : World), St N (N + 1) w W (fun _ => false) → Calls Tryd.prog 9 #[] W fun e w' => e = .returned (.bool true) ∧ Below N w w' := fun W hS => (awake_any W hS.ta).mono fun e w' ⟨h1, h2⟩ => ⟨h1, (hS.next h2).be⟩
  have FIN := hide fin
  clear fin
  unfold words cells8
  go_enter Tryd.func3, Tryd.ntmps3
  go_wp2_with fail
  have hw := HW.out
  unfold cells8 at hw
  rw [← hw]
  clear hw HW
  refine (set_any (N + 1) _ w2 T2.out.ro 0 512 (by omega)).mono ?_
  rintro r w3 ⟨rfl, r3, k3⟩
  have T3 := hide (T2.out.put k3 (RowF.congr r3 (f' := fun _ => true) (fun i hi => by unfold setF; rw [decide_eq_true (by omega)]; simp)) (by omega))
  clear T2 r3 k3
  have cc : cnt (fun _ => true) 0 512 = 512 := cnt_full.2 fun _ _ => rfl
  have cC := fun w h => count_int (N + 1) (fun _ => true) w h 0 512 (by omega) (by omega) (by omega)
  rw [show (0 : Int).toNat = 0 from rfl, show (512 : Int).toNat = 512 from rfl, cc] at cC
  have CC := hide cC
  clear cC cc
  go_wp2_with fail
  refine (CC.out _ T3.out.ro).mono ?_
  rintro r w4 ⟨rfl, b4⟩
  have T4 := hide (T3.out.next b4)
  clear T3 b4 CC
  go_wp2_with fail
  refine (sum_any (N + 1) _ w4 T4.out.ro T4.out.ta).mono ?_
  intro r w5 h5
  obtain ⟨rfl, b5⟩ := h5.at full_sum
  have T5 := hide (T4.out.next b5)
  clear T4 b5 h5
  simp only [sumV]
  go_wp2_with fail
  refine (find_any (N + 1) _ 1 0 (by omega) (by omega) w5 T5.out.ro T5.out.ta).mono ?_
  intro r w6 h6
  obtain ⟨rfl, b6⟩ := h6.at full_find
  have T6 := hide (T5.out.next b6)
  clear T5 b6 h6
  go_wp2_with fail
  refine (clear_any (N + 1) _ w6 T6.out.ro 0 512 (by omega)).mono ?_
  rintro r w7 ⟨rfl, r7, k7⟩
  have T7 := hide (T6.out.put k7 (RowF.congr r7 (f' := fun _ => false) (fun i hi => by unfold clrF; rw [decide_eq_true (by omega)]; simp)) (by omega))
  clear T6 r7 k7
  have z7 := row_none T7.out.ro
  have x0 := z7.cell 0 (by omega)
  have x1 := z7.cell 1 (by omega)
  have x2 := z7.cell 2 (by omega)
  have x3 := z7.cell 3 (by omega)
  have x4 := z7.cell 4 (by omega)
  have x5 := z7.cell 5 (by omega)
  have x6 := z7.cell 6 (by omega)
  have x7 := z7.cell 7 (by omega)
  rw [show ((0 : Nat) : Int) = (0 : Int) from rfl] at x0 x1 x2 x3 x4 x5 x6 x7
  clear z7
  go_wp2_with fail
  refine (sum_any (N + 1) _ w7 T7.out.ro T7.out.ta).mono ?_
  intro r w8 h8
  obtain ⟨rfl, b8⟩ := h8.at none_sum
  have T8 := hide (T7.out.next b8)
  clear T7 b8 h8 x0 x1 x2 x3 x4 x5 x6 x7
  simp only [sumV]
  go_wp2_with fail
  have q : (1 ≤ n ∧ n ≤ 512) ∨ n < 1 ∨ (1 ≤ n ∧ decide (n ≤ 512) = false) := by
    by_cases a : n < 1
    · exact .inr (.inl a)
    · by_cases b : n ≤ 512
      · exact .inl ⟨by omega, b⟩
      · exact .inr (.inr ⟨by omega, decide_eq_false b⟩)
  have hq : ∃ ok, FindP (fun _ => false) n 0 0 ok ∧ ok = (decide (1 ≤ n) && decide (n ≤ 512)) := by
    by_cases a : 1 ≤ n
    · by_cases b : n ≤ 512
      · exact ⟨true, none_in n a b, by rw [decide_eq_true a, decide_eq_true b]; rfl⟩
      · exact ⟨false, none_out n (by omega), by rw [decide_eq_false b]; simp⟩
    · exact ⟨false, none_out n (by omega), by rw [decide_eq_false a]; simp⟩
  obtain ⟨ok, hok, eok⟩ := hq
  refine (find_any (N + 1) _ n 0 hn' (by omega) w8 T8.out.ro T8.out.ta).mono ?_
  intro r w9 h9
  obtain ⟨rfl, b9⟩ := h9.at hok
  have T9 := hide (T8.out.next b9)
  clear T8 b9 h9 hok
  subst eok
  have S0 := hide (fun W h => (set_any (N + 1) (fun _ => false) W h 0 0 (by omega)))
  have S1 := hide (fun W h => (set_any (N + 1) (fun _ => false) W h 512 0 (by omega)))
  have S3 := hide (fun W => set_bad (N + 1) 0 513 (by omega) (by unfold Right; omega) W)
  rcases q with ⟨q1, q2⟩ | q1 | ⟨q1, q2⟩
  all_goals
    go_wp2_with fail
    refine (S0.out _ T9.out.ro).mono ?_
    rintro r w10 ⟨rfl, r10, k10⟩
    have T10 := hide (T9.out.put k10 (RowF.congr r10 (f' := fun _ => false) (fun i hi => by unfold setF; rw [decide_eq_false (by omega)]; rfl)) (by omega))
    clear r10 k10
    go_wp2_with fail
    refine (S1.out _ T10.out.ro).mono ?_
    rintro r w11 ⟨rfl, r11, k11⟩
    have T11 := hide (T10.out.put k11 (RowF.congr r11 (f' := fun _ => false) (fun i hi => by unfold setF; rw [decide_eq_false (by omega)]; rfl)) (by omega))
    clear r11 k11 T10
    go_wp2_with fail
    refine (S3.out _).mono ?_
    rintro r w' ⟨rfl, hw'⟩; rw [hw']; clear hw' w'
    have z7 := row_none T11.out.ro
    have x0 := z7.cell 0 (by omega)
    have x1 := z7.cell 1 (by omega)
    have x2 := z7.cell 2 (by omega)
    have x3 := z7.cell 3 (by omega)
    have x4 := z7.cell 4 (by omega)
    have x5 := z7.cell 5 (by omega)
    have x6 := z7.cell 6 (by omega)
    have x7 := z7.cell 7 (by omega)
    rw [show ((0 : Nat) : Int) = (0 : Int) from rfl] at x0 x1 x2 x3 x4 x5 x6 x7
    clear z7
    go_wp2_with fail
    refine (FIN.out _ T11.out).mono ?_
    rintro r w12 ⟨rfl, B12⟩
    have B12 := hide B12
    clear x0 x1 x2 x3 x4 x5 x6 x7
    go_wp2_with fail
    go_ret
    exact ⟨rfl, B12.out⟩
end Go.Proofs.YtgbfkmkinhlimabDoor
