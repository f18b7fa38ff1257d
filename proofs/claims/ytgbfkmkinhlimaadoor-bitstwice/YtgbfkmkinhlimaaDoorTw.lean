/- BitsTwice: its walk. -/
import Derived.Test.YtgbfkmkinhlimaaDoorEq
namespace Go.Proofs.YtgbfkmkinhlimaaDoor
open Go.ChangeShapes Go.WideShapes Go.ChangeAt Go.RowKit Go.Proofs.Bt Go.Shelf
set_option linter.unusedVariables false
set_option linter.unusedSimpArgs false
attribute [local go_sem] eqRow eqWords

theorem get_int (b : Nat) (f : Nat → Bool) (w : World) (h : RowF w b f) (i : Int) (h0 : 0 ≤ i) (hi : i < 512) :
    Calls Tryd.prog 15 #[.pointer (some ⟨b, 0, none⟩), .int .i64 i] w fun e w' => e = .returned (.bool (f i.toNat)) ∧ w' = w := by
  have := get_any b f w h i.toNat (by omega)
  rw [show ((i.toNat : Nat) : Int) = i by omega] at this
  exact this
/-- Two rows with the same bits have the same words. -/
theorem words_eq {w : World} {b c t : Nat} {g g' : Nat → Nat} {f : Nat → Bool} (h : RowAt w b t g) (h' : RowAt w c t g') (hf : ∀ i, i < 512 → bitW g i = f i) (hf' : ∀ i, i < 512 → bitW g' i = f i) : RowAt w c t g :=
  h'.congr (fun k hk => eq_of_bits (h'.fit k) (h.fit k) fun q hq => by rw [← bitW_at g' k q hq, ← bitW_at g k q hq, hf' _ (by omega), hf _ (by omega)]) h.fit
theorem allocs3 (w : World) (o0 o1 o2 : Obj) (w6 : World) (h : w6 = (((w.alloc o0).alloc o1).alloc o2).drew) (N : Nat) (hN : w.heap.size = N) :
    w6.heap.size = N + 3 ∧ Below N w w6 ∧ w6.heap[N]? = some o0 ∧ w6.heap[N + 1]? = some o1 ∧ w6.heap[N + 2]? = some o2 := by
  subst h hN
  refine ⟨by show (((w.alloc o0).alloc o1).alloc o2).heap.size = _; simp, ?_, ?_, ?_, ?_⟩
  · exact ((((Below.refl _ w).alloc (Nat.le_refl _) _).alloc (by simp) _).alloc (by simp; omega) _).drew
  all_goals
    show (((w.alloc o0).alloc o1).alloc o2).heap[_]? = _
    simp only [alloc_at, World.size_alloc]
    (repeat' split) <;> first | rfl | omega | simp_all

set_option maxRecDepth 100000 in
set_option maxHeartbeats 2000000 in
theorem twice_bad (g : Nat → Nat) (hg : ∀ k, g k < 18446744073709551616) (i n : Int) (hi : -9223372036854775808 ≤ i) (hr : ¬ Right i n) (w : World) (ht : TabW w) :
    Calls Tryd.prog 7 #[words g, .int .i64 i, .int .i64 n] w fun e w' => e = .returned (.bool true) ∧ Below w.heap.size w w' := by
  obtain ⟨N, hN⟩ : ∃ N, w.heap.size = N := ⟨_, rfl⟩
  rw [hN]
  obtain ⟨W3, hW3⟩ : ∃ W3, W3 = (((w.alloc (.cells (cells8 g) 23)).alloc (.cells (cells8 g) 25)).alloc (.cells (cells8 g) 25)).drew := ⟨_, rfl⟩
  obtain ⟨s3, b3, q0, q1, q2⟩ := allocs3 w _ _ _ W3 hW3 N hN
  have r0 : RowAt W3 N 23 g := ⟨q0, hg⟩
  have r1 : RowAt W3 (N + 1) 25 g := ⟨q1, hg⟩
  have r2 : RowAt W3 (N + 2) 25 g := ⟨q2, hg⟩
  have ht3 : TabW W3 := ht.below (by rw [hN]; exact b3)
  have HT3 := hide ht3
  have hN0 := ht.lt
  rw [hN] at hN0
  have R0 := hide r0
  have R1 := hide r1
  have R2 := hide r2
  have B3 := hide b3
  have HW := hide hW3
  have S3 := hide s3
  have N0 := hide hN0
  have cS := hide (fun b w => set_bad b i n hi hr w)
  have cC := hide (fun b w => clear_bad b i n hi hr w)
  have HT := hide ht
  have x0 := r0.cell 0 (by omega)
  have x1 := r0.cell 1 (by omega)
  have x2 := r0.cell 2 (by omega)
  have x3 := r0.cell 3 (by omega)
  have x4 := r0.cell 4 (by omega)
  have x5 := r0.cell 5 (by omega)
  have x6 := r0.cell 6 (by omega)
  have x7 := r0.cell 7 (by omega)
  have y0 := r1.cell 0 (by omega)
  have y1 := r1.cell 1 (by omega)
  have y2 := r1.cell 2 (by omega)
  have y3 := r1.cell 3 (by omega)
  have y4 := r1.cell 4 (by omega)
  have y5 := r1.cell 5 (by omega)
  have y6 := r1.cell 6 (by omega)
  have y7 := r1.cell 7 (by omega)
  have z0 := r2.cell 0 (by omega)
  have z1 := r2.cell 1 (by omega)
  have z2 := r2.cell 2 (by omega)
  have z3 := r2.cell 3 (by omega)
  have z4 := r2.cell 4 (by omega)
  have z5 := r2.cell 5 (by omega)
  have z6 := r2.cell 6 (by omega)
  have z7 := r2.cell 7 (by omega)
  clear hr ht hi hg hW3 s3 b3 q0 q1 q2 r0 r1 r2 ht3 hN0
  unfold words cells8
  go_enter Tryd.func7, Tryd.ntmps7
  go_wp2_with fail
  go_region
  all_goals
    have hw := HW.out
    unfold cells8 at hw
    rw [← hw]
    clear hw HW
    simp only [Nat.add_assoc, Nat.reduceAdd]
    go_wp2_with fail
    refine (cC.out _ _).mono ?_
    rintro e w' ⟨rfl, hw'⟩; rw [hw']; clear hw' w'
    go_wp2_with fail
    refine (cS.out _ _).mono ?_
    rintro e w' ⟨rfl, hw'⟩; rw [hw']; clear hw' w'
    go_wp2_with fail
    refine (cS.out _ _).mono ?_
    rintro e w' ⟨rfl, hw'⟩; rw [hw']; clear hw' w'
    go_wp2_with fail
    refine (awake_any _ HT3.out).mono ?_
    rintro e w5 ⟨rfl, b5⟩
    have B5 := hide (B3.out.trans (b5.mono (by have := S3.out; omega)))
    clear b5
    go_wp2_with fail
    go_ret
    exact ⟨rfl, B5.out⟩
theorem twice_bits (f : Nat → Bool) (I M j : Nat) : setF (clrF f I M) I M j = setF f I M j := by
  unfold setF clrF
  cases f j <;> cases decide (I ≤ j ∧ j < I + M) <;> rfl
set_option maxRecDepth 100000 in
set_option maxHeartbeats 2000000 in
theorem twice_good (g : Nat → Nat) (hg : ∀ k, g k < 18446744073709551616) (i n : Int) (I M : Nat) (hI : (I : Int) = i) (hM : (M : Int) = n) (hr : I + M ≤ 512) (w : World) (ht : TabW w) :
    Calls Tryd.prog 7 #[words g, .int .i64 i, .int .i64 n] w fun e w' => e = .returned (.bool true) ∧ Below w.heap.size w w' := by
  obtain ⟨N, hN⟩ : ∃ N, w.heap.size = N := ⟨_, rfl⟩
  rw [hN]
  obtain ⟨W3, hW3⟩ : ∃ W3, W3 = (((w.alloc (.cells (cells8 g) 23)).alloc (.cells (cells8 g) 25)).alloc (.cells (cells8 g) 25)).drew := ⟨_, rfl⟩
  obtain ⟨s3, b3, q0, q1, q2⟩ := allocs3 w _ _ _ W3 hW3 N hN
  have r0 : RowAt W3 N 23 g := ⟨q0, hg⟩
  have r1 : RowAt W3 (N + 1) 25 g := ⟨q1, hg⟩
  have r2 : RowAt W3 (N + 2) 25 g := ⟨q2, hg⟩
  have ht3 : TabW W3 := ht.below (by rw [hN]; exact b3)
  have HT3 := hide ht3
  have hN0 := ht.lt
  rw [hN] at hN0
  have R0 := hide r0
  have R1 := hide r1
  have R2 := hide r2
  have B3 := hide b3
  have HW := hide hW3
  have S3 := hide s3
  have N0 := hide hN0
  have cS := fun b f w h => set_any b f w h I M hr
  have cC := fun b f w h => clear_any b f w h I M hr
  rw [hI, hM] at cS cC
  have cS := hide cS
  have cC := hide cC
  obtain ⟨f, hf⟩ : ∃ f, f = bitW g := ⟨_, rfl⟩
  have gf : ∀ j, j < 512 → bitW g j = f j := fun j _ => by rw [hf]
  have GF := hide gf
  have HG := hide hg
  have HI := hide hI
  have HM := hide hM
  have HR := hide hr
  have i0 : 0 ≤ i := by omega
  have n0 : 0 ≤ n := by omega
  have in0 : i + n ≤ 512 := by omega
  have x0 := r0.cell 0 (by omega)
  have x1 := r0.cell 1 (by omega)
  have x2 := r0.cell 2 (by omega)
  have x3 := r0.cell 3 (by omega)
  have x4 := r0.cell 4 (by omega)
  have x5 := r0.cell 5 (by omega)
  have x6 := r0.cell 6 (by omega)
  have x7 := r0.cell 7 (by omega)
  clear hr ht hg hW3 s3 b3 q0 q1 q2 r0 r1 r2 ht3 hN0 gf hf hI hM
  unfold words cells8
  go_enter Tryd.func7, Tryd.ntmps7
  go_wp2_with fail
  go_region
  all_goals clear x0 x1 x2 x3 x4 x5 x6 x7
  · have hw := HW.out
    unfold cells8 at hw
    rw [← hw]
    clear hw HW
    simp only [Nat.add_assoc, Nat.reduceAdd]
    go_wp2_with fail
    refine (cC.out (N + 1) f W3 ⟨g, R1.out, GF.out⟩).mono ?_
    rintro e w4 ⟨rfl, ra4, k4⟩
    have rb4 := R2.out.kept k4 (by omega)
    have rn4 := R0.out.kept k4 (by omega)
    have t4 := HT3.out.kept k4 (by have := N0.out; omega)
    have b4 := hide (below_kept B3.out k4 (fun x hx => by omega) (by have := S3.out; omega))
    have A4 := hide ra4
    have RB4 := hide rb4
    have RN4 := hide rn4
    have T4 := hide t4
    clear ra4 k4 rb4 rn4 t4 B3
    go_wp2_with fail
    refine (cS.out (N + 1) _ w4 A4.out).mono ?_
    rintro e w5 ⟨rfl, ra5, k5⟩
    have rb5 := RB4.out.kept k5 (by omega)
    have rn5 := RN4.out.kept k5 (by omega)
    have t5 := T4.out.kept k5 (by have := N0.out; omega)
    have b5 := hide (below_kept b4.out k5 (fun x hx => by omega) (by have := RB4.out.lt; omega))
    have A5 := hide ra5
    have RB5 := hide rb5
    have RN5 := hide rn5
    have T5 := hide t5
    clear ra5 k5 rb5 rn5 t5 b4 A4 RB4 RN4 T4
    go_wp2_with fail
    refine (cS.out (N + 2) f w5 ⟨g, RB5.out, GF.out⟩).mono ?_
    rintro e w6 ⟨rfl, rb6, k6⟩
    have ra6 := A5.out.kept k6 (by omega)
    have rn6 := RN5.out.kept k6 (by omega)
    have T6 := hide (T5.out.kept k6 (by have := N0.out; omega))
    have b6 := hide (below_kept b5.out k6 (fun x hx => by omega) (by have := RB5.out.lt; omega))
    obtain ⟨ga, hra, hfa⟩ := ra6
    obtain ⟨gb, hrb, hfb⟩ := rb6
    have hrb' := words_eq hra hrb (f := setF f I M) (fun j hj => by rw [hfa j hj]; exact twice_bits f I M j) hfb
    have x0 := hra.cell 0 (by omega)
    have x1 := hra.cell 1 (by omega)
    have x2 := hra.cell 2 (by omega)
    have x3 := hra.cell 3 (by omega)
    have x4 := hra.cell 4 (by omega)
    have x5 := hra.cell 5 (by omega)
    have x6 := hra.cell 6 (by omega)
    have x7 := hra.cell 7 (by omega)
    have y0 := hrb'.cell 0 (by omega)
    have y1 := hrb'.cell 1 (by omega)
    have y2 := hrb'.cell 2 (by omega)
    have y3 := hrb'.cell 3 (by omega)
    have y4 := hrb'.cell 4 (by omega)
    have y5 := hrb'.cell 5 (by omega)
    have y6 := hrb'.cell 6 (by omega)
    have y7 := hrb'.cell 7 (by omega)
    have z0 := rn6.cell 0 (by omega)
    have z1 := rn6.cell 1 (by omega)
    have z2 := rn6.cell 2 (by omega)
    have z3 := rn6.cell 3 (by omega)
    have z4 := rn6.cell 4 (by omega)
    have z5 := rn6.cell 5 (by omega)
    have z6 := rn6.cell 6 (by omega)
    have z7 := rn6.cell 7 (by omega)
    have A6 := hide (show RowF w6 (N + 1) (setF f I M) from ⟨ga, hra, fun j hj => by rw [hfa j hj]; exact twice_bits f I M j⟩)
    have L6 := hide hra.lt
    have RN6 := hide rn6
    have LB := hide hrb.lt
    clear hra hrb hfa hfb hrb' rn6 k6 A5 RB5 RN5 T5 b5
    go_wp2_with fail
    obtain ⟨W7, hW7⟩ : ∃ W7, w6.alloc (.cells (cells8 g) 25) = W7 := ⟨_, rfl⟩
    have k7 : Below w6.heap.size w6 W7 := by rw [← hW7]; exact (Below.refl _ _).alloc (Nat.le_refl _) _
    have rw7 : RowF W7 w6.heap.size f := ⟨g, ⟨by rw [← hW7]; exact World.alloc_heap_new w6 _, HG.out⟩, GF.out⟩
    have A7 := hide (A6.out.below k7)
    have T7 := hide (T6.out.below k7)
    have B7 := hide (b6.out.trans (k7.mono (by have := L6.out; omega)))
    have RW7 := hide rw7
    unfold cells8 at hW7
    rw [hW7]
    clear hW7 k7 rw7 A6 T6 b6 x0 x1 x2 x3 x4 x5 x6 x7 y0 y1 y2 y3 y4 y5 y6 y7 z0 z1 z2 z3 z4 z5 z6 z7
    obtain ⟨Q, hQ⟩ : ∃ Q, w6.heap.size = Q := ⟨_, rfl⟩
    rw [hQ] at RW7 ⊢
    go_wp2_with fail
    go_loop [13] (fun v => ∃ k : Int, v = .int .i64 k ∧ 0 ≤ k ∧ k ≤ 512) (fun v => (512 - intOf v).toNat)
    case atStart => exact ⟨0, rfl, by omega, by omega⟩
    case round =>
      obtain ⟨k, rfl, k0, k1⟩ := hrel
      by_cases hlt : k < 512
      · have cA := hide (get_int (N + 1) _ W7 A7.out k k0 hlt)
        have cW := hide (get_int Q _ W7 RW7.out k k0 hlt)
        by_cases l1 : i ≤ k
        · by_cases l2 : k < i + n
          · have hf : setF f I M k.toNat = true := by unfold setF; rw [decide_eq_true (by have := HI.out; have := HM.out; omega)]; simp
            rw [hf] at cA
            have CA := hide cA
            clear hf cA
            go_wp2_with fail
            refine (CA.out.out).mono ?_
            rintro e w' ⟨rfl, hw'⟩; rw [hw']; clear hw' w'
            go_wp2_with fail
            refine ⟨⟨k + 1, rfl, by omega, by omega⟩, ?_⟩
            simp [intOf]; omega
          · have hf : setF f I M k.toNat = f k.toNat := by unfold setF; rw [decide_eq_false (by have := HI.out; have := HM.out; omega)]; simp
            have l3 : decide (k < i + n) = false := decide_eq_false l2
            rw [hf] at cA
            have CA := hide cA
            clear hf cA l2
            go_wp2_with fail
            refine (CA.out.out).mono ?_
            rintro e w' ⟨rfl, hw'⟩; rw [hw']; clear hw' w'
            go_wp2_with fail
            refine (cW.out).mono ?_
            rintro e w' ⟨rfl, hw'⟩; rw [hw']; clear hw' w'
            go_wp2_with fail
            refine ⟨⟨k + 1, rfl, by omega, by omega⟩, ?_⟩
            simp [intOf]; omega
        · have hf : setF f I M k.toNat = f k.toNat := by unfold setF; rw [decide_eq_false (by have := HI.out; have := HM.out; omega)]; simp
          have l3 : decide (i ≤ k) = false := decide_eq_false l1
          rw [hf] at cA
          have CA := hide cA
          clear hf cA l1
          go_wp2_with fail
          refine (CA.out.out).mono ?_
          rintro e w' ⟨rfl, hw'⟩; rw [hw']; clear hw' w'
          go_wp2_with fail
          refine (cW.out).mono ?_
          rintro e w' ⟨rfl, hw'⟩; rw [hw']; clear hw' w'
          go_wp2_with fail
          refine ⟨⟨k + 1, rfl, by omega, by omega⟩, ?_⟩
          simp [intOf]; omega
      · have hge : 512 ≤ k := by omega
        clear hlt
        have cc : cnt (setF f I M) I M = M := cnt_full.2 fun q hq => by unfold setF; rw [decide_eq_true (by omega)]; simp
        have cC := count_any (N + 1) _ W7 A7.out I M (by have := HR.out; omega)
        rw [cc, HI.out, HM.out] at cC
        have CC := hide cC
        clear cC cc
        go_wp2_with fail
        refine CC.out.mono ?_
        rintro e w8 ⟨rfl, b8⟩
        have T8 := hide (T7.out.below b8)
        have B8 := hide (B7.out.trans (b8.mono (by have := A7.out.lt; omega)))
        clear b8 CC
        go_wp2_with fail
        refine (awake_any _ T8.out).mono ?_
        rintro e w9 ⟨rfl, b9⟩
        have B9 := hide (B8.out.trans (b9.mono (by have := B8.out.size; have := A7.out.lt; have := B7.out; omega)))
        clear b9
        go_wp2_with fail
        go_ret
        exact ⟨rfl, B9.out⟩
  · have hw := HW.out
    unfold cells8 at hw
    rw [← hw]
    clear hw HW
    simp only [Nat.add_assoc, Nat.reduceAdd]
    go_wp2_with fail
    refine (cC.out (N + 2) f W3 ⟨g, R2.out, GF.out⟩).mono ?_
    rintro e w4 ⟨rfl, ra4, k4⟩
    have rb4 := R1.out.kept k4 (by omega)
    have rn4 := R0.out.kept k4 (by omega)
    have t4 := HT3.out.kept k4 (by have := N0.out; omega)
    have b4 := hide (below_kept B3.out k4 (fun x hx => by omega) (by have := S3.out; omega))
    have A4 := hide ra4
    have RB4 := hide rb4
    have RN4 := hide rn4
    have T4 := hide t4
    clear ra4 k4 rb4 rn4 t4 B3
    go_wp2_with fail
    refine (cS.out (N + 2) _ w4 A4.out).mono ?_
    rintro e w5 ⟨rfl, ra5, k5⟩
    have rb5 := RB4.out.kept k5 (by omega)
    have rn5 := RN4.out.kept k5 (by omega)
    have t5 := T4.out.kept k5 (by have := N0.out; omega)
    have b5 := hide (below_kept b4.out k5 (fun x hx => by omega) (by have := RB4.out.lt; omega))
    have A5 := hide ra5
    have RB5 := hide rb5
    have RN5 := hide rn5
    have T5 := hide t5
    clear ra5 k5 rb5 rn5 t5 b4 A4 RB4 RN4 T4
    go_wp2_with fail
    refine (cS.out (N + 1) f w5 ⟨g, RB5.out, GF.out⟩).mono ?_
    rintro e w6 ⟨rfl, rb6, k6⟩
    have ra6 := A5.out.kept k6 (by omega)
    have rn6 := RN5.out.kept k6 (by omega)
    have T6 := hide (T5.out.kept k6 (by have := N0.out; omega))
    have b6 := hide (below_kept b5.out k6 (fun x hx => by omega) (by have := RB5.out.lt; omega))
    obtain ⟨ga, hra, hfa⟩ := ra6
    obtain ⟨gb, hrb, hfb⟩ := rb6
    have hrb' := words_eq hra hrb (f := setF f I M) (fun j hj => by rw [hfa j hj]; exact twice_bits f I M j) hfb
    have x0 := hra.cell 0 (by omega)
    have x1 := hra.cell 1 (by omega)
    have x2 := hra.cell 2 (by omega)
    have x3 := hra.cell 3 (by omega)
    have x4 := hra.cell 4 (by omega)
    have x5 := hra.cell 5 (by omega)
    have x6 := hra.cell 6 (by omega)
    have x7 := hra.cell 7 (by omega)
    have y0 := hrb'.cell 0 (by omega)
    have y1 := hrb'.cell 1 (by omega)
    have y2 := hrb'.cell 2 (by omega)
    have y3 := hrb'.cell 3 (by omega)
    have y4 := hrb'.cell 4 (by omega)
    have y5 := hrb'.cell 5 (by omega)
    have y6 := hrb'.cell 6 (by omega)
    have y7 := hrb'.cell 7 (by omega)
    have z0 := rn6.cell 0 (by omega)
    have z1 := rn6.cell 1 (by omega)
    have z2 := rn6.cell 2 (by omega)
    have z3 := rn6.cell 3 (by omega)
    have z4 := rn6.cell 4 (by omega)
    have z5 := rn6.cell 5 (by omega)
    have z6 := rn6.cell 6 (by omega)
    have z7 := rn6.cell 7 (by omega)
    have A6 := hide (show RowF w6 (N + 2) (setF f I M) from ⟨ga, hra, fun j hj => by rw [hfa j hj]; exact twice_bits f I M j⟩)
    have L6 := hide hra.lt
    have RN6 := hide rn6
    have LB := hide hrb.lt
    clear hra hrb hfa hfb hrb' rn6 k6 A5 RB5 RN5 T5 b5
    go_wp2_with fail
    obtain ⟨W7, hW7⟩ : ∃ W7, w6.alloc (.cells (cells8 g) 25) = W7 := ⟨_, rfl⟩
    have k7 : Below w6.heap.size w6 W7 := by rw [← hW7]; exact (Below.refl _ _).alloc (Nat.le_refl _) _
    have rw7 : RowF W7 w6.heap.size f := ⟨g, ⟨by rw [← hW7]; exact World.alloc_heap_new w6 _, HG.out⟩, GF.out⟩
    have A7 := hide (A6.out.below k7)
    have T7 := hide (T6.out.below k7)
    have B7 := hide (b6.out.trans (k7.mono (by have := L6.out; omega)))
    have RW7 := hide rw7
    unfold cells8 at hW7
    rw [hW7]
    clear hW7 k7 rw7 A6 T6 b6 x0 x1 x2 x3 x4 x5 x6 x7 y0 y1 y2 y3 y4 y5 y6 y7 z0 z1 z2 z3 z4 z5 z6 z7
    obtain ⟨Q, hQ⟩ : ∃ Q, w6.heap.size = Q := ⟨_, rfl⟩
    rw [hQ] at RW7 ⊢
    go_wp2_with fail
    go_loop [13] (fun v => ∃ k : Int, v = .int .i64 k ∧ 0 ≤ k ∧ k ≤ 512) (fun v => (512 - intOf v).toNat)
    case atStart => exact ⟨0, rfl, by omega, by omega⟩
    case round =>
      obtain ⟨k, rfl, k0, k1⟩ := hrel
      by_cases hlt : k < 512
      · have cA := hide (get_int (N + 2) _ W7 A7.out k k0 hlt)
        have cW := hide (get_int Q _ W7 RW7.out k k0 hlt)
        by_cases l1 : i ≤ k
        · by_cases l2 : k < i + n
          · have hf : setF f I M k.toNat = true := by unfold setF; rw [decide_eq_true (by have := HI.out; have := HM.out; omega)]; simp
            rw [hf] at cA
            have CA := hide cA
            clear hf cA
            go_wp2_with fail
            refine (CA.out.out).mono ?_
            rintro e w' ⟨rfl, hw'⟩; rw [hw']; clear hw' w'
            go_wp2_with fail
            refine ⟨⟨k + 1, rfl, by omega, by omega⟩, ?_⟩
            simp [intOf]; omega
          · have hf : setF f I M k.toNat = f k.toNat := by unfold setF; rw [decide_eq_false (by have := HI.out; have := HM.out; omega)]; simp
            have l3 : decide (k < i + n) = false := decide_eq_false l2
            rw [hf] at cA
            have CA := hide cA
            clear hf cA l2
            go_wp2_with fail
            refine (CA.out.out).mono ?_
            rintro e w' ⟨rfl, hw'⟩; rw [hw']; clear hw' w'
            go_wp2_with fail
            refine (cW.out).mono ?_
            rintro e w' ⟨rfl, hw'⟩; rw [hw']; clear hw' w'
            go_wp2_with fail
            refine ⟨⟨k + 1, rfl, by omega, by omega⟩, ?_⟩
            simp [intOf]; omega
        · have hf : setF f I M k.toNat = f k.toNat := by unfold setF; rw [decide_eq_false (by have := HI.out; have := HM.out; omega)]; simp
          have l3 : decide (i ≤ k) = false := decide_eq_false l1
          rw [hf] at cA
          have CA := hide cA
          clear hf cA l1
          go_wp2_with fail
          refine (CA.out.out).mono ?_
          rintro e w' ⟨rfl, hw'⟩; rw [hw']; clear hw' w'
          go_wp2_with fail
          refine (cW.out).mono ?_
          rintro e w' ⟨rfl, hw'⟩; rw [hw']; clear hw' w'
          go_wp2_with fail
          refine ⟨⟨k + 1, rfl, by omega, by omega⟩, ?_⟩
          simp [intOf]; omega
      · have hge : 512 ≤ k := by omega
        clear hlt
        have cc : cnt (setF f I M) I M = M := cnt_full.2 fun q hq => by unfold setF; rw [decide_eq_true (by omega)]; simp
        have cC := count_any (N + 2) _ W7 A7.out I M (by have := HR.out; omega)
        rw [cc, HI.out, HM.out] at cC
        have CC := hide cC
        clear cC cc
        go_wp2_with fail
        refine CC.out.mono ?_
        rintro e w8 ⟨rfl, b8⟩
        have T8 := hide (T7.out.below b8)
        have B8 := hide (B7.out.trans (b8.mono (by have := A7.out.lt; omega)))
        clear b8 CC
        go_wp2_with fail
        refine (awake_any _ T8.out).mono ?_
        rintro e w9 ⟨rfl, b9⟩
        have B9 := hide (B8.out.trans (b9.mono (by have := B8.out.size; have := A7.out.lt; have := B7.out; omega)))
        clear b9
        go_wp2_with fail
        go_ret
        exact ⟨rfl, B9.out⟩
theorem twice_any (g : Nat → Nat) (hg : ∀ k, g k < 18446744073709551616) (i n : Int) (hi : -9223372036854775808 ≤ i) (w : World) (ht : TabW w) :
    Calls Tryd.prog 7 #[words g, .int .i64 i, .int .i64 n] w fun e w' => e = .returned (.bool true) ∧ Below w.heap.size w w' := by
  by_cases hr : Right i n
  · obtain ⟨h1, h2, h3, h4⟩ := hr
    exact twice_good g hg i n i.toNat n.toNat (by omega) (by omega) (by omega) w ht
  · exact twice_bad g hg i n hi hr w ht
end Go.Proofs.YtgbfkmkinhlimaaDoor
