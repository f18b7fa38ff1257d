/- A chunk and the reference's beside one another: same: its contract. -/
import Derived.Test.YtgjgcdbhppaigaaDoorPa
import Derived.Test.YtgjgcdbhppaigaaDoorCo
namespace Go.Proofs.YtgjgcdbhppaigaaDoor
open Go.ChangeShapes Go.WideShapes Go.ChangeAt Go.RowKit Go.Proofs.Bt Go.Shelf
set_option linter.unusedVariables false
set_option linter.unusedSimpArgs false

theorem words_eq {g g' : Nat → Nat} {f : Nat → Bool} (h : ∀ k, g k < 18446744073709551616) (h' : ∀ k, g' k < 18446744073709551616) (e : ∀ i, i < 512 → bitW g i = f i) (e' : ∀ i, i < 512 → bitW g' i = f i) : cells8 g = cells8 g' := by
  have key : ∀ k, k < 8 → g k = g' k := fun k hk => eq_of_bits (h k) (h' k) fun q hq => by
    have h1 := e (64 * k + q) (by omega)
    have h2 := e' (64 * k + q) (by omega)
    rw [bitW_at _ _ _ hq] at h1 h2
    rw [h1, h2]
  unfold cells8
  rw [key 0 (by omega), key 1 (by omega), key 2 (by omega), key 3 (by omega), key 4 (by omega), key 5 (by omega), key 6 (by omega), key 7 (by omega)]
theorem wordsR_any (b ro : Nat) (f : Nat → Bool) (w : World) (h : BoolAt w b ro f) (g : Nat → Nat) (hg : ∀ k, g k < 18446744073709551616) (e : ∀ i, i < 512 → bitW g i = f i) :
    Calls Tryd.prog 30 #[.pointer (some ⟨b, ro, none⟩)] w fun r w' => r = .returned (.agg #[.int .u64 ((g 0 : Nat) : Int), .int .u64 ((g 1 : Nat) : Int), .int .u64 ((g 2 : Nat) : Int), .int .u64 ((g 3 : Nat) : Int), .int .u64 ((g 4 : Nat) : Int), .int .u64 ((g 5 : Nat) : Int), .int .u64 ((g 6 : Nat) : Int), .int .u64 ((g 7 : Nat) : Int)]) ∧ Below w.heap.size w w' :=
  (words_any b ro f w h).mono fun r w' ⟨g', hr, h1, h2, k⟩ => ⟨by rw [hr]; unfold words; rw [words_eq h1 hg h2 e]; rfl, k⟩
theorem xor_lt {a b : Nat} (h : a < 18446744073709551616) (h' : b < 18446744073709551616) : a ^^^ b < 18446744073709551616 := lt_of_bits fun k hk => by rw [Nat.testBit_xor, bit_high h hk, bit_high h' hk]; rfl
set_option maxRecDepth 100000 in
set_option maxHeartbeats 8000000 in
theorem same_any (W : World) (c r : Nat) (u g : Nat → Bool) (h : Pr W c r u g) (ht : TabW W) :
    Calls Tryd.prog 11 #[.pointer (some ⟨c, 0, none⟩), .pointer (some ⟨r, 0, none⟩)] W fun e w' => e = .returned (.bool true) ∧ Below W.heap.size W w' := by
  have cR := rows_any c u g W h.l
  have HP := hide h
  have HT := hide ht
  clear h ht
  go_enter Tryd.func11, Tryd.ntmps11
  go_wp2_with fail
  go_at_call 16
  refine cR.mono ?_
  rintro e w1 ⟨gu, gg, rfl, fu, fg, bu, bg, k1⟩
  have FU := hide fu
  have FG := hide fg
  have BU := hide bu
  have BG := hide bg
  have K1 := hide k1
  clear cR fu fg bu bg k1
  obtain ⟨w2, hw2⟩ : ∃ w2, w2 = (w1.alloc (.cells (cells8 gu) 41)).alloc (.cells (cells8 gg) 41) := ⟨_, rfl⟩
  obtain ⟨B, hB⟩ : ∃ B, w1.heap.size = B := ⟨_, rfl⟩
  have k2 : Below w1.heap.size w1 w2 := by rw [hw2]; exact ((Below.refl _ w1).alloc (Nat.le_refl _) _).alloc (by simp) _
  have z0 : w2.heap[B]? = some (.cells (cells8 gu) 41 (0, 0)) := by rw [hw2, ← hB, alloc_at, if_neg (by simp), alloc_at, if_pos rfl]
  have z1 : w2.heap[B + 1]? = some (.cells (cells8 gg) 41 (0, 0)) := by rw [hw2, ← hB, alloc_at, if_pos (by simp)]
  have r0 := new8 z0 FU.out
  have r1 := new8 z1 FG.out
  have CEL := hide (show ∀ X, Below w2.heap.size w2 X → (X.cell? ⟨B, 0, none⟩ = some (.int .u64 ((gu 0 : Nat) : Int)) ∧ X.cell? ⟨B, 1, none⟩ = some (.int .u64 ((gu 1 : Nat) : Int)) ∧ X.cell? ⟨B, 2, none⟩ = some (.int .u64 ((gu 2 : Nat) : Int)) ∧ X.cell? ⟨B, 3, none⟩ = some (.int .u64 ((gu 3 : Nat) : Int)) ∧ X.cell? ⟨B, 4, none⟩ = some (.int .u64 ((gu 4 : Nat) : Int)) ∧ X.cell? ⟨B, 5, none⟩ = some (.int .u64 ((gu 5 : Nat) : Int)) ∧ X.cell? ⟨B, 6, none⟩ = some (.int .u64 ((gu 6 : Nat) : Int)) ∧ X.cell? ⟨B, 7, none⟩ = some (.int .u64 ((gu 7 : Nat) : Int)) ∧ X.cell? ⟨(B + 1), 0, none⟩ = some (.int .u64 ((gg 0 : Nat) : Int)) ∧ X.cell? ⟨(B + 1), 1, none⟩ = some (.int .u64 ((gg 1 : Nat) : Int)) ∧ X.cell? ⟨(B + 1), 2, none⟩ = some (.int .u64 ((gg 2 : Nat) : Int)) ∧ X.cell? ⟨(B + 1), 3, none⟩ = some (.int .u64 ((gg 3 : Nat) : Int)) ∧ X.cell? ⟨(B + 1), 4, none⟩ = some (.int .u64 ((gg 4 : Nat) : Int)) ∧ X.cell? ⟨(B + 1), 5, none⟩ = some (.int .u64 ((gg 5 : Nat) : Int)) ∧ X.cell? ⟨(B + 1), 6, none⟩ = some (.int .u64 ((gg 6 : Nat) : Int)) ∧ X.cell? ⟨(B + 1), 7, none⟩ = some (.int .u64 ((gg 7 : Nat) : Int))) from fun X hX => by
    obtain ⟨c0, c1, c2, c3, c4, c5, c6, c7⟩ := (r0.below hX).all0
    obtain ⟨d0, d1, d2, d3, d4, d5, d6, d7⟩ := (r1.below hX).all0
    exact ⟨c0, c1, c2, c3, c4, c5, c6, c7, d0, d1, d2, d3, d4, d5, d6, d7⟩)
  have ALL := hide (show ∀ X, Below w2.heap.size w2 X → Pr X c r u g ∧ TabW X from fun X hX => ⟨((HP.out.below K1.out).below k2).below hX, ((HT.out.below K1.out).below k2).below hX⟩)
  have R0 := hide r0
  have R1 := hide r1
  have K2 := hide (K1.out.trans (k2.mono K1.out.size))
  have V := hide (drew_below w2)
  have h2 := hw2
  unfold cells8 at h2
  have W2 := hide h2
  clear k2 z0 z1 r0 r1 hw2 h2
  have q0 := eqWords (gu 0) (gu 1) (gu 2) (gu 3) (gu 4) (gu 5) (gu 6) (gu 7)
  have q1 := eqWords (gg 0) (gg 1) (gg 2) (gg 3) (gg 4) (gg 5) (gg 6) (gg 7)
  unfold words cells8
  go_wp2_with fail
  rw [← W2.out]
  clear W2
  have T1 := hide True.intro
  go_region_held3 (fun w' => w'.cell? ⟨B, 0, none⟩ = some (.int .u64 ((gu 0 : Nat) : Int)) ∧ w'.cell? ⟨B, 1, none⟩ = some (.int .u64 ((gu 1 : Nat) : Int)) ∧ w'.cell? ⟨B, 2, none⟩ = some (.int .u64 ((gu 2 : Nat) : Int)) ∧ w'.cell? ⟨B, 3, none⟩ = some (.int .u64 ((gu 3 : Nat) : Int)) ∧ w'.cell? ⟨B, 4, none⟩ = some (.int .u64 ((gu 4 : Nat) : Int)) ∧ w'.cell? ⟨B, 5, none⟩ = some (.int .u64 ((gu 5 : Nat) : Int)) ∧ w'.cell? ⟨B, 6, none⟩ = some (.int .u64 ((gu 6 : Nat) : Int)) ∧ w'.cell? ⟨B, 7, none⟩ = some (.int .u64 ((gu 7 : Nat) : Int)) ∧ w'.cell? ⟨(B + 1), 0, none⟩ = some (.int .u64 ((gg 0 : Nat) : Int)) ∧ w'.cell? ⟨(B + 1), 1, none⟩ = some (.int .u64 ((gg 1 : Nat) : Int)) ∧ w'.cell? ⟨(B + 1), 2, none⟩ = some (.int .u64 ((gg 2 : Nat) : Int)) ∧ w'.cell? ⟨(B + 1), 3, none⟩ = some (.int .u64 ((gg 3 : Nat) : Int)) ∧ w'.cell? ⟨(B + 1), 4, none⟩ = some (.int .u64 ((gg 4 : Nat) : Int)) ∧ w'.cell? ⟨(B + 1), 5, none⟩ = some (.int .u64 ((gg 5 : Nat) : Int)) ∧ w'.cell? ⟨(B + 1), 6, none⟩ = some (.int .u64 ((gg 6 : Nat) : Int)) ∧ w'.cell? ⟨(B + 1), 7, none⟩ = some (.int .u64 ((gg 7 : Nat) : Int))) (exact CEL.out _ V.out) (first
    | (go_at_call 30; clear T1; refine (wordsR_any r 0 u _ (ALL.out _ V.out).1.q.used gu FU.out BU.out).mono ?_; rintro e x1 ⟨rfl, v1⟩; have V := hide (V.out.trans (v1.mono V.out.size)); clear v1)
    | (go_at_call 30; refine (wordsR_any r 512 g _ (ALL.out _ V.out).1.q.gone gg FG.out BG.out).mono ?_; rintro e x2 ⟨rfl, v2⟩; have V := hide (V.out.trans (v2.mono V.out.size)); clear v2)
    | (go_at_call 22; refine (sumC_any c u g _ (ALL.out _ V.out).1.l (ALL.out _ V.out).2).mono ?_; rintro e x3 ⟨s, m, n, rfl, p3, v3⟩; have P3 := hide p3; have V := hide (V.out.trans (v3.mono V.out.size)); clear v3 p3; unfold sumV)
    | (go_at_call 31; refine (sumRef_any r 0 u _ (ALL.out _ V.out).1.q.used).mono ?_; rintro e x4 ⟨s', m', n', rfl, p4, v4⟩; obtain ⟨rfl, rfl, rfl⟩ := P3.out.one p4; have V := hide (V.out.trans (v4.mono V.out.size)); clear v4 p4; unfold sumV)
    | (go_at_call 20; refine (free_any c u g _ (ALL.out _ V.out).1.l).mono ?_; rintro e x5 ⟨rfl, v5⟩; have V := hide (V.out.trans (v5.mono V.out.size)); clear v5)
    | (go_at_call 32; refine (freeR_any r u g _ (ALL.out _ V.out).1.q).mono ?_; rintro e x6 ⟨rfl, v6⟩; rw [v6]; clear v6 x6)
    | (go_at_call 17; refine (released_any c u g _ (ALL.out _ V.out).1.l).mono ?_; rintro e x7 ⟨rfl, v7⟩; have V := hide (V.out.trans (v7.mono V.out.size)); clear v7)
    | (go_at_call 33; refine (releasedR_any r u g _ (ALL.out _ V.out).1.q).mono ?_; rintro e x8 ⟨rfl, v8⟩; rw [v8]; clear v8 x8))
  have Y0 := hide (R0.out.below V.out)
  have Y1 := hide (R1.out.below V.out)
  have YK := hide (K2.out.trans (V.out.mono K2.out.size))
  have YA := hide (ALL.out _ V.out)
  have lc := HP.out.l.lt
  have lr := HP.out.q.lt
  have lb : W.heap.size ≤ B := by rw [← hB]; exact K1.out.size
  have LC := hide (show c < B ∧ r < B ∧ W.heap.size ≤ B by omega)
  clear CEL ALL R0 R1 K2 V K1 P3 HP HT lc lr lb hB
  have c0 := Y0.out.cell 0 (by omega)
  have f0 := Y0.out.frozen 0 (by omega)
  have c3 := Y1.out.cell 3 (by omega)
  have f3 := Y1.out.frozen 3 (by omega)
  simp only [Nat.zero_add] at c0 f0 c3 f3
  generalize x7 = X at *
  go_wp2_with fail
  go_at_call 16
  have e1 : IntKind.u64.wrap (((gu 0 : Nat) : Int) + 1) = (((gu 0 + 1) % 18446744073709551616 : Nat) : Int) := by rw [IntKind.wrap_u64]; omega
  have e2 : bits BinOp.xor IntKind.u64 ((gg 3 : Nat) : Int) 9 = ((gg 3 ^^^ 9 : Nat) : Int) := bits_xor_u64_nat (gg 3) 9 (FG.out 3) (by omega)
  have s0 := Y0.out.set 0 ((gu 0 + 1) % 18446744073709551616) (by omega) (by omega)
  have j0 := kept_set (F := fun x => x = B ∨ x = B + 1) X B 0 (.int .u64 (((gu 0 + 1) % 18446744073709551616 : Nat) : Int)) (.inl rfl)
  have s1 := (Y1.out.kept (kept_set (F := fun x => x = B) X B 0 (.int .u64 (((gu 0 + 1) % 18446744073709551616 : Nat) : Int)) rfl) (by omega)).set 3 (gg 3 ^^^ 9) (by omega) (xor_lt (FG.out 3) (by omega))
  have j1 := kept_set (F := fun x => x = B ∨ x = B + 1) (X.setCell ⟨B, 0, none⟩ (.int .u64 (((gu 0 + 1) % 18446744073709551616 : Nat) : Int))) (B + 1) 3 (.int .u64 ((gg 3 ^^^ 9 : Nat) : Int)) (.inr rfl)
  have j2 := kept_set (F := fun x => x = B + 1) (X.setCell ⟨B, 0, none⟩ (.int .u64 (((gu 0 + 1) % 18446744073709551616 : Nat) : Int))) (B + 1) 3 (.int .u64 ((gg 3 ^^^ 9 : Nat) : Int)) rfl
  simp only [Nat.zero_add] at s0 s1
  rw [e1, e2]
  have s0' := s0.kept j2 (by omega)
  have jj := j0.trans j1 (fun _ _ h => h)
  obtain ⟨X4, hX4⟩ : ∃ X4, X4 = (X.setCell ⟨B, 0, none⟩ (.int .u64 (((gu 0 + 1) % 18446744073709551616 : Nat) : Int))).setCell ⟨B + 1, 3, none⟩ (.int .u64 ((gg 3 ^^^ 9 : Nat) : Int)) := ⟨_, rfl⟩
  rw [← hX4] at s0' s1 jj ⊢
  have P4 := hide (YA.out.1.kept jj (by have := LC.out; omega) (by have := LC.out; omega))
  have K4 := hide (below_kept YK.out jj (fun x hx => by have := LC.out; omega) (by have := Y0.out.lt; have := LC.out; omega))
  refine (rows_any c u g X4 P4.out.l).mono ?_
  rintro e X5 ⟨gu', gg', rfl, fu', fg', bu', bg', k5⟩
  have eU : cells8 gu' = cells8 gu := words_eq fu' FU.out bu' BU.out
  have eG : cells8 gg' = cells8 gg := words_eq fg' FG.out bg' BG.out
  have Z0 := hide (s0'.below k5)
  have Z1 := hide (s1.below k5)
  have K5 := hide (K4.out.trans (k5.mono K4.out.size))
  have P5 := hide (P4.out.below k5)
  unfold words
  rw [eU, eG]
  unfold cells8
  clear e1 e2 s0 s1 s0' j0 j1 j2 jj hX4 k5 eU eG fu' fg' bu' bg' c0 f0 c3 f3 P4 K4 Y0 Y1 YK YA gu' gg'
  obtain ⟨x0, x1, x2, x3, x4, x5, x6, x7⟩ := Z0.out.all0
  obtain ⟨y0, y1, y2, y3, y4, y5, y6, y7⟩ := Z1.out.all0
  have p0 := Z0.out.frozen 0 (by omega)
  have o0 := Z1.out.frozen 0 (by omega)
  have p1 := Z0.out.frozen 1 (by omega)
  have o1 := Z1.out.frozen 1 (by omega)
  have p2 := Z0.out.frozen 2 (by omega)
  have o2 := Z1.out.frozen 2 (by omega)
  have p3 := Z0.out.frozen 3 (by omega)
  have o3 := Z1.out.frozen 3 (by omega)
  have p4 := Z0.out.frozen 4 (by omega)
  have o4 := Z1.out.frozen 4 (by omega)
  have p5 := Z0.out.frozen 5 (by omega)
  have o5 := Z1.out.frozen 5 (by omega)
  have p6 := Z0.out.frozen 6 (by omega)
  have o6 := Z1.out.frozen 6 (by omega)
  have p7 := Z0.out.frozen 7 (by omega)
  have o7 := Z1.out.frozen 7 (by omega)
  simp only [Nat.zero_add] at p0 o0 p1 o1 p2 o2 p3 o3 p4 o4 p5 o5 p6 o6 p7 o7
  have n0 : B ≠ B + 1 := by omega
  go_wp2_with fail
  have t0 := Z0.out.put8 FU.out
  have m0 := kept_put8 X5 B gu
  have t1 := (Z1.out.kept m0 (by omega)).put8 FG.out
  have m1 := kept_put8 (put8 X5 B gu) (B + 1) gg
  have t0' := t0.kept m1 (by omega)
  have mm := (m0.mono (G := fun x => x = B ∨ x = B + 1) (fun _ e => .inl e)).trans m1 (fun _ _ e => .inr e)
  obtain ⟨X6, hX6⟩ : ∃ X6, X6 = put8 (put8 X5 B gu) (B + 1) gg := ⟨_, rfl⟩
  rw [← hX6] at t1 t0' mm
  have P6 := hide (P5.out.kept mm (by have := LC.out; omega) (by have := LC.out; omega))
  have K6 := hide (below_kept K5.out mm (fun x hx => by have := LC.out; omega) (by have := Z0.out.lt; have := LC.out; omega))
  unfold put8 at hX6
  rw [← hX6]
  have CEL := hide (show ∀ Y, Below X6.heap.size X6 Y → (Y.cell? ⟨B, 0, none⟩ = some (.int .u64 ((gu 0 : Nat) : Int)) ∧ Y.cell? ⟨B, 1, none⟩ = some (.int .u64 ((gu 1 : Nat) : Int)) ∧ Y.cell? ⟨B, 2, none⟩ = some (.int .u64 ((gu 2 : Nat) : Int)) ∧ Y.cell? ⟨B, 3, none⟩ = some (.int .u64 ((gu 3 : Nat) : Int)) ∧ Y.cell? ⟨B, 4, none⟩ = some (.int .u64 ((gu 4 : Nat) : Int)) ∧ Y.cell? ⟨B, 5, none⟩ = some (.int .u64 ((gu 5 : Nat) : Int)) ∧ Y.cell? ⟨B, 6, none⟩ = some (.int .u64 ((gu 6 : Nat) : Int)) ∧ Y.cell? ⟨B, 7, none⟩ = some (.int .u64 ((gu 7 : Nat) : Int)) ∧ Y.cell? ⟨(B + 1), 0, none⟩ = some (.int .u64 ((gg 0 : Nat) : Int)) ∧ Y.cell? ⟨(B + 1), 1, none⟩ = some (.int .u64 ((gg 1 : Nat) : Int)) ∧ Y.cell? ⟨(B + 1), 2, none⟩ = some (.int .u64 ((gg 2 : Nat) : Int)) ∧ Y.cell? ⟨(B + 1), 3, none⟩ = some (.int .u64 ((gg 3 : Nat) : Int)) ∧ Y.cell? ⟨(B + 1), 4, none⟩ = some (.int .u64 ((gg 4 : Nat) : Int)) ∧ Y.cell? ⟨(B + 1), 5, none⟩ = some (.int .u64 ((gg 5 : Nat) : Int)) ∧ Y.cell? ⟨(B + 1), 6, none⟩ = some (.int .u64 ((gg 6 : Nat) : Int)) ∧ Y.cell? ⟨(B + 1), 7, none⟩ = some (.int .u64 ((gg 7 : Nat) : Int))) from fun Y hY => by
    obtain ⟨c0, c1, c2, c3, c4, c5, c6, c7⟩ := (t0'.below hY).all0
    obtain ⟨d0, d1, d2, d3, d4, d5, d6, d7⟩ := (t1.below hY).all0
    exact ⟨c0, c1, c2, c3, c4, c5, c6, c7, d0, d1, d2, d3, d4, d5, d6, d7⟩)
  have V := hide (drew_below X6)
  have T1 := hide True.intro
  clear t0 t1 t0' m0 m1 mm hX6 Z0 Z1 K5 P5 x0 x1 x2 x3 x4 x5 x6 x7 y0 y1 y2 y3 y4 y5 y6 y7 p0 o0 p1 o1 p2 o2 p3 o3 p4 o4 p5 o5 p6 o6 p7 o7
  go_region_held3 (fun w' => w'.cell? ⟨B, 0, none⟩ = some (.int .u64 ((gu 0 : Nat) : Int)) ∧ w'.cell? ⟨B, 1, none⟩ = some (.int .u64 ((gu 1 : Nat) : Int)) ∧ w'.cell? ⟨B, 2, none⟩ = some (.int .u64 ((gu 2 : Nat) : Int)) ∧ w'.cell? ⟨B, 3, none⟩ = some (.int .u64 ((gu 3 : Nat) : Int)) ∧ w'.cell? ⟨B, 4, none⟩ = some (.int .u64 ((gu 4 : Nat) : Int)) ∧ w'.cell? ⟨B, 5, none⟩ = some (.int .u64 ((gu 5 : Nat) : Int)) ∧ w'.cell? ⟨B, 6, none⟩ = some (.int .u64 ((gu 6 : Nat) : Int)) ∧ w'.cell? ⟨B, 7, none⟩ = some (.int .u64 ((gu 7 : Nat) : Int)) ∧ w'.cell? ⟨(B + 1), 0, none⟩ = some (.int .u64 ((gg 0 : Nat) : Int)) ∧ w'.cell? ⟨(B + 1), 1, none⟩ = some (.int .u64 ((gg 1 : Nat) : Int)) ∧ w'.cell? ⟨(B + 1), 2, none⟩ = some (.int .u64 ((gg 2 : Nat) : Int)) ∧ w'.cell? ⟨(B + 1), 3, none⟩ = some (.int .u64 ((gg 3 : Nat) : Int)) ∧ w'.cell? ⟨(B + 1), 4, none⟩ = some (.int .u64 ((gg 4 : Nat) : Int)) ∧ w'.cell? ⟨(B + 1), 5, none⟩ = some (.int .u64 ((gg 5 : Nat) : Int)) ∧ w'.cell? ⟨(B + 1), 6, none⟩ = some (.int .u64 ((gg 6 : Nat) : Int)) ∧ w'.cell? ⟨(B + 1), 7, none⟩ = some (.int .u64 ((gg 7 : Nat) : Int))) (exact CEL.out _ V.out) (first
    | (go_at_call 30; clear T1; refine (wordsR_any r 0 u _ (P6.out.below V.out).q.used gu FU.out BU.out).mono ?_; rintro e x1 ⟨rfl, v1⟩; have V := hide (V.out.trans (v1.mono V.out.size)); clear v1)
    | (go_at_call 30; refine (wordsR_any r 512 g _ (P6.out.below V.out).q.gone gg FG.out BG.out).mono ?_; rintro e x2 ⟨rfl, v2⟩; have V := hide (V.out.trans (v2.mono V.out.size)); clear v2))
  have FIN := hide (K6.out.trans (V.out.mono K6.out.size))
  go_wp2_with fail
  go_ret
  exact ⟨rfl, FIN.out⟩
end Go.Proofs.YtgjgcdbhppaigaaDoor
