/- BitsFind: its walk. -/
import Derived.Test.YtgbfkmkinhlimaaDoorRw
namespace Go.Proofs.YtgbfkmkinhlimaaDoor
open Go.ChangeShapes Go.WideShapes Go.ChangeAt Go.RowKit Go.Proofs.Bt Go.Shelf
set_option linter.unusedVariables false
set_option linter.unusedSimpArgs false
attribute [local go_sem] eqRow eqWords

/-- A row of truths in a variable of a law's own. -/
theorem ref_box (w : World) (f : Nat → Bool) :
    (w.alloc (.cells zs512 27)).there w.heap.size 0 (bools f).toArray.size ∧ BoolAt ((w.alloc (.cells zs512 27)).setCells w.heap.size 0 (bools f)) w.heap.size f ∧ Below w.heap.size w ((w.alloc (.cells zs512 27)).setCells w.heap.size 0 (bools f)) := by
  have z := bool_zero (World.alloc_heap_new w (.cells zs512 27))
  have hs : (bools f).toArray.size = 512 := by rw [List.size_toArray, bools_len]
  refine ⟨by rw [hs]; exact z.there, z.store, ?_⟩
  exact below_kept ((Below.refl _ w).alloc (Nat.le_refl _) _) (kept_cells (F := fun x => x = w.heap.size) w.heap.size rfl (bools f) 0 _) (fun x hx => by omega) (by simp)
/-- Both rows of a law. -/
structure LS (N Q : Nat) (w : World) (g : Nat → Nat) (W : World) : Prop where
  be : Below N w W
  rg : RowAt W (N + 1) 25 g
  c8 : RowAt W N 23 g
  q : BoolAt W Q (bitW g)
  ta : TabW W
theorem LS.ro {N Q : Nat} {w : World} {g : Nat → Nat} {W : World} (h : LS N Q w g W) : RowF W (N + 1) (bitW g) := ⟨g, h.rg, fun _ _ => rfl⟩
theorem LS.next {N Q : Nat} {w : World} {g : Nat → Nat} {W W' : World} (h : LS N Q w g W) (k : Below W.heap.size W W') : LS N Q w g W' :=
  ⟨h.be.trans (k.mono (by have := h.rg.lt; omega)), h.rg.below k, h.c8.below k, h.q.below k, h.ta.below k⟩

set_option maxRecDepth 100000 in
set_option maxHeartbeats 1000000 in
theorem findLaw_any (g : Nat → Nat) (hg : ∀ k, g k < 18446744073709551616) (n from_ i k : Int) (hn' : n ≤ 9223372036854775807) (hf : from_ ≤ 9223372036854775807) (hi : -9223372036854775808 ≤ i) (w : World) (ht : TabW w) :
    Calls Tryd.prog 4 #[words g, .int .i64 n, .int .i64 from_, .int .i64 i, .int .i64 k] w fun e w' => e = .returned (.bool true) ∧ Below w.heap.size w w' := by
  obtain ⟨N, hN⟩ : ∃ N, w.heap.size = N := ⟨_, rfl⟩
  rw [hN]
  obtain ⟨w2, hw2⟩ : ∃ w2, w2 = (w.alloc (.cells (cells8 g) 23)).alloc (.cells (cells8 g) 25) := ⟨_, rfl⟩
  obtain ⟨s2, q2⟩ := st_start g hg w ht w2 hw2 N hN
  have r2 : RowAt w2 (N + 1) 25 g := ⟨by rw [hw2, alloc_at, if_pos (by simp; omega)]; rfl, hg⟩
  have n2 : RowAt w2 N 23 g := ⟨q2, hg⟩
  have hQ : ∃ C : Nat, (∀ W, RowF W (N + 1) (bitW g) → Calls Tryd.prog 13 #[.pointer (some ⟨N + 1, 0, none⟩), .int .i64 i, .int .i64 k] W fun e w' => e = .returned (.int .i64 (C : Nat)) ∧ Below W.heap.size W w') ∧
      (∀ W Q, BoolAt W Q (bitW g) → Calls Tryd.prog 14 #[.pointer (some ⟨Q, 0, none⟩), .int .i64 i, .int .i64 k] W fun e w' => e = .returned (.int .i64 (C : Nat)) ∧ w' = W) := by
    by_cases hr : Right i k
    · obtain ⟨h1, h2, h3, h4⟩ := hr
      refine ⟨cnt (bitW g) i.toNat k.toNat, fun W h => count_int (N + 1) _ W h i k h1 h3 (by omega), fun W Q h => ?_⟩
      have := countRef_core Q _ W h i.toNat k.toNat (by omega)
      rw [show ((i.toNat : Nat) : Int) = i by omega, show ((k.toNat : Nat) : Int) = k by omega] at this
      exact this
    · exact ⟨0, fun W h => (count_bad (N + 1) i k hi hr W).mono fun e w' ⟨h1, h2⟩ => ⟨h1, by rw [h2]; exact Below.refl _ _⟩, fun W Q h => countRef_bad Q i k hi hr W⟩
  obtain ⟨C, cL, cR⟩ := hQ
  have CL := hide cL
  have CR := hide cR
  have S2 := hide s2
  have R2 := hide r2
  have N2 := hide n2
  have HW := hide hw2
  have HG := hide hg
  clear s2 q2 r2 cL cR hg hw2 ht
  have x0 := n2.cell 0 (by omega)
  have x1 := n2.cell 1 (by omega)
  have x2 := n2.cell 2 (by omega)
  have x3 := n2.cell 3 (by omega)
  have x4 := n2.cell 4 (by omega)
  have x5 := n2.cell 5 (by omega)
  have x6 := n2.cell 6 (by omega)
  have x7 := n2.cell 7 (by omega)
  clear n2
  unfold words cells8
  go_enter Tryd.func4, Tryd.ntmps4
  go_wp2_with fail
  have hw := HW.out
  unfold cells8 at hw
  rw [← hw]
  clear hw HW
  refine (show Calls Tryd.prog 9 #[words g] w2 _ from of_any g HG.out w2).mono ?_
  rintro r w3 ⟨rfl, b3⟩
  have r3 := R2.out.below b3
  have n3 := N2.out.below b3
  have t3 := S2.out.ta.below b3
  have be3 := (S2.out.next b3).be
  obtain ⟨th, qb, be⟩ := ref_box w3 (bitW g)
  have L3 := hide (⟨be3.trans (be.mono (by have := r3.lt; omega)), r3.below be, n3.below be, qb, t3.below be⟩ : LS N w3.heap.size w g _)
  obtain ⟨Q, hQ⟩ : ∃ Q, w3.heap.size = Q := ⟨_, rfl⟩
  rw [hQ] at th L3
  have TH := hide th
  have zr := zs_run
  have zz := zs_size
  have zn := zs_ne
  have bl := bools_len (bitW g)
  clear b3 r3 n3 t3 be3 th qb be S2 R2 N2 x0 x1 x2 x3 x4 x5 x6 x7
  simp only []
  go_step
  go_step
  go_step
  go_step
  refine wpList_store_mid rfl 27 (.tmp 12) (.tmp 23) rfl Q 0 (bools (bitW g)).toArray rfl rfl TH.out (by rw [List.size_toArray, bools_len]; exact info27) (bools_one _) ?_
  simp only [Act.put, List.toList_toArray]
  obtain ⟨W4, hW4⟩ : ∃ W4, (w3.alloc (.cells zs512 27)).setCells Q 0 (bools (bitW g)) = W4 := ⟨_, rfl⟩
  rw [hW4] at L3 ⊢
  obtain ⟨V, hV⟩ : ∃ V, V = Value.agg (bools (bitW g)).toArray := ⟨_, rfl⟩
  rw [← hV]
  clear hW4 hV zr zz zn bl TH hQ
  go_wp2_with fail
  refine (find_any (N + 1) _ n from_ hn' hf W4 L3.out.ro L3.out.ta).mono ?_
  rintro r w5 ⟨a, ok, rfl, h5, b5⟩
  have L5 := hide (L3.out.next b5)
  have H5 := hide h5
  clear L3 b5 h5
  go_wp2_with fail
  refine (findRef_any Q _ w5 L5.out.q n from_).mono ?_
  rintro r w6 ⟨a', ok', rfl, h6, hw6⟩
  obtain ⟨ea, eo⟩ := h6.one H5.out
  rw [hw6, ea, eo]
  clear hw6 h6 H5 ea eo w6 a' ok'
  go_wp2_with fail
  refine (last_any (N + 1) _ n from_ hn' w5 L5.out.ro L5.out.ta).mono ?_
  rintro r w6 ⟨c, d, rfl, h6, b6⟩
  have L6 := hide (L5.out.next b6)
  have H6 := hide h6
  clear L5 b6 h6
  go_wp2_with fail
  refine (lastRef_any Q _ w6 L6.out.q n from_ hn').mono ?_
  rintro r w7 ⟨c', d', rfl, h7, hw7⟩
  obtain ⟨ea, eo⟩ := h7.one H6.out
  rw [hw7, ea, eo]
  clear hw7 h7 H6 ea eo w7 c' d'
  go_wp2_with fail
  refine (CL.out w6 L6.out.ro).mono ?_
  rintro r w8 ⟨rfl, b8⟩
  have L8 := hide (L6.out.next b8)
  clear L6 b8 CL
  go_wp2_with fail
  refine (CR.out w8 Q L8.out.q).mono ?_
  rintro r w' ⟨rfl, hw'⟩; rw [hw']; clear hw' w' CR
  go_wp2_with fail
  refine (sum_any (N + 1) _ w8 L8.out.ro L8.out.ta).mono ?_
  rintro r w9 ⟨s, m, e, rfl, h9, b9⟩
  have L9 := hide (L8.out.next b9)
  have H9 := hide h9
  clear L8 b9 h9
  go_wp2_with fail
  refine (sumRef_any Q _ w9 L9.out.q).mono ?_
  rintro r w10 ⟨s', m', e', rfl, h10, b10⟩
  have L10 := hide (L9.out.next b10)
  obtain ⟨e1, e2, e3⟩ := h10.one H9.out
  rw [e1, e2, e3]
  clear L9 b10 h10 H9 e1 e2 e3 s' m' e'
  obtain ⟨X1, hX1⟩ : ∃ X1 : Int, (s : Int) = X1 := ⟨_, rfl⟩
  obtain ⟨X2, hX2⟩ : ∃ X2 : Int, (m : Int) = X2 := ⟨_, rfl⟩
  obtain ⟨X3, hX3⟩ : ∃ X3 : Int, (e : Int) = X3 := ⟨_, rfl⟩
  rw [hX1, hX2, hX3]
  clear hX1 hX2 hX3
  simp only [sumV]
  have x0 := L10.out.rg.cell 0 (by omega)
  have x1 := L10.out.rg.cell 1 (by omega)
  have x2 := L10.out.rg.cell 2 (by omega)
  have x3 := L10.out.rg.cell 3 (by omega)
  have x4 := L10.out.rg.cell 4 (by omega)
  have x5 := L10.out.rg.cell 5 (by omega)
  have x6 := L10.out.rg.cell 6 (by omega)
  have x7 := L10.out.rg.cell 7 (by omega)
  have y0 := L10.out.c8.cell 0 (by omega)
  have y1 := L10.out.c8.cell 1 (by omega)
  have y2 := L10.out.c8.cell 2 (by omega)
  have y3 := L10.out.c8.cell 3 (by omega)
  have y4 := L10.out.c8.cell 4 (by omega)
  have y5 := L10.out.c8.cell 5 (by omega)
  have y6 := L10.out.c8.cell 6 (by omega)
  have y7 := L10.out.c8.cell 7 (by omega)
  go_wp2_with fail
  refine (awake_any _ L10.out.ta).mono ?_
  rintro r w11 ⟨rfl, b11⟩
  have L11 := hide (L10.out.next b11)
  clear L10 b11 x0 x1 x2 x3 x4 x5 x6 x7 y0 y1 y2 y3 y4 y5 y6 y7
  go_wp2_with fail
  go_ret
  exact ⟨rfl, L11.out.be⟩
end Go.Proofs.YtgbfkmkinhlimaaDoor
