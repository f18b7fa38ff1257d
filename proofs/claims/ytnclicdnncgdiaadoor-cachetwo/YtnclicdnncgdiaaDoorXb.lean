/- Package radix: sizes, spans, counts: contracts. -/
import Derived.Test.YtnclicdnncgdiaaDoorCc
namespace Go.Proofs.YtnclicdnncgdiaaDoor
open Go.ChangeShapes Go.WideShapes Go.ChangeAt Go.RowKit Go.Proofs.Bt Go.Shelf Go.Proofs.Rx
set_option linter.unusedVariables false
set_option linter.unusedSimpArgs false

theorem grown1 (w : World) (o : Obj) : Below w.heap.size w (w.alloc o) := (Below.refl _ w).alloc (Nat.le_refl _) _
theorem cellLt {w : World} {b o : Nat} {v : Value} (h : w.cell? ⟨b, o, none⟩ = some v) : b < w.heap.size := World.block_lt_of_cell? w ⟨b, o, none⟩ h
theorem cases_d {d : Nat} (h : d ≤ 6) : d = 0 ∨ d = 1 ∨ d = 2 ∨ d = 3 ∨ d = 4 ∨ d = 5 ∨ d = 6 := by omega
theorem size_any (d : Nat) (hd : d ≤ 6) (w : World) (ht : TabW w) :
    Calls Tryd.prog 51 #[.int .i64 (d : Nat)] w fun e w' => e = .returned (.int .u64 (sz d : Nat)) ∧ w' = w := by
  have c := ht.2 d (by omega)
  clear ht
  rcases cases_d hd with rfl | rfl | rfl | rfl | rfl | rfl | rfl
  all_goals
    clear hd
    simp only [sh, sz, Int.cast_ofNat_Int] at c ⊢
    go_enter Tryd.func51, Tryd.ntmps51
    go_wp2
    go_ret
    exact ⟨rfl, rfl⟩
def spanV (a b : Int) : Value := .agg #[.int .u64 a, .int .u64 b]
--SLOW
set_option maxRecDepth 20000 in
theorem spanOf_any (d : Nat) (hd : d ≤ 6) (i : Int) (h0 : 0 ≤ i) (h1 : i ≤ 68719476736) (hi : (i + 1) * (sz d : Nat) ≤ 34359738368) (w : World) (ht : TabW w) :
    Calls Tryd.prog 38 #[.int .i64 (d : Nat), .int .u64 i] w fun e w' => e = .returned (spanV (i * (sz d : Nat)) ((i + 1) * (sz d : Nat))) ∧ Below w.heap.size w w' := by
  have c := ht.2 d (by omega)
  clear ht
  rcases cases_d hd with rfl | rfl | rfl | rfl | rfl | rfl | rfl
  all_goals
    clear hd
    simp only [sh, sz, Int.cast_ofNat_Int] at c hi ⊢
    go_enter Tryd.func38, Tryd.ntmps38
    go_wp2_with fail
    have c' : (w.alloc (.cells #[.int .u64 0, .int .u64 0] 93)).drew.cell? ⟨0, _, none⟩ = _ := ((grown1 w _).drew.cell (p := ⟨0, _, none⟩) (cellLt c)).trans c
    refine still_tail 12 (by kernel_rfl) (by kernel_rfl) ?_
    simp only [List.take_succ_cons, List.take_zero, List.drop_succ_cons, List.drop_zero]
    repeat still_step
    refine wpStill_nil ?_
    go_wp2_with fail
    exact bodyPost_ret (v := spanV _ _) (by simp [results, Tryd.results38, go_sem, spanV]) rfl ⟨rfl, (grown1 w _).drew⟩
/-- .. with names for both ends. -/
theorem spanOf_at (d : Nat) (hd : d ≤ 6) (i a b : Int) (h0 : 0 ≤ i) (h1 : i ≤ 68719476736) (ha : a = i * (sz d : Nat)) (hb : b = (i + 1) * (sz d : Nat)) (hi : b ≤ 34359738368) (w : World) (ht : TabW w) :
    Calls Tryd.prog 38 #[.int .i64 (d : Nat), .int .u64 i] w fun e w' => e = .returned (spanV a b) ∧ Below w.heap.size w w' := by
  subst ha hb; exact spanOf_any d hd i h0 h1 hi w ht
theorem pages_any (a b : Int) (h0 : 0 ≤ a) (h1 : a ≤ b) (h2 : b ≤ 34359738368) (w : World) :
    Calls Tryd.prog 40 #[spanV a b] w fun e w' => e = .returned (.int .u64 (b - a)) ∧ Below w.heap.size w w' := by
  unfold spanV
  go_enter Tryd.func40, Tryd.ntmps40
  go_wp2_with fail
  go_ret
  exact ⟨rfl, grown1 _ _⟩
theorem spanRows_any (a b : Int) (d : Nat) (w : World) :
    Calls Tryd.prog 55 #[spanV a b, .int .i64 (d : Nat)] w fun e w' => e = .returned (.func (.func 71) #[] #[.pointer (some ⟨w.heap.size, 0, none⟩), .pointer (some ⟨w.heap.size + 1, 0, none⟩)]) ∧
      w' = (w.alloc (.cells #[.int .u64 a, .int .u64 b] 93)).alloc (.cells #[.int .i64 (d : Nat)] 3) := by
  unfold spanV
  go_enter Tryd.func55, Tryd.ntmps55
  go_wp2_with fail
  go_ret
  exact ⟨rfl, rfl⟩
/-- Two new blocks, and what is behind them. -/
theorem alloc2_at (w : World) (x y z u : Value) (t t' : TypeId) {w1 : World} (b1 : Below ((w.alloc (.cells #[x, y] t)).alloc (.cells #[z, u] t')).heap.size ((w.alloc (.cells #[x, y] t)).alloc (.cells #[z, u] t')) w1) (N : Nat) (hN : w.heap.size = N) :
    Below N w w1 ∧ N + 2 ≤ w1.heap.size ∧ w1.cell? ⟨N, 0, none⟩ = some x ∧ w1.cell? ⟨N, 1, none⟩ = some y ∧ w1.cell? ⟨N + 1, 0, none⟩ = some z ∧ w1.cell? ⟨N + 1, 1, none⟩ = some u ∧ (∀ k, w1.frozen? ⟨N + 1, k, none⟩ = false) := by
  subst hN
  have h1 := World.alloc_heap_new (w.alloc (.cells #[x, y] t)) (.cells #[z, u] t')
  rw [World.size_alloc] at h1
  have h0 : ((w.alloc (.cells #[x, y] t)).alloc (.cells #[z, u] t')).heap[w.heap.size]? = some (.cells #[x, y] t) := (Below.heap_alloc _ _ _ (by simp)).trans (World.alloc_heap_new w _)
  have e0 := (b1.block w.heap.size (by simp; omega)).trans h0
  have e1 := (b1.block (w.heap.size + 1) (by simp)).trans h1
  refine ⟨((((Below.refl _ w).alloc (Nat.le_refl _) _).alloc (by simp) _).trans (b1.mono (by simp; omega))), by have := b1.size; simp at this; omega, ?_, ?_, ?_, ?_, fun k => ?_⟩
  · simp [World.cell?, e0]
  · simp [World.cell?, e0]
  · simp [World.cell?, e1]
  · simp [World.cell?, e1]
  · simp [World.frozen?, e1]
theorem in_any (d : Nat) (hd : d ≤ 6) (i a b A B : Int) (h0 : 0 ≤ i) (h1 : i ≤ 68719476736) (hA : A = i * (sz d : Nat)) (hB : B = (i + 1) * (sz d : Nat)) (hi : B ≤ 34359738368) (w : World) (ht : TabW w) :
    Calls Tryd.prog 50 #[spanV a b, .int .i64 (d : Nat), .int .u64 i] w fun e w' => e = .returned (spanV (max a A) (min b B)) ∧ Below w.heap.size w w' := by
  have CS := fun w ht => hide (spanOf_at d hd i A B h0 h1 hA hB hi w ht)
  have HT := hide ht
  clear hA hB hi ht
  unfold spanV at CS ⊢
  obtain ⟨X, hX⟩ : ∃ X, max a A = X := ⟨_, rfl⟩
  obtain ⟨Y, hY⟩ : ∃ Y, min b B = Y := ⟨_, rfl⟩
  rw [hX, hY]
  have HX := hide hX
  have HY := hide hY
  clear hX hY
  go_enter Tryd.func50, Tryd.ntmps50
  go_wp2_with fail
  refine (CS _ (HT.out.below (((Below.refl _ w).alloc (Nat.le_refl _) _).alloc (by simp) _))).out.mono ?_
  rintro e w1 ⟨rfl, b1⟩
  obtain ⟨N, hN⟩ : ∃ N, w.heap.size = N := ⟨_, rfl⟩
  obtain ⟨B1, s1, c0, c1, c2, c3, f0⟩ := alloc2_at w _ _ _ _ _ _ b1 N hN
  have HB := hide B1
  clear b1 CS HT B1
  have s2 : N < w1.heap.size := by omega
  have s3 : N + 1 < w1.heap.size := by omega
  have FIN := hide (show ∀ x y z, Below N w (((w1.setCell ⟨N + 1, 0, none⟩ x).setCell ⟨N + 1, 1, none⟩ y).alloc z) from fun x y z => ((HB.out.setCell (by simp) _).setCell (by simp) _).alloc (by simp; omega) _)
  have f1 := f0 0
  have f2 := f0 1
  clear f0
  have HNN := hide hN
  rw [hN]
  clear hN
  by_cases m1 : a < A <;> by_cases m2 : B < b
  · have E1 := hide (show X = A by have := HX.out; omega)
    have E2 := hide (show Y = B by have := HY.out; omega)
    go_wp2_with fail
    exact bodyPost_ret (v := .agg #[.int .u64 A, .int .u64 B]) (by simp [results, Tryd.results50, go_sem, s3, c2, c3]) rfl ⟨by rw [E1.out, E2.out], by rw [HNN.out]; exact FIN.out _ _ _⟩
  · have e4 : (if B < b then B else b) = b := if_neg m2
    have E1 := hide (show X = A by have := HX.out; omega)
    have E2 := hide (show Y = b by have := HY.out; omega)
    clear m2
    go_wp2_with fail
    exact bodyPost_ret (v := .agg #[.int .u64 A, .int .u64 b]) (by simp [results, Tryd.results50, go_sem, s3, c2, c3]) rfl ⟨by rw [E1.out, E2.out], by rw [HNN.out]; exact FIN.out _ _ _⟩
  · have e3 : (if a < A then A else a) = a := if_neg m1
    have E1 := hide (show X = a by have := HX.out; omega)
    have E2 := hide (show Y = B by have := HY.out; omega)
    clear m1
    go_wp2_with fail
    exact bodyPost_ret (v := .agg #[.int .u64 a, .int .u64 B]) (by simp [results, Tryd.results50, go_sem, s3, c2, c3]) rfl ⟨by rw [E1.out, E2.out], by rw [HNN.out]; exact FIN.out _ _ _⟩
  · have e3 : (if a < A then A else a) = a := if_neg m1
    have e4 : (if B < b then B else b) = b := if_neg m2
    have E1 := hide (show X = a by have := HX.out; omega)
    have E2 := hide (show Y = b by have := HY.out; omega)
    clear m1
    clear m2
    go_wp2_with fail
    exact bodyPost_ret (v := .agg #[.int .u64 a, .int .u64 b]) (by simp [results, Tryd.results50, go_sem, s3, c2, c3]) rfl ⟨by rw [E1.out, E2.out], by rw [HNN.out]; exact FIN.out _ _ _⟩
end Go.Proofs.YtnclicdnncgdiaaDoor
