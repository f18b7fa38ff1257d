/- Merge. -/
import Derived.Test.YtnpimmjkmclkpaaDoorMc
namespace Go.Proofs.YtnpimmjkmclkpaaDoor.Mg
open Go.ChangeShapes Go.WideShapes Go.ChangeAt Go.RowKit Go.Proofs.Pk Go.Maps
set_option linter.unusedVariables false
set_option linter.unusedSimpArgs false

theorem set_same {w : World} {b k : Nat} {v u : Value} (h : w.cell? ⟨b, k, none⟩ = some v) : (w.setCell ⟨b, k, none⟩ u).cell? ⟨b, k, none⟩ = some u := World.cell?_setCell_same _ _ _ h
theorem set_other {w : World} {b k j : Nat} {u : Value} (h : j ≠ k) : (w.setCell ⟨b, k, none⟩ u).cell? ⟨b, j, none⟩ = w.cell? ⟨b, j, none⟩ := World.cell?_setCell_other _ _ _ _ (by intro e; have := congrArg Addr.off e; simp at this; omega)
theorem set_far {w : World} {b k x : Nat} {u : Value} (h : x ≠ b) : (w.setCell ⟨b, k, none⟩ u).heap[x]? = w.heap[x]? := Below.heap_setCell _ _ _ _ h
theorem fz_of_block {w w' : World} {x k : Nat} (h : w'.heap[x]? = w.heap[x]?) : w'.frozen? ⟨x, k, none⟩ = w.frozen? ⟨x, k, none⟩ := by simp [World.frozen?, h]
/-- Three numbers in a block of our own. -/
structure Bx (N Q : Nat) (w W : World) (x y z : Int) : Prop where
  be : Below N w W
  le : N ≤ Q
  lt : Q < W.heap.size
  c0 : W.cell? ⟨Q, 0, none⟩ = some (.int .i64 x)
  c1 : W.cell? ⟨Q, 1, none⟩ = some (.int .i64 y)
  c2 : W.cell? ⟨Q, 2, none⟩ = some (.int .i64 z)
  fz : ∀ k, W.frozen? ⟨Q, k, none⟩ = false
theorem Bx.of {N Q : Nat} {w W W' : World} {x y z : Int} (h : Bx N Q w W x y z) (b : Below N w W') (k : W'.heap[Q]? = W.heap[Q]?) : Bx N Q w W' x y z := by
  have hl : Q < W'.heap.size := by
    rw [Array.getElem?_eq_getElem h.lt] at k
    exact (Array.getElem?_eq_some_iff.1 k).1
  exact ⟨b, h.le, hl, (World.cell?_of_block k).trans h.c0, (World.cell?_of_block k).trans h.c1, (World.cell?_of_block k).trans h.c2, fun j => (fz_of_block k).trans (h.fz j)⟩
theorem Bx.next {N Q : Nat} {w W W' : World} {x y z : Int} (h : Bx N Q w W x y z) (k : Below W.heap.size W W') : Bx N Q w W' x y z :=
  h.of (h.be.trans (k.mono (by have := h.lt; have := h.le; omega))) (k.block Q h.lt)
theorem Bx.put {N Q : Nat} {w W : World} {x y z : Int} (h : Bx N Q w W x y z) (k : Nat) (v : Value) : Below N w (W.setCell ⟨Q, k, none⟩ v) :=
  ⟨h.be.os, h.be.tape, h.be.output, by have := h.be.size; simpa using this, fun b hb => (set_far (by have := h.le; omega)).trans (h.be.block b hb)⟩
theorem Bx.set0 {N Q : Nat} {w W : World} {x y z : Int} (h : Bx N Q w W x y z) (v : Int) : Bx N Q w (W.setCell ⟨Q, 0, none⟩ (.int .i64 v)) v y z :=
  ⟨h.put _ _, h.le, by simpa using h.lt, set_same h.c0, (set_other (by decide)).trans h.c1, (set_other (by decide)).trans h.c2, fun k => by rw [World.frozen?_setCell]; exact h.fz k⟩
theorem Bx.set1 {N Q : Nat} {w W : World} {x y z : Int} (h : Bx N Q w W x y z) (v : Int) : Bx N Q w (W.setCell ⟨Q, 1, none⟩ (.int .i64 v)) x v z :=
  ⟨h.put _ _, h.le, by simpa using h.lt, (set_other (by decide)).trans h.c0, set_same h.c1, (set_other (by decide)).trans h.c2, fun k => by rw [World.frozen?_setCell]; exact h.fz k⟩
theorem Bx.set2 {N Q : Nat} {w W : World} {x y z : Int} (h : Bx N Q w W x y z) (v : Int) : Bx N Q w (W.setCell ⟨Q, 2, none⟩ (.int .i64 v)) x y v :=
  ⟨h.put _ _, h.le, by simpa using h.lt, (set_other (by decide)).trans h.c0, (set_other (by decide)).trans h.c1, set_same h.c2, fun k => by rw [World.frozen?_setCell]; exact h.fz k⟩
theorem Bx.far {N Q R : Nat} {w W : World} {x y z : Int} (h : Bx N Q w W x y z) {k : Nat} {v : Value} (hr : Q ≠ R) (b : Below N w (W.setCell ⟨R, k, none⟩ v)) : Bx N Q w (W.setCell ⟨R, k, none⟩ v) x y z := h.of b (set_far hr)
theorem Bx.new {N : Nat} {w W : World} {x y z : Int} (h : Below N w W) (hN : N ≤ W.heap.size) : Bx N W.heap.size w (W.alloc (.cells #[.int .i64 x, .int .i64 y, .int .i64 z] 38)) x y z := by
  have hn := heap_alloc_new W (.cells #[.int .i64 x, .int .i64 y, .int .i64 z] 38)
  exact ⟨h.alloc hN _, hN, by simp, cells_of hn 0, cells_of hn 1, cells_of hn 2, fun k => by unfold World.frozen?; rw [hn]; rfl⟩
def MergeP (t : List Sm) (p : Int) (w : World) (e : Ending) (w' : World) : Prop := (RR t p → e = .returned (.tuple #[sumV (mg p (nth t) t.length), .int .i64 0])) ∧ (¬ RR t p → e = .returned (.tuple #[sumV ⟨0, 0, 0⟩, .int .i64 1])) ∧ Below w.heap.size w w'
theorem Bx.as1 {N Q : Nat} {w W : World} {x y y' z : Int} (h : Bx N Q w W x y z) (e : y = y') : Bx N Q w W x y' z := e ▸ h
set_option maxRecDepth 100000 in
set_option maxHeartbeats 2000000 in
theorem merge_core {w : World} {v : Value} {t : List Sm} {T : Nat → Prop} (h : SumsAt w v t T) (p : Int) : Calls Tryd.prog 18 #[v, .int .i64 p] w (MergeP t p w) := by
  obtain ⟨o, cap, rfl, h1, h2⟩ := h.shape
  have H := hide h
  obtain ⟨PO, hPO⟩ : ∃ PO, PO = MergeP t p w := ⟨_, rfl⟩
  rw [← hPO]
  have HP := hide hPO
  obtain ⟨n, hn⟩ : ∃ n, t.length = n := ⟨_, rfl⟩
  have HN := hide hn
  rw [hn] at H h1 ⊢
  obtain ⟨N, hN⟩ : ∃ N, w.heap.size = N := ⟨_, rfl⟩
  obtain ⟨w1, hw1⟩ : ∃ w1, w1 = w.alloc (.cells #[.int .i64 0, .int .i64 0, .int .i64 0] 38) := ⟨_, rfl⟩
  have S1 : Hid (Bx N N w w1 0 0 0) := hide (by rw [hw1, ← hN]; exact Bx.new (Below.refl _ _) (Nat.le_refl _))
  have HW := hide hw1
  have A1 : Hid (SumsAt w1 (.slice o n cap) t T) := hide (H.out.below (by rw [hw1]; exact alloc1 _ _))
  have HNN := hide hN
  clear h hPO hn hw1 hN
  go_enter Tryd.func18, Tryd.ntmps18
  go_wp2_with fail
  rw [← HW.out]
  refine (rows_core A1.out p).mono ?_
  rintro e w2 ⟨hy, hno, b2⟩
  have S2 := hide (S1.out.next b2)
  rw [HNN.out]
  by_cases r : RR t p
  · obtain rfl := hy r
    have FN : ∀ W (a : Sm), a = mg p (nth t) n → Below N w W → Hid (PO (.returned (.tuple #[sumV a, .int .i64 0])) W) := fun W a ha hW => hide (by rw [HP.out]; exact ⟨fun _ => by rw [ha, HN.out], fun z => absurd r z, by rw [HNN.out]; exact hW⟩)
    obtain ⟨p1, p2, p3, p4⟩ := r
    rw [HN.out] at p3
    have P4 : Hid (∀ j, j < n → Rgt (nth t j) p) := hide (fun j hj => p4 j (by rw [HN.out]; exact hj))
    obtain ⟨Q, hQ⟩ : ∃ Q, w2.heap.size = Q := ⟨_, rfl⟩
    have hNQ : N < Q := by have := S2.out.lt; omega
    obtain ⟨w3, hw3⟩ : ∃ w3, w3 = w2.alloc (.cells #[.int .i64 0, .int .i64 0, .int .i64 0] 38) := ⟨_, rfl⟩
    have S3 : Hid (Bx N Q w w3 0 0 0) := hide (by rw [hw3, ← hQ]; exact Bx.new S2.out.be (by omega))
    have R3 : Hid (Bx N N w w3 0 0 0) := hide (S2.out.next (by rw [hw3]; exact alloc1 _ _))
    have HW3 := hide hw3
    have HQ := hide hQ
    clear hy hno b2 S1 A1 HW S2 p4 HP hw3 hQ
    go_wp2_with fail
    rw [← HW3.out, HQ.out]
    clear HW3 HQ
    go_loopw [16] (fun iv wr => ∃ (i : Nat), iv = .int .i64 (i : Int) ∧ i ≤ n ∧ Hid (Bx N N w wr 0 0 0 ∧ Bx N Q w wr (mg p (nth t) i).s (mg p (nth t) i).m (mg p (nth t) i).e )) (fun iv _ => n - (intOf iv).toNat)
    case atStart => exact ⟨0, rfl, Nat.zero_le _, hide ⟨R3.out, S3.out⟩⟩
    case round =>
      clear R3 S3
      obtain ⟨i, rfl, hi, HH⟩ := hrel
      obtain ⟨hR, hS⟩ := HH.out
      clear HH
      have HR := hide hR
      have HS := hide hS
      have g0 := hS.c0
      have g1 := hS.c1
      have g2 := hS.c2
      have gf0 := hS.fz 0
      have gf1 := hS.fz 1
      have gf2 := hS.fz 2
      clear hR hS
      by_cases hlt : i < n
      · obtain ⟨g, off, x, rfl, hx, hg, c0, c1, c2⟩ := H.out.at (by rw [HNN.out]; exact HS.out.be) hlt
        have i1 : (i : Int) < (n : Int) := by omega
        have i2 : (0 : Int) ≤ (i : Int) := by omega
        have hxn := nth_at hx
        have hr := P4.out i hlt
        rw [hxn] at hr
        have hok := mg_ok p1 i (fun j hj => P4.out j (by omega))
        have em : mg p (nth t) (i + 1) = ⟨if (mg p (nth t) i).s = (i : Int) * p then (mg p (nth t) i).s + x.s else (mg p (nth t) i).s, max (max (mg p (nth t) i).m x.m) ((mg p (nth t) i).e + x.s), if x.e = p then (mg p (nth t) i).e + p else x.e⟩ := by rw [mg, hxn]
        have qb : (i : Int) * p ≤ 134217728 := by
          have : (i : Int) * p ≤ 64 * p := Int.mul_le_mul_of_nonneg_right (by omega) (by omega)
          omega
        have qa : 0 ≤ (i : Int) * p := Int.mul_nonneg i2 (by omega)
        have EM := hide em
        clear hx hxn em
        generalize mg p (nth t) i = a at *
        obtain ⟨s, m, y⟩ := x
        obtain ⟨S, M, E⟩ := a
        dsimp only at *
        obtain ⟨⟨r1, r2, r3, r4, r5, r6⟩, r7⟩ := hr
        obtain ⟨k1, k2, k3, k4, k5, k6, k7⟩ := hok
        dsimp only at r1 r2 r3 r4 r5 r6 r7 k1 k2 k3 k4 k5 k6 k7
        have u1 : S ≤ 134217728 := by omega
        have u2 : M ≤ 134217728 := by omega
        have u3 : E ≤ 134217728 := by omega
        have v1 : s ≤ 2097152 := by omega
        have v2 : m ≤ 2097152 := by omega
        have v3 : y ≤ 2097152 := by omega
        have b1 : 0 ≤ S := k1
        have b2 : 0 ≤ E := k2
        have b3 : 0 ≤ s := r1
        have b4 : 0 ≤ y := r2
        have b5 : 0 ≤ M := by omega
        have b6 : 0 ≤ m := by omega
        have hQl := HS.out.lt
        have hNQ' : N ≠ Q := by omega
        clear r3 r4 r5 r6 r7 k1 k2 k3 k4 k5 k6 k7 r1 r2
        by_cases c : S = (i : Int) * p
        · have dc : (S == (i : Int) * p) = true := beq_iff_eq.2 c
          rw [if_pos c] at EM
          clear c
          go_wp2_with fail
          all_goals
            refine (end_any E ⟨s, m, y⟩ p b2 (by omega) p1 p2 _).mono ?_
            rintro e w5 ⟨rfl, b5⟩
            dsimp only
            have S5 := (((HS.out.set0 (S + s)).set1 _).next (alloc1 _ _)).next b5
            have R5 := (((HR.out.far hNQ' (HS.out.put 0 _)).far hNQ' ((HS.out.set0 (S + s)).put 1 _)).next (alloc1 _ _)).next b5
            obtain ⟨Z, hZ⟩ : ∃ Z, (if y = p then E + p else y) = Z := ⟨_, rfl⟩
            rw [hZ] at EM ⊢
            have q0 := S5.c0
            have q1 := S5.c1
            have q2 := S5.c2
            have qf := S5.fz 2
            have S6 := S5.set2 Z
            have R6 := R5.far hNQ' S6.be
            have SS := hide S6
            have RS := hide R6
            clear S5 R5 S6 R6 b5 hZ
            go_wp2_with fail
            go_roundw
            case rel => exact ⟨i + 1, by go_num, by omega, hide ⟨RS.out, by
              rw [EM.out]
              dsimp only
              exact SS.out.as1 (by omega)⟩⟩
            case measure => simp [intOf]; omega
        · have dc : (S == (i : Int) * p) = false := beq_eq_false_iff_ne.2 c
          rw [if_neg c] at EM
          clear c
          go_wp2_with fail
          all_goals
            refine (end_any E ⟨s, m, y⟩ p b2 (by omega) p1 p2 _).mono ?_
            rintro e w5 ⟨rfl, b5⟩
            dsimp only
            have S5 := ((HS.out.set1 _).next (alloc1 _ _)).next b5
            have R5 := ((HR.out.far hNQ' (HS.out.put 1 _)).next (alloc1 _ _)).next b5
            obtain ⟨Z, hZ⟩ : ∃ Z, (if y = p then E + p else y) = Z := ⟨_, rfl⟩
            rw [hZ] at EM ⊢
            have q0 := S5.c0
            have q1 := S5.c1
            have q2 := S5.c2
            have qf := S5.fz 2
            have S6 := S5.set2 Z
            have R6 := R5.far hNQ' S6.be
            have SS := hide S6
            have RS := hide R6
            clear S5 R5 S6 R6 b5 hZ
            go_wp2_with fail
            go_roundw
            case rel => exact ⟨i + 1, by go_num, by omega, hide ⟨RS.out, by
              rw [EM.out]
              dsimp only
              exact SS.out.as1 (by omega)⟩⟩
            case measure => simp [intOf]; omega
      · obtain rfl : i = n := by omega
        have d0 : ¬ (i : Int) < (i : Int) := by omega
        have r0 := HR.out.c0
        have r1 := HR.out.c1
        have r2 := HR.out.c2
        have rf0 := HR.out.fz 0
        have rf1 := HR.out.fz 1
        have rf2 := HR.out.fz 2
        obtain ⟨S, hSs⟩ : ∃ S, (mg p (nth t) i).s = S := ⟨_, rfl⟩
        obtain ⟨M, hMs⟩ : ∃ S, (mg p (nth t) i).m = S := ⟨_, rfl⟩
        obtain ⟨E, hEs⟩ : ∃ S, (mg p (nth t) i).e = S := ⟨_, rfl⟩
        rw [hSs] at g0
        rw [hMs] at g1
        rw [hEs] at g2
        have F2 := hide (((HR.out.set0 S).set1 M).set2 E)
        have FF := FN _ ⟨S, M, E⟩ (by rw [← hSs, ← hMs, ← hEs]) F2.out.be
        clear FN hSs hMs hEs HR HS H
        go_wp2_with fail
        have e0 := F2.out.c0
        have e1 := F2.out.c1
        have e2 := F2.out.c2
        refine bodyPost_ret (v := .tuple #[sumV ⟨S, M, E⟩, .int .i64 0]) ?_ rfl FF.out
        simp [results, Tryd.results18, go_sem, sumV, Nat.add_assoc, e0, e1, e2, Result.andThen]
  · obtain rfl := hno r
    have FN : ∀ W, Below N w W → Hid (PO (.returned (.tuple #[sumV ⟨0, 0, 0⟩, .int .i64 1])) W) := fun W hW => hide (by rw [HP.out]; exact ⟨fun z => absurd z r, fun _ => rfl, by rw [HNN.out]; exact hW⟩)
    have c0 := S2.out.c0
    have c1 := S2.out.c1
    have c2 := S2.out.c2
    have f0 := S2.out.fz 0
    have f1 := S2.out.fz 1
    have f2 := S2.out.fz 2
    have F2 := hide (((S2.out.set0 0).set1 0).set2 0)
    have FF := FN _ F2.out.be
    clear hy hno b2 r HP S1 A1 HW H FN
    go_wp2_with fail
    have e0 := F2.out.c0
    have e1 := F2.out.c1
    have e2 := F2.out.c2
    refine bodyPost_ret (v := .tuple #[sumV ⟨0, 0, 0⟩, .int .i64 1]) ?_ rfl FF.out
    simp [results, Tryd.results18, go_sem, sumV, Nat.add_assoc, e0, e1, e2, Result.andThen]
end Go.Proofs.YtnpimmjkmclkpaaDoor.Mg
