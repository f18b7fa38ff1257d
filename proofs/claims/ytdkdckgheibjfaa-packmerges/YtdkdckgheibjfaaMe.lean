/- kept; PackMerges: its walk. -/
import Derived.Test.YtdkdckgheibjfaaRb
import Derived.Test.YtdkdckgheibjfaaRc
import Derived.Test.YtdkdckgheibjfaaPg
namespace Go.Proofs.Ytdkdckgheibjfaa
open Go.ChangeShapes Go.WideShapes Go.ChangeAt Go.RowKit Go.Proofs.Pk Go.Maps
set_option linter.unusedVariables false
set_option linter.unusedSimpArgs false

set_option maxRecDepth 100000 in
theorem kept_core {w0 w : World} {g cap : Nat} {t : List Sm} {v : Value} {T : Nat → Prop} (hM : Mk w0 w g cap t) (h : SumsAt w v t T) (ht : t.length ≤ 1000) : Calls Try.prog 18 #[.slice (some ⟨g, 0, none⟩) t.length cap, v] w fun e w' => e = .returned (.bool true) ∧ Below w.heap.size w w' := by
  obtain ⟨o, c2, rfl, h1, h2⟩ := h.shape
  have H := hide h
  have M := hide hM
  have S := hide hM.sums
  have hc := hM.cap
  have mk := (hM.at (i := t.length) (s := ⟨171, 0, 0⟩) (by simp))
  have MK := hide mk
  obtain ⟨n, hn⟩ : ∃ n, t.length = n := ⟨_, rfl⟩
  have HN := hide hn
  rw [hn] at H S h1 hc ht MK ⊢
  clear h hM hn mk
  go_enter Try.func18, Try.ntmps18
  go_wp2_with fail
  go_loopw [5] (fun iv wr => ∃ (i : Nat), iv = .int .i64 (i : Int) ∧ i ≤ n ∧ Hid (Below w.heap.size w wr)) (fun iv _ => n - (intOf iv).toNat)
  case atStart => exact ⟨0, rfl, Nat.zero_le _, hide (Below.refl _ _)⟩
  case round =>
    obtain ⟨i, rfl, hi, hB⟩ := hrel
    by_cases hlt : i < n
    · obtain ⟨g1, off1, x, e1, hx, hg1, c0, c1, c2⟩ := S.out.at hB.out hlt
      injection e1 with e1
      injection e1 with e1 e1'
      subst e1 e1'
      obtain ⟨g2, off2, y, rfl, hy, hg2, q0, q1, q2⟩ := H.out.at hB.out hlt
      rw [hx] at hy
      injection hy with hy
      subst hy
      obtain ⟨s, m, z⟩ := x
      dsimp only at c0 c1 c2 q0 q1 q2
      rw [Nat.zero_add] at c0 c1 c2
      have i1 : (i : Int) < (n : Int) := by omega
      have i2 : (0 : Int) ≤ (i : Int) := by omega
      have z1 : n ≤ cap := by omega
      clear hx
      go_wp2_with fail
      refine still_all (by kernel_rfl) (by kernel_rfl) ?_
      repeat still_step
      refine wpStill_nil ?_
      go_wp2_with fail
      go_roundw
      case rel => exact ⟨i + 1, by go_num, by omega, hide hB.out.drew⟩
      case measure => simp [intOf]; omega
    · obtain rfl : i = n := by omega
      have d0 : ¬ (i : Int) < (i : Int) := by omega
      have z1 : i + 1 ≤ cap := by omega
      have z2 : (i : Int) + 1 ≤ (cap : Int) := by omega
      have mc := (hB.out.cell (p := ⟨g, i * 3, none⟩) MK.out.1).trans MK.out.2.1
      go_wp2_with fail
      go_ret
      exact ⟨rfl, hB.out⟩
theorem RFitsP.at {t : List Sm} {p n a : Int} {b : Bool} {w w' : World} {e : Ending} (h : RFitsP t p n w e w') (hn : 1 ≤ n) (r : RR t p) (k : FitP p n (nth t) t.length a b) : e = .returned (.tuple #[.int .i64 a, .bool b, .int .i64 0]) ∧ Below w.heap.size w w' := by
  obtain ⟨x, y, rfl, h1⟩ := h.1 hn r
  obtain ⟨rfl, rfl⟩ := h1.one (k.ref r.p1 r.all)
  exact ⟨rfl, h.2.2⟩
/-- Merge's answer is one, refused or not. -/
theorem merge_some (t : List Sm) (p : Int) : ∃ (a : Sm) (e : Int), ∀ (w : World) (r : Ending) (w' : World), MergeP t p w r w' → r = .returned (.tuple #[sumV a, .int .i64 e]) ∧ Below w.heap.size w w' := by
  by_cases r : RR t p
  · exact ⟨_, 0, fun w e w' h => ⟨h.1 r, h.2.2⟩⟩
  · exact ⟨⟨0, 0, 0⟩, 1, fun w e w' h => ⟨h.2.1 r, h.2.2⟩⟩
theorem fit_some {p n : Int} (X : Nat → Sm) (L : Nat) : ∃ a b, FitP p n X L a b := by
  by_cases h : ∃ k, k < L ∧ (Aw n X k ∨ Cw p n X k)
  · -- the first one
    have : ∀ m, (∃ k, k < m ∧ k < L ∧ (Aw n X k ∨ Cw p n X k)) → ∃ k, k < L ∧ (Aw n X k ∨ Cw p n X k) ∧ ∀ j, j < k → ¬ Aw n X j ∧ ¬ Cw p n X j := by
      intro m
      induction m with
      | zero => rintro ⟨k, h, _⟩; omega
      | succ m ih =>
        rintro ⟨k, h1, h2, h3⟩
        by_cases c : ∃ j, j < m ∧ j < L ∧ (Aw n X j ∨ Cw p n X j)
        · exact ih c
        · refine ⟨k, h2, h3, fun j hj => ?_⟩
          constructor
          · exact fun z => c ⟨j, by omega, by omega, .inl z⟩
          · exact fun z => c ⟨j, by omega, by omega, .inr z⟩
    obtain ⟨k, hk⟩ := h
    obtain ⟨k, k1, k2, k3⟩ := this (k + 1) ⟨k, by omega, hk.1, hk.2⟩
    by_cases c : Cw p n X k
    · exact ⟨_, _, .cross k k1 k3 c⟩
    · exact ⟨_, _, .within k k1 k3 c (k2.resolve_right c)⟩
  · exact ⟨_, _, .none (fun j hj => ⟨fun z => h ⟨j, hj, .inl z⟩, fun z => h ⟨j, hj, .inr z⟩⟩)⟩
theorem fits_some (t : List Sm) (p n : Int) : ∃ (a : Int) (b : Bool) (e : Int), (∀ (w : World) (r : Ending) (w' : World), FitsP t p n w r w' → r = .returned (.tuple #[.int .i64 a, .bool b, .int .i64 e]) ∧ Below w.heap.size w w') ∧ (∀ (w : World) (r : Ending) (w' : World), RFitsP t p n w r w' → r = .returned (.tuple #[.int .i64 a, .bool b, .int .i64 e]) ∧ Below w.heap.size w w') := by
  by_cases r : 1 ≤ n ∧ RR t p
  · obtain ⟨a, b, h⟩ := fit_some (p := p) (n := n) (nth t) t.length
    exact ⟨a, b, 0, fun w e w' k => k.at r.1 r.2 h, fun w e w' k => k.at r.1 r.2 h⟩
  · exact ⟨0, false, 1, fun w e w' k => ⟨k.2.1 r, k.2.2⟩, fun w e w' k => ⟨k.2.1 r, k.2.2⟩⟩
set_option maxRecDepth 100000 in
set_option maxHeartbeats 2000000 in
theorem merges_core {w : World} {v : Value} {t : List Sm} {T : Nat → Prop} (h : SumsAt w v t T) (p k : Int) (hl : t.length ≤ 100) :
    Calls Try.prog 4 #[v, .int .i64 p, .int .i64 k] w fun e w' => e = .returned (.bool true) ∧ Below w.heap.size w w' := by
  obtain ⟨o, cap, rfl, k1, k2⟩ := h.shape
  have H := hide h
  obtain ⟨⟨S, M, E⟩, e1, m1⟩ := merge_some t p
  obtain ⟨i, ok, e2, f1, f2⟩ := fits_some t p k
  have M1 := hide m1
  have F1 := hide f1
  have F2 := hide f2
  have HL := hide (show t.length ≤ 1000 by omega)
  obtain ⟨n, hn⟩ : ∃ n, t.length = n := ⟨_, rfl⟩
  have HN := hide hn
  rw [hn] at H k1 hl ⊢
  clear h hn m1 f1 f2
  have d1 : decide (100 < (n : Int)) = false := decide_eq_false (by omega)
  have d2 : (e1 == e1) = true := beq_self_eq_true _
  have d3 : (i == i) = true := beq_self_eq_true _
  have d4 : (e2 == e2) = true := beq_self_eq_true _
  go_enter Try.func4, Try.ntmps4
  go_wp2_with fail
  refine (own_core H.out HL.out).mono ?_
  rintro e w1 ⟨g, c, rfl, hM⟩
  have MM := hide hM
  have A1 := hide hM.sums
  have H1 := hide (H.out.below hM.os.be)
  rw [HN.out] at A1 ⊢
  clear hM H
  go_wp2_with fail
  refine (merge_core A1.out p).mono ?_
  intro e w2 h2
  obtain ⟨rfl, b2⟩ := M1.out _ _ _ h2
  have MM2 := MM.out.next b2
  have H2 := H1.out.below b2
  unfold sumV
  dsimp only
  clear h2 A1 H1 MM
  obtain ⟨w3, hw3⟩ : ∃ w3, w3 = w2.alloc (.cells #[.int .i64 S, .int .i64 M, .int .i64 E] 23) := ⟨_, rfl⟩
  have X3 : Hid (Bx w.heap.size w2.heap.size w w3 S M E) := hide (by rw [hw3]; exact Bx.new MM2.os.be MM2.os.be.size)
  have MM3 := hide (MM2.next (show Below w2.heap.size w2 w3 by rw [hw3]; exact alloc1 _ _))
  have H3 := hide (H2.below (show Below w2.heap.size w2 w3 by rw [hw3]; exact alloc1 _ _))
  have HW := hide hw3
  clear hw3 MM2 H2 b2
  go_wp2_with fail
  rw [← HW.out]
  clear HW
  refine (rmerge_core H3.out p).mono ?_
  intro e w4 h4
  obtain ⟨rfl, b4⟩ := M1.out _ _ _ h4
  unfold sumV
  dsimp only
  have X4 := X3.out.next b4
  have MM4 := MM3.out.next b4
  have H4 := H3.out.below b4
  obtain ⟨w5, hw5⟩ : ∃ w5, w5 = w4.alloc (.cells #[.int .i64 S, .int .i64 M, .int .i64 E] 23) := ⟨_, rfl⟩
  have Y5 : Hid (Bx w.heap.size w4.heap.size w w5 S M E) := hide (by rw [hw5]; exact Bx.new X4.be X4.be.size)
  have X5 := hide (X4.next (show Below w4.heap.size w4 w5 by rw [hw5]; exact alloc1 _ _))
  have MM5 := hide (MM4.next (show Below w4.heap.size w4 w5 by rw [hw5]; exact alloc1 _ _))
  have H5 := hide (H4.below (show Below w4.heap.size w4 w5 by rw [hw5]; exact alloc1 _ _))
  have A5 := hide MM5.out.sums
  rw [HN.out] at A5
  have HW := hide hw5
  clear hw5 h4 b4 X4 MM4 H4 X3 MM3 H3 M1
  go_wp2_with fail
  rw [← HW.out]
  clear HW
  refine (fits_core A5.out p k).mono ?_
  intro e w6 h6
  obtain ⟨rfl, b6⟩ := F1.out _ _ _ h6
  have X6 := hide (X5.out.next b6)
  have Y6 := hide (Y5.out.next b6)
  have MM6 := hide (MM5.out.next b6)
  have H6 := hide (H5.out.below b6)
  clear h6 b6 X5 Y5 MM5 H5 A5
  go_wp2_with fail
  refine (rfits_core H6.out p k).mono ?_
  intro e w7 h7
  obtain ⟨rfl, b7⟩ := F2.out _ _ _ h7
  have X7 := hide (X6.out.next b7)
  have Y7 := hide (Y6.out.next b7)
  have MM7 := hide (MM6.out.next b7)
  have H7 := hide (H6.out.below b7)
  have CK : Hid (Calls Try.prog 18 #[.slice (some ⟨g, 0, none⟩) n c, .slice o n cap] w7 fun e w' => e = .returned (.bool true) ∧ Below w7.heap.size w7 w') := hide (by
    have := kept_core MM7.out H7.out HL.out
    rw [HN.out] at this
    exact this)
  have x0 := X7.out.c0
  have x1 := X7.out.c1
  have x2 := X7.out.c2
  have y0 := Y7.out.c0
  have y1 := Y7.out.c1
  have y2 := Y7.out.c2
  clear h7 b7 X6 Y6 MM6 H6
  cases ok
  all_goals
    go_wp2_with fail
    refine CK.out.mono ?_
    rintro _ w8 ⟨rfl, b8⟩
    have X8 := hide (X7.out.next b8)
    clear b8
    go_wp2_with fail
    refine (awake_any _).mono ?_
    rintro _ w9 ⟨rfl, b9⟩
    have F := hide (X8.out.next b9)
    clear b9
    go_wp2_with fail
    go_ret
    exact ⟨rfl, F.out.be⟩
theorem merges_any {w : World} {v : Value} {t : List Sm} {T : Nat → Prop} (h : SumsAt w v t T) (p k : Int) :
    Calls Try.prog 4 #[v, .int .i64 p, .int .i64 k] w fun e w' => e = .returned (.bool true) ∧ Below w.heap.size w w' := by
  by_cases hl : t.length ≤ 100
  · exact merges_core h p k hl
  · obtain ⟨o, cap, rfl, k1, k2⟩ := h.shape
    clear h
    obtain ⟨n, hn⟩ : ∃ n, t.length = n := ⟨_, rfl⟩
    rw [hn] at k1 hl ⊢
    clear hn
    have d1 : decide (100 < (n : Int)) = true := decide_eq_true (by omega)
    go_enter Try.func4, Try.ntmps4
    go_wp2_with fail
    go_ret
    exact ⟨rfl, Below.refl _ _⟩
end Go.Proofs.Ytdkdckgheibjfaa
