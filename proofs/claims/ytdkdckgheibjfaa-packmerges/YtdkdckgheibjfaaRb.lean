/- The reference's Merge. -/
import Derived.Test.YtdkdckgheibjfaaRa
namespace Go.Proofs.Ytdkdckgheibjfaa
open Go.ChangeShapes Go.WideShapes Go.ChangeAt Go.RowKit Go.Proofs.Pk Go.Maps
set_option linter.unusedVariables false
set_option linter.unusedSimpArgs false

theorem Bx.drew {N Q : Nat} {w W : World} {x y z : Int} (h : Bx N Q w W x y z) : Bx N Q w W.drew x y z := h.of h.be.drew rfl
theorem wrap_in (x : Int) (h1 : -9223372036854775808 ≤ x) (h2 : x ≤ 9223372036854775807) : IntKind.i64.wrap x = x := by
  simp [IntKind.wrap, IntKind.bits, IntKind.signed]; omega
/-- What the reference's Merge has between two statements. -/
structure RM (N Q : Nat) (w W : World) (S M : Int) : Prop where
  r : Bx N N w W 0 0 0
  s : Bx N Q w W S M 0
  ne : N ≠ Q
theorem RM.drew {N Q : Nat} {w W : World} {S M : Int} (h : RM N Q w W S M) : RM N Q w W.drew S M := ⟨h.r.drew, h.s.drew, h.ne⟩
theorem RM.set0 {N Q : Nat} {w W : World} {S M : Int} (h : RM N Q w W S M) (v : Int) : RM N Q w (W.setCell ⟨Q, 0, none⟩ (.int .i64 v)) v M := ⟨h.r.far h.ne (h.s.put 0 _), h.s.set0 v, h.ne⟩
theorem RM.set1 {N Q : Nat} {w W : World} {S M : Int} (h : RM N Q w W S M) (v : Int) : RM N Q w (W.setCell ⟨Q, 1, none⟩ (.int .i64 v)) S v := ⟨h.r.far h.ne (h.s.put 1 _), h.s.set1 v, h.ne⟩
theorem RM.as {N Q : Nat} {w W : World} {S M S' M' : Int} (h : RM N Q w W S M) (e : S = S') (f : M = M') : RM N Q w W S' M' := e ▸ f ▸ h
set_option maxRecDepth 100000 in
set_option maxHeartbeats 4000000 in
theorem rmerge_core {w : World} {v : Value} {t : List Sm} {T : Nat → Prop} (h : SumsAt w v t T) (p : Int) : Calls Try.prog 15 #[v, .int .i64 p] w (MergeP t p w) := by
  obtain ⟨o, cap, rfl, h1, h2⟩ := h.shape
  have H := hide h
  obtain ⟨PO, hPO⟩ : ∃ PO, PO = MergeP t p w := ⟨_, rfl⟩
  rw [← hPO]
  have HP := hide hPO
  obtain ⟨n, hn⟩ : ∃ n, t.length = n := ⟨_, rfl⟩
  have HN := hide hn
  rw [hn] at H h1 ⊢
  obtain ⟨N, hN⟩ : ∃ N, w.heap.size = N := ⟨_, rfl⟩
  obtain ⟨w1, hw1⟩ : ∃ w1, w1 = w.alloc (.cells #[.int .i64 0, .int .i64 0, .int .i64 0] 23) := ⟨_, rfl⟩
  have S1 : Hid (Bx N N w w1 0 0 0) := hide (by rw [hw1, ← hN]; exact Bx.new (Below.refl _ _) (Nat.le_refl _))
  have HW := hide hw1
  have A1 : Hid (SumsAt w1 (.slice o n cap) t T) := hide (H.out.below (by rw [hw1]; exact alloc1 _ _))
  have HNN := hide hN
  clear h hPO hn hw1 hN
  go_enter Try.func15, Try.ntmps15
  go_wp2_with fail
  rw [← HW.out]
  refine (rrows_core A1.out p).mono ?_
  rintro e w2 ⟨hy, hno, b2⟩
  have S2 := hide (S1.out.next b2)
  rw [HNN.out]
  by_cases r : RR t p
  · obtain rfl := hy r
    have FN : ∀ W (a : Sm), a = mg p (nth t) n → Below N w W → Hid (PO (.returned (.tuple #[sumV a, .int .i64 0])) W) := fun W a ha hW => hide (by rw [HP.out]; exact ⟨fun _ => by rw [ha, HN.out], fun z => absurd r z, by rw [HNN.out]; exact hW⟩)
    obtain ⟨p1, p2, p3, p4⟩ := r
    rw [HN.out] at p3
    have P4 : Hid (∀ j, j < n → Rgt (nth t j) p) := hide (fun j hj => p4 j (by rw [HN.out]; exact hj))
    obtain ⟨Q, hQ⟩ : ∃ Q, w2.heap.size = Q := ⟨_, rfl⟩
    have hNQ : N < Q := by have := S2.out.lt; omega
    obtain ⟨w3, hw3⟩ : ∃ w3, w3 = w2.alloc (.cells #[.int .i64 0, .int .i64 0, .int .i64 0] 23) := ⟨_, rfl⟩
    have R3 : Hid (RM N Q w w3 0 0) := hide ⟨S2.out.next (by rw [hw3]; exact alloc1 _ _), by rw [hw3, ← hQ]; exact Bx.new S2.out.be (by omega), by omega⟩
    have HW3 := hide hw3
    have HQ := hide hQ
    clear hy hno b2 S1 A1 HW S2 p4 HP hw3 hQ
    go_wp2_with fail
    rw [← HW3.out, HQ.out]
    clear HW3 HQ
    go_loopw [7, 8, 9] (fun rv hv iv wr => ∃ (i : Nat), iv = .int .i64 (i : Int) ∧ i ≤ n ∧ rv = .int .i64 (mg p (nth t) i).e ∧ hv = .bool (decide ((mg p (nth t) i).s = (i : Int) * p)) ∧ Hid (RM N Q w wr (mg p (nth t) i).s (mg p (nth t) i).m)) (fun _ _ iv _ => n - (intOf iv).toNat)
    case atStart => exact ⟨0, rfl, Nat.zero_le _, rfl, by simp [mg], hide R3.out⟩
    case round =>
      clear R3
      obtain ⟨i, rfl, hi, rfl, rfl, HS⟩ := hrel
      by_cases hlt : i < n
      · have LC0 := fun (W : World) (hW : Below N w W) => H.out.at (by rw [HNN.out]; exact hW) hlt
        obtain ⟨g, off, x, rfl, hx, _⟩ := LC0 wr HS.out.s.be
        have LC : Hid (∀ W, Below N w W → W.cell? ⟨g, off + i * 3, none⟩ = some (.int .i64 x.s) ∧ W.cell? ⟨g, off + i * 3 + 1, none⟩ = some (.int .i64 x.m) ∧ W.cell? ⟨g, off + i * 3 + 2, none⟩ = some (.int .i64 x.e)) := hide (fun W hW => by
          obtain ⟨g', off', x', e, hx', _, c0, c1, c2⟩ := LC0 W hW
          injection e with e
          injection e with e1 e2
          subst e1 e2
          rw [hx] at hx'
          injection hx' with hx'
          subst hx'
          exact ⟨c0, c1, c2⟩)
        have GN : Hid (g < N) := hide (by
          obtain ⟨g', off', x', e, _, hg, _⟩ := H.out.at (Below.refl _ _) hlt
          injection e with e
          injection e with e _
          rw [e, ← HNN.out]; exact hg)
        clear LC0
        have i1 : (i : Int) < (n : Int) := by omega
        have i2 : (0 : Int) ≤ (i : Int) := by omega
        have hxn := nth_at hx
        have hr := P4.out i hlt
        rw [hxn] at hr
        have hok := mg_ok p1 i (fun j hj => P4.out j (by omega))
        have em : mg p (nth t) (i + 1) = ⟨if (mg p (nth t) i).s = (i : Int) * p then (mg p (nth t) i).s + x.s else (mg p (nth t) i).s, max (max (mg p (nth t) i).m x.m) ((mg p (nth t) i).e + x.s), if x.e = p then (mg p (nth t) i).e + p else x.e⟩ := by rw [mg, hxn]
        have qb : (i : Int) * p ≤ 134217728 := by
          have : (i : Int) * p ≤ 64 * p := Int.mul_le_mul_of_nonneg_right (by omega) (by omega)
          omega
        have qa : 0 ≤ (i : Int) * p := Int.mul_nonneg i2 (by omega)
        have esm := succ_mul i p
        have REL : ∀ (W : World) (rv S' M' : Int) (hv : Bool), RM N Q w W S' M' → rv = (mg p (nth t) (i + 1)).e → hv = decide ((mg p (nth t) (i + 1)).s = ((i + 1 : Nat) : Int) * p) → S' = (mg p (nth t) (i + 1)).s → M' = (mg p (nth t) (i + 1)).m → Hid (rv = (mg p (nth t) (i + 1)).e ∧ hv = decide ((mg p (nth t) (i + 1)).s = ((i + 1 : Nat) : Int) * p) ∧ RM N Q w W (mg p (nth t) (i + 1)).s (mg p (nth t) (i + 1)).m) := fun W rv S' M' hv h1 h2 h3 h4 h5 => hide ⟨h2, h3, h1.as h4 h5⟩
        obtain ⟨nx, hnx⟩ : ∃ nx, mg p (nth t) (i + 1) = nx := ⟨_, rfl⟩
        have HNX := hide hnx
        rw [hnx] at REL em
        clear hnx
        have EM := hide em
        have ESM := hide esm
        clear hx hxn em esm
        have hgQ : g ≠ Q := by have := GN.out; omega
        generalize mg p (nth t) i = a at *
        obtain ⟨s, m, y⟩ := x
        obtain ⟨S, M, E⟩ := a
        dsimp only at *
        obtain ⟨⟨r1, r2, r3, r4, r5, r6⟩, r7⟩ := hr
        obtain ⟨k1, k2, k3, k4, k5, k6, k7⟩ := hok
        dsimp only at r1 r2 r3 r4 r5 r6 r7 k1 k2 k3 k4 k5 k6 k7
        have u1 : S ≤ 134217728 := by omega
        have u2 : M ≤ 134217728 := by omega
        have u3 : E ≤ 134217728 := by omega
        have v1 : s ≤ 2097152 := by omega
        have v2 : m ≤ 2097152 := by omega
        have v3 : y ≤ 2097152 := by omega
        have b5 : 0 ≤ M := by omega
        have b6 : 0 ≤ m := by omega
        generalize hq : (i : Int) * p = q at *
        have FAC : Hid ((S ≠ q → S + E < q) ∧ S ≤ q ∧ (y = p ↔ s = p) ∧ s ≤ p ∧ (s = p → m = p)) := hide ⟨k7, by omega, by omega, by omega, by omega⟩
        have wE : IntKind.i64.wrap (E + s) = E + s := wrap_in _ (by omega) (by omega)
        have wS : IntKind.i64.wrap (S + s) = S + s := wrap_in _ (by omega) (by omega)
        clear r3 r4 r5 r6 r7 k3 k4 k5 k6 k7 hq qa qb
        obtain ⟨c0, c1, c2⟩ := LC.out wr HS.out.s.be
        have g0 := HS.out.s.c0
        have g1 := HS.out.s.c1
        have gf0 := HS.out.s.fz 0
        by_cases c : S = q
        · have dc : decide (S = q) = true := decide_eq_true c
          rw [dc]
          have HC := hide c
          clear c dc
          go_wp2_with fail
          refine still_tail 9 (by kernel_rfl) (by kernel_rfl) ?_
          simp only [List.take_succ_cons, List.take_zero, List.drop_succ_cons, List.drop_zero]
          repeat still_step
          refine wpStill_nil ?_
          go_wp2_with fail
          have R1 := hide ((HS.out.set0 (S + s)).drew)
          generalize (wr.setCell ⟨Q, 0, none⟩ (.int .i64 (S + s))).drew = W1 at R1 ⊢
          obtain ⟨Z, hZ⟩ : ∃ Z, Z = S + s := ⟨_, rfl⟩
          have ZE : Hid (Z = if S = q then S + s else S) := hide (by have := HC.out; rw [if_pos this]; exact hZ)
          rw [← hZ] at R1
          clear hZ
          clear c0 c1 c2 g0 g1 gf0 HS
          obtain ⟨c0, c1, c2⟩ := LC.out W1 R1.out.s.be
          have g1 := R1.out.s.c1
          have gf1 := R1.out.s.fz 1
          by_cases c3 : M < E + s
          · have d3 : decide (M < E + s) = true := decide_eq_true c3
            have C3 := hide c3
            clear c3
            refine still_all (by kernel_rfl) (by kernel_rfl) ?_
            repeat still_step
            refine wpStill_nil ?_
            go_wp2_with fail
            have R2 := hide ((R1.out.set1 (E + s)).drew)
            generalize (W1.setCell ⟨Q, 1, none⟩ (.int .i64 (E + s))).drew = W2 at R2 ⊢
            clear c0 c1 c2 g1 gf1 R1
            obtain ⟨c0, c1, c2⟩ := LC.out W2 R2.out.s.be
            have g1 := R2.out.s.c1
            have gf1 := R2.out.s.fz 1
            by_cases c4 : (E + s) < m
            · have d4 : decide ((E + s) < m) = true := decide_eq_true c4
              have C4 := hide c4
              clear c4
              by_cases c5 : s < p
              · have d5 : decide (s < p) = true := decide_eq_true c5
                have C5 := hide c5
                clear c5
                have FF := REL ((W2.setCell ⟨Q, 1, none⟩ (.int .i64 m)).drew) y Z m false ((R2.out.set1 m).drew)
                  (by have := FAC.out; have := C5.out; rw [EM.out]; dsimp only; split <;> omega)
                  (by have h1 := FAC.out; have h2 := HC.out; have h3 := C5.out; have h4 := ZE.out; symm; rw [EM.out, ESM.out]; dsimp only; rw [← h4]; exact decide_eq_false (by omega))
                  (by rw [EM.out]; exact ZE.out)
                  (by have h1 := C3.out; have h2 := C4.out; rw [EM.out]; dsimp only; omega)
                refine still_all (by kernel_rfl) (by kernel_rfl) ?_
                repeat still_step
                refine wpStill_nil ?_
                go_wp2_with fail
                go_roundw
                case rel => exact ⟨i + 1, by go_num, by omega, by rw [HNX.out]; exact congrArg _ FF.out.1, by rw [HNX.out]; exact congrArg _ FF.out.2.1, by rw [HNX.out]; exact hide FF.out.2.2⟩
                case measure => simp [intOf]; omega
              · have d5 : decide (s < p) = false := decide_eq_false c5
                have C5 := hide c5
                clear c5
                have FF := REL ((W2.setCell ⟨Q, 1, none⟩ (.int .i64 m)).drew) (E + y) Z m true ((R2.out.set1 m).drew)
                  (by have := FAC.out; have := C5.out; rw [EM.out]; dsimp only; split <;> omega)
                  (by have h1 := FAC.out; have h2 := HC.out; have h3 := C5.out; have h4 := ZE.out; symm; rw [EM.out, ESM.out]; dsimp only; rw [← h4]; exact decide_eq_true (by omega))
                  (by rw [EM.out]; exact ZE.out)
                  (by have h1 := C3.out; have h2 := C4.out; rw [EM.out]; dsimp only; omega)
                refine still_all (by kernel_rfl) (by kernel_rfl) ?_
                repeat still_step
                refine wpStill_nil ?_
                go_wp2_with fail
                go_roundw
                case rel => exact ⟨i + 1, by go_num, by omega, by rw [HNX.out]; exact congrArg _ FF.out.1, by rw [HNX.out]; exact congrArg _ FF.out.2.1, by rw [HNX.out]; exact hide FF.out.2.2⟩
                case measure => simp [intOf]; omega
            · have d4 : decide ((E + s) < m) = false := decide_eq_false c4
              have C4 := hide c4
              clear c4
              by_cases c5 : s < p
              · have d5 : decide (s < p) = true := decide_eq_true c5
                have C5 := hide c5
                clear c5
                have FF := REL (W2.drew) y Z (E + s) false (R2.out.drew)
                  (by have := FAC.out; have := C5.out; rw [EM.out]; dsimp only; split <;> omega)
                  (by have h1 := FAC.out; have h2 := HC.out; have h3 := C5.out; have h4 := ZE.out; symm; rw [EM.out, ESM.out]; dsimp only; rw [← h4]; exact decide_eq_false (by omega))
                  (by rw [EM.out]; exact ZE.out)
                  (by have h1 := C3.out; have h2 := C4.out; rw [EM.out]; dsimp only; omega)
                refine still_all (by kernel_rfl) (by kernel_rfl) ?_
                repeat still_step
                refine wpStill_nil ?_
                go_wp2_with fail
                go_roundw
                case rel => exact ⟨i + 1, by go_num, by omega, by rw [HNX.out]; exact congrArg _ FF.out.1, by rw [HNX.out]; exact congrArg _ FF.out.2.1, by rw [HNX.out]; exact hide FF.out.2.2⟩
                case measure => simp [intOf]; omega
              · have d5 : decide (s < p) = false := decide_eq_false c5
                have C5 := hide c5
                clear c5
                have FF := REL (W2.drew) (E + y) Z (E + s) true (R2.out.drew)
                  (by have := FAC.out; have := C5.out; rw [EM.out]; dsimp only; split <;> omega)
                  (by have h1 := FAC.out; have h2 := HC.out; have h3 := C5.out; have h4 := ZE.out; symm; rw [EM.out, ESM.out]; dsimp only; rw [← h4]; exact decide_eq_true (by omega))
                  (by rw [EM.out]; exact ZE.out)
                  (by have h1 := C3.out; have h2 := C4.out; rw [EM.out]; dsimp only; omega)
                refine still_all (by kernel_rfl) (by kernel_rfl) ?_
                repeat still_step
                refine wpStill_nil ?_
                go_wp2_with fail
                go_roundw
                case rel => exact ⟨i + 1, by go_num, by omega, by rw [HNX.out]; exact congrArg _ FF.out.1, by rw [HNX.out]; exact congrArg _ FF.out.2.1, by rw [HNX.out]; exact hide FF.out.2.2⟩
                case measure => simp [intOf]; omega
          · have d3 : decide (M < E + s) = false := decide_eq_false c3
            have C3 := hide c3
            clear c3
            refine still_all (by kernel_rfl) (by kernel_rfl) ?_
            repeat still_step
            refine wpStill_nil ?_
            go_wp2_with fail
            have R2 := hide (R1.out.drew)
            generalize W1.drew = W2 at R2 ⊢
            clear c0 c1 c2 g1 gf1 R1
            obtain ⟨c0, c1, c2⟩ := LC.out W2 R2.out.s.be
            have g1 := R2.out.s.c1
            have gf1 := R2.out.s.fz 1
            by_cases c4 : M < m
            · have d4 : decide (M < m) = true := decide_eq_true c4
              have C4 := hide c4
              clear c4
              by_cases c5 : s < p
              · have d5 : decide (s < p) = true := decide_eq_true c5
                have C5 := hide c5
                clear c5
                have FF := REL ((W2.setCell ⟨Q, 1, none⟩ (.int .i64 m)).drew) y Z m false ((R2.out.set1 m).drew)
                  (by have := FAC.out; have := C5.out; rw [EM.out]; dsimp only; split <;> omega)
                  (by have h1 := FAC.out; have h2 := HC.out; have h3 := C5.out; have h4 := ZE.out; symm; rw [EM.out, ESM.out]; dsimp only; rw [← h4]; exact decide_eq_false (by omega))
                  (by rw [EM.out]; exact ZE.out)
                  (by have h1 := C3.out; have h2 := C4.out; rw [EM.out]; dsimp only; omega)
                refine still_all (by kernel_rfl) (by kernel_rfl) ?_
                repeat still_step
                refine wpStill_nil ?_
                go_wp2_with fail
                go_roundw
                case rel => exact ⟨i + 1, by go_num, by omega, by rw [HNX.out]; exact congrArg _ FF.out.1, by rw [HNX.out]; exact congrArg _ FF.out.2.1, by rw [HNX.out]; exact hide FF.out.2.2⟩
                case measure => simp [intOf]; omega
              · have d5 : decide (s < p) = false := decide_eq_false c5
                have C5 := hide c5
                clear c5
                have FF := REL ((W2.setCell ⟨Q, 1, none⟩ (.int .i64 m)).drew) (E + y) Z m true ((R2.out.set1 m).drew)
                  (by have := FAC.out; have := C5.out; rw [EM.out]; dsimp only; split <;> omega)
                  (by have h1 := FAC.out; have h2 := HC.out; have h3 := C5.out; have h4 := ZE.out; symm; rw [EM.out, ESM.out]; dsimp only; rw [← h4]; exact decide_eq_true (by omega))
                  (by rw [EM.out]; exact ZE.out)
                  (by have h1 := C3.out; have h2 := C4.out; rw [EM.out]; dsimp only; omega)
                refine still_all (by kernel_rfl) (by kernel_rfl) ?_
                repeat still_step
                refine wpStill_nil ?_
                go_wp2_with fail
                go_roundw
                case rel => exact ⟨i + 1, by go_num, by omega, by rw [HNX.out]; exact congrArg _ FF.out.1, by rw [HNX.out]; exact congrArg _ FF.out.2.1, by rw [HNX.out]; exact hide FF.out.2.2⟩
                case measure => simp [intOf]; omega
            · have d4 : decide (M < m) = false := decide_eq_false c4
              have C4 := hide c4
              clear c4
              by_cases c5 : s < p
              · have d5 : decide (s < p) = true := decide_eq_true c5
                have C5 := hide c5
                clear c5
                have FF := REL (W2.drew) y Z M false (R2.out.drew)
                  (by have := FAC.out; have := C5.out; rw [EM.out]; dsimp only; split <;> omega)
                  (by have h1 := FAC.out; have h2 := HC.out; have h3 := C5.out; have h4 := ZE.out; symm; rw [EM.out, ESM.out]; dsimp only; rw [← h4]; exact decide_eq_false (by omega))
                  (by rw [EM.out]; exact ZE.out)
                  (by have h1 := C3.out; have h2 := C4.out; rw [EM.out]; dsimp only; omega)
                refine still_all (by kernel_rfl) (by kernel_rfl) ?_
                repeat still_step
                refine wpStill_nil ?_
                go_wp2_with fail
                go_roundw
                case rel => exact ⟨i + 1, by go_num, by omega, by rw [HNX.out]; exact congrArg _ FF.out.1, by rw [HNX.out]; exact congrArg _ FF.out.2.1, by rw [HNX.out]; exact hide FF.out.2.2⟩
                case measure => simp [intOf]; omega
              · have d5 : decide (s < p) = false := decide_eq_false c5
                have C5 := hide c5
                clear c5
                have FF := REL (W2.drew) (E + y) Z M true (R2.out.drew)
                  (by have := FAC.out; have := C5.out; rw [EM.out]; dsimp only; split <;> omega)
                  (by have h1 := FAC.out; have h2 := HC.out; have h3 := C5.out; have h4 := ZE.out; symm; rw [EM.out, ESM.out]; dsimp only; rw [← h4]; exact decide_eq_true (by omega))
                  (by rw [EM.out]; exact ZE.out)
                  (by have h1 := C3.out; have h2 := C4.out; rw [EM.out]; dsimp only; omega)
                refine still_all (by kernel_rfl) (by kernel_rfl) ?_
                repeat still_step
                refine wpStill_nil ?_
                go_wp2_with fail
                go_roundw
                case rel => exact ⟨i + 1, by go_num, by omega, by rw [HNX.out]; exact congrArg _ FF.out.1, by rw [HNX.out]; exact congrArg _ FF.out.2.1, by rw [HNX.out]; exact hide FF.out.2.2⟩
                case measure => simp [intOf]; omega
        · have dc : decide (S = q) = false := decide_eq_false c
          rw [dc]
          have HC := hide c
          clear c dc g0 gf0
          go_wp2_with fail
          have R1 := HS
          have ZE : Hid (S = if S = q then S + s else S) := hide (by have := HC.out; rw [if_neg this])
          obtain ⟨W1, hW1⟩ : ∃ W1, W1 = wr := ⟨_, rfl⟩
          rw [← hW1] at R1 ⊢
          obtain ⟨Z, hZ⟩ : ∃ Z, Z = S := ⟨_, rfl⟩
          have R1' := R1
          rw [← hZ] at R1'
          have ZE' : Hid (Z = if S = q then S + s else S) := hide (by rw [hZ]; exact ZE.out)
          clear c0 c1 c2 g1 HS R1 ZE hZ hW1
          have R1 := R1'
          have ZE := ZE'
          clear R1' ZE'
          obtain ⟨c0, c1, c2⟩ := LC.out W1 R1.out.s.be
          have g1 := R1.out.s.c1
          have gf1 := R1.out.s.fz 1
          by_cases c3 : M < E + s
          · have d3 : decide (M < E + s) = true := decide_eq_true c3
            have C3 := hide c3
            clear c3
            refine still_all (by kernel_rfl) (by kernel_rfl) ?_
            repeat still_step
            refine wpStill_nil ?_
            go_wp2_with fail
            have R2 := hide ((R1.out.set1 (E + s)).drew)
            generalize (W1.setCell ⟨Q, 1, none⟩ (.int .i64 (E + s))).drew = W2 at R2 ⊢
            clear c0 c1 c2 g1 gf1 R1
            obtain ⟨c0, c1, c2⟩ := LC.out W2 R2.out.s.be
            have g1 := R2.out.s.c1
            have gf1 := R2.out.s.fz 1
            by_cases c4 : (E + s) < m
            · have d4 : decide ((E + s) < m) = true := decide_eq_true c4
              have C4 := hide c4
              clear c4
              by_cases c5 : s < p
              · have d5 : decide (s < p) = true := decide_eq_true c5
                have C5 := hide c5
                clear c5
                have FF := REL ((W2.setCell ⟨Q, 1, none⟩ (.int .i64 m)).drew) y Z m false ((R2.out.set1 m).drew)
                  (by have := FAC.out; have := C5.out; rw [EM.out]; dsimp only; split <;> omega)
                  (by have h1 := FAC.out; have h2 := HC.out; have h3 := C5.out; have h4 := ZE.out; symm; rw [EM.out, ESM.out]; dsimp only; rw [← h4]; exact decide_eq_false (by omega))
                  (by rw [EM.out]; exact ZE.out)
                  (by have h1 := C3.out; have h2 := C4.out; rw [EM.out]; dsimp only; omega)
                refine still_all (by kernel_rfl) (by kernel_rfl) ?_
                repeat still_step
                refine wpStill_nil ?_
                go_wp2_with fail
                go_roundw
                case rel => exact ⟨i + 1, by go_num, by omega, by rw [HNX.out]; exact congrArg _ FF.out.1, by rw [HNX.out]; exact congrArg _ FF.out.2.1, by rw [HNX.out]; exact hide FF.out.2.2⟩
                case measure => simp [intOf]; omega
              · have d5 : decide (s < p) = false := decide_eq_false c5
                have C5 := hide c5
                clear c5
                have FF := REL ((W2.setCell ⟨Q, 1, none⟩ (.int .i64 m)).drew) (E + y) Z m false ((R2.out.set1 m).drew)
                  (by have := FAC.out; have := C5.out; rw [EM.out]; dsimp only; split <;> omega)
                  (by have h1 := FAC.out; have h2 := HC.out; have h3 := C5.out; have h4 := ZE.out; symm; rw [EM.out, ESM.out]; dsimp only; rw [← h4]; exact decide_eq_false (by omega))
                  (by rw [EM.out]; exact ZE.out)
                  (by have h1 := C3.out; have h2 := C4.out; rw [EM.out]; dsimp only; omega)
                refine still_all (by kernel_rfl) (by kernel_rfl) ?_
                repeat still_step
                refine wpStill_nil ?_
                go_wp2_with fail
                go_roundw
                case rel => exact ⟨i + 1, by go_num, by omega, by rw [HNX.out]; exact congrArg _ FF.out.1, by rw [HNX.out]; exact congrArg _ FF.out.2.1, by rw [HNX.out]; exact hide FF.out.2.2⟩
                case measure => simp [intOf]; omega
            · have d4 : decide ((E + s) < m) = false := decide_eq_false c4
              have C4 := hide c4
              clear c4
              by_cases c5 : s < p
              · have d5 : decide (s < p) = true := decide_eq_true c5
                have C5 := hide c5
                clear c5
                have FF := REL (W2.drew) y Z (E + s) false (R2.out.drew)
                  (by have := FAC.out; have := C5.out; rw [EM.out]; dsimp only; split <;> omega)
                  (by have h1 := FAC.out; have h2 := HC.out; have h3 := C5.out; have h4 := ZE.out; symm; rw [EM.out, ESM.out]; dsimp only; rw [← h4]; exact decide_eq_false (by omega))
                  (by rw [EM.out]; exact ZE.out)
                  (by have h1 := C3.out; have h2 := C4.out; rw [EM.out]; dsimp only; omega)
                refine still_all (by kernel_rfl) (by kernel_rfl) ?_
                repeat still_step
                refine wpStill_nil ?_
                go_wp2_with fail
                go_roundw
                case rel => exact ⟨i + 1, by go_num, by omega, by rw [HNX.out]; exact congrArg _ FF.out.1, by rw [HNX.out]; exact congrArg _ FF.out.2.1, by rw [HNX.out]; exact hide FF.out.2.2⟩
                case measure => simp [intOf]; omega
              · have d5 : decide (s < p) = false := decide_eq_false c5
                have C5 := hide c5
                clear c5
                have FF := REL (W2.drew) (E + y) Z (E + s) false (R2.out.drew)
                  (by have := FAC.out; have := C5.out; rw [EM.out]; dsimp only; split <;> omega)
                  (by have h1 := FAC.out; have h2 := HC.out; have h3 := C5.out; have h4 := ZE.out; symm; rw [EM.out, ESM.out]; dsimp only; rw [← h4]; exact decide_eq_false (by omega))
                  (by rw [EM.out]; exact ZE.out)
                  (by have h1 := C3.out; have h2 := C4.out; rw [EM.out]; dsimp only; omega)
                refine still_all (by kernel_rfl) (by kernel_rfl) ?_
                repeat still_step
                refine wpStill_nil ?_
                go_wp2_with fail
                go_roundw
                case rel => exact ⟨i + 1, by go_num, by omega, by rw [HNX.out]; exact congrArg _ FF.out.1, by rw [HNX.out]; exact congrArg _ FF.out.2.1, by rw [HNX.out]; exact hide FF.out.2.2⟩
                case measure => simp [intOf]; omega
          · have d3 : decide (M < E + s) = false := decide_eq_false c3
            have C3 := hide c3
            clear c3
            refine still_all (by kernel_rfl) (by kernel_rfl) ?_
            repeat still_step
            refine wpStill_nil ?_
            go_wp2_with fail
            have R2 := hide (R1.out.drew)
            generalize W1.drew = W2 at R2 ⊢
            clear c0 c1 c2 g1 gf1 R1
            obtain ⟨c0, c1, c2⟩ := LC.out W2 R2.out.s.be
            have g1 := R2.out.s.c1
            have gf1 := R2.out.s.fz 1
            by_cases c4 : M < m
            · have d4 : decide (M < m) = true := decide_eq_true c4
              have C4 := hide c4
              clear c4
              by_cases c5 : s < p
              · have d5 : decide (s < p) = true := decide_eq_true c5
                have C5 := hide c5
                clear c5
                have FF := REL ((W2.setCell ⟨Q, 1, none⟩ (.int .i64 m)).drew) y Z m false ((R2.out.set1 m).drew)
                  (by have := FAC.out; have := C5.out; rw [EM.out]; dsimp only; split <;> omega)
                  (by have h1 := FAC.out; have h2 := HC.out; have h3 := C5.out; have h4 := ZE.out; symm; rw [EM.out, ESM.out]; dsimp only; rw [← h4]; exact decide_eq_false (by omega))
                  (by rw [EM.out]; exact ZE.out)
                  (by have h1 := C3.out; have h2 := C4.out; rw [EM.out]; dsimp only; omega)
                refine still_all (by kernel_rfl) (by kernel_rfl) ?_
                repeat still_step
                refine wpStill_nil ?_
                go_wp2_with fail
                go_roundw
                case rel => exact ⟨i + 1, by go_num, by omega, by rw [HNX.out]; exact congrArg _ FF.out.1, by rw [HNX.out]; exact congrArg _ FF.out.2.1, by rw [HNX.out]; exact hide FF.out.2.2⟩
                case measure => simp [intOf]; omega
              · have d5 : decide (s < p) = false := decide_eq_false c5
                have C5 := hide c5
                clear c5
                have FF := REL ((W2.setCell ⟨Q, 1, none⟩ (.int .i64 m)).drew) (E + y) Z m false ((R2.out.set1 m).drew)
                  (by have := FAC.out; have := C5.out; rw [EM.out]; dsimp only; split <;> omega)
                  (by have h1 := FAC.out; have h2 := HC.out; have h3 := C5.out; have h4 := ZE.out; symm; rw [EM.out, ESM.out]; dsimp only; rw [← h4]; exact decide_eq_false (by omega))
                  (by rw [EM.out]; exact ZE.out)
                  (by have h1 := C3.out; have h2 := C4.out; rw [EM.out]; dsimp only; omega)
                refine still_all (by kernel_rfl) (by kernel_rfl) ?_
                repeat still_step
                refine wpStill_nil ?_
                go_wp2_with fail
                go_roundw
                case rel => exact ⟨i + 1, by go_num, by omega, by rw [HNX.out]; exact congrArg _ FF.out.1, by rw [HNX.out]; exact congrArg _ FF.out.2.1, by rw [HNX.out]; exact hide FF.out.2.2⟩
                case measure => simp [intOf]; omega
            · have d4 : decide (M < m) = false := decide_eq_false c4
              have C4 := hide c4
              clear c4
              by_cases c5 : s < p
              · have d5 : decide (s < p) = true := decide_eq_true c5
                have C5 := hide c5
                clear c5
                have FF := REL (W2.drew) y Z M false (R2.out.drew)
                  (by have := FAC.out; have := C5.out; rw [EM.out]; dsimp only; split <;> omega)
                  (by have h1 := FAC.out; have h2 := HC.out; have h3 := C5.out; have h4 := ZE.out; symm; rw [EM.out, ESM.out]; dsimp only; rw [← h4]; exact decide_eq_false (by omega))
                  (by rw [EM.out]; exact ZE.out)
                  (by have h1 := C3.out; have h2 := C4.out; rw [EM.out]; dsimp only; omega)
                refine still_all (by kernel_rfl) (by kernel_rfl) ?_
                repeat still_step
                refine wpStill_nil ?_
                go_wp2_with fail
                go_roundw
                case rel => exact ⟨i + 1, by go_num, by omega, by rw [HNX.out]; exact congrArg _ FF.out.1, by rw [HNX.out]; exact congrArg _ FF.out.2.1, by rw [HNX.out]; exact hide FF.out.2.2⟩
                case measure => simp [intOf]; omega
              · have d5 : decide (s < p) = false := decide_eq_false c5
                have C5 := hide c5
                clear c5
                have FF := REL (W2.drew) (E + y) Z M false (R2.out.drew)
                  (by have := FAC.out; have := C5.out; rw [EM.out]; dsimp only; split <;> omega)
                  (by have h1 := FAC.out; have h2 := HC.out; have h3 := C5.out; have h4 := ZE.out; symm; rw [EM.out, ESM.out]; dsimp only; rw [← h4]; exact decide_eq_false (by omega))
                  (by rw [EM.out]; exact ZE.out)
                  (by have h1 := C3.out; have h2 := C4.out; rw [EM.out]; dsimp only; omega)
                refine still_all (by kernel_rfl) (by kernel_rfl) ?_
                repeat still_step
                refine wpStill_nil ?_
                go_wp2_with fail
                go_roundw
                case rel => exact ⟨i + 1, by go_num, by omega, by rw [HNX.out]; exact congrArg _ FF.out.1, by rw [HNX.out]; exact congrArg _ FF.out.2.1, by rw [HNX.out]; exact hide FF.out.2.2⟩
                case measure => simp [intOf]; omega
      · obtain rfl : i = n := by omega
        have d0 : ¬ (i : Int) < (i : Int) := by omega
        have r0 := HS.out.r.c0
        have r1 := HS.out.r.c1
        have r2 := HS.out.r.c2
        have rf0 := HS.out.r.fz 0
        have rf1 := HS.out.r.fz 1
        have rf2 := HS.out.r.fz 2
        have g0 := HS.out.s.c0
        have g1 := HS.out.s.c1
        have g2 := HS.out.s.c2
        have gf2 := HS.out.s.fz 2
        obtain ⟨S, hSs⟩ : ∃ S, (mg p (nth t) i).s = S := ⟨_, rfl⟩
        obtain ⟨M, hMs⟩ : ∃ S, (mg p (nth t) i).m = S := ⟨_, rfl⟩
        obtain ⟨E, hEs⟩ : ∃ S, (mg p (nth t) i).e = S := ⟨_, rfl⟩
        have B0 := HS.out.r.far HS.out.ne (HS.out.s.put 2 (.int .i64 E))
        have F2 := hide (((B0.set0 S).set1 M).set2 E)
        have FF := FN _ ⟨S, M, E⟩ (by rw [← hSs, ← hMs, ← hEs]) F2.out.be
        have ne := HS.out.ne
        rw [hSs] at g0
        rw [hMs] at g1
        rw [hEs]
        rw [hSs]
        clear FN hSs hMs hEs HS H B0
        go_wp2_with fail
        exact bodyPost_ret (ret_ce Try.results15 rfl rfl F2.out) rfl FF.out
  · obtain rfl := hno r
    have FN : ∀ W, Below N w W → Hid (PO (.returned (.tuple #[sumV ⟨0, 0, 0⟩, .int .i64 1])) W) := fun W hW => hide (by rw [HP.out]; exact ⟨fun z => absurd z r, fun _ => rfl, by rw [HNN.out]; exact hW⟩)
    have c0 := S2.out.c0
    have c1 := S2.out.c1
    have c2 := S2.out.c2
    have f0 := S2.out.fz 0
    have f1 := S2.out.fz 1
    have f2 := S2.out.fz 2
    have F2 := hide (((S2.out.set0 0).set1 0).set2 0)
    have FF := FN _ F2.out.be
    clear hy hno b2 r HP S1 A1 HW H FN
    go_wp2_with fail
    exact bodyPost_ret (ret_ce Try.results15 rfl rfl F2.out) rfl FF.out
end Go.Proofs.Ytdkdckgheibjfaa
