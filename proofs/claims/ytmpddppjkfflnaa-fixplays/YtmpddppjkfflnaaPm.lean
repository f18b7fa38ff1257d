/- FixPlays: with blocks and records; all of it. -/
import Derived.Test.YtmpddppjkfflnaaPl
namespace Go.Proofs.Ytmpddppjkfflnaa
open Go.ChangeShapes Go.WideShapes Go.ChangeAt Go.RowKit Go.Shelf Go.Proofs.Rx Go.Maps
set_option linter.unusedVariables false
set_option linter.unusedSimpArgs false

attribute [local go_sem] Oper.semAt_some

set_option maxRecDepth 100000 in
set_option maxHeartbeats 4000000 in
theorem plays_11 (s K : Int) (o0 : Option Addr) (l0 c0 : Nat) (w : World) (X : Nat → ActV) (hX : ActsAt w o0 l0 c0 X) (hl : l0 ≤ 400) (h1 : 1 ≤ s) (h2 : s ≤ 16384) (hp : powIn K 64 1048576 = true) (hK : K ≤ 9223372036854775807) :
    Calls Try.prog 3 #[.int .i64 s, .int .i64 K, .slice o0 l0 c0] w fun e w' => e = .returned (.bool true) ∧ Below w.heap.size w w' := by
  obtain ⟨R, hR⟩ : ∃ R : Ending → World → Prop, R = fun e w' => e = .returned (.bool true) ∧ Below w.heap.size w w' := ⟨_, rfl⟩
  rw [← hR]
  have FIN := hide (show ∀ W, Below w.heap.size w W → R (.returned (.bool true)) W from fun W h => by rw [hR]; exact ⟨rfl, h⟩)
  clear hR
  have d1 : decide ((400 : Int) < (l0 : Int)) = false := decide_eq_false (by omega)
  have C1 := hide (fx_new (N := w.heap.size) (W := w) (Nat.le_refl _) s h1 h2)
  obtain ⟨kk0, kk1, -⟩ := powIn_le hp
  go_enter Try.func3, Try.ntmps3
  go_wp2_with fail
  refine C1.out.mono ?_
  rintro e w1 ⟨fb, rfl, b1, F, f1, -⟩
  have D1 := hide (And.intro b1 f1)
  have C2 := hide (rx_new (N := w.heap.size) (W := w1) b1.size s h1 h2)
  clear C1 b1 f1
  go_wp2_with fail
  refine C2.out.mono ?_
  rintro e w2 ⟨rb, rfl, b2, G, g2, hG⟩
  have P2 := hide (PS.addF (Nat.le_refl _) (Below.refl _ w) D1.out.1 D1.out.2 b2 g2 hG)
  clear C2 D1 b2 g2 hG F G
  have C3 := hide (newBump_ok K hp hK w2)
  go_wp2_with fail
  refine C3.out.mono ?_
  rintro e w3 ⟨rfl, hw3⟩
  have C4 := hide (newBumpR_ok K hp w3)
  have HW3 := hide hw3
  clear C3 hw3
  go_wp2_with fail
  refine C4.out.mono ?_
  rintro e w4 ⟨rfl, hw4⟩
  have P4 := hide (P2.out.addB K HW3.out hw4)
  have OK0 := hide (show BuOk K 0 0 from ⟨kk0, kk1, by omega, by omega, by omega, by omega, fun _ => rfl⟩)
  obtain ⟨bb, hbb⟩ : ∃ bb, w2.heap.size = bb := ⟨_, rfl⟩
  obtain ⟨qb, hqb⟩ : ∃ qb, w3.heap.size = qb := ⟨_, rfl⟩
  rw [hbb, hqb] at P4
  simp only [hbb, hqb]
  clear C4 hw4 HW3 P2 hbb hqb
  go_wp2_with fail
  clear d1 hp
  go_loopw [15] (fun vk wr => ∃ (i : Nat) (L : List Bool) (B : List Nat) (M E : Int), vk = .int .i64 (i : Nat) ∧ i ≤ l0 ∧ L.length ≤ i ∧ M ≤ i ∧ Hid (BuOk K M E) ∧ Hid (PS w.heap.size (fun _ => False) w wr (some (fb, rb, s)) (some (bb, qb, K)) L B L B M E M E)) (fun vk _ => l0 - (zi vk).toNat)
  case atStart => exact ⟨0, [], [], 0, 0, rfl, by omega, by simp, by omega, OK0, P4⟩
  case round =>
    clear P4
    obtain ⟨i, L, B, M, E, rfl, hi, hLi, hMi, OKM, HP⟩ := hrel
    by_cases c : i < l0
    · have d : decide ((i : Int) < (l0 : Int)) = true := decide_eq_true (by omega)
      obtain ⟨b0, f0, rfl, hb0, hc0⟩ := hX.at c
      have cc := hc0 i c
      have be := HP.out.be
      have e0 := (be.cell (p := ⟨b0, f0 + i * 3, none⟩) hb0).trans cc.1
      have e1 := (be.cell (p := ⟨b0, f0 + i * 3 + 1, none⟩) hb0).trans cc.2.1
      have e2 := (be.cell (p := ⟨b0, f0 + i * 3 + 2, none⟩) hb0).trans cc.2.2
      have ok := hX.ok i
      obtain ⟨x0, x1, x2, x3, x4, x5⟩ := ok
      generalize (X i).what = wh at *
      generalize (X i).i = xa at *
      generalize (X i).n = xb at *
      have i9 : (i : Int) < 400 := by omega
      have i0 : 0 ≤ (i : Int) := by omega
      have pw : IntKind.i64.wrap ((i : Int) + 1) = (i : Int) + 1 := by rw [IntKind.wrap_i64]; omega
      have lL : L.length ≤ 400 := by omega
      clear hc0 hb0 hX cc be
      by_cases z4 : wh = 4
      · subst z4
        obtain ⟨W0, hW0⟩ : ∃ W0, wr.alloc (.cells #[.int .i64 4, .int .i64 xa, .int .i64 xb] 37) = W0 := ⟨_, rfl⟩
        have BA : Bk W0 wr.heap.size 37 #[.int .i64 4, .int .i64 xa, .int .i64 xb] := by rw [← hW0]; exact World.alloc_heap_new wr _
        have HP0 := hide (HP.out.own hW0.symm)
        obtain ⟨ab, hab⟩ : ∃ ab, wr.heap.size = ab := ⟨_, rfl⟩
        rw [hab] at HP0 BA
        have BA0 := hide BA
        have CELL := hide (show ∀ W, Bk W ab 37 #[.int .i64 4, .int .i64 xa, .int .i64 xb] → W.cell? ⟨ab, 0, none⟩ = some (.int .i64 4) ∧ W.cell? ⟨ab, 1, none⟩ = some (.int .i64 xa) ∧ W.cell? ⟨ab, 2, none⟩ = some (.int .i64 xb) from fun W h => ⟨h.cell 0 _ rfl, h.cell 1 _ rfl, h.cell 2 _ rfl⟩)
        have HW := hide (And.intro hW0 hab)
        clear hW0 hab BA
        obtain ⟨bn, bp, be9, M', E', OK', hM', CT1, CT2⟩ := bump_both OKM.out (by omega) xa xb x5
        have OKN := hide OK'
        have HM9 := hide (show M' ≤ ((i + 1 : Nat) : Int) from by omega)
        have HLEN := hide (show L.length ≤ i + 1 from by omega)
        have y1 := (CELL.out W0 BA0.out).2.1
        have y2 := (CELL.out W0 BA0.out).2.2
        have T1 := hide (CT1 W0 _ (HP0.out.bu _ _ _ rfl).1)
        have T2 := hide CT2
        clear OK' hM' CT1 CT2
        go_wp2_with fail
        rw [HW.out.1]
        simp only [HW.out.2]
        refine T1.out.mono ?_
        rintro e W5 ⟨rfl, t5⟩
        obtain ⟨p5, lf5⟩ := HP0.out.bump t5
        have B5 := hide (Bk.kept BA0.out lf5 (fun u => u rfl))
        have P5 := hide p5
        have d1 := (CELL.out W5 B5.out).2.1
        have d2 := (CELL.out W5 B5.out).2.2
        have T3 := hide (T2.out W5 _ (p5.bu _ _ _ rfl).2.1)
        clear t5 p5 lf5 T1 T2 y1 y2
        go_wp2_with fail
        refine T3.out.mono ?_
        rintro e W6 ⟨rfl, t6⟩
        obtain ⟨p6, lf6⟩ := P5.out.rbump t6
        have HP9 := hide (show ∀ n, PS w.heap.size (fun z => z = ab) w (W6.drewN n) (some (fb, rb, s)) (some (bb, qb, K)) L B L B M' E' M' E' from fun n => p6.read (below_drewN W6 n))
        have T4 := hide (fun n => blocks_any ((HP9.out n).bu _ _ _ rfl).1)
        have q1 : W6.cell? ⟨qb, 1, none⟩ = some (.int .i64 M') := Bk.cell (p6.bu _ _ _ rfl).2.1 1 _ rfl
        have B6 := hide (Bk.kept B5.out lf6 (fun u => u rfl))
        have z1 := (CELL.out W6 B6.out).1
        clear t6 p6 lf6 T3 d1 d2 P5
        go_wp2_with fail
        go_quiet (first | (go_at_call 13; refine Calls.quiet_of_same (T4.out _)))
        have P6 := hide (HP9.out nq)
        have z3 := (CELL.out (W6.drewN nq) (Bk.below B6.out (below_drewN W6 nq))).1
        go_wp2_with fail
        have HB9 := hide (show L.length ≤ 100000 from by have := HLEN.out; omega)
        have CA := hide (ps_count P6.out)
        have CB := hide (ps_rcount P6.out HB9.out)
        generalize ((L.length : Int) - (B.length : Nat)) = cn at CA CB
        refine CA.out.mono ?_
        rintro e Y1 ⟨rfl, hw⟩
        rw [hw]
        clear hw CA
        go_wp2_with fail
        refine CB.out.mono ?_
        rintro e Y2 ⟨rfl, j2, hw⟩
        have Q2 := hide (P6.out.read (W' := Y2) (by rw [hw]; exact below_drewN _ j2))
        have CC := hide (ps_bytes Q2.out HB9.out)
        clear hw CB
        go_wp2_with fail
        refine CC.out.mono ?_
        rintro e Y3 ⟨rfl, j3, hw⟩
        have Q3 := hide (Q2.out.read (W' := Y3) (by rw [hw]; exact below_drewN _ j3))
        have CD := hide (ps_rbytes Q3.out HB9.out)
        generalize byV L.length (16384 / s) = bv at CD ⊢
        clear hw CC
        go_wp2_with fail
        refine CD.out.mono ?_
        rintro e Y4 ⟨rfl, j4, hw⟩
        have Q4 := hide (Q3.out.read (W' := Y4) (by rw [hw]; exact below_drewN _ j4))
        clear hw CD Q2 Q3
        go_wp2_with fail
        exact ⟨⟨i + 1, L, B, M', E', by push_cast; rfl, by omega, HLEN.out, HM9.out, OKN, hide Q4.out.drop⟩, by simp [zi]; omega⟩
      have y4 : (wh == 4) = false := by simpa using z4
      by_cases z1 : wh = 1
      · subst z1
        obtain ⟨W0, hW0⟩ : ∃ W0, wr.alloc (.cells #[.int .i64 1, .int .i64 xa, .int .i64 xb] 37) = W0 := ⟨_, rfl⟩
        have BA : Bk W0 wr.heap.size 37 #[.int .i64 1, .int .i64 xa, .int .i64 xb] := by rw [← hW0]; exact World.alloc_heap_new wr _
        have HP0 := hide (HP.out.own hW0.symm)
        obtain ⟨ab, hab⟩ : ∃ ab, wr.heap.size = ab := ⟨_, rfl⟩
        rw [hab] at HP0 BA
        have BA0 := hide BA
        have CELL := hide (show ∀ W, Bk W ab 37 #[.int .i64 1, .int .i64 xa, .int .i64 xb] → W.cell? ⟨ab, 0, none⟩ = some (.int .i64 1) ∧ W.cell? ⟨ab, 1, none⟩ = some (.int .i64 xa) ∧ W.cell? ⟨ab, 2, none⟩ = some (.int .i64 xb) from fun W h => ⟨h.cell 0 _ rfl, h.cell 1 _ rfl, h.cell 2 _ rfl⟩)
        have HW := hide (And.intro hW0 hab)
        clear hW0 hab BA
        have CT := hide (ps_take HP0.out (by omega))
        have HLEN := hide (show (takeL L B).length ≤ i + 1 from by have := takeL_len L B; omega)
        have TI := hide (show True from trivial)
        have CR := hide (fun W (h : PS w.heap.size (fun z => z = ab) w W (some (fb, rb, s)) (some (bb, qb, K)) (takeL L B) B.tail L B M E M E) => ps_rtake h (by omega))
        generalize takeL L B = L' at *
        generalize B.tail = B' at *
        generalize takeI L B = tk at *
        go_wp2_with fail
        rw [HW.out.1]
        simp only [HW.out.2]
        refine CT.out.mono ?_
        rintro e W5 ⟨rfl, p5, -⟩
        replace CR := hide (CR.out W5 p5)
        clear p5 CT
        go_wp2_with fail
        refine CR.out.mono ?_
        rintro e W6 ⟨rfl, p6, -⟩
        have P6 := hide p6
        clear p6 CR
        go_wp2_with fail
        have HB9 := hide (show L'.length ≤ 100000 from by have := HLEN.out; omega)
        have CA := hide (ps_count P6.out)
        have CB := hide (ps_rcount P6.out HB9.out)
        generalize ((L'.length : Int) - (B'.length : Nat)) = cn at CA CB
        refine CA.out.mono ?_
        rintro e Y1 ⟨rfl, hw⟩
        rw [hw]
        clear hw CA
        go_wp2_with fail
        refine CB.out.mono ?_
        rintro e Y2 ⟨rfl, j2, hw⟩
        have Q2 := hide (P6.out.read (W' := Y2) (by rw [hw]; exact below_drewN _ j2))
        have CC := hide (ps_bytes Q2.out HB9.out)
        clear hw CB
        go_wp2_with fail
        refine CC.out.mono ?_
        rintro e Y3 ⟨rfl, j3, hw⟩
        have Q3 := hide (Q2.out.read (W' := Y3) (by rw [hw]; exact below_drewN _ j3))
        have CD := hide (ps_rbytes Q3.out HB9.out)
        generalize byV L'.length (16384 / s) = bv at CD ⊢
        clear hw CC
        go_wp2_with fail
        refine CD.out.mono ?_
        rintro e Y4 ⟨rfl, j4, hw⟩
        have Q4 := hide (Q3.out.read (W' := Y4) (by rw [hw]; exact below_drewN _ j4))
        clear hw CD Q2 Q3
        go_wp2_with fail
        exact ⟨⟨i + 1, L', B', M, E, by push_cast; rfl, by omega, HLEN.out, by omega, OKM, hide Q4.out.drop⟩, by simp [zi]; omega⟩
      have y1 : (wh == 1) = false := by simpa using z1
      by_cases z2 : wh = 2
      · subst z2
        obtain ⟨W0, hW0⟩ : ∃ W0, wr.alloc (.cells #[.int .i64 2, .int .i64 xa, .int .i64 xb] 37) = W0 := ⟨_, rfl⟩
        have BA : Bk W0 wr.heap.size 37 #[.int .i64 2, .int .i64 xa, .int .i64 xb] := by rw [← hW0]; exact World.alloc_heap_new wr _
        have HP0 := hide (HP.out.own hW0.symm)
        obtain ⟨ab, hab⟩ : ∃ ab, wr.heap.size = ab := ⟨_, rfl⟩
        rw [hab] at HP0 BA
        have BA0 := hide BA
        have CELL := hide (show ∀ W, Bk W ab 37 #[.int .i64 2, .int .i64 xa, .int .i64 xb] → W.cell? ⟨ab, 0, none⟩ = some (.int .i64 2) ∧ W.cell? ⟨ab, 1, none⟩ = some (.int .i64 xa) ∧ W.cell? ⟨ab, 2, none⟩ = some (.int .i64 xb) from fun W h => ⟨h.cell 0 _ rfl, h.cell 1 _ rfl, h.cell 2 _ rfl⟩)
        have HW := hide (And.intro hW0 hab)
        clear hW0 hab BA
        have HPD := hide (HP0.out.read (drew_below W0))
        have BAD := hide (Bk.below BA0.out (drew_below W0))
        have CG := hide (ps_give HPD.out (by omega) xa x2)
        have HLEN := hide (show (giveL L xa).length ≤ i + 1 from by rw [giveL_len]; omega)
        have CR := hide (fun W (h : PS w.heap.size (fun z => z = ab) w W (some (fb, rb, s)) (some (bb, qb, K)) (giveL L xa) (giveB L B xa) L B M E M E) => ps_rgive h (by omega) xa x2)
        generalize giveL L xa = L' at *
        generalize giveB L B xa = B' at *
        generalize giveE L xa = ge at *
        have y1 := (CELL.out W0 BA0.out).2.1
        go_wp2_with fail
        rw [HW.out.1]
        simp only [HW.out.2]
        go_region_held3 (fun w' => w'.cell? ⟨ab, 1, none⟩ = some (.int .i64 xa)) (first | (go_keep; done)) (first
          | (go_at_call 16; refine CG.out.mono ?_; rintro e W5 ⟨rfl, p5, lf5⟩; have B5 := hide (Bk.kept BAD.out lf5 (fun u => u rfl)); have d5 := (CELL.out W5 B5.out).2.1; replace CR := hide (CR.out W5 p5); clear p5 lf5 CG)
          | (go_at_call 17; refine CR.out.mono ?_; rintro e W6 ⟨rfl, p6, lf6⟩; have d6 := (CELL.out W6 (Bk.kept B5.out lf6 (fun u => u rfl))).2.1; have P6 := hide p6; clear p6 lf6 CR))
        go_wp2_with fail
        have HB9 := hide (show L'.length ≤ 100000 from by have := HLEN.out; omega)
        have CA := hide (ps_count P6.out)
        have CB := hide (ps_rcount P6.out HB9.out)
        generalize ((L'.length : Int) - (B'.length : Nat)) = cn at CA CB
        refine CA.out.mono ?_
        rintro e Y1 ⟨rfl, hw⟩
        rw [hw]
        clear hw CA
        go_wp2_with fail
        refine CB.out.mono ?_
        rintro e Y2 ⟨rfl, j2, hw⟩
        have Q2 := hide (P6.out.read (W' := Y2) (by rw [hw]; exact below_drewN _ j2))
        have CC := hide (ps_bytes Q2.out HB9.out)
        clear hw CB
        go_wp2_with fail
        refine CC.out.mono ?_
        rintro e Y3 ⟨rfl, j3, hw⟩
        have Q3 := hide (Q2.out.read (W' := Y3) (by rw [hw]; exact below_drewN _ j3))
        have CD := hide (ps_rbytes Q3.out HB9.out)
        generalize byV L'.length (16384 / s) = bv at CD ⊢
        clear hw CC
        go_wp2_with fail
        refine CD.out.mono ?_
        rintro e Y4 ⟨rfl, j4, hw⟩
        have Q4 := hide (Q3.out.read (W' := Y4) (by rw [hw]; exact below_drewN _ j4))
        clear hw CD Q2 Q3
        go_wp2_with fail
        exact ⟨⟨i + 1, L', B', M, E, by push_cast; rfl, by omega, HLEN.out, by omega, OKM, hide Q4.out.drop⟩, by simp [zi]; omega⟩
      have y2 : (wh == 2) = false := by simpa using z2
      by_cases z3 : wh = 3
      · subst z3
        obtain ⟨W0, hW0⟩ : ∃ W0, wr.alloc (.cells #[.int .i64 3, .int .i64 xa, .int .i64 xb] 37) = W0 := ⟨_, rfl⟩
        have BA : Bk W0 wr.heap.size 37 #[.int .i64 3, .int .i64 xa, .int .i64 xb] := by rw [← hW0]; exact World.alloc_heap_new wr _
        have HP0 := hide (HP.out.own hW0.symm)
        obtain ⟨ab, hab⟩ : ∃ ab, wr.heap.size = ab := ⟨_, rfl⟩
        rw [hab] at HP0 BA
        have BA0 := hide BA
        have CELL := hide (show ∀ W, Bk W ab 37 #[.int .i64 3, .int .i64 xa, .int .i64 xb] → W.cell? ⟨ab, 0, none⟩ = some (.int .i64 3) ∧ W.cell? ⟨ab, 1, none⟩ = some (.int .i64 xa) ∧ W.cell? ⟨ab, 2, none⟩ = some (.int .i64 xb) from fun W h => ⟨h.cell 0 _ rfl, h.cell 1 _ rfl, h.cell 2 _ rfl⟩)
        have HW := hide (And.intro hW0 hab)
        clear hW0 hab BA
        have HP9 := hide (show ∀ n, PS w.heap.size (fun z => z = ab) w (W0.drewN n) (some (fb, rb, s)) (some (bb, qb, K)) L B L B M E M E from fun n => HP0.out.read (below_drewN W0 n))
        have C1 := hide (fun n => ps_live (HP9.out n) (by omega) xa x2)
        have C2 := hide (fun n => ps_rlive (HP9.out n) (by omega) xa x2)
        have HLEN := hide (show L.length ≤ i + 1 from by omega)
        generalize lv L xa = lx at *
        have y1 := (CELL.out W0 BA0.out).2.1
        go_wp2_with fail
        rw [HW.out.1]
        simp only [HW.out.2]
        go_quiet (first | (go_at_call 18; refine Calls.quiet_of_same (C1.out _)) | (go_at_call 19; refine Calls.quiet_of_same (C2.out _)))
        have P6 := hide (HP9.out nq)
        go_wp2_with fail
        have HB9 := hide (show L.length ≤ 100000 from by have := HLEN.out; omega)
        have CA := hide (ps_count P6.out)
        have CB := hide (ps_rcount P6.out HB9.out)
        generalize ((L.length : Int) - (B.length : Nat)) = cn at CA CB
        refine CA.out.mono ?_
        rintro e Y1 ⟨rfl, hw⟩
        rw [hw]
        clear hw CA
        go_wp2_with fail
        refine CB.out.mono ?_
        rintro e Y2 ⟨rfl, j2, hw⟩
        have Q2 := hide (P6.out.read (W' := Y2) (by rw [hw]; exact below_drewN _ j2))
        have CC := hide (ps_bytes Q2.out HB9.out)
        clear hw CB
        go_wp2_with fail
        refine CC.out.mono ?_
        rintro e Y3 ⟨rfl, j3, hw⟩
        have Q3 := hide (Q2.out.read (W' := Y3) (by rw [hw]; exact below_drewN _ j3))
        have CD := hide (ps_rbytes Q3.out HB9.out)
        generalize byV L.length (16384 / s) = bv at CD ⊢
        clear hw CC
        go_wp2_with fail
        refine CD.out.mono ?_
        rintro e Y4 ⟨rfl, j4, hw⟩
        have Q4 := hide (Q3.out.read (W' := Y4) (by rw [hw]; exact below_drewN _ j4))
        clear hw CD Q2 Q3
        go_wp2_with fail
        exact ⟨⟨i + 1, L, B, M, E, by push_cast; rfl, by omega, HLEN.out, by omega, OKM, hide Q4.out.drop⟩, by simp [zi]; omega⟩
      have y3 : (wh == 3) = false := by simpa using z3
      obtain ⟨W0, hW0⟩ : ∃ W0, wr.alloc (.cells #[.int .i64 wh, .int .i64 xa, .int .i64 xb] 37) = W0 := ⟨_, rfl⟩
      have BA : Bk W0 wr.heap.size 37 #[.int .i64 wh, .int .i64 xa, .int .i64 xb] := by rw [← hW0]; exact World.alloc_heap_new wr _
      have HP0 := hide (HP.out.own hW0.symm)
      obtain ⟨ab, hab⟩ : ∃ ab, wr.heap.size = ab := ⟨_, rfl⟩
      rw [hab] at HP0 BA
      have BA0 := hide BA
      have CELL := hide (show ∀ W, Bk W ab 37 #[.int .i64 wh, .int .i64 xa, .int .i64 xb] → W.cell? ⟨ab, 0, none⟩ = some (.int .i64 wh) ∧ W.cell? ⟨ab, 1, none⟩ = some (.int .i64 xa) ∧ W.cell? ⟨ab, 2, none⟩ = some (.int .i64 xb) from fun W h => ⟨h.cell 0 _ rfl, h.cell 1 _ rfl, h.cell 2 _ rfl⟩)
      have HW := hide (And.intro hW0 hab)
      clear hW0 hab BA
      have HLEN := hide (show L.length ≤ i + 1 from by omega)
      go_wp2_with fail
      rw [HW.out.1]
      simp only [HW.out.2]
      have HB9 := hide (show L.length ≤ 100000 from by have := HLEN.out; omega)
      have CA := hide (ps_count HP0.out)
      have CB := hide (ps_rcount HP0.out HB9.out)
      generalize ((L.length : Int) - (B.length : Nat)) = cn at CA CB
      refine CA.out.mono ?_
      rintro e Y1 ⟨rfl, hw⟩
      rw [hw]
      clear hw CA
      go_wp2_with fail
      refine CB.out.mono ?_
      rintro e Y2 ⟨rfl, j2, hw⟩
      have Q2 := hide (HP0.out.read (W' := Y2) (by rw [hw]; exact below_drewN _ j2))
      have CC := hide (ps_bytes Q2.out HB9.out)
      clear hw CB
      go_wp2_with fail
      refine CC.out.mono ?_
      rintro e Y3 ⟨rfl, j3, hw⟩
      have Q3 := hide (Q2.out.read (W' := Y3) (by rw [hw]; exact below_drewN _ j3))
      have CD := hide (ps_rbytes Q3.out HB9.out)
      generalize byV L.length (16384 / s) = bv at CD ⊢
      clear hw CC
      go_wp2_with fail
      refine CD.out.mono ?_
      rintro e Y4 ⟨rfl, j4, hw⟩
      have Q4 := hide (Q3.out.read (W' := Y4) (by rw [hw]; exact below_drewN _ j4))
      clear hw CD Q2 Q3
      go_wp2_with fail
      exact ⟨⟨i + 1, L, B, M, E, by push_cast; rfl, by omega, HLEN.out, by omega, OKM, hide Q4.out.drop⟩, by simp [zi]; omega⟩
    · have d : decide ((i : Int) < (l0 : Int)) = false := decide_eq_false (by omega)
      have CW := hide (awake_any wr)
      go_wp2_with fail
      refine CW.out.mono ?_
      rintro e W7 ⟨rfl, k7⟩
      have FF := hide (FIN.out W7 (HP.out.read k7).be)
      clear CW k7
      go_wp2_with fail
      first | exact FF.out | (go_ret; exact FF.out)
set_option maxRecDepth 100000 in
set_option maxHeartbeats 4000000 in
theorem plays_in (s K : Int) (o0 : Option Addr) (l0 c0 : Nat) (w : World) (X : Nat → ActV) (hX : ActsAt w o0 l0 c0 X) (hK : K ≤ 9223372036854775807) :
    Calls Try.prog 3 #[.int .i64 s, .int .i64 K, .slice o0 l0 c0] w fun e w' => e = .returned (.bool true) ∧ Below w.heap.size w w' := by
  by_cases c1 : 400 < l0
  · obtain ⟨R, hR⟩ : ∃ R : Ending → World → Prop, R = fun e w' => e = .returned (.bool true) ∧ Below w.heap.size w w' := ⟨_, rfl⟩
    rw [← hR]
    have FIN := hide (show ∀ W, Below w.heap.size w W → R (.returned (.bool true)) W from fun W h => by rw [hR]; exact ⟨rfl, h⟩)
    clear hR
    have d1 : decide ((400 : Int) < (l0 : Int)) = true := decide_eq_true (by omega)
    go_enter Try.func3, Try.ntmps3
    go_wp2_with fail
    have F := FIN.out w (Below.refl _ w)
    first | exact F | (go_ret; exact F)
  have hl : l0 ≤ 400 := by omega
  by_cases h1 : 1 ≤ s ∧ s ≤ 16384
  · cases hp : powIn K 64 1048576 with
    | true => exact plays_11 s K o0 l0 c0 w X hX hl h1.1 h1.2 hp hK
    | false => exact plays_10 s K o0 l0 c0 w X hX hl h1.1 h1.2 hp hK
  · have hs : s < 1 ∨ 16384 < s := by omega
    cases hp : powIn K 64 1048576 with
    | true => exact plays_01 s K o0 l0 c0 w X hX hl hs hp hK
    | false => exact plays_00 s K o0 l0 c0 w X hX hl hs hp hK
end Go.Proofs.Ytmpddppjkfflnaa
