/- J15 of the proof of both laws: texts Rc, Rk, Rq, one behind the other. -/
import Derived.Test.YtnhllnepnpmegaaJ14
/- The reference's count, Pointers: contracts. -/
namespace Go.Proofs.Ytnhllnepnpmegaa
open Go.ChangeShapes Go.WideShapes Go.ChangeAt Go.RowKit Go.Shelf Go.Proofs.Rx Go.Maps Go.Proofs.Bt
set_option linter.unusedVariables false
set_option linter.unusedSimpArgs false

attribute [local go_sem] Oper.semAt_some

theorem rcnt_out {x : Wg} (f : Nat → Bool) {p q : Nat} (h : min ((x.a + x.b) / 8) q ≤ max (x.a / 8) p) : cnt (x.f f) p (q - p) = cnt f p (q - p) :=
  cnt_congr fun k hk => by
    unfold Wg.f layF
    rw [if_neg (by omega)]
theorem rcnt_in {x : Wg} (f : Nat → Bool) {p q A B : Nat} (hA : max (x.a / 8) p = A) (hB : min ((x.a + x.b) / 8) q = B) (h : A < B) : cnt (x.f f) p (q - p) = cnt f p (A - p) + (cto x.th B - cto x.th A) + cnt f B (q - B) := by
  have e1 : cnt (x.f f) p (A - p) = cnt f p (A - p) := cnt_congr fun k hk => by
    unfold Wg.f layF
    rw [if_neg (by omega)]
  have e2 : cnt (x.f f) A (B - A) = cto x.th B - cto x.th A := by
    rw [← cnt_cto x.th (show A ≤ B by omega)]
    exact cnt_congr fun k hk => by
      unfold Wg.f layF
      rw [if_pos (by omega)]; rfl
  have e3 : cnt (x.f f) B (q - B) = cnt f B (q - B) := cnt_congr fun k hk => by
    unfold Wg.f layF
    rw [if_neg (by omega)]
  have a1 := cnt_add (x.f f) p (A - p) (q - A)
  have a2 := cnt_add (x.f f) A (B - A) (q - B)
  rw [show A - p + (q - A) = q - p by omega, show p + (A - p) = A by omega] at a1
  rw [show B - A + (q - B) = q - A by omega, show A + (B - A) = B by omega] at a2
  omega
set_option maxRecDepth 100000 in
set_option maxHeartbeats 4000000 in
theorem rcount_zero {r : Nat} {v : Value} {L : List Wg} (W : World) (p q : Nat) (hp : p ≤ 35184372088832) (hq : q ≤ 35184372088832) :
    Calls Try.prog 30 #[.pointer (some ⟨r, 0, none⟩), .int .u64 (8 * p : Nat), .int .u64 (8 * q : Nat), .int .i64 (0 : Nat)] W fun e W' => e = .returned (.int .u64 (cnt (rfn (L.take 0)) p (q - p) : Nat)) ∧ Below W.heap.size W W' := by
  obtain ⟨R, hR⟩ : ∃ R : Ending → World → Prop, R = fun e W' => e = .returned (.int .u64 (cnt (rfn (L.take 0)) p (q - p) : Nat)) ∧ Below W.heap.size W W' := ⟨_, rfl⟩
  rw [← hR]
  have FF := hide (show R (.returned (.int .u64 0)) W from by rw [hR, cnt_none (fun k hk => rfl)]; exact ⟨rfl, Below.refl _ _⟩)
  obtain ⟨PI, hPI⟩ : ∃ X : Int, ((8 * p : Nat) : Int) = X := ⟨_, rfl⟩
  obtain ⟨QI, hQI⟩ : ∃ X : Int, ((8 * q : Nat) : Int) = X := ⟨_, rfl⟩
  rw [hPI, hQI]
  have b0 : 0 ≤ PI := by omega
  have b1 : PI < 18446744073709551616 := by omega
  have b2 : 0 ≤ QI := by omega
  have b3 : QI < 18446744073709551616 := by omega
  clear hR hp hq hPI hQI
  by_cases c : QI ≤ PI
  · have d : decide (QI ≤ PI) = true := decide_eq_true c
    go_enter Try.func30, Try.ntmps30
    go_wp2_with fail
    first | exact FF.out | (go_ret; exact FF.out)
  · have d : decide (QI ≤ PI) = false := decide_eq_false c
    go_enter Try.func30, Try.ntmps30
    go_wp2_with fail
    first | exact FF.out | (go_ret; exact FF.out)
set_option maxRecDepth 100000 in
set_option maxHeartbeats 4000000 in
theorem rcount_s00 {r : Nat} {v : Value} {L : List Wg} (hL : L.length ≤ 1000000) (m : Nat) (hn : m + 1 ≤ L.length) (ih : ∀ (W : World), RgAt W r v L → ∀ (p q : Nat), p ≤ 35184372088832 → q ≤ 35184372088832 → Calls Try.prog 30 #[.pointer (some ⟨r, 0, none⟩), .int .u64 (8 * p : Nat), .int .u64 (8 * q : Nat), .int .i64 (m : Nat)] W fun e W' => e = .returned (.int .u64 (cnt (rfn (L.take m)) p (q - p) : Nat)) ∧ Below W.heap.size W W') (W : World) (h : RgAt W r v L) (p q : Nat) (hp : p ≤ 35184372088832) (hq : q ≤ 35184372088832) {x : Wg} (hx : L[m]? = some x) (cA : x.a < 8 * p) (cB : 8 * q < x.a + x.b) :
    Calls Try.prog 30 #[.pointer (some ⟨r, 0, none⟩), .int .u64 (8 * p : Nat), .int .u64 (8 * q : Nat), .int .i64 (m + 1 : Nat)] W fun e W' => e = .returned (.int .u64 (cnt (rfn (L.take (m + 1))) p (q - p) : Nat)) ∧ Below W.heap.size W W' := by
  obtain ⟨V, hV⟩ : ∃ V : Int, ((cnt (rfn (L.take (m + 1))) p (q - p) : Nat) : Int) = V := ⟨_, rfl⟩
  rw [hV]
  obtain ⟨R, hR⟩ : ∃ R : Ending → World → Prop, R = fun e W' => e = .returned (.int .u64 V) ∧ Below W.heap.size W W' := ⟨_, rfl⟩
  rw [← hR]
  have DONE := hide (show ∀ W', Below W.heap.size W W' → R (.returned (.int .u64 V)) W' from fun W' hb => by rw [hR]; exact ⟨rfl, hb⟩)
  clear hR
  obtain ⟨PI, hPI⟩ : ∃ X : Int, ((8 * p : Nat) : Int) = X := ⟨_, rfl⟩
  obtain ⟨QI, hQI⟩ : ∃ X : Int, ((8 * q : Nat) : Int) = X := ⟨_, rfl⟩
  obtain ⟨MI, hMI⟩ : ∃ X : Int, (m : Int) = X := ⟨_, rfl⟩
  have eM : ((m + 1 : Nat) : Int) = MI + 1 := by omega
  rw [hPI, hQI, eM]
  have b0 : 0 ≤ PI := by omega
  have b1 : PI ≤ 281474976710656 := by omega
  have b2 : 0 ≤ QI := by omega
  have b3 : QI ≤ 281474976710656 := by omega
  have b4 : 0 ≤ MI := by omega
  have b5 : MI < 1000000 := by omega
  have e0 : (MI + 1 == 0) = false := by rw [beq_eq_false_iff_ne]; omega
  by_cases c : q ≤ p
  · have d : decide (QI ≤ PI) = true := decide_eq_true (by omega)
    obtain rfl : V = 0 := by rw [← hV, show q - p = 0 by omega]; rfl
    have FF := hide (DONE.out W (Below.refl _ _))
    clear DONE h hn hp hq hPI hQI hMI eM hV ih c hL cA cB hx
    go_enter Try.func30, Try.ntmps30
    go_wp2_with fail
    first | exact FF.out | (go_ret; exact FF.out)
  have d : decide (QI ≤ PI) = false := decide_eq_false (by omega)
  obtain ⟨g, cap, rfl, c0, c1, c2, c3, c4, lc⟩ := h.at hx
  obtain ⟨hX, ox⟩ := h.ms x (List.mem_of_getElem? hx)
  rw [rfn_take hx] at hV
  generalize rfn (L.take m) = f at *
  have y0 : W.cell? ⟨r, 0, none⟩ = some (.slice (some ⟨g, 0, none⟩) L.length cap) := h.bk.cell 0 _ rfl
  obtain ⟨A, hA⟩ : ∃ X : Int, (x.a : Int) = X := ⟨_, rfl⟩
  obtain ⟨B, hB⟩ : ∃ X : Int, (x.b : Int) = X := ⟨_, rfl⟩
  obtain ⟨WD, hWD⟩ : ∃ X : Int, (x.wd : Int) = X := ⟨_, rfl⟩
  obtain ⟨NN, hNN⟩ : ∃ X : Int, (x.n : Int) = X := ⟨_, rfl⟩
  obtain ⟨wa, hwa⟩ : ∃ a, max (x.a / 8) p = a := ⟨_, rfl⟩
  obtain ⟨wb, hwb⟩ : ∃ a, min ((x.a + x.b) / 8) q = a := ⟨_, rfl⟩
  obtain ⟨AV, hAV⟩ : ∃ X : Int, ((8 * wa : Nat) : Int) = X := ⟨_, rfl⟩
  obtain ⟨BV, hBV⟩ : ∃ X : Int, ((8 * wb : Nat) : Int) = X := ⟨_, rfl⟩
  obtain ⟨AB, hAB⟩ : ∃ X : Int, A + B = X := ⟨_, rfl⟩
  have hxv : x.val = .agg #[.int .u64 A, .int .u64 B, .int .i64 WD, .slice (some ⟨x.g, 0, none⟩) x.wd x.cap, .int .u64 NN] := by unfold Wg.val; rw [hA, hB, hWD, hNN]
  rw [hA] at c0
  rw [hB] at c1
  rw [hWD] at c2
  rw [hNN] at c4
  obtain ⟨r1, r2, r3, r4, r5⟩ := ox.r
  have a0 : 0 ≤ A := by omega
  have a1 : A ≤ 281474976710656 := by omega
  have a2 : 0 ≤ B := by omega
  have a3 : B ≤ 1099511627776 := by omega
  have a4 : 0 ≤ AB := by omega
  have a5 : AB ≤ 281474976710656 := by omega
  have l1 : MI < (L.length : Int) := by omega
  have n1 : IntKind.u64.wrap (A + B) = AB := by rw [IntKind.wrap_u64]; omega
  have hMN : MI.toNat = m := by omega
  obtain ⟨W2, hW2⟩ : ∃ W2, W2 = W.alloc (.cells #[.int .u64 A, .int .u64 B, .int .i64 WD, .slice (some ⟨x.g, 0, none⟩) x.wd x.cap, .int .u64 NN] 67) := ⟨_, rfl⟩
  have bb : Below W.heap.size W W2 := by rw [hW2]; exact below_alloc _ _
  have bk : Bk W2 W.heap.size 67 #[.int .u64 A, .int .u64 B, .int .i64 WD, .slice (some ⟨x.g, 0, none⟩) x.wd x.cap, .int .u64 NN] := by rw [hW2]; exact World.alloc_heap_new _ _
  have nlt := bk.lt
  have CELL := hide (show ∀ W3, Below W2.heap.size W2 W3 → (W3.cell? ⟨W.heap.size, 0, none⟩ = some (.int .u64 A) ∧ W3.cell? ⟨W.heap.size, 1, none⟩ = some (.int .u64 B) ∧ W3.cell? ⟨W.heap.size, 2, none⟩ = some (.int .i64 WD) ∧ W3.cell? ⟨W.heap.size, 3, none⟩ = some (.slice (some ⟨x.g, 0, none⟩) x.wd x.cap) ∧ W3.cell? ⟨W.heap.size, 4, none⟩ = some (.int .u64 NN)) from fun W3 hb => by
    have k := bk.below hb
    exact ⟨k.cell 0 _ rfl, k.cell 1 _ rfl, k.cell 2 _ rfl, k.cell 3 _ rfl, k.cell 4 _ rfl⟩)
  have TR := hide (show ∀ W3 W4, Below W2.heap.size W2 W3 → Below W3.heap.size W3 W4 → Below W2.heap.size W2 W4 from fun W3 W4 a b => a.trans (b.mono a.size))
  have DONE2 := hide (show ∀ W', Below W2.heap.size W2 W' → R (.returned (.int .u64 V)) W' from fun W' hb => DONE.out W' (bb.trans (hb.mono bb.size)))
  have D0 := hide (fun n => drewN_below W2 n)
  have CI := hide (show ∀ (W3 : World) (p' q' : Nat) (P' Q' Z : Int), Below W2.heap.size W2 W3 → p' ≤ 35184372088832 → q' ≤ 35184372088832 → ((8 * p' : Nat) : Int) = P' → ((8 * q' : Nat) : Int) = Q' → ((cnt f p' (q' - p') : Nat) : Int) = Z → Calls Try.prog 30 #[.pointer (some ⟨r, 0, none⟩), .int .u64 P', .int .u64 Q', .int .i64 MI] W3 fun e W' => e = .returned (.int .u64 Z) ∧ Below W3.heap.size W3 W' from fun W3 p' q' P' Q' Z hb h1 h2 h3 h4 h5 => by
    rw [← h3, ← h4, ← h5, ← hMI]
    exact ih W3 ((h.below bb).below hb) p' q' h1 h2)
  have CA := hide (show ∀ (W3 : World) (k : Nat) (K Z : Int), Below W2.heap.size W2 W3 → k ≤ 137438953472 → (k : Int) = K → ((cto x.th (x.a / 8 + k) : Nat) : Int) = Z → Calls Try.prog 37 #[.agg #[.int .u64 A, .int .u64 B, .int .i64 WD, .slice (some ⟨x.g, 0, none⟩) x.wd x.cap, .int .u64 NN], .int .u64 K] W3 fun e W' => e = .returned (.int .u64 Z) ∧ Below W3.heap.size W3 W' from fun W3 k K Z hb h1 h2 h3 => by
    rw [← h2, ← h3, ← hxv]
    exact rahead_any ox (BoolsAt.below hX (bb.trans (hb.mono bb.size))) k h1)
  have HA := hide (show decide (A < PI) = true ∧ PI = AV from ⟨decide_eq_true (by omega), by omega⟩)
  have HB := hide (show decide (QI < AB) = true ∧ QI = BV from ⟨decide_eq_true (by omega), by omega⟩)
  by_cases c9 : wb ≤ wa
  · have d9 : decide (BV ≤ AV) = true := decide_eq_true (by omega)
    rw [rcnt_out f (by omega)] at hV
    have C1 := hide (fun W3 hb => CI.out W3 p q PI QI V hb hp hq hPI hQI hV)
    have s1 : 0 ≤ AV := by omega
    have s2 : AV ≤ 281474976710656 := by omega
    have s3 : 0 ≤ BV := by omega
    have s4 : BV ≤ 281474976710656 := by omega
    clear h hn hp hq hPI hQI hMI eM hV ih c hL cA cB hx hX ox hA hB hWD hNN hwa hwb hAV hBV r1 r2 r3 r4 r5 bb bk c9 hxv CI CA lc DONE
    go_enter Try.func30, Try.ntmps30
    go_wp2_with fail
    obtain ⟨z0, z1, z2, z3, z4⟩ := CELL.out W2 (Below.refl _ _)
    rw [← hW2]
    clear hW2 c0 c1 c2 c3 c4 y0 CELL
    generalize W.heap.size = nb at *
    go_quiet (fail)
    obtain ⟨Wq, hWq⟩ : ∃ Wq, W2.drewN nq = Wq := ⟨_, rfl⟩
    have C2 := hide (C1.out Wq (by rw [← hWq]; exact D0.out nq))
    have FG := hide (show ∀ W3, Below Wq.heap.size Wq W3 → R (.returned (.int .u64 V)) W3 from fun W3 hb => DONE2.out W3 (TR.out Wq W3 (by rw [← hWq]; exact D0.out nq) hb))
    rw [hWq]
    clear hWq C1 DONE2 D0 TR z0 z1 z2 z3 z4 nlt
    obtain ⟨dA, rfl⟩ := HA.out
    obtain ⟨dB, rfl⟩ := HB.out
    clear HA HB
    first | (exact absurd d9 (by rw [d]; decide)) | (
      go_wp2_with fail
      refine C2.out.mono ?_
      rintro e W3 ⟨rfl, k3⟩
      have FF := hide (FG.out W3 k3)
      clear k3 C2 FG
      go_wp2_with fail
      first | exact FF.out | (go_ret; exact FF.out))
  · have d9 : decide (BV ≤ AV) = false := decide_eq_false (by omega)
    have ba : x.a / 8 ≤ wa := by omega
    have bc : wa < wb := by omega
    have bd : x.a / 8 ≤ wb := by omega
    have hV2 := hV
    rw [rcnt_in f hwa hwb bc] at hV2
    obtain ⟨Y1, hY1⟩ : ∃ X : Int, ((cnt f p (wa - p) : Nat) : Int) = X := ⟨_, rfl⟩
    obtain ⟨Y2, hY2⟩ : ∃ X : Int, ((cnt f wb (q - wb) : Nat) : Int) = X := ⟨_, rfl⟩
    obtain ⟨Z1, hZ1⟩ : ∃ X : Int, ((cto x.th wb : Nat) : Int) = X := ⟨_, rfl⟩
    obtain ⟨Z2, hZ2⟩ : ∃ X : Int, ((cto x.th wa : Nat) : Int) = X := ⟨_, rfl⟩
    obtain ⟨KB, hKB⟩ : ∃ X : Int, ((wb - x.a / 8 : Nat) : Int) = X := ⟨_, rfl⟩
    obtain ⟨KA, hKA⟩ : ∃ X : Int, ((wa - x.a / 8 : Nat) : Int) = X := ⟨_, rfl⟩
    obtain ⟨MN, hMN2⟩ : ∃ X : Int, Z1 - Z2 = X := ⟨_, rfl⟩
    obtain ⟨S1, hS1⟩ : ∃ X : Int, Y1 + MN = X := ⟨_, rfl⟩
    have le1 := cnt_le f p (wa - p)
    have le2 := cnt_le f wb (q - wb)
    have le3 := cto_le x.th wb
    have le4 : cto x.th wa ≤ cto x.th wb := by
      have := cto_add x.th wa (wb - wa)
      rw [show wa + (wb - wa) = wb by omega] at this
      omega
    have hV3 : S1 + Y2 = V := by rw [← hV2]; omega
    have C1 := hide (fun W3 hb => CI.out W3 p wa PI AV Y1 hb hp (by omega) hPI hAV hY1)
    have C3 := hide (fun W3 hb => CI.out W3 wb q BV QI Y2 hb (by omega) hq hBV hQI hY2)
    have CB1 := hide (fun W3 hb => CA.out W3 (wb - x.a / 8) KB Z1 hb (by omega) hKB (by rw [show x.a / 8 + (wb - x.a / 8) = wb by omega]; exact hZ1))
    have CB2 := hide (fun W3 hb => CA.out W3 (wa - x.a / 8) KA Z2 hb (by omega) hKA (by rw [show x.a / 8 + (wa - x.a / 8) = wa by omega]; exact hZ2))
    have s1 : 0 ≤ AV := by omega
    have s2 : AV ≤ 281474976710656 := by omega
    have s3 : 0 ≤ BV := by omega
    have s4 : BV ≤ 281474976710656 := by omega
    have t1 : IntKind.u64.wrap (BV - A) = BV - A := by rw [IntKind.wrap_u64]; omega
    have t2 : IntKind.u64.wrap (AV - A) = AV - A := by rw [IntKind.wrap_u64]; omega
    have t3 : (BV - A).tdiv 8 = KB := by rw [Int.tdiv_eq_ediv_of_nonneg (by omega)]; omega
    have t4 : (AV - A).tdiv 8 = KA := by rw [Int.tdiv_eq_ediv_of_nonneg (by omega)]; omega
    have t5 : (BV - A) / 8 = KB := by omega
    have t6 : (AV - A) / 8 = KA := by omega
    have t7 : IntKind.u64.wrap (Z1 - Z2) = MN := by rw [IntKind.wrap_u64]; omega
    have t8 : IntKind.u64.wrap (Y1 + MN) = S1 := by rw [IntKind.wrap_u64]; omega
    have t9 : IntKind.u64.wrap (S1 + Y2) = V := by rw [IntKind.wrap_u64]; omega
    have ta : IntKind.u64.wrap KB = KB := by rw [IntKind.wrap_u64]; omega
    have tb : IntKind.u64.wrap KA = KA := by rw [IntKind.wrap_u64]; omega
    clear h hn hp hq hPI hQI hMI eM hV ih c hL cA cB hx hX ox hA hB hWD hNN hwa hwb hAV hBV r1 r2 r3 r4 r5 bb bk c9 hxv CI CA lc DONE ba bc bd hV2 hY1 hY2 hZ1 hZ2 hKB hKA hMN2 hS1 le1 le2 le3 le4 hV3
    go_enter Try.func30, Try.ntmps30
    go_wp2_with fail
    obtain ⟨z0, z1, z2, z3, z4⟩ := CELL.out W2 (Below.refl _ _)
    rw [← hW2]
    clear hW2 c0 c1 c2 c3 c4 y0
    generalize W.heap.size = nb at *
    go_quiet (fail)
    obtain ⟨Wq, hWq⟩ : ∃ Wq, W2.drewN nq = Wq := ⟨_, rfl⟩
    have BQ := hide (show Below W2.heap.size W2 Wq by rw [← hWq]; exact D0.out nq)
    rw [hWq]
    clear hWq D0 z0 z1 z2 z3 z4 nlt
    obtain ⟨z0, z1, z2, z3, z4⟩ := CELL.out Wq BQ.out
    have CB3 := hide (CB1.out Wq.drew (TR.out _ _ BQ.out (drew_below _)))
    have BQ2 := hide (TR.out _ _ BQ.out (drew_below _))
    obtain ⟨dA, rfl⟩ := HA.out
    obtain ⟨dB, rfl⟩ := HB.out
    clear HA HB
    (
      go_wp2_with fail
      go_region_held3 (fun w' => w'.cell? ⟨nb, 0, none⟩ = some (.int .u64 A) ∧ w'.cell? ⟨nb, 1, none⟩ = some (.int .u64 B) ∧ w'.cell? ⟨nb, 2, none⟩ = some (.int .i64 WD) ∧ w'.cell? ⟨nb, 3, none⟩ = some (.slice (some ⟨x.g, 0, none⟩) x.wd x.cap) ∧ w'.cell? ⟨nb, 4, none⟩ = some (.int .u64 NN)) (first | (go_keep; done)) (first
        | (go_at_call 37; refine CB3.out.mono ?_; rintro e W3 ⟨rfl, k3⟩; have K3 := hide (TR.out _ _ BQ2.out k3); have CB4 := hide (CB2.out W3 K3.out); obtain ⟨u0, u1, u2, u3, u4⟩ := CELL.out W3 K3.out; clear CB3 CB1 CB2 k3)
        | (go_at_call 37; refine CB4.out.mono ?_; rintro e W4 ⟨rfl, k4⟩; have K4 := hide (TR.out _ _ K3.out k4); obtain ⟨v0, v1, v2, v3, v4⟩ := CELL.out W4 K4.out; clear CB4 k4))
      have D1 := hide (C1.out _ K4.out)
      clear CELL C1
      go_wp2_with fail
      refine D1.out.mono ?_
      rintro e W5 ⟨rfl, k5⟩
      have K5 := hide (TR.out _ _ K4.out k5)
      have D3 := hide (C3.out _ K5.out)
      clear k5 D1 C3
      go_wp2_with fail
      refine D3.out.mono ?_
      rintro e W6 ⟨rfl, k6⟩
      have FF := hide (DONE2.out W6 (TR.out _ _ K5.out k6))
      clear k6 D3
      go_wp2_with fail
      first | exact FF.out | (go_ret; exact FF.out))
set_option maxRecDepth 100000 in
set_option maxHeartbeats 4000000 in
theorem rcount_s01 {r : Nat} {v : Value} {L : List Wg} (hL : L.length ≤ 1000000) (m : Nat) (hn : m + 1 ≤ L.length) (ih : ∀ (W : World), RgAt W r v L → ∀ (p q : Nat), p ≤ 35184372088832 → q ≤ 35184372088832 → Calls Try.prog 30 #[.pointer (some ⟨r, 0, none⟩), .int .u64 (8 * p : Nat), .int .u64 (8 * q : Nat), .int .i64 (m : Nat)] W fun e W' => e = .returned (.int .u64 (cnt (rfn (L.take m)) p (q - p) : Nat)) ∧ Below W.heap.size W W') (W : World) (h : RgAt W r v L) (p q : Nat) (hp : p ≤ 35184372088832) (hq : q ≤ 35184372088832) {x : Wg} (hx : L[m]? = some x) (cA : x.a < 8 * p) (cB : ¬ 8 * q < x.a + x.b) :
    Calls Try.prog 30 #[.pointer (some ⟨r, 0, none⟩), .int .u64 (8 * p : Nat), .int .u64 (8 * q : Nat), .int .i64 (m + 1 : Nat)] W fun e W' => e = .returned (.int .u64 (cnt (rfn (L.take (m + 1))) p (q - p) : Nat)) ∧ Below W.heap.size W W' := by
  obtain ⟨V, hV⟩ : ∃ V : Int, ((cnt (rfn (L.take (m + 1))) p (q - p) : Nat) : Int) = V := ⟨_, rfl⟩
  rw [hV]
  obtain ⟨R, hR⟩ : ∃ R : Ending → World → Prop, R = fun e W' => e = .returned (.int .u64 V) ∧ Below W.heap.size W W' := ⟨_, rfl⟩
  rw [← hR]
  have DONE := hide (show ∀ W', Below W.heap.size W W' → R (.returned (.int .u64 V)) W' from fun W' hb => by rw [hR]; exact ⟨rfl, hb⟩)
  clear hR
  obtain ⟨PI, hPI⟩ : ∃ X : Int, ((8 * p : Nat) : Int) = X := ⟨_, rfl⟩
  obtain ⟨QI, hQI⟩ : ∃ X : Int, ((8 * q : Nat) : Int) = X := ⟨_, rfl⟩
  obtain ⟨MI, hMI⟩ : ∃ X : Int, (m : Int) = X := ⟨_, rfl⟩
  have eM : ((m + 1 : Nat) : Int) = MI + 1 := by omega
  rw [hPI, hQI, eM]
  have b0 : 0 ≤ PI := by omega
  have b1 : PI ≤ 281474976710656 := by omega
  have b2 : 0 ≤ QI := by omega
  have b3 : QI ≤ 281474976710656 := by omega
  have b4 : 0 ≤ MI := by omega
  have b5 : MI < 1000000 := by omega
  have e0 : (MI + 1 == 0) = false := by rw [beq_eq_false_iff_ne]; omega
  by_cases c : q ≤ p
  · have d : decide (QI ≤ PI) = true := decide_eq_true (by omega)
    obtain rfl : V = 0 := by rw [← hV, show q - p = 0 by omega]; rfl
    have FF := hide (DONE.out W (Below.refl _ _))
    clear DONE h hn hp hq hPI hQI hMI eM hV ih c hL cA cB hx
    go_enter Try.func30, Try.ntmps30
    go_wp2_with fail
    first | exact FF.out | (go_ret; exact FF.out)
  have d : decide (QI ≤ PI) = false := decide_eq_false (by omega)
  obtain ⟨g, cap, rfl, c0, c1, c2, c3, c4, lc⟩ := h.at hx
  obtain ⟨hX, ox⟩ := h.ms x (List.mem_of_getElem? hx)
  rw [rfn_take hx] at hV
  generalize rfn (L.take m) = f at *
  have y0 : W.cell? ⟨r, 0, none⟩ = some (.slice (some ⟨g, 0, none⟩) L.length cap) := h.bk.cell 0 _ rfl
  obtain ⟨A, hA⟩ : ∃ X : Int, (x.a : Int) = X := ⟨_, rfl⟩
  obtain ⟨B, hB⟩ : ∃ X : Int, (x.b : Int) = X := ⟨_, rfl⟩
  obtain ⟨WD, hWD⟩ : ∃ X : Int, (x.wd : Int) = X := ⟨_, rfl⟩
  obtain ⟨NN, hNN⟩ : ∃ X : Int, (x.n : Int) = X := ⟨_, rfl⟩
  obtain ⟨wa, hwa⟩ : ∃ a, max (x.a / 8) p = a := ⟨_, rfl⟩
  obtain ⟨wb, hwb⟩ : ∃ a, min ((x.a + x.b) / 8) q = a := ⟨_, rfl⟩
  obtain ⟨AV, hAV⟩ : ∃ X : Int, ((8 * wa : Nat) : Int) = X := ⟨_, rfl⟩
  obtain ⟨BV, hBV⟩ : ∃ X : Int, ((8 * wb : Nat) : Int) = X := ⟨_, rfl⟩
  obtain ⟨AB, hAB⟩ : ∃ X : Int, A + B = X := ⟨_, rfl⟩
  have hxv : x.val = .agg #[.int .u64 A, .int .u64 B, .int .i64 WD, .slice (some ⟨x.g, 0, none⟩) x.wd x.cap, .int .u64 NN] := by unfold Wg.val; rw [hA, hB, hWD, hNN]
  rw [hA] at c0
  rw [hB] at c1
  rw [hWD] at c2
  rw [hNN] at c4
  obtain ⟨r1, r2, r3, r4, r5⟩ := ox.r
  have a0 : 0 ≤ A := by omega
  have a1 : A ≤ 281474976710656 := by omega
  have a2 : 0 ≤ B := by omega
  have a3 : B ≤ 1099511627776 := by omega
  have a4 : 0 ≤ AB := by omega
  have a5 : AB ≤ 281474976710656 := by omega
  have l1 : MI < (L.length : Int) := by omega
  have n1 : IntKind.u64.wrap (A + B) = AB := by rw [IntKind.wrap_u64]; omega
  have hMN : MI.toNat = m := by omega
  obtain ⟨W2, hW2⟩ : ∃ W2, W2 = W.alloc (.cells #[.int .u64 A, .int .u64 B, .int .i64 WD, .slice (some ⟨x.g, 0, none⟩) x.wd x.cap, .int .u64 NN] 67) := ⟨_, rfl⟩
  have bb : Below W.heap.size W W2 := by rw [hW2]; exact below_alloc _ _
  have bk : Bk W2 W.heap.size 67 #[.int .u64 A, .int .u64 B, .int .i64 WD, .slice (some ⟨x.g, 0, none⟩) x.wd x.cap, .int .u64 NN] := by rw [hW2]; exact World.alloc_heap_new _ _
  have nlt := bk.lt
  have CELL := hide (show ∀ W3, Below W2.heap.size W2 W3 → (W3.cell? ⟨W.heap.size, 0, none⟩ = some (.int .u64 A) ∧ W3.cell? ⟨W.heap.size, 1, none⟩ = some (.int .u64 B) ∧ W3.cell? ⟨W.heap.size, 2, none⟩ = some (.int .i64 WD) ∧ W3.cell? ⟨W.heap.size, 3, none⟩ = some (.slice (some ⟨x.g, 0, none⟩) x.wd x.cap) ∧ W3.cell? ⟨W.heap.size, 4, none⟩ = some (.int .u64 NN)) from fun W3 hb => by
    have k := bk.below hb
    exact ⟨k.cell 0 _ rfl, k.cell 1 _ rfl, k.cell 2 _ rfl, k.cell 3 _ rfl, k.cell 4 _ rfl⟩)
  have TR := hide (show ∀ W3 W4, Below W2.heap.size W2 W3 → Below W3.heap.size W3 W4 → Below W2.heap.size W2 W4 from fun W3 W4 a b => a.trans (b.mono a.size))
  have DONE2 := hide (show ∀ W', Below W2.heap.size W2 W' → R (.returned (.int .u64 V)) W' from fun W' hb => DONE.out W' (bb.trans (hb.mono bb.size)))
  have D0 := hide (fun n => drewN_below W2 n)
  have CI := hide (show ∀ (W3 : World) (p' q' : Nat) (P' Q' Z : Int), Below W2.heap.size W2 W3 → p' ≤ 35184372088832 → q' ≤ 35184372088832 → ((8 * p' : Nat) : Int) = P' → ((8 * q' : Nat) : Int) = Q' → ((cnt f p' (q' - p') : Nat) : Int) = Z → Calls Try.prog 30 #[.pointer (some ⟨r, 0, none⟩), .int .u64 P', .int .u64 Q', .int .i64 MI] W3 fun e W' => e = .returned (.int .u64 Z) ∧ Below W3.heap.size W3 W' from fun W3 p' q' P' Q' Z hb h1 h2 h3 h4 h5 => by
    rw [← h3, ← h4, ← h5, ← hMI]
    exact ih W3 ((h.below bb).below hb) p' q' h1 h2)
  have CA := hide (show ∀ (W3 : World) (k : Nat) (K Z : Int), Below W2.heap.size W2 W3 → k ≤ 137438953472 → (k : Int) = K → ((cto x.th (x.a / 8 + k) : Nat) : Int) = Z → Calls Try.prog 37 #[.agg #[.int .u64 A, .int .u64 B, .int .i64 WD, .slice (some ⟨x.g, 0, none⟩) x.wd x.cap, .int .u64 NN], .int .u64 K] W3 fun e W' => e = .returned (.int .u64 Z) ∧ Below W3.heap.size W3 W' from fun W3 k K Z hb h1 h2 h3 => by
    rw [← h2, ← h3, ← hxv]
    exact rahead_any ox (BoolsAt.below hX (bb.trans (hb.mono bb.size))) k h1)
  have HA := hide (show decide (A < PI) = true ∧ PI = AV from ⟨decide_eq_true (by omega), by omega⟩)
  have HB := hide (show decide (QI < AB) = false ∧ AB = BV from ⟨decide_eq_false (by omega), by omega⟩)
  by_cases c9 : wb ≤ wa
  · have d9 : decide (BV ≤ AV) = true := decide_eq_true (by omega)
    rw [rcnt_out f (by omega)] at hV
    have C1 := hide (fun W3 hb => CI.out W3 p q PI QI V hb hp hq hPI hQI hV)
    have s1 : 0 ≤ AV := by omega
    have s2 : AV ≤ 281474976710656 := by omega
    have s3 : 0 ≤ BV := by omega
    have s4 : BV ≤ 281474976710656 := by omega
    clear h hn hp hq hPI hQI hMI eM hV ih c hL cA cB hx hX ox hA hB hWD hNN hwa hwb hAV hBV r1 r2 r3 r4 r5 bb bk c9 hxv CI CA lc DONE
    go_enter Try.func30, Try.ntmps30
    go_wp2_with fail
    obtain ⟨z0, z1, z2, z3, z4⟩ := CELL.out W2 (Below.refl _ _)
    rw [← hW2]
    clear hW2 c0 c1 c2 c3 c4 y0 CELL
    generalize W.heap.size = nb at *
    go_quiet (fail)
    obtain ⟨Wq, hWq⟩ : ∃ Wq, W2.drewN nq = Wq := ⟨_, rfl⟩
    have C2 := hide (C1.out Wq (by rw [← hWq]; exact D0.out nq))
    have FG := hide (show ∀ W3, Below Wq.heap.size Wq W3 → R (.returned (.int .u64 V)) W3 from fun W3 hb => DONE2.out W3 (TR.out Wq W3 (by rw [← hWq]; exact D0.out nq) hb))
    rw [hWq]
    clear hWq C1 DONE2 D0 TR z0 z1 z2 z3 z4 nlt
    obtain ⟨dA, rfl⟩ := HA.out
    obtain ⟨dB, rfl⟩ := HB.out
    clear HA HB
    first | (exact absurd d9 (by rw [d]; decide)) | (
      go_wp2_with fail
      refine C2.out.mono ?_
      rintro e W3 ⟨rfl, k3⟩
      have FF := hide (FG.out W3 k3)
      clear k3 C2 FG
      go_wp2_with fail
      first | exact FF.out | (go_ret; exact FF.out))
  · have d9 : decide (BV ≤ AV) = false := decide_eq_false (by omega)
    have ba : x.a / 8 ≤ wa := by omega
    have bc : wa < wb := by omega
    have bd : x.a / 8 ≤ wb := by omega
    have hV2 := hV
    rw [rcnt_in f hwa hwb bc] at hV2
    obtain ⟨Y1, hY1⟩ : ∃ X : Int, ((cnt f p (wa - p) : Nat) : Int) = X := ⟨_, rfl⟩
    obtain ⟨Y2, hY2⟩ : ∃ X : Int, ((cnt f wb (q - wb) : Nat) : Int) = X := ⟨_, rfl⟩
    obtain ⟨Z1, hZ1⟩ : ∃ X : Int, ((cto x.th wb : Nat) : Int) = X := ⟨_, rfl⟩
    obtain ⟨Z2, hZ2⟩ : ∃ X : Int, ((cto x.th wa : Nat) : Int) = X := ⟨_, rfl⟩
    obtain ⟨KB, hKB⟩ : ∃ X : Int, ((wb - x.a / 8 : Nat) : Int) = X := ⟨_, rfl⟩
    obtain ⟨KA, hKA⟩ : ∃ X : Int, ((wa - x.a / 8 : Nat) : Int) = X := ⟨_, rfl⟩
    obtain ⟨MN, hMN2⟩ : ∃ X : Int, Z1 - Z2 = X := ⟨_, rfl⟩
    obtain ⟨S1, hS1⟩ : ∃ X : Int, Y1 + MN = X := ⟨_, rfl⟩
    have le1 := cnt_le f p (wa - p)
    have le2 := cnt_le f wb (q - wb)
    have le3 := cto_le x.th wb
    have le4 : cto x.th wa ≤ cto x.th wb := by
      have := cto_add x.th wa (wb - wa)
      rw [show wa + (wb - wa) = wb by omega] at this
      omega
    have hV3 : S1 + Y2 = V := by rw [← hV2]; omega
    have C1 := hide (fun W3 hb => CI.out W3 p wa PI AV Y1 hb hp (by omega) hPI hAV hY1)
    have C3 := hide (fun W3 hb => CI.out W3 wb q BV QI Y2 hb (by omega) hq hBV hQI hY2)
    have CB1 := hide (fun W3 hb => CA.out W3 (wb - x.a / 8) KB Z1 hb (by omega) hKB (by rw [show x.a / 8 + (wb - x.a / 8) = wb by omega]; exact hZ1))
    have CB2 := hide (fun W3 hb => CA.out W3 (wa - x.a / 8) KA Z2 hb (by omega) hKA (by rw [show x.a / 8 + (wa - x.a / 8) = wa by omega]; exact hZ2))
    have s1 : 0 ≤ AV := by omega
    have s2 : AV ≤ 281474976710656 := by omega
    have s3 : 0 ≤ BV := by omega
    have s4 : BV ≤ 281474976710656 := by omega
    have t1 : IntKind.u64.wrap (BV - A) = BV - A := by rw [IntKind.wrap_u64]; omega
    have t2 : IntKind.u64.wrap (AV - A) = AV - A := by rw [IntKind.wrap_u64]; omega
    have t3 : (BV - A).tdiv 8 = KB := by rw [Int.tdiv_eq_ediv_of_nonneg (by omega)]; omega
    have t4 : (AV - A).tdiv 8 = KA := by rw [Int.tdiv_eq_ediv_of_nonneg (by omega)]; omega
    have t5 : (BV - A) / 8 = KB := by omega
    have t6 : (AV - A) / 8 = KA := by omega
    have t7 : IntKind.u64.wrap (Z1 - Z2) = MN := by rw [IntKind.wrap_u64]; omega
    have t8 : IntKind.u64.wrap (Y1 + MN) = S1 := by rw [IntKind.wrap_u64]; omega
    have t9 : IntKind.u64.wrap (S1 + Y2) = V := by rw [IntKind.wrap_u64]; omega
    have ta : IntKind.u64.wrap KB = KB := by rw [IntKind.wrap_u64]; omega
    have tb : IntKind.u64.wrap KA = KA := by rw [IntKind.wrap_u64]; omega
    clear h hn hp hq hPI hQI hMI eM hV ih c hL cA cB hx hX ox hA hB hWD hNN hwa hwb hAV hBV r1 r2 r3 r4 r5 bb bk c9 hxv CI CA lc DONE ba bc bd hV2 hY1 hY2 hZ1 hZ2 hKB hKA hMN2 hS1 le1 le2 le3 le4 hV3
    go_enter Try.func30, Try.ntmps30
    go_wp2_with fail
    obtain ⟨z0, z1, z2, z3, z4⟩ := CELL.out W2 (Below.refl _ _)
    rw [← hW2]
    clear hW2 c0 c1 c2 c3 c4 y0
    generalize W.heap.size = nb at *
    go_quiet (fail)
    obtain ⟨Wq, hWq⟩ : ∃ Wq, W2.drewN nq = Wq := ⟨_, rfl⟩
    have BQ := hide (show Below W2.heap.size W2 Wq by rw [← hWq]; exact D0.out nq)
    rw [hWq]
    clear hWq D0 z0 z1 z2 z3 z4 nlt
    obtain ⟨z0, z1, z2, z3, z4⟩ := CELL.out Wq BQ.out
    have CB3 := hide (CB1.out Wq.drew (TR.out _ _ BQ.out (drew_below _)))
    have BQ2 := hide (TR.out _ _ BQ.out (drew_below _))
    obtain ⟨dA, rfl⟩ := HA.out
    obtain ⟨dB, rfl⟩ := HB.out
    clear HA HB
    (
      go_wp2_with fail
      go_region_held3 (fun w' => w'.cell? ⟨nb, 0, none⟩ = some (.int .u64 A) ∧ w'.cell? ⟨nb, 1, none⟩ = some (.int .u64 B) ∧ w'.cell? ⟨nb, 2, none⟩ = some (.int .i64 WD) ∧ w'.cell? ⟨nb, 3, none⟩ = some (.slice (some ⟨x.g, 0, none⟩) x.wd x.cap) ∧ w'.cell? ⟨nb, 4, none⟩ = some (.int .u64 NN)) (first | (go_keep; done)) (first
        | (go_at_call 37; refine CB3.out.mono ?_; rintro e W3 ⟨rfl, k3⟩; have K3 := hide (TR.out _ _ BQ2.out k3); have CB4 := hide (CB2.out W3 K3.out); obtain ⟨u0, u1, u2, u3, u4⟩ := CELL.out W3 K3.out; clear CB3 CB1 CB2 k3)
        | (go_at_call 37; refine CB4.out.mono ?_; rintro e W4 ⟨rfl, k4⟩; have K4 := hide (TR.out _ _ K3.out k4); obtain ⟨v0, v1, v2, v3, v4⟩ := CELL.out W4 K4.out; clear CB4 k4))
      have D1 := hide (C1.out _ K4.out)
      clear CELL C1
      go_wp2_with fail
      refine D1.out.mono ?_
      rintro e W5 ⟨rfl, k5⟩
      have K5 := hide (TR.out _ _ K4.out k5)
      have D3 := hide (C3.out _ K5.out)
      clear k5 D1 C3
      go_wp2_with fail
      refine D3.out.mono ?_
      rintro e W6 ⟨rfl, k6⟩
      have FF := hide (DONE2.out W6 (TR.out _ _ K5.out k6))
      clear k6 D3
      go_wp2_with fail
      first | exact FF.out | (go_ret; exact FF.out))
set_option maxRecDepth 100000 in
set_option maxHeartbeats 4000000 in
theorem rcount_s10 {r : Nat} {v : Value} {L : List Wg} (hL : L.length ≤ 1000000) (m : Nat) (hn : m + 1 ≤ L.length) (ih : ∀ (W : World), RgAt W r v L → ∀ (p q : Nat), p ≤ 35184372088832 → q ≤ 35184372088832 → Calls Try.prog 30 #[.pointer (some ⟨r, 0, none⟩), .int .u64 (8 * p : Nat), .int .u64 (8 * q : Nat), .int .i64 (m : Nat)] W fun e W' => e = .returned (.int .u64 (cnt (rfn (L.take m)) p (q - p) : Nat)) ∧ Below W.heap.size W W') (W : World) (h : RgAt W r v L) (p q : Nat) (hp : p ≤ 35184372088832) (hq : q ≤ 35184372088832) {x : Wg} (hx : L[m]? = some x) (cA : ¬ x.a < 8 * p) (cB : 8 * q < x.a + x.b) :
    Calls Try.prog 30 #[.pointer (some ⟨r, 0, none⟩), .int .u64 (8 * p : Nat), .int .u64 (8 * q : Nat), .int .i64 (m + 1 : Nat)] W fun e W' => e = .returned (.int .u64 (cnt (rfn (L.take (m + 1))) p (q - p) : Nat)) ∧ Below W.heap.size W W' := by
  obtain ⟨V, hV⟩ : ∃ V : Int, ((cnt (rfn (L.take (m + 1))) p (q - p) : Nat) : Int) = V := ⟨_, rfl⟩
  rw [hV]
  obtain ⟨R, hR⟩ : ∃ R : Ending → World → Prop, R = fun e W' => e = .returned (.int .u64 V) ∧ Below W.heap.size W W' := ⟨_, rfl⟩
  rw [← hR]
  have DONE := hide (show ∀ W', Below W.heap.size W W' → R (.returned (.int .u64 V)) W' from fun W' hb => by rw [hR]; exact ⟨rfl, hb⟩)
  clear hR
  obtain ⟨PI, hPI⟩ : ∃ X : Int, ((8 * p : Nat) : Int) = X := ⟨_, rfl⟩
  obtain ⟨QI, hQI⟩ : ∃ X : Int, ((8 * q : Nat) : Int) = X := ⟨_, rfl⟩
  obtain ⟨MI, hMI⟩ : ∃ X : Int, (m : Int) = X := ⟨_, rfl⟩
  have eM : ((m + 1 : Nat) : Int) = MI + 1 := by omega
  rw [hPI, hQI, eM]
  have b0 : 0 ≤ PI := by omega
  have b1 : PI ≤ 281474976710656 := by omega
  have b2 : 0 ≤ QI := by omega
  have b3 : QI ≤ 281474976710656 := by omega
  have b4 : 0 ≤ MI := by omega
  have b5 : MI < 1000000 := by omega
  have e0 : (MI + 1 == 0) = false := by rw [beq_eq_false_iff_ne]; omega
  by_cases c : q ≤ p
  · have d : decide (QI ≤ PI) = true := decide_eq_true (by omega)
    obtain rfl : V = 0 := by rw [← hV, show q - p = 0 by omega]; rfl
    have FF := hide (DONE.out W (Below.refl _ _))
    clear DONE h hn hp hq hPI hQI hMI eM hV ih c hL cA cB hx
    go_enter Try.func30, Try.ntmps30
    go_wp2_with fail
    first | exact FF.out | (go_ret; exact FF.out)
  have d : decide (QI ≤ PI) = false := decide_eq_false (by omega)
  obtain ⟨g, cap, rfl, c0, c1, c2, c3, c4, lc⟩ := h.at hx
  obtain ⟨hX, ox⟩ := h.ms x (List.mem_of_getElem? hx)
  rw [rfn_take hx] at hV
  generalize rfn (L.take m) = f at *
  have y0 : W.cell? ⟨r, 0, none⟩ = some (.slice (some ⟨g, 0, none⟩) L.length cap) := h.bk.cell 0 _ rfl
  obtain ⟨A, hA⟩ : ∃ X : Int, (x.a : Int) = X := ⟨_, rfl⟩
  obtain ⟨B, hB⟩ : ∃ X : Int, (x.b : Int) = X := ⟨_, rfl⟩
  obtain ⟨WD, hWD⟩ : ∃ X : Int, (x.wd : Int) = X := ⟨_, rfl⟩
  obtain ⟨NN, hNN⟩ : ∃ X : Int, (x.n : Int) = X := ⟨_, rfl⟩
  obtain ⟨wa, hwa⟩ : ∃ a, max (x.a / 8) p = a := ⟨_, rfl⟩
  obtain ⟨wb, hwb⟩ : ∃ a, min ((x.a + x.b) / 8) q = a := ⟨_, rfl⟩
  obtain ⟨AV, hAV⟩ : ∃ X : Int, ((8 * wa : Nat) : Int) = X := ⟨_, rfl⟩
  obtain ⟨BV, hBV⟩ : ∃ X : Int, ((8 * wb : Nat) : Int) = X := ⟨_, rfl⟩
  obtain ⟨AB, hAB⟩ : ∃ X : Int, A + B = X := ⟨_, rfl⟩
  have hxv : x.val = .agg #[.int .u64 A, .int .u64 B, .int .i64 WD, .slice (some ⟨x.g, 0, none⟩) x.wd x.cap, .int .u64 NN] := by unfold Wg.val; rw [hA, hB, hWD, hNN]
  rw [hA] at c0
  rw [hB] at c1
  rw [hWD] at c2
  rw [hNN] at c4
  obtain ⟨r1, r2, r3, r4, r5⟩ := ox.r
  have a0 : 0 ≤ A := by omega
  have a1 : A ≤ 281474976710656 := by omega
  have a2 : 0 ≤ B := by omega
  have a3 : B ≤ 1099511627776 := by omega
  have a4 : 0 ≤ AB := by omega
  have a5 : AB ≤ 281474976710656 := by omega
  have l1 : MI < (L.length : Int) := by omega
  have n1 : IntKind.u64.wrap (A + B) = AB := by rw [IntKind.wrap_u64]; omega
  have hMN : MI.toNat = m := by omega
  obtain ⟨W2, hW2⟩ : ∃ W2, W2 = W.alloc (.cells #[.int .u64 A, .int .u64 B, .int .i64 WD, .slice (some ⟨x.g, 0, none⟩) x.wd x.cap, .int .u64 NN] 67) := ⟨_, rfl⟩
  have bb : Below W.heap.size W W2 := by rw [hW2]; exact below_alloc _ _
  have bk : Bk W2 W.heap.size 67 #[.int .u64 A, .int .u64 B, .int .i64 WD, .slice (some ⟨x.g, 0, none⟩) x.wd x.cap, .int .u64 NN] := by rw [hW2]; exact World.alloc_heap_new _ _
  have nlt := bk.lt
  have CELL := hide (show ∀ W3, Below W2.heap.size W2 W3 → (W3.cell? ⟨W.heap.size, 0, none⟩ = some (.int .u64 A) ∧ W3.cell? ⟨W.heap.size, 1, none⟩ = some (.int .u64 B) ∧ W3.cell? ⟨W.heap.size, 2, none⟩ = some (.int .i64 WD) ∧ W3.cell? ⟨W.heap.size, 3, none⟩ = some (.slice (some ⟨x.g, 0, none⟩) x.wd x.cap) ∧ W3.cell? ⟨W.heap.size, 4, none⟩ = some (.int .u64 NN)) from fun W3 hb => by
    have k := bk.below hb
    exact ⟨k.cell 0 _ rfl, k.cell 1 _ rfl, k.cell 2 _ rfl, k.cell 3 _ rfl, k.cell 4 _ rfl⟩)
  have TR := hide (show ∀ W3 W4, Below W2.heap.size W2 W3 → Below W3.heap.size W3 W4 → Below W2.heap.size W2 W4 from fun W3 W4 a b => a.trans (b.mono a.size))
  have DONE2 := hide (show ∀ W', Below W2.heap.size W2 W' → R (.returned (.int .u64 V)) W' from fun W' hb => DONE.out W' (bb.trans (hb.mono bb.size)))
  have D0 := hide (fun n => drewN_below W2 n)
  have CI := hide (show ∀ (W3 : World) (p' q' : Nat) (P' Q' Z : Int), Below W2.heap.size W2 W3 → p' ≤ 35184372088832 → q' ≤ 35184372088832 → ((8 * p' : Nat) : Int) = P' → ((8 * q' : Nat) : Int) = Q' → ((cnt f p' (q' - p') : Nat) : Int) = Z → Calls Try.prog 30 #[.pointer (some ⟨r, 0, none⟩), .int .u64 P', .int .u64 Q', .int .i64 MI] W3 fun e W' => e = .returned (.int .u64 Z) ∧ Below W3.heap.size W3 W' from fun W3 p' q' P' Q' Z hb h1 h2 h3 h4 h5 => by
    rw [← h3, ← h4, ← h5, ← hMI]
    exact ih W3 ((h.below bb).below hb) p' q' h1 h2)
  have CA := hide (show ∀ (W3 : World) (k : Nat) (K Z : Int), Below W2.heap.size W2 W3 → k ≤ 137438953472 → (k : Int) = K → ((cto x.th (x.a / 8 + k) : Nat) : Int) = Z → Calls Try.prog 37 #[.agg #[.int .u64 A, .int .u64 B, .int .i64 WD, .slice (some ⟨x.g, 0, none⟩) x.wd x.cap, .int .u64 NN], .int .u64 K] W3 fun e W' => e = .returned (.int .u64 Z) ∧ Below W3.heap.size W3 W' from fun W3 k K Z hb h1 h2 h3 => by
    rw [← h2, ← h3, ← hxv]
    exact rahead_any ox (BoolsAt.below hX (bb.trans (hb.mono bb.size))) k h1)
  have HA := hide (show decide (A < PI) = false ∧ A = AV from ⟨decide_eq_false (by omega), by omega⟩)
  have HB := hide (show decide (QI < AB) = true ∧ QI = BV from ⟨decide_eq_true (by omega), by omega⟩)
  by_cases c9 : wb ≤ wa
  · have d9 : decide (BV ≤ AV) = true := decide_eq_true (by omega)
    rw [rcnt_out f (by omega)] at hV
    have C1 := hide (fun W3 hb => CI.out W3 p q PI QI V hb hp hq hPI hQI hV)
    have s1 : 0 ≤ AV := by omega
    have s2 : AV ≤ 281474976710656 := by omega
    have s3 : 0 ≤ BV := by omega
    have s4 : BV ≤ 281474976710656 := by omega
    clear h hn hp hq hPI hQI hMI eM hV ih c hL cA cB hx hX ox hA hB hWD hNN hwa hwb hAV hBV r1 r2 r3 r4 r5 bb bk c9 hxv CI CA lc DONE
    go_enter Try.func30, Try.ntmps30
    go_wp2_with fail
    obtain ⟨z0, z1, z2, z3, z4⟩ := CELL.out W2 (Below.refl _ _)
    rw [← hW2]
    clear hW2 c0 c1 c2 c3 c4 y0 CELL
    generalize W.heap.size = nb at *
    go_quiet (fail)
    obtain ⟨Wq, hWq⟩ : ∃ Wq, W2.drewN nq = Wq := ⟨_, rfl⟩
    have C2 := hide (C1.out Wq (by rw [← hWq]; exact D0.out nq))
    have FG := hide (show ∀ W3, Below Wq.heap.size Wq W3 → R (.returned (.int .u64 V)) W3 from fun W3 hb => DONE2.out W3 (TR.out Wq W3 (by rw [← hWq]; exact D0.out nq) hb))
    rw [hWq]
    clear hWq C1 DONE2 D0 TR z0 z1 z2 z3 z4 nlt
    obtain ⟨dA, rfl⟩ := HA.out
    obtain ⟨dB, rfl⟩ := HB.out
    clear HA HB
    first | (exact absurd d9 (by rw [d]; decide)) | (
      go_wp2_with fail
      refine C2.out.mono ?_
      rintro e W3 ⟨rfl, k3⟩
      have FF := hide (FG.out W3 k3)
      clear k3 C2 FG
      go_wp2_with fail
      first | exact FF.out | (go_ret; exact FF.out))
  · have d9 : decide (BV ≤ AV) = false := decide_eq_false (by omega)
    have ba : x.a / 8 ≤ wa := by omega
    have bc : wa < wb := by omega
    have bd : x.a / 8 ≤ wb := by omega
    have hV2 := hV
    rw [rcnt_in f hwa hwb bc] at hV2
    obtain ⟨Y1, hY1⟩ : ∃ X : Int, ((cnt f p (wa - p) : Nat) : Int) = X := ⟨_, rfl⟩
    obtain ⟨Y2, hY2⟩ : ∃ X : Int, ((cnt f wb (q - wb) : Nat) : Int) = X := ⟨_, rfl⟩
    obtain ⟨Z1, hZ1⟩ : ∃ X : Int, ((cto x.th wb : Nat) : Int) = X := ⟨_, rfl⟩
    obtain ⟨Z2, hZ2⟩ : ∃ X : Int, ((cto x.th wa : Nat) : Int) = X := ⟨_, rfl⟩
    obtain ⟨KB, hKB⟩ : ∃ X : Int, ((wb - x.a / 8 : Nat) : Int) = X := ⟨_, rfl⟩
    obtain ⟨KA, hKA⟩ : ∃ X : Int, ((wa - x.a / 8 : Nat) : Int) = X := ⟨_, rfl⟩
    obtain ⟨MN, hMN2⟩ : ∃ X : Int, Z1 - Z2 = X := ⟨_, rfl⟩
    obtain ⟨S1, hS1⟩ : ∃ X : Int, Y1 + MN = X := ⟨_, rfl⟩
    have le1 := cnt_le f p (wa - p)
    have le2 := cnt_le f wb (q - wb)
    have le3 := cto_le x.th wb
    have le4 : cto x.th wa ≤ cto x.th wb := by
      have := cto_add x.th wa (wb - wa)
      rw [show wa + (wb - wa) = wb by omega] at this
      omega
    have hV3 : S1 + Y2 = V := by rw [← hV2]; omega
    have C1 := hide (fun W3 hb => CI.out W3 p wa PI AV Y1 hb hp (by omega) hPI hAV hY1)
    have C3 := hide (fun W3 hb => CI.out W3 wb q BV QI Y2 hb (by omega) hq hBV hQI hY2)
    have CB1 := hide (fun W3 hb => CA.out W3 (wb - x.a / 8) KB Z1 hb (by omega) hKB (by rw [show x.a / 8 + (wb - x.a / 8) = wb by omega]; exact hZ1))
    have CB2 := hide (fun W3 hb => CA.out W3 (wa - x.a / 8) KA Z2 hb (by omega) hKA (by rw [show x.a / 8 + (wa - x.a / 8) = wa by omega]; exact hZ2))
    have s1 : 0 ≤ AV := by omega
    have s2 : AV ≤ 281474976710656 := by omega
    have s3 : 0 ≤ BV := by omega
    have s4 : BV ≤ 281474976710656 := by omega
    have t1 : IntKind.u64.wrap (BV - A) = BV - A := by rw [IntKind.wrap_u64]; omega
    have t2 : IntKind.u64.wrap (AV - A) = AV - A := by rw [IntKind.wrap_u64]; omega
    have t3 : (BV - A).tdiv 8 = KB := by rw [Int.tdiv_eq_ediv_of_nonneg (by omega)]; omega
    have t4 : (AV - A).tdiv 8 = KA := by rw [Int.tdiv_eq_ediv_of_nonneg (by omega)]; omega
    have t5 : (BV - A) / 8 = KB := by omega
    have t6 : (AV - A) / 8 = KA := by omega
    have t7 : IntKind.u64.wrap (Z1 - Z2) = MN := by rw [IntKind.wrap_u64]; omega
    have t8 : IntKind.u64.wrap (Y1 + MN) = S1 := by rw [IntKind.wrap_u64]; omega
    have t9 : IntKind.u64.wrap (S1 + Y2) = V := by rw [IntKind.wrap_u64]; omega
    have ta : IntKind.u64.wrap KB = KB := by rw [IntKind.wrap_u64]; omega
    have tb : IntKind.u64.wrap KA = KA := by rw [IntKind.wrap_u64]; omega
    clear h hn hp hq hPI hQI hMI eM hV ih c hL cA cB hx hX ox hA hB hWD hNN hwa hwb hAV hBV r1 r2 r3 r4 r5 bb bk c9 hxv CI CA lc DONE ba bc bd hV2 hY1 hY2 hZ1 hZ2 hKB hKA hMN2 hS1 le1 le2 le3 le4 hV3
    go_enter Try.func30, Try.ntmps30
    go_wp2_with fail
    obtain ⟨z0, z1, z2, z3, z4⟩ := CELL.out W2 (Below.refl _ _)
    rw [← hW2]
    clear hW2 c0 c1 c2 c3 c4 y0
    generalize W.heap.size = nb at *
    go_quiet (fail)
    obtain ⟨Wq, hWq⟩ : ∃ Wq, W2.drewN nq = Wq := ⟨_, rfl⟩
    have BQ := hide (show Below W2.heap.size W2 Wq by rw [← hWq]; exact D0.out nq)
    rw [hWq]
    clear hWq D0 z0 z1 z2 z3 z4 nlt
    obtain ⟨z0, z1, z2, z3, z4⟩ := CELL.out Wq BQ.out
    have CB3 := hide (CB1.out Wq.drew (TR.out _ _ BQ.out (drew_below _)))
    have BQ2 := hide (TR.out _ _ BQ.out (drew_below _))
    obtain ⟨dA, rfl⟩ := HA.out
    obtain rfl : KA = 0 := by rw [← t6]; simp
    obtain ⟨dB, rfl⟩ := HB.out
    clear HA HB
    (
      go_wp2_with fail
      go_region_held3 (fun w' => w'.cell? ⟨nb, 0, none⟩ = some (.int .u64 A) ∧ w'.cell? ⟨nb, 1, none⟩ = some (.int .u64 B) ∧ w'.cell? ⟨nb, 2, none⟩ = some (.int .i64 WD) ∧ w'.cell? ⟨nb, 3, none⟩ = some (.slice (some ⟨x.g, 0, none⟩) x.wd x.cap) ∧ w'.cell? ⟨nb, 4, none⟩ = some (.int .u64 NN)) (first | (go_keep; done)) (first
        | (go_at_call 37; refine CB3.out.mono ?_; rintro e W3 ⟨rfl, k3⟩; have K3 := hide (TR.out _ _ BQ2.out k3); have CB4 := hide (CB2.out W3 K3.out); obtain ⟨u0, u1, u2, u3, u4⟩ := CELL.out W3 K3.out; clear CB3 CB1 CB2 k3)
        | (go_at_call 37; refine CB4.out.mono ?_; rintro e W4 ⟨rfl, k4⟩; have K4 := hide (TR.out _ _ K3.out k4); obtain ⟨v0, v1, v2, v3, v4⟩ := CELL.out W4 K4.out; clear CB4 k4))
      have D1 := hide (C1.out _ K4.out)
      clear CELL C1
      go_wp2_with fail
      refine D1.out.mono ?_
      rintro e W5 ⟨rfl, k5⟩
      have K5 := hide (TR.out _ _ K4.out k5)
      have D3 := hide (C3.out _ K5.out)
      clear k5 D1 C3
      go_wp2_with fail
      refine D3.out.mono ?_
      rintro e W6 ⟨rfl, k6⟩
      have FF := hide (DONE2.out W6 (TR.out _ _ K5.out k6))
      clear k6 D3
      go_wp2_with fail
      first | exact FF.out | (go_ret; exact FF.out))
set_option maxRecDepth 100000 in
set_option maxHeartbeats 4000000 in
theorem rcount_s11 {r : Nat} {v : Value} {L : List Wg} (hL : L.length ≤ 1000000) (m : Nat) (hn : m + 1 ≤ L.length) (ih : ∀ (W : World), RgAt W r v L → ∀ (p q : Nat), p ≤ 35184372088832 → q ≤ 35184372088832 → Calls Try.prog 30 #[.pointer (some ⟨r, 0, none⟩), .int .u64 (8 * p : Nat), .int .u64 (8 * q : Nat), .int .i64 (m : Nat)] W fun e W' => e = .returned (.int .u64 (cnt (rfn (L.take m)) p (q - p) : Nat)) ∧ Below W.heap.size W W') (W : World) (h : RgAt W r v L) (p q : Nat) (hp : p ≤ 35184372088832) (hq : q ≤ 35184372088832) {x : Wg} (hx : L[m]? = some x) (cA : ¬ x.a < 8 * p) (cB : ¬ 8 * q < x.a + x.b) :
    Calls Try.prog 30 #[.pointer (some ⟨r, 0, none⟩), .int .u64 (8 * p : Nat), .int .u64 (8 * q : Nat), .int .i64 (m + 1 : Nat)] W fun e W' => e = .returned (.int .u64 (cnt (rfn (L.take (m + 1))) p (q - p) : Nat)) ∧ Below W.heap.size W W' := by
  obtain ⟨V, hV⟩ : ∃ V : Int, ((cnt (rfn (L.take (m + 1))) p (q - p) : Nat) : Int) = V := ⟨_, rfl⟩
  rw [hV]
  obtain ⟨R, hR⟩ : ∃ R : Ending → World → Prop, R = fun e W' => e = .returned (.int .u64 V) ∧ Below W.heap.size W W' := ⟨_, rfl⟩
  rw [← hR]
  have DONE := hide (show ∀ W', Below W.heap.size W W' → R (.returned (.int .u64 V)) W' from fun W' hb => by rw [hR]; exact ⟨rfl, hb⟩)
  clear hR
  obtain ⟨PI, hPI⟩ : ∃ X : Int, ((8 * p : Nat) : Int) = X := ⟨_, rfl⟩
  obtain ⟨QI, hQI⟩ : ∃ X : Int, ((8 * q : Nat) : Int) = X := ⟨_, rfl⟩
  obtain ⟨MI, hMI⟩ : ∃ X : Int, (m : Int) = X := ⟨_, rfl⟩
  have eM : ((m + 1 : Nat) : Int) = MI + 1 := by omega
  rw [hPI, hQI, eM]
  have b0 : 0 ≤ PI := by omega
  have b1 : PI ≤ 281474976710656 := by omega
  have b2 : 0 ≤ QI := by omega
  have b3 : QI ≤ 281474976710656 := by omega
  have b4 : 0 ≤ MI := by omega
  have b5 : MI < 1000000 := by omega
  have e0 : (MI + 1 == 0) = false := by rw [beq_eq_false_iff_ne]; omega
  by_cases c : q ≤ p
  · have d : decide (QI ≤ PI) = true := decide_eq_true (by omega)
    obtain rfl : V = 0 := by rw [← hV, show q - p = 0 by omega]; rfl
    have FF := hide (DONE.out W (Below.refl _ _))
    clear DONE h hn hp hq hPI hQI hMI eM hV ih c hL cA cB hx
    go_enter Try.func30, Try.ntmps30
    go_wp2_with fail
    first | exact FF.out | (go_ret; exact FF.out)
  have d : decide (QI ≤ PI) = false := decide_eq_false (by omega)
  obtain ⟨g, cap, rfl, c0, c1, c2, c3, c4, lc⟩ := h.at hx
  obtain ⟨hX, ox⟩ := h.ms x (List.mem_of_getElem? hx)
  rw [rfn_take hx] at hV
  generalize rfn (L.take m) = f at *
  have y0 : W.cell? ⟨r, 0, none⟩ = some (.slice (some ⟨g, 0, none⟩) L.length cap) := h.bk.cell 0 _ rfl
  obtain ⟨A, hA⟩ : ∃ X : Int, (x.a : Int) = X := ⟨_, rfl⟩
  obtain ⟨B, hB⟩ : ∃ X : Int, (x.b : Int) = X := ⟨_, rfl⟩
  obtain ⟨WD, hWD⟩ : ∃ X : Int, (x.wd : Int) = X := ⟨_, rfl⟩
  obtain ⟨NN, hNN⟩ : ∃ X : Int, (x.n : Int) = X := ⟨_, rfl⟩
  obtain ⟨wa, hwa⟩ : ∃ a, max (x.a / 8) p = a := ⟨_, rfl⟩
  obtain ⟨wb, hwb⟩ : ∃ a, min ((x.a + x.b) / 8) q = a := ⟨_, rfl⟩
  obtain ⟨AV, hAV⟩ : ∃ X : Int, ((8 * wa : Nat) : Int) = X := ⟨_, rfl⟩
  obtain ⟨BV, hBV⟩ : ∃ X : Int, ((8 * wb : Nat) : Int) = X := ⟨_, rfl⟩
  obtain ⟨AB, hAB⟩ : ∃ X : Int, A + B = X := ⟨_, rfl⟩
  have hxv : x.val = .agg #[.int .u64 A, .int .u64 B, .int .i64 WD, .slice (some ⟨x.g, 0, none⟩) x.wd x.cap, .int .u64 NN] := by unfold Wg.val; rw [hA, hB, hWD, hNN]
  rw [hA] at c0
  rw [hB] at c1
  rw [hWD] at c2
  rw [hNN] at c4
  obtain ⟨r1, r2, r3, r4, r5⟩ := ox.r
  have a0 : 0 ≤ A := by omega
  have a1 : A ≤ 281474976710656 := by omega
  have a2 : 0 ≤ B := by omega
  have a3 : B ≤ 1099511627776 := by omega
  have a4 : 0 ≤ AB := by omega
  have a5 : AB ≤ 281474976710656 := by omega
  have l1 : MI < (L.length : Int) := by omega
  have n1 : IntKind.u64.wrap (A + B) = AB := by rw [IntKind.wrap_u64]; omega
  have hMN : MI.toNat = m := by omega
  obtain ⟨W2, hW2⟩ : ∃ W2, W2 = W.alloc (.cells #[.int .u64 A, .int .u64 B, .int .i64 WD, .slice (some ⟨x.g, 0, none⟩) x.wd x.cap, .int .u64 NN] 67) := ⟨_, rfl⟩
  have bb : Below W.heap.size W W2 := by rw [hW2]; exact below_alloc _ _
  have bk : Bk W2 W.heap.size 67 #[.int .u64 A, .int .u64 B, .int .i64 WD, .slice (some ⟨x.g, 0, none⟩) x.wd x.cap, .int .u64 NN] := by rw [hW2]; exact World.alloc_heap_new _ _
  have nlt := bk.lt
  have CELL := hide (show ∀ W3, Below W2.heap.size W2 W3 → (W3.cell? ⟨W.heap.size, 0, none⟩ = some (.int .u64 A) ∧ W3.cell? ⟨W.heap.size, 1, none⟩ = some (.int .u64 B) ∧ W3.cell? ⟨W.heap.size, 2, none⟩ = some (.int .i64 WD) ∧ W3.cell? ⟨W.heap.size, 3, none⟩ = some (.slice (some ⟨x.g, 0, none⟩) x.wd x.cap) ∧ W3.cell? ⟨W.heap.size, 4, none⟩ = some (.int .u64 NN)) from fun W3 hb => by
    have k := bk.below hb
    exact ⟨k.cell 0 _ rfl, k.cell 1 _ rfl, k.cell 2 _ rfl, k.cell 3 _ rfl, k.cell 4 _ rfl⟩)
  have TR := hide (show ∀ W3 W4, Below W2.heap.size W2 W3 → Below W3.heap.size W3 W4 → Below W2.heap.size W2 W4 from fun W3 W4 a b => a.trans (b.mono a.size))
  have DONE2 := hide (show ∀ W', Below W2.heap.size W2 W' → R (.returned (.int .u64 V)) W' from fun W' hb => DONE.out W' (bb.trans (hb.mono bb.size)))
  have D0 := hide (fun n => drewN_below W2 n)
  have CI := hide (show ∀ (W3 : World) (p' q' : Nat) (P' Q' Z : Int), Below W2.heap.size W2 W3 → p' ≤ 35184372088832 → q' ≤ 35184372088832 → ((8 * p' : Nat) : Int) = P' → ((8 * q' : Nat) : Int) = Q' → ((cnt f p' (q' - p') : Nat) : Int) = Z → Calls Try.prog 30 #[.pointer (some ⟨r, 0, none⟩), .int .u64 P', .int .u64 Q', .int .i64 MI] W3 fun e W' => e = .returned (.int .u64 Z) ∧ Below W3.heap.size W3 W' from fun W3 p' q' P' Q' Z hb h1 h2 h3 h4 h5 => by
    rw [← h3, ← h4, ← h5, ← hMI]
    exact ih W3 ((h.below bb).below hb) p' q' h1 h2)
  have CA := hide (show ∀ (W3 : World) (k : Nat) (K Z : Int), Below W2.heap.size W2 W3 → k ≤ 137438953472 → (k : Int) = K → ((cto x.th (x.a / 8 + k) : Nat) : Int) = Z → Calls Try.prog 37 #[.agg #[.int .u64 A, .int .u64 B, .int .i64 WD, .slice (some ⟨x.g, 0, none⟩) x.wd x.cap, .int .u64 NN], .int .u64 K] W3 fun e W' => e = .returned (.int .u64 Z) ∧ Below W3.heap.size W3 W' from fun W3 k K Z hb h1 h2 h3 => by
    rw [← h2, ← h3, ← hxv]
    exact rahead_any ox (BoolsAt.below hX (bb.trans (hb.mono bb.size))) k h1)
  have HA := hide (show decide (A < PI) = false ∧ A = AV from ⟨decide_eq_false (by omega), by omega⟩)
  have HB := hide (show decide (QI < AB) = false ∧ AB = BV from ⟨decide_eq_false (by omega), by omega⟩)
  by_cases c9 : wb ≤ wa
  · have d9 : decide (BV ≤ AV) = true := decide_eq_true (by omega)
    rw [rcnt_out f (by omega)] at hV
    have C1 := hide (fun W3 hb => CI.out W3 p q PI QI V hb hp hq hPI hQI hV)
    have s1 : 0 ≤ AV := by omega
    have s2 : AV ≤ 281474976710656 := by omega
    have s3 : 0 ≤ BV := by omega
    have s4 : BV ≤ 281474976710656 := by omega
    clear h hn hp hq hPI hQI hMI eM hV ih c hL cA cB hx hX ox hA hB hWD hNN hwa hwb hAV hBV r1 r2 r3 r4 r5 bb bk c9 hxv CI CA lc DONE
    go_enter Try.func30, Try.ntmps30
    go_wp2_with fail
    obtain ⟨z0, z1, z2, z3, z4⟩ := CELL.out W2 (Below.refl _ _)
    rw [← hW2]
    clear hW2 c0 c1 c2 c3 c4 y0 CELL
    generalize W.heap.size = nb at *
    go_quiet (fail)
    obtain ⟨Wq, hWq⟩ : ∃ Wq, W2.drewN nq = Wq := ⟨_, rfl⟩
    have C2 := hide (C1.out Wq (by rw [← hWq]; exact D0.out nq))
    have FG := hide (show ∀ W3, Below Wq.heap.size Wq W3 → R (.returned (.int .u64 V)) W3 from fun W3 hb => DONE2.out W3 (TR.out Wq W3 (by rw [← hWq]; exact D0.out nq) hb))
    rw [hWq]
    clear hWq C1 DONE2 D0 TR z0 z1 z2 z3 z4 nlt
    obtain ⟨dA, rfl⟩ := HA.out
    obtain ⟨dB, rfl⟩ := HB.out
    clear HA HB
    first | (exact absurd d9 (by rw [d]; decide)) | (
      go_wp2_with fail
      refine C2.out.mono ?_
      rintro e W3 ⟨rfl, k3⟩
      have FF := hide (FG.out W3 k3)
      clear k3 C2 FG
      go_wp2_with fail
      first | exact FF.out | (go_ret; exact FF.out))
  · have d9 : decide (BV ≤ AV) = false := decide_eq_false (by omega)
    have ba : x.a / 8 ≤ wa := by omega
    have bc : wa < wb := by omega
    have bd : x.a / 8 ≤ wb := by omega
    have hV2 := hV
    rw [rcnt_in f hwa hwb bc] at hV2
    obtain ⟨Y1, hY1⟩ : ∃ X : Int, ((cnt f p (wa - p) : Nat) : Int) = X := ⟨_, rfl⟩
    obtain ⟨Y2, hY2⟩ : ∃ X : Int, ((cnt f wb (q - wb) : Nat) : Int) = X := ⟨_, rfl⟩
    obtain ⟨Z1, hZ1⟩ : ∃ X : Int, ((cto x.th wb : Nat) : Int) = X := ⟨_, rfl⟩
    obtain ⟨Z2, hZ2⟩ : ∃ X : Int, ((cto x.th wa : Nat) : Int) = X := ⟨_, rfl⟩
    obtain ⟨KB, hKB⟩ : ∃ X : Int, ((wb - x.a / 8 : Nat) : Int) = X := ⟨_, rfl⟩
    obtain ⟨KA, hKA⟩ : ∃ X : Int, ((wa - x.a / 8 : Nat) : Int) = X := ⟨_, rfl⟩
    obtain ⟨MN, hMN2⟩ : ∃ X : Int, Z1 - Z2 = X := ⟨_, rfl⟩
    obtain ⟨S1, hS1⟩ : ∃ X : Int, Y1 + MN = X := ⟨_, rfl⟩
    have le1 := cnt_le f p (wa - p)
    have le2 := cnt_le f wb (q - wb)
    have le3 := cto_le x.th wb
    have le4 : cto x.th wa ≤ cto x.th wb := by
      have := cto_add x.th wa (wb - wa)
      rw [show wa + (wb - wa) = wb by omega] at this
      omega
    have hV3 : S1 + Y2 = V := by rw [← hV2]; omega
    have C1 := hide (fun W3 hb => CI.out W3 p wa PI AV Y1 hb hp (by omega) hPI hAV hY1)
    have C3 := hide (fun W3 hb => CI.out W3 wb q BV QI Y2 hb (by omega) hq hBV hQI hY2)
    have CB1 := hide (fun W3 hb => CA.out W3 (wb - x.a / 8) KB Z1 hb (by omega) hKB (by rw [show x.a / 8 + (wb - x.a / 8) = wb by omega]; exact hZ1))
    have CB2 := hide (fun W3 hb => CA.out W3 (wa - x.a / 8) KA Z2 hb (by omega) hKA (by rw [show x.a / 8 + (wa - x.a / 8) = wa by omega]; exact hZ2))
    have s1 : 0 ≤ AV := by omega
    have s2 : AV ≤ 281474976710656 := by omega
    have s3 : 0 ≤ BV := by omega
    have s4 : BV ≤ 281474976710656 := by omega
    have t1 : IntKind.u64.wrap (BV - A) = BV - A := by rw [IntKind.wrap_u64]; omega
    have t2 : IntKind.u64.wrap (AV - A) = AV - A := by rw [IntKind.wrap_u64]; omega
    have t3 : (BV - A).tdiv 8 = KB := by rw [Int.tdiv_eq_ediv_of_nonneg (by omega)]; omega
    have t4 : (AV - A).tdiv 8 = KA := by rw [Int.tdiv_eq_ediv_of_nonneg (by omega)]; omega
    have t5 : (BV - A) / 8 = KB := by omega
    have t6 : (AV - A) / 8 = KA := by omega
    have t7 : IntKind.u64.wrap (Z1 - Z2) = MN := by rw [IntKind.wrap_u64]; omega
    have t8 : IntKind.u64.wrap (Y1 + MN) = S1 := by rw [IntKind.wrap_u64]; omega
    have t9 : IntKind.u64.wrap (S1 + Y2) = V := by rw [IntKind.wrap_u64]; omega
    have ta : IntKind.u64.wrap KB = KB := by rw [IntKind.wrap_u64]; omega
    have tb : IntKind.u64.wrap KA = KA := by rw [IntKind.wrap_u64]; omega
    clear h hn hp hq hPI hQI hMI eM hV ih c hL cA cB hx hX ox hA hB hWD hNN hwa hwb hAV hBV r1 r2 r3 r4 r5 bb bk c9 hxv CI CA lc DONE ba bc bd hV2 hY1 hY2 hZ1 hZ2 hKB hKA hMN2 hS1 le1 le2 le3 le4 hV3
    go_enter Try.func30, Try.ntmps30
    go_wp2_with fail
    obtain ⟨z0, z1, z2, z3, z4⟩ := CELL.out W2 (Below.refl _ _)
    rw [← hW2]
    clear hW2 c0 c1 c2 c3 c4 y0
    generalize W.heap.size = nb at *
    go_quiet (fail)
    obtain ⟨Wq, hWq⟩ : ∃ Wq, W2.drewN nq = Wq := ⟨_, rfl⟩
    have BQ := hide (show Below W2.heap.size W2 Wq by rw [← hWq]; exact D0.out nq)
    rw [hWq]
    clear hWq D0 z0 z1 z2 z3 z4 nlt
    obtain ⟨z0, z1, z2, z3, z4⟩ := CELL.out Wq BQ.out
    have CB3 := hide (CB1.out Wq.drew (TR.out _ _ BQ.out (drew_below _)))
    have BQ2 := hide (TR.out _ _ BQ.out (drew_below _))
    obtain ⟨dA, rfl⟩ := HA.out
    obtain rfl : KA = 0 := by rw [← t6]; simp
    obtain ⟨dB, rfl⟩ := HB.out
    clear HA HB
    (
      go_wp2_with fail
      go_region_held3 (fun w' => w'.cell? ⟨nb, 0, none⟩ = some (.int .u64 A) ∧ w'.cell? ⟨nb, 1, none⟩ = some (.int .u64 B) ∧ w'.cell? ⟨nb, 2, none⟩ = some (.int .i64 WD) ∧ w'.cell? ⟨nb, 3, none⟩ = some (.slice (some ⟨x.g, 0, none⟩) x.wd x.cap) ∧ w'.cell? ⟨nb, 4, none⟩ = some (.int .u64 NN)) (first | (go_keep; done)) (first
        | (go_at_call 37; refine CB3.out.mono ?_; rintro e W3 ⟨rfl, k3⟩; have K3 := hide (TR.out _ _ BQ2.out k3); have CB4 := hide (CB2.out W3 K3.out); obtain ⟨u0, u1, u2, u3, u4⟩ := CELL.out W3 K3.out; clear CB3 CB1 CB2 k3)
        | (go_at_call 37; refine CB4.out.mono ?_; rintro e W4 ⟨rfl, k4⟩; have K4 := hide (TR.out _ _ K3.out k4); obtain ⟨v0, v1, v2, v3, v4⟩ := CELL.out W4 K4.out; clear CB4 k4))
      have D1 := hide (C1.out _ K4.out)
      clear CELL C1
      go_wp2_with fail
      refine D1.out.mono ?_
      rintro e W5 ⟨rfl, k5⟩
      have K5 := hide (TR.out _ _ K4.out k5)
      have D3 := hide (C3.out _ K5.out)
      clear k5 D1 C3
      go_wp2_with fail
      refine D3.out.mono ?_
      rintro e W6 ⟨rfl, k6⟩
      have FF := hide (DONE2.out W6 (TR.out _ _ K5.out k6))
      clear k6 D3
      go_wp2_with fail
      first | exact FF.out | (go_ret; exact FF.out))
theorem rcount_any {r : Nat} {v : Value} {L : List Wg} (hL : L.length ≤ 1000000) : ∀ (n : Nat), n ≤ L.length → ∀ (W : World), RgAt W r v L → ∀ (p q : Nat), p ≤ 35184372088832 → q ≤ 35184372088832 →
    Calls Try.prog 30 #[.pointer (some ⟨r, 0, none⟩), .int .u64 (8 * p : Nat), .int .u64 (8 * q : Nat), .int .i64 (n : Nat)] W fun e W' => e = .returned (.int .u64 (cnt (rfn (L.take n)) p (q - p) : Nat)) ∧ Below W.heap.size W W'
  | 0, _, W, _, p, q, hp, hq => rcount_zero (v := v) W p q hp hq
  | m + 1, hn, W, h, p, q, hp, hq => by
    obtain ⟨x, hx⟩ : ∃ x, L[m]? = some x := ⟨L[m]'(by omega), List.getElem?_eq_getElem _⟩
    have ih := rcount_any (v := v) (r := r) hL m (by omega)
    by_cases cA : x.a < 8 * p <;> by_cases cB : 8 * q < x.a + x.b
    · exact rcount_s00 hL m hn ih W h p q hp hq hx cA cB
    · exact rcount_s01 hL m hn ih W h p q hp hq hx cA cB
    · exact rcount_s10 hL m hn ih W h p q hp hq hx cA cB
    · exact rcount_s11 hL m hn ih W h p q hp hq hx cA cB
end Go.Proofs.Ytnhllnepnpmegaa

/- The reference: a writing more; Clear, Pointers: contracts. -/
namespace Go.Proofs.Ytnhllnepnpmegaa
open Go.ChangeShapes Go.WideShapes Go.ChangeAt Go.RowKit Go.Shelf Go.Proofs.Rx Go.Maps Go.Proofs.Bt
set_option linter.unusedVariables false
set_option linter.unusedSimpArgs false

attribute [local go_sem] Oper.semAt_some

theorem infoG : (Try.prog.info? 67).map (fun i => (i.zero, i.size, i.bytes)) = some (some (.agg #[.int .u64 0, .int .u64 0, .int .i64 0, .slice none 0 0, .int .u64 0]), 5, 56) := by kernel_rfl
def Wg.arr (x : Wg) : Array Value := #[.int .u64 (x.a : Nat), .int .u64 (x.b : Nat), .int .i64 (x.wd : Nat), .slice (some ⟨x.g, 0, none⟩) x.wd x.cap, .int .u64 (x.n : Nat)]
theorem writings_more {X2 : World} {v : Value} {L : List Wg} (h : X2.ownsRow 0 67 5 v L.length (flatW L)) (hk : L.length < 1000000) (x : Wg) (blk : Nat) (n2 : X2.heap[blk]? = some (.cells x.arr 67 (0, 0))) (ty : TypeId) :
    ∃ g cap Y, (Builtin.append_ #[27, 27] ty #[v, .slice (some ⟨blk, 0, none⟩) 1 1]).run Try.prog X2 = .ok (.slice (some ⟨g, 0, none⟩) (L.length + 1) cap) Y ∧ Y.ownsRow 0 67 5 (.slice (some ⟨g, 0, none⟩) (L.length + 1) cap) (L.length + 1) (flatW (L ++ [x])) ∧ Kept (fun z => v.ownBlock = some z) X2 Y ∧ (v.ownBlock = some g ∨ X2.heap.size ≤ g) ∧ g < Y.heap.size := by
  obtain ⟨i0, hi0, hz0, hz1, hz2⟩ := info_parts infoG
  obtain ⟨g, cap, Y, r1, o1, g1, hat, hlt⟩ := run_append_lies (P := Try.prog) (w := X2) 27 ty 0 67 i0 _ 5 56 Try.underlying27 hi0 hz0 hz1 hz2 rfl (by decide) v L.length (flatW L) h ⟨blk, 0, none⟩ 1 1 x.vs rfl (World.news_of_block n2) (by
    intro u hu
    simp [Wg.vs] at hu
    rcases hu with rfl | rfl | rfl | rfl | rfl <;> rfl) (by decide) (by unfold maxLen; omega) (by omega) (Nat.zero_le _) _ rfl
  refine ⟨g, cap, Y, r1, ?_, Kept.of_grown g1 (fun j e => e), ?_, hlt⟩
  · rw [flatW_app, show flatW [x] = x.vs from by simp [flatW]]; exact o1
  · rcases hat with e | e
    · exact .inl e
    · exact .inr (by omega)
/-- The reference with one writing more, in the world behind the store. -/
theorem RgAt.more {W X2 Y : World} {r g cap k : Nat} {v : Value} {L : List Wg} {x : Wg} {F : Nat → Prop} {f : Nat → Bool} (h : RgAt W r v L) (hf : rfn L = f) (hk : L.length = k) (hF : ∀ z, F z ↔ rFoot r v L z) (b : Below W.heap.size W X2) (hx : BoolsAt X2 (some ⟨x.g, 0, none⟩) x.wd x.cap x.X) (ox : x.Ok) (hg : W.heap.size ≤ x.g)
    (o : Y.ownsRow 0 67 5 (.slice (some ⟨g, 0, none⟩) (L.length + 1) cap) (L.length + 1) (flatW (L ++ [x]))) (kp : Kept (fun z => v.ownBlock = some z) X2 Y) (hat : v.ownBlock = some g ∨ X2.heap.size ≤ g) (hr : v.ownBlock ≠ some r) (hgr : g ≠ r) (hsep : ∀ y ∈ L, v.ownBlock ≠ some y.g ∧ y.g ≠ r) (hown : ∀ z, v.ownBlock = some z → z < W.heap.size) :
    RTurn r (x.f f) (k + 1) W (Y.setCell ⟨r, 0, none⟩ (.slice (some ⟨g, 0, none⟩) (L.length + 1) cap)) F := by
  have rl := h.bk.lt
  have xg : x.g < X2.heap.size := hx.glt ox.w1
  have nx : v.ownBlock ≠ some x.g := fun e => by have := hown _ e; omega
  have xr : x.g ≠ r := by omega
  have ks : Kept (fun z => z = r) Y (Y.setCell ⟨r, 0, none⟩ (.slice (some ⟨g, 0, none⟩) (L.length + 1) cap)) := kept_set Y r 0 _ rfl
  have kt : Kept F W (Y.setCell ⟨r, 0, none⟩ (.slice (some ⟨g, 0, none⟩) (L.length + 1) cap)) := by
    have k1 : Kept F W Y := (Kept.of_below b).trans kp (fun z _ hz => (hF z).2 (.inr (.inl hz)))
    exact k1.trans ks (fun z _ hz => (hF z).2 (.inl hz))
  refine ⟨rFoot r (.slice (some ⟨g, 0, none⟩) (L.length + 1) cap) (L ++ [x]), ⟨.slice (some ⟨g, 0, none⟩) (L.length + 1) cap, L ++ [x], ⟨?_, ?_, fun y hy => ?_⟩, ?_, ?_, fun z => Iff.rfl⟩, kt, fun z hz => ?_⟩
  · exact ((h.bk.below b).kept kp hr).set 0 _
  · rw [List.length_append]
    exact owns_kept o ks (fun z hz e => hgr (by injection hz with hz; rw [← e]; exact hz))
  · rcases List.mem_append.1 hy with u | u
    · have hy2 := h.ms y u
      exact ⟨((hy2.1.keep (F := fun _ => False) (Kept.of_below b) (fun q => q)).keep kp (hsep y u).1).keep ks (hsep y u).2, hy2.2⟩
    · obtain rfl : y = x := by simpa using u
      exact ⟨(hx.keep kp nx).keep ks xr, ox⟩
  · rw [rfn_app, hf]
  · rw [List.length_append, hk]; rfl
  · rcases hz with u | u | ⟨y, hy, u⟩
    · exact .inl ((hF z).2 (.inl u))
    · have u' : g = z := by injection u
      rcases hat with e | e
      · exact .inl ((hF z).2 (.inr (.inl (by rw [e, u']))))
      · exact .inr (by have := b.size; omega)
    · rcases List.mem_append.1 hy with q | q
      · exact .inl ((hF z).2 (.inr (.inr ⟨y, q, u⟩)))
      · obtain rfl : y = x := by simpa using q
        exact .inr (by omega)
theorem RgAt.sep {W : World} {r : Nat} {v : Value} {L : List Wg} (h : RgAt W r v L) : v.ownBlock ≠ some r ∧ ∀ y ∈ L, v.ownBlock ≠ some y.g ∧ y.g ≠ r := by
  have r0 : W.cell? ⟨r, 0, none⟩ = some v := h.bk.cell 0 _ rfl
  have yc : ∀ y ∈ L, W.cell? ⟨y.g, 0, none⟩ = some (.bool (y.X 0)) := fun y hy => by
    have c := (h.ms y hy).1.cells _ rfl 0 (h.ms y hy).2.w1
    rwa [addr_add0] at c
  refine ⟨fun e => ?_, fun y hy => ⟨fun e => ?_, fun e => ?_⟩⟩
  · rcases h.row.2 with ⟨a, b⟩ | ⟨g, cap, cur, a, _, c, _⟩
    · rw [a] at e; cases e
    · rw [a] at e
      have e' : g = r := by injection e
      rw [e'] at c
      have := h.bk.symm.trans c
      injection this with this
      injection this with _ t
      exact absurd t (by decide)
  · obtain ⟨j, hj⟩ := List.mem_iff_getElem?.1 hy
    obtain ⟨g, cap, ev, c0, -⟩ := h.at (j := 0) (x := L[0]'(by have := (List.getElem?_eq_some_iff.1 hj).1; omega)) (List.getElem?_eq_getElem _)
    rw [ev] at e
    have e' : g = y.g := by injection e
    rw [Nat.zero_mul, e', yc y hy] at c0
    cases c0
  · rw [← e, yc y hy] at r0
    have hv : v = .bool (y.X 0) := by injection r0 with q; exact q.symm
    obtain ⟨o, cap, q⟩ : ∃ o cap, v = .slice o L.length cap := by
      rcases h.row.2 with ⟨a, b⟩ | ⟨g, cap, cur, a, _⟩
      · exact ⟨none, 0, by rw [a, b]⟩
      · exact ⟨some ⟨g, 0, none⟩, cap, a⟩
    rw [hv] at q
    cases q
end Go.Proofs.Ytnhllnepnpmegaa

/- The reference's Pointers: contract. -/
namespace Go.Proofs.Ytnhllnepnpmegaa
open Go.ChangeShapes Go.WideShapes Go.ChangeAt Go.RowKit Go.Shelf Go.Proofs.Rx Go.Maps Go.Proofs.Bt
set_option linter.unusedVariables false
set_option linter.unusedSimpArgs false

attribute [local go_sem] Oper.semAt_some

set_option maxRecDepth 100000 in
set_option maxHeartbeats 2000000 in
theorem rpoints_any {W : World} {r : Nat} {v : Value} {L : List Wg} (h : RgAt W r v L) (hL : L.length ≤ 1000000) (a b : Nat) (ha : a < 18446744073709551616) (hb : b < 18446744073709551616) :
    Calls Try.prog 19 #[.pointer (some ⟨r, 0, none⟩), .int .u64 (a : Nat), .int .u64 (b : Nat)] W fun e W' => e = .returned (.tuple #[.int .u64 (pointsV (rfn L) a b : Nat), .int .i64 (clearE a b)]) ∧ Below W.heap.size W W' := by
  have CR := hide (refRight_any a b ha hb W)
  obtain ⟨R, hR⟩ : ∃ R : Ending → World → Prop, R = fun e W' => e = .returned (.tuple #[.int .u64 (pointsV (rfn L) a b : Nat), .int .i64 (clearE a b)]) ∧ Below W.heap.size W W' := ⟨_, rfl⟩
  rw [← hR]
  obtain ⟨A, hA⟩ : ∃ X : Int, (a : Int) = X := ⟨_, rfl⟩
  obtain ⟨B, hB⟩ : ∃ X : Int, (b : Int) = X := ⟨_, rfl⟩
  rw [hA, hB] at CR ⊢
  have a0 : 0 ≤ A := by omega
  have a1 : A < 18446744073709551616 := by omega
  have b0 : 0 ≤ B := by omega
  have b1 : B < 18446744073709551616 := by omega
  by_cases cr : Right a b
  · rw [decide_eq_true cr] at CR
    obtain ⟨V, hV⟩ : ∃ V : Int, ((pointsV (rfn L) a b : Nat) : Int) = V := ⟨_, rfl⟩
    have FF := hide (show ∀ W', Below W.heap.size W W' → R (.returned (.tuple #[.int .u64 V, .int .i64 0])) W' from fun W' hbl => by
      rw [hR, hV, show clearE a b = 0 by unfold clearE; rw [if_pos cr]]
      exact ⟨rfl, hbl⟩)
    have cr' := cr
    obtain ⟨r1, r2, r3, r4, r5⟩ := cr'
    have x0 : W.cell? ⟨r, 0, none⟩ = some v := h.bk.cell 0 _ rfl
    obtain ⟨len, hlen⟩ : ∃ n, L.length = n := ⟨_, rfl⟩
    obtain ⟨ov, cap, hv⟩ : ∃ o c, v = .slice o len c := by
      rcases h.row.2 with ⟨a, b⟩ | ⟨g, cap, cur, a, _⟩
      · exact ⟨none, 0, by rw [a, ← hlen, b]⟩
      · exact ⟨some ⟨g, 0, none⟩, cap, by rw [a, hlen]⟩
    rw [hv] at x0
    obtain ⟨LN, hLN⟩ : ∃ X : Int, (len : Int) = X := ⟨_, rfl⟩
    obtain ⟨AB, hAB⟩ : ∃ X : Int, A + B = X := ⟨_, rfl⟩
    have n2 : 0 ≤ AB := by omega
    have n3 : AB ≤ 281474976710656 := by omega
    have CC := hide (show Calls Try.prog 30 #[.pointer (some ⟨r, 0, none⟩), .int .u64 A, .int .u64 AB, .int .i64 LN] W fun e W' => e = .returned (.int .u64 V) ∧ Below W.heap.size W W' from by
      have C := rcount_any hL len (by omega) W h (a / 8) ((a + b) / 8) (by omega) (by omega)
      rw [show ((8 * (a / 8) : Nat) : Int) = A by omega, show ((8 * ((a + b) / 8) : Nat) : Int) = AB by omega, hLN, List.take_of_length_le (by omega), show (a + b) / 8 - a / 8 = b / 8 by omega] at C
      rw [← hV]
      unfold pointsV
      rw [if_pos cr]
      exact C)
    have l0 : 0 ≤ LN := by omega
    have l1 : LN ≤ 1000000 := by omega
    clear hR h hL ha hb hA hB cr r1 r2 r3 r4 r5 hV hv hlen
    go_enter Try.func19, Try.ntmps19
    go_wp2_with fail
    refine CR.out.mono ?_
    rintro e w' ⟨rfl, hw'⟩; rw [hw']; clear hw' w' CR
    go_wp2_with fail
    refine CC.out.mono ?_
    rintro e W3 ⟨rfl, b3⟩
    have FG := hide (FF.out W3 b3)
    clear b3 FF CC
    go_wp2_with fail
    first | exact FG.out | (go_ret; exact FG.out)
  · rw [decide_eq_false cr] at CR
    have FF := hide (show R (.returned (.tuple #[.int .u64 0, .int .i64 1])) W from by
      rw [hR, show clearE a b = 1 by unfold clearE; rw [if_neg cr], show pointsV (rfn L) a b = 0 by unfold pointsV; rw [if_neg cr]]
      exact ⟨rfl, Below.refl _ _⟩)
    clear hR h hL ha hb hA hB cr
    go_enter Try.func19, Try.ntmps19
    go_wp2_with fail
    refine CR.out.mono ?_
    rintro e w' ⟨rfl, hw'⟩; rw [hw']; clear hw' w' CR
    go_wp2_with fail
    first | exact FF.out | (go_ret; exact FF.out)
end Go.Proofs.Ytnhllnepnpmegaa
