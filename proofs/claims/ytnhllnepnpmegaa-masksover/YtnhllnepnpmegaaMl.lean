/- Package masks: Write, Clear, Pointers: contracts. -/
import Derived.Test.YtnhllnepnpmegaaMk
namespace Go.Proofs.Ytnhllnepnpmegaa
open Go.ChangeShapes Go.WideShapes Go.ChangeAt Go.RowKit Go.Shelf Go.Proofs.Rx Go.Maps Go.Proofs.Bt
set_option linter.unusedVariables false
set_option linter.unusedSimpArgs false

attribute [local go_sem] Oper.semAt_some

def writeE (a b : Nat) (wd : Int) (len n : Nat) : Int := if Right a b ∧ RightT wd len then (if b / 8 / len < n then 2 else 0) else 1
def layF (a b : Nat) (g f : Nat → Bool) (w : Nat) : Bool := if a / 8 ≤ w ∧ w < (a + b) / 8 then g w else f w
def writeF (f : Nat → Bool) (a b : Nat) (wd : Int) (len n : Nat) (X : Nat → Bool) : Nat → Bool := if writeE a b wd len n = 0 then layF a b (thF (a / 8) len n (cutF X len)) f else f
section
variable {W : World} {m : Nat} {f : Nat → Bool} {F : Nat → Prop}
theorem load_type {W : World} {b : Nat} {x y : Value} (h : Bk W b 34 #[x, y]) : (loadVar 34 ⟨b, 0, none⟩).run Try.prog W = .ok (.agg #[x, y]) W := by
  have e0 := h.cell 0 _ rfl
  have e1 := h.cell 1 _ rfl
  simp [go_sem, Nat.add_assoc, e0, e1, Result.andThen]
set_option maxRecDepth 100000 in
set_option maxHeartbeats 1000000 in
theorem write_any (h : (tMk m f).P W F) (a b n : Nat) (ha : a < 18446744073709551616) (hb : b < 18446744073709551616) (hn : n < 18446744073709551616) (wd : Int) (h0 : -9223372036854775808 ≤ wd) (h9 : wd ≤ 9223372036854775807) {o : Option Addr} {len cap : Nat} {X : Nat → Bool} (hl : len ≤ 9223372036854775807) (hX : BoolsAt W o len cap X) :
    Calls Try.prog 11 #[.pointer (some ⟨m, 0, none⟩), .int .u64 (a : Nat), .int .u64 (b : Nat), .agg #[.int .i64 wd, .slice o len cap], .int .u64 (n : Nat)] W fun e W' => e = .returned (.int .i64 (writeE a b wd len n)) ∧ Turn m (writeF f a b wd len n X) W W' F := by
  obtain ⟨R, hR⟩ : ∃ R : Ending → World → Prop, R = fun e W' => e = .returned (.int .i64 (writeE a b wd len n)) ∧ Turn m (writeF f a b wd len n X) W W' F := ⟨_, rfl⟩
  rw [← hR]
  obtain ⟨WA, hWA⟩ : ∃ WA, W.alloc (.cells #[.int .i64 wd, .slice o len cap] 34) = WA := ⟨_, rfl⟩
  have kb : Bk WA W.heap.size 34 #[.int .i64 wd, .slice o len cap] := by rw [← hWA]; exact World.alloc_heap_new W _
  have bA : Below W.heap.size W WA := by rw [← hWA]; exact below_alloc W _
  have BAD := hide (show ∀ W', Below W.heap.size W W' → writeE a b wd len n ≠ 0 → R (.returned (.int .i64 (writeE a b wd len n))) W' from fun W' hW' hne => by rw [hR]; unfold writeF; rw [if_neg hne]; exact ⟨rfl, Turn.same h hW'⟩)
  have CB := hide (rightBlock_any a b ha hb WA)
  have CT := hide (rightType_any wd o len cap hl WA)
  have HWA := hide hWA
  have HB := hide bA
  have KB := hide (show ∀ W', Below WA.heap.size WA W' → Bk W' W.heap.size 34 #[.int .i64 wd, .slice o len cap] from fun W' hb => kb.below hb)
  have a0 := kb.cell 0 _ rfl
  have a1 := kb.cell 1 _ rfl
  obtain ⟨N, hN⟩ : ∃ N : Int, (n : Int) = N := ⟨_, rfl⟩
  have n0 : 0 ≤ N := by omega
  have n1 : N < 18446744073709551616 := by omega
  by_cases cr : Right a b
  · rw [decide_eq_true cr] at CB
    by_cases ct : RightT wd len
    · rw [decide_eq_true ct] at CT
      obtain ⟨t1, t2, t3⟩ := id ct
      obtain ⟨r1, r2, r3, r4, r5⟩ := id cr
      have CO := hide (wordsOf_any a b cr)
      have ew : writeE a b wd len n = if b / 8 / len < n then 2 else 0 := by unfold writeE; rw [if_pos ⟨cr, ct⟩]
      obtain ⟨P, hP⟩ : ∃ X : Int, ((a / 8 : Nat) : Int) = X := ⟨_, rfl⟩
      obtain ⟨Q, hQ⟩ : ∃ X : Int, (((a + b) / 8 : Nat) : Int) = X := ⟨_, rfl⟩
      rw [hP, hQ] at CO
      have p0 : 0 ≤ P := by omega
      have p1 : P ≤ Q := by omega
      have p2 : Q ≤ 35184372088832 := by omega
      have dq : (Q - P) / wd = ((b / 8 / len : Nat) : Int) := by
        rw [← t3, Int.natCast_ediv]; congr 1; omega
      have d0 : (wd == 0) = false := by rw [beq_eq_false_iff_ne]; omega
      have dz : (wd = 0) = False := by simp; omega
      have q0 : 0 ≤ (Q - P) / wd := by rw [dq]; exact Int.natCast_nonneg _
      have q1 : (Q - P) / wd ≤ 35184372088832 := by
        have := Int.ediv_le_self (a := Q - P) wd (by omega)
        omega
      have td : (Q - P).tdiv wd = (Q - P) / wd := Int.tdiv_eq_ediv_of_nonneg (by omega)
      have wq : IntKind.u64.wrap ((Q - P) / wd) = (Q - P) / wd := by rw [IntKind.wrap_u64]; omega
      have ww : IntKind.u64.wrap wd = wd := by rw [IntKind.wrap_u64]; omega
      by_cases cn : b / 8 / len < n
      · have d2 : decide ((Q - P) / wd < N) = true := by rw [decide_eq_true_iff, dq]; omega
        rw [if_pos cn] at ew
        have FF := hide (fun W' hb => BAD.out W' hb (by rw [ew]; decide))
        rw [ew] at FF
        rw [hN]
        clear hN hP hQ hR h hX BAD dq cn ew hWA kb bA r1 r2 r3 r4 r5 cr ct t3 ha hb hn
        go_enter Try.func11, Try.ntmps11
        go_upto_region 1 with fail
        rw [HWA.out]
        go_wp2_with fail
        refine CB.out.mono ?_
        rintro e w' ⟨rfl, hw'⟩; rw [hw']; clear hw' w' CB
        go_wp2_with fail
        refine CT.out.mono ?_
        rintro e W1 ⟨rfl, hb1⟩
        have F1 := hide (FF.out W1 (HB.out.trans (hb1.mono HB.out.size)))
        have kb1 := KB.out W1 hb1
        have a0' := kb1.cell 0 _ rfl
        have a1' := kb1.cell 1 _ rfl
        clear a0 a1 kb1 hb1 CT FF KB
        go_wp2_with fail
        refine (CO.out _).mono ?_
        rintro e w' ⟨rfl, hw'⟩; rw [hw']; clear hw' w' CO
        go_wp2_with fail
        first | exact F1.out | (go_ret; exact F1.out)
      · have d2 : decide ((Q - P) / wd < N) = false := by rw [decide_eq_false_iff_not, dq]; omega
        rw [if_neg cn] at ew
        have hln : 1 ≤ len ∧ len ≤ 65536 := by omega
        have hlim : a / 8 + n * len ≤ (a + b) / 8 := by
          have : n * len ≤ b / 8 := by
            have := (Nat.le_div_iff_mul_le (show 0 < len by omega)).1 (Nat.le_of_not_lt cn)
            exact this
          omega
        have CFo := hide (show ∀ W1, Below W.heap.size W W1 → Calls Try.prog 24 #[.int .u64 ((a / 8 : Nat) : Int), .agg #[.int .i64 wd, .slice o len cap], .int .u64 (n : Nat)] W1 fun e W2 => ∃ T u, e = .returned (.iface T u) ∧ Calls Try.prog 23 #[.pointer (some ⟨m, 0, none⟩), .int .u64 ((a / 8 : Nat) : Int), .int .u64 (((a + b) / 8 : Nat) : Int), .iface T u] W2 fun e W3 => e = .returned (.tuple #[]) ∧ R (.returned (.int .i64 0)) W3 from fun W1 hb1 => by
          refine (formOf_any (hX.below hb1) hln.1 hln.2 (a / 8) n (by omega) wd).mono ?_
          rintro e W2 ⟨T, u, g, fb, rfl, hf, hg, hfb, hb2⟩
          refine ⟨T, u, rfl, ?_⟩
          obtain ⟨t, hm, hft, hF⟩ := h
          have hb02 : Below W.heap.size W W2 := hb1.trans (hb2.mono hb1.size)
          refine (lay_any (hm.below hb02) hf (a / 8) ((a + b) / 8) (by omega) (by omega)).mono ?_
          rintro e W3 ⟨rfl, ls⟩
          refine ⟨rfl, ?_⟩
          rw [hR]
          refine ⟨by rw [ew], ?_⟩
          have := LayS.turn hm hft hF hb02 (fun z hz => Nat.le_trans hb1.size (hfb z hz)) ls
          unfold writeF
          rw [if_pos ew]
          have eg : g = thF (a / 8) len n (cutF X len) := funext hg
          rw [eg] at this
          exact this)
        simp only [hP, hQ, hN] at CFo
        rw [hN]
        clear hN hP hQ hR h hX BAD dq cn ew hWA kb bA r1 r2 r3 r4 r5 cr ct t3 ha hb hn hlim hln
        go_enter Try.func11, Try.ntmps11
        go_upto_region 1 with fail
        rw [HWA.out]
        go_wp2_with fail
        refine CB.out.mono ?_
        rintro e w' ⟨rfl, hw'⟩; rw [hw']; clear hw' w' CB
        go_wp2_with fail
        refine CT.out.mono ?_
        rintro e W1 ⟨rfl, hb1⟩
        have CF1 := hide (CFo.out W1 (HB.out.trans (hb1.mono HB.out.size)))
        have kb1 := KB.out W1 hb1
        have a0' := kb1.cell 0 _ rfl
        have a1' := kb1.cell 1 _ rfl
        clear a0 a1 kb1 hb1 CT CFo KB
        go_wp2_with fail
        refine (CO.out _).mono ?_
        rintro e w' ⟨rfl, hw'⟩; rw [hw']; clear hw' w' CO
        go_wp2_with fail
        refine CF1.out.mono ?_
        rintro e W2 ⟨T, u, rfl, CL⟩
        have HCL := hide CL
        clear CL CF1 a0' a1'
        go_wp2_with fail
        refine HCL.out.mono ?_
        rintro e W3 ⟨rfl, r3⟩
        have HR := hide r3
        clear r3 HCL
        go_wp2_with fail
        first | exact HR.out | (go_ret; exact HR.out)
    · rw [decide_eq_false ct] at CT
      have ew : writeE a b wd len n = 1 := by unfold writeE; rw [if_neg (fun h => ct h.2)]
      have FF := hide (fun W' hb => BAD.out W' hb (by rw [ew]; decide))
      rw [ew] at FF
      rw [hN]
      clear hN hR h hX BAD ew hWA kb bA cr ct ha hb hn
      go_enter Try.func11, Try.ntmps11
      go_upto_region 1 with fail
      rw [HWA.out]
      go_wp2_with fail
      refine CB.out.mono ?_
      rintro e w' ⟨rfl, hw'⟩; rw [hw']; clear hw' w' CB
      go_wp2_with fail
      refine CT.out.mono ?_
      rintro e W1 ⟨rfl, hb1⟩
      have F1 := hide (FF.out W1 (HB.out.trans (hb1.mono HB.out.size)))
      clear hb1 CT FF
      go_wp2_with fail
      first | exact F1.out | (go_ret; exact F1.out)
  · rw [decide_eq_false cr] at CB
    have ew : writeE a b wd len n = 1 := by unfold writeE; rw [if_neg (fun h => cr h.1)]
    have FF := hide (fun W' hb => BAD.out W' hb (by rw [ew]; decide))
    rw [ew] at FF
    rw [hN]
    clear hN hR h hX BAD ew hWA kb bA cr ha hb hn
    go_enter Try.func11, Try.ntmps11
    go_upto_region 1 with fail
    rw [HWA.out]
    go_wp2_with fail
    refine CB.out.mono ?_
    rintro e w' ⟨rfl, hw'⟩; rw [hw']; clear hw' w' CB
    have F1 := hide (FF.out WA HB.out)
    clear FF
    go_wp2_with fail
    first | exact F1.out | (go_ret; exact F1.out)
def clearE (a b : Nat) : Int := if Right a b then 0 else 1
def clearF (f : Nat → Bool) (a b : Nat) : Nat → Bool := if Right a b then layF a b (fun _ => false) f else f
set_option maxRecDepth 100000 in
theorem clear_any (h : (tMk m f).P W F) (a b : Nat) (ha : a < 18446744073709551616) (hb : b < 18446744073709551616) :
    Calls Try.prog 14 #[.pointer (some ⟨m, 0, none⟩), .int .u64 (a : Nat), .int .u64 (b : Nat)] W fun e W' => e = .returned (.int .i64 (clearE a b)) ∧ Turn m (clearF f a b) W W' F := by
  obtain ⟨R, hR⟩ : ∃ R : Ending → World → Prop, R = fun e W' => e = .returned (.int .i64 (clearE a b)) ∧ Turn m (clearF f a b) W W' F := ⟨_, rfl⟩
  rw [← hR]
  have CB := hide (rightBlock_any a b ha hb W)
  by_cases cr : Right a b
  · rw [decide_eq_true cr] at CB
    have CO := hide (wordsOf_any a b cr W)
    have CL := hide (show Calls Try.prog 23 #[.pointer (some ⟨m, 0, none⟩), .int .u64 ((a / 8 : Nat) : Int), .int .u64 (((a + b) / 8 : Nat) : Int), .iface 65 (.agg #[])] W fun e W3 => e = .returned (.tuple #[]) ∧ R (.returned (.int .i64 0)) W3 from by
      obtain ⟨t, hm, hft, hF⟩ := h
      obtain ⟨r1, r2, r3, r4, r5⟩ := id cr
      refine (lay_any hm .none (a / 8) ((a + b) / 8) (by omega) (by omega)).mono ?_
      rintro e W3 ⟨rfl, ls⟩
      refine ⟨rfl, ?_⟩
      rw [hR]
      unfold clearE clearF
      rw [if_pos cr, if_pos cr]
      exact ⟨rfl, LayS.turn hm hft hF (Below.refl _ _) (fun z hz => by cases hz) ls⟩)
    obtain ⟨P, hP⟩ : ∃ X : Int, ((a / 8 : Nat) : Int) = X := ⟨_, rfl⟩
    obtain ⟨Q, hQ⟩ : ∃ X : Int, (((a + b) / 8 : Nat) : Int) = X := ⟨_, rfl⟩
    rw [hP, hQ] at CO CL
    clear hP hQ hR h cr ha hb
    go_enter Try.func14, Try.ntmps14
    go_wp2_with fail
    refine CB.out.mono ?_
    rintro e w' ⟨rfl, hw'⟩; rw [hw']; clear hw' w' CB
    go_wp2_with fail
    refine CO.out.mono ?_
    rintro e w' ⟨rfl, hw'⟩; rw [hw']; clear hw' w' CO
    go_wp2_with fail
    refine CL.out.mono ?_
    rintro e W3 ⟨rfl, r3⟩
    have HR := hide r3
    clear r3 CL
    go_wp2_with fail
    first | exact HR.out | (go_ret; exact HR.out)
  · rw [decide_eq_false cr] at CB
    have FF := hide (show R (.returned (.int .i64 1)) W from by rw [hR]; unfold clearE clearF; rw [if_neg cr, if_neg cr]; exact ⟨rfl, Turn.same h (Below.refl _ _)⟩)
    clear hR h cr ha hb
    go_enter Try.func14, Try.ntmps14
    go_wp2_with fail
    refine CB.out.mono ?_
    rintro e w' ⟨rfl, hw'⟩; rw [hw']; clear hw' w' CB
    go_wp2_with fail
    first | exact FF.out | (go_ret; exact FF.out)
def pointsV (f : Nat → Bool) (a b : Nat) : Nat := if Right a b then cnt f (a / 8) (b / 8) else 0
set_option maxRecDepth 100000 in
theorem pointers_all (h : (tMk m f).P W F) (a b : Nat) (ha : a < 18446744073709551616) (hb : b < 18446744073709551616) :
    Calls Try.prog 13 #[.pointer (some ⟨m, 0, none⟩), .int .u64 (a : Nat), .int .u64 (b : Nat)] W fun e W' => e = .returned (.tuple #[.int .u64 (pointsV f a b : Nat), .int .i64 (clearE a b)]) ∧ Below W.heap.size W W' := by
  obtain ⟨R, hR⟩ : ∃ R : Ending → World → Prop, R = fun e W' => e = .returned (.tuple #[.int .u64 (pointsV f a b : Nat), .int .i64 (clearE a b)]) ∧ Below W.heap.size W W' := ⟨_, rfl⟩
  rw [← hR]
  have CB := hide (rightBlock_any a b ha hb W)
  by_cases cr : Right a b
  · rw [decide_eq_true cr] at CB
    have CO := hide (wordsOf_any a b cr W)
    obtain ⟨t, hm, hft, hF⟩ := h
    obtain ⟨r1, r2, r3, r4, r5⟩ := id cr
    have ef : fnOf t.list = f := funext hft
    have q1 : (a + b) / 8 ≤ 35184372088832 := by omega
    have q2 : a / 8 ≤ 35184372088832 := by omega
    obtain ⟨qt, hqt⟩ := t.ptr_form
    have c0 : W.cell? ⟨m, 0, none⟩ = some t.ptr := hm.bk.cell 0 _ rfl
    have CA := hide (show ∀ W1 x, Below W.heap.size W W1 → x ≤ 35184372088832 → Calls Try.prog 27 #[t.ptr, .int .u64 (x : Nat)] W1 fun e W' => e = .returned (.int .u64 (cto f x : Nat)) ∧ Below W1.heap.size W1 W' from fun W1 x hb hx => by
      have := pahead_any (hm.below hb).ok x hx
      rw [ef] at this
      exact this)
    have CC := hide (show ∀ W1, Below W.heap.size W W1 → W1.cell? ⟨m, 0, none⟩ = some t.ptr from fun W1 hb => (hm.below hb).bk.cell 0 _ rfl)
    rw [hqt] at c0
    simp only [hqt] at CA CC
    have hm1 := cto_mono f (show a / 8 ≤ (a + b) / 8 by omega)
    have hl1 := cto_le f ((a + b) / 8)
    have hv : pointsV f a b = cto f ((a + b) / 8) - cto f (a / 8) := by
      unfold pointsV
      rw [if_pos cr, ← cnt_cto f (show a / 8 ≤ (a + b) / 8 by omega)]
      congr 1; omega
    have C1 := hide (CA.out W.drew _ (drew_below W) q1)
    have C2 := hide (fun W1 hb => CA.out W1 _ hb q2)
    obtain ⟨P, hP⟩ : ∃ X : Int, ((a / 8 : Nat) : Int) = X := ⟨_, rfl⟩
    obtain ⟨Q, hQ⟩ : ∃ X : Int, (((a + b) / 8 : Nat) : Int) = X := ⟨_, rfl⟩
    obtain ⟨V1, hV1⟩ : ∃ X : Int, ((cto f (a / 8) : Nat) : Int) = X := ⟨_, rfl⟩
    obtain ⟨V2, hV2⟩ : ∃ X : Int, ((cto f ((a + b) / 8) : Nat) : Int) = X := ⟨_, rfl⟩
    have FF := hide (show ∀ W', Below W.heap.size W W' → R (.returned (.tuple #[.int .u64 (V2 - V1), .int .i64 0])) W' from fun W' hb => by
      rw [hR]
      refine ⟨?_, hb⟩
      rw [hv, Int.natCast_sub hm1, hV1, hV2]
      unfold clearE
      rw [if_pos cr])
    have v0 : 0 ≤ V1 := by omega
    have v1 : V1 ≤ V2 := by omega
    have v2 : V2 ≤ 35184372088832 := by omega
    have sw : IntKind.u64.wrap (V2 - V1) = V2 - V1 := by rw [IntKind.wrap_u64]; omega
    have HD := hide (drew_below W)
    rw [hP, hQ] at CO
    rw [hQ, hV2] at C1
    simp only [hP, hV1] at C2
    clear hP hQ hR hV1 hV2 hm hft hF r1 r2 r3 r4 r5 cr ha hb hqt q1 q2 hm1 hl1 hv ef CA
    go_enter Try.func13, Try.ntmps13
    go_wp2_with fail
    refine CB.out.mono ?_
    rintro e w' ⟨rfl, hw'⟩; rw [hw']; clear hw' w' CB
    go_wp2_with fail
    refine CO.out.mono ?_
    rintro e w' ⟨rfl, hw'⟩; rw [hw']; clear hw' w' CO
    go_wp2_with fail
    go_region_held3 (fun w' => w'.cell? ⟨m, 0, none⟩ = some (.pointer qt)) (first | (go_keep; done)) (first
      | (go_at_call 27; refine C1.out.mono ?_; rintro e W1 ⟨rfl, k1⟩; have K1 := hide (HD.out.trans (k1.mono HD.out.size)); have c1 := CC.out W1 K1.out; have C3 := hide (C2.out W1 K1.out); clear k1 C1 C2 c0)
      | (go_at_call 27; refine C3.out.mono ?_; rintro e W2 ⟨rfl, k2⟩; have K2 := hide (K1.out.trans (k2.mono K1.out.size)); have c2 := CC.out W2 K2.out; clear k2 C3 c1))
    have F2 := hide (FF.out _ K2.out)
    clear FF
    go_wp2_with fail
    first | exact F2.out | (go_ret2; exact F2.out)
  · rw [decide_eq_false cr] at CB
    have FF := hide (show R (.returned (.tuple #[.int .u64 0, .int .i64 1])) W from by rw [hR]; unfold clearE pointsV; rw [if_neg cr, if_neg cr]; exact ⟨rfl, Below.refl _ _⟩)
    clear hR h cr ha hb
    go_enter Try.func13, Try.ntmps13
    go_wp2_with fail
    refine CB.out.mono ?_
    rintro e w' ⟨rfl, hw'⟩; rw [hw']; clear hw' w' CB
    go_wp2_with fail
    first | exact FF.out | (go_ret2; exact FF.out)
end
end Go.Proofs.Ytnhllnepnpmegaa
