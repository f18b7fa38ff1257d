/- J14 of the proof of both laws: texts Rw, Rh, one behind the other. -/
import Derived.Test.YtnhllnepnpmegaaJ13
/- The reference's word: contract. -/
namespace Go.Proofs.Ytnhllnepnpmegaa
open Go.ChangeShapes Go.WideShapes Go.ChangeAt Go.RowKit Go.Shelf Go.Proofs.Rx Go.Maps Go.Proofs.Bt
set_option linter.unusedVariables false
set_option linter.unusedSimpArgs false

attribute [local go_sem] Oper.semAt_some

theorem rfn_take {L : List Wg} {n : Nat} {x : Wg} (h : L[n]? = some x) : rfn (L.take (n + 1)) = x.f (rfn (L.take n)) := by
  rw [List.take_add_one, h, Option.toList_some, rfn_app]
theorem Wg.in_ {x : Wg} (hx : x.Ok) {w : Nat} (f : Nat → Bool) (h : x.a ≤ 8 * w ∧ 8 * w - x.a < x.b) : x.f f w = (decide ((8 * w - x.a) / 8 < x.n * x.wd) && x.X ((8 * w - x.a) / 8 % x.wd)) := by
  obtain ⟨r1, r2, -⟩ := hx.r
  have w1 := hx.w1
  unfold Wg.f layF
  rw [if_pos (by omega)]
  unfold thF cutF
  rw [show w - x.a / 8 = (8 * w - x.a) / 8 by omega, decide_eq_true (Nat.mod_lt _ (by omega)), Bool.true_and]
  congr 1
  rw [decide_eq_decide]
  omega
theorem Wg.out_ {x : Wg} (hx : x.Ok) {w : Nat} (f : Nat → Bool) (h : ¬ (x.a ≤ 8 * w ∧ 8 * w - x.a < x.b)) : x.f f w = f w := by
  obtain ⟨r1, r2, -⟩ := hx.r
  unfold Wg.f layF
  rw [if_neg (by omega)]
set_option maxRecDepth 100000 in
set_option maxHeartbeats 2000000 in
theorem rword_any {W : World} {r : Nat} {v : Value} {L : List Wg} (h : RgAt W r v L) (hL : L.length ≤ 1000000) (w : Nat) (hw : w ≤ 35184372088832) :
    Calls Try.prog 29 #[.pointer (some ⟨r, 0, none⟩), .int .u64 (8 * w : Nat)] W fun e W' => e = .returned (.bool (rfn L w)) ∧ Below W.heap.size W W' := by
  obtain ⟨R, hR⟩ : ∃ R : Ending → World → Prop, R = fun e W' => e = .returned (.bool (rfn L w)) ∧ Below W.heap.size W W' := ⟨_, rfl⟩
  rw [← hR]
  have FIN := hide (show ∀ (b : Bool) (W' : World), rfn L w = b → Below W.heap.size W W' → R (.returned (.bool b)) W' from fun b W' hb h => by rw [hR, hb]; exact ⟨rfl, h⟩)
  clear hR
  obtain ⟨len, hlen⟩ : ∃ n, L.length = n := ⟨_, rfl⟩
  obtain ⟨AD, hAD⟩ : ∃ X : Int, ((8 * w : Nat) : Int) = X := ⟨_, rfl⟩
  have ad0 : 0 ≤ AD := by omega
  have ad1 : AD ≤ 281474976710656 := by omega
  obtain ⟨ov, cap, rfl⟩ : ∃ o c, v = .slice o len c := by
    rcases h.row.2 with ⟨a, b⟩ | ⟨g, cap, cur, a, _⟩
    · exact ⟨none, 0, by rw [a, ← hlen, b]⟩
    · exact ⟨some ⟨g, 0, none⟩, cap, by rw [a, hlen]⟩
  have x0 : W.cell? ⟨r, 0, none⟩ = some (.slice ov len cap) := h.bk.cell 0 _ rfl
  have rl := h.bk.lt
  have AT := hide (show ∀ (j : Nat) (W1 : World), j < len → Below W.heap.size W W1 → ∃ x g, L[j]? = some x ∧ x.Ok ∧ ov = some ⟨g, 0, none⟩ ∧ W1.cell? ⟨r, 0, none⟩ = some (.slice ov len cap) ∧ (W1.cell? ⟨g, j * 5, none⟩ = some (.int .u64 (x.a : Nat)) ∧ W1.cell? ⟨g, j * 5 + 1, none⟩ = some (.int .u64 (x.b : Nat)) ∧ W1.cell? ⟨g, j * 5 + 2, none⟩ = some (.int .i64 (x.wd : Nat)) ∧ W1.cell? ⟨g, j * 5 + 3, none⟩ = some (.slice (some ⟨x.g, 0, none⟩) x.wd x.cap) ∧ W1.cell? ⟨g, j * 5 + 4, none⟩ = some (.int .u64 (x.n : Nat))) ∧ ∀ i, i < x.wd → W1.cell? ⟨x.g, i, none⟩ = some (.bool (x.X i)) from fun j W1 hj hb => by
    have h1 := h.below hb
    obtain ⟨x, hx⟩ : ∃ x, L[j]? = some x := ⟨L[j]'(by omega), List.getElem?_eq_getElem _⟩
    obtain ⟨g, cap', e, c0, c1, c2, c3, c4, -⟩ := h1.at hx
    have e1 : ov = some ⟨g, 0, none⟩ := by injection e
    have hm := h1.ms x (List.mem_of_getElem? hx)
    refine ⟨x, g, hx, hm.2, e1, (hb.cell (p := ⟨r, 0, none⟩) rl).trans x0, ⟨c0, c1, c2, c3, c4⟩, fun i hi => ?_⟩
    have := hm.1.cells _ rfl i hi
    rwa [addr_add0, Nat.zero_add] at this)
  have AL := hide (fun (W1 : World) (hb : Below W.heap.size W W1) => (hb.cell (p := ⟨r, 0, none⟩) rl).trans x0)
  have HL := hide (And.intro hlen hAD)
  have l1 : (len : Int) ≤ 1000000 := by omega
  have l0 : (0 : Int) ≤ (len : Int) := by omega
  have wl : IntKind.i64.wrap ((len : Int) - 1) = (len : Int) - 1 := by rw [IntKind.wrap_i64]; omega
  rw [hAD]
  clear h hlen hAD rl hL hw
  go_enter Try.func29, Try.ntmps29
  go_wp2_with fail
  go_loopw [5] (fun vi wr => ∃ n : Nat, vi = .int .i64 ((n : Int) - 1) ∧ n ≤ len ∧ Hid (Below W.heap.size W wr) ∧ Hid (rfn L w = rfn (L.take n) w)) (fun vi _ => (zi vi + 1).toNat)
  case atStart => exact ⟨len, rfl, Nat.le_refl _, hide (Below.refl _ _), hide (by rw [List.take_of_length_le (by have := HL.out.1; omega)])⟩
  case round =>
    clear x0
    obtain ⟨n, rfl, hn, HB, HE⟩ := hrel
    by_cases c : n = 0
    · subst c
      have FF := hide (FIN.out false wr (HE.out.trans rfl) HB.out)
      clear HB HE FIN AT AL
      go_wp2_with fail
      first | exact FF.out | (go_ret; exact FF.out)
    · obtain ⟨m, rfl⟩ : ∃ m, n = m + 1 := ⟨n - 1, by omega⟩
      obtain ⟨x, g, hx, ox, rfl, y0, ⟨c0, c1, c2, c3, c4⟩, cx⟩ := AT.out m wr (by omega) HB.out
      have em : (((m + 1 : Nat) : Int) - 1) = (m : Int) := by omega
      rw [em]
      have d : decide ((0 : Int) ≤ (m : Int)) = true := decide_eq_true (by omega)
      have m0 : (0 : Int) ≤ (m : Int) := by omega
      have m1 : (m : Int) < (len : Int) := by omega
      have RT := hide (rfn_take hx)
      obtain ⟨xa, xb, xw, xn, xX, xg, xc⟩ := x
      dsimp only at c0 c1 c2 c3 c4 cx
      obtain ⟨A, hA⟩ : ∃ X : Int, (xa : Int) = X := ⟨_, rfl⟩
      obtain ⟨B, hB⟩ : ∃ X : Int, (xb : Int) = X := ⟨_, rfl⟩
      obtain ⟨WD, hWD⟩ : ∃ X : Int, (xw : Int) = X := ⟨_, rfl⟩
      obtain ⟨NN, hNN⟩ : ∃ X : Int, (xn : Int) = X := ⟨_, rfl⟩
      rw [hA] at c0
      rw [hB] at c1
      rw [hWD] at c2
      rw [hNN] at c4
      have hAD := HL.out.2
      obtain ⟨r1, r2, r3, r4, r5⟩ := ox.r
      dsimp only at r1 r2 r3 r4 r5
      have a0 : 0 ≤ A := by omega
      have a1 : A ≤ 281474976710656 := by omega
      have b0 : 0 < B := by omega
      have b1 : B ≤ 1099511627776 := by omega
      by_cases p1 : 8 * w < xa
      · have d1 : decide (AD < A) = true := decide_eq_true (by omega)
        have HE2 := hide (show rfn L w = rfn (L.take m) w by rw [HE.out, RT.out, Wg.out_ ox _ (by dsimp only; omega)])
        clear HE RT hx ox AT AL FIN p1 hA hB hWD hNN hAD r1 r2 r3 r4 r5 cx
        go_wp2_with fail
        exact ⟨⟨m, rfl, by omega, hide (HB.out.trans ((below_alloc wr _).mono HB.out.size)), HE2⟩, by first | (simp [zi]; done) | (simp [zi]; omega)⟩
      · have d1 : decide (AD < A) = false := decide_eq_false (by omega)
        have e1 : IntKind.u64.wrap (AD - A) = AD - A := by rw [IntKind.wrap_u64]; omega
        have e2 : 0 ≤ AD - A := by omega
        by_cases p2 : 8 * w - xa < xb
        · have d2 : decide (B ≤ AD - A) = false := decide_eq_false (by omega)
          obtain ⟨kk, hkk⟩ : ∃ k, (8 * w - xa) / 8 = k := ⟨_, rfl⟩
          obtain ⟨KK, hKK⟩ : ∃ X : Int, (kk : Int) = X := ⟨_, rfl⟩
          have t1 : (AD - A).tdiv 8 = KK := by rw [Int.tdiv_eq_ediv_of_nonneg e2]; omega
          have t2 : (AD - A) / 8 = KK := by omega
          have w1 := ox.w1
          have w2 := ox.w2
          have nb := ox.nb
          dsimp only at w1 w2 nb
          have k0 : 0 ≤ KK := by omega
          have k1 : KK ≤ 35184372088832 := by omega
          have nw : xn * xw ≤ 137438953472 := Nat.le_trans ((Nat.le_div_iff_mul_le (by omega)).1 nb) (by omega)
          have eNW : ((xn * xw : Nat) : Int) = NN * WD := by rw [Int.natCast_mul, hNN, hWD]
          have t3 : IntKind.u64.wrap WD = WD := by rw [IntKind.wrap_u64]; omega
          have t4 : IntKind.u64.wrap (NN * WD) = NN * WD := by rw [IntKind.wrap_u64]; omega
          have t5 : 0 ≤ NN * WD := by omega
          have t6 : NN * WD < 18446744073709551616 := by omega
          have t7 : 0 < WD := by omega
          have t8 : WD ≤ 65536 := by omega
          have t9 : 0 ≤ NN := by omega
          have ta : NN < 18446744073709551616 := by
            have := Nat.le_trans nb (Nat.div_le_self _ _)
            omega
          have val := HE.out.trans (congrFun RT.out w)
          rw [Wg.in_ ox _ (by dsimp only; omega)] at val
          dsimp only at val
          rw [hkk] at val
          by_cases p3 : kk < xn * xw
          · have d3 : decide (KK < NN * WD) = true := decide_eq_true (by omega)
            obtain ⟨q, hq⟩ : ∃ q, kk % xw = q := ⟨_, rfl⟩
            have hq' : q < xw := by rw [← hq]; exact Nat.mod_lt _ (by omega)
            rw [decide_eq_true p3, Bool.true_and, hq] at val
            have cq := cx q hq'
            generalize xX q = bq at *
            have u1 : KK % WD = (q : Int) := by rw [← hKK, ← hWD, ← Int.natCast_emod, hq]
            have u2 : KK.tmod WD = (q : Int) := by rw [Int.tmod_eq_emod_of_nonneg k0, u1]
            have u3 : (WD = 0) = False := by simp; omega
            have u4 : (q : Int) < WD := by omega
            have u6 : (q : Int) < (xw : Int) := by omega
            have u5 : (0 : Int) ≤ (q : Int) := by omega
            have FF := hide (show ∀ W', Below wr.heap.size wr W' → R (.returned (.bool bq)) W' from fun W' hb => FIN.out bq W' val (HB.out.trans (hb.mono HB.out.size)))
            clear HE RT hx ox AT AL FIN p1 p2 p3 hA hB hNN hAD r1 r2 r3 r4 r5 cx val hkk hKK nw eNW nb hq hq' w1 w2
            go_wp2_with fail
            obtain ⟨W2, hW2⟩ : ∃ W2, W2 = wr.alloc (.cells #[.int .u64 A, .int .u64 B, .int .i64 WD, .slice (some ⟨xg, 0, none⟩) xw xc, .int .u64 NN] 67) := ⟨_, rfl⟩
            have bk : Bk W2 wr.heap.size 67 #[.int .u64 A, .int .u64 B, .int .i64 WD, .slice (some ⟨xg, 0, none⟩) xw xc, .int .u64 NN] := by rw [hW2]; exact World.alloc_heap_new _ _
            have FG := hide (fun n => FF.out (W2.drewN n) (by have b := below_alloc wr (.cells #[.int .u64 A, .int .u64 B, .int .i64 WD, .slice (some ⟨xg, 0, none⟩) xw xc, .int .u64 NN] 67); rw [← hW2] at b; exact b.trans ((drewN_below W2 n).mono b.size)))
            have cq := (show W2.cell? ⟨xg, q, none⟩ = some (.bool bq) by rw [hW2]; exact ((below_alloc wr _).cell (p := ⟨xg, q, none⟩) (cell_lt cq)).trans cq)
            rw [← hW2]
            clear hW2 FF
            generalize wr.heap.size = nb at *
            have y2 := bk.cell 2 _ rfl
            have y3 := bk.cell 3 _ rfl
            have y4 := bk.cell 4 _ rfl
            clear bk c0 c1 c2 c3 c4 y0
            go_quiet (fail)
            go_wp2_with fail
            first | exact FG.out nq | (go_ret; exact FG.out nq)
          · have d3 : decide (KK < NN * WD) = false := decide_eq_false (by omega)
            rw [decide_eq_false p3, Bool.false_and] at val
            have FF := hide (show ∀ W', Below wr.heap.size wr W' → R (.returned (.bool false)) W' from fun W' hb => FIN.out false W' val (HB.out.trans (hb.mono HB.out.size)))
            clear HE RT hx ox AT AL FIN p1 p2 p3 hA hB hWD hNN hAD r1 r2 r3 r4 r5 cx val hkk hKK nw eNW nb w1 w2
            go_wp2_with fail
            obtain ⟨W2, hW2⟩ : ∃ W2, W2 = wr.alloc (.cells #[.int .u64 A, .int .u64 B, .int .i64 WD, .slice (some ⟨xg, 0, none⟩) xw xc, .int .u64 NN] 67) := ⟨_, rfl⟩
            have bk : Bk W2 wr.heap.size 67 #[.int .u64 A, .int .u64 B, .int .i64 WD, .slice (some ⟨xg, 0, none⟩) xw xc, .int .u64 NN] := by rw [hW2]; exact World.alloc_heap_new _ _
            have FG := hide (fun n => FF.out (W2.drewN n) (by have b := below_alloc wr (.cells #[.int .u64 A, .int .u64 B, .int .i64 WD, .slice (some ⟨xg, 0, none⟩) xw xc, .int .u64 NN] 67); rw [← hW2] at b; exact b.trans ((drewN_below W2 n).mono b.size)))
            rw [← hW2]
            clear hW2 FF
            generalize wr.heap.size = nb at *
            have y2 := bk.cell 2 _ rfl
            have y3 := bk.cell 3 _ rfl
            have y4 := bk.cell 4 _ rfl
            clear bk c0 c1 c2 c3 c4 y0
            go_quiet (fail)
            go_wp2_with fail
            first | exact FG.out nq | (go_ret; exact FG.out nq)
        · have d2 : decide (B ≤ AD - A) = true := decide_eq_true (by omega)
          have HE2 := hide (show rfn L w = rfn (L.take m) w by rw [HE.out, RT.out, Wg.out_ ox _ (by dsimp only; omega)])
          clear HE RT hx ox AT AL FIN p1 p2 hA hB hWD hNN hAD r1 r2 r3 r4 r5 cx
          go_wp2_with fail
          exact ⟨⟨m, rfl, by omega, hide (HB.out.trans ((below_alloc wr _).mono HB.out.size)), HE2⟩, by first | (simp [zi]; done) | (simp [zi]; omega)⟩
end Go.Proofs.Ytnhllnepnpmegaa

/- The reference's ahead: contract. -/
namespace Go.Proofs.Ytnhllnepnpmegaa
open Go.ChangeShapes Go.WideShapes Go.ChangeAt Go.RowKit Go.Shelf Go.Proofs.Rx Go.Maps Go.Proofs.Bt
set_option linter.unusedVariables false
set_option linter.unusedSimpArgs false

attribute [local go_sem] Oper.semAt_some

def Wg.th (x : Wg) : Nat → Bool := thF (x.a / 8) x.wd x.n (cutF x.X x.wd)
def Wg.val (x : Wg) : Value := .agg #[.int .u64 (x.a : Nat), .int .u64 (x.b : Nat), .int .i64 (x.wd : Nat), .slice (some ⟨x.g, 0, none⟩) x.wd x.cap, .int .u64 (x.n : Nat)]
theorem ah_eq {x : Wg} (hx : x.Ok) (n : Nat) : min n (x.n * x.wd) / x.wd * cnt x.X 0 x.wd + cnt x.X 0 (min n (x.n * x.wd) % x.wd) = cto x.th (x.a / 8 + n) := by
  have w1 := hx.w1
  unfold Wg.th
  rw [th_cto (x.a / 8) x.wd x.n (cutF x.X x.wd) (by omega) (x.a / 8 + n) (min n (x.n * x.wd)) (by omega), cut_cnt]
  congr 1
  exact cnt_congr fun k hk => by
    have := Nat.mod_lt (min n (x.n * x.wd)) (show 0 < x.wd by omega)
    unfold cutF
    rw [decide_eq_true (by omega), Bool.true_and]
set_option maxRecDepth 100000 in
set_option maxHeartbeats 2000000 in
theorem rahead_any {W : World} {x : Wg} (hx : x.Ok) (hX : BoolsAt W (some ⟨x.g, 0, none⟩) x.wd x.cap x.X) (n : Nat) (hn : n ≤ 137438953472) :
    Calls Try.prog 37 #[x.val, .int .u64 (n : Nat)] W fun e W' => e = .returned (.int .u64 (cto x.th (x.a / 8 + n) : Nat)) ∧ Below W.heap.size W W' := by
  obtain ⟨V, hV⟩ : ∃ X : Int, ((cto x.th (x.a / 8 + n) : Nat) : Int) = X := ⟨_, rfl⟩
  rw [hV]
  obtain ⟨R, hR⟩ : ∃ R : Ending → World → Prop, R = fun e W' => e = .returned (.int .u64 V) ∧ Below W.heap.size W W' := ⟨_, rfl⟩
  rw [← hR]
  have FIN := hide (show ∀ (W' : World), Below W.heap.size W W' → R (.returned (.int .u64 V)) W' from fun W' h => by rw [hR]; exact ⟨rfl, h⟩)
  clear hR
  have ah := ah_eq hx n
  have w1 := hx.w1
  have w2 := hx.w2
  have nb := hx.nb
  obtain ⟨r1, r2, r3, r4, r5⟩ := hx.r
  unfold Wg.val
  obtain ⟨xa, xb, xw, xn, xX, xg, xc⟩ := x
  dsimp only at hX ah w1 w2 nb r1 r2 r3 r4 r5 ⊢
  rw [← ah] at hV
  have nw : xn * xw ≤ 137438953472 := Nat.le_trans ((Nat.le_div_iff_mul_le (by omega)).1 nb) (by omega)
  obtain ⟨p, hp⟩ : ∃ p, xn * xw = p := ⟨_, rfl⟩
  obtain ⟨m, hm⟩ : ∃ m, min n p = m := ⟨_, rfl⟩
  rw [hp] at hV nw
  rw [hm] at hV
  obtain ⟨A, hA⟩ : ∃ X : Int, (xa : Int) = X := ⟨_, rfl⟩
  obtain ⟨B, hB⟩ : ∃ X : Int, (xb : Int) = X := ⟨_, rfl⟩
  obtain ⟨WD, hWD⟩ : ∃ X : Int, (xw : Int) = X := ⟨_, rfl⟩
  obtain ⟨NN, hNN⟩ : ∃ X : Int, (xn : Int) = X := ⟨_, rfl⟩
  obtain ⟨NI, hNI⟩ : ∃ X : Int, (n : Int) = X := ⟨_, rfl⟩
  obtain ⟨M, hM⟩ : ∃ X : Int, (m : Int) = X := ⟨_, rfl⟩
  obtain ⟨P, hP⟩ : ∃ X : Int, (p : Int) = X := ⟨_, rfl⟩
  have eP : NN * WD = P := by rw [← hNN, ← hWD, ← hP, ← hp, Int.natCast_mul]
  obtain ⟨q, hq⟩ : ∃ q, m % xw = q := ⟨_, rfl⟩
  obtain ⟨Q, hQ⟩ : ∃ X : Int, (q : Int) = X := ⟨_, rfl⟩
  obtain ⟨D, hD⟩ : ∃ X : Int, ((m / xw : Nat) : Int) = X := ⟨_, rfl⟩
  obtain ⟨E, hE⟩ : ∃ X : Int, ((cnt xX 0 xw : Nat) : Int) = X := ⟨_, rfl⟩
  obtain ⟨RR, hRR⟩ : ∃ X : Int, ((cnt xX 0 q : Nat) : Int) = X := ⟨_, rfl⟩
  obtain ⟨DE, hDE⟩ : ∃ X : Int, D * E = X := ⟨_, rfl⟩
  have qw : q < xw := by rw [← hq]; exact Nat.mod_lt _ (by omega)
  have m0 : 0 ≤ M := by omega
  have mn : m ≤ n := by omega
  have t1 : M.tmod WD = Q := by rw [Int.tmod_eq_emod_of_nonneg m0, ← hM, ← hWD, ← Int.natCast_emod, hq, hQ]
  have t2 : M % WD = Q := by rw [← hM, ← hWD, ← Int.natCast_emod, hq, hQ]
  have t3 : M.tdiv WD = D := by rw [Int.tdiv_eq_ediv_of_nonneg m0, ← hM, ← hWD, ← Int.natCast_ediv, hD]
  have t4 : M / WD = D := by rw [← hM, ← hWD, ← Int.natCast_ediv, hD]
  have t5 : (WD = 0) = False := by simp; omega
  have de : DE + RR = V := by rw [← hDE, ← hV, Int.natCast_add, Int.natCast_mul, hq, hD, hE, hRR]
  have c1 : cnt xX 0 xw ≤ xw := cnt_le _ _ _
  have c2 : m / xw * cnt xX 0 xw ≤ m := Nat.le_trans (Nat.mul_le_mul_left _ c1) (Nat.div_mul_le_self m xw)
  have c3 : ((m / xw * cnt xX 0 xw : Nat) : Int) = DE := by rw [Int.natCast_mul, hD, hE, hDE]
  have c4 : cnt xX 0 q ≤ q := cnt_le _ _ _
  have s1 : 0 ≤ DE := by omega
  have s2 : DE ≤ 137438953472 := by omega
  have s3 : 0 ≤ RR := by omega
  have s4 : RR ≤ 65536 := by omega
  have s5 : 0 ≤ V := by omega
  have s6 : V < 18446744073709551616 := by omega
  have s7 : IntKind.u64.wrap WD = WD := by rw [IntKind.wrap_u64]; omega
  have s8 : IntKind.u64.wrap P = P := by rw [IntKind.wrap_u64]; omega
  have s9 : 0 ≤ D := by rw [← hD]; exact Int.natCast_nonneg _
  have sa : D ≤ 137438953472 := by have := Nat.div_le_self m xw; omega
  have sb : 0 ≤ E := by omega
  have sc : E ≤ 65536 := by omega
  have sd : IntKind.u64.wrap DE = DE := by rw [IntKind.wrap_u64]; omega
  have se : IntKind.u64.wrap V = V := by rw [IntKind.wrap_u64]; omega
  have sf : 0 ≤ P := by omega
  have sg : P ≤ 137438953472 := by omega
  have sh : 0 ≤ WD := by omega
  have si : WD ≤ 65536 := by omega
  have sj : 0 ≤ NI := by omega
  have sk : NI ≤ 137438953472 := by omega
  have sl : 0 ≤ Q := by omega
  have sm : Q < 65536 := by omega
  have sn : M ≤ 137438953472 := by omega
  have so : IntKind.u64.wrap D = D := by rw [IntKind.wrap_u64]; omega
  have hend : (decide (P < NI) = true ∧ P = M) ∨ (decide (P < NI) = false ∧ NI = M) := by
    by_cases c : P < NI
    · exact .inl ⟨decide_eq_true c, by omega⟩
    · exact .inr ⟨decide_eq_false c, by omega⟩
  obtain ⟨W0, hW0⟩ : ∃ W0, W0 = W.alloc (.cells #[.int .u64 A, .int .u64 B, .int .i64 WD, .slice (some ⟨xg, 0, none⟩) xw xc, .int .u64 NN] 67) := ⟨_, rfl⟩
  have bb : Below W.heap.size W W0 := by rw [hW0]; exact below_alloc _ _
  have bk : Bk W0 W.heap.size 67 #[.int .u64 A, .int .u64 B, .int .i64 WD, .slice (some ⟨xg, 0, none⟩) xw xc, .int .u64 NN] := by rw [hW0]; exact World.alloc_heap_new _ _
  have FF := hide (FIN.out W0 bb)
  have CX := hide (show ∀ i, i < xw → W0.cell? ⟨xg, i, none⟩ = some (.bool (xX i)) from fun i hi => by
    have c := hX.cells _ rfl i hi
    rw [addr_add0, Nat.zero_add] at c
    exact (bb.cell (p := ⟨xg, i, none⟩) (cell_lt c)).trans c)
  have y2 := bk.cell 2 _ rfl
  have y3 := bk.cell 3 _ rfl
  have y4 := bk.cell 4 _ rfl
  have HQ := hide (And.intro hQ qw)
  have HWD := hide hWD
  have HE := hide (And.intro hE hRR)
  rw [hA, hB, hWD, hNN, hNI]
  clear FIN hV nb r1 r2 r3 r4 r5 hx hX w1 w2 hn nw hp hm hA hB hNN hNI hM hP hq hQ hD hE hRR qw mn c1 c2 c3 c4 bb bk ah
  go_enter Try.func37, Try.ntmps37
  rcases hend with ⟨d, rfl⟩ | ⟨d, rfl⟩
  all_goals (
    go_wp2_with fail
    rw [← hW0]
    clear hW0
    generalize W.heap.size = nb at *
    go_loopw [6, 7, 8] (fun ve vr vi wr => ∃ i : Nat, vi = .int .u64 (i : Nat) ∧ ve = .int .u64 (cnt xX 0 i : Nat) ∧ vr = .int .u64 (cnt xX 0 (min i q) : Nat) ∧ i ≤ xw ∧ Hid (wr = W0)) (fun _ _ vi _ => xw - (zi vi).toNat)
    case atStart => exact ⟨0, rfl, rfl, by rw [Nat.zero_min]; rfl, Nat.zero_le _, hide (by first | rfl | trivial)⟩
    case round =>
      obtain ⟨i, rfl, rfl, rfl, hi, HJ⟩ := hrel
      have hj := HJ.out
      subst hj
      clear HJ
      have i0 : (0 : Int) ≤ (i : Int) := by omega
      have i1 : (i : Int) ≤ 65536 := by have := HWD.out; omega
      obtain ⟨C, hC⟩ : ∃ C : Int, ((cnt xX 0 i : Nat) : Int) = C := ⟨_, rfl⟩
      obtain ⟨K, hK⟩ : ∃ C : Int, ((cnt xX 0 (min i q) : Nat) : Int) = C := ⟨_, rfl⟩
      have q1 := cnt_le xX 0 i
      have q2 := cnt_le xX 0 (min i q)
      have cc0 : 0 ≤ C := by omega
      have cc1 : C ≤ 65536 := by omega
      have k0 : 0 ≤ K := by omega
      have k1 : K ≤ 65536 := by omega
      rw [hC, hK]
      have HC := hide (And.intro hC hK)
      clear q1 q2
      by_cases c : i < xw
      · have dl : decide ((i : Int) < WD) = true := decide_eq_true (by have := HWD.out; omega)
        have il : (i : Int) < (xw : Int) := by omega
        have il2 : (i : Int) < WD := by have := HWD.out; omega
        have cx := CX.out i c
        have HX := hide (show cnt xX 0 (i + 1) = cnt xX 0 i + (xX i).toNat by rw [cnt, Nat.zero_add])
        by_cases g : i < q
        · have dq : decide ((i : Int) < Q) = true := decide_eq_true (by have := HQ.out.1; omega)
          have HY := hide (show cnt xX 0 (min (i + 1) q) = cnt xX 0 (min i q) + (xX i).toNat by rw [show min (i + 1) q = min i q + 1 by omega, cnt, Nat.zero_add, show min i q = i by omega])
          clear g hC hK
          by_cases b : xX i = true
          · rw [b] at cx
            have X1 := hide (show ((cnt xX 0 (i + 1) : Nat) : Int) = C + 1 by rw [HX.out, b, Int.natCast_add, HC.out.1]; rfl)
            have X2 := hide (show ((cnt xX 0 (min (i + 1) q) : Nat) : Int) = K + 1 by rw [HY.out, b, Int.natCast_add, HC.out.2]; rfl)
            clear b HX HY
            go_wp2_with fail
            exact ⟨⟨i + 1, by rw [Int.natCast_add]; rfl, by rw [X1.out], by rw [X2.out], by omega, hide (by first | rfl | trivial)⟩, by simp [zi]; omega⟩
          · have b' : xX i = false := by simpa using b
            rw [b'] at cx
            have X1 := hide (show ((cnt xX 0 (i + 1) : Nat) : Int) = C by rw [HX.out, b', Int.natCast_add, HC.out.1]; simp)
            have X2 := hide (show ((cnt xX 0 (min (i + 1) q) : Nat) : Int) = K by rw [HY.out, b', Int.natCast_add, HC.out.2]; simp)
            clear b b' HX HY
            go_wp2_with fail
            exact ⟨⟨i + 1, by rw [Int.natCast_add]; rfl, by rw [X1.out], by rw [X2.out], by omega, hide (by first | rfl | trivial)⟩, by simp [zi]; omega⟩
        · have dq : decide ((i : Int) < Q) = false := decide_eq_false (by have := HQ.out.1; omega)
          have X2 := hide (show ((cnt xX 0 (min (i + 1) q) : Nat) : Int) = K by rw [show min (i + 1) q = min i q by omega, hK])
          clear g hC hK
          by_cases b : xX i = true
          · rw [b] at cx
            have X1 := hide (show ((cnt xX 0 (i + 1) : Nat) : Int) = C + 1 by rw [HX.out, b, Int.natCast_add, HC.out.1]; rfl)
            clear b HX
            go_wp2_with fail
            exact ⟨⟨i + 1, by rw [Int.natCast_add]; rfl, by rw [X1.out], by rw [X2.out], by omega, hide (by first | rfl | trivial)⟩, by simp [zi]; omega⟩
          · have b' : xX i = false := by simpa using b
            rw [b'] at cx
            have X1 := hide (show ((cnt xX 0 (i + 1) : Nat) : Int) = C by rw [HX.out, b', Int.natCast_add, HC.out.1]; simp)
            clear b b' HX
            go_wp2_with fail
            exact ⟨⟨i + 1, by rw [Int.natCast_add]; rfl, by rw [X1.out], by rw [X2.out], by omega, hide (by first | rfl | trivial)⟩, by simp [zi]; omega⟩
      · have dl : decide ((i : Int) < WD) = false := decide_eq_false (by have := HWD.out; omega)
        obtain rfl : C = E := by rw [← hC, ← HE.out.1, show i = xw by omega]
        obtain rfl : K = RR := by rw [← hK, ← HE.out.2, show min i q = q by have := HQ.out.2; omega]
        clear hC hK HC c CX HQ HWD HE hi
        go_wp2_with fail
        first | exact FF.out | (go_ret; exact FF.out))
end Go.Proofs.Ytnhllnepnpmegaa
