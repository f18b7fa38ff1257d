/- J17 of the proof of both laws: texts Tt, Ov, To, one behind the other. -/
import Derived.Test.YtnhllnepnpmegaaJ13
import Derived.Test.YtnhllnepnpmegaaJ16
/- The law's truths: contract. -/
namespace Go.Proofs.Ytnhllnepnpmegaa
open Go.ChangeShapes Go.WideShapes Go.ChangeAt Go.RowKit Go.Shelf Go.Proofs.Rx Go.Maps Go.Proofs.Bt
set_option linter.unusedVariables false
set_option linter.unusedSimpArgs false

attribute [local go_sem] Oper.semAt_some

/-- Two lists of the same truths. -/
theorem truths_same {W : World} {o1 o2 : Option Addr} {len c1 c2 : Nat} {X Y : Nat → Bool} (h1 : BoolsAt W o1 len c1 X) (h2 : BoolsAt W o2 len c2 Y) (hl : len ≤ 1000000000) (e : ∀ k, k < len → X k = Y k) :
    Calls Try.prog 15 #[.slice o1 len c1, .slice o2 len c2] W fun e W' => e = .returned (.bool true) ∧ ∃ j, W' = W.drewN j := by
  obtain ⟨R, hR⟩ : ∃ R : Ending → World → Prop, R = fun e W' => e = .returned (.bool true) ∧ ∃ j, W' = W.drewN j := ⟨_, rfl⟩
  rw [← hR]
  have FIN := hide (show ∀ W', (∃ j, W' = W.drewN j) → R (.returned (.bool true)) W' from fun W' h => by rw [hR]; exact ⟨rfl, h⟩)
  clear hR
  have A1 := hide h1
  have A2 := hide h2
  have EE := hide e
  obtain ⟨LN, hLN⟩ : ∃ L : Int, (len : Int) = L := ⟨_, rfl⟩
  have l0 : 0 ≤ LN := by omega
  have l1 : LN ≤ 1000000000 := by omega
  have nn : (LN != LN) = false := by simp
  clear h1 h2 e hl
  go_enter Try.func15, Try.ntmps15
  go_wp2_with fail
  go_loopw [5] (fun vi wr => ∃ i : Nat, vi = .int .i64 (i : Nat) ∧ i ≤ len ∧ Hid (∃ j, wr = W.drewN j)) (fun vi _ => len - (zi vi).toNat)
  case atStart => exact ⟨0, rfl, Nat.zero_le _, hide ⟨0, rfl⟩⟩
  case round =>
    obtain ⟨i, rfl, hi, HJ⟩ := hrel
    by_cases c : i < len
    · have d : decide ((i : Int) < LN) = true := decide_eq_true (by omega)
      obtain ⟨b1, f1, rfl, hb1, z1⟩ := A1.out.at c
      obtain ⟨b2, f2, rfl, hb2, z2⟩ := A2.out.at c
      obtain ⟨j, hj⟩ := HJ.out
      have y1 : wr.cell? ⟨b1, f1 + i, none⟩ = some (.bool (X i)) := by rw [hj]; exact ((drewN_below W j).cell (p := ⟨b1, f1 + i, none⟩) hb1).trans (z1 i c)
      have y2 : wr.cell? ⟨b2, f2 + i, none⟩ = some (.bool (X i)) := by rw [hj, EE.out i c]; exact ((drewN_below W j).cell (p := ⟨b2, f2 + i, none⟩) hb2).trans (z2 i c)
      have HJ2 := hide hj
      generalize X i = x at *
      have i0 : (0 : Int) ≤ (i : Int) := by omega
      have i1 : (i : Int) < 1000000000 := by omega
      have xx : (x != x) = false := by simp
      clear hj z1 z2 HJ hb1 hb2
      go_wp2_with fail
      go_quiet (fail)
      go_wp2_with fail
      exact ⟨⟨i + 1, by rw [Int.natCast_add]; rfl, by omega, hide ⟨j + nq, by rw [HJ2.out, World.drewN_drewN]⟩⟩, by simp [zi]; omega⟩
    · have d : decide ((i : Int) < LN) = false := decide_eq_false (by omega)
      have FF := hide (FIN.out _ HJ.out)
      clear c HJ
      go_wp2_with fail
      first | exact FF.out | (go_ret; exact FF.out)
end Go.Proofs.Ytnhllnepnpmegaa

/- MasksOver. -/
namespace Go.Proofs.Ytnhllnepnpmegaa
open Go.ChangeShapes Go.WideShapes Go.ChangeAt Go.RowKit Go.Shelf Go.Proofs.Rx Go.Maps Go.Proofs.Bt
set_option linter.unusedVariables false
set_option linter.unusedSimpArgs false

attribute [local go_sem] Oper.semAt_some

theorem step_append_run {P : Program} {w w' : World} {ops : Array Oper} {o : Oper} {a : Act} {K : Act → World → Prop} {Q : Exit → Act → World → Prop} {E : Prop} (hgd : o.guard = none) (s x : Operand) (t : TypeId)
    (ho : o.op = .call { callee := .builtin .append, args := #[s, x], argTypes := #[t, t] }) {v u v' : Value} (hs : a.eval s = v) (hx : a.eval x = u) (hr : (Builtin.append_ #[t, t] o.type #[v, u]).run P w = .ok v' w') (h : K (a.put o.dst v') w') :
    if Region.wanted o (yielded ops a.tmps) = true then Oper.wp P o a w K Q else E := by
  have hw : Region.wanted o (yielded ops a.tmps) = true := by simp [Region.wanted, hgd]
  rw [if_pos hw]
  exact wp_append_run s x t ho hs hx hr h
/-- A row laid over another. -/
def putF (g : Nat → Bool) (a len : Nat) (X : Nat → Bool) (k : Nat) : Bool := if a ≤ k ∧ k < a + len then X (k - a) else g k
theorem putF_zero (g : Nat → Bool) (a : Nat) (X : Nat → Bool) : putF g a 0 X = g := by
  funext k; unfold putF; rw [if_neg (by omega)]
theorem putF_next (g : Nat → Bool) (a n : Nat) (X : Nat → Bool) (k : Nat) : putF g a (n + 1) X k = if k = a + n then X n else putF g a n X k := by
  unfold putF
  by_cases c : k = a + n
  · rw [if_pos c, if_pos (by omega), c]; congr 1; omega
  · rw [if_neg c]
    by_cases d : a ≤ k ∧ k < a + n
    · rw [if_pos d, if_pos (by omega)]
    · rw [if_neg d, if_neg (by omega)]
theorem ov_e {a len : Nat} (ha : a ≤ 300) (h1 : 1 ≤ len) (h2 : len ≤ 100) : writeE (8 * (100 + a)) (8 * len) (len : Int) len 1 = 0 :=
  wr_ok ⟨by omega, by omega, by omega, by omega, by omega⟩ ⟨by omega, by omega, rfl⟩ (by rw [show 8 * len / 8 = len by omega, Nat.div_self (by omega)]; exact Nat.le_refl _)
theorem ov_f {f g : Nat → Bool} {a len : Nat} {X : Nat → Bool} (ha : a ≤ 300) (h1 : 1 ≤ len) (h2 : len ≤ 100) (h : ∀ k, k < 400 → f (100 + k) = g k) (k : Nat) (hk : k < 400) : writeF f (8 * (100 + a)) (8 * len) (len : Int) len 1 X (100 + k) = putF g a len X k := by
  rw [wr_f (ov_e ha h1 h2), show 8 * (100 + a) / 8 = 100 + a by omega, show (8 * (100 + a) + 8 * len) / 8 = 100 + a + len by omega]
  unfold putF
  by_cases c : a ≤ k ∧ k < a + len
  · rw [if_pos c, if_pos (by omega)]
    unfold thF cutF
    rw [show 100 + k - (100 + a) = k - a by omega, Nat.mod_eq_of_lt (show k - a < len by omega), decide_eq_true (show k - a < len by omega), Bool.true_and, decide_eq_true (by omega), Bool.true_and]
  · rw [if_neg c, if_neg (by omega), h k hk]
theorem Sep.put_row {N : Nat} {w W : World} {l : List Thing} (h : Sep N w W l) (i : Nat) (hi : i < l.length) {b L : Nat} {g g' : Nat → Bool} (e : l[i] = tVb b L g) (j : Nat) (hj : j < L) (v : Bool) (hg : ∀ k, k < L → g' k = if k = j then v else g k) :
    Sep N w (W.setCell ⟨b, j, none⟩ (.bool v)) (l.set i (tVb b L g')) :=
  h.turn i hi _ fun F hF => by
    rw [e] at hF
    obtain ⟨vc, hz⟩ := hF
    exact ⟨F, ⟨(vc.set j hj (.bool v)).congr (fun k hk => by rw [hg k hk]; split <;> rfl), hz⟩, kept_set W b j _ ((hz b).2 rfl), fun _ h => .inl h⟩
theorem Sep.row {N : Nat} {w W : World} {l : List Thing} (h : Sep N w W l) (i : Nat) (hi : i < l.length) {b L : Nat} {g : Nat → Bool} (e : l[i] = tVb b L g) : Vec W b L 4 (fun k => .bool (g k)) := by
  obtain ⟨F, hF⟩ := h.have i hi
  rw [e] at hF
  exact hF.1
/-- The law's own: the masks and what they ought to be. -/
abbrev ovL (m wb : Nat) (f g : Nat → Bool) : List Thing := [tMk m f, tVb wb 400 g]
set_option maxRecDepth 100000 in
set_option maxHeartbeats 4000000 in
theorem over_any {w : World} {o1 o2 : Option Addr} {l1 c1 l2 c2 : Nat} {Y : Nat → RowB} {A : Nat → Int} (hR1 : RowsBAt w o1 l1 c1 Y) (hA1 : U64At w o2 l2 c2 A) (hl1 : l1 ≤ maxLen) (hl2 : l2 ≤ maxLen) :
    Calls Try.prog 6 #[.slice o1 l1 c1, .slice o2 l2 c2] w fun e w' => e = .returned (.bool true) ∧ Below w.heap.size w w' := by
  obtain ⟨R, hR⟩ : ∃ R : Ending → World → Prop, R = fun e w' => e = .returned (.bool true) ∧ Below w.heap.size w w' := ⟨_, rfl⟩
  rw [← hR]
  have DONE := hide (show ∀ w', Below w.heap.size w w' → R (.returned (.bool true)) w' from fun w' h => by rw [hR]; exact ⟨rfl, h⟩)
  clear hR
  obtain ⟨L1, hL1⟩ : ∃ L : Int, (l1 : Int) = L := ⟨_, rfl⟩
  obtain ⟨L2, hL2⟩ : ∃ L : Int, (l2 : Int) = L := ⟨_, rfl⟩
  have FF := hide (DONE.out w (Below.refl _ _))
  by_cases c1' : 30 < l1
  · have d1 : decide (30 < L1) = true := decide_eq_true (by omega)
    have u1 : L1 ≤ 9223372036854775807 := by unfold maxLen at hl1; omega
    clear hR1 hA1 hl1 hl2 DONE c1' hL2
    go_enter Try.func6, Try.ntmps6
    go_wp2_with fail
    first | exact FF.out | (go_ret; exact FF.out)
  have d1 : decide (30 < L1) = false := decide_eq_false (by omega)
  by_cases c2' : 30 < l2
  · have d2 : decide (30 < L2) = true := decide_eq_true (by omega)
    have u1 : L1 ≤ 30 := by omega
    have u2 : L2 ≤ 9223372036854775807 := by unfold maxLen at hl2; omega
    clear hR1 hA1 hl1 hl2 DONE c1' c2'
    go_enter Try.func6, Try.ntmps6
    go_wp2_with fail
    first | exact FF.out | (go_ret; exact FF.out)
  have d2 : decide (30 < L2) = false := decide_eq_false (by omega)
  have u1 : L1 ≤ 30 := by omega
  have u2 : L2 ≤ 30 := by omega
  have v1 : 0 ≤ L1 := by omega
  have v2 : 0 ≤ L2 := by omega
  -- what is handed in
  have XR := hide (show ∀ i, i < l1 → ∃ b f yo yl yc yX, o1 = some ⟨b, f, none⟩ ∧ (∀ W1, Below w.heap.size w W1 → W1.cell? ⟨b, f + i, none⟩ = some (.slice yo yl yc)) ∧ yl ≤ maxLen ∧ BoolsAt w yo yl yc yX from fun i hi => by
    obtain ⟨b, f, e, hb, hc⟩ := hR1.at hi
    exact ⟨b, f, _, _, _, _, e, fun W1 hb1 => (hb1.cell (p := ⟨b, f + i, none⟩) hb).trans (hc i hi), hR1.lm i, hR1.rows i⟩)
  have XA := hide (show ∀ i, i < l2 → ∃ b f a, o2 = some ⟨b, f, none⟩ ∧ (∀ W1, Below w.heap.size w W1 → W1.cell? ⟨b, f + i, none⟩ = some (.int .u64 a)) ∧ 0 ≤ a ∧ a ≤ 18446744073709551615 from fun i hi => by
    obtain ⟨b, f, e, hb, hc⟩ := hA1.at hi
    exact ⟨b, f, _, e, fun W1 hb1 => (hb1.cell (p := ⟨b, f + i, none⟩) hb).trans (hc i hi), hA1.lo i, hA1.hi i⟩)
  have BE := hide (show ∀ W1 l, Sep w.heap.size w W1 l → Below w.heap.size w W1 from fun W1 l h => h.be)
  -- the calls
  have S0 := hide ((Sep.start w).new)
  have T0 := hide (show ∀ (m : Nat) (W1 : World), Sep w.heap.size w W1 [tMk m (fun _ => false)] → ∃ W2, (Instr.makeSlice 32 (.int .i64 400) (.int .i64 400)).run Try.prog W1 = .ok (.slice (some ⟨W1.heap.size, 0, none⟩) 400 400) W2 ∧ Sep w.heap.size w W2 (ovL m W1.heap.size (fun _ => false) (fun _ => false)) from fun m W1 hs => by
    obtain ⟨W2, r2, v2, b2, -⟩ := make_bools W1 400 (by decide)
    exact ⟨W2, r2, hs.more b2 (tVb W1.heap.size 400 (fun _ => false)) (F' := fun z => z = W1.heap.size) ⟨v2, fun z => Iff.rfl⟩ (fun z hz => by rw [hz]; exact Nat.le_refl _)⟩)
  have CP := hide (show ∀ (yo : Option Addr) (yl yc : Nat) (yX : Nat → Bool) (W1 : World), BoolsAt w yo yl yc yX → 1 ≤ yl → yl ≤ 100 → Below w.heap.size w W1 → ∃ g cap' W2, (Builtin.append_ #[32, 32] 32 #[.slice (some ⟨W1.heap.size, 0, none⟩) 0 0, .slice yo yl yc]).run Try.prog (W1.alloc (.cells #[] 4)) = .ok (.slice (some ⟨g, 0, none⟩) yl cap') W2 ∧ BoolsAt W2 (some ⟨g, 0, none⟩) yl cap' yX ∧ Below W1.heap.size W1 W2 from fun yo yl yc yX W1 hx h1 h2 hb => by
    obtain ⟨g, cap', W2, r, ow, bl, _, _⟩ := copy_bools (BoolsAt.below hx hb) h1 (by omega)
    exact ⟨g, cap', W2, r, row_bools ow, bl⟩)
  have CW := hide (show ∀ (m wb : Nat) (f g : Nat → Bool) (W1 W2 : World) (yl : Nat) (YL AT : Int) (at_ gg cap' : Nat) (yX : Nat → Bool), (yl : Int) = YL → (at_ : Int) = AT → 1 ≤ yl → yl ≤ 100 → at_ ≤ 300 → Sep w.heap.size w W1 (ovL m wb f g) → (∀ k, k < 400 → f (100 + k) = g k) → Below W1.heap.size W1 W2 → BoolsAt W2 (some ⟨gg, 0, none⟩) yl cap' yX →
      Calls Try.prog 11 #[.pointer (some ⟨m, 0, none⟩), .int .u64 (8 * (100 + AT)), .int .u64 (8 * YL), .agg #[.int .i64 YL, .slice (some ⟨gg, 0, none⟩) yl cap'], .int .u64 1] W2 fun e W' => e = .returned (.int .i64 0) ∧ ∃ f', Sep w.heap.size w W' (ovL m wb f' (putF g at_ 0 yX)) ∧ ∀ k, k < 400 → f' (100 + k) = putF g at_ yl yX k from fun m wb f g W1 W2 yl YL AT at_ gg cap' yX hy ha h1 h2 h3 hs hfg hb hx => by
    have C := (hs.read hb).write 0 (Nat.zero_lt_succ _) rfl (8 * (100 + at_)) (8 * yl) 1 (by omega) (by omega) (by decide) (yl : Int) (by omega) (by omega) (by omega) hx
    rw [ov_e h3 h1 h2, show ((8 * (100 + at_) : Nat) : Int) = 8 * (100 + AT) by omega, show ((8 * yl : Nat) : Int) = 8 * YL by omega, hy] at C
    rw [putF_zero]
    refine C.mono fun e W' ⟨he, hs'⟩ => ⟨he, _, hs', fun k hk => ?_⟩
    rw [← hy]
    exact ov_f h3 h1 h2 hfg k hk)
  have CR := hide (show ∀ (m wb : Nat) (f g : Nat → Bool) (W1 : World), Sep w.heap.size w W1 (ovL m wb f g) → Calls Try.prog 12 #[.pointer (some ⟨m, 0, none⟩), .int .u64 800, .int .u64 3200] W1 fun e W' => ∃ U, e = .returned (.tuple #[.slice (some ⟨U, 0, none⟩) 400 400, .int .i64 0]) ∧ Sep w.heap.size w W' (ovL m wb f g ++ [tVb U 400 (fun k => f (100 + k))]) from fun m wb f g W1 hs => by
    have C := hs.rd_ok 0 (Nat.zero_lt_succ _) rfl 800 3200 (by decide) (by decide) (by decide)
    exact C.mono fun _ _ ⟨U, a, _, _, d⟩ => ⟨U, a, d⟩)
  have CQ := hide (show ∀ (m wb U : Nat) (f g : Nat → Bool) (W1 : World), Sep w.heap.size w W1 (ovL m wb f g ++ [tVb U 400 (fun k => f (100 + k))]) → (∀ k, k < 400 → f (100 + k) = g k) → Calls Try.prog 13 #[.pointer (some ⟨m, 0, none⟩), .int .u64 800, .int .u64 3200] W1 fun e W' => e = .returned (.tuple #[.int .u64 (cnt g 0 400 : Nat), .int .i64 0]) ∧ Sep w.heap.size w W' (ovL m wb f g ++ [tVb U 400 (fun k => f (100 + k))]) from fun m wb U f g W1 hs hfg => by
    have C := hs.points 0 (Nat.zero_lt_succ _) rfl 800 3200 (by decide) (by decide)
    have e : pointsV f 800 3200 = cnt g 0 400 := by
      unfold pointsV
      rw [if_pos (by decide)]
      exact cnt_congr fun k hk => by rw [Nat.zero_add]; exact hfg k hk
    rw [e, show clearE 800 3200 = 0 by decide] at C
    exact C.mono fun _ _ ⟨a, _, c⟩ => ⟨a, c⟩)
  have CT := hide (show ∀ (m wb U : Nat) (f g : Nat → Bool) (W1 : World), Sep w.heap.size w W1 (ovL m wb f g ++ [tVb U 400 (fun k => f (100 + k))]) → (∀ k, k < 400 → f (100 + k) = g k) → Calls Try.prog 15 #[.slice (some ⟨U, 0, none⟩) 400 400, .slice (some ⟨wb, 0, none⟩) 400 400] W1 fun e W' => e = .returned (.bool true) ∧ Below w.heap.size w W' from fun m wb U f g W1 hs hfg => by
    refine (truths_same (bools_vec (hs.row 2 (show 2 < 3 by decide) rfl)) (bools_vec (hs.row 1 (show 1 < 3 by decide) rfl)) (by decide) hfg).mono ?_
    rintro e W' ⟨rfl, j, rfl⟩
    exact ⟨rfl, (hs.read (drewN_below _ j)).be⟩)
  have AW := hide (show ∀ W1, Below w.heap.size w W1 → Calls Try.prog 10 #[] W1 fun e W' => e = .returned (.bool true) ∧ R e W' from fun W1 hb => (awake15 W1).mono fun e W' ⟨he, hb2⟩ => ⟨he, by rw [he]; exact DONE.out W' (hb.trans (hb2.mono hb.size))⟩)
  clear hR1 hA1 hl1 hl2 FF
  go_enter Try.func6, Try.ntmps6
  go_wp2_with fail
  refine S0.out.mono ?_
  rintro e W1 ⟨m, rfl, s1⟩
  obtain ⟨W2, r2, s2⟩ := T0.out m W1 s1
  have hm := hide s1
  generalize W1.heap.size = wb at *
  have S2 := hide s2
  clear s1 s2 hm S0 T0
  go_wp2_with fail
  go_loopw [7] (fun vi wr => ∃ (i : Nat) (f g : Nat → Bool), vi = .int .i64 (i : Nat) ∧ i ≤ l1 ∧ Hid (Sep w.heap.size w wr (ovL m wb f g)) ∧ Hid (∀ k, k < 400 → f (100 + k) = g k)) (fun vi _ => l1 - (zi vi).toNat)
  case atStart => exact ⟨0, _, _, rfl, Nat.zero_le _, S2, hide (fun _ _ => rfl)⟩
  case round =>
    clear S2 r2
    obtain ⟨i, f, g, rfl, hi, HS, HF⟩ := hrel
    have i0 : (0 : Int) ≤ (i : Int) := by omega
    have i1 : (i : Int) ≤ 30 := by omega
    by_cases cc : i < l1 ∧ i < l2
    · obtain ⟨ca, cb⟩ := cc
      have da : decide ((i : Int) < L1) = true := decide_eq_true (by omega)
      have db : decide ((i : Int) < L2) = true := decide_eq_true (by omega)
      have ia : (i : Int) < L1 := by omega
      have ib : (i : Int) < L2 := by omega
      have ia' : (i : Int) < (l1 : Int) := by omega
      have ib' : (i : Int) < (l2 : Int) := by omega
      obtain ⟨b1, f1, yo, yl, yc, yX, rfl, K1, ylm, HY⟩ := XR.out i ca
      obtain ⟨b2, f2, AT, rfl, K2, at0, at9⟩ := XA.out i cb
      have k1 := K1 wr (BE.out _ _ HS.out)
      have k2 := K2 wr (BE.out _ _ HS.out)
      have HK1 := hide K1
      have HK2 := hide K2
      have HHY := hide HY
      obtain ⟨YL, hYL⟩ : ∃ L : Int, (yl : Int) = L := ⟨_, rfl⟩
      have y0 : 0 ≤ YL := by omega
      have DD := hide (DONE.out wr (BE.out _ _ HS.out))
      clear K1 K2 HY
      by_cases e1 : yl < 1
      · have de1 : decide (YL < 1) = true := decide_eq_true (by omega)
        have y9 : YL ≤ 9223372036854775807 := by omega
        clear e1 ylm HS HF XR XA BE CP CW CR CQ CT AW DONE HK1 HK2 HHY
        go_wp2_with fail
        first | exact DD.out | (go_ret; exact DD.out)
      have de1 : decide (YL < 1) = false := decide_eq_false (by omega)
      by_cases e2 : 100 < yl
      · have de2 : decide (100 < YL) = true := decide_eq_true (by omega)
        have y9 : YL ≤ 9223372036854775807 := by unfold maxLen at ylm; omega
        clear e1 e2 ylm HS HF XR XA BE CP CW CR CQ CT AW DONE HK1 HK2 HHY
        go_wp2_with fail
        first | exact DD.out | (go_ret; exact DD.out)
      have de2 : decide (100 < YL) = false := decide_eq_false (by omega)
      have y9 : YL ≤ 100 := by omega
      by_cases e3 : 300 < AT
      · have de3 : decide (300 < AT) = true := decide_eq_true e3
        clear e1 e2 e3 ylm HS HF XR XA BE CP CW CR CQ CT AW DONE HK1 HK2 HHY
        go_wp2_with fail
        first | exact DD.out | (go_ret; exact DD.out)
      have de3 : decide (300 < AT) = false := decide_eq_false e3
      obtain ⟨at_, hat⟩ : ∃ n : Nat, (n : Int) = AT := ⟨AT.toNat, by omega⟩
      have at3 : AT ≤ 300 := by omega
      have y1 : 1 ≤ YL := by omega
      obtain ⟨gg, cap', W3, r3, x3, b3⟩ := CP.out yo yl yc yX wr.drew HHY.out (by omega) (by omega) ((BE.out _ _ HS.out).trans ((drew_below wr).mono (BE.out _ _ HS.out).size))
      have B3 : Below wr.heap.size wr W3 := (drew_below wr).trans b3
      have CW3 := hide (CW.out m wb f g wr W3 yl YL AT at_ gg cap' yX hYL hat (by omega) (by omega) (by omega) HS.out HF.out B3 x3)
      have q1 := HK1.out W3 ((BE.out _ _ HS.out).trans (B3.mono (BE.out _ _ HS.out).size))
      have q2 := HK2.out W3 ((BE.out _ _ HS.out).trans (B3.mono (BE.out _ _ HS.out).size))
      have R3 := hide (show (Builtin.append_ #[32, 32] 32 #[.slice (some ⟨wr.heap.size, 0, none⟩) 0 0, .slice yo yl yc]).run Try.prog (wr.alloc (.cells #[] 4)).drew = .ok (.slice (some ⟨gg, 0, none⟩) yl cap') W3 from r3)
      have HAT := hide hat
      have n1 : IntKind.u64.wrap (100 + AT) = 100 + AT := by rw [IntKind.wrap_u64]; omega
      have n2 : IntKind.u64.wrap (8 * (100 + AT)) = 8 * (100 + AT) := by rw [IntKind.wrap_u64]; omega
      have n3 : IntKind.u64.wrap YL = YL := by rw [IntKind.wrap_u64]; omega
      have n4 : IntKind.u64.wrap (8 * YL) = 8 * YL := by rw [IntKind.wrap_u64]; omega
      clear r3 x3 b3 B3 HS HF XR XA CP CW DONE DD e1 e2 e3 ylm hat
      go_wp2_with fail
      go_region_held3 (fun w' => w'.cell? ⟨b1, f1 + i, none⟩ = some (.slice yo yl yc) ∧ w'.cell? ⟨b2, f2 + i, none⟩ = some (.int .u64 AT)) (first | (go_keep; done)) (first
        | (refine step_append_run (by rfl) (.tmp 79) (.tmp 83) 32 (by rfl) (by rfl) (by rfl) R3.out ?_)
        | (go_at_call 11; (try simp only [n1, n2, n3, n4]); refine CW3.out.mono ?_; rintro e W4 ⟨rfl, f', s4, h4⟩; have S4 := hide s4; have H4 := hide h4; have q3 := HK1.out W4 (BE.out _ _ S4.out); have q4 := HK2.out W4 (BE.out _ _ S4.out); clear s4 h4 CW3))
      go_wp2_with fail
      go_loopw [8] (fun vk wq => ∃ k : Nat, vk = .int .i64 (k : Nat) ∧ k ≤ yl ∧ Hid (Sep w.heap.size w wq (ovL m wb f' (putF g at_ k yX)))) (fun vk _ => yl - (zi vk).toNat)
      case atStart => exact ⟨0, rfl, Nat.zero_le _, S4⟩
      case round =>
        clear S4 q1 q2 q3 q4 k1 k2 R3
        obtain ⟨k, rfl, hk, HS⟩ := hrel
        have k1 := HK1.out wr (BE.out _ _ HS.out)
        have k2 := HK2.out wr (BE.out _ _ HS.out)
        have j0 : (0 : Int) ≤ (k : Int) := by omega
        have j1 : (k : Int) ≤ 100 := by omega
        by_cases ck : k < yl
        · have dk : decide ((k : Int) < YL) = true := decide_eq_true (by omega)
          have jk : (k : Int) < YL := by omega
          obtain ⟨b3, f3, rfl, hb3, hc3⟩ := HHY.out.at ck
          have k3 := ((BE.out _ _ HS.out).cell (p := ⟨b3, f3 + k, none⟩) hb3).trans (hc3 k ck)
          have ak : at_ + k < 400 := by have := HAT.out; omega
          have FIN := hide ((HS.out.read (drew_below wr)).put_row 1 (show 1 < 2 by decide) rfl (at_ + k) ak (yX k) (fun j hj => putF_next g at_ k yX j))
          have x1 := (HS.out.row 1 (show 1 < 2 by decide) rfl).cell (at_ + k) ak
          have x2 := (HS.out.row 1 (show 1 < 2 by decide) rfl).fz (at_ + k)
          have eAK : (AT + (k : Int)).toNat = at_ + k := by have := HAT.out; omega
          have m1 : IntKind.u64.wrap (k : Int) = (k : Int) := by rw [IntKind.wrap_u64]; omega
          have m2 : IntKind.u64.wrap (AT + (k : Int)) = AT + (k : Int) := by rw [IntKind.wrap_u64]; omega
          have m3 : AT + (k : Int) < 400 := by omega
          have m4 : 0 ≤ AT + (k : Int) := by omega
          generalize putF g at_ k yX (at_ + k) = xo at *
          clear hb3 hc3 HS
          go_wp2_with fail
          refine still_tail 15 (by kernel_rfl) (by kernel_rfl) ?_
          simp only [List.take_succ_cons, List.take_zero, List.drop_succ_cons, List.drop_zero]
          repeat still_step
          refine wpStill_nil ?_
          go_wp2_with fail
          exact ⟨⟨k + 1, by rw [Int.natCast_add]; rfl, by omega, FIN⟩, by simp [zi]; omega⟩
        · have dk : decide ((k : Int) < YL) = false := decide_eq_false (by omega)
          obtain rfl : k = yl := by omega
          clear ck HHY
          go_wp2_with fail
          exact ⟨⟨i + 1, f', putF g at_ k yX, by rw [Int.natCast_add]; rfl, by omega, HS, H4⟩, by simp [zi]; omega⟩
    · have hend : decide ((i : Int) < L1) = false ∨ (decide ((i : Int) < L1) = true ∧ decide ((i : Int) < L2) = false) := by
        by_cases ca : i < l1
        · exact .inr ⟨decide_eq_true (by omega), decide_eq_false (by omega)⟩
        · exact .inl (decide_eq_false (by omega))
      have CR1 := hide (CR.out m wb f g wr HS.out)
      have CQ1 := hide (show ∀ U W1, _ → _ from fun U W1 h => CQ.out m wb U f g W1 h HF.out)
      have CT1 := hide (show ∀ U W1, _ → _ from fun U W1 h => CT.out m wb U f g W1 h HF.out)
      obtain ⟨NN, hNN⟩ : ∃ N : Int, ((cnt g 0 400 : Nat) : Int) = N := ⟨_, rfl⟩
      rw [hNN] at CQ1
      have nn0 : 0 ≤ NN := by omega
      have nn1 : NN ≤ 400 := by have := cnt_le g 0 400; omega
      have HNN := hide hNN
      clear cc HS HF XR XA CP CW CR CQ CT DONE hNN
      rcases hend with da | ⟨da, db⟩ <;> (
        go_wp2_with fail
        refine CR1.out.mono ?_
        rintro e W3 ⟨U, rfl, s3⟩
        have S3 := hide s3
        clear s3 CR1
        go_wp2_with fail
        go_loopw [11, 12] (fun vn vk wq => ∃ k : Nat, vk = .int .i64 (k : Nat) ∧ vn = .int .u64 (cnt g 0 k : Nat) ∧ k ≤ 400 ∧ Hid (wq = W3)) (fun _ vk _ => 400 - (zi vk).toNat)
        case atStart => exact ⟨0, rfl, rfl, Nat.zero_le _, hide (by first | rfl | trivial)⟩
        case round =>
          obtain ⟨k, rfl, rfl, hk, HJ⟩ := hrel
          have hj := HJ.out
          subst hj
          clear HJ
          by_cases c : k < 400
          · have d : decide ((k : Int) < 400) = true := decide_eq_true (by omega)
            have x1 := (S3.out.row 1 (show 1 < 3 by decide) rfl).cell k c
            have j0 : (0 : Int) ≤ (k : Int) := by omega
            have j1 : (k : Int) < 400 := by omega
            have cb := cnt_le g 0 k
            obtain ⟨C, hC⟩ : ∃ C : Int, ((cnt g 0 k : Nat) : Int) = C := ⟨_, rfl⟩
            have cc0 : 0 ≤ C := by omega
            have cc1 : C ≤ 400 := by omega
            have HC := hide hC
            have HX := hide (show cnt g 0 (k + 1) = cnt g 0 k + (g k).toNat by rw [cnt, Nat.zero_add])
            rw [hC]
            clear hC cb
            by_cases x : g k = true
            · rw [x] at x1
              have HX2 := hide (show ((cnt g 0 (k + 1) : Nat) : Int) = C + 1 by rw [HX.out, x, Int.natCast_add, HC.out]; rfl)
              clear x HX
              go_wp2_with fail
              exact ⟨⟨k + 1, by rw [Int.natCast_add]; rfl, by rw [HX2.out], by omega, hide (by first | rfl | trivial)⟩, by simp [zi]; omega⟩
            · have x' : g k = false := by simpa using x
              rw [x'] at x1
              have HX2 := hide (show ((cnt g 0 (k + 1) : Nat) : Int) = C by rw [HX.out, x', Int.natCast_add, HC.out]; simp)
              clear x x' HX
              go_wp2_with fail
              exact ⟨⟨k + 1, by rw [Int.natCast_add]; rfl, by rw [HX2.out], by omega, hide (by first | rfl | trivial)⟩, by simp [zi]; omega⟩
          · have d : decide ((k : Int) < 400) = false := decide_eq_false (by omega)
            have e1 : ((cnt g 0 k : Nat) : Int) = NN := by rw [← HNN.out, show k = 400 by omega]
            rw [e1]
            have D1 := hide (CQ1.out U wr S3.out)
            have ee : (NN == NN) = true := by simp
            clear e1 CQ1 S3 c hk HNN
            go_wp2_with fail
            refine D1.out.mono ?_
            rintro e W4 ⟨rfl, s4⟩
            have D2 := hide (CT1.out U W4 s4)
            clear s4 D1 CT1
            go_wp2_with fail
            refine D2.out.mono ?_
            rintro e W5 ⟨rfl, b5⟩
            have AA := hide (AW.out W5 b5)
            clear b5 D2
            go_wp2_with fail
            refine AA.out.mono ?_
            rintro e W9 ⟨rfl, r9⟩
            have R9 := hide r9
            clear r9 AA
            go_wp2_with fail
            first | exact R9.out | (go_ret; exact R9.out))
end Go.Proofs.Ytnhllnepnpmegaa

/- A list in a block as a thing. -/
namespace Go.Proofs.Ytnhllnepnpmegaa
open Go.ChangeShapes Go.WideShapes Go.ChangeAt Go.RowKit Go.Shelf Go.Proofs.Rx Go.Maps Go.Proofs.Bt
set_option linter.unusedVariables false
set_option linter.unusedSimpArgs false

/-- A list of truths that lies in a block. -/
def tBo (U L cap : Nat) (f : Nat → Bool) : Thing := ⟨fun W F => (BoolsAt W (some ⟨U, 0, none⟩) L cap f ∧ U < W.heap.size) ∧ ∀ z, F z ↔ z = U, fun ⟨h, hF⟩ k n => ⟨⟨h.1.keep k (n U ((hF U).2 rfl)), Nat.lt_of_lt_of_le h.2 k.size⟩, hF⟩, fun ⟨h, hF⟩ z hz => by rw [(hF z).1 hz]; exact h.2⟩
end Go.Proofs.Ytnhllnepnpmegaa
