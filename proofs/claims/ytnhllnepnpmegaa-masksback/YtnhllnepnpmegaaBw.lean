/- MasksBack: the walk. -/
import Derived.Test.YtnhllnepnpmegaaBk
namespace Go.Proofs.Ytnhllnepnpmegaa
open Go.ChangeShapes Go.WideShapes Go.ChangeAt Go.RowKit Go.Shelf Go.Proofs.Rx Go.Maps Go.Proofs.Bt
set_option linter.unusedVariables false
set_option linter.unusedSimpArgs false

attribute [local go_sem] Oper.semAt_some

theorem list_append_want {P : Program} {w w' : World} {ops : Array Oper} {rest : List Oper} {o : Oper} {a : Act} {Q : Exit → Act → World → Prop} (hw : Region.wanted o (yielded ops a.tmps) = true) (s x : Operand) (t : TypeId)
    (ho : o.op = .call { callee := .builtin .append, args := #[s, x], argTypes := #[t, t] }) {v u v' : Value} (hs : a.eval s = v) (hx : a.eval x = u) (hr : (Builtin.append_ #[t, t] o.type #[v, u]).run P w = .ok v' w') (h : wpList P ops Q rest (a.put o.dst v') w') : wpList P ops Q (o :: rest) a w :=
  BigFrame.wpList_want hw fun _ hK => wp_append_run s x t ho hs hx hr (hK _ _ h)
/-- The law's own things: the masks, the list of one, its type. -/
def bkL (m ob tb : Nat) (f : Nat → Bool) : List Thing := [tMk m f, tVb ob 1 oneX, tBk tb 34 #[.int .i64 1, .slice (some ⟨ob, 0, none⟩) 1 1]]
section
variable {N : Nat} {w W : World} {m ob tb : Nat} {f : Nat → Bool}
theorem bk_cells (h : Sep N w W (bkL m ob tb f)) : W.cell? ⟨tb, 0, none⟩ = some (.int .i64 1) ∧ W.cell? ⟨tb, 1, none⟩ = some (.slice (some ⟨ob, 0, none⟩) 1 1) := by
  obtain ⟨F, hF⟩ := h.have 2 (show 2 < 3 by decide)
  exact ⟨hF.1.cell 0 _ rfl, hF.1.cell 1 _ rfl⟩
theorem bk_one (h : Sep N w W (bkL m ob tb f)) (a b n : Nat) (ha : a < 18446744073709551616) (hb : b < 18446744073709551616) (hn : n < 18446744073709551616) (he : writeE a b 1 1 n = 0) :
    Calls Try.prog 11 #[.pointer (some ⟨m, 0, none⟩), .int .u64 (a : Nat), .int .u64 (b : Nat), .agg #[.int .i64 1, .slice (some ⟨ob, 0, none⟩) 1 1], .int .u64 (n : Nat)] W fun e W' => e = .returned (.int .i64 0) ∧ Sep N w W' (bkL m ob tb (writeF f a b 1 1 n oneX)) := by
  obtain ⟨F, hF⟩ := h.have 1 (show 1 < 3 by decide)
  have C := h.write 0 (Nat.zero_lt_succ _) rfl a b n ha hb hn 1 (by decide) (by decide) (len := 1) (by decide) (bools_vec hF.1)
  rw [he] at C
  exact C
end
set_option maxRecDepth 100000 in
set_option maxHeartbeats 4000000 in
theorem back_any {w : World} {o : Option Addr} {len cap : Nat} {X : Nat → Bool} (hX : BoolsAt w o len cap X) (hlen : len ≤ maxLen) (a1 a2 a3 : Int) (w1 : (Lit.int .u64 a1).wf = true) (w2 : (Lit.int .u64 a2).wf = true) (w3 : (Lit.int .u64 a3).wf = true) :
    Calls Try.prog 4 #[.slice o len cap, .int .u64 a1, .int .u64 a2, .int .u64 a3] w fun e w' => e = .returned (.bool true) ∧ Below w.heap.size w w' := by
  obtain ⟨R, hR⟩ : ∃ R : Ending → World → Prop, R = fun e w' => e = .returned (.bool true) ∧ Below w.heap.size w w' := ⟨_, rfl⟩
  rw [← hR]
  have b1 := bounds_u64 w1
  have b2 := bounds_u64 w2
  have b3 := bounds_u64 w3
  have hl0 : len ≤ 9223372036854775807 := by unfold maxLen at hlen; omega
  have DONE := hide (show ∀ w', Below w.heap.size w w' → R (.returned (.bool true)) w' from fun w' h => by rw [hR]; exact ⟨rfl, h⟩)
  clear hR
  obtain ⟨LN, hLN⟩ : ∃ L : Int, (len : Int) = L := ⟨_, rfl⟩
  have l0 : 0 ≤ LN := by omega
  have l9 : LN ≤ 9223372036854775807 := by omega
  have FF := hide (DONE.out w (Below.refl _ _))
  by_cases c1 : len < 1
  · have d1 : decide (LN < 1) = true := decide_eq_true (by omega)
    clear hX hlen w1 w2 w3 DONE hl0 c1
    go_enter Try.func4, Try.ntmps4
    go_wp2_with fail
    first | exact FF.out | (go_ret; exact FF.out)
  have d1 : decide (LN < 1) = false := decide_eq_false (by omega)
  by_cases c2 : 100 < len
  · have d2 : decide (100 < LN) = true := decide_eq_true (by omega)
    clear hX hlen w1 w2 w3 DONE hl0 c1 c2
    go_enter Try.func4, Try.ntmps4
    go_wp2_with fail
    first | exact FF.out | (go_ret; exact FF.out)
  have d2 : decide (100 < LN) = false := decide_eq_false (by omega)
  by_cases c3 : 100 < a1
  · have d3 : decide (100 < a1) = true := decide_eq_true c3
    clear hX hlen w1 w2 w3 DONE hl0 c1 c2 c3
    go_enter Try.func4, Try.ntmps4
    go_wp2_with fail
    first | exact FF.out | (go_ret; exact FF.out)
  have d3 : decide (100 < a1) = false := decide_eq_false c3
  by_cases c4 : 50 < a2
  · have d4 : decide (50 < a2) = true := decide_eq_true c4
    clear hX hlen w1 w2 w3 DONE hl0 c1 c2 c3 c4
    go_enter Try.func4, Try.ntmps4
    go_wp2_with fail
    first | exact FF.out | (go_ret; exact FF.out)
  have d4 : decide (50 < a2) = false := decide_eq_false c4
  by_cases c5 : 1073741824 < a3
  · have d5 : decide (1073741824 < a3) = true := decide_eq_true c5
    clear hX hlen w1 w2 w3 DONE hl0 c1 c2 c3 c4 c5
    go_enter Try.func4, Try.ntmps4
    go_wp2_with fail
    first | exact FF.out | (go_ret; exact FF.out)
  have d5 : decide (1073741824 < a3) = false := decide_eq_false c5
  obtain ⟨n, rfl⟩ : ∃ n : Nat, a1 = n := ⟨a1.toNat, by omega⟩
  obtain ⟨sp, rfl⟩ : ∃ n : Nat, a2 = n := ⟨a2.toNat, by omega⟩
  obtain ⟨at_, rfl⟩ : ∃ n : Nat, a3 = n := ⟨a3.toNat, by omega⟩
  have h1 : 1 ≤ len := by omega
  have h2 : len ≤ 100 := by omega
  have h3 : n ≤ 100 := by omega
  have h5 : at_ ≤ 1073741824 := by omega
  have h6 : len * n ≤ 10000 := Nat.mul_le_mul h2 h3
  obtain ⟨nw, hnw⟩ : ∃ nw, nw = len * n + sp + 1 := ⟨_, rfl⟩
  have h7 : nw ≤ 100000 := by omega
  have h8 : 1 ≤ nw := by omega
  have h9 : len * n < nw := by omega
  obtain ⟨N, hN⟩ : ∃ N : Int, (n : Int) = N := ⟨_, rfl⟩
  obtain ⟨SP, hSP⟩ : ∃ N : Int, (sp : Int) = N := ⟨_, rfl⟩
  obtain ⟨AT, hAT⟩ : ∃ N : Int, (at_ : Int) = N := ⟨_, rfl⟩
  obtain ⟨AD, hAD⟩ : ∃ V : Int, 8 * (AT + 10) = V := ⟨_, rfl⟩
  obtain ⟨BY, hBY⟩ : ∃ V : Int, 8 * (LN * N + SP + 1) = V := ⟨_, rfl⟩
  have eLN : ((len * n : Nat) : Int) = LN * N := by rw [Int.natCast_mul, hLN, hN]
  have eBY : ((8 * nw : Nat) : Int) = BY := by rw [← hBY, ← eLN, ← hSP, hnw]; omega
  have eAD : ((8 * (at_ + 10) : Nat) : Int) = AD := by rw [← hAD, ← hAT]; omega
  have eA0 : ((8 * at_ : Nat) : Int) = AD - 80 := by rw [← hAD, ← hAT]; omega
  have eA1 : ((8 * (at_ + 10 + nw) : Nat) : Int) = AD + BY := by rw [← eAD, ← eBY]; omega
  have eNW : (nw : Int) = BY / 8 := by rw [← eBY]; omega
  have eBR : ((8 * nw + 160 : Nat) : Int) = BY + 160 := by rw [← eBY]; omega
  -- the calls
  have S0 := hide ((Sep.start w).new)
  have T0 := hide (show ∀ (m : Nat) (W1 : World), Sep w.heap.size w W1 [tMk m (fun _ => false)] → Sep w.heap.size w ((W1.alloc (.cells #[.bool true] 4)).alloc (.cells #[.int .i64 1, .slice (some ⟨W1.heap.size, 0, none⟩) 1 1] 34)) (bkL m W1.heap.size (W1.heap.size + 1) (fun _ => false)) from fun m W1 hs => by
    have e : (W1.alloc (.cells #[.bool true] 4)).heap.size = W1.heap.size + 1 := by simp
    have v : Vec (W1.alloc (.cells #[.bool true] 4)) W1.heap.size 1 4 (fun k => .bool (oneX k)) := ⟨_, World.alloc_heap_new W1 _, rfl, fun k hk => by
      obtain rfl : k = 0 := by omega
      rfl⟩
    have s1 := hs.more (below_alloc W1 _) (tVb W1.heap.size 1 oneX) (F' := fun z => z = W1.heap.size) ⟨v, fun z => Iff.rfl⟩ (fun z hz => by rw [hz]; exact Nat.le_refl _)
    have s2 := s1.more (below_alloc _ (.cells #[.int .i64 1, .slice (some ⟨W1.heap.size, 0, none⟩) 1 1] 34)) (tBk (W1.heap.size + 1) 34 #[.int .i64 1, .slice (some ⟨W1.heap.size, 0, none⟩) 1 1]) (F' := fun z => z = W1.heap.size + 1) ⟨by rw [← e]; exact World.alloc_heap_new _ _, fun z => Iff.rfl⟩ (fun z hz => by rw [hz, e]; exact Nat.le_refl _)
    exact s2)
  have C1 := hide (show ∀ (m ob tb : Nat) (W1 : World), Sep w.heap.size w W1 (bkL m ob tb (fun _ => false)) → Calls Try.prog 11 #[.pointer (some ⟨m, 0, none⟩), .int .u64 (AD - 80), .int .u64 80, .agg #[.int .i64 1, .slice (some ⟨ob, 0, none⟩) 1 1], .int .u64 10] W1 fun e W' => e = .returned (.int .i64 0) ∧ Sep w.heap.size w W' (bkL m ob tb (bk1 at_)) from fun m ob tb W1 hs => by
    have C := bk_one hs (8 * at_) 80 10 (by omega) (by decide) (by decide) (bk_e1 h5)
    rw [eA0] at C
    exact C)
  have C2 := hide (show ∀ (m ob tb : Nat) (W1 : World), Sep w.heap.size w W1 (bkL m ob tb (bk1 at_)) → Calls Try.prog 11 #[.pointer (some ⟨m, 0, none⟩), .int .u64 (AD + BY), .int .u64 80, .agg #[.int .i64 1, .slice (some ⟨ob, 0, none⟩) 1 1], .int .u64 10] W1 fun e W' => e = .returned (.int .i64 0) ∧ Sep w.heap.size w W' (bkL m ob tb (bk2 at_ nw)) from fun m ob tb W1 hs => by
    have C := bk_one hs (8 * (at_ + 10 + nw)) 80 10 (by omega) (by decide) (by decide) (bk_e2 h5 h7)
    rw [eA1] at C
    exact C)
  have C3 := hide (show ∀ (m ob tb : Nat) (W1 : World), Sep w.heap.size w W1 (bkL m ob tb (bk2 at_ nw)) → Calls Try.prog 11 #[.pointer (some ⟨m, 0, none⟩), .int .u64 AD, .int .u64 BY, .agg #[.int .i64 1, .slice (some ⟨ob, 0, none⟩) 1 1], .int .u64 (BY / 8)] W1 fun e W' => e = .returned (.int .i64 0) ∧ Sep w.heap.size w W' (bkL m ob tb (bk3 at_ nw)) from fun m ob tb W1 hs => by
    have C := bk_one hs (8 * (at_ + 10)) (8 * nw) nw (by omega) (by omega) (by omega) (bk_e3 h5 h7 h8)
    rw [eAD, eBY, eNW] at C
    exact C)
  have CP := hide (show ∀ (W1 : World), Below w.heap.size w W1 → ∃ g cap' W2, (Builtin.append_ #[32, 32] 32 #[.slice (some ⟨W1.heap.size, 0, none⟩) 0 0, .slice o len cap]).run Try.prog (W1.alloc (.cells #[] 4)) = .ok (.slice (some ⟨g, 0, none⟩) len cap') W2 ∧ BoolsAt W2 (some ⟨g, 0, none⟩) len cap' X ∧ Below W1.heap.size W1 W2 from fun W1 hb => by
    obtain ⟨g, cap', W2, r, ow, bl, _, _⟩ := copy_bools (BoolsAt.below hX hb) h1 (by omega)
    exact ⟨g, cap', W2, r, row_bools ow, bl⟩)
  have C4 := hide (show ∀ (m ob tb : Nat) (W1 W2 : World) (g cap' : Nat), Sep w.heap.size w W1 (bkL m ob tb (bk3 at_ nw)) → Below W1.heap.size W1 W2 → BoolsAt W2 (some ⟨g, 0, none⟩) len cap' X → Calls Try.prog 11 #[.pointer (some ⟨m, 0, none⟩), .int .u64 AD, .int .u64 BY, .agg #[.int .i64 LN, .slice (some ⟨g, 0, none⟩) len cap'], .int .u64 N] W2 fun e W' => e = .returned (.int .i64 0) ∧ Sep w.heap.size w W' (bkL m ob tb (bk4 at_ nw len n X)) from fun m ob tb W1 W2 g cap' hs hb hx => by
    have C := (hs.read hb).write 0 (Nat.zero_lt_succ _) rfl (8 * (at_ + 10)) (8 * nw) n (by omega) (by omega) (by omega) LN (by omega) (by omega) hl0 hx
    rw [eAD, eBY, hN, ← hLN, bk_e4 h5 h7 h1 h2 h9] at C
    rw [← hLN]
    exact C)
  have G := hide (fun i hi => bk_G (X := X) h5 h7 h1 h2 h9 i hi)
  have C5 := hide (show ∀ (m ob tb : Nat) (W1 : World), Sep w.heap.size w W1 (bkL m ob tb (bk4 at_ nw len n X)) → Calls Try.prog 12 #[.pointer (some ⟨m, 0, none⟩), .int .u64 (AD - 80), .int .u64 (BY + 160)] W1 fun e W' => ∃ U, e = .returned (.tuple #[.slice (some ⟨U, 0, none⟩) (nw + 20) (nw + 20), .int .i64 0]) ∧ Vec W' U (nw + 20) 4 (fun k => .bool (bk4 at_ nw len n X (at_ + k))) ∧ Sep w.heap.size w W' (bkL m ob tb (bk4 at_ nw len n X)) from fun m ob tb W1 hs => by
    have r : Right (8 * at_) (8 * nw + 160) := ⟨by omega, by omega, by omega, by omega, by omega⟩
    have C := hs.rd_ok 0 (Nat.zero_lt_succ _) rfl (8 * at_) (8 * nw + 160) (by omega) (by omega) (by unfold readE; rw [if_pos r, if_neg (by omega)])
    rw [eA0, eBR, show (8 * nw + 160) / 8 = nw + 20 by omega, show 8 * at_ / 8 = at_ by omega] at C
    exact C.mono fun _ _ ⟨U, a, b, c, d⟩ => ⟨U, a, b, hs.read c⟩)
  have C6 := hide (show ∀ (m ob tb : Nat) (W1 : World), Sep w.heap.size w W1 (bkL m ob tb (bk4 at_ nw len n X)) → Calls Try.prog 13 #[.pointer (some ⟨m, 0, none⟩), .int .u64 (AD - 80), .int .u64 (BY + 160)] W1 fun e W' => e = .returned (.tuple #[.int .u64 (cnt (bkG nw len n X) 0 (nw + 20) : Nat), .int .i64 0]) ∧ Below w.heap.size w W' from fun m ob tb W1 hs => by
    have r : Right (8 * at_) (8 * nw + 160) := ⟨by omega, by omega, by omega, by omega, by omega⟩
    have C := hs.points 0 (Nat.zero_lt_succ _) rfl (8 * at_) (8 * nw + 160) (by omega) (by omega)
    have e1 : clearE (8 * at_) (8 * nw + 160) = 0 := by unfold clearE; rw [if_pos r]
    have e2 : pointsV (bk4 at_ nw len n X) (8 * at_) (8 * nw + 160) = cnt (bkG nw len n X) 0 (nw + 20) := by
      unfold pointsV
      rw [if_pos r, show (8 * nw + 160) / 8 = nw + 20 by omega, show 8 * at_ / 8 = at_ by omega]
      exact cnt_congr fun k hk => by rw [G.out k hk, Nat.zero_add]
    rw [eA0, eBR, e1, e2] at C
    exact C.mono fun _ _ ⟨a, b, c⟩ => ⟨a, c.be⟩)
  have AW := hide (show ∀ W1, Below w.heap.size w W1 → Calls Try.prog 10 #[] W1 fun e W' => e = .returned (.bool true) ∧ R e W' from fun W1 hb => (awake15 W1).mono fun e W' ⟨he, hb2⟩ => ⟨he, by rw [he]; exact DONE.out W' (hb.trans (hb2.mono hb.size))⟩)
  have XC := hide (show ∀ W1 i, Below w.heap.size w W1 → i < len → ∃ b0 f0, o = some ⟨b0, f0, none⟩ ∧ W1.cell? ⟨b0, f0 + i, none⟩ = some (.bool (X i)) from fun W1 i hb hi => by
    obtain ⟨b0, f0, e, hb0, hc0⟩ := hX.at hi
    exact ⟨b0, f0, e, (hb.cell (p := ⟨b0, f0 + i, none⟩) hb0).trans (hc0 i hi)⟩)
  have CNT := hide (show ∀ i, cnt (bkG nw len n X) 0 i ≤ i from fun i => cnt_le _ _ _)
  have m0 : 0 ≤ LN * N := by omega
  have m1 : LN * N ≤ 10000 := by omega
  have n0 : 0 ≤ N := by omega
  have n1 : N ≤ 100 := by omega
  have s0 : 0 ≤ SP := by omega
  have s1 : SP ≤ 50 := by omega
  have t0 : 0 ≤ AT := by omega
  have t1 : AT ≤ 1073741824 := by omega
  have x1 : LN ≤ 100 := by omega
  have y0 : 0 ≤ BY / 8 := by omega
  have y1 : BY / 8 ≤ 10051 := by omega
  have y2 : 0 ≤ BY := by omega
  have y3 : BY ≤ 80408 := by omega
  have y4 : 80 ≤ AD := by omega
  have y5 : AD ≤ 8589934672 := by omega
  have z1 : (((nw + 20 : Nat) : Int) != BY / 8 + 20) = false := by rw [bne_eq_false_iff_eq]; omega
  have HI := hide (And.intro hLN (And.intro eLN (And.intro eNW (And.intro h9 (And.intro h1 h8)))))
  have HB := hide hBY
  have HA := hide hAD
  rw [hN] at d3
  rw [hSP] at d4
  rw [hAT] at d5
  rw [hN, hSP, hAT]
  clear hX hlen w1 w2 w3 b1 b2 b3 hl0 c1 c2 c3 c4 c5 h1 h2 h3 h5 h6 h7 h8 h9 hnw hN hSP hAT hAD hBY eLN eBY eAD eA0 eA1 eNW eBR FF l9 DONE
  go_enter Try.func4, Try.ntmps4
  go_wp2_with fail
  refine S0.out.mono ?_
  rintro e W1 ⟨m, rfl, sp1⟩
  have S1 := hide (T0.out m W1 sp1)
  clear sp1 T0 S0
  go_upto_region 10 with fail
  rw [HB.out, HA.out]
  obtain ⟨ob, hob⟩ : ∃ ob, W1.heap.size = ob := ⟨_, rfl⟩
  rw [hob] at S1 ⊢
  obtain ⟨tb, htb⟩ : ∃ tb, ob + 1 = tb := ⟨_, rfl⟩
  rw [htb] at S1 ⊢
  obtain ⟨W2, hW2⟩ : ∃ W2, (W1.alloc (.cells #[.bool true] 4)).alloc (.cells #[.int .i64 1, .slice (some ⟨ob, 0, none⟩) 1 1] 34) = W2 := ⟨_, rfl⟩
  rw [hW2] at S1 ⊢
  clear hob htb hW2
  obtain ⟨u0, u1⟩ := bk_cells S1.out
  have D1 := hide (C1.out m ob tb W2 S1.out)
  clear S1 C1
  go_wp2_with fail
  refine D1.out.mono ?_
  rintro e W3 ⟨rfl, s3⟩
  have D2 := hide (C2.out m ob tb W3 s3)
  obtain ⟨v0, v1⟩ := bk_cells s3
  clear s3 D1 C2 u0 u1
  go_wp2_with fail
  refine D2.out.mono ?_
  rintro e W4 ⟨rfl, s4⟩
  have D3 := hide (C3.out m ob tb W4 s4)
  obtain ⟨u0, u1⟩ := bk_cells s4
  clear s4 D2 C3 v0 v1
  go_wp2_with fail
  refine D3.out.mono ?_
  rintro e W5 ⟨rfl, s5⟩
  obtain ⟨g, cap', W6, r2, x2, b2⟩ := CP.out W5 s5.be
  have D4 := hide (C4.out m ob tb W5 W6 g cap' s5 b2 x2)
  have R2 := hide r2
  clear s5 r2 x2 b2 D3 C4 CP u0 u1
  go_wp2_with (first | (at_builtin; go_loud (refine list_append_want (by first | rfl | kernel_rfl) (.tmp 88) (.tmp 89) 32 rfl rfl rfl R2.out ?_)))
  refine D4.out.mono ?_
  rintro e W7 ⟨rfl, s7⟩
  obtain ⟨L2, hL2⟩ : ∃ L, nw + 20 = L := ⟨_, rfl⟩
  have HL2 := hide hL2
  simp only [hL2] at C5 C6 z1
  have D5 := hide (C5.out m ob tb W7 s7)
  have lz := HI.out.2.2.1
  have L2a : (L2 : Int) ≤ 10071 := by omega
  have L2b : (0 : Int) ≤ (L2 : Int) := by omega
  clear s7 D4 C5 hL2 lz R2
  go_wp2_with fail
  refine D5.out.mono ?_
  rintro e W8 ⟨U, rfl, v8, s8⟩
  have D6 := hide (C6.out m ob tb W8 s8)
  have BE := hide s8.be
  have V8 := hide v8
  clear s8 v8 D5 C6
  go_wp2_with fail
  go_loopw [16, 17, 18] (fun vk vi _ wr => ∃ i : Nat, vi = .int .u64 (i : Nat) ∧ vk = .int .u64 (cnt (bkG nw len n X) 0 i : Nat) ∧ i ≤ L2 ∧ Hid (wr = W8)) (fun _ vi _ _ => L2 - (zi vi).toNat)
  case atStart => exact ⟨0, rfl, rfl, Nat.zero_le _, hide (by first | rfl | trivial)⟩
  case round =>
    obtain ⟨i, rfl, rfl, hi, HJ⟩ := hrel
    have hj := HJ.out
    subst hj
    clear HJ
    have kb := CNT.out i
    obtain ⟨K, hK⟩ : ∃ C : Int, ((cnt (bkG nw len n X) 0 i : Nat) : Int) = C := ⟨_, rfl⟩
    have HK := hide hK
    have k0 : 0 ≤ K := by omega
    have k1 : K ≤ 10071 := by omega
    rw [hK]
    clear hK kb
    have i0 : (0 : Int) ≤ (i : Int) := by omega
    have i1 : (i : Int) ≤ 10071 := by omega
    by_cases c : i < L2
    · have d : decide ((i : Int) < (L2 : Int)) = true := decide_eq_true (by omega)
      have HX : cnt (bkG nw len n X) 0 (i + 1) = cnt (bkG nw len n X) 0 i + (bkG nw len n X i).toNat := by rw [cnt, Nat.zero_add]
      have cV := V8.out.cell i c
      rw [G.out i (by have := HL2.out; omega)] at cV
      by_cases c1 : i < 10
      · have dA : decide (10 ≤ (i : Int)) = false := decide_eq_false (by omega)
        rw [show bkG nw len n X i = true from by unfold bkG; rw [if_neg (by omega)]] at cV HX
        have HX2 := hide (show ((cnt (bkG nw len n X) 0 (i + 1) : Nat) : Int) = K + 1 by rw [HX, Int.natCast_add, HK.out]; rfl)
        clear HX c1
        go_wp2_with fail
        exact ⟨⟨i + 1, by rw [Int.natCast_add]; rfl, by rw [HX2.out], by omega, hide (by first | rfl | trivial)⟩, by simp [zi]; omega⟩
      · have dA : decide (10 ≤ (i : Int)) = true := decide_eq_true (by omega)
        by_cases c2 : i < 10 + nw
        · have dB : decide ((i : Int) < 10 + BY / 8) = true := decide_eq_true (by have := HI.out.2.2.1; omega)
          have i2 : (10 : Int) ≤ (i : Int) := by omega
          by_cases c3 : i - 10 < len * n
          · have dC : decide ((i : Int) - 10 < LN * N) = true := decide_eq_true (by have := HI.out.2.1; omega)
            have hq : (i - 10) % len < len := Nat.mod_lt _ (by have := HI.out; omega)
            have tq : ((i : Int) - 10) % LN = (((i - 10) % len : Nat) : Int) := by rw [← HI.out.1, Int.natCast_emod, Int.natCast_sub (by omega)]; rfl
            have tm : ((i : Int) - 10).tmod LN = (((i - 10) % len : Nat) : Int) := by rw [Int.tmod_eq_emod_of_nonneg (by omega), tq]
            have gx : bkG nw len n X i = X ((i - 10) % len) := by unfold bkG; rw [if_pos (by omega), decide_eq_true c3, Bool.true_and]
            obtain ⟨b0, f0, rfl, c0⟩ := XC.out wr _ BE.out hq
            generalize (i - 10) % len = q at *
            have ql : (q : Int) < (len : Int) := by omega
            have q0 : (0 : Int) ≤ (q : Int) := by omega
            have nz : (LN = 0) = False := by simp; have := HI.out; omega
            by_cases x : X q = true
            · rw [x] at c0
              rw [show bkG nw len n X i = true from by rw [gx, x]] at cV HX
              have HX2 := hide (show ((cnt (bkG nw len n X) 0 (i + 1) : Nat) : Int) = K + 1 by rw [HX, Int.natCast_add, HK.out]; rfl)
              clear HX c1 c2 c3 gx x
              go_wp2_with fail
              exact ⟨⟨i + 1, by rw [Int.natCast_add]; rfl, by rw [HX2.out], by omega, hide (by first | rfl | trivial)⟩, by simp [zi]; omega⟩
            · have x' : X q = false := by simpa using x
              rw [x'] at c0
              rw [show bkG nw len n X i = false from by rw [gx, x']] at cV HX
              have HX2 := hide (show ((cnt (bkG nw len n X) 0 (i + 1) : Nat) : Int) = K by rw [HX, Int.natCast_add, HK.out]; simp)
              clear HX c1 c2 c3 gx x x'
              go_wp2_with fail
              exact ⟨⟨i + 1, by rw [Int.natCast_add]; rfl, by rw [HX2.out], by omega, hide (by first | rfl | trivial)⟩, by simp [zi]; omega⟩
          · have dC : decide ((i : Int) - 10 < LN * N) = false := decide_eq_false (by have := HI.out.2.1; omega)
            rw [show bkG nw len n X i = false from by unfold bkG; rw [if_pos (by omega), decide_eq_false c3, Bool.false_and]] at cV HX
            have HX2 := hide (show ((cnt (bkG nw len n X) 0 (i + 1) : Nat) : Int) = K by rw [HX, Int.natCast_add, HK.out]; simp)
            clear HX c1 c2 c3
            go_wp2_with fail
            exact ⟨⟨i + 1, by rw [Int.natCast_add]; rfl, by rw [HX2.out], by omega, hide (by first | rfl | trivial)⟩, by simp [zi]; omega⟩
        · have dB : decide ((i : Int) < 10 + BY / 8) = false := decide_eq_false (by have := HI.out.2.2.1; omega)
          rw [show bkG nw len n X i = true from by unfold bkG; rw [if_neg (by omega)]] at cV HX
          have HX2 := hide (show ((cnt (bkG nw len n X) 0 (i + 1) : Nat) : Int) = K + 1 by rw [HX, Int.natCast_add, HK.out]; rfl)
          clear HX c1 c2
          go_wp2_with fail
          exact ⟨⟨i + 1, by rw [Int.natCast_add]; rfl, by rw [HX2.out], by omega, hide (by first | rfl | trivial)⟩, by simp [zi]; omega⟩
    · have d : decide ((i : Int) < (L2 : Int)) = false := decide_eq_false (by omega)
      obtain rfl : i = L2 := by omega
      have D7 := D6.out
      rw [HK.out] at D7
      have D6' := hide D7
      clear D7 D6 c hi V8
      go_wp2_with fail
      refine D6'.out.mono ?_
      rintro e W9 ⟨rfl, b9⟩
      have AA := hide (AW.out W9 b9)
      clear b9 D6'
      go_wp2_with fail
      refine AA.out.mono ?_
      rintro e Wz ⟨rfl, r9⟩
      have R9 := hide r9
      clear r9 AA
      go_wp2_with fail
      first | exact R9.out | (go_ret; exact R9.out)
end Go.Proofs.Ytnhllnepnpmegaa
