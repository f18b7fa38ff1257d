/- Words of slots: clearFrom, less: contracts. -/
import Derived.Test.YtblfefibgoiaaaaDoorGb
namespace Go.Proofs.YtblfefibgoiaaaaDoor
open Go.ChangeShapes Go.WideShapes Go.ChangeAt Go.RowKit Go.Proofs.Sn Go.Shelf
set_option linter.unusedVariables false
set_option linter.unusedSimpArgs false

attribute [local go_sem] Oper.semAt_some

def zi : Value → Int
  | .int _ x => x
  | _ => 0
section
variable {N : Nat} {W W' : World} {v : Value} {ws : List Nat}
theorem inv_xor (x : Nat) (hx : x < 18446744073709551616) : bits .xor .u64 IntKind.u64.max (x : Int) = ((Bt.inv x : Nat) : Int) := by
  rw [show IntKind.u64.max = ((18446744073709551615 : Nat) : Int) by decide, u64_xor_nat _ _ (by decide) hx]
  congr 1
  refine Nat.eq_of_testBit_eq fun k => ?_
  rcases Nat.lt_or_ge k 64 with hk | hk
  · rw [Nat.testBit_xor, Bt.inv_bit hx hk, show (18446744073709551615 : Nat) = 2 ^ 64 - 1 by decide, Nat.testBit_two_pow_sub_one, decide_eq_true hk]
    cases x.testBit k <;> rfl
  · rw [Nat.testBit_xor, Bt.bit_high hx hk, Bt.bit_high (by decide) hk, Bt.bit_high (Bt.inv_lt _) hk]; rfl
theorem inv_int (x r y : Nat) (hx : x < 18446744073709551616) (hy : Bt.inv x / 2 ^ r = y) : bits .xor .u64 IntKind.u64.max (x : Int) / 2 ^ r = (y : Int) := by
  rw [inv_xor x hx, ← hy]
  simp
set_option maxRecDepth 100000 in
theorem clear_any (h : Wr N W v ws) (hL : ws.length ≤ 100000) (hT : TabW W) (i : Nat) (hi : i ≤ 6400000) :
    Calls Tryd.prog 47 #[v, .int .i64 (i : Nat)] W fun e W' => (∃ k : Nat, e = .returned (.int .i64 (k : Nat)) ∧ First (wb ws) i k ∧ k ≤ 12800000) ∧ W' = W := by
  obtain ⟨R, hR⟩ : ∃ R : Ending → World → Prop, R = fun e W' => (∃ k : Nat, e = .returned (.int .i64 (k : Nat)) ∧ First (wb ws) i k ∧ k ≤ 12800000) ∧ W' = W := ⟨_, rfl⟩
  rw [← hR]
  have FI := hide (show ∀ k : Nat, First (wb ws) i k → k ≤ 12800000 → R (.returned (.int .i64 (k : Nat))) W from fun k h1 h2 => by rw [hR]; exact ⟨⟨k, rfl, h1, h2⟩, rfl⟩)
  clear hR
  obtain ⟨m, hm⟩ : ∃ m : Nat, ws.length = m := ⟨_, rfl⟩
  obtain ⟨o, cap, rfl⟩ := row_form h.row
  have H := hide h
  have HT := hide hT
  have HM := hide hm
  rw [hm] at hL ⊢
  clear h hT hm
  have HI := hide hi
  go_enter Tryd.func47, Tryd.ntmps47
  go_wp2_with fail
  go_loopw [1] (fun vi wr => ∃ j : Nat, vi = .int .i64 (j : Nat) ∧ Hid (i ≤ j ∧ (∀ p, i ≤ p → p < j → wb ws p = true) ∧ j ≤ 6400064) ∧ wr = W) (fun vi _ => 6400128 - (zi vi).toNat)
  case atStart => exact ⟨i, rfl, hide ⟨Nat.le_refl _, fun p h1 h2 => by omega, by omega⟩, rfl⟩
  case round =>
    obtain ⟨k, rfl, HJ, hw⟩ := hrel
    have hk9 := HJ.out.2.2
    obtain ⟨q, hq⟩ : ∃ q : Nat, k / 64 = q := ⟨_, rfl⟩
    obtain ⟨r, hr⟩ : ∃ r : Nat, k % 64 = r := ⟨_, rfl⟩
    have t1 : (k : Int).tdiv 64 = (q : Int) := by rw [Int.tdiv_eq_ediv_of_nonneg (by omega)]; omega
    have t2 : (k : Int).tmod 64 = (r : Int) := by rw [Int.tmod_eq_emod_of_nonneg (by omega)]; omega
    have t3 : (k : Int) / 64 = (q : Int) := by omega
    have t4 : (k : Int) % 64 = (r : Int) := by omega
    have t5 : IntKind.i64.wrap (q : Int) = (q : Int) := by rw [IntKind.wrap_i64]; omega
    have t6 : IntKind.i64.wrap (r : Int) = (r : Int) := by rw [IntKind.wrap_i64]; omega
    have r64 : r < 64 := by omega
    have t7 : IntKind.i64.wrap (64 - (r : Int)) = 64 - (r : Int) := by rw [IntKind.wrap_i64]; omega
    have t8 : IntKind.i64.wrap ((k : Int) + (64 - (r : Int))) = (k : Int) + (64 - (r : Int)) := by rw [IntKind.wrap_i64]; omega
    have HQ := hide (And.intro hq hr)
    rw [hw]
    clear hq hr hw hk9 hi
    by_cases c : q < m
    · have d : decide ((q : Int) < (m : Int)) = true := decide_eq_true (by omega)
      have hx : ws[k / 64]? = some (ws[k / 64]'(by rw [HQ.out.1, HM.out]; exact c)) := List.getElem?_eq_getElem _
      generalize ws[k / 64]'(by rw [HQ.out.1, HM.out]; exact c) = x at hx
      have HX := hide hx
      have sx := H.out.sm.at hx
      have SX := hide sx
      obtain ⟨g, cap', e', x1, x2⟩ := H.out.cellAt hx
      obtain ⟨rfl, rfl⟩ : o = some ⟨g, 0, none⟩ ∧ cap = cap' := by simp at e'; exact e'
      rw [HQ.out.1] at x1 x2
      obtain ⟨y9, hy9⟩ : ∃ y9, Bt.inv x / 2 ^ r = y9 := ⟨_, rfl⟩
      have iv := inv_int x r y9 sx hy9
      have q0 : (0 : Int) ≤ (q : Int) := by omega
      have q1 : (q : Int) < (m : Int) := by omega
      clear hx sx e'
      by_cases z : y9 = 0
      · have Z := hide (hy9.trans z)
        have iv0 : bits .xor .u64 IntKind.u64.max (x : Int) / 2 ^ r = 0 := by rw [iv, z]; rfl
        have iv1 : (bits .xor .u64 (if IntKind.u64.signed = true then -1 else IntKind.u64.max) (x : Int) / 2 ^ r != 0) = false := by
          rw [if_neg (by decide), iv0]; rfl
        clear z hy9 iv
        go_wp2_with fail
        refine ⟨⟨k + (64 - r), by push_cast [Nat.le_of_lt r64]; rfl, hide ⟨?_, ?_, ?_⟩, trivial⟩, ?_⟩
        · have := HJ.out.1; omega
        · intro p h1 h2
          by_cases y : p < k
          · exact HJ.out.2.1 p h1 y
          · exact word_none HX.out SX.out (by rw [HQ.out.2]; exact Z.out) p (by omega) (by rw [HQ.out.2]; omega)
        · obtain ⟨h1, h2⟩ := HQ.out; clear t5 t6 t7 t8; omega
        · simp only [zi]; have := HJ.out.2.2; omega
      · obtain ⟨w1, w2⟩ := word_some HX.out SX.out (by rw [HQ.out.2, hy9]; exact z)
        have CT := hide (tz_any y9 z (by rw [← hy9]; exact Nat.lt_of_le_of_lt (Nat.div_le_self _ _) (Bt.inv_lt _)) W HT.out)
        rw [HQ.out.2, hy9] at w1 w2
        have F1 := FI.out _ ⟨Nat.le_trans HJ.out.1 w1.1, w1.2.1, fun p h1 h2 => by
          by_cases y : p < k
          · exact HJ.out.2.1 p h1 y
          · exact w1.2.2 p (by omega) h2⟩ (by have := HJ.out.2.2; omega)
        rw [Int.natCast_add] at F1
        have FF := hide F1
        have zz : ((y9 : Int) == 0) = false := by simp; exact z
        have zn : ((y9 : Int) != 0) = true := by simp; exact z
        generalize Lib.ctz 64 y9 = c9 at *
        have t9 : IntKind.i64.wrap ((k : Int) + (c9 : Int)) = (k : Int) + (c9 : Int) := by rw [IntKind.wrap_i64]; have := HJ.out.2.2; omega
        have iv1 : (bits .xor .u64 (if IntKind.u64.signed = true then -1 else IntKind.u64.max) (x : Int) / 2 ^ r != 0) = true := by
          rw [if_neg (by decide), iv]; exact zn
        clear z w1 w2 F1 hy9
        go_wp2_with fail
        refine CT.out.mono ?_
        rintro e W5 ⟨rfl, hw⟩
        rw [hw]
        clear hw CT
        go_wp2_with fail
        first | exact FF.out | (go_ret; exact FF.out)
    · have d : decide ((q : Int) < (m : Int)) = false := decide_eq_false (by omega)
      have FF := hide (FI.out k ⟨HJ.out.1, wb_out (by rw [HQ.out.1, HM.out]; omega), HJ.out.2.1⟩ (by have := HJ.out.2.2; omega))
      go_wp2_with fail
      first | exact FF.out | (go_ret; exact FF.out)
/-! ### less -/
theorem ownNew {Y : World} {M e : Nat} {vr : Value} {xs : List Value} {n : Nat} (h : Y.ownsRow M e 1 vr n xs) {F : Nat → Prop} (hF : ∀ g, F g → g < M) (g : Nat) (hg : vr.ownBlock = some g) : ¬ F g := fun f => by have := (own_ge h hg).1; have := hF g f; omega
theorem below_own {M : Nat} {W X Y : World} {vr : Value} {e n : Nat} {xs : List Value} (h : Below M W X) (o : X.ownsRow M e 1 vr n xs) (hM : M ≤ X.heap.size) (k : Kept (fun x => vr.ownBlock = some x) X Y) : Below M W Y := h.trans (k.below hM (fun b hb => (own_ge o hb).1))
theorem lsW_len (ws os : List Nat) (n : Nat) : (lsW ws os n).length ≤ n := by
  unfold lsW
  have := List.length_filter_le (fun i => wb ws i && !wb os i) (List.range n)
  simpa using this
set_option maxRecDepth 100000 in
set_option maxHeartbeats 1000000 in
theorem less_any {v' : Value} {os : List Nat} (h : Wr N W v ws) (h' : Wr N W v' os) (hL : ws.length ≤ 1500) (hL' : os.length ≤ 1500) (hT : TabW W) :
    Calls Tryd.prog 49 #[v, v'] W fun e W' => ∃ vr, e = .returned vr ∧ W'.ownsRow W.heap.size 3 1 vr (lsW ws os (64 * ws.length)).length ((lsW ws os (64 * ws.length)).map encI) ∧ Below W.heap.size W W' := by
  obtain ⟨R, hR⟩ : ∃ R : Ending → World → Prop, R = fun e W' => ∃ vr, e = .returned vr ∧ W'.ownsRow W.heap.size 3 1 vr (lsW ws os (64 * ws.length)).length ((lsW ws os (64 * ws.length)).map encI) ∧ Below W.heap.size W W' := ⟨_, rfl⟩
  rw [← hR]
  have HR := hide hR
  clear hR
  obtain ⟨M, hM⟩ : ∃ M : Nat, W.heap.size = M := ⟨_, rfl⟩
  have HM := hide hM
  have M0 : 0 < M := by have := hT.lt; omega
  obtain ⟨n, hn⟩ : ∃ n : Nat, ws.length = n := ⟨_, rfl⟩
  obtain ⟨n', hn'⟩ : ∃ n' : Nat, os.length = n' := ⟨_, rfl⟩
  obtain ⟨o, cap, rfl⟩ := row_form h.row
  obtain ⟨o', cap', rfl⟩ := row_form h'.row
  have H := hide h
  have H' := hide h'
  have HT := hide hT
  have HN := hide (And.intro hn hn')
  rw [hn] at hL ⊢
  rw [hn'] at hL' ⊢
  clear h h' hT hn hn' hM
  go_enter Tryd.func49, Tryd.ntmps49
  go_wp2_with fail
  go_loopw [5, 10] (fun vr vi wr => ∃ j : Nat, vi = .int .i64 (j : Nat) ∧ j ≤ n ∧ Hid (wr.ownsRow M 3 1 vr (lsW ws os (64 * j)).length ((lsW ws os (64 * j)).map encI) ∧ Below M W wr)) (fun _ vi _ => n - (zi vi).toNat)
  case atStart => exact ⟨0, rfl, by omega, hide ⟨World.ownsRow_nil _ _ _ _, Below.refl _ _⟩⟩
  case round =>
    obtain ⟨j, rfl, hj, HP⟩ := hrel
    have pw : IntKind.i64.wrap ((j : Int) + 1) = (j : Int) + 1 := by rw [IntKind.wrap_i64]; omega
    by_cases c : j < n
    · have d : decide ((j : Int) < (n : Int)) = true := decide_eq_true (by omega)
      have hx : ws[j]? = some (ws[j]'(by rw [HN.out.1]; exact c)) := List.getElem?_eq_getElem _
      generalize ws[j]'(by rw [HN.out.1]; exact c) = x at hx
      have sx := H.out.sm.at hx
      obtain ⟨g, cap1, e', x1, -⟩ := (H.out.below (by rw [HM.out]; exact HP.out.2)).cellAt hx
      obtain ⟨rfl, rfl⟩ : o = some ⟨g, 0, none⟩ ∧ cap = cap1 := by simp at e'; exact e'
      have ST := hide (lsW_step (os := os) hx)
      have j0 : (0 : Int) ≤ (j : Int) := by omega
      have j1 : (j : Int) < (n : Int) := by omega
      have pm : IntKind.i64.wrap ((j : Int) * 64) = (j : Int) * 64 := by rw [IntKind.wrap_i64]; omega
      have SX := hide sx
      clear hx e' sx
      by_cases c2 : j < n'
      · have d2 : decide ((j : Int) < (n' : Int)) = true := decide_eq_true (by omega)
        have hy : os[j]? = some (os[j]'(by rw [HN.out.2]; exact c2)) := List.getElem?_eq_getElem _
        generalize os[j]'(by rw [HN.out.2]; exact c2) = y at hy
        have sy := H'.out.sm.at hy
        obtain ⟨g', cap2, e', y1, -⟩ := (H'.out.below (by rw [HM.out]; exact HP.out.2)).cellAt hy
        obtain ⟨rfl, rfl⟩ : o' = some ⟨g', 0, none⟩ ∧ cap' = cap2 := by simp at e'; exact e'
        rw [show os.getD j 0 = y by rw [List.getD_eq_getElem?_getD, hy]; rfl] at ST
        have wa := w_andNot x y SX.out sy
        have sz := hide (Bt.andn_lt y SX.out)
        have j2 : (j : Int) < (n' : Int) := by omega
        generalize Bt.andn x y = z at *
        clear hy e' sy
        go_wp2_with fail
        clear x1 y1 wa
        go_loopw [5, 7] (fun vr vx wr => ∃ (x : Nat) (L : List Nat), vx = .int .u64 (x : Nat) ∧ Hid (x < 18446744073709551616 ∧ L ++ bitsW j x = lsW ws os (64 * (j + 1)) ∧ wr.ownsRow M 3 1 vr L.length (L.map encI) ∧ Below M W wr)) (fun _ vx _ => (zi vx).toNat)
        case atStart => exact ⟨z, _, rfl, hide ⟨sz.out, ST.out.symm, HP.out.1, HP.out.2⟩⟩
        case round =>
          clear HP sz ST
          obtain ⟨x, L, rfl, HX⟩ := hrel
          by_cases zx : x = 0
          · subst zx
            have HQ := hide (show lsW ws os (64 * (j + 1)) = L from by rw [← HX.out.2.1, bitsW_zero, List.append_nil])
            go_wp2_with fail
            refine ⟨⟨j + 1, by push_cast; rfl, by omega, hide ⟨by rw [HQ.out]; exact HX.out.2.2.1, HX.out.2.2.2⟩⟩, ?_⟩
            simp only [zi]; omega
          · have zn : ((x : Int) != 0) = true := by simp; exact zx
            have zz : ((x : Int) == 0) = false := by simp; exact zx
            obtain ⟨c1, -, -⟩ := Bt.ctz_bit zx HX.out.1
            have SP := hide (bitsW_step (k := j) zx HX.out.1)
            have DL := hide (drop1_lt zx)
            have sd := Nat.lt_trans DL.out HX.out.1
            have CT := hide (tz_any x zx HX.out.1 wr (HT.out.below M0 HX.out.2.2.2))
            have ll : L.length < 100000 := by
              have h1 := congrArg List.length HX.out.2.1
              have h2 := lsW_len ws os (64 * (j + 1))
              rw [List.length_append] at h1
              omega
            obtain ⟨o9, cap9, e9⟩ := row_form HX.out.2.2.1
            subst e9
            have bA := below_alloc wr (.cells #[.int .i64 ((64 * j + Lib.ctz 64 x : Nat) : Int)] 3)
            have n2 := World.alloc_heap_new wr (.cells #[.int .i64 ((64 * j + Lib.ctz 64 x : Nat) : Int)] 3)
            have hMw : M ≤ wr.heap.size := by have := HX.out.2.2.2.size; rw [HM.out] at this; exact this
            have o2 := owns_kept HX.out.2.2.1 (Kept.of_below (F := fun _ => False) bA) (fun _ _ f => f)
            obtain ⟨g9, cap3, Y, r1, r2, r3, r4, r5⟩ := ints_more o2 ll wr.heap.size (64 * j + Lib.ctz 64 x) n2 (by rw [World.size_alloc]; omega) 39
            have NX := hide (show drop1 x < 18446744073709551616 ∧ (L ++ [64 * j + Lib.ctz 64 x]) ++ bitsW j (drop1 x) = lsW ws os (64 * (j + 1)) ∧ Y.ownsRow M 3 1 (.slice (some ⟨g9, 0, none⟩) (L.length + 1) cap3) (L ++ [64 * j + Lib.ctz 64 x]).length ((L ++ [64 * j + Lib.ctz 64 x]).map encI) ∧ Below M W Y from
              ⟨sd, by rw [List.append_assoc, List.singleton_append, ← SP.out]; exact HX.out.2.1, by rw [List.length_append, List.length_singleton]; exact r2, below_own (HX.out.2.2.2.trans (bA.mono hMw)) o2 (by rw [World.size_alloc]; omega) r3⟩)
            have wx : IntKind.u64.wrap ((x : Int) - 1) = (x : Int) - 1 := by rw [IntKind.wrap_u64]; have := HX.out.1; omega
            have an : bits .and .u64 (x : Int) ((x : Int) - 1) = ((drop1 x : Nat) : Int) := by
              rw [show ((x : Int) - 1) = ((x - 1 : Nat) : Int) by omega, w_and x (x - 1) HX.out.1 (by have := HX.out.1; omega)]
              rfl
            rw [show ((64 * j + Lib.ctz 64 x : Nat) : Int) = (j : Int) * 64 + (Lib.ctz 64 x : Int) by push_cast; omega] at r1
            generalize drop1 x = x' at *
            generalize 64 * j + Lib.ctz 64 x = p at *
            generalize Lib.ctz 64 x = c9 at *
            have pa : IntKind.i64.wrap ((j : Int) * 64 + (c9 : Int)) = (j : Int) * 64 + (c9 : Int) := by rw [IntKind.wrap_i64]; omega
            have RUN := hide r1
            clear r1 r2 r3 r4 r5 o2 n2 bA zx SP HX sd
            go_wp2_with fail
            refine CT.out.mono ?_
            rintro e W5 ⟨rfl, hw⟩
            rw [hw]
            clear hw CT
            go_wp2_with (at_builtin; refine list_app (by rfl) (.tmp 31) (.tmp 37) 39 (by rfl) (by rfl) (by rfl) RUN.out ?_)
            exact ⟨⟨x', _, rfl, NX⟩, by simp only [zi]; have := DL.out; omega⟩
      · have d2 : decide ((j : Int) < (n' : Int)) = false := decide_eq_false (by omega)
        rw [show os.getD j 0 = 0 by rw [List.getD_eq_getElem?_getD, List.getElem?_eq_none (by rw [HN.out.2]; omega)]; rfl, show Bt.andn x 0 = x from Nat.eq_of_testBit_eq fun k => by rw [Bt.andn_bit, Nat.zero_testBit]; simp] at ST
        have sz := SX
        go_wp2_with fail
        clear x1
        generalize x = z at *
        go_loopw [5, 7] (fun vr vx wr => ∃ (x : Nat) (L : List Nat), vx = .int .u64 (x : Nat) ∧ Hid (x < 18446744073709551616 ∧ L ++ bitsW j x = lsW ws os (64 * (j + 1)) ∧ wr.ownsRow M 3 1 vr L.length (L.map encI) ∧ Below M W wr)) (fun _ vx _ => (zi vx).toNat)
        case atStart => exact ⟨z, _, rfl, hide ⟨sz.out, ST.out.symm, HP.out.1, HP.out.2⟩⟩
        case round =>
          clear HP sz ST
          obtain ⟨x, L, rfl, HX⟩ := hrel
          by_cases zx : x = 0
          · subst zx
            have HQ := hide (show lsW ws os (64 * (j + 1)) = L from by rw [← HX.out.2.1, bitsW_zero, List.append_nil])
            go_wp2_with fail
            refine ⟨⟨j + 1, by push_cast; rfl, by omega, hide ⟨by rw [HQ.out]; exact HX.out.2.2.1, HX.out.2.2.2⟩⟩, ?_⟩
            simp only [zi]; omega
          · have zn : ((x : Int) != 0) = true := by simp; exact zx
            have zz : ((x : Int) == 0) = false := by simp; exact zx
            obtain ⟨c1, -, -⟩ := Bt.ctz_bit zx HX.out.1
            have SP := hide (bitsW_step (k := j) zx HX.out.1)
            have DL := hide (drop1_lt zx)
            have sd := Nat.lt_trans DL.out HX.out.1
            have CT := hide (tz_any x zx HX.out.1 wr (HT.out.below M0 HX.out.2.2.2))
            have ll : L.length < 100000 := by
              have h1 := congrArg List.length HX.out.2.1
              have h2 := lsW_len ws os (64 * (j + 1))
              rw [List.length_append] at h1
              omega
            obtain ⟨o9, cap9, e9⟩ := row_form HX.out.2.2.1
            subst e9
            have bA := below_alloc wr (.cells #[.int .i64 ((64 * j + Lib.ctz 64 x : Nat) : Int)] 3)
            have n2 := World.alloc_heap_new wr (.cells #[.int .i64 ((64 * j + Lib.ctz 64 x : Nat) : Int)] 3)
            have hMw : M ≤ wr.heap.size := by have := HX.out.2.2.2.size; rw [HM.out] at this; exact this
            have o2 := owns_kept HX.out.2.2.1 (Kept.of_below (F := fun _ => False) bA) (fun _ _ f => f)
            obtain ⟨g9, cap3, Y, r1, r2, r3, r4, r5⟩ := ints_more o2 ll wr.heap.size (64 * j + Lib.ctz 64 x) n2 (by rw [World.size_alloc]; omega) 39
            have NX := hide (show drop1 x < 18446744073709551616 ∧ (L ++ [64 * j + Lib.ctz 64 x]) ++ bitsW j (drop1 x) = lsW ws os (64 * (j + 1)) ∧ Y.ownsRow M 3 1 (.slice (some ⟨g9, 0, none⟩) (L.length + 1) cap3) (L ++ [64 * j + Lib.ctz 64 x]).length ((L ++ [64 * j + Lib.ctz 64 x]).map encI) ∧ Below M W Y from
              ⟨sd, by rw [List.append_assoc, List.singleton_append, ← SP.out]; exact HX.out.2.1, by rw [List.length_append, List.length_singleton]; exact r2, below_own (HX.out.2.2.2.trans (bA.mono hMw)) o2 (by rw [World.size_alloc]; omega) r3⟩)
            have wx : IntKind.u64.wrap ((x : Int) - 1) = (x : Int) - 1 := by rw [IntKind.wrap_u64]; have := HX.out.1; omega
            have an : bits .and .u64 (x : Int) ((x : Int) - 1) = ((drop1 x : Nat) : Int) := by
              rw [show ((x : Int) - 1) = ((x - 1 : Nat) : Int) by omega, w_and x (x - 1) HX.out.1 (by have := HX.out.1; omega)]
              rfl
            rw [show ((64 * j + Lib.ctz 64 x : Nat) : Int) = (j : Int) * 64 + (Lib.ctz 64 x : Int) by push_cast; omega] at r1
            generalize drop1 x = x' at *
            generalize 64 * j + Lib.ctz 64 x = p at *
            generalize Lib.ctz 64 x = c9 at *
            have pa : IntKind.i64.wrap ((j : Int) * 64 + (c9 : Int)) = (j : Int) * 64 + (c9 : Int) := by rw [IntKind.wrap_i64]; omega
            have RUN := hide r1
            clear r1 r2 r3 r4 r5 o2 n2 bA zx SP HX sd
            go_wp2_with fail
            refine CT.out.mono ?_
            rintro e W5 ⟨rfl, hw⟩
            rw [hw]
            clear hw CT
            go_wp2_with (at_builtin; refine list_app (by rfl) (.tmp 31) (.tmp 37) 39 (by rfl) (by rfl) (by rfl) RUN.out ?_)
            exact ⟨⟨x', _, rfl, NX⟩, by simp only [zi]; have := DL.out; omega⟩
    · have d : decide ((j : Int) < (n : Int)) = false := decide_eq_false (by omega)
      obtain rfl : j = n := by omega
      have FF := hide (show R (.returned u5) wr from by rw [HR.out]; exact ⟨u5, rfl, by rw [HN.out.1, HM.out]; exact HP.out.1, by rw [HM.out]; exact HP.out.2⟩)
      obtain ⟨o9, cap9, e9⟩ := row_form HP.out.1
      subst e9
      clear HP
      go_wp2_with fail
      first | exact FF.out | (go_ret; exact FF.out)
end
end Go.Proofs.YtblfefibgoiaaaaDoor
