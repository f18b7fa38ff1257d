/- SpanEnds, walked. -/
import Derived.Test.YtblfefibgoiaaaaDoorGl
namespace Go.Proofs.YtblfefibgoiaaaaDoor
open Go.ChangeShapes Go.WideShapes Go.ChangeAt Go.RowKit Go.Proofs.Sn Go.Shelf
set_option linter.unusedVariables false
set_option linter.unusedSimpArgs false

/-- So many slots are used, from the first on. -/
def upS (st k : Nat) : St := ⟨st, fun i => decide (i < k), fun _ => false, k⟩
theorem up_zero (st : Nat) : St.new st = upS st 0 := by unfold St.new upS; congr 1
theorem up_first (st k : Nat) : First (upS st k).u (upS st k).look k := ⟨Nat.le_refl _, by show decide (k < k) = false; simp, fun j h1 h2 => decide_eq_true h2⟩
theorem up_next (st k : Nat) : (upS st k).next k = upS st (k + 1) := by
  unfold St.next upS
  congr 1
  funext i
  show upd (fun i => decide (i < k)) k true i = _
  unfold upd
  by_cases e : i = k
  · rw [if_pos e, decide_eq_true (by omega)]
  · rw [if_neg e]; exact decide_eq_decide.2 (by omega)
theorem up_give (st k : Nat) : (upS st (k + 1)).give k = upS st k := by
  have e1 : (upS st (k + 1)).give k = ⟨st, upd (fun i => decide (i < k + 1)) k false, fun _ => false, min (k + 1) k⟩ := rfl
  rw [e1, Nat.min_eq_right (by omega)]
  unfold upS
  congr 1
  funext i
  unfold upd
  by_cases e : i = k
  · rw [if_pos e, decide_eq_false (by omega)]
  · rw [if_neg e]; exact decide_eq_decide.2 (by omega)
theorem up_cnt (st k : Nat) {n : Nat} (h : k ≤ n) : Bt.cnt (upS st k).u 0 n = k := by
  obtain ⟨d, rfl⟩ : ∃ d, n = k + d := ⟨n - k, by omega⟩
  rw [Bt.cnt_add, Bt.cnt_full.2 (fun j hj => decide_eq_true (by omega)), Bt.cnt_none (fun j hj => decide_eq_false (by omega))]
  omega
set_option maxRecDepth 100000 in
set_option maxHeartbeats 4000000 in
theorem ends_in (n elem : Int) (w : World) (hT : TabW w) :
    Calls Tryd.prog 8 #[.int .i64 n, .int .i64 elem] w fun e w' => e = .returned (.bool true) ∧ Below w.heap.size w w' := by
  obtain ⟨R, hR⟩ : ∃ R : Ending → World → Prop, R = fun e w' => e = .returned (.bool true) ∧ Below w.heap.size w w' := ⟨_, rfl⟩
  rw [← hR]
  have FIN := hide (show ∀ W, Below w.heap.size w W → R (.returned (.bool true)) W from fun W h => by rw [hR]; exact ⟨rfl, h⟩)
  clear hR
  by_cases c1 : n < 0
  · have dc1 : decide (n < 0) = true := decide_eq_true c1
    go_enter Tryd.func8, Tryd.ntmps8
    go_wp2_with fail
    have F := FIN.out w (Below.refl _ w)
    first | exact F | (go_ret; exact F)
  have dc1 : decide (n < 0) = false := decide_eq_false c1
  by_cases c2 : 8 < n
  · have dc2 : decide (8 < n) = true := decide_eq_true c2
    go_enter Tryd.func8, Tryd.ntmps8
    go_wp2_with fail
    have F := FIN.out w (Below.refl _ w)
    first | exact F | (go_ret; exact F)
  have dc2 : decide (8 < n) = false := decide_eq_false c2
  by_cases c3 : elem < 8
  · have dc3 : decide (elem < 8) = true := decide_eq_true c3
    go_enter Tryd.func8, Tryd.ntmps8
    go_wp2_with fail
    have F := FIN.out w (Below.refl _ w)
    first | exact F | (go_ret; exact F)
  have dc3 : decide (elem < 8) = false := decide_eq_false c3
  by_cases c4 : 8192 < elem
  · have dc4 : decide (8192 < elem) = true := decide_eq_true c4
    go_enter Tryd.func8, Tryd.ntmps8
    go_wp2_with fail
    have F := FIN.out w (Below.refl _ w)
    first | exact F | (go_ret; exact F)
  have dc4 : decide (8192 < elem) = false := decide_eq_false c4
  obtain ⟨m, rfl⟩ : ∃ m : Nat, n = m := ⟨n.toNat, by omega⟩
  obtain ⟨el, rfl⟩ : ∃ el : Nat, elem = el := ⟨elem.toNat, by omega⟩
  have sl1 : 8 * 8192 / el ≤ 65536 := Nat.div_le_self _ _
  have sl8 : 8 ≤ 8 * 8192 / el := (Nat.le_div_iff_mul_le (by omega)).2 (by omega)
  have mb : manB 3 8 (el : Int) = true := by
    unfold manB
    rw [show rpB 3 8 = true by decide, decide_eq_true (show 8 ≤ (el : Int) by omega), decide_eq_true (show (el : Int) ≤ ((8 : Nat) : Int) * 8192 by omega)]
    rfl
  have C0 := hide (ls_manual (N := w.heap.size) (w := w) (W := w) (fun _ => False) (fun _ f => f.elim) (Below.refl _ _) (Nat.le_refl _) hT hT.lt 3 8 el mb sl1)
  rw [show ((3 : Nat) : Int) = 3 from rfl, show ((8 : Nat) : Int) = 8 from rfl, up_zero] at C0
  have GS : (geo 3 8 0 false el).slots = 8 * 8192 / el := rfl
  obtain ⟨G, hG⟩ : ∃ G : Geo, geo 3 8 0 false el = G := ⟨_, rfl⟩
  rw [hG] at C0 GS
  have G8 : 8 ≤ G.slots := by rw [GS]; exact sl8
  have hm : m ≤ 8 := by omega
  clear GS hG mb sl1 sl8 hT
  go_enter Tryd.func8, Tryd.ntmps8
  go_wp2_with fail
  refine C0.out.mono ?_
  rintro e w1 ⟨sb, rfl, l1, -⟩
  have P1 := hide l1
  clear C0 l1 dc1 dc2 dc3 dc4 c1 c2 c3 c4
  go_wp2_with fail
  go_loopw [7] (fun vi wr => ∃ k : Nat, vi = .int .i64 (k : Nat) ∧ k ≤ m ∧ Hid (LS w.heap.size w wr sb (fun _ => False) G (upS 2 k))) (fun vi _ => m - (zi vi).toNat)
  case atStart => exact ⟨0, rfl, by omega, P1⟩
  case round =>
    clear P1
    obtain ⟨k, rfl, hk, HP⟩ := hrel
    by_cases c : k < m
    · have d : decide ((k : Int) < (m : Int)) = true := decide_eq_true (by omega)
      have CT := hide (ls_next HP.out (by show (2 : Nat) ≠ 0; decide) (up_first 2 k) (by omega))
      rw [up_next] at CT
      have pw : IntKind.i64.wrap ((k : Int) + 1) = (k : Int) + 1 := by rw [IntKind.wrap_i64]; omega
      clear HP
      go_wp2_with fail
      refine CT.out.mono ?_
      rintro e W5 ⟨rfl, p5, -⟩
      have P5 := hide p5
      clear p5 CT
      go_wp2_with fail
      exact ⟨⟨k + 1, by push_cast; rfl, by omega, P5⟩, by simp only [zi]; omega⟩
    · have d : decide ((k : Int) < (m : Int)) = false := decide_eq_false (by omega)
      obtain rfl : k = m := by omega
      clear hk c
      by_cases c0 : k = 0
      · subst c0
        have CD := hide (ls_die HP.out (by show (2 : Nat) ≠ 0; decide) (up_cnt 2 0 (by omega)))
        rw [show ((0 : Nat) : Int) = 0 from rfl]
        clear HP d
        go_wp2_with fail
        refine CD.out.mono ?_
        rintro e W5 ⟨rfl, p5, -⟩
        have P5 := hide p5
        clear p5 CD
        go_wp2_with fail
        go_loopw [10] (fun vi wr => vi = .int .i64 (-1) ∧ Hid (LS w.heap.size w wr sb (fun _ => False) G (upS 2 0).die)) (fun vi _ => (zi vi + 1).toNat)
        case atStart => exact ⟨rfl, P5⟩
        case round =>
          clear P5
          obtain ⟨rfl, P5⟩ := hrel
          go_wp2_with fail
          have CN := hide (ls_next_dead P5.out rfl)
          have CS := hide (ls_sweep_state P5.out (by show (0 : Nat) ≠ 1; decide))
          have CG := hide (ls_give_state P5.out (by show (0 : Nat) ≠ 2; decide) 0)
          have CM := hide (ls_mark_state P5.out (by show (0 : Nat) ≠ 1; decide) 0)
          have CE := hide (ls_die_no P5.out (.inl rfl))
          have CI := hide (ls_info P5.out)
          rw [show Bt.cnt (upS 2 0).die.u 0 G.slots = 0 from Bt.cnt_none (fun _ _ => rfl), show (upS 2 0).die.st = 0 from rfl] at CI
          have CJ := hide (fun W h => ls_info (P5.out.read (W' := W) h))
          rw [show Bt.cnt (upS 2 0).die.u 0 G.slots = 0 from Bt.cnt_none (fun _ _ => rfl), show (upS 2 0).die.st = 0 from rfl] at CJ
          unfold infoV at CI CJ
          rw [show ((0 : Nat) : Int) = 0 from rfl] at CI CJ
          have fa := fld2
          have fb := fld7
          refine CN.out.mono ?_
          rintro e W6 ⟨rfl, hw⟩
          rw [hw]
          clear hw CN
          go_wp2_with fail
          refine CS.out.mono ?_
          rintro e W6 ⟨rfl, hw⟩
          rw [hw]
          clear hw CS
          go_wp2_with fail
          refine CG.out.mono ?_
          rintro e W6 ⟨rfl, hw⟩
          rw [hw]
          clear hw CG
          go_wp2_with fail
          refine CM.out.mono ?_
          rintro e W6 ⟨rfl, hw⟩
          rw [hw]
          clear hw CM
          go_wp2_with fail
          refine CE.out.mono ?_
          rintro e W6 ⟨rfl, hw⟩
          rw [hw]
          clear hw CE
          go_wp2_with fail
          refine CI.out.mono ?_
          rintro e W6 ⟨rfl, b6⟩
          have CK := hide (CJ.out W6 b6)
          have P6 := hide (P5.out.read b6)
          clear b6 CI CJ
          go_wp2_with fail
          refine CK.out.mono ?_
          rintro e W7 ⟨rfl, b7⟩
          have P7 := hide (P6.out.read b7)
          have CW := hide (awake13 W7 P7.out.tab)
          clear b7 CK
          go_wp2_with fail
          refine CW.out.mono ?_
          rintro e W8 ⟨rfl, b8⟩
          have FF := hide (FIN.out W8 (P7.out.read b8).be)
          clear CW b8
          go_wp2_with fail
          first | exact FF.out | (go_ret; exact FF.out)
      · have CD := hide (ls_die_no HP.out (.inr (by rw [up_cnt 2 k (by omega)]; omega)))
        have z0 : ((k : Int) == 0) = false := by simp; omega
        have pw : IntKind.i64.wrap ((k : Int) - 1) = (k : Int) - 1 := by rw [IntKind.wrap_i64]; omega
        have kp : 0 < k := by omega
        have dk : decide ((0 : Int) < (k : Int)) = true := decide_eq_true (by omega)
        clear d
        go_wp2_with fail
        refine CD.out.mono ?_
        rintro e W5 ⟨rfl, hw⟩
        rw [hw]
        clear hw CD
        go_wp2_with fail
        go_loopw [10] (fun vi wr => ∃ j : Nat, vi = .int .i64 ((j : Int) - 1) ∧ j ≤ k ∧ Hid (LS w.heap.size w wr sb (fun _ => False) G (upS 2 j))) (fun vi _ => (zi vi + 1).toNat)
        case atStart => exact ⟨k, rfl, Nat.le_refl _, HP⟩
        case round =>
          clear HP
          obtain ⟨j, rfl, hj, HP⟩ := hrel
          cases j with
          | zero =>
            have CD := hide (ls_die HP.out (by show (2 : Nat) ≠ 0; decide) (up_cnt 2 0 (by omega)))
            rw [show (((0 : Nat) : Int) - 1) = -1 from rfl]
            clear HP
            go_wp2_with fail
            refine CD.out.mono ?_
            rintro e W5 ⟨rfl, p5, -⟩
            have P5 := hide p5
            clear p5 CD
            go_wp2_with fail
            have CN := hide (ls_next_dead P5.out rfl)
            have CS := hide (ls_sweep_state P5.out (by show (0 : Nat) ≠ 1; decide))
            have CG := hide (ls_give_state P5.out (by show (0 : Nat) ≠ 2; decide) 0)
            have CM := hide (ls_mark_state P5.out (by show (0 : Nat) ≠ 1; decide) 0)
            have CE := hide (ls_die_no P5.out (.inl rfl))
            have CI := hide (ls_info P5.out)
            rw [show Bt.cnt (upS 2 0).die.u 0 G.slots = 0 from Bt.cnt_none (fun _ _ => rfl), show (upS 2 0).die.st = 0 from rfl] at CI
            have CJ := hide (fun W h => ls_info (P5.out.read (W' := W) h))
            rw [show Bt.cnt (upS 2 0).die.u 0 G.slots = 0 from Bt.cnt_none (fun _ _ => rfl), show (upS 2 0).die.st = 0 from rfl] at CJ
            unfold infoV at CI CJ
            rw [show ((0 : Nat) : Int) = 0 from rfl] at CI CJ
            have fa := fld2
            have fb := fld7
            refine CN.out.mono ?_
            rintro e W6 ⟨rfl, hw⟩
            rw [hw]
            clear hw CN
            go_wp2_with fail
            refine CS.out.mono ?_
            rintro e W6 ⟨rfl, hw⟩
            rw [hw]
            clear hw CS
            go_wp2_with fail
            refine CG.out.mono ?_
            rintro e W6 ⟨rfl, hw⟩
            rw [hw]
            clear hw CG
            go_wp2_with fail
            refine CM.out.mono ?_
            rintro e W6 ⟨rfl, hw⟩
            rw [hw]
            clear hw CM
            go_wp2_with fail
            refine CE.out.mono ?_
            rintro e W6 ⟨rfl, hw⟩
            rw [hw]
            clear hw CE
            go_wp2_with fail
            refine CI.out.mono ?_
            rintro e W6 ⟨rfl, b6⟩
            have CK := hide (CJ.out W6 b6)
            have P6 := hide (P5.out.read b6)
            clear b6 CI CJ
            go_wp2_with fail
            refine CK.out.mono ?_
            rintro e W7 ⟨rfl, b7⟩
            have P7 := hide (P6.out.read b7)
            have CW := hide (awake13 W7 P7.out.tab)
            clear b7 CK
            go_wp2_with fail
            refine CW.out.mono ?_
            rintro e W8 ⟨rfl, b8⟩
            have FF := hide (FIN.out W8 (P7.out.read b8).be)
            clear CW b8
            go_wp2_with fail
            first | exact FF.out | (go_ret; exact FF.out)
          | succ j =>
            have CG := hide (ls_give HP.out rfl j (by omega) (decide_eq_true (by omega)))
            rw [up_give] at CG
            rw [show (((j + 1 : Nat) : Int) - 1) = (j : Int) by omega]
            have pw : IntKind.i64.wrap ((j : Int) - 1) = (j : Int) - 1 := by rw [IntKind.wrap_i64]; omega
            have j0 : 0 ≤ (j : Int) := by omega
            clear HP
            go_wp2_with fail
            refine CG.out.mono ?_
            rintro e W5 ⟨rfl, p5, -⟩
            have P5 := hide p5
            have CF := hide (ls_give_free p5 rfl j (by omega) (decide_eq_false (by omega)))
            clear CG p5
            go_wp2_with fail
            refine CF.out.mono ?_
            rintro e W6 ⟨rfl, hw⟩
            rw [hw]
            clear hw CF
            go_wp2_with fail
            exact ⟨⟨j, rfl, by omega, P5⟩, by simp only [zi]; omega⟩
end Go.Proofs.YtblfefibgoiaaaaDoor
