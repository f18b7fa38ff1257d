/- SpanManual, walked. -/
import Derived.Test.YtblfefibgoiaaaaDoorGl
import Derived.Test.YtblfefibgoiaaaaDoorBo
import Derived.Test.YtblfefibgoiaaaaDoorAr
namespace Go.Proofs.YtblfefibgoiaaaaDoor
open Go.ChangeShapes Go.WideShapes Go.ChangeAt Go.RowKit Go.Proofs.Sn Go.Shelf
set_option linter.unusedVariables false
set_option linter.unusedSimpArgs false

/-- The law's span, and its own row of truths, which says what is used. -/
structure MnI (N : Nat) (w W : World) (sb ub n : Nat) (G : Geo) (S : St) : Prop where
  l : LS N w W sb (fun z => z = ub) G S
  b : BoR W ub n S.u
  st : S.st = 2
  lo : ∀ j, j < S.look → S.u j = true
section
variable {N : Nat} {w W W' : World} {sb ub n : Nat} {G : Geo} {S : St}
theorem MnI.first (h : MnI N w W sb ub n G S) {k : Nat} (hf : First S.u 0 k) : First S.u S.look k := by
  refine ⟨?_, hf.2.1, fun j h1 h2 => hf.2.2 j (by omega) h2⟩
  apply Classical.byContradiction
  intro z
  have := h.lo k (by omega)
  rw [hf.2.1] at this
  cases this
theorem MnI.next (h : MnI N w W sb ub n G S) {k : Nat} (hf : First S.u 0 k) (l : LS N w W' sb (fun z => z = ub) G (S.next k)) (b : BoR W' ub n (upd S.u k true)) : MnI N w W' sb ub n G (S.next k) := by
  refine ⟨l, b, h.st, fun j hj => ?_⟩
  show upd S.u k true j = true
  by_cases e : j = k
  · rw [e, upd_self]
  · rw [upd_ne _ _ e]
    have : j < k + 1 := hj
    exact hf.2.2 j (by omega) (by omega)
theorem MnI.give (h : MnI N w W sb ub n G S) {k : Nat} (l : LS N w W' sb (fun z => z = ub) G (S.give k)) (b : BoR W' ub n (upd S.u k false)) : MnI N w W' sb ub n G (S.give k) := by
  refine ⟨l, b, h.st, fun j hj => ?_⟩
  show upd S.u k false j = true
  have : j < min S.look k := hj
  rw [upd_ne _ _ (by omega)]
  exact h.lo j (by omega)
end
theorem upd_id {u : Nat → Bool} {k : Nat} {x : Bool} (h : u k = x) : upd u k x = u := by
  funext j
  unfold upd
  by_cases e : j = k
  · rw [if_pos e, e, h]
  · rw [if_neg e]
set_option maxRecDepth 100000 in
set_option maxHeartbeats 2000000 in
theorem manual_in (elem : Int) (o0 : Option Addr) (l0 c0 : Nat) (w : World) (hT : TabW w) (X : Nat → Int) (hX : IntsAt w o0 l0 c0 X) :
    Calls Tryd.prog 4 #[.int .i64 elem, .slice o0 l0 c0] w fun e w' => e = .returned (.bool true) ∧ Below w.heap.size w w' := by
  obtain ⟨R, hR⟩ : ∃ R : Ending → World → Prop, R = fun e w' => e = .returned (.bool true) ∧ Below w.heap.size w w' := ⟨_, rfl⟩
  rw [← hR]
  have FIN := hide (show ∀ W, Below w.heap.size w W → R (.returned (.bool true)) W from fun W h => by rw [hR]; exact ⟨rfl, h⟩)
  clear hR
  have HX := hide hX
  clear hX
  by_cases c1 : elem < 512
  · have dc1 : decide (elem < 512) = true := decide_eq_true (by omega)
    go_enter Tryd.func4, Tryd.ntmps4
    go_wp2_with fail
    have F := FIN.out w (Below.refl _ w)
    first | exact F | (go_ret; exact F)
  have dc1 : decide (elem < 512) = false := decide_eq_false (by omega)
  by_cases c2 : 32768 < elem
  · have dc2 : decide (32768 < elem) = true := decide_eq_true (by omega)
    go_enter Tryd.func4, Tryd.ntmps4
    go_wp2_with fail
    have F := FIN.out w (Below.refl _ w)
    first | exact F | (go_ret; exact F)
  have dc2 : decide (32768 < elem) = false := decide_eq_false (by omega)
  by_cases c3 : 200 < l0
  · have dc3 : decide ((200 : Int) < (l0 : Int)) = true := decide_eq_true (by omega)
    go_enter Tryd.func4, Tryd.ntmps4
    go_wp2_with fail
    have F := FIN.out w (Below.refl _ w)
    first | exact F | (go_ret; exact F)
  have dc3 : decide ((200 : Int) < (l0 : Int)) = false := decide_eq_false (by omega)
  obtain ⟨el, rfl⟩ : ∃ el : Nat, elem = el := ⟨elem.toNat, by omega⟩
  obtain ⟨n, hn⟩ : ∃ n : Nat, 4 * 8192 / el = n := ⟨_, rfl⟩
  have n64 : n ≤ 64 := by rw [← hn]; exact (Nat.div_le_iff_le_mul (by omega)).2 (by omega)
  have mb : manB 40 4 (el : Int) = true := by
    unfold manB
    rw [show rpB 40 4 = true by decide, decide_eq_true (show 8 ≤ (el : Int) by omega), decide_eq_true (show (el : Int) ≤ ((4 : Nat) : Int) * 8192 by omega)]
    rfl
  have C0 := hide (ls_manual (N := w.heap.size) (w := w) (W := w) (fun _ => False) (fun _ f => f.elim) (Below.refl _ _) (Nat.le_refl _) hT hT.lt 40 4 el mb (by omega))
  rw [show ((40 : Nat) : Int) = 40 from rfl, show ((4 : Nat) : Int) = 4 from rfl] at C0
  have GS : (geo 40 4 0 false el).slots = n := hn
  obtain ⟨G, hG⟩ : ∃ G : Geo, geo 40 4 0 false el = G := ⟨_, rfl⟩
  rw [hG] at C0 GS
  have q0 : (32768 : Int) / (el : Int) = (n : Int) := by rw [← hn, Int.natCast_ediv]; rfl
  have q1 : (32768 : Int).tdiv (el : Int) = (n : Int) := by rw [Int.tdiv_eq_ediv_of_nonneg (by omega)]; exact q0
  have wq : IntKind.i64.wrap (n : Int) = (n : Int) := by rw [IntKind.wrap_i64]; omega
  have ez : ((el : Int) == 0) = false := by simp; omega
  have el0 : 512 ≤ el := by omega
  have hl : l0 ≤ 200 := by omega
  clear hn hG mb hT
  go_enter Tryd.func4, Tryd.ntmps4
  go_wp2_with fail
  refine C0.out.mono ?_
  rintro e w1 ⟨sb, rfl, l1, -⟩
  obtain ⟨w2, hrun, hb2, bb2, sz2⟩ := make_bools w1 n (by omega)
  have P1 := hide (show MnI w.heap.size w w2 sb w1.heap.size n G (St.new 2) from ⟨l1.made bb2 (fun z hz => .inr (by rw [hz, sz2]; omega)), hb2, rfl, fun j hj => (by have : j < 0 := hj; omega)⟩)
  obtain ⟨ub, hub⟩ : ∃ ub : Nat, w1.heap.size = ub := ⟨_, rfl⟩
  rw [hub] at hrun P1
  clear C0 l1 hb2 bb2 sz2 dc1 dc2 dc3 c1 c2 c3 hub
  go_wp2_with fail
  clear hrun q0 q1 wq ez el0
  go_loopw [9] (fun vi wr => ∃ (i : Nat) (S : St), vi = .int .i64 (i : Nat) ∧ i ≤ l0 ∧ Hid (MnI w.heap.size w wr sb ub n G S)) (fun vi _ => l0 - (zi vi).toNat)
  case atStart => exact ⟨0, _, rfl, by omega, P1⟩
  case round =>
    clear P1
    obtain ⟨i, S, rfl, hi, HP⟩ := hrel
    by_cases c : i < l0
    · have d : decide ((i : Int) < (l0 : Int)) = true := decide_eq_true (by omega)
      obtain ⟨b0, f0, rfl, hb0, hc0⟩ := HX.out.at c
      have xl := HX.out.lo i
      have xh := HX.out.hi i
      have CEL := hide (show ∀ W, Below w.heap.size w W → W.cell? ⟨b0, f0 + i, none⟩ = some (.int .i64 (X i)) from fun W h => (h.cell (p := ⟨b0, f0 + i, none⟩) hb0).trans (hc0 i c))
      have e0 := CEL.out wr HP.out.l.be
      have i0 : 0 ≤ (i : Int) := by omega
      have i1 : (i : Int) < (l0 : Int) := by omega
      have pw : IntKind.i64.wrap ((i : Int) + 1) = (i : Int) + 1 := by rw [IntKind.wrap_i64]; omega
      generalize X i = x at *
      clear hb0 hc0
      by_cases x0 : 0 ≤ x
      · have dx : decide (0 ≤ x) = true := decide_eq_true x0
        by_cases x1 : (n : Int) ≤ x
        · have dy : decide ((n : Int) ≤ x) = true := decide_eq_true x1
          have dz : decide (x < (n : Int)) = false := decide_eq_false (by omega)
          have CG := hide (ls_give_arg HP.out.l HP.out.st x (inB_false.2 (.inr (by omega))))
          go_wp2_with fail
          refine CG.out.mono ?_
          rintro e W5 ⟨rfl, hw⟩
          rw [hw]
          clear hw CG
          go_wp2_with fail
          exact ⟨⟨i + 1, S, by push_cast; rfl, by omega, HP⟩, by simp only [zi]; omega⟩
        · have dy : decide ((n : Int) ≤ x) = false := decide_eq_false x1
          have dz : decide (x < (n : Int)) = true := decide_eq_true (by omega)
          have yx : x < (n : Int) := by omega
          obtain ⟨k, hk⟩ : ∃ k : Nat, x = k := ⟨x.toNat, by omega⟩
          have kn : k < n := by omega
          have tk : x.toNat = k := by omega
          cases hu : S.u k with
          | true =>
            have CG := hide (ls_give HP.out.l HP.out.st k (by omega) hu)
            rw [← hk] at CG
            have IH := hide (fun W' (l : LS w.heap.size w W' sb (fun z => z = ub) G (S.give k)) (b : BoR W' ub n (upd S.u k false)) => HP.out.give l b)
            have BB := hide HP.out.b
            have HK := hide hk
            clear HP hk
            go_wp2_with fail
            refine CG.out.mono ?_
            rintro e W5 ⟨rfl, p5, lf5⟩
            have b5 := BB.out.left lf5 rfl
            have e1 := CEL.out W5 p5.be
            have y1 := b5.cell k kn
            rw [hu] at y1
            have f1 := b5.fz k
            have Q5 := hide (IH.out (W5.setCell ⟨ub, k, none⟩ (.bool false)) (p5.put rfl _) (b5.put k kn false))
            clear CG e0 p5 lf5 b5 IH BB
            go_wp2_with fail
            exact ⟨⟨i + 1, _, by push_cast; rfl, by omega, Q5⟩, by simp only [zi]; omega⟩
          | false =>
            have CG := hide (ls_give_free HP.out.l HP.out.st k (by omega) hu)
            rw [← hk] at CG
            have y1 := HP.out.b.cell k kn
            rw [hu] at y1
            have f1 := HP.out.b.fz k
            have Q5 := hide (show MnI w.heap.size w (wr.setCell ⟨ub, k, none⟩ (.bool false)) sb ub n G S from ⟨HP.out.l.put rfl _, by rw [← upd_id hu]; exact HP.out.b.put k kn false, HP.out.st, HP.out.lo⟩)
            have HK := hide hk
            clear HP hk
            go_wp2_with fail
            refine CG.out.mono ?_
            rintro e W5 ⟨rfl, hw⟩
            rw [hw]
            clear hw CG
            go_wp2_with fail
            exact ⟨⟨i + 1, _, by push_cast; rfl, by omega, Q5⟩, by simp only [zi]; omega⟩
      · have dx : decide (0 ≤ x) = false := decide_eq_false x0
        have BB := hide HP.out.b
        go_wp2_with fail
        go_loopw [11] (fun vj wr' => ∃ j : Nat, vj = .int .i64 (j : Nat) ∧ j ≤ n ∧ Hid (∀ p, p < j → S.u p = true) ∧ wr' = wr) (fun vj _ => n - (zi vj).toNat)
        case atStart => exact ⟨0, rfl, by omega, hide (fun p hp => by omega), rfl⟩
        case round =>
          obtain ⟨j, rfl, hj, HJ, hw⟩ := hrel
          rw [hw]
          clear hw
          have pj : IntKind.i64.wrap ((j : Int) + 1) = (j : Int) + 1 := by rw [IntKind.wrap_i64]; omega
          by_cases cj : j < n
          · have dj : decide ((j : Int) < (n : Int)) = true := decide_eq_true (by omega)
            have j0 : 0 ≤ (j : Int) := by omega
            have j1 : (j : Int) < (n : Int) := by omega
            have y1 := BB.out.cell j cj
            cases hu : S.u j with
            | true =>
              rw [hu] at y1
              go_wp2_with fail
              refine ⟨⟨j + 1, by push_cast; rfl, by omega, hide (fun p hp => ?_), trivial⟩, by simp only [zi]; omega⟩
              by_cases e : p = j
              · rw [e]; exact hu
              · exact HJ.out p (by omega)
            | false =>
              rw [hu] at y1
              have f0 : First S.u 0 j := ⟨by omega, hu, fun p _ h2 => HJ.out p h2⟩
              have CN := hide (ls_next HP.out.l (by rw [HP.out.st]; decide) (HP.out.first f0) (by omega))
              have IH := hide (fun W' (l : LS w.heap.size w W' sb (fun z => z = ub) G (S.next j)) (b : BoR W' ub n (upd S.u j true)) => HP.out.next f0 l b)
              have nj : ((j : Int) == (n : Int)) = false := by simp; omega
              clear HP f0
              go_wp2_with fail
              refine CN.out.mono ?_
              rintro e W5 ⟨rfl, p5, lf5⟩
              have b5 := BB.out.left lf5 rfl
              have y2 := b5.cell j cj
              have f1 := b5.fz j
              have Q5 := hide (IH.out (W5.setCell ⟨ub, j, none⟩ (.bool true)) (p5.put rfl _) (b5.put j cj true))
              rw [hu] at y2
              clear CN e0 p5 lf5 b5 IH BB y1
              go_wp2_with fail
              exact ⟨⟨i + 1, _, by push_cast; rfl, by omega, Q5⟩, by simp only [zi]; omega⟩
          · obtain rfl : j = n := by omega
            have dj : decide ((j : Int) < (j : Int)) = false := decide_eq_false (by omega)
            obtain ⟨k, hf⟩ := HP.out.l.first
            have kn : G.slots ≤ k := by
              rw [GS]
              apply Classical.byContradiction
              intro z
              have := HJ.out k (by omega)
              rw [hf.2.1] at this
              cases this
            have CN := hide (ls_next_full HP.out.l (by rw [HP.out.st]; decide) hf kn)
            have ST := hide (And.intro HP.out.st HP.out.lo)
            clear HP hf kn
            go_wp2_with fail
            refine CN.out.mono ?_
            rintro e W5 ⟨rfl, p5, lf5⟩
            have Q5 := hide (show MnI w.heap.size w W5 sb ub j G S from ⟨p5, BB.out.left lf5 rfl, ST.out.1, ST.out.2⟩)
            clear CN e0 p5 lf5 BB
            go_wp2_with fail
            exact ⟨⟨i + 1, _, by push_cast; rfl, by omega, Q5⟩, by simp only [zi]; omega⟩
    · have d : decide ((i : Int) < (l0 : Int)) = false := decide_eq_false (by omega)
      have CS := hide (ls_sweep_state HP.out.l (by rw [HP.out.st]; decide))
      have CM := hide (ls_mark_state HP.out.l (by rw [HP.out.st]; decide) 0)
      have CI := hide (ls_info HP.out.l)
      have CJ := hide (fun W h => ls_info (HP.out.l.read (W' := W) h))
      rw [HP.out.st, GS] at CI CJ
      unfold infoV at CI CJ
      rw [GS] at CI CJ
      rw [show ((2 : Nat) : Int) = 2 from rfl] at CI CJ
      have PL := hide HP.out.l
      have fa := fld2
      have fb := fld6
      clear HP
      go_wp2_with fail
      refine CS.out.mono ?_
      rintro e W6 ⟨rfl, hw⟩
      rw [hw]
      clear hw CS
      go_wp2_with fail
      refine CM.out.mono ?_
      rintro e W6 ⟨rfl, hw⟩
      rw [hw]
      clear hw CM
      go_wp2_with fail
      refine CI.out.mono ?_
      rintro e W6 ⟨rfl, b6⟩
      have CK := hide (CJ.out W6 b6)
      have P6 := hide (PL.out.read b6)
      clear b6 CI CJ
      go_wp2_with fail
      refine CK.out.mono ?_
      rintro e W7 ⟨rfl, b7⟩
      have P7 := hide (P6.out.read b7)
      have CW := hide (awake13 W7 P7.out.tab)
      clear b7 CK
      go_wp2_with fail
      refine CW.out.mono ?_
      rintro e W8 ⟨rfl, b8⟩
      have FF := hide (FIN.out W8 (P7.out.read b8).be)
      clear CW b8
      go_wp2_with fail
      first | exact FF.out | (go_ret; exact FF.out)
end Go.Proofs.YtblfefibgoiaaaaDoor
