/- ArenaPlays: all of it. -/
import Derived.Test.YtdcjldpbgickmaaHv
namespace Go.Proofs.Ytdcjldpbgickmaa
open Go.ChangeShapes Go.WideShapes Go.ChangeAt Go.RowKit Go.Shelf Go.Proofs.Rx Go.Maps
set_option linter.unusedVariables false
set_option linter.unusedSimpArgs false

attribute [local go_sem] Oper.semAt_some

/-- Both, of a law that began in w. -/
structure PL (N : Nat) (w W : World) (mb xb : Nat) (a b : Nat) : Prop where
  ex : ∃ F, PX N W mb xb F a b
  be : Below N w W
  nw : N ≤ W.heap.size
section
variable {N : Nat} {w W W' : World} {mb xb a b : Nat}
theorem PL.read (h : PL N w W mb xb a b) (k : Below W.heap.size W W') : PL N w W' mb xb a b := by
  obtain ⟨F, p⟩ := h.ex
  exact ⟨⟨F, p.below k⟩, h.be.trans (k.mono h.nw), Nat.le_trans h.nw k.size⟩
theorem PX.to_below {F F' : Nat → Prop} (h : PX N W mb xb F a b) (hN : N ≤ W.heap.size) (t : To W W' F F') : Below N W W' := t.1.below hN (fun z hz => (h.lt hz).1)
theorem pl_act (h : PL N w W mb xb a b) (ha : a < 1000) (x : ActV) (hx : x.Ok) (hb : b + csx x ≤ 90000) :
    Calls Try.prog 10 #[.pointer (some ⟨mb, 0, none⟩), .pointer (some ⟨xb, 0, none⟩), actV x] W fun e W' => e = .returned (.bool true) ∧ PL N w W' mb xb (a + 1) (b + csx x) := by
  obtain ⟨F, p⟩ := h.ex
  refine (act_any p h.nw ha x hx hb).mono ?_
  rintro e W' ⟨rfl, F', p', t⟩
  exact ⟨rfl, ⟨F', p'⟩, h.be.trans (p.to_below h.nw t), Nat.le_trans h.nw t.1.size⟩
/-- A new map and a new model. -/
theorem pl_new {O : Nat → Prop} (am : Am N O w W mb (fun _ => false) (fun _ => 0)) (W' : World) (hW : W' = W.alloc (.cells #[.slice none 0 0, .slice none 0 0, .slice none 0 0] 30)) : PL N w W' mb W.heap.size 0 0 := by
  obtain ⟨Ψ, ar, hΨ⟩ := am.ex
  have k : Below W.heap.size W W' := by rw [hW]; exact below_alloc _ _
  have own : ∀ z, ownM W.heap.size (.slice none 0 0) (.slice none 0 0) (.slice none 0 0) z → z = W.heap.size := fun z hz => by
    rcases hz with u | u | u | u
    · exact u
    all_goals simp [Value.ownBlock] at u
  have nn : (Value.slice none 0 0).ownBlock = none := rfl
  refine ⟨⟨fpP Ψ W.heap.size (.slice none 0 0) (.slice none 0 0) (.slice none 0 0), Ψ, .slice none 0 0, .slice none 0 0, .slice none 0 0, fun _ => false, fun _ => 0, [], [], [], ⟨ar.below k, ⟨?_, World.ownsRow_nil _ _ _ _, World.ownsRow_nil _ _ _ _, World.ownsRow_nil _ _ _ _, am.nw, ?_, ?_, ?_, ?_, ?_, ?_⟩, fun z hz u => ?_, fun z hz => (hΨ z hz).1, ⟨fun c => by simp, List.nodup_nil, fun q => rfl, rfl, fun q hq => by cases hq⟩⟩, fun _ => Iff.rfl, Nat.le_refl _, Nat.le_refl _⟩, am.be.trans (k.mono am.nw), Nat.le_trans am.nw k.size⟩
  · rw [hW]; exact World.alloc_heap_new W _
  · rw [nn]; simp
  · rw [nn]; simp
  · rw [nn]; simp
  · intro g hg; rw [nn] at hg; cases hg
  · intro g hg; rw [nn] at hg; cases hg
  · intro g hg; rw [nn] at hg; cases hg
  · have := own z u
    have := ar.lt z hz
    omega
theorem pl_chunks (h : PL N w W mb xb a b) : Calls Try.prog 9 #[.pointer (some ⟨mb, 0, none⟩)] W fun e W' => (∃ B0 : Nat, e = .returned (.func (.func 19) #[] #[.pointer (some ⟨B0, 0, none⟩)])) ∧ PL N w W' mb xb a b := by
  obtain ⟨F, Ψ, v0, v1, v2, C, V, cs, ps, is, p, r⟩ := h.ex
  refine (chunks_any p.ar).mono ?_
  rintro e W' ⟨B0, v, L, rfl, f1, f2, f3, f4⟩
  exact ⟨⟨B0, rfl⟩, h.read f4⟩
end
theorem func_nil (B0 : Nat) (w : World) : (binOp .eql 32 (.func (.func 19) #[] #[.pointer (some ⟨B0, 0, none⟩)]) .nilFunc).run Try.prog w = .ok (.bool false) w := by kernel_rfl
set_option maxRecDepth 100000 in
set_option maxHeartbeats 4000000 in
theorem plays_in (o : Option Addr) (len cap : Nat) (w : World) (X : Nat → ActV) (hX : ActsAt w o len cap X) (hlen : len ≤ maxLen) :
    Calls Try.prog 3 #[.slice o len cap] w fun e w' => e = .returned (.bool true) ∧ Below w.heap.size w w' := by
  obtain ⟨R, hR⟩ : ∃ R : Ending → World → Prop, R = fun e w' => e = .returned (.bool true) ∧ Below w.heap.size w w' := ⟨_, rfl⟩
  rw [← hR]
  have FIN := hide (show ∀ W, Below w.heap.size w W → R (.returned (.bool true)) W from fun W h => by rw [hR]; exact ⟨rfl, h⟩)
  have CH := hide (heavy_any w o len cap X hX hlen)
  have HX := hide hX
  have CN := hide (am_new (N := w.heap.size) (O := fun _ => False) (w := w) (Below.refl _ w) (Nat.le_refl _) (fun _ f => f.elim))
  clear hR hX hlen
  go_enter Try.func3, Try.ntmps3
  go_wp2_with fail
  refine CH.out.mono ?_
  rintro e w1 ⟨(rfl | ⟨rfl, hl, hg⟩), hw⟩
  · rw [hw]
    clear hw
    go_wp2_with fail
    have F := FIN.out w (Below.refl _ w)
    first | exact F | (go_ret; exact F)
  rw [hw]
  clear hw CH
  have HL := hide (And.intro hl hg)
  clear hl hg
  go_wp2_with fail
  refine CN.out.mono ?_
  rintro e w2 ⟨mb, rfl, am, -⟩
  have AM := hide am
  clear am CN
  go_wp2_with fail
  obtain ⟨w3, hw3⟩ : ∃ w3, w2.alloc (.cells #[.slice none 0 0, .slice none 0 0, .slice none 0 0] 30) = w3 := ⟨_, rfl⟩
  rw [hw3]
  obtain ⟨xb, hxb⟩ : ∃ xb, w2.heap.size = xb := ⟨_, rfl⟩
  have P3 := hide (pl_new AM.out w3 hw3.symm)
  rw [hxb] at P3
  simp only [hxb]
  clear AM hw3 hxb w2
  have CC := hide (pl_chunks P3.out)
  refine CC.out.mono ?_
  rintro e w4 ⟨⟨B0, rfl⟩, p4⟩
  have P4 := hide p4
  have fnil := func_nil B0 w4
  clear CC P3 p4 w3
  go_wp2_with fail
  clear fnil
  go_loopw [5] (fun vi wr => ∃ i : Nat, vi = .int .i64 (i : Nat) ∧ i ≤ len ∧ Hid (PL w.heap.size w wr mb xb i (gsum X i))) (fun vi _ => len - (zi vi).toNat)
  case atStart => exact ⟨0, rfl, by omega, P4⟩
  case round =>
    clear P4
    obtain ⟨i, rfl, hi, HP⟩ := hrel
    have hll := HL.out.1
    have hgg := HL.out.2
    by_cases c : i < len
    · have d : decide ((i : Int) < (len : Int)) = true := decide_eq_true (by omega)
      obtain ⟨bl, off, rfl, hbl, hcl⟩ := HX.out.at c
      have cc := hcl i c
      have be := HP.out.be
      have e0 := (be.cell (p := ⟨bl, off + i * 4, none⟩) hbl).trans cc.1
      have e1 := (be.cell (p := ⟨bl, off + i * 4 + 1, none⟩) hbl).trans cc.2.1
      have e2 := (be.cell (p := ⟨bl, off + i * 4 + 2, none⟩) hbl).trans cc.2.2.1
      have e3 := (be.cell (p := ⟨bl, off + i * 4 + 3, none⟩) hbl).trans cc.2.2.2
      have gm := gsum_mono X (i := i + 1) (j := len) c
      have g1 : gsum X (i + 1) = gsum X i + csx (X i) := rfl
      have CA := hide (pl_act HP.out (by omega) (X i) (HX.out.ok i) (by omega))
      rw [← g1] at CA
      unfold actV at CA
      have i9 : (i : Int) < 200 := by omega
      have i0 : 0 ≤ (i : Int) := by omega
      have pw : IntKind.i64.wrap ((i : Int) + 1) = (i : Int) + 1 := by rw [IntKind.wrap_i64]; omega
      clear hcl cc be hbl gm g1 hgg HP
      go_wp2_with fail
      refine CA.out.mono ?_
      rintro e W5 ⟨rfl, p5⟩
      have P5 := hide p5
      clear p5 CA e0 e1 e2 e3
      go_wp2_with fail
      exact ⟨⟨i + 1, by push_cast; rfl, by omega, P5⟩, by simp [zi]; omega⟩
    · have d : decide ((i : Int) < (len : Int)) = false := decide_eq_false (by omega)
      obtain ⟨F, Ψ, v0, v1, v2, C, V, cs, ps, is, pr, hF, l1, l2⟩ := HP.out.ex
      have el : i = len := by omega
      have l3 : ps.length ≤ 20000 := by rw [el] at l2; omega
      have PX0 := hide (show PX w.heap.size wr mb xb F 200 20000 from ⟨Ψ, v0, v1, v2, C, V, cs, ps, is, pr, hF, by omega, l3⟩)
      have PR := hide pr
      have BE := hide (And.intro HP.out.be HP.out.nw)
      obtain ⟨m, hm⟩ : ∃ m, ps.length = m := ⟨_, rfl⟩
      rw [hm] at l3
      have HM := hide hm
      have rr := row_cells pr.mo.r1 (by simp)
      rw [hm] at rr
      have shape : ∃ o cap, v1 = .slice o m cap := by
        rcases rr with ⟨a, b⟩ | ⟨g, cap, a, _⟩
        · exact ⟨none, 0, by rw [a, b]⟩
        · exact ⟨_, cap, a⟩
      obtain ⟨o1, cap1, rfl⟩ := shape
      have RR := hide rr
      clear rr hm l1 l2 hF pr HP hll hgg el hi HX HL
      obtain ⟨Wa, rfl⟩ : ∃ Wa, Wa = wr := ⟨_, rfl⟩
      go_wp2_with fail
      go_loopw [6] (fun vi X' => ∃ j : Nat, vi = .int .i64 (j : Nat) ∧ j ≤ 30000 ∧ Hid (Below Wa.heap.size Wa X')) (fun vi _ => m - (zi vi).toNat)
      case atStart => exact ⟨0, rfl, by omega, hide (Below.refl _ _)⟩
      case round =>
        obtain ⟨j, rfl, hj, HB⟩ := hrel
        have P1 := hide (PX0.out.below HB.out)
        have pr := PR.out.kept (Kept.of_below (F := fun _ => False) HB.out) (fun _ _ f => f)
        have y1 := pr.mo.bk.cell 1 (.slice o1 m cap1) rfl
        have lx := pr.mo.bk.lt
        by_cases c2 : j < m
        · have d2 : decide ((j : Int) < (m : Int)) = true := decide_eq_true (by omega)
          rcases RR.out with ⟨_, z⟩ | ⟨g, cap', z, _, lg, hcell, _⟩
          · omega
          obtain ⟨rfl, -⟩ : o1 = some ⟨g, 0, none⟩ ∧ True := by simp at z; exact ⟨z.1, trivial⟩
          have jl : j < ps.length := by rw [HM.out]; exact c2
          have cx := (HB.out.cell (p := ⟨g, j, none⟩) lg).trans (hcell j c2)
          rw [List.getElem?_map, List.getElem?_eq_getElem jl] at cx
          simp only [Option.map_some, encU] at cx
          have pg := PR.out.rel.pg ps[j] (List.getElem_mem jl)
          obtain ⟨p, hp⟩ : ∃ p, ps[j] = p := ⟨_, rfl⟩
          rw [hp] at cx pg
          obtain ⟨v, hat⟩ := px_atv P1.out (by omega) (p * 8192 + 8192 - 1) (p * 8192) (by omega) (by omega) (by omega)
          have C1 := fun (n : Ext wr) => hide (hat n.v n.h).1
          have C2 := fun (n : Ext wr) => hide (hat n.v n.h).2
          simp only [show ((p * 8192 + 8192 - 1 : Nat) : Int) = (p : Int) * 8192 + 8192 - 1 by omega] at C1
          simp only [show ((p * 8192 : Nat) : Int) = (p : Int) * 8192 by omega] at C2
          have q0 : 0 ≤ (p : Int) := by omega
          have q1 : (p : Int) < 34359738368 := by omega
          have j0 : 0 ≤ (j : Int) := by omega
          have j1 : (j : Int) < (m : Int) := by omega
          have j2 : (m : Int) ≤ 20000 := by omega
          have lg2 : g < wr.heap.size := Nat.lt_of_lt_of_le lg HB.out.size
          obtain ⟨P, hP⟩ : ∃ P : Int, (p : Int) = P := ⟨_, rfl⟩
          simp only [hP] at C1 C2 cx q0 q1
          have w1 : IntKind.u64.wrap (P * 8192) = P * 8192 := by rw [IntKind.wrap_u64]; omega
          have w2 : IntKind.u64.wrap (P * 8192 + 8192) = P * 8192 + 8192 := by rw [IntKind.wrap_u64]; omega
          have w3 : IntKind.u64.wrap (P * 8192 + 8192 - 1) = P * 8192 + 8192 - 1 := by rw [IntKind.wrap_u64]; omega
          have hx := @ext_cell wr
          have hne := ext_ne wr
          clear hat pr hcell z hp pg hP
          go_wp2_with fail
          refine wp_region_calm (by kernel_rfl) (by kernel_rfl) ?_
          repeat (first | go_big_quiet_step (first | exact calm_of (C1 _).out | exact calm_same (C2 _).out) | (refine wpQuiet_step (fun K hK => ?_); go_simp; refine hK _ ?_; clear hK K))
          refine wpQuiet_nil ?_
          rintro _ ⟨n3, rfl⟩
          have B3 := hide (HB.out.trans (n3.h.mono HB.out.size))
          generalize n3.v = Z at *
          clear n3 hx hne C1 C2 cx y1 lx lg2 P1 HB
          have jj : (j : Int) / 60 ≤ 1000 := by omega
          have jk : 0 ≤ (j : Int) / 60 := by omega
          go_wp2_with fail
          exact ⟨⟨j + (1 + j / 60), by push_cast; rfl, by omega, B3⟩, by simp [zi]; omega⟩
        · have d2 : decide ((j : Int) < (m : Int)) = false := decide_eq_false (by omega)
          have P2 := hide (show PL w.heap.size w wr mb xb 200 20000 from ⟨⟨F, P1.out⟩, BE.out.1.trans (HB.out.mono BE.out.2), Nat.le_trans BE.out.2 HB.out.size⟩)
          have CA := hide (show Calls Try.prog 10 #[.pointer (some ⟨mb, 0, none⟩), .pointer (some ⟨xb, 0, none⟩), .agg #[.int .i64 4, .int .u64 0, .int .u64 0, .int .i64 0]] wr (fun e W' => e = .returned (.bool true) ∧ PL w.heap.size w W' mb xb (200 + 1) (20000 + csx ⟨4, 0, 0, 0⟩)) from
            pl_act P2.out (by omega) ⟨4, 0, 0, 0⟩ ⟨by decide, by decide, by decide, by decide, by decide, by decide⟩ (by decide))
          clear pr P1
          go_wp2_with fail
          refine CA.out.mono ?_
          rintro e W6 ⟨rfl, p6⟩
          have P6 := hide p6
          have CW := hide (awake_any W6)
          clear p6 CA
          go_wp2_with fail
          refine CW.out.mono ?_
          rintro e W7 ⟨rfl, k7⟩
          have FF := hide (FIN.out W7 (P6.out.read k7).be)
          clear CW k7
          go_wp2_with fail
          first | exact FF.out | (go_ret; exact FF.out)
end Go.Proofs.Ytdcjldpbgickmaa
