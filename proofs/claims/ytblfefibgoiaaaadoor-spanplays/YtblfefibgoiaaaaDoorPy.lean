/- SpanPlays, walked. -/
import Derived.Test.YtblfefibgoiaaaaDoorAc
import Derived.Test.YtblfefibgoiaaaaDoorGl
namespace Go.Proofs.YtblfefibgoiaaaaDoor
open Go.ChangeShapes Go.WideShapes Go.ChangeAt Go.RowKit Go.Proofs.Sn Go.Shelf
set_option linter.unusedVariables false
set_option linter.unusedSimpArgs false

attribute [local go_sem] Oper.semAt_some

theorem new_any (page pages : Nat) (number : Int) (noptr : Bool) (h1 : page < 18446744073709551616) (h2 : pages < 18446744073709551616) (W : World) :
    Calls Tryd.prog 9 #[.int .u64 (page : Nat), .int .u64 (pages : Nat), .int .i64 number, .bool noptr] W fun e W' => (∃ q x, e = .returned (.tuple #[.pointer q, .int .i64 x])) ∧ Below W.heap.size W W' := by
  cases c1 : rpB page pages with
  | false => exact (new_pages page pages number noptr h1 h2 c1 W).mono fun e W' ⟨he, hw⟩ => ⟨⟨_, _, he⟩, by rw [hw]; exact Below.refl _ _⟩
  | true =>
    cases c2 : elemOf pages number with
    | none => exact (new_class page pages number noptr c1 c2 W).mono fun e W' ⟨he, b⟩ => ⟨⟨_, _, he⟩, b⟩
    | some el => exact (new_made page pages number noptr el c1 c2 W).mono fun e W' ⟨sb, he, _, _, b⟩ => ⟨⟨_, _, he⟩, b⟩
theorem new_none (page pages : Nat) (number : Int) (noptr : Bool) (h1 : page < 18446744073709551616) (h2 : pages < 18446744073709551616) (h : rpB page pages = false ∨ elemOf pages number = none) (W : World) :
    Calls Tryd.prog 9 #[.int .u64 (page : Nat), .int .u64 (pages : Nat), .int .i64 number, .bool noptr] W fun e W' => e = .returned (.tuple #[.pointer none, .int .i64 1]) ∧ Below W.heap.size W W' := by
  cases c1 : rpB page pages with
  | false => exact (new_pages page pages number noptr h1 h2 c1 W).mono fun e W' ⟨he, hw⟩ => ⟨he, by rw [hw]; exact Below.refl _ _⟩
  | true => exact new_class page pages number noptr c1 (h.resolve_left (by rw [c1]; simp)) W
theorem elem_rt {page pages : Nat} {number : Int} {el : Nat} (h : rpB page pages = true) (he : elemOf pages number = some el) : rtB page pages = true := by
  have := elem_le he (rp_le h).1
  unfold rtB
  rw [h, decide_eq_true this.2.2.1]
  rfl
theorem rnew_made (page pages : Nat) (number : Int) (noptr : Bool) (el : Nat) (h : rpB page pages = true) (he : elemOf pages number = some el) (W : World) :
    Calls Tryd.prog 10 #[.int .u64 (page : Nat), .int .u64 (pages : Nat), .int .i64 number, .bool noptr] W fun e W' => ∃ rb, e = .returned (.tuple #[.pointer (some ⟨rb, 0, none⟩), .int .i64 0]) ∧ RMade W W' rb page (geo page pages number.toNat noptr el) 1 := by
  have rt := elem_rt h he
  have ee := elem_le he (rp_le h).1
  by_cases c0 : number = 0
  · subst c0
    have : el = pages * 8192 := by
      unfold elemOf at he
      rw [if_pos rfl, if_pos ee.2.2.1] at he
      exact (Option.some.inj he).symm
    subst this
    exact rnew_zero page pages noptr rt W
  · obtain ⟨k, rfl⟩ : ∃ k : Nat, number = k := ⟨number.toNat, by omega⟩
    obtain ⟨cl, hcl⟩ := table_some (k := k) (by omega)
    unfold elemOf at he
    rw [if_neg c0, if_neg (by omega), Int.toNat_natCast, hcl] at he
    simp only [] at he
    split at he
    · rename_i c2
      have := Option.some.inj he
      subst this
      subst c2
      rw [Int.toNat_natCast]
      exact rnew_cls page k noptr rt (by omega) (by omega) hcl W
    · cases he
theorem rnew_none (page pages : Nat) (number : Int) (noptr : Bool) (h1 : page < 18446744073709551616) (h2 : pages < 18446744073709551616) (h : rpB page pages = false ∨ elemOf pages number = none) (W : World) :
    Calls Tryd.prog 10 #[.int .u64 (page : Nat), .int .u64 (pages : Nat), .int .i64 number, .bool noptr] W fun e W' => e = .returned (.tuple #[.pointer none, .int .i64 1]) ∧ Below W.heap.size W W' := by
  by_cases c1 : rtB page pages = false ∨ number < 0 ∨ 67 < number
  · exact (rnew_right page pages number noptr h1 h2 c1 W).mono fun e W' ⟨he, hw⟩ => ⟨he, by rw [hw]; exact Below.refl _ _⟩
  · have rt : rtB page pages = true := by
      cases q : rtB page pages with
      | true => rfl
      | false => exact absurd (.inl q) c1
    have le := rt_le rt
    have hn := h.resolve_left (by rw [le.1]; simp)
    by_cases c0 : number = 0
    · subst c0
      unfold elemOf at hn
      rw [if_pos rfl, if_pos le.2] at hn
      cases hn
    · obtain ⟨k, rfl⟩ : ∃ k : Nat, number = k := ⟨number.toNat, by omega⟩
      obtain ⟨cl, hcl⟩ := table_some (k := k) (by omega)
      unfold elemOf at hn
      rw [if_neg c0, if_neg (by omega), Int.toNat_natCast, hcl] at hn
      simp only [] at hn
      split at hn
      · cases hn
      · rename_i c2
        exact rnew_class page pages k noptr rt (by omega) (by omega) hcl c2 W
theorem rnew_any (page pages : Nat) (number : Int) (noptr : Bool) (h1 : page < 18446744073709551616) (h2 : pages < 18446744073709551616) (W : World) :
    Calls Tryd.prog 10 #[.int .u64 (page : Nat), .int .u64 (pages : Nat), .int .i64 number, .bool noptr] W fun e W' => (∃ q x, e = .returned (.tuple #[.pointer q, .int .i64 x])) ∧ Below W.heap.size W W' := by
  by_cases c : rpB page pages = false ∨ elemOf pages number = none
  · exact (rnew_none page pages number noptr h1 h2 c W).mono fun e W' ⟨he, b⟩ => ⟨⟨_, _, he⟩, b⟩
  · have c1 : rpB page pages = true := by
      cases q : rpB page pages with
      | true => rfl
      | false => exact absurd (.inl q) c
    cases c2 : elemOf pages number with
    | none => exact absurd (.inr c2) c
    | some el => exact (rnew_made page pages number noptr el c1 c2 W).mono fun e W' ⟨rb, he, _, _, _, _, _, _, _, b, _⟩ => ⟨⟨_, _, he⟩, b⟩
theorem RfAt.le {N N' : Nat} {W : World} {rb : Nat} {v1 v2 : Value} {p : Nat} {G : Geo} {st look : Nat} {L1 L2 : List Bool} (h : RfAt N W rb v1 v2 p G st L1 L2 look) (hN : N' ≤ N) : RfAt N' W rb v1 v2 p G st L1 L2 look :=
  ⟨h.bk, ownsRow_le h.w1 hN, ownsRow_le h.w2 hN, Nat.le_trans hN h.x, h.n0, h.n1, h.n2, h.l1, h.l2⟩
theorem PP.start {N : Nat} {w W1 W2 : World} {sb rb page st : Nat} {G : Geo} (l : LS N w W1 sb (fun _ => False) G (St.new st)) (m : RMade W1 W2 rb page G st) (hp : G.base = page * 8192) : PP N w W2 sb rb page G (fun _ => False) (St.new st) (St.new st) := by
  obtain ⟨v1, v2, L1, L2, a, b, c, be, ow⟩ := m
  have a' := a.le l.nw
  refine ⟨ownS rb v1 v2, l.made be (fun z hz => .inr ?_), ⟨⟨v1, v2, L1, L2, a', b, c, fun _ => Iff.rfl⟩, hp⟩, fun z hz => hz.elim⟩
  rcases hz with y | y
  · exact ⟨ow z y, (a.own y).2⟩
  · exact y.elim
set_option maxRecDepth 100000 in
set_option maxHeartbeats 4000000 in
theorem plays_in (pn qn : Nat) (hp : pn < 18446744073709551616) (hq : qn < 18446744073709551616) (cls elem : Int) (man np : Bool) (e1 : elem ≤ 9223372036854775807) (o0 : Option Addr) (l0 c0 : Nat) (w : World) (hT : TabW w) (X : Nat → ActV) (hX : ActsAt w o0 l0 c0 X) :
    Calls Tryd.prog 3 #[.int .u64 (pn : Nat), .int .u64 (qn : Nat), .int .i64 cls, .int .i64 elem, .bool man, .bool np, .slice o0 l0 c0] w fun e w' => e = .returned (.bool true) ∧ Below w.heap.size w w' := by
  obtain ⟨R, hR⟩ : ∃ R : Ending → World → Prop, R = fun e w' => e = .returned (.bool true) ∧ Below w.heap.size w w' := ⟨_, rfl⟩
  rw [← hR]
  have FIN := hide (show ∀ W, Below w.heap.size w W → R (.returned (.bool true)) W from fun W h => by rw [hR]; exact ⟨rfl, h⟩)
  clear hR
  have HX := hide hX
  have HT := hide hT
  clear hX hT
  have CN := hide (fun W => new_any pn qn cls np hp hq W)
  have CRN := hide (fun W => rnew_any pn qn cls np hp hq W)
  have CZ := hide (fun h W => new_none pn qn cls np hp hq h W)
  have CRZ := hide (fun h W => rnew_none pn qn cls np hp hq h W)
  have CMZ := hide (fun h W => manual_no pn qn elem hp hq h W)
  have CRMZ := hide (fun h W => rmanual_no pn qn elem hp hq h W)
  have AWK := hide (fun W (b : Below w.heap.size w W) => awake13 W (HT.out.below HT.out.lt b))
  obtain ⟨P, hP⟩ : ∃ P : Int, (pn : Int) = P := ⟨_, rfl⟩
  obtain ⟨Q, hQ⟩ : ∃ Q : Int, (qn : Int) = Q := ⟨_, rfl⟩
  have HQ := hide hQ
  have HPQ := hide (And.intro hp hq)
  have HPP := hide hP
  rw [hP, hQ]
  rw [hP, hQ] at CN CRN CZ CRZ CMZ CRMZ
  have Q0 : 0 ≤ Q := by omega
  have Q1 : Q ≤ 18446744073709551615 := by omega
  clear hP hQ hp hq
  by_cases c3 : 300 < l0
  · have dc3 : decide ((300 : Int) < (l0 : Int)) = true := decide_eq_true (by omega)
    clear CN CRN CZ CRZ CMZ CRMZ AWK Q0 Q1
    go_enter Tryd.func3, Tryd.ntmps3
    go_wp2_with fail
    have F := FIN.out w (Below.refl _ w)
    first | exact F | (go_ret; exact F)
  have dc3 : decide ((300 : Int) < (l0 : Int)) = false := decide_eq_false (by omega)
  have hl : l0 ≤ 300 := by omega
  cases man with
  | false =>
    clear CN CRN CMZ CRMZ Q0 Q1
    by_cases ce : rpB pn qn = false ∨ elemOf qn cls = none
    · clear HX
      have C1 := hide (CZ.out ce w)
      go_enter Tryd.func3, Tryd.ntmps3
      go_wp2_with fail
      refine C1.out.mono ?_
      rintro e W1 ⟨rfl, b1⟩
      have C2 := hide (CRZ.out ce W1)
      have B1 := hide b1
      clear C1 b1
      go_wp2_with fail
      refine C2.out.mono ?_
      rintro e W2 ⟨rfl, b2⟩
      have B2 := hide (B1.out.trans (b2.mono B1.out.size))
      clear C2 b2
      have FA := hide (AWK.out W2 B2.out)
      go_wp2_with fail
      refine FA.out.mono ?_
      rintro e WZ ⟨rfl, bz⟩
      have FF := hide (FIN.out WZ ((B2.out).trans (bz.mono (B2.out).size)))
      clear FA bz
      go_wp2_with fail
      first | exact FF.out | (go_ret; exact FF.out)
    · clear CZ CRZ
      have c1 : rpB pn qn = true := by
        cases q : rpB pn qn with
        | true => rfl
        | false => exact absurd (.inl q) ce
      obtain ⟨el, c2⟩ : ∃ el, elemOf qn cls = some el := by
        cases q : elemOf qn cls with
        | none => exact absurd (.inr q) ce
        | some el => exact ⟨el, rfl⟩
      have C1 := hide (ls_new (N := w.heap.size) (w := w) (W := w) (fun _ => False) (fun _ f => f.elim) (Below.refl _ _) (Nat.le_refl _) HT.out HT.out.lt pn qn cls np el c1 c2)
      have C2 := hide (fun W => rnew_made pn qn cls np el c1 c2 W)
      have GB : (geo pn qn cls.toNat np el).base = pn * 8192 := rfl
      obtain ⟨G, hG⟩ : ∃ G, geo pn qn cls.toNat np el = G := ⟨_, rfl⟩
      rw [hG] at C1 C2 GB
      rw [HPP.out, HQ.out] at C1 C2
      have HGB := hide GB
      clear hG GB c1 c2 ce
      go_enter Tryd.func3, Tryd.ntmps3
      go_wp2_with fail
      refine C1.out.mono ?_
      rintro e W1 ⟨sb, rfl, l1, -⟩
      have C3 := hide (C2.out W1)
      have L1 := hide l1
      clear C1 C2 l1
      go_wp2_with fail
      refine C3.out.mono ?_
      rintro e W2 ⟨rb, rfl, m2⟩
      have P0 := hide (PP.start L1.out m2 HGB.out)
      clear C3 L1 m2
      go_wp2_with fail
      go_loopw [19] (fun vi wr => ∃ (i : Nat) (S : St), vi = .int .i64 (i : Nat) ∧ i ≤ l0 ∧ Hid (PP w.heap.size w wr sb rb pn G (fun _ => False) S S)) (fun vi _ => l0 - (zi vi).toNat)
      case atStart => exact ⟨0, _, rfl, by omega, P0⟩
      case round =>
        clear P0
        obtain ⟨i, S, rfl, hi, HP⟩ := hrel
        by_cases c : i < l0
        · have d : decide ((i : Int) < (l0 : Int)) = true := decide_eq_true (by omega)
          obtain ⟨b0, f0, rfl, hb0, hc0⟩ := HX.out.at c
          obtain ⟨y0, y1, y2⟩ := hc0 i c
          have z0 := (HP.out.be.cell (p := ⟨b0, f0 + i * 3, none⟩) hb0).trans y0
          have z1 := (HP.out.be.cell (p := ⟨b0, f0 + i * 3 + 1, none⟩) hb0).trans y1
          have z2 := (HP.out.be.cell (p := ⟨b0, f0 + i * 3 + 2, none⟩) hb0).trans y2
          have ok := HX.out.ok i
          have CA := hide (act_any HP.out (X i).what (X i).i (X i).n ok.b0 ok.b1 ok.c0 ok.c1)
          have i0 : 0 ≤ (i : Int) := by omega
          have i1 : (i : Int) < (l0 : Int) := by omega
          have pw : IntKind.i64.wrap ((i : Int) + 1) = (i : Int) + 1 := by rw [IntKind.wrap_i64]; omega
          generalize X i = x at *
          obtain ⟨xw, xi, xn⟩ := x
          dsimp only at z0 z1 z2 CA
          clear y0 y1 y2 hb0 hc0 ok HP
          go_wp2_with fail
          refine CA.out.mono ?_
          rintro e W5 ⟨rfl, S', p5⟩
          have CS := hide (same_any p5)
          clear CA p5 z0 z1 z2
          go_wp2_with fail
          refine CS.out.mono ?_
          rintro e W6 ⟨rfl, p6⟩
          have P6 := hide p6
          clear CS p6
          go_wp2_with fail
          exact ⟨⟨i + 1, S', by push_cast; rfl, by omega, P6⟩, by simp only [zi]; omega⟩
        · have d : decide ((i : Int) < (l0 : Int)) = false := decide_eq_false (by omega)
          have FA := hide (AWK.out wr HP.out.be)
          go_wp2_with fail
          refine FA.out.mono ?_
          rintro e WZ ⟨rfl, bz⟩
          have FF := hide (FIN.out WZ (HP.out.read bz).be)
          clear FA bz
          go_wp2_with fail
          first | exact FF.out | (go_ret; exact FF.out)
  | true =>
    clear CZ CRZ
    by_cases ce0 : 0 < elem
    · have de0 : decide (0 < elem) = true := decide_eq_true ce0
      by_cases ce1 : Q < 1073741824
      · have de1 : decide (Q < 1073741824) = true := decide_eq_true ce1
        have wQ : IntKind.u64.wrap (Q * 8192) = Q * 8192 := by rw [IntKind.wrap_u64]; omega
        have wE : IntKind.u64.wrap elem = elem := by rw [IntKind.wrap_u64]; omega
        have zE : (elem == 0) = false := by simp; omega
        have tq : (Q * 8192).tdiv elem = Q * 8192 / elem := Int.tdiv_eq_ediv_of_nonneg (by omega)
        have q9 : 0 ≤ Q * 8192 / elem := Int.ediv_nonneg (by omega) (by omega)
        have q8 : Q * 8192 / elem ≤ Q * 8192 := Int.ediv_le_self _ (by omega)
        have wD : IntKind.u64.wrap (Q * 8192 / elem) = Q * 8192 / elem := by rw [IntKind.wrap_u64]; omega
        by_cases ce2 : 65536 < Q * 8192 / elem
        · have de2 : decide (65536 < Q * 8192 / elem) = true := decide_eq_true ce2
          clear CN CRN CMZ CRMZ AWK
          go_enter Tryd.func3, Tryd.ntmps3
          go_wp2_with fail
          have F := FIN.out w (Below.refl _ w)
          first | exact F | (go_ret; exact F)
        · have de2 : decide (65536 < Q * 8192 / elem) = false := decide_eq_false ce2
          by_cases cn : manB pn qn elem = false
          · have cm := cn
            clear HX cn
            have C4 := hide (fun W => CMZ.out cm W)
            have C5 := hide (fun W => CRMZ.out cm W)
            have C1 := hide (CN.out w)
            go_enter Tryd.func3, Tryd.ntmps3
            go_wp2_with fail
            refine C1.out.mono ?_
            rintro e W1 ⟨⟨q1, x1, rfl⟩, b1⟩
            have C2 := hide (CRN.out W1)
            have B1 := hide b1
            clear C1 b1
            go_wp2_with fail
            refine C2.out.mono ?_
            rintro e W2 ⟨⟨q2, x2, rfl⟩, b2⟩
            have B2 := hide (B1.out.trans (b2.mono B1.out.size))
            clear C2 b2
            go_wp2_with fail
            refine (C4.out _).mono ?_
            rintro e W3 ⟨rfl, hw⟩
            rw [hw]
            clear hw C4
            go_wp2_with fail
            refine (C5.out _).mono ?_
            rintro e W3 ⟨rfl, hw⟩
            rw [hw]
            clear hw C5
            have FA := hide (AWK.out W2 B2.out)
            go_wp2_with fail
            refine FA.out.mono ?_
            rintro e WZ ⟨rfl, bz⟩
            have FF := hide (FIN.out WZ ((B2.out).trans (bz.mono (B2.out).size)))
            clear FA bz
            go_wp2_with fail
            first | exact FF.out | (go_ret; exact FF.out)
          · clear CMZ CRMZ
            have cm : manB pn qn elem = true := by
              cases q : manB pn qn elem with
              | true => rfl
              | false => exact absurd q cn
            have ml := man_le cm
            obtain ⟨el, hel⟩ : ∃ el : Nat, (el : Int) = elem := ⟨elem.toNat, by omega⟩
            rw [← hel] at cm
            have sq : qn * 8192 / el ≤ 65536 := by
              have h1 : ((qn * 8192 / el : Nat) : Int) = Q * 8192 / elem := by rw [Int.natCast_ediv, hel, ← HQ.out]; push_cast; rfl
              omega
            have C4 := hide (fun W (b : Below w.heap.size w W) => ls_manual (N := w.heap.size) (w := w) (W := W) (fun _ => False) (fun _ f => f.elim) b b.size (HT.out.below HT.out.lt b) HT.out.lt pn qn el cm sq)
            have C5 := hide (fun W => rmanual_made pn qn el cm W)
            have GB : (geo pn qn 0 false el).base = pn * 8192 := rfl
            obtain ⟨G, hG⟩ : ∃ G, geo pn qn 0 false el = G := ⟨_, rfl⟩
            rw [hG] at C4 C5 GB
            rw [HPP.out, HQ.out, hel] at C4 C5
            have HGB := hide GB
            clear hG GB cm ml sq hel
            have C1 := hide (CN.out w)
            go_enter Tryd.func3, Tryd.ntmps3
            go_wp2_with fail
            refine C1.out.mono ?_
            rintro e W1 ⟨⟨q1, x1, rfl⟩, b1⟩
            have C2 := hide (CRN.out W1)
            have B1 := hide b1
            clear C1 b1
            go_wp2_with fail
            refine C2.out.mono ?_
            rintro e W2 ⟨⟨q2, x2, rfl⟩, b2⟩
            have B2 := hide (B1.out.trans (b2.mono B1.out.size))
            clear C2 b2
            have C6 := hide (C4.out W2 B2.out)
            clear C4
            go_wp2_with fail
            refine C6.out.mono ?_
            rintro e W3 ⟨sb, rfl, l3, -⟩
            have C7 := hide (C5.out W3)
            have L3 := hide l3
            clear C6 C5 l3
            go_wp2_with fail
            refine C7.out.mono ?_
            rintro e W4 ⟨rb, rfl, m4⟩
            have P0 := hide (PP.start L3.out m4 HGB.out)
            clear C7 L3 m4
            go_wp2_with fail
            go_loopw [19] (fun vi wr => ∃ (i : Nat) (S : St), vi = .int .i64 (i : Nat) ∧ i ≤ l0 ∧ Hid (PP w.heap.size w wr sb rb pn G (fun _ => False) S S)) (fun vi _ => l0 - (zi vi).toNat)
            case atStart => exact ⟨0, _, rfl, by omega, P0⟩
            case round =>
              clear P0
              obtain ⟨i, S, rfl, hi, HP⟩ := hrel
              by_cases c : i < l0
              · have d : decide ((i : Int) < (l0 : Int)) = true := decide_eq_true (by omega)
                obtain ⟨b0, f0, rfl, hb0, hc0⟩ := HX.out.at c
                obtain ⟨y0, y1, y2⟩ := hc0 i c
                have z0 := (HP.out.be.cell (p := ⟨b0, f0 + i * 3, none⟩) hb0).trans y0
                have z1 := (HP.out.be.cell (p := ⟨b0, f0 + i * 3 + 1, none⟩) hb0).trans y1
                have z2 := (HP.out.be.cell (p := ⟨b0, f0 + i * 3 + 2, none⟩) hb0).trans y2
                have ok := HX.out.ok i
                have CA := hide (act_any HP.out (X i).what (X i).i (X i).n ok.b0 ok.b1 ok.c0 ok.c1)
                have i0 : 0 ≤ (i : Int) := by omega
                have i1 : (i : Int) < (l0 : Int) := by omega
                have pw : IntKind.i64.wrap ((i : Int) + 1) = (i : Int) + 1 := by rw [IntKind.wrap_i64]; omega
                generalize X i = x at *
                obtain ⟨xw, xi, xn⟩ := x
                dsimp only at z0 z1 z2 CA
                clear y0 y1 y2 hb0 hc0 ok HP
                go_wp2_with fail
                refine CA.out.mono ?_
                rintro e W5 ⟨rfl, S', p5⟩
                have CS := hide (same_any p5)
                clear CA p5 z0 z1 z2
                go_wp2_with fail
                refine CS.out.mono ?_
                rintro e W6 ⟨rfl, p6⟩
                have P6 := hide p6
                clear CS p6
                go_wp2_with fail
                exact ⟨⟨i + 1, S', by push_cast; rfl, by omega, P6⟩, by simp only [zi]; omega⟩
              · have d : decide ((i : Int) < (l0 : Int)) = false := decide_eq_false (by omega)
                have FA := hide (AWK.out wr HP.out.be)
                go_wp2_with fail
                refine FA.out.mono ?_
                rintro e WZ ⟨rfl, bz⟩
                have FF := hide (FIN.out WZ (HP.out.read bz).be)
                clear FA bz
                go_wp2_with fail
                first | exact FF.out | (go_ret; exact FF.out)
      · have de1 : decide (Q < 1073741824) = false := decide_eq_false ce1
        have cm : manB pn qn elem = false := by
          cases q : manB pn qn elem with
          | false => rfl
          | true => have h1 := (man_le q).2.1; have h2 := HQ.out; omega
        clear HX
        have C4 := hide (fun W => CMZ.out cm W)
        have C5 := hide (fun W => CRMZ.out cm W)
        have C1 := hide (CN.out w)
        go_enter Tryd.func3, Tryd.ntmps3
        go_wp2_with fail
        refine C1.out.mono ?_
        rintro e W1 ⟨⟨q1, x1, rfl⟩, b1⟩
        have C2 := hide (CRN.out W1)
        have B1 := hide b1
        clear C1 b1
        go_wp2_with fail
        refine C2.out.mono ?_
        rintro e W2 ⟨⟨q2, x2, rfl⟩, b2⟩
        have B2 := hide (B1.out.trans (b2.mono B1.out.size))
        clear C2 b2
        go_wp2_with fail
        refine (C4.out _).mono ?_
        rintro e W3 ⟨rfl, hw⟩
        rw [hw]
        clear hw C4
        go_wp2_with fail
        refine (C5.out _).mono ?_
        rintro e W3 ⟨rfl, hw⟩
        rw [hw]
        clear hw C5
        have FA := hide (AWK.out W2 B2.out)
        go_wp2_with fail
        refine FA.out.mono ?_
        rintro e WZ ⟨rfl, bz⟩
        have FF := hide (FIN.out WZ ((B2.out).trans (bz.mono (B2.out).size)))
        clear FA bz
        go_wp2_with fail
        first | exact FF.out | (go_ret; exact FF.out)
    · have de0 : decide (0 < elem) = false := decide_eq_false ce0
      have cm : manB pn qn elem = false := by
        cases q : manB pn qn elem with
        | false => rfl
        | true => have h1 := (man_le q).2.2.1; omega
      clear HX
      have C4 := hide (fun W => CMZ.out cm W)
      have C5 := hide (fun W => CRMZ.out cm W)
      have C1 := hide (CN.out w)
      go_enter Tryd.func3, Tryd.ntmps3
      go_wp2_with fail
      refine C1.out.mono ?_
      rintro e W1 ⟨⟨q1, x1, rfl⟩, b1⟩
      have C2 := hide (CRN.out W1)
      have B1 := hide b1
      clear C1 b1
      go_wp2_with fail
      refine C2.out.mono ?_
      rintro e W2 ⟨⟨q2, x2, rfl⟩, b2⟩
      have B2 := hide (B1.out.trans (b2.mono B1.out.size))
      clear C2 b2
      go_wp2_with fail
      refine (C4.out _).mono ?_
      rintro e W3 ⟨rfl, hw⟩
      rw [hw]
      clear hw C4
      go_wp2_with fail
      refine (C5.out _).mono ?_
      rintro e W3 ⟨rfl, hw⟩
      rw [hw]
      clear hw C5
      have FA := hide (AWK.out W2 B2.out)
      go_wp2_with fail
      refine FA.out.mono ?_
      rintro e WZ ⟨rfl, bz⟩
      have FF := hide (FIN.out WZ ((B2.out).trans (bz.mono (B2.out).size)))
      clear FA bz
      go_wp2_with fail
      first | exact FF.out | (go_ret; exact FF.out)
theorem plays_int (P Q : Int) (P0 : 0 ≤ P) (P1 : P ≤ 18446744073709551615) (Q0 : 0 ≤ Q) (Q1 : Q ≤ 18446744073709551615) (cls elem : Int) (man np : Bool) (e1 : elem ≤ 9223372036854775807) (o0 : Option Addr) (l0 c0 : Nat) (w : World) (hT : TabW w) (X : Nat → ActV) (hX : ActsAt w o0 l0 c0 X) :
    Calls Tryd.prog 3 #[.int .u64 P, .int .u64 Q, .int .i64 cls, .int .i64 elem, .bool man, .bool np, .slice o0 l0 c0] w fun e w' => e = .returned (.bool true) ∧ Below w.heap.size w w' := by
  obtain ⟨pn, rfl⟩ : ∃ n : Nat, P = n := ⟨P.toNat, by omega⟩
  obtain ⟨qn, rfl⟩ : ∃ n : Nat, Q = n := ⟨Q.toNat, by omega⟩
  exact plays_in pn qn (by omega) (by omega) cls elem man np e1 o0 l0 c0 w hT X hX
end Go.Proofs.YtblfefibgoiaaaaDoor
