/- The reference's span in memory: Sweep: contract. -/
import Derived.Test.YtblfefibgoiaaaaDoorRd
namespace Go.Proofs.YtblfefibgoiaaaaDoor
open Go.ChangeShapes Go.WideShapes Go.ChangeAt Go.RowKit Go.Proofs.Sn Go.Shelf
set_option linter.unusedVariables false
set_option linter.unusedSimpArgs false

attribute [local go_sem] Oper.semAt_some

section
variable {N : Nat} {W W' : World} {rb : Nat} {v1 v2 : Value} {p : Nat} {G : Geo} {st look : Nat} {L1 L2 : List Bool}
set_option maxRecDepth 100000 in
set_option maxHeartbeats 2000000 in
theorem rsweep_ok (h : RfAt N W rb v1 v2 p G 1 L1 L2 look) (hz : ∀ j, bl L2 j = true → bl L1 j = true) : Calls Tryd.prog 36 #[.pointer (some ⟨rb, 0, none⟩)] W fun e W' => ∃ vr, e = .returned (.tuple #[vr, .int .i64 0]) ∧ W'.ownsRow W.heap.size 3 1 vr (lsF (bl L1) (bl L2) L1.length).length ((lsF (bl L1) (bl L2) L1.length).map encI) ∧ RfTo N W W' rb v1 v2 p G 1 (bl L2) (fun _ => false) 0 ∧ ∃ v1', (∀ z, ownS rb v1' (.slice none 0 0) z → ownS rb v1 v2 z) := by
  obtain ⟨R, hR⟩ : ∃ R : Ending → World → Prop, R = fun e W' => ∃ vr, e = .returned (.tuple #[vr, .int .i64 0]) ∧ W'.ownsRow W.heap.size 3 1 vr (lsF (bl L1) (bl L2) L1.length).length ((lsF (bl L1) (bl L2) L1.length).map encI) ∧ RfTo N W W' rb v1 v2 p G 1 (bl L2) (fun _ => false) 0 ∧ ∃ v1', (∀ z, ownS rb v1' (.slice none 0 0) z → ownS rb v1 v2 z) := ⟨_, rfl⟩
  rw [← hR]
  have HR := hide hR
  clear hR
  have y : W.cell? ⟨rb, 2, none⟩ = some (.int .i64 1) := h.c2
  have y7 := h.c7
  have y8 := h.c8
  have H := hide h
  have HZ := hide hz
  have CA := hide (fun i => at_any h.w1 (by have := h.l1; omega) i)
  have l2 := h.l2
  have l1 := h.l1
  obtain ⟨o, cap, rfl⟩ := row_form h.w1
  obtain ⟨o', cap', rfl⟩ := row_form h.w2
  obtain ⟨m, hm⟩ : ∃ m : Nat, L2.length = m := ⟨_, rfl⟩
  obtain ⟨n, hn⟩ : ∃ n : Nat, L1.length = n := ⟨_, rfl⟩
  have HM := hide (And.intro hn hm)
  rw [hm] at y8 l2 H HR
  rw [hn] at y7 l1 H HR CA
  clear h hz hm hn
  go_enter Tryd.func36, Tryd.ntmps36
  go_wp2_with fail
  go_loopw [4] (fun vi wr => ∃ i : Nat, vi = .int .i64 (i : Nat) ∧ i ≤ m ∧ wr = W) (fun vi _ => m - (zi vi).toNat)
  case atStart => exact ⟨0, rfl, by omega, rfl⟩
  case round =>
    obtain ⟨i, rfl, hi, hw⟩ := hrel
    rw [hw]
    clear hw
    have pi3 : IntKind.i64.wrap ((i : Int) + 1) = (i : Int) + 1 := by rw [IntKind.wrap_i64]; omega
    by_cases c : i < m
    · have d : decide ((i : Int) < (m : Int)) = true := decide_eq_true (by omega)
      obtain ⟨g, c9, e', x1, -⟩ := bcellAt H.out.w2 (j := i) (by rw [HM.out.2]; exact c)
      obtain ⟨rfl, rfl⟩ : o' = some ⟨g, 0, none⟩ ∧ cap' = c9 := by rw [HM.out.2] at e'; simp at e'; exact e'
      have i0 : 0 ≤ (i : Int) := by omega
      have i1 : (i : Int) < (m : Int) := by omega
      have C := hide (CA.out (i : Int))
      rw [uat_nat] at C
      clear e'
      cases hm2 : bl L2 i with
      | false =>
        rw [hm2] at x1
        go_wp2_with fail
        exact ⟨⟨i + 1, by push_cast; rfl, by omega, trivial⟩, by simp only [zi]; omega⟩
      | true =>
        rw [hm2] at x1
        rw [HZ.out i hm2] at C
        go_wp2_with fail
        refine C.out.mono ?_
        rintro e W1 ⟨rfl, hw⟩
        rw [hw]
        clear hw C W1
        go_wp2_with fail
        exact ⟨⟨i + 1, by push_cast; rfl, by omega, trivial⟩, by simp only [zi]; omega⟩
    · have d : decide ((i : Int) < (m : Int)) = false := decide_eq_false (by omega)
      have S0 := hide (show SwI N W W rb (.slice o n cap) (.slice o' m cap') p G look L1 L2 0 (.slice none 0 0) L1 from ⟨H.out, rfl, fun j => by rw [if_neg (by omega)], World.ownsRow_nil _ _ _ _, Kept.refl _ _, fun z hz => (H.out.own hz).2⟩)
      clear CA H
      go_wp2_with fail
      clear y y7 y8
      go_loopw [5, 6] (fun vr vi wr => ∃ (i : Nat) (L : List Bool), vi = .int .i64 (i : Nat) ∧ i ≤ n ∧ Hid (SwI N W wr rb (.slice o n cap) (.slice o' m cap') p G look L1 L2 i vr L)) (fun _ vi _ => n - (zi vi).toNat)
      case atStart => exact ⟨0, L1, rfl, by omega, S0⟩
      case round =>
        clear S0
        obtain ⟨i, L, rfl, hi2, HS⟩ := hrel
        have y7 := HS.out.r.c7
        have y8 := HS.out.r.c8
        have pi4 : IntKind.i64.wrap ((i : Int) + 1) = (i : Int) + 1 := by rw [IntKind.wrap_i64]; omega
        by_cases c2 : i < n
        · have d2 : decide ((i : Int) < (n : Int)) = true := decide_eq_true (by omega)
          have hl : L.length = n := HS.out.len.trans HM.out.1
          obtain ⟨g, c9, e', x1, x2⟩ := bcellAt HS.out.r.w1 (j := i) (by rw [hl]; exact c2)
          obtain ⟨rfl, rfl⟩ : o = some ⟨g, 0, none⟩ ∧ cap = c9 := by rw [hl] at e'; simp at e'; exact e'
          rw [HS.out.eq, if_neg (by omega)] at x1
          have i0 : 0 ≤ (i : Int) := by omega
          have i1 : (i : Int) < (n : Int) := by omega
          have C := hide (at_any HS.out.r.w2 (by have := HS.out.r.l2; omega) (i : Int))
          rw [uat_nat] at C
          clear e'
          cases hu : bl L1 i with
          | false =>
            rw [hu] at x1
            have NS := hide (HS.out.skip (by rw [hu]; rfl))
            clear HS
            go_wp2_with fail
            exact ⟨⟨i + 1, L, by push_cast; rfl, by omega, NS⟩, by simp only [zi]; omega⟩
          | true =>
            rw [hu] at x1
            cases hm2 : bl L2 i with
            | true =>
              rw [hm2] at C
              have NS := hide (HS.out.skip (by rw [hu, hm2]; rfl))
              clear HS
              go_wp2_with fail
              refine C.out.mono ?_
              rintro e W1 ⟨rfl, hw⟩
              rw [hw]
              clear hw C W1
              go_wp2_with fail
              exact ⟨⟨i + 1, L, by push_cast; rfl, by omega, NS⟩, by simp only [zi]; omega⟩
            | false =>
              rw [hm2] at C
              have T0 := HS.out
              rw [← HM.out.1] at T0
              obtain ⟨g9, cap9, Y, q1, q2, q3⟩ := T0.take (by rw [HM.out.1]; exact c2) hu hm2 39
              rw [HM.out.1] at q2 q3
              obtain ⟨o5, c5, e5⟩ := row_form HS.out.row
              have z7 := q2.c7
              obtain ⟨g2, c8, e2, z1, z2⟩ := bcellAt q2.w1 (j := i) (by rw [hl]; exact c2)
              obtain ⟨rfl, rfl⟩ : g = g2 ∧ cap = c8 := by rw [hl] at e2; simp at e2; exact e2
              have RUN := hide q1
              have Q3 := hide q3
              rw [e5] at RUN
              subst e5
              clear T0 q1 q2 q3 e2 HS
              go_wp2_with fail
              refine C.out.mono ?_
              rintro e W1 ⟨rfl, hw⟩
              rw [hw]
              clear hw C W1
              go_wp2_with (at_builtin; refine list_app (by rfl) (.tmp 62) (.tmp 64) 39 (by rfl) (by rfl) (by rfl) RUN.out ?_)
              exact ⟨⟨i + 1, _, by push_cast; rfl, by omega, Q3⟩, by simp only [zi]; omega⟩
        · have d2 : decide ((i : Int) < (n : Int)) = false := decide_eq_false (by omega)
          obtain rfl : i = n := by omega
          have f8 := HS.out.r.bk.fz 8
          obtain ⟨s1, k1⟩ := HS.out.r.dropMarks
          have f9 := s1.bk.fz 9
          have y9 := s1.c9
          obtain ⟨s2, k2⟩ := s1.setLook 0
          rw [show ((0 : Nat) : Int) = 0 from rfl] at s2 k2
          obtain ⟨o5, c5, e5⟩ := row_form HS.out.row
          have kk := k1.trans k2 (fun _ _ f => f)
          have FF := hide (show R (.returned (.tuple #[u5, .int .i64 0])) _ from by
            rw [HR.out]
            refine ⟨u5, rfl, owns_kept HS.out.row kk (fun g hg e => ?_), ⟨_, _, L, [], s2, ?_, funext bl_nil, HS.out.ke.trans (kk.mono (G := ownS rb (.slice o i cap) (.slice o' m cap')) fun z hz => .inl hz) (fun _ _ f => f), fun z hz => ?_⟩, .slice o i cap, fun z hz => ?_⟩
            · have h1 := (own_ge HS.out.row hg).1
              have h2 := HS.out.ol rb (.inl rfl)
              omega
            · funext j
              rw [HS.out.eq]
              by_cases cj : j < i
              · rw [if_pos cj]
                cases q : bl L2 j with
                | false => simp
                | true => rw [HZ.out j q]; rfl
              · rw [if_neg cj, bl_out (L := L1) (by rw [HM.out.1]; omega)]
                cases q : bl L2 j with
                | false => rfl
                | true => have := bl_lt (HZ.out j q); rw [HM.out.1] at this; omega
            · rcases hz with hz | hz | hz
              · exact .inl (.inl hz)
              · exact .inl (.inr (.inl hz))
              · exact absurd hz (own_none _)
            · rcases hz with hz | hz | hz
              · exact .inl hz
              · exact .inr (.inl hz)
              · exact absurd hz (own_none _))
          subst e5
          clear s1 s2 k1 k2 kk HS
          go_wp2_with fail
          first | exact FF.out | (go_ret2; exact FF.out)
end
end Go.Proofs.YtblfefibgoiaaaaDoor
