/- The reference's span in memory: Sweep, Info: contracts. -/
import Derived.Test.YtblfefibgoiaaaaDoorRc
namespace Go.Proofs.YtblfefibgoiaaaaDoor
open Go.ChangeShapes Go.WideShapes Go.ChangeAt Go.RowKit Go.Proofs.Sn Go.Shelf
set_option linter.unusedVariables false
set_option linter.unusedSimpArgs false

attribute [local go_sem] Oper.semAt_some

section
variable {N : Nat} {W W' : World} {rb : Nat} {v1 v2 : Value} {p : Nat} {G : Geo} {st look : Nat} {L1 L2 : List Bool}
/-! ### Info -/
set_option maxRecDepth 100000 in
theorem rinfo_any (h : RfAt N W rb v1 v2 p G st L1 L2 look) (g : GOk G) (hp : G.base = p * 8192) : Calls Tryd.prog 43 #[.pointer (some ⟨rb, 0, none⟩)] W fun e W' => e = .returned (infoV G st (Bt.cnt (bl L1) 0 L1.length)) ∧ Below W.heap.size W W' := by
  have b := below_alloc W (.cells #[.int .u64 0, .int .i64 0, .int .i64 0, .int .i64 0, .bool false, .int .i64 0, .int .i64 0, .int .i64 0, .bool false, .bool false] 47)
  have hb := h.below b
  have CC := hide (rcount_any (hb.below (drew_below _)))
  have y0 := hb.c0
  have y1 := hb.c1
  have y2 := hb.c2
  have y3 := hb.c3
  have y4 := hb.c4
  have y5 := hb.c5
  have y6 := hb.c6
  have b1 := g.b1
  have p1 := g.p1
  have w0 : IntKind.u64.wrap ((p : Int) * 8192) = (p : Int) * 8192 := by rw [IntKind.wrap_u64]; omega
  have w1 : IntKind.i64.wrap (G.pages : Int) = (G.pages : Int) := by rw [IntKind.wrap_i64]; omega
  unfold infoV
  rw [hp, show ((p * 8192 : Nat) : Int) = (p : Int) * 8192 by push_cast; rfl]
  obtain ⟨c, hc⟩ : ∃ c : Nat, Bt.cnt (bl L1) 0 L1.length = c := ⟨_, rfl⟩
  rw [hc] at CC ⊢
  have sl := h.bk.lt
  have ne : rb ≠ W.heap.size := by omega
  clear h b hb sl b1 p1 g hp hc
  go_enter Tryd.func43, Tryd.ntmps43
  go_wp2_with fail
  refine still_tail 33 (by kernel_rfl) (by kernel_rfl) ?_
  simp only [List.take_succ_cons, List.take_zero, List.drop_succ_cons, List.drop_zero]
  repeat still_step
  still_call (CC.out)
  repeat still_step
  refine wpStill_nil ?_
  go_wp2_with fail
  refine bodyPost_ret (v := .agg #[.int .u64 ((p : Int) * 8192), .int .i64 (G.pages : Nat), .int .i64 (st : Nat), .int .i64 (G.cls : Nat), .bool G.noptr, .int .i64 (G.elem : Nat), .int .i64 (G.slots : Nat), .int .i64 (c : Nat), .bool false, .bool false]) (by simp [results, Tryd.results43, go_sem]) rfl ⟨rfl, ?_⟩
  first | exact (below_alloc W _).drew | (refine Below.drew ?_; repeat (refine Below.setCell ?_ (Nat.le_refl _) _); exact below_alloc _ _)
/-! ### Sweep -/
theorem rsweep_state (h : RfAt N W rb v1 v2 p G st L1 L2 look) (hs : st ≠ 1) : Calls Tryd.prog 36 #[.pointer (some ⟨rb, 0, none⟩)] W fun e W' => e = .returned (.tuple #[.slice none 0 0, .int .i64 33]) ∧ W' = W := by
  have y := h.c2
  have d : ((st : Int) != 1) = true := by simp; omega
  have d' : ((st : Int) == 1) = false := by simp; omega
  clear h
  go_enter Tryd.func36, Tryd.ntmps36
  go_wp2_with fail
  go_ret2
  exact ⟨rfl, rfl⟩
/-- While it is swept: what is told so far, what is used still. -/
structure SwI (N : Nat) (W0 W : World) (rb : Nat) (v1 v2 : Value) (p : Nat) (G : Geo) (look : Nat) (L1 L2 : List Bool) (i : Nat) (vr : Value) (L : List Bool) : Prop where
  r : RfAt N W rb v1 v2 p G 1 L L2 look
  len : L.length = L1.length
  eq : ∀ j, bl L j = if j < i then (bl L1 j && bl L2 j) else bl L1 j
  row : W.ownsRow W0.heap.size 3 1 vr (lsF (bl L1) (bl L2) i).length ((lsF (bl L1) (bl L2) i).map encI)
  ke : Kept (ownS rb v1 v2) W0 W
  ol : ∀ z, ownS rb v1 v2 z → z < W0.heap.size
theorem lsF_len (u m : Nat → Bool) (n : Nat) : (lsF u m n).length ≤ n := by
  unfold lsF
  have := List.length_filter_le (fun i => u i && !m i) (List.range n)
  simpa using this
theorem lsF_step_in {u m : Nat → Bool} {i : Nat} (h : u i = true) (h' : m i = false) : lsF u m (i + 1) = lsF u m i ++ [i] := by
  unfold lsF
  rw [List.range_succ, List.filter_append]
  simp [h, h']
theorem lsF_step_out {u m : Nat → Bool} {i : Nat} (h : (u i && !m i) = false) : lsF u m (i + 1) = lsF u m i := by
  unfold lsF
  rw [List.range_succ, List.filter_append]
  simp [h]
theorem SwI.skip {W0 : World} {i : Nat} {vr : Value} {L : List Bool} (h : SwI N W0 W rb v1 v2 p G look L1 L2 i vr L) (hs : (bl L1 i && !bl L2 i) = false) : SwI N W0 W rb v1 v2 p G look L1 L2 (i + 1) vr L := by
  refine ⟨h.r, h.len, fun j => ?_, by rw [lsF_step_out hs]; exact h.row, h.ke, h.ol⟩
  rw [h.eq]
  by_cases c : j < i
  · rw [if_pos c, if_pos (by omega)]
  · rw [if_neg c]
    by_cases e : j = i
    · rw [if_pos (by omega), e]
      cases x : bl L1 i with
      | false => rfl
      | true =>
        cases y : bl L2 i with
        | true => rfl
        | false => rw [x, y] at hs; cases hs
    · rw [if_neg (by omega)]
theorem SwI.take {W0 : World} {i : Nat} {vr : Value} {L : List Bool} {g cap : Nat} (h : SwI N W0 W rb (.slice (some ⟨g, 0, none⟩) L1.length cap) v2 p G look L1 L2 i vr L) (hi : i < L1.length) (hu : bl L1 i = true) (hm : bl L2 i = false) (ty : TypeId) :
    ∃ g9 cap9 Y, (Builtin.append_ #[39, 39] ty #[vr, .slice (some ⟨W.heap.size, 0, none⟩) 1 1]).run Tryd.prog (W.alloc (.cells #[.int .i64 (i : Nat)] 3)) = .ok (.slice (some ⟨g9, 0, none⟩) ((lsF (bl L1) (bl L2) i).length + 1) cap9) Y ∧ RfAt N Y rb (.slice (some ⟨g, 0, none⟩) L1.length cap) v2 p G 1 L L2 look ∧
      SwI N W0 (Y.setCell ⟨g, i, none⟩ (.bool false)) rb (.slice (some ⟨g, 0, none⟩) L1.length cap) v2 p G look L1 L2 (i + 1) (.slice (some ⟨g9, 0, none⟩) ((lsF (bl L1) (bl L2) i).length + 1) cap9) (L.set i false) := by
  have b2 := below_alloc W (.cells #[.int .i64 (i : Nat)] 3)
  have n2 := World.alloc_heap_new W (.cells #[.int .i64 (i : Nat)] 3)
  have r2 := h.r.below b2
  have o2 := owns_kept h.row (Kept.of_below (F := fun _ => False) b2) (fun _ _ f => f)
  have sz := h.ke.size
  have ll := lsF_len (bl L1) (bl L2) i
  have l1 := h.r.l1
  have len := h.len
  obtain ⟨g9, cap9, Y, q1, q2, q3, q4, q5⟩ := ints_more o2 (by omega) W.heap.size i n2 (by rw [World.size_alloc]; omega) ty
  rw [World.size_alloc] at q4
  have ng : W0.heap.size ≤ g9 := by
    rcases q4 with y | y
    · exact (own_ge h.row y).1
    · omega
  have nk : ∀ z, ownS rb (.slice (some ⟨g, 0, none⟩) L1.length cap) v2 z → vr.ownBlock ≠ some z := fun z hz e => by
    have h1 := h.ol z hz
    have h2 := (own_ge h.row e).1
    omega
  have rY := r2.kept q3 (fun z hz e => nk z hz e)
  have gl : g < W0.heap.size := h.ol g (.inr (.inl rfl))
  have s1 := rY
  rw [← len] at s1
  obtain ⟨s2, k2⟩ := s1.setOut i false
  rw [len] at s2
  refine ⟨g9, cap9, Y, q1, rY, ⟨s2, by rw [List.length_set]; exact len, fun j => ?_, ?_, ?_, h.ol⟩⟩
  · rw [bl_set (by omega)]
    unfold upd
    by_cases e : j = i
    · rw [if_pos e, if_pos (by omega), e, hm]; simp
    · rw [if_neg e, h.eq]
      by_cases c : j < i
      · rw [if_pos c, if_pos (by omega)]
      · rw [if_neg c, if_neg (by omega)]
  · rw [lsF_step_in hu hm, List.length_append, List.length_singleton]
    exact owns_kept q2 k2 (fun z hz e => by rw [← own_eq hz] at e; omega)
  · refine ((h.ke.trans (Kept.of_below (F := ownS rb (.slice (some ⟨g, 0, none⟩) L1.length cap) v2) b2) (fun _ _ f => f)).trans q3 (fun z hz e => ?_)).trans (k2.mono (G := ownS rb (.slice (some ⟨g, 0, none⟩) L1.length cap) v2) fun z hz => .inr (.inl (by rw [hz]; rfl))) (fun _ _ f => f)
    have := (own_ge h.row e).1
    omega
set_option maxRecDepth 100000 in
set_option maxHeartbeats 1000000 in
theorem rsweep_zombie (h : RfAt N W rb v1 v2 p G 1 L1 L2 look) (hz : ∃ j, bl L2 j = true ∧ bl L1 j = false) : Calls Tryd.prog 36 #[.pointer (some ⟨rb, 0, none⟩)] W fun e W' => e = .returned (.tuple #[.slice none 0 0, .int .i64 40]) ∧ W' = W := by
  obtain ⟨R, hR⟩ : ∃ R : Ending → World → Prop, R = fun e W' => e = .returned (.tuple #[.slice none 0 0, .int .i64 40]) ∧ W' = W := ⟨_, rfl⟩
  rw [← hR]
  have FF := hide (show R (.returned (.tuple #[.slice none 0 0, .int .i64 40])) W from by rw [hR]; exact ⟨rfl, rfl⟩)
  clear hR
  have y : W.cell? ⟨rb, 2, none⟩ = some (.int .i64 1) := h.c2
  have y7 := h.c7
  have y8 := h.c8
  have H := hide h
  have HZ := hide hz
  have CA := hide (fun i => at_any h.w1 (by have := h.l1; omega) i)
  have l2 := h.l2
  obtain ⟨o, cap, rfl⟩ := row_form h.w1
  obtain ⟨o', cap', rfl⟩ := row_form h.w2
  obtain ⟨m, hm⟩ : ∃ m : Nat, L2.length = m := ⟨_, rfl⟩
  have HM := hide hm
  rw [hm] at y8 l2 H
  clear h hz hm
  go_enter Tryd.func36, Tryd.ntmps36
  go_wp2_with fail
  go_loopw [4] (fun vi wr => ∃ i : Nat, vi = .int .i64 (i : Nat) ∧ i ≤ m ∧ Hid (∀ j, j < i → bl L2 j = true → bl L1 j = true) ∧ wr = W) (fun vi _ => m - (zi vi).toNat)
  case atStart => exact ⟨0, rfl, by omega, hide (fun j hj => by omega), rfl⟩
  case round =>
    obtain ⟨i, rfl, hi, HI, hw⟩ := hrel
    rw [hw]
    clear hw
    have pi3 : IntKind.i64.wrap ((i : Int) + 1) = (i : Int) + 1 := by rw [IntKind.wrap_i64]; omega
    by_cases c : i < m
    · have d : decide ((i : Int) < (m : Int)) = true := decide_eq_true (by omega)
      obtain ⟨g, c9, e', x1, -⟩ := bcellAt H.out.w2 (j := i) (by rw [HM.out]; exact c)
      obtain ⟨rfl, rfl⟩ : o' = some ⟨g, 0, none⟩ ∧ cap' = c9 := by rw [HM.out] at e'; simp at e'; exact e'
      have i0 : 0 ≤ (i : Int) := by omega
      have i1 : (i : Int) < (m : Int) := by omega
      have C := hide (CA.out (i : Int))
      rw [uat_nat] at C
      clear e'
      cases hm2 : bl L2 i with
      | false =>
        rw [hm2] at x1
        go_wp2_with fail
        refine ⟨⟨i + 1, by push_cast; rfl, by omega, hide (fun j hj hb => ?_), trivial⟩, by simp only [zi]; omega⟩
        by_cases e : j = i
        · rw [e, hm2] at hb; cases hb
        · exact HI.out j (by omega) hb
      | true =>
        rw [hm2] at x1
        cases hu : bl L1 i with
        | true =>
          rw [hu] at C
          go_wp2_with fail
          refine C.out.mono ?_
          rintro e W1 ⟨rfl, hw⟩
          rw [hw]
          clear hw C W1
          go_wp2_with fail
          refine ⟨⟨i + 1, by push_cast; rfl, by omega, hide (fun j hj hb => ?_), trivial⟩, by simp only [zi]; omega⟩
          by_cases e : j = i
          · rw [e]; exact hu
          · exact HI.out j (by omega) hb
        | false =>
          rw [hu] at C
          go_wp2_with fail
          refine C.out.mono ?_
          rintro e W1 ⟨rfl, hw⟩
          rw [hw]
          clear hw C W1
          go_wp2_with fail
          first | exact FF.out | (go_ret2; exact FF.out)
    · exfalso
      obtain ⟨j, j1, j2⟩ := HZ.out
      have h1 := bl_lt j1
      rw [HM.out] at h1
      have := HI.out j (by omega) j1
      rw [j2] at this
      cases this
end
end Go.Proofs.YtblfefibgoiaaaaDoor
