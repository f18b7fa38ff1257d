/- A span in memory: Sweep: contracts. -/
import Derived.Test.YtblfefibgoiaaaaDoorGe
namespace Go.Proofs.YtblfefibgoiaaaaDoor
open Go.ChangeShapes Go.WideShapes Go.ChangeAt Go.RowKit Go.Proofs.Sn Go.Shelf
set_option linter.unusedVariables false
set_option linter.unusedSimpArgs false

attribute [local go_sem] Oper.semAt_some

/-- What a change leaves that makes nothing. -/
def SpIn (N : Nat) (W W' : World) (sb : Nat) (v1 v2 : Value) (G : Geo) (st c : Nat) (u m : Nat → Bool) (look : Nat) : Prop :=
  ∃ v1' v2' ws' ms', SpAt N W' sb v1' v2' G st c ws' ms' look ∧ wb ws' = u ∧ wb ms' = m ∧ Kept (ownS sb v1 v2) W W' ∧ ∀ z, ownS sb v1' v2' z → ownS sb v1 v2 z
section
variable {N : Nat} {W W' : World} {sb : Nat} {v1 v2 : Value} {G : Geo} {st c look : Nat} {ws ms : List Nat}
theorem sweep_state (h : SpAt N W sb v1 v2 G st c ws ms look) (hs : st ≠ 1) : Calls Tryd.prog 18 #[.pointer (some ⟨sb, 0, none⟩)] W fun e W' => e = .returned (.tuple #[.slice none 0 0, .int .i64 33]) ∧ W' = W := by
  have y := h.c2
  have d : ((st : Int) != 1) = true := by simp; omega
  have d' : ((st : Int) == 1) = false := by simp; omega
  clear h
  go_enter Tryd.func18, Tryd.ntmps18
  go_wp2_with fail
  go_ret2
  exact ⟨rfl, rfl⟩
theorem sweep_zombie (h : SpAt N W sb v1 v2 G 1 c ws ms look) (hT : TabW W) (hz : lsW ms ws (64 * ms.length) ≠ []) : Calls Tryd.prog 18 #[.pointer (some ⟨sb, 0, none⟩)] W fun e W' => e = .returned (.tuple #[.slice none 0 0, .int .i64 40]) ∧ Below W.heap.size W W' := by
  have y : W.cell? ⟨sb, 2, none⟩ = some (.int .i64 1) := h.c2
  have y11 := h.c11
  have y12 := h.c12
  have l1 := h.l1
  have l2 := h.l2
  have hd := h.below (drew_below W)
  have CL := hide (less_any hd.w2 hd.w1 (by omega) (by omega) (hT.block rfl))
  obtain ⟨o, cap, rfl⟩ := row_form h.w1.row
  obtain ⟨o', cap', rfl⟩ := row_form h.w2.row
  have H := hide h
  have hl : 0 < (lsW ms ws (64 * ms.length)).length := List.length_pos_iff.2 hz
  generalize lsW ms ws (64 * ms.length) = L at *
  obtain ⟨n, hn⟩ : ∃ n : Nat, ws.length = n := ⟨_, rfl⟩
  obtain ⟨n', hn'⟩ : ∃ n' : Nat, ms.length = n' := ⟨_, rfl⟩
  rw [hn] at y11 CL H
  rw [hn'] at y12 CL H
  clear hn hn' l1 l2
  clear h hd hz
  go_enter Tryd.func18, Tryd.ntmps18
  go_wp2_with fail
  go_region_held3 (fun w' => w'.cell? ⟨sb, 11, none⟩ = some (.slice o n cap) ∧ w'.cell? ⟨sb, 12, none⟩ = some (.slice o' n' cap')) (go_keep) (first
    | (go_at_call 49; refine CL.out.mono ?_; rintro e W5 ⟨vr, rfl, o5, b5⟩; obtain ⟨o9, cap9, e9⟩ := row_form o5; subst e9; have B5 := hide ((drew_below W).trans b5); have H5 := hide (H.out.below B5.out); have z11 := H5.out.c11; have z12 := H5.out.c12; clear CL o5 b5 y11 y12))
  go_wp2_with fail
  go_ret2
  exact ⟨rfl, B5.out⟩
set_option maxRecDepth 100000 in
theorem sweep_ok (h : SpAt N W sb v1 v2 G 1 c ws ms look) (hT : TabW W) (hz : lsW ms ws (64 * ms.length) = []) (hc : (lsW ws ms (64 * ws.length)).length ≤ c) (hc2 : c ≤ 65536) (hN : N ≤ W.heap.size) : Calls Tryd.prog 18 #[.pointer (some ⟨sb, 0, none⟩)] W fun e W' => ∃ vr, e = .returned (.tuple #[vr, .int .i64 0]) ∧ W'.ownsRow W.heap.size 3 1 vr (lsW ws ms (64 * ws.length)).length ((lsW ws ms (64 * ws.length)).map encI) ∧ SpIn N W W' sb v1 v2 G 1 (c - (lsW ws ms (64 * ws.length)).length) (wb ms) (fun _ => false) 0 ∧ ∀ z, vr.ownBlock = some z → W.heap.size ≤ z ∧ ¬ ownS sb v1 v2 z := by
  obtain ⟨R, hR⟩ : ∃ R : Ending → World → Prop, R = fun e W' => ∃ vr, e = .returned (.tuple #[vr, .int .i64 0]) ∧ W'.ownsRow W.heap.size 3 1 vr (lsW ws ms (64 * ws.length)).length ((lsW ws ms (64 * ws.length)).map encI) ∧ SpIn N W W' sb v1 v2 G 1 (c - (lsW ws ms (64 * ws.length)).length) (wb ms) (fun _ => false) 0 ∧ ∀ z, vr.ownBlock = some z → W.heap.size ≤ z ∧ ¬ ownS sb v1 v2 z := ⟨_, rfl⟩
  rw [← hR]
  have HR := hide hR
  clear hR
  have y : W.cell? ⟨sb, 2, none⟩ = some (.int .i64 1) := h.c2
  have y11 := h.c11
  have y12 := h.c12
  have l1 := h.l1
  have l2 := h.l2
  have hd := h.below (drew_below W)
  have CL := hide (less_any hd.w2 hd.w1 (by omega) (by omega) (hT.block rfl))
  rw [hz] at CL
  have CM := hide (show ∀ X : World, Below W.heap.size W X → Calls Tryd.prog 49 #[v1, v2] X.drew fun e W' => ∃ vr, e = .returned vr ∧ W'.ownsRow X.heap.size 3 1 vr (lsW ws ms (64 * ws.length)).length ((lsW ws ms (64 * ws.length)).map encI) ∧ Below X.heap.size X.drew W' from fun X hX => by
    have hx := (h.below hX).below (drew_below X)
    exact less_any hx.w1 hx.w2 (by omega) (by omega) ((hT.below hT.lt hX).block rfl))
  have H := hide h
  have HC := hide (And.intro hc hN)
  obtain ⟨o, cap, rfl⟩ := row_form h.w1.row
  obtain ⟨o', cap', rfl⟩ := row_form h.w2.row
  generalize lsW ws ms (64 * ws.length) = L at *
  obtain ⟨n, hn⟩ : ∃ n : Nat, ws.length = n := ⟨_, rfl⟩
  obtain ⟨n', hn'⟩ : ∃ n' : Nat, ms.length = n' := ⟨_, rfl⟩
  rw [hn] at y11 CL CM HR H
  rw [hn'] at y12 CL CM HR H
  have w1 : IntKind.i64.wrap ((c : Int) - (L.length : Int)) = (c : Int) - (L.length : Int) := by rw [IntKind.wrap_i64]; omega
  clear h hd hz hn hn' l1 l2 hT hc hN
  go_enter Tryd.func18, Tryd.ntmps18
  go_wp2_with fail
  go_region_held3 (fun w' => w'.cell? ⟨sb, 11, none⟩ = some (.slice o n cap) ∧ w'.cell? ⟨sb, 12, none⟩ = some (.slice o' n' cap')) (go_keep) (first
    | (go_at_call 49; refine CL.out.mono ?_; rintro e W5 ⟨vr, rfl, o5, b5⟩; obtain ⟨o9, cap9, e9⟩ := row_form o5; subst e9; have B5 := hide ((drew_below W).trans b5); have H5 := hide (H.out.below B5.out); have z11 := H5.out.c11; have z12 := H5.out.c12; clear CL o5 b5 y11 y12))
  have CN := hide (CM.out W5 B5.out)
  clear CM
  go_wp2_with fail
  go_region_held3 (fun w' => w'.cell? ⟨sb, 11, none⟩ = some (.slice o n cap) ∧ w'.cell? ⟨sb, 12, none⟩ = some (.slice o' n' cap')) (go_keep) (first
    | (go_at_call 49; refine CN.out.mono ?_; rintro e W6 ⟨vr, rfl, o6, b6⟩; obtain ⟨o7, cap7, e7⟩ := row_form o6; subst e7; have B6 := hide ((drew_below W5).trans b6); have H6 := hide (H5.out.below B6.out); have O6 := hide o6; have q11 := H6.out.c11; have q12 := H6.out.c12; clear CN o6 b6 z11 z12))
  have f11 := H6.out.bk.fz 11
  have f12 := (H6.out.bk.set 11 (.slice o' n' cap')).fz 12
  obtain ⟨s1, k1⟩ := H6.out.flip
  have q7 := s1.c7
  have f7 := s1.bk.fz 7
  obtain ⟨s2, k2⟩ := s1.setCount (c - L.length)
  have f13 := s2.bk.fz 13
  have q13 := s2.c13
  have q13' := H6.out.c13
  obtain ⟨s3, k3⟩ := s2.setLook 0
  rw [show ((c - L.length : Nat) : Int) = (c : Int) - (L.length : Int) by have := HC.out.1; omega] at k2 f13 q13 s3 k3
  rw [show ((0 : Nat) : Int) = 0 from rfl] at s3 k3
  have gk := (k1.trans k2 (fun _ _ f => f)).trans k3 (fun _ _ f => f)
  have lt6 : W.heap.size ≤ W5.heap.size := B5.out.size
  have FF := hide (show R (.returned (.tuple #[.slice o7 L.length cap7, .int .i64 0])) _ from by
    rw [HR.out]
    refine ⟨_, rfl, ?_, ⟨_, _, _, _, s3, rfl, funext wb_nil, ((Kept.of_below B5.out).trans (Kept.of_below (B6.out)) (fun _ _ f => f)).trans (gk.mono (G := ownS sb (.slice o n cap) (.slice o' n' cap')) fun z hz => .inl hz) (fun _ _ f => f), fun z hz => ?_⟩, fun z hz => ?_⟩
    · refine ownsRow_le (owns_kept O6.out gk (fun g hg e => ?_)) lt6
      have h1 := (own_ge O6.out hg).1
      have h2 := H5.out.bk.lt
      omega
    · rcases hz with hz | hz | hz
      · exact .inl hz
      · exact .inr (.inr hz)
      · exact absurd hz (own_none _)
    · have h1 := (own_ge O6.out hz).1
      refine ⟨by omega, fun e => ?_⟩
      have := (H5.out.own e).2
      omega)
  clear s1 s2 s3 k1 k2 k3 gk O6 H6 H5 B5 B6 H
  go_wp2_with fail
  first | exact FF.out | (go_ret2; exact FF.out)
end
end Go.Proofs.YtblfefibgoiaaaaDoor
