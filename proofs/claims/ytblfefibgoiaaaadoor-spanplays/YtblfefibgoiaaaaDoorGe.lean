/- A span in memory: Next, Give, Mark, Sweep, Die: contracts. -/
import Derived.Test.YtblfefibgoiaaaaDoorGd
namespace Go.Proofs.YtblfefibgoiaaaaDoor
open Go.ChangeShapes Go.WideShapes Go.ChangeAt Go.RowKit Go.Proofs.Sn Go.Shelf
set_option linter.unusedVariables false
set_option linter.unusedSimpArgs false

attribute [local go_sem] Oper.semAt_some

/-- What a change leaves. -/
def SpTo (N : Nat) (W W' : World) (sb : Nat) (v1 v2 : Value) (G : Geo) (st c : Nat) (u m : Nat → Bool) (look : Nat) : Prop :=
  ∃ v1' v2' ws' ms', SpAt N W' sb v1' v2' G st c ws' ms' look ∧ wb ws' = u ∧ wb ms' = m ∧ Kept (ownS sb v1 v2) W W' ∧ ∀ z, ownS sb v1' v2' z → ownS sb v1 v2 z ∨ W.heap.size ≤ z
section
variable {N : Nat} {W W' : World} {sb : Nat} {v1 v2 : Value} {G : Geo} {st c look : Nat} {ws ms : List Nat}
theorem SpAt.grewU (h : SpAt N W sb v1 v2 G st c ws ms look) {v' : Value} {ws' : List Nat} (a2 : ws'.length ≤ 1024) (a3 : Wr N W' v' ws') (a4 : v'.ownBlock ≠ some sb) (a5 : Bk W' sb 78 ((cellsS G st c v1 v2 look).setIfInBounds 11 v')) (a6 : Kept (fun z => z = sb ∨ v1.ownBlock = some z) W W') (a7 : ∀ z, v'.ownBlock = some z → v1.ownBlock = some z ∨ W.heap.size ≤ z) :
    SpAt N W' sb v' v2 G st c ws' ms look := by
  refine ⟨a5, a3, h.w2.kept a6 (fun g hg e => ?_), h.x, a4, h.n1, fun g hg e => ?_, a2, h.l2⟩
  · rcases e with e | e
    · exact h.n1 (e ▸ hg)
    · exact h.n2 g e hg
  · rcases a7 g hg with y | y
    · exact h.n2 g y e
    · have := (own_ge h.w2.row e).2; omega
theorem SpAt.grewM (h : SpAt N W sb v1 v2 G st c ws ms look) {v' : Value} {ms' : List Nat} (a2 : ms'.length ≤ 1024) (a3 : Wr N W' v' ms') (a4 : v'.ownBlock ≠ some sb) (a5 : Bk W' sb 78 ((cellsS G st c v1 v2 look).setIfInBounds 12 v')) (a6 : Kept (fun z => z = sb ∨ v2.ownBlock = some z) W W') (a7 : ∀ z, v'.ownBlock = some z → v2.ownBlock = some z ∨ W.heap.size ≤ z) :
    SpAt N W' sb v1 v' G st c ws ms' look := by
  refine ⟨a5, h.w1.kept a6 (fun g hg e => ?_), a3, h.x, h.n0, a4, fun g hg e => ?_, h.l1, a2⟩
  · rcases e with e | e
    · exact h.n0 (e ▸ hg)
    · exact h.n2 g hg e
  · rcases a7 g e with y | y
    · exact h.n2 g hg y
    · have := (own_ge h.w1.row hg).2; omega
set_option maxRecDepth 100000 in
theorem next_ok (h : SpAt N W sb v1 v2 G st c ws ms look) (hN : N ≤ W.heap.size) (hT : TabW W) (hs : st ≠ 0) (hl : look ≤ 65536) (hc : c ≤ 65536) {k : Nat} (hf : First (wb ws) look k) (hk : k < G.slots) (hn : G.slots ≤ 65536) :
    Calls Tryd.prog 17 #[.pointer (some ⟨sb, 0, none⟩)] W fun e W' => e = .returned (.tuple #[.int .i64 (k : Nat), .int .i64 0]) ∧ SpTo N W W' sb v1 v2 G st (c + 1) (upd (wb ws) k true) (wb ms) (k + 1) := by
  have y2 := h.c2
  have y11 := h.c11
  have y13 := h.c13
  have l1 := h.l1
  have CL := hide (fun j => clear_at (h.w1.below (below_dN W j)) (by omega) (hT.block rfl) (by omega) hf)
  have CH := hide (fun j => hs_any (h.below (below_dN W j)) (k : Int))
  rw [inB_true.2 ⟨by omega, by omega⟩] at CH
  have CS := hide (fun j => set_any (h.below (below_dN W j)).bk (off := 11) rfl (h.below (below_dN W j)).w1 h.n0 hN (by omega) k (by omega))
  obtain ⟨o, cap, rfl⟩ := row_form h.w1.row
  have d : ((st : Int) == 0) = false := by simp; omega
  have w1 : IntKind.i64.wrap ((c : Int) + 1) = (c : Int) + 1 := by rw [IntKind.wrap_i64]; omega
  have w2 : IntKind.i64.wrap ((k : Int) + 1) = (k : Int) + 1 := by rw [IntKind.wrap_i64]; omega
  have H := hide h
  have HK := hide (And.intro hk (And.intro hn l1))
  clear h hf hT hN hs hl hk hn l1 hc
  go_enter Tryd.func17, Tryd.ntmps17
  go_wp2_with fail
  go_quiet (first | (go_at_call 47; refine Calls.quiet_of_same (CL.out _)))
  go_wp2_with fail
  refine (CH.out _).mono ?_
  rintro e W1 ⟨rfl, hw⟩
  rw [hw]
  clear hw CH W1 y2 y11 y13
  go_wp2_with fail
  refine (CS.out _).mono ?_
  rintro e W1 ⟨rfl, v', ws', a1, a2, a3, a4, a5, a6, a7⟩
  have s1 := (H.out.below (below_dN W _)).grewU (by have := HK.out; omega) a3 a4 a5 a6 a7
  have y7 := s1.c7
  have f7 := s1.bk.fz 7
  obtain ⟨s2, k2⟩ := s1.setCount (c + 1)
  have f13 := s2.bk.fz 13
  have y13 := s2.c13
  obtain ⟨s3, k3⟩ := s2.setLook (k + 1)
  rw [show ((c + 1 : Nat) : Int) = (c : Int) + 1 by omega] at f13 y13 s3 k2 k3
  rw [show ((k + 1 : Nat) : Int) = (k : Int) + 1 by omega] at s3 k3
  have FIN := hide (show SpTo N W _ sb _ v2 G st (c + 1) (upd (wb ws) k true) (wb ms) (k + 1) from ⟨v', v2, ws', ms, s3, a2, rfl, (((Kept.of_below (below_dN W _)).trans (a6.mono (G := ownS sb (.slice o ws.length cap) v2) fun z hz => hz.imp id .inl) (fun _ _ f => f)).trans (k2.mono (G := ownS sb (.slice o ws.length cap) v2) fun z hz => .inl hz) (fun _ _ f => f)).trans (k3.mono (G := ownS sb (.slice o ws.length cap) v2) fun z hz => .inl hz) (fun _ _ f => f), fun z hz => by
    rcases hz with hz | hz | hz
    · exact .inl (.inl hz)
    · rcases a7 z hz with y | y
      · exact .inl (.inr (.inl y))
      · exact .inr y
    · exact .inl (.inr (.inr hz))⟩)
  clear a1 a2 a3 a4 a5 a6 a7 s1 s2 s3 k2 k3 CS CL
  go_wp2_with fail
  go_ret2
  exact ⟨rfl, FIN.out⟩
/-! ### Give -/
theorem give_state (h : SpAt N W sb v1 v2 G st c ws ms look) (hs : st ≠ 2) (i : Int) : Calls Tryd.prog 16 #[.pointer (some ⟨sb, 0, none⟩), .int .i64 i] W fun e W' => e = .returned (.int .i64 33) ∧ W' = W := by
  have y := h.c2
  have d : ((st : Int) != 2) = true := by simp; omega
  have d' : ((st : Int) == 2) = false := by simp; omega
  clear h
  go_enter Tryd.func16, Tryd.ntmps16
  go_wp2_with fail
  go_ret
  exact ⟨rfl, rfl⟩
theorem give_arg (h : SpAt N W sb v1 v2 G 2 c ws ms look) (i : Int) (hi : inB G.slots i = false) : Calls Tryd.prog 16 #[.pointer (some ⟨sb, 0, none⟩), .int .i64 i] W fun e W' => e = .returned (.int .i64 1) ∧ W' = W := by
  have y : W.cell? ⟨sb, 2, none⟩ = some (.int .i64 2) := h.c2
  have C := hide (hs_any h i)
  rw [hi] at C
  clear h
  go_enter Tryd.func16, Tryd.ntmps16
  go_wp2_with fail
  refine C.out.mono ?_
  rintro e W1 ⟨rfl, hw⟩
  rw [hw]
  clear hw C W1
  go_wp2_with fail
  go_ret
  exact ⟨rfl, rfl⟩
theorem give_free (h : SpAt N W sb v1 v2 G 2 c ws ms look) (hn : G.slots ≤ 65536) (k : Nat) (hi : k < G.slots) (hu : wb ws k = false) : Calls Tryd.prog 16 #[.pointer (some ⟨sb, 0, none⟩), .int .i64 (k : Nat)] W fun e W' => e = .returned (.int .i64 31) ∧ W' = W := by
  have y : W.cell? ⟨sb, 2, none⟩ = some (.int .i64 2) := h.c2
  have y11 := h.c11
  have l1 := h.l1
  have C := hide (hs_any h k)
  rw [inB_true.2 ⟨by omega, by omega⟩] at C
  have CU := hide (has_any h.w1 (by omega) (k : Int) (by omega) (by omega))
  rw [uat_nat, hu] at CU
  obtain ⟨o, cap, rfl⟩ := row_form h.w1.row
  clear h hu l1
  go_enter Tryd.func16, Tryd.ntmps16
  go_wp2_with fail
  refine C.out.mono ?_
  rintro e W1 ⟨rfl, hw⟩
  rw [hw]
  clear hw C W1
  go_wp2_with fail
  refine CU.out.mono ?_
  rintro e W1 ⟨rfl, hw⟩
  rw [hw]
  clear hw CU W1
  go_wp2_with fail
  go_ret
  exact ⟨rfl, rfl⟩
set_option maxRecDepth 100000 in
theorem give_ok (h : SpAt N W sb v1 v2 G 2 c ws ms look) (hn : G.slots ≤ 65536) (k : Nat) (hi : k < G.slots) (hu : wb ws k = true) (hc : 1 ≤ c) (hc2 : c ≤ 65536) (hl : look ≤ 65536) : Calls Tryd.prog 16 #[.pointer (some ⟨sb, 0, none⟩), .int .i64 (k : Nat)] W fun e W' => e = .returned (.int .i64 0) ∧ SpTo N W W' sb v1 v2 G 2 (c - 1) (upd (wb ws) k false) (wb ms) (min look k) := by
  have y : W.cell? ⟨sb, 2, none⟩ = some (.int .i64 2) := h.c2
  have y11 := h.c11
  have l1 := h.l1
  have C := hide (hs_any h k)
  rw [inB_true.2 ⟨by omega, by omega⟩] at C
  have CU := hide (has_any h.w1 (by omega) (k : Int) (by omega) (by omega))
  rw [uat_nat, hu] at CU
  have kl := wb_lt hu
  obtain ⟨g, cap, e1, -, -⟩ := h.w1.cellAt (List.getElem?_eq_getElem kl)
  subst e1
  have CS := hide (unset_any h.w1 (by omega) k kl)
  have w1 : IntKind.i64.wrap ((c : Int) - 1) = (c : Int) - 1 := by rw [IntKind.wrap_i64]; omega
  have H := hide h
  have HC := hide hc
  clear h hu l1 hc hl kl
  go_enter Tryd.func16, Tryd.ntmps16
  go_wp2_with fail
  refine C.out.mono ?_
  rintro e W1 ⟨rfl, hw⟩
  rw [hw]
  clear hw C W1
  go_wp2_with fail
  refine CU.out.mono ?_
  rintro e W1 ⟨rfl, hw⟩
  rw [hw]
  clear hw CU W1
  go_wp2_with fail
  refine CS.out.mono ?_
  rintro e W1 ⟨rfl, ⟨ws', a1, a2, a3⟩, a4⟩
  have gs : g ≠ sb := fun e => H.out.n0 (by rw [e]; rfl)
  have s1 : SpAt N W1 sb (.slice (some ⟨g, 0, none⟩) ws.length cap) v2 G 2 c ws' ms look :=
    ⟨H.out.bk.kept a4 (fun e => gs e.symm), a2, H.out.w2.kept a4 (fun z hz e => H.out.n2 g rfl (e ▸ hz)), H.out.x, H.out.n0, H.out.n1, H.out.n2, by rw [a1]; exact H.out.l1, H.out.l2⟩
  have y7 := s1.c7
  have f7 := s1.bk.fz 7
  obtain ⟨s2, k2⟩ := s1.setCount (c - 1)
  have f13 := s2.bk.fz 13
  have y13 := s2.c13
  have s3a := fun l => s2.setLook l
  rw [show ((c - 1 : Nat) : Int) = (c : Int) - 1 by have := HC.out; omega] at f13 y13 s3a k2
  have FIN := hide (show ∀ l : Nat, l = min look k → SpTo N W ((W1.setCell ⟨sb, 7, none⟩ (.int .i64 ((c : Int) - 1))).setCell ⟨sb, 13, none⟩ (.int .i64 (l : Nat))) sb (.slice (some ⟨g, 0, none⟩) ws.length cap) v2 G 2 (c - 1) (upd (wb ws) k false) (wb ms) (min look k) from fun l hl => by
    obtain ⟨s3, k3⟩ := s3a l
    rw [← hl]
    exact ⟨_, v2, ws', ms, s3, a3, rfl, ((a4.mono (G := ownS sb (.slice (some ⟨g, 0, none⟩) ws.length cap) v2) fun z hz => .inr (.inl (by rw [hz]; rfl))).trans (k2.mono (G := ownS sb (.slice (some ⟨g, 0, none⟩) ws.length cap) v2) fun z hz => .inl hz) (fun _ _ f => f)).trans (k3.mono (G := ownS sb (.slice (some ⟨g, 0, none⟩) ws.length cap) v2) fun z hz => .inl hz) (fun _ _ f => f), fun z hz => .inl hz⟩)
  clear a1 a2 a3 a4 s1 s2 s3a k2 CS y y11
  go_wp2_with fail
  all_goals (go_ret; exact ⟨rfl, FIN.out _ (by omega)⟩)
/-! ### Mark -/
theorem mark_state (h : SpAt N W sb v1 v2 G st c ws ms look) (hs : st ≠ 1) (i : Int) : Calls Tryd.prog 19 #[.pointer (some ⟨sb, 0, none⟩), .int .i64 i] W fun e W' => e = .returned (.int .i64 33) ∧ W' = W := by
  have y := h.c2
  have d : ((st : Int) != 1) = true := by simp; omega
  have d' : ((st : Int) == 1) = false := by simp; omega
  clear h
  go_enter Tryd.func19, Tryd.ntmps19
  go_wp2_with fail
  go_ret
  exact ⟨rfl, rfl⟩
theorem mark_arg (h : SpAt N W sb v1 v2 G 1 c ws ms look) (i : Int) (hi : inB G.slots i = false) : Calls Tryd.prog 19 #[.pointer (some ⟨sb, 0, none⟩), .int .i64 i] W fun e W' => e = .returned (.int .i64 1) ∧ W' = W := by
  have y : W.cell? ⟨sb, 2, none⟩ = some (.int .i64 1) := h.c2
  have C := hide (hs_any h i)
  rw [hi] at C
  clear h
  go_enter Tryd.func19, Tryd.ntmps19
  go_wp2_with fail
  refine C.out.mono ?_
  rintro e W1 ⟨rfl, hw⟩
  rw [hw]
  clear hw C W1
  go_wp2_with fail
  go_ret
  exact ⟨rfl, rfl⟩
theorem mark_ok (h : SpAt N W sb v1 v2 G 1 c ws ms look) (hN : N ≤ W.heap.size) (hn : G.slots ≤ 65536) (k : Nat) (hi : k < G.slots) : Calls Tryd.prog 19 #[.pointer (some ⟨sb, 0, none⟩), .int .i64 (k : Nat)] W fun e W' => e = .returned (.int .i64 0) ∧ SpTo N W W' sb v1 v2 G 1 c (wb ws) (upd (wb ms) k true) look := by
  have y : W.cell? ⟨sb, 2, none⟩ = some (.int .i64 1) := h.c2
  have l2 := h.l2
  have C := hide (hs_any h k)
  rw [inB_true.2 ⟨by omega, by omega⟩] at C
  have CS := hide (set_any h.bk (off := 12) rfl h.w2 h.n1 hN (by omega) k (by omega))
  have H := hide h
  have HK := hide (And.intro hi (And.intro hn l2))
  clear h hi hn l2 hN
  go_enter Tryd.func19, Tryd.ntmps19
  go_wp2_with fail
  refine C.out.mono ?_
  rintro e W1 ⟨rfl, hw⟩
  rw [hw]
  clear hw C W1
  go_wp2_with fail
  refine CS.out.mono ?_
  rintro e W1 ⟨rfl, v', ms', a1, a2, a3, a4, a5, a6, a7⟩
  have s1 := H.out.grewM (by have := HK.out; omega) a3 a4 a5 a6 a7
  have FIN := hide (show SpTo N W W1 sb v1 v2 G 1 c (wb ws) (upd (wb ms) k true) look from ⟨v1, v', ws, ms', s1, rfl, a2, a6.mono (fun z hz => hz.imp id .inr), fun z hz => by
    rcases hz with hz | hz | hz
    · exact .inl (.inl hz)
    · exact .inl (.inr (.inl hz))
    · rcases a7 z hz with y | y
      · exact .inl (.inr (.inr y))
      · exact .inr y⟩)
  clear a1 a2 a3 a4 a5 a6 a7 s1 CS y
  go_wp2_with fail
  go_ret
  exact ⟨rfl, FIN.out⟩
/-! ### Die -/
theorem die_no (h : SpAt N W sb v1 v2 G st c ws ms look) (hs : st = 0 ∨ 0 < c) : Calls Tryd.prog 26 #[.pointer (some ⟨sb, 0, none⟩)] W fun e W' => e = .returned (.int .i64 33) ∧ W' = W := by
  have y := h.c2
  have y7 := h.c7
  clear h
  by_cases z : st = 0
  · subst z
    have y' : W.cell? ⟨sb, 2, none⟩ = some (.int .i64 0) := y
    clear y
    go_enter Tryd.func26, Tryd.ntmps26
    go_wp2_with fail
    go_ret
    exact ⟨rfl, rfl⟩
  · have d : ((st : Int) == 0) = false := by simp; omega
    have d2 : decide (0 < c) = true := decide_eq_true (by omega)
    have d3 : 0 < c := by omega
    clear hs z
    go_enter Tryd.func26, Tryd.ntmps26
    go_wp2_with fail
    go_ret
    exact ⟨rfl, rfl⟩
theorem die_ok (h : SpAt N W sb v1 v2 G st 0 ws ms look) (hs : st ≠ 0) : Calls Tryd.prog 26 #[.pointer (some ⟨sb, 0, none⟩)] W fun e W' => e = .returned (.int .i64 0) ∧ SpTo N W W' sb v1 v2 G 0 0 (fun _ => false) (fun _ => false) look := by
  have y := h.c2
  have y7 : W.cell? ⟨sb, 7, none⟩ = some (.int .i64 0) := h.c7
  have d : ((st : Int) == 0) = false := by simp; omega
  have f2 := h.bk.fz 2
  obtain ⟨s1, k1⟩ := h.setState 0
  have f11 := s1.bk.fz 11
  have y11 := s1.c11
  obtain ⟨s2, k2⟩ := s1.dropUsed
  have f12 := s2.bk.fz 12
  have y12 := s2.c12
  obtain ⟨s3, k3⟩ := s2.dropMarks
  rw [show ((0 : Nat) : Int) = 0 from rfl] at f11 y11 s2 k2 f12 y12 s3 k3 k1
  have FIN := hide (show SpTo N W _ sb v1 v2 G 0 0 (fun _ => false) (fun _ => false) look from ⟨_, _, _, _, s3, funext wb_nil, funext wb_nil, ((k1.mono (G := ownS sb v1 v2) fun z hz => .inl hz).trans (k2.mono (G := ownS sb v1 v2) fun z hz => .inl hz) (fun _ _ f => f)).trans (k3.mono (G := ownS sb v1 v2) fun z hz => .inl hz) (fun _ _ f => f), fun z hz => by
    rcases hz with hz | hz | hz
    · exact .inl (.inl hz)
    · exact absurd hz (own_none _)
    · exact absurd hz (own_none _)⟩)
  clear h s1 s2 s3 k1 k2 k3 hs
  go_enter Tryd.func26, Tryd.ntmps26
  go_wp2_with fail
  go_ret
  exact ⟨rfl, FIN.out⟩
end
end Go.Proofs.YtblfefibgoiaaaaDoor
