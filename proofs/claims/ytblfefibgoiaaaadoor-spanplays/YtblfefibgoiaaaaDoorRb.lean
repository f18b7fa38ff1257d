/- The reference's span in memory: Count, Next, Give, SetMark, Die, IsUsed, Marked, Slot, Index: contracts. -/
import Derived.Test.YtblfefibgoiaaaaDoorRa
import Derived.Test.YtblfefibgoiaaaaDoorGg
namespace Go.Proofs.YtblfefibgoiaaaaDoor
open Go.ChangeShapes Go.WideShapes Go.ChangeAt Go.RowKit Go.Proofs.Sn Go.Shelf
set_option linter.unusedVariables false
set_option linter.unusedSimpArgs false

attribute [local go_sem] Oper.semAt_some

def cellsR (p : Nat) (G : Geo) (st : Nat) (v1 v2 : Value) (look : Nat) : Array Value :=
  #[.int .u64 (p : Nat), .int .u64 (G.pages : Nat), .int .i64 (st : Nat), .int .i64 (G.cls : Nat), .bool G.noptr, .int .i64 (G.elem : Nat), .int .i64 (G.slots : Nat), v1, v2, .int .i64 (look : Nat)]
structure RfAt (N : Nat) (W : World) (rb : Nat) (v1 v2 : Value) (p : Nat) (G : Geo) (st : Nat) (L1 L2 : List Bool) (look : Nat) : Prop where
  bk : Bk W rb 70 (cellsR p G st v1 v2 look)
  w1 : W.ownsRow N 4 1 v1 L1.length (L1.map encB)
  w2 : W.ownsRow N 4 1 v2 L2.length (L2.map encB)
  x : N ≤ rb
  n0 : v1.ownBlock ≠ some rb
  n1 : v2.ownBlock ≠ some rb
  n2 : ∀ g, v1.ownBlock = some g → v2.ownBlock ≠ some g
  l1 : L1.length ≤ 65536
  l2 : L2.length ≤ 65536
section
variable {N : Nat} {W W' : World} {rb : Nat} {v1 v2 : Value} {p : Nat} {G : Geo} {st look : Nat} {L1 L2 : List Bool}
theorem RfAt.kept {F : Nat → Prop} (h : RfAt N W rb v1 v2 p G st L1 L2 look) (k : Kept F W W') (hF : ∀ z, ownS rb v1 v2 z → ¬ F z) : RfAt N W' rb v1 v2 p G st L1 L2 look :=
  ⟨h.bk.kept k (hF _ (.inl rfl)), owns_kept h.w1 k (fun g hg => hF _ (.inr (.inl hg))), owns_kept h.w2 k (fun g hg => hF _ (.inr (.inr hg))), h.x, h.n0, h.n1, h.n2, h.l1, h.l2⟩
theorem RfAt.below (h : RfAt N W rb v1 v2 p G st L1 L2 look) (k : Below W.heap.size W W') : RfAt N W' rb v1 v2 p G st L1 L2 look := h.kept (Kept.of_below (F := fun _ => False) k) (fun _ _ f => f)
theorem RfAt.own (h : RfAt N W rb v1 v2 p G st L1 L2 look) {z : Nat} (hz : ownS rb v1 v2 z) : N ≤ z ∧ z < W.heap.size := by
  rcases hz with rfl | hz | hz
  · exact ⟨h.x, h.bk.lt⟩
  · exact own_ge h.w1 hz
  · exact own_ge h.w2 hz
theorem RfAt.c0 (h : RfAt N W rb v1 v2 p G st L1 L2 look) : W.cell? ⟨rb, 0, none⟩ = some (.int .u64 (p : Nat)) := h.bk.cell 0 _ rfl
theorem RfAt.c1 (h : RfAt N W rb v1 v2 p G st L1 L2 look) : W.cell? ⟨rb, 1, none⟩ = some (.int .u64 (G.pages : Nat)) := h.bk.cell 1 _ rfl
theorem RfAt.c2 (h : RfAt N W rb v1 v2 p G st L1 L2 look) : W.cell? ⟨rb, 2, none⟩ = some (.int .i64 (st : Nat)) := h.bk.cell 2 _ rfl
theorem RfAt.c3 (h : RfAt N W rb v1 v2 p G st L1 L2 look) : W.cell? ⟨rb, 3, none⟩ = some (.int .i64 (G.cls : Nat)) := h.bk.cell 3 _ rfl
theorem RfAt.c4 (h : RfAt N W rb v1 v2 p G st L1 L2 look) : W.cell? ⟨rb, 4, none⟩ = some (.bool G.noptr) := h.bk.cell 4 _ rfl
theorem RfAt.c5 (h : RfAt N W rb v1 v2 p G st L1 L2 look) : W.cell? ⟨rb, 5, none⟩ = some (.int .i64 (G.elem : Nat)) := h.bk.cell 5 _ rfl
theorem RfAt.c6 (h : RfAt N W rb v1 v2 p G st L1 L2 look) : W.cell? ⟨rb, 6, none⟩ = some (.int .i64 (G.slots : Nat)) := h.bk.cell 6 _ rfl
theorem RfAt.c7 (h : RfAt N W rb v1 v2 p G st L1 L2 look) : W.cell? ⟨rb, 7, none⟩ = some (v1) := h.bk.cell 7 _ rfl
theorem RfAt.c8 (h : RfAt N W rb v1 v2 p G st L1 L2 look) : W.cell? ⟨rb, 8, none⟩ = some (v2) := h.bk.cell 8 _ rfl
theorem RfAt.c9 (h : RfAt N W rb v1 v2 p G st L1 L2 look) : W.cell? ⟨rb, 9, none⟩ = some (.int .i64 (look : Nat)) := h.bk.cell 9 _ rfl
/-! ### IsUsed, Marked, Count -/
theorem rused_any (h : RfAt N W rb v1 v2 p G st L1 L2 look) (i : Int) : Calls Tryd.prog 40 #[.pointer (some ⟨rb, 0, none⟩), .int .i64 i] W fun e W' => e = .returned (.bool (uat (bl L1) i)) ∧ W' = W := by
  have y := h.c7
  have l1 := h.l1
  have C := hide (at_any h.w1 (by omega) i)
  obtain ⟨o, cap, rfl⟩ := row_form h.w1
  clear h l1
  go_enter Tryd.func40, Tryd.ntmps40
  go_wp2_with fail
  refine C.out.mono ?_
  rintro e W1 ⟨rfl, hw⟩
  rw [hw]
  clear hw C W1
  go_wp2_with fail
  go_ret
  exact ⟨rfl, rfl⟩
theorem rmarked_any (h : RfAt N W rb v1 v2 p G st L1 L2 look) (i : Int) : Calls Tryd.prog 41 #[.pointer (some ⟨rb, 0, none⟩), .int .i64 i] W fun e W' => e = .returned (.bool (uat (bl L2) i)) ∧ W' = W := by
  have y := h.c8
  have l1 := h.l2
  have C := hide (at_any h.w2 (by omega) i)
  obtain ⟨o, cap, rfl⟩ := row_form h.w2
  clear h l1
  go_enter Tryd.func41, Tryd.ntmps41
  go_wp2_with fail
  refine C.out.mono ?_
  rintro e W1 ⟨rfl, hw⟩
  rw [hw]
  clear hw C W1
  go_wp2_with fail
  go_ret
  exact ⟨rfl, rfl⟩
theorem rcount_any (h : RfAt N W rb v1 v2 p G st L1 L2 look) : Calls Tryd.prog 57 #[.pointer (some ⟨rb, 0, none⟩)] W fun e W' => e = .returned (.int .i64 (Bt.cnt (bl L1) 0 L1.length : Nat)) ∧ W' = W := by
  have y := h.c7
  have l1 := h.l1
  have H := hide h.w1
  obtain ⟨R, hR⟩ : ∃ R : Ending → World → Prop, R = fun e W' => e = .returned (.int .i64 (Bt.cnt (bl L1) 0 L1.length : Nat)) ∧ W' = W := ⟨_, rfl⟩
  rw [← hR]
  have FF := hide (show R (.returned (.int .i64 (Bt.cnt (bl L1) 0 L1.length : Nat))) W from by rw [hR]; exact ⟨rfl, rfl⟩)
  obtain ⟨o, cap, rfl⟩ := row_form h.w1
  obtain ⟨m, hm⟩ : ∃ m : Nat, L1.length = m := ⟨_, rfl⟩
  have HM := hide hm
  rw [hm] at y l1 FF
  clear h hR hm
  go_enter Tryd.func57, Tryd.ntmps57
  go_wp2_with fail
  go_loopw [3, 4] (fun vn vi wr => ∃ i : Nat, vi = .int .i64 (i : Nat) ∧ vn = .int .i64 (Bt.cnt (bl L1) 0 i : Nat) ∧ i ≤ m ∧ wr = W) (fun _ vi _ => m - (zi vi).toNat)
  case atStart => exact ⟨0, rfl, rfl, by omega, rfl⟩
  case round =>
    obtain ⟨i, rfl, rfl, hi, hw⟩ := hrel
    rw [hw]
    clear hw
    have pi3 : IntKind.i64.wrap ((i : Int) + 1) = (i : Int) + 1 := by rw [IntKind.wrap_i64]; omega
    by_cases c : i < m
    · have d : decide ((i : Int) < (m : Int)) = true := decide_eq_true (by omega)
      obtain ⟨g, cap', e', x1, -⟩ := bcellAt H.out (j := i) (by rw [HM.out]; exact c)
      obtain ⟨rfl, rfl⟩ : o = some ⟨g, 0, none⟩ ∧ cap = cap' := by simp at e'; exact e'
      have i0 : 0 ≤ (i : Int) := by omega
      have i1 : (i : Int) < (m : Int) := by omega
      have ST := hide (show Bt.cnt (bl L1) 0 (i + 1) = Bt.cnt (bl L1) 0 i + (bl L1 i).toNat from by rw [Bt.cnt, Nat.zero_add])
      have le := Bt.cnt_le (bl L1) 0 i
      generalize Bt.cnt (bl L1) 0 i = q at *
      have pq : IntKind.i64.wrap ((q : Int) + 1) = (q : Int) + 1 := by rw [IntKind.wrap_i64]; omega
      clear e'
      cases hu : bl L1 i with
      | true =>
        rw [hu] at x1 ST
        go_wp2_with fail
        exact ⟨⟨i + 1, by push_cast; rfl, by rw [ST.out]; push_cast; rfl, by omega, trivial⟩, by simp only [zi]; omega⟩
      | false =>
        rw [hu] at x1 ST
        go_wp2_with fail
        exact ⟨⟨i + 1, by push_cast; rfl, by rw [ST.out]; push_cast; simp, by omega, trivial⟩, by simp only [zi]; omega⟩
    · have d : decide ((i : Int) < (m : Int)) = false := decide_eq_false (by omega)
      obtain rfl : i = m := by omega
      go_wp2_with fail
      first | exact FF.out | (go_ret; exact FF.out)
/-! ### What is written -/
theorem RfAt.setLook (h : RfAt N W rb v1 v2 p G st L1 L2 look) (l : Nat) : RfAt N (W.setCell ⟨rb, 9, none⟩ (.int .i64 (l : Nat))) rb v1 v2 p G st L1 L2 l ∧ Kept (fun z => z = rb) W (W.setCell ⟨rb, 9, none⟩ (.int .i64 (l : Nat))) := by
  have k := kept_set (F := fun z => z = rb) W rb 9 (.int .i64 (l : Nat)) rfl
  exact ⟨⟨h.bk.set 9 _, owns_kept h.w1 k (fun g hg e => h.n0 (e ▸ hg)), owns_kept h.w2 k (fun g hg e => h.n1 (e ▸ hg)), h.x, h.n0, h.n1, h.n2, h.l1, h.l2⟩, k⟩
theorem RfAt.setState (h : RfAt N W rb v1 v2 p G st L1 L2 look) (l : Nat) : RfAt N (W.setCell ⟨rb, 2, none⟩ (.int .i64 (l : Nat))) rb v1 v2 p G l L1 L2 look ∧ Kept (fun z => z = rb) W (W.setCell ⟨rb, 2, none⟩ (.int .i64 (l : Nat))) := by
  have k := kept_set (F := fun z => z = rb) W rb 2 (.int .i64 (l : Nat)) rfl
  exact ⟨⟨h.bk.set 2 _, owns_kept h.w1 k (fun g hg e => h.n0 (e ▸ hg)), owns_kept h.w2 k (fun g hg e => h.n1 (e ▸ hg)), h.x, h.n0, h.n1, h.n2, h.l1, h.l2⟩, k⟩
theorem RfAt.dropUsed (h : RfAt N W rb v1 v2 p G st L1 L2 look) : RfAt N (W.setCell ⟨rb, 7, none⟩ (.slice none 0 0)) rb (.slice none 0 0) v2 p G st [] L2 look ∧ Kept (fun z => z = rb) W (W.setCell ⟨rb, 7, none⟩ (.slice none 0 0)) := by
  have k := kept_set (F := fun z => z = rb) W rb 7 (.slice none 0 0) rfl
  exact ⟨⟨h.bk.set 7 _, World.ownsRow_nil _ _ _ _, owns_kept h.w2 k (fun g hg e => h.n1 (e ▸ hg)), h.x, own_none _, h.n1, fun g hg => absurd hg (own_none _), by simp, h.l2⟩, k⟩
theorem RfAt.dropMarks (h : RfAt N W rb v1 v2 p G st L1 L2 look) : RfAt N (W.setCell ⟨rb, 8, none⟩ (.slice none 0 0)) rb v1 (.slice none 0 0) p G st L1 [] look ∧ Kept (fun z => z = rb) W (W.setCell ⟨rb, 8, none⟩ (.slice none 0 0)) := by
  have k := kept_set (F := fun z => z = rb) W rb 8 (.slice none 0 0) rfl
  exact ⟨⟨h.bk.set 8 _, owns_kept h.w1 k (fun g hg e => h.n0 (e ▸ hg)), World.ownsRow_nil _ _ _ _, h.x, h.n0, own_none _, fun g hg => own_none _, h.l1, by simp⟩, k⟩
theorem RfAt.putU (h : RfAt N W rb v1 v2 p G st L1 L2 look) {v' : Value} {L' : List Bool} (a2 : L'.length ≤ 65536) (a3 : W'.ownsRow N 4 1 v' L'.length (L'.map encB)) (a4 : Kept (fun z => v1.ownBlock = some z) W W') (a5 : ∀ z, v'.ownBlock = some z → v1.ownBlock = some z ∨ W.heap.size ≤ z) :
    RfAt N (W'.setCell ⟨rb, 7, none⟩ v') rb v' v2 p G st L' L2 look ∧ Kept (ownS rb v1 v2) W (W'.setCell ⟨rb, 7, none⟩ v') ∧ ∀ z, ownS rb v' v2 z → ownS rb v1 v2 z ∨ W.heap.size ≤ z := by
  have k := kept_set (F := fun z => z = rb) W' rb 7 v' rfl
  have rl := h.bk.lt
  have nv : v'.ownBlock ≠ some rb := fun e => by
    rcases a5 rb e with y | y
    · exact h.n0 y
    · omega
  refine ⟨⟨(h.bk.kept a4 h.n0).set 7 _, owns_kept a3 k (fun g hg e => nv (e ▸ hg)), owns_kept (owns_kept h.w2 a4 (fun g hg e => h.n2 g e hg)) k (fun g hg e => h.n1 (e ▸ hg)), h.x, nv, h.n1, fun g hg e => ?_, a2, h.l2⟩, (a4.mono (G := ownS rb v1 v2) fun z hz => .inr (.inl hz)).trans (k.mono (G := ownS rb v1 v2) fun z hz => .inl hz) (fun _ _ f => f), fun z hz => ?_⟩
  · rcases a5 g hg with y | y
    · exact h.n2 g y e
    · have := (own_ge h.w2 e).2; omega
  · rcases hz with hz | hz | hz
    · exact .inl (.inl hz)
    · rcases a5 z hz with y | y
      · exact .inl (.inr (.inl y))
      · exact .inr y
    · exact .inl (.inr (.inr hz))
theorem RfAt.putM (h : RfAt N W rb v1 v2 p G st L1 L2 look) {v' : Value} {L' : List Bool} (a2 : L'.length ≤ 65536) (a3 : W'.ownsRow N 4 1 v' L'.length (L'.map encB)) (a4 : Kept (fun z => v2.ownBlock = some z) W W') (a5 : ∀ z, v'.ownBlock = some z → v2.ownBlock = some z ∨ W.heap.size ≤ z) :
    RfAt N (W'.setCell ⟨rb, 8, none⟩ v') rb v1 v' p G st L1 L' look ∧ Kept (ownS rb v1 v2) W (W'.setCell ⟨rb, 8, none⟩ v') ∧ ∀ z, ownS rb v1 v' z → ownS rb v1 v2 z ∨ W.heap.size ≤ z := by
  have k := kept_set (F := fun z => z = rb) W' rb 8 v' rfl
  have rl := h.bk.lt
  have nv : v'.ownBlock ≠ some rb := fun e => by
    rcases a5 rb e with y | y
    · exact h.n1 y
    · omega
  refine ⟨⟨(h.bk.kept a4 h.n1).set 8 _, owns_kept (owns_kept h.w1 a4 (fun g hg e => h.n2 g hg e)) k (fun g hg e => h.n0 (e ▸ hg)), owns_kept a3 k (fun g hg e => nv (e ▸ hg)), h.x, h.n0, nv, fun g hg e => ?_, h.l1, a2⟩, (a4.mono (G := ownS rb v1 v2) fun z hz => .inr (.inr hz)).trans (k.mono (G := ownS rb v1 v2) fun z hz => .inl hz) (fun _ _ f => f), fun z hz => ?_⟩
  · rcases a5 g e with y | y
    · exact h.n2 g hg y
    · have := (own_ge h.w1 hg).2; omega
  · rcases hz with hz | hz | hz
    · exact .inl (.inl hz)
    · exact .inl (.inr (.inl hz))
    · rcases a5 z hz with y | y
      · exact .inl (.inr (.inr y))
      · exact .inr y
theorem RfAt.setOut {g cap : Nat} (h : RfAt N W rb (.slice (some ⟨g, 0, none⟩) L1.length cap) v2 p G st L1 L2 look) (j : Nat) (x : Bool) :
    RfAt N (W.setCell ⟨g, j, none⟩ (.bool x)) rb (.slice (some ⟨g, 0, none⟩) L1.length cap) v2 p G st (L1.set j x) L2 look ∧ Kept (fun z => z = g) W (W.setCell ⟨g, j, none⟩ (.bool x)) := by
  have k := kept_set (F := fun z => z = g) W g j (.bool x) rfl
  refine ⟨⟨h.bk.kept k (fun e => h.n0 (by rw [e]; rfl)), ?_, owns_kept h.w2 k (fun z hz e => h.n2 g rfl (e ▸ hz)), h.x, h.n0, h.n1, h.n2, by rw [List.length_set]; exact h.l1, h.l2⟩, k⟩
  have := (h.w1.stored j (.bool x)).1
  rw [List.length_set, List.map_set]
  exact this
/-- What a change leaves. -/
def RfTo (N : Nat) (W W' : World) (rb : Nat) (v1 v2 : Value) (p : Nat) (G : Geo) (st : Nat) (u m : Nat → Bool) (look : Nat) : Prop :=
  ∃ v1' v2' L1' L2', RfAt N W' rb v1' v2' p G st L1' L2' look ∧ bl L1' = u ∧ bl L2' = m ∧ Kept (ownS rb v1 v2) W W' ∧ ∀ z, ownS rb v1' v2' z → ownS rb v1 v2 z ∨ W.heap.size ≤ z
/-! ### Next -/
theorem rnext_dead (h : RfAt N W rb v1 v2 p G 0 L1 L2 look) : Calls Tryd.prog 33 #[.pointer (some ⟨rb, 0, none⟩)] W fun e W' => e = .returned (.tuple #[.int .i64 0, .int .i64 33]) ∧ W' = W := by
  have y : W.cell? ⟨rb, 2, none⟩ = some (.int .i64 0) := h.c2
  clear h
  go_enter Tryd.func33, Tryd.ntmps33
  go_wp2_with fail
  go_ret2
  exact ⟨rfl, rfl⟩
set_option maxRecDepth 100000 in
theorem rnext_any (h : RfAt N W rb v1 v2 p G st L1 L2 look) (hN : N ≤ W.heap.size) (hs : st ≠ 0) (hl : look ≤ 65536) {k : Nat} (hf : First (bl L1) look k) (hn : G.slots ≤ 65536) :
    Calls Tryd.prog 33 #[.pointer (some ⟨rb, 0, none⟩)] W fun e W' => (k < G.slots → e = .returned (.tuple #[.int .i64 (k : Nat), .int .i64 0]) ∧ RfTo N W W' rb v1 v2 p G st (upd (bl L1) k true) (bl L2) (k + 1)) ∧ (G.slots ≤ k → e = .returned (.tuple #[.int .i64 0, .int .i64 30]) ∧ W' = W) := by
  obtain ⟨R, hR⟩ : ∃ R : Ending → World → Prop, R = fun e W' => (k < G.slots → e = .returned (.tuple #[.int .i64 (k : Nat), .int .i64 0]) ∧ RfTo N W W' rb v1 v2 p G st (upd (bl L1) k true) (bl L2) (k + 1)) ∧ (G.slots ≤ k → e = .returned (.tuple #[.int .i64 0, .int .i64 30]) ∧ W' = W) := ⟨_, rfl⟩
  rw [← hR]
  have HR := hide hR
  clear hR
  have y2 := h.c2
  have y6 := h.c6
  have y7 := h.c7
  have y9 := h.c9
  have l1 := h.l1
  have d : ((st : Int) == 0) = false := by simp; omega
  have H := hide h
  have HF := hide hf
  have kb : k ≤ 65536 := by
    apply Classical.byContradiction
    intro z
    have := hf.2.2 65536 (by omega) (by omega)
    rw [bl_out (by omega)] at this
    cases this
  have CA := hide (fun i => at_any h.w1 (by omega) i)
  obtain ⟨o, cap, rfl⟩ := row_form h.w1
  obtain ⟨m, hm⟩ : ∃ m : Nat, L1.length = m := ⟨_, rfl⟩
  have HL := hide (And.intro hl l1)
  rw [hm] at y7 CA H HR
  clear h hf l1 hs
  go_enter Tryd.func33, Tryd.ntmps33
  go_wp2_with fail
  go_loopw [4] (fun vi wr => ∃ i : Nat, vi = .int .i64 (i : Nat) ∧ Hid (look ≤ i ∧ i ≤ k) ∧ wr = W) (fun vi _ => k - (zi vi).toNat)
  case atStart => exact ⟨look, rfl, hide ⟨Nat.le_refl _, HF.out.1⟩, rfl⟩
  case round =>
    obtain ⟨i, rfl, HI, hw⟩ := hrel
    rw [hw]
    clear hw
    have C := hide (CA.out (i : Int))
    rw [uat_nat] at C
    have pi3 : IntKind.i64.wrap ((i : Int) + 1) = (i : Int) + 1 := by rw [IntKind.wrap_i64]; have := HI.out; omega
    by_cases c : i < k
    · rw [HF.out.2.2 i HI.out.1 c] at C
      go_wp2_with fail
      refine C.out.mono ?_
      rintro e W1 ⟨rfl, hw⟩
      rw [hw]
      clear hw C W1
      go_wp2_with fail
      exact ⟨⟨i + 1, by push_cast; rfl, hide ⟨by have := HI.out; omega, by omega⟩, trivial⟩, by simp only [zi]; omega⟩
    · obtain rfl : i = k := by have := HI.out; omega
      rw [HF.out.2.1] at C
      by_cases ck : i < G.slots
      · have d2 : decide (G.slots ≤ i) = false := decide_eq_false (by omega)
        have CP := hide (put_any H.out.w1 hN i (by omega) (by rw [hm]; have := HL.out; omega) true)
        rw [hm] at CP
        clear CA
        go_wp2_with fail
        refine C.out.mono ?_
        rintro e W1 ⟨rfl, hw⟩
        rw [hw]
        clear hw C W1
        go_wp2_with fail
        refine CP.out.mono ?_
        rintro e W1 ⟨v', L', rfl, a1, a2, a3, a4, a5⟩
        have s1 := (H.out).putU (by have := HL.out; omega) a3 a4 a5
        have z7 := (H.out.bk.kept a4 H.out.n0).cell 7 _ rfl
        have f7 := (H.out.bk.kept a4 H.out.n0).fz 7
        have f9 := s1.1.bk.fz 9
        have z9 := s1.1.c9
        obtain ⟨s2, k2⟩ := s1.1.setLook (i + 1)
        rw [show ((i + 1 : Nat) : Int) = (i : Int) + 1 by omega] at s2 k2
        have FF := hide (show R (.returned (.tuple #[.int .i64 (i : Nat), .int .i64 0])) _ from by
          rw [HR.out]
          refine ⟨fun _ => ⟨rfl, ⟨v', v2, L', L2, s2, a2, rfl, (s1.2.1.trans (k2.mono (G := ownS rb (.slice o m cap) v2) fun z hz => .inl hz) (fun _ _ f => f)), s1.2.2⟩⟩, fun z => by omega⟩)
        obtain ⟨o9, cap9, e9⟩ := row_form a3
        subst e9
        clear a1 a2 a3 a4 a5 s1 s2 k2 CP
        go_wp2_with fail
        first | exact FF.out | (go_ret2; exact FF.out)
      · have d2 : decide (G.slots ≤ i) = true := decide_eq_true (by omega)
        have FF := hide (show R (.returned (.tuple #[.int .i64 0, .int .i64 30])) W from by
          rw [HR.out]
          exact ⟨fun z => by omega, fun _ => ⟨rfl, rfl⟩⟩)
        have ck' : G.slots ≤ i := by omega
        clear CA
        go_wp2_with fail
        refine C.out.mono ?_
        rintro e W1 ⟨rfl, hw⟩
        rw [hw]
        clear hw C W1
        go_wp2_with fail
        first | exact FF.out | (go_ret2; exact FF.out)
end
end Go.Proofs.YtblfefibgoiaaaaDoor
