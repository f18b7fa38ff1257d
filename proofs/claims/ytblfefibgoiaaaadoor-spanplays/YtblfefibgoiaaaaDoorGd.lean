/- A span in memory; hasSlot, Info, Used, Marked, Next, Give, Mark, Sweep, Die: contracts. -/
import Derived.Test.YtblfefibgoiaaaaDoorGc
namespace Go.Proofs.YtblfefibgoiaaaaDoor
open Go.ChangeShapes Go.WideShapes Go.ChangeAt Go.RowKit Go.Proofs.Sn Go.Shelf
set_option linter.unusedVariables false
set_option linter.unusedSimpArgs false

attribute [local go_sem] Oper.semAt_some

/-- What of a span does not turn. -/
structure Geo where
  base : Nat
  pages : Nat
  cls : Nat
  noptr : Bool
  elem : Nat
  slots : Nat
  magic : Nat
structure GOk (G : Geo) : Prop where
  s1 : G.slots ≤ 65536
  p1 : G.pages ≤ 134217728
  e0 : 8 ≤ G.elem
  e1 : G.elem ≤ 1099511627776
  b1 : G.base + G.slots * G.elem ≤ 281474976710656
  mg : G.magic = 0 ∨ (G.magic = Cl.magicN G.elem ∧ G.elem ≤ 32768 ∧ G.slots * G.elem ≤ 131072)
/-- What turns. -/
structure St where
  st : Nat
  u : Nat → Bool
  m : Nat → Bool
  look : Nat
structure SOk (n : Nat) (S : St) : Prop where
  su : ∀ i, S.u i = true → i < n
  sm : ∀ i, S.m i = true → i < n
  lk : S.look ≤ n
def cellsS (G : Geo) (st : Nat) (c : Nat) (v1 v2 : Value) (look : Nat) : Array Value :=
  #[.int .u64 (G.base : Nat), .int .i64 (G.pages : Nat), .int .i64 (st : Nat), .int .i64 (G.cls : Nat), .bool G.noptr, .int .i64 (G.elem : Nat), .int .i64 (G.slots : Nat), .int .i64 (c : Nat), .bool false, .bool false, .int .u32 (G.magic : Nat), v1, v2, .int .i64 (look : Nat)]
structure SpAt (N : Nat) (W : World) (sb : Nat) (v1 v2 : Value) (G : Geo) (st c : Nat) (ws ms : List Nat) (look : Nat) : Prop where
  bk : Bk W sb 78 (cellsS G st c v1 v2 look)
  w1 : Wr N W v1 ws
  w2 : Wr N W v2 ms
  x : N ≤ sb
  n0 : v1.ownBlock ≠ some sb
  n1 : v2.ownBlock ≠ some sb
  n2 : ∀ g, v1.ownBlock = some g → v2.ownBlock ≠ some g
  l1 : ws.length ≤ 1024
  l2 : ms.length ≤ 1024
def ownS (sb : Nat) (v1 v2 : Value) (z : Nat) : Prop := z = sb ∨ v1.ownBlock = some z ∨ v2.ownBlock = some z
theorem below_dN (W : World) (j : Nat) : Below W.heap.size W (W.drewN j) := ⟨rfl, rfl, rfl, Nat.le_refl _, fun _ _ => rfl⟩
def inB (n : Nat) (i : Int) : Bool := decide (0 ≤ i) && decide (i < (n : Int))
theorem inB_true {n : Nat} {i : Int} : inB n i = true ↔ 0 ≤ i ∧ i < n := by unfold inB; simp
theorem inB_false {n : Nat} {i : Int} : inB n i = false ↔ i < 0 ∨ (n : Int) ≤ i := by unfold inB; simp; omega
section
variable {N : Nat} {W W' : World} {sb : Nat} {v1 v2 : Value} {G : Geo} {st c look : Nat} {ws ms : List Nat}
theorem SpAt.kept {F : Nat → Prop} (h : SpAt N W sb v1 v2 G st c ws ms look) (k : Kept F W W') (hF : ∀ z, ownS sb v1 v2 z → ¬ F z) : SpAt N W' sb v1 v2 G st c ws ms look :=
  ⟨h.bk.kept k (hF _ (.inl rfl)), h.w1.kept k (fun g hg => hF _ (.inr (.inl hg))), h.w2.kept k (fun g hg => hF _ (.inr (.inr hg))), h.x, h.n0, h.n1, h.n2, h.l1, h.l2⟩
theorem SpAt.below (h : SpAt N W sb v1 v2 G st c ws ms look) (k : Below W.heap.size W W') : SpAt N W' sb v1 v2 G st c ws ms look := h.kept (Kept.of_below (F := fun _ => False) k) (fun _ _ f => f)
theorem SpAt.own (h : SpAt N W sb v1 v2 G st c ws ms look) {z : Nat} (hz : ownS sb v1 v2 z) : N ≤ z ∧ z < W.heap.size := by
  rcases hz with rfl | hz | hz
  · exact ⟨h.x, h.bk.lt⟩
  · exact own_ge h.w1.row hz
  · exact own_ge h.w2.row hz
theorem SpAt.c0 (h : SpAt N W sb v1 v2 G st c ws ms look) : W.cell? ⟨sb, 0, none⟩ = some (.int .u64 (G.base : Nat)) := h.bk.cell 0 _ rfl
theorem SpAt.c1 (h : SpAt N W sb v1 v2 G st c ws ms look) : W.cell? ⟨sb, 1, none⟩ = some (.int .i64 (G.pages : Nat)) := h.bk.cell 1 _ rfl
theorem SpAt.c2 (h : SpAt N W sb v1 v2 G st c ws ms look) : W.cell? ⟨sb, 2, none⟩ = some (.int .i64 (st : Nat)) := h.bk.cell 2 _ rfl
theorem SpAt.c3 (h : SpAt N W sb v1 v2 G st c ws ms look) : W.cell? ⟨sb, 3, none⟩ = some (.int .i64 (G.cls : Nat)) := h.bk.cell 3 _ rfl
theorem SpAt.c4 (h : SpAt N W sb v1 v2 G st c ws ms look) : W.cell? ⟨sb, 4, none⟩ = some (.bool G.noptr) := h.bk.cell 4 _ rfl
theorem SpAt.c5 (h : SpAt N W sb v1 v2 G st c ws ms look) : W.cell? ⟨sb, 5, none⟩ = some (.int .i64 (G.elem : Nat)) := h.bk.cell 5 _ rfl
theorem SpAt.c6 (h : SpAt N W sb v1 v2 G st c ws ms look) : W.cell? ⟨sb, 6, none⟩ = some (.int .i64 (G.slots : Nat)) := h.bk.cell 6 _ rfl
theorem SpAt.c7 (h : SpAt N W sb v1 v2 G st c ws ms look) : W.cell? ⟨sb, 7, none⟩ = some (.int .i64 (c : Nat)) := h.bk.cell 7 _ rfl
theorem SpAt.c8 (h : SpAt N W sb v1 v2 G st c ws ms look) : W.cell? ⟨sb, 8, none⟩ = some (.bool false) := h.bk.cell 8 _ rfl
theorem SpAt.c9 (h : SpAt N W sb v1 v2 G st c ws ms look) : W.cell? ⟨sb, 9, none⟩ = some (.bool false) := h.bk.cell 9 _ rfl
theorem SpAt.c10 (h : SpAt N W sb v1 v2 G st c ws ms look) : W.cell? ⟨sb, 10, none⟩ = some (.int .u32 (G.magic : Nat)) := h.bk.cell 10 _ rfl
theorem SpAt.c11 (h : SpAt N W sb v1 v2 G st c ws ms look) : W.cell? ⟨sb, 11, none⟩ = some (v1) := h.bk.cell 11 _ rfl
theorem SpAt.c12 (h : SpAt N W sb v1 v2 G st c ws ms look) : W.cell? ⟨sb, 12, none⟩ = some (v2) := h.bk.cell 12 _ rfl
theorem SpAt.c13 (h : SpAt N W sb v1 v2 G st c ws ms look) : W.cell? ⟨sb, 13, none⟩ = some (.int .i64 (look : Nat)) := h.bk.cell 13 _ rfl
/-! ### hasSlot, Info, Used, Marked -/
theorem hs_any (h : SpAt N W sb v1 v2 G st c ws ms look) (i : Int) : Calls Tryd.prog 44 #[.pointer (some ⟨sb, 0, none⟩), .int .i64 i] W fun e W' => e = .returned (.bool (inB G.slots i)) ∧ W' = W := by
  have y6 := h.c6
  unfold inB
  clear h
  by_cases c1 : 0 ≤ i
  · have d1 : decide (0 ≤ i) = true := decide_eq_true c1
    rw [d1, Bool.true_and]
    generalize G.slots = n at *
    go_enter Tryd.func44, Tryd.ntmps44
    go_wp2_with fail
    go_ret
    exact ⟨rfl, rfl⟩
  · have d1 : decide (0 ≤ i) = false := decide_eq_false c1
    rw [d1, Bool.false_and]
    clear y6
    go_enter Tryd.func44, Tryd.ntmps44
    go_wp2_with fail
    go_ret
    exact ⟨rfl, rfl⟩
theorem used_any (h : SpAt N W sb v1 v2 G st c ws ms look) (i : Int) (h0 : -9223372036854775808 ≤ i) (h1 : i ≤ 9223372036854775807) : Calls Tryd.prog 24 #[.pointer (some ⟨sb, 0, none⟩), .int .i64 i] W fun e W' => e = .returned (.bool (uat (wb ws) i)) ∧ W' = W := by
  have y := h.c11
  have l1 := h.l1
  have C := hide (has_any h.w1 (by omega) i h0 h1)
  obtain ⟨o, cap, rfl⟩ := row_form h.w1.row
  clear h l1
  go_enter Tryd.func24, Tryd.ntmps24
  go_wp2_with fail
  refine C.out.mono ?_
  rintro e W1 ⟨rfl, hw⟩
  rw [hw]
  clear hw C W1
  go_wp2_with fail
  go_ret
  exact ⟨rfl, rfl⟩
theorem marked_any (h : SpAt N W sb v1 v2 G st c ws ms look) (i : Int) (h0 : -9223372036854775808 ≤ i) (h1 : i ≤ 9223372036854775807) : Calls Tryd.prog 25 #[.pointer (some ⟨sb, 0, none⟩), .int .i64 i] W fun e W' => e = .returned (.bool (uat (wb ms) i)) ∧ W' = W := by
  have y := h.c12
  have l2 := h.l2
  have C := hide (has_any h.w2 (by omega) i h0 h1)
  obtain ⟨o, cap, rfl⟩ := row_form h.w2.row
  clear h l2
  go_enter Tryd.func25, Tryd.ntmps25
  go_wp2_with fail
  refine C.out.mono ?_
  rintro e W1 ⟨rfl, hw⟩
  rw [hw]
  clear hw C W1
  go_wp2_with fail
  go_ret
  exact ⟨rfl, rfl⟩
/-! ### What is written -/
theorem SpAt.setLook (h : SpAt N W sb v1 v2 G st c ws ms look) (l : Nat) : SpAt N (W.setCell ⟨sb, 13, none⟩ (.int .i64 (l : Nat))) sb v1 v2 G st c ws ms l ∧ Kept (fun z => z = sb) W (W.setCell ⟨sb, 13, none⟩ (.int .i64 (l : Nat))) := by
  have k := kept_set (F := fun z => z = sb) W sb 13 (.int .i64 (l : Nat)) rfl
  exact ⟨⟨h.bk.set 13 _, h.w1.kept k (fun g hg e => h.n0 (e ▸ hg)), h.w2.kept k (fun g hg e => h.n1 (e ▸ hg)), h.x, h.n0, h.n1, h.n2, h.l1, h.l2⟩, k⟩
theorem SpAt.setCount (h : SpAt N W sb v1 v2 G st c ws ms look) (l : Nat) : SpAt N (W.setCell ⟨sb, 7, none⟩ (.int .i64 (l : Nat))) sb v1 v2 G st l ws ms look ∧ Kept (fun z => z = sb) W (W.setCell ⟨sb, 7, none⟩ (.int .i64 (l : Nat))) := by
  have k := kept_set (F := fun z => z = sb) W sb 7 (.int .i64 (l : Nat)) rfl
  exact ⟨⟨h.bk.set 7 _, h.w1.kept k (fun g hg e => h.n0 (e ▸ hg)), h.w2.kept k (fun g hg e => h.n1 (e ▸ hg)), h.x, h.n0, h.n1, h.n2, h.l1, h.l2⟩, k⟩
theorem SpAt.setState (h : SpAt N W sb v1 v2 G st c ws ms look) (l : Nat) : SpAt N (W.setCell ⟨sb, 2, none⟩ (.int .i64 (l : Nat))) sb v1 v2 G l c ws ms look ∧ Kept (fun z => z = sb) W (W.setCell ⟨sb, 2, none⟩ (.int .i64 (l : Nat))) := by
  have k := kept_set (F := fun z => z = sb) W sb 2 (.int .i64 (l : Nat)) rfl
  exact ⟨⟨h.bk.set 2 _, h.w1.kept k (fun g hg e => h.n0 (e ▸ hg)), h.w2.kept k (fun g hg e => h.n1 (e ▸ hg)), h.x, h.n0, h.n1, h.n2, h.l1, h.l2⟩, k⟩
theorem own_none (z : Nat) : (Value.slice none 0 0).ownBlock ≠ some z := by simp [Value.ownBlock]
theorem Wr.none (N : Nat) (W : World) : Wr N W (.slice none 0 0) [] := ⟨World.ownsRow_nil _ _ _ _, Small.nil⟩
theorem SpAt.dropUsed (h : SpAt N W sb v1 v2 G st c ws ms look) : SpAt N (W.setCell ⟨sb, 11, none⟩ (.slice none 0 0)) sb (.slice none 0 0) v2 G st c [] ms look ∧ Kept (fun z => z = sb) W (W.setCell ⟨sb, 11, none⟩ (.slice none 0 0)) := by
  have k := kept_set (F := fun z => z = sb) W sb 11 (.slice none 0 0) rfl
  exact ⟨⟨h.bk.set 11 _, Wr.none _ _, h.w2.kept k (fun g hg e => h.n1 (e ▸ hg)), h.x, own_none _, h.n1, fun g hg => absurd hg (own_none _), by simp, h.l2⟩, k⟩
theorem SpAt.dropMarks (h : SpAt N W sb v1 v2 G st c ws ms look) : SpAt N (W.setCell ⟨sb, 12, none⟩ (.slice none 0 0)) sb v1 (.slice none 0 0) G st c ws [] look ∧ Kept (fun z => z = sb) W (W.setCell ⟨sb, 12, none⟩ (.slice none 0 0)) := by
  have k := kept_set (F := fun z => z = sb) W sb 12 (.slice none 0 0) rfl
  exact ⟨⟨h.bk.set 12 _, h.w1.kept k (fun g hg e => h.n0 (e ▸ hg)), Wr.none _ _, h.x, h.n0, own_none _, fun g hg => own_none _, h.l1, by simp⟩, k⟩
/-- The marks become what is used. -/
theorem SpAt.flip (h : SpAt N W sb v1 v2 G st c ws ms look) :
    SpAt N ((W.setCell ⟨sb, 11, none⟩ v2).setCell ⟨sb, 12, none⟩ (.slice none 0 0)) sb v2 (.slice none 0 0) G st c ms [] look ∧ Kept (fun z => z = sb) W ((W.setCell ⟨sb, 11, none⟩ v2).setCell ⟨sb, 12, none⟩ (.slice none 0 0)) := by
  have k := kept_set (F := fun z => z = sb) W sb 11 v2 rfl
  have k' := kept_set (F := fun z => z = sb) (W.setCell ⟨sb, 11, none⟩ v2) sb 12 (.slice none 0 0) rfl
  have kk := k.trans k' (fun _ _ f => f)
  exact ⟨⟨(h.bk.set 11 v2).set 12 _, h.w2.kept kk (fun g hg e => h.n1 (e ▸ hg)), Wr.none _ _, h.x, h.n1, own_none _, fun g hg => own_none _, h.l2, by simp⟩, kk⟩
/-! ### Next -/
theorem next_dead (h : SpAt N W sb v1 v2 G 0 c ws ms look) : Calls Tryd.prog 17 #[.pointer (some ⟨sb, 0, none⟩)] W fun e W' => e = .returned (.tuple #[.int .i64 0, .int .i64 33]) ∧ W' = W := by
  have y := h.c2
  rw [show ((0 : Nat) : Int) = 0 from rfl] at y
  clear h
  go_enter Tryd.func17, Tryd.ntmps17
  go_wp2_with fail
  go_ret2
  exact ⟨rfl, rfl⟩
theorem clear_at {v : Value} {i k : Nat} (h : Wr N W v ws) (hL : ws.length ≤ 100000) (hT : TabW W) (hi : i ≤ 6400000) (hk : First (wb ws) i k) :
    Calls Tryd.prog 47 #[v, .int .i64 (i : Nat)] W fun e W' => e = .returned (.int .i64 (k : Nat)) ∧ W' = W := by
  refine (clear_any h hL hT i hi).mono ?_
  rintro e W' ⟨⟨k', rfl, hf, -⟩, hw⟩
  rw [hk.one hf]
  exact ⟨rfl, hw⟩
theorem next_full (h : SpAt N W sb v1 v2 G st c ws ms look) (hT : TabW W) (hs : st ≠ 0) (hl : look ≤ 65536) {k : Nat} (hf : First (wb ws) look k) (hk : G.slots ≤ k) :
    Calls Tryd.prog 17 #[.pointer (some ⟨sb, 0, none⟩)] W fun e W' => e = .returned (.tuple #[.int .i64 0, .int .i64 30]) ∧ Below W.heap.size W W' := by
  have y2 := h.c2
  have y11 := h.c11
  have y13 := h.c13
  have l1 := h.l1
  have CL := hide (fun j => clear_at (h.w1.below (below_dN W j)) (by omega) (hT.block rfl) (by omega) hf)
  have CH := hide (fun j => hs_any (h.below (below_dN W j)) (k : Int))
  rw [inB_false.2 (.inr (by omega))] at CH
  obtain ⟨o, cap, rfl⟩ := row_form h.w1.row
  have d : ((st : Int) == 0) = false := by simp; omega
  clear h hf
  go_enter Tryd.func17, Tryd.ntmps17
  go_wp2_with fail
  go_quiet (first | (go_at_call 47; refine Calls.quiet_of_same (CL.out _)))
  go_wp2_with fail
  refine (CH.out _).mono ?_
  rintro e W1 ⟨rfl, hw⟩
  rw [hw]
  clear hw CH W1
  go_wp2_with fail
  go_ret2
  exact ⟨rfl, below_dN W _⟩
end
end Go.Proofs.YtblfefibgoiaaaaDoor
