/- A law's own row of truths. -/
import Derived.Test.YtblfefibgoiaaaaDoorGj
import Derived.Laws.MakeOwn
namespace Go.Proofs.YtblfefibgoiaaaaDoor
open Go.ChangeShapes Go.WideShapes Go.ChangeAt Go.RowKit Go.Proofs.Sn Go.Shelf
set_option linter.unusedVariables false
set_option linter.unusedSimpArgs false

/-- Truths in a block of the law's own. -/
structure BoR (W : World) (U L : Nat) (f : Nat → Bool) : Prop where
  cell : ∀ k, k < L → W.cell? ⟨U, k, none⟩ = some (.bool (f k))
  fz : ∀ k, W.frozen? ⟨U, k, none⟩ = false
  lt : U < W.heap.size
theorem BoR.block {W W' : World} {U L : Nat} {f : Nat → Bool} (h : BoR W U L f) (e : W'.heap[U]? = W.heap[U]?) (hl : U < W'.heap.size) : BoR W' U L f :=
  ⟨fun k hk => (World.cell?_of_block e).trans (h.cell k hk), fun k => (World.frozen?_of_block (a := ⟨U, k, none⟩) e).trans (h.fz k), hl⟩
theorem BoR.kept {F : Nat → Prop} {W W' : World} {U L : Nat} {f : Nat → Bool} (h : BoR W U L f) (k : Kept F W W') (hF : ¬ F U) : BoR W' U L f := h.block (k.block U h.lt hF) (Nat.lt_of_lt_of_le h.lt k.size)
theorem BoR.below {W W' : World} {U L : Nat} {f : Nat → Bool} (h : BoR W U L f) (k : Below W.heap.size W W') : BoR W' U L f := h.block (k.block U h.lt) (Nat.lt_of_lt_of_le h.lt k.size)
theorem BoR.congr {W : World} {U L : Nat} {f f' : Nat → Bool} (h : BoR W U L f) (e : ∀ k, k < L → f k = f' k) : BoR W U L f' := ⟨fun k hk => by rw [← e k hk]; exact h.cell k hk, h.fz, h.lt⟩
theorem BoR.set {W : World} {U L : Nat} {f : Nat → Bool} (h : BoR W U L f) (k : Nat) (hk : k < L) (x : Bool) : BoR (W.setCell ⟨U, k, none⟩ (.bool x)) U L (fun j => if j = k then x else f j) := by
  refine ⟨fun j hj => ?_, fun j => by rw [World.frozen?_setCell]; exact h.fz j, by simpa using h.lt⟩
  by_cases e : j = k
  · subst e; rw [if_pos rfl]; exact World.cell?_setCell_same _ _ _ (h.cell j hj)
  · rw [if_neg e, World.cell?_setCell_other _ _ _ _ (by intro z; have := congrArg Addr.off z; simp at this; omega)]; exact h.cell j hj
/-- A row of truths is made. -/
theorem make_bools (W : World) (L : Nat) (hL : L ≤ 100000) : ∃ W', (Instr.makeSlice 40 (.int .i64 (L : Nat)) (.int .i64 (L : Nat))).run Tryd.prog W = .ok (.slice (some ⟨W.heap.size, 0, none⟩) L L) W' ∧ BoR W' W.heap.size L (fun _ => false) ∧ Below W.heap.size W W' ∧ W'.heap.size = W.heap.size + 1 := by
  obtain ⟨i0, hi0, hz0, hz1, hz2⟩ := info_parts infoB
  have hr := run_make (P := Tryd.prog) W 40 4 i0 _ Tryd.underlying40 hi0 hz0 .i64 .i64 (L : Nat) (L : Nat) (by omega) (by omega) (by rw [hz2]; omega) (by omega)
  rw [Int.toNat_natCast, hz1, Nat.mul_one] at hr
  refine ⟨_, hr, ⟨fun k hk => ?_, fun k => ?_, by simp⟩, below_alloc W _, by simp⟩
  · have e : (W.alloc (.cells (madeCells (Value.bool false).cells L) 4)).heap[W.heap.size]? = some (.cells (madeCells (Value.bool false).cells L) 4 (0, 0)) := World.alloc_heap_new W _
    have e2 : (madeCells (Value.bool false).cells L)[k]? = some (.bool false) := by
      simp [madeCells, Value.cells, hk, Nat.mod_one]
    generalize madeCells (Value.bool false).cells L = cs at *
    unfold World.cell?
    rw [e]
    exact e2
  · have e : (W.alloc (.cells (madeCells (Value.bool false).cells L) 4)).heap[W.heap.size]? = some (.cells (madeCells (Value.bool false).cells L) 4 (0, 0)) := World.alloc_heap_new W _
    exact Bk.fz e k
theorem BoR.left {O : Nat → Prop} {W W' : World} {U L : Nat} {f : Nat → Bool} (h : BoR W U L f) (l : LeftO O W W') (hO : O U) : BoR W' U L f := by
  obtain ⟨K, k, hk⟩ := l
  exact h.kept k (hk U hO)
theorem BoR.put {W : World} {U L : Nat} {f : Nat → Bool} (h : BoR W U L f) (k : Nat) (hk : k < L) (x : Bool) : BoR (W.setCell ⟨U, k, none⟩ (.bool x)) U L (upd f k x) := h.set k hk x
/-- The law's own row is written. -/
theorem LS.put {N : Nat} {w W : World} {sb : Nat} {O : Nat → Prop} {G : Geo} {S : St} (h : LS N w W sb O G S) {U k : Nat} (hO : O U) (v : Value) : LS N w (W.setCell ⟨U, k, none⟩ v) sb O G S := h.own (kept_set (F := O) W U k v hO)
theorem LeftO.refl_drewN (O : Nat → Prop) (W : World) (j : Nat) : LeftO O W (W.drewN j) := LeftO.of_below (below_dN W j)
end Go.Proofs.YtblfefibgoiaaaaDoor
