/- awake; how a list of classes is read. -/
import Derived.Test.YtblfefibgoiaaaaDoorOf
import Derived.Laws.OwnMore
namespace Go.Proofs.YtblfefibgoiaaaaDoor
open Go.ChangeShapes Go.WideShapes Go.ChangeAt Go.RowKit Go.Proofs.Cl Go.Shelf
set_option linter.unusedVariables false
set_option linter.unusedSimpArgs false

theorem flatC_at {l : List Cls} {i : Nat} {c : Cls} (h : l[i]? = some c) : (flatC l)[i * 4]? = some (.int .i64 (c.size : Nat)) ∧ (flatC l)[i * 4 + 1]? = some (.int .i64 (c.pages : Nat)) ∧ (flatC l)[i * 4 + 2]? = some (.int .i64 (c.slots : Nat)) ∧ (flatC l)[i * 4 + 3]? = some (.int .u32 (c.magic : Nat)) := by
  induction l generalizing i with
  | nil => simp at h
  | cons a l ih =>
    have e : flatC (a :: l) = [.int .i64 (a.size : Nat), .int .i64 (a.pages : Nat), .int .i64 (a.slots : Nat), .int .u32 (a.magic : Nat)] ++ flatC l := rfl
    cases i with
    | zero => simp at h; subst h; rw [e]; exact ⟨rfl, rfl, rfl, rfl⟩
    | succ i =>
      obtain ⟨h1, h2, h3, h4⟩ := ih (i := i) (by simpa using h)
      rw [e]
      refine ⟨?_, ?_, ?_, ?_⟩
      · rw [List.getElem?_append_right (by simp; omega)]; simp only [List.length_cons, List.length_nil]; rw [show (i + 1) * 4 - (0 + 1 + 1 + 1 + 1) = i * 4 by omega]; exact h1
      · rw [List.getElem?_append_right (by simp; omega)]; simp only [List.length_cons, List.length_nil]; rw [show (i + 1) * 4 + 1 - (0 + 1 + 1 + 1 + 1) = i * 4 + 1 by omega]; exact h2
      · rw [List.getElem?_append_right (by simp; omega)]; simp only [List.length_cons, List.length_nil]; rw [show (i + 1) * 4 + 2 - (0 + 1 + 1 + 1 + 1) = i * 4 + 2 by omega]; exact h3
      · rw [List.getElem?_append_right (by simp; omega)]; simp only [List.length_cons, List.length_nil]; rw [show (i + 1) * 4 + 3 - (0 + 1 + 1 + 1 + 1) = i * 4 + 3 by omega]; exact h4
/-- A list of classes in a block. -/
def ListAt (w : World) (g : Nat) (l : List Cls) : Prop := ∀ i c, l[i]? = some c → w.cell? ⟨g, i * 4, none⟩ = some (.int .i64 (c.size : Nat)) ∧ w.cell? ⟨g, i * 4 + 1, none⟩ = some (.int .i64 (c.pages : Nat)) ∧ w.cell? ⟨g, i * 4 + 2, none⟩ = some (.int .i64 (c.slots : Nat)) ∧ w.cell? ⟨g, i * 4 + 3, none⟩ = some (.int .u32 (c.magic : Nat))
theorem list_at {w : World} {base g n cap : Nat} {l : List Cls} (h : w.ownsRow base 54 4 (.slice (some ⟨g, 0, none⟩) n cap) n (flatC l)) (hn : n = l.length) : ListAt w g l := by
  intro i c hc
  obtain ⟨h1, h2, h3, h4⟩ := flatC_at hc
  have hi : i < l.length := (List.getElem?_eq_some_iff.1 hc).1
  exact ⟨(h.cellAt _ (by omega)).trans h1, (h.cellAt _ (by omega)).trans h2, (h.cellAt _ (by omega)).trans h3, (h.cellAt _ (by omega)).trans h4⟩
theorem ListAt.kept {F : Nat → Prop} {w w' : World} {g : Nat} {l : List Cls} (h : ListAt w g l) (k : Kept F w w') (hg : ¬ F g) : ListAt w' g l := by
  intro i c hc
  obtain ⟨h1, h2, h3, h4⟩ := h i c hc
  have hl : g < w.heap.size := World.block_lt_of_cell? w ⟨g, i * 4, none⟩ h1
  have e := k.block g hl hg
  exact ⟨(World.cell?_of_block e).trans h1, (World.cell?_of_block e).trans h2, (World.cell?_of_block e).trans h3, (World.cell?_of_block e).trans h4⟩
theorem ListAt.below {w w' : World} {g : Nat} {l : List Cls} (h : ListAt w g l) (k : Below w.heap.size w w') : ListAt w' g l := h.kept (Kept.of_below (F := fun _ => False) k) (fun f => f)
theorem idx_33 : idx 33 = 4 := by decide +kernel
theorem rnd_40960 : rndN 32769 = 40960 := by decide
theorem table_4 : (zeroC :: table)[5]? = some ⟨48, 1, 170, 89478486⟩ := by
  have h : (match (zeroC :: table)[5]? with | some c => c.size == 48 && c.pages == 1 && c.slots == 170 && c.magic == 89478486 | none => false) = true := by decide +kernel
  revert h
  cases (zeroC :: table)[5]? with
  | none => intro h; cases h
  | some c =>
    intro h
    simp at h
    obtain ⟨⟨⟨a, b⟩, d⟩, e⟩ := h
    cases c
    simp_all
end Go.Proofs.YtblfefibgoiaaaaDoor
