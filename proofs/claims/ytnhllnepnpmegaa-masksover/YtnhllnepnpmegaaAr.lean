/- What comes in: lists of lists of truths. -/
import Derived.Test.YtnhllnepnpmegaaBa2
namespace Go.Proofs.Ytnhllnepnpmegaa
open Go.ChangeShapes Go.WideShapes Go.ChangeAt Go.RowKit Go.Shelf Go.WideMaps
set_option linter.unusedVariables false
set_option linter.unusedSimpArgs false

theorem bools_cell {H : Type} {enc : TypeId × Value → H} {W : World} {fuel : Nat} {cs : List Value} {x : DataW H × List MemPlace} (hf : DataW.trod enc Try.prog W 0 (fun _ => true) true fuel 32 cs = some x) : ∃ o len cap X, cs = [.slice o len cap] ∧ len ≤ maxLen ∧ len ≤ cap ∧ BoolsAt W o len cap X := by
  rcases Go.Deep.open_slice1 Try.underlying32 aB hf with ⟨hcs, hx⟩ | ⟨a, len', cap', m, n, V, D, Pl, hcs, _, hl, hm, hme, hx, hc⟩
  · exact ⟨none, 0, 0, fun _ => false, hcs, by decide, Nat.le_refl _, ⟨fun _ => ⟨rfl, rfl⟩, fun _ z => by (cases z)⟩⟩
  · have hmc : m = cap' := by simpa using hme
    have ex : ∀ i, ∃ X : Bool, (i < len' → W.cell? (a.add i) = some (.bool X)) := fun i => by
      by_cases z : i < len'
      · obtain ⟨k1, k2⟩ := hc i (by omega)
        obtain ⟨n0, e0, _⟩ := DataW.trod_bool Try.underlying4 k2
        have e1 : V i = .bool n0 := by injection e0
        exact ⟨n0, fun _ => by rw [k1, e1]⟩
      · exact ⟨false, fun y => absurd y z⟩
    refine ⟨some a, len', cap', fun i => Classical.choose (ex i), hcs, by omega, by omega, ⟨fun z => by (cases z), fun ad e i hi => ?_⟩⟩
    obtain rfl : a = ad := by injection e
    exact Classical.choose_spec (ex i) hi
/-- Lists in a row. -/
structure RowB where
  o : Option Addr
  l : Nat
  c : Nat
  X : Nat → Bool
structure RowsBAt (w : World) (o : Option Addr) (len cap : Nat) (Y : Nat → RowB) : Prop where
  nil : o = none → len = 0 ∧ cap = 0
  cells : ∀ ad, o = some ad → ∀ i, i < len → w.cell? (ad.add i) = some (.slice (Y i).o (Y i).l (Y i).c)
  rows : ∀ i, BoolsAt w (Y i).o (Y i).l (Y i).c (Y i).X
  lm : ∀ i, (Y i).l ≤ maxLen
theorem RowsBAt.at {w : World} {o : Option Addr} {len cap : Nat} {Y : Nat → RowB} (h : RowsBAt w o len cap Y) {i : Nat} (hi : i < len) : ∃ b off, o = some ⟨b, off, none⟩ ∧ b < w.heap.size ∧ ∀ i, i < len → w.cell? ⟨b, off + i, none⟩ = some (.slice (Y i).o (Y i).l (Y i).c) := by
  cases ho : o with
  | none => have := (h.nil ho).1; omega
  | some a =>
    obtain ⟨b, off, sp⟩ := a
    have c0 := h.cells _ ho 0 (by omega)
    have hs : sp = none := act_spot (by simpa [Addr.add] using c0)
    subst hs
    have hb : b < w.heap.size := cell_lt (by simpa [Addr.add] using c0)
    refine ⟨b, off, rfl, hb, fun j hj => ?_⟩
    have := h.cells _ ho j hj
    rwa [addr_add0] at this
theorem cellsLB : Try.prog.cellsOf 32 = 1 := by kernel_rfl
theorem cells1 {w : World} {a : Addr} {cs : List Value} (h : w.cells? 0 a 1 = some cs) : ∃ c0, cs = [c0] ∧ w.cell? a = some c0 := by
  unfold World.cells? at h
  rw [if_pos (Nat.zero_le _)] at h
  have e : a.add 0 = a := by simp [Addr.add]
  simp only [show List.range 1 = [0] from rfl, List.mapM_cons, List.mapM_nil, e] at h
  cases h0 : w.cell? a with
  | none => rw [h0] at h; simp at h
  | some c0 => rw [h0] at h; simp at h; exact ⟨c0, h.symm, rfl⟩
theorem bools_none (W : World) : BoolsAt W none 0 0 (fun _ => false) := ⟨fun _ => ⟨rfl, rfl⟩, fun _ z => by (cases z)⟩
theorem rowsb_of {H : Type} {enc : TypeId × Value → H} {W : World} {o : Option Addr} {len cap : Nat} {d : DataW H} {p : List MemPlace} (h : DataW.Trod enc Try.prog W 0 (fun _ => true) true 47 (.slice o len cap) d p) : len ≤ maxLen ∧ len ≤ cap ∧ ∃ Y, RowsBAt W o len cap Y := by
  obtain ⟨fuel, hf⟩ := h
  rcases Go.Deep.open_slice Try.underlying47 hf with ⟨hcs, hx⟩ | ⟨a, len', cap', m, n, D, Pl, hcs, _, hl, hm, hme, hx, hc⟩
  · simp [Value.cells] at hcs
    obtain ⟨rfl, rfl, rfl⟩ := hcs
    exact ⟨by decide, Nat.le_refl _, fun _ => ⟨none, 0, 0, fun _ => false⟩, ⟨fun _ => ⟨rfl, rfl⟩, fun _ z => by (cases z), fun _ => bools_none W, fun _ => by decide⟩⟩
  · simp [Value.cells] at hcs
    obtain ⟨rfl, rfl, rfl⟩ := hcs
    have hmc : m = cap := by simpa using hme
    rw [cellsLB] at hc
    have ex : ∀ i, ∃ Y : RowB, (BoolsAt W Y.o Y.l Y.c Y.X ∧ Y.l ≤ maxLen) ∧ (i < len → W.cell? (a.add i) = some (.slice Y.o Y.l Y.c)) := fun i => by
      by_cases z : i < len
      · obtain ⟨cs', k1, k2⟩ := hc i (by omega)
        obtain ⟨c0, rfl, e0⟩ := cells1 k1
        obtain ⟨o2, l2, c2, X, e, h1, h2, h3⟩ := bools_cell k2
        rw [Nat.mul_one] at e0
        exact ⟨⟨o2, l2, c2, X⟩, ⟨h3, h1⟩, fun _ => by rw [e0]; exact congrArg some (List.cons.inj e).1⟩
      · exact ⟨⟨none, 0, 0, fun _ => false⟩, ⟨bools_none W, by decide⟩, fun y => absurd y z⟩
    refine ⟨by omega, by omega, fun i => Classical.choose (ex i), ⟨fun z => by (cases z), fun ad e i hi => ?_, fun i => (Classical.choose_spec (ex i)).1.1, fun i => (Classical.choose_spec (ex i)).1.2⟩⟩
    obtain rfl : a = ad := by injection e
    exact (Classical.choose_spec (ex i)).2 hi
end Go.Proofs.Ytnhllnepnpmegaa
