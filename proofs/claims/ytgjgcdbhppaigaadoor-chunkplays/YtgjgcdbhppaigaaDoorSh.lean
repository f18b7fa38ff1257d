/- What comes in: lists of acts, of numbers and of truths; the table that is laid. -/
import Derived.Test.YtgjgcdbhppaigaaDoorCf
import Derived.Deep.Slices
import Derived.Deep.Strs
import Derived.Lib.SmallJoins
import Derived.Lib.LaidTab
import Derived.LaidMore
import Derived.Stop.Joined
namespace Go.Proofs.YtgjgcdbhppaigaaDoor
open Go.ChangeShapes Go.WideShapes Go.ChangeAt Go.RowKit Go.Proofs.Bt Go.Shelf Go.WideMaps
set_option linter.unusedVariables false
set_option linter.unusedSimpArgs false

/-- Something that is done. -/
structure ActV where
  what : Int
  i : Int
  n : Int
structure ActV.Ok (a : ActV) : Prop where
  a0 : -9223372036854775808 ≤ a.what
  a1 : a.what ≤ 9223372036854775807
  b0 : -9223372036854775808 ≤ a.i
  b1 : a.i ≤ 9223372036854775807
  c0 : -9223372036854775808 ≤ a.n
  c1 : a.n ≤ 9223372036854775807
structure ActsAt (w : World) (o : Option Addr) (len cap : Nat) (X : Nat → ActV) : Prop where
  nil : o = none → len = 0 ∧ cap = 0
  cells : ∀ ad, o = some ad → ∀ i, i < len → w.cell? (ad.add (i * 3)) = some (.int .i64 (X i).what) ∧ w.cell? ((ad.add (i * 3)).add 1) = some (.int .i64 (X i).i) ∧ w.cell? ((ad.add (i * 3)).add 2) = some (.int .i64 (X i).n)
  ok : ∀ i, (X i).Ok
theorem act_spot {w : World} {b off : Nat} {sp : Option Nat} {v : Value} (h : w.cell? ⟨b, off, sp⟩ = some v) : sp = none := by
  unfold World.cell? at h
  cases sp with
  | none => rfl
  | some x => split at h <;> simp at h
theorem addr_add0 (b o j : Nat) : (⟨b, o, none⟩ : Addr).add j = ⟨b, o + j, none⟩ := by simp [Addr.add]
theorem cell_lt {w : World} {b o : Nat} {v : Value} (h : w.cell? ⟨b, o, none⟩ = some v) : b < w.heap.size := World.block_lt_of_cell? w ⟨b, o, none⟩ h
theorem ActsAt.at {w : World} {o : Option Addr} {len cap : Nat} {X : Nat → ActV} (h : ActsAt w o len cap X) {i : Nat} (hi : i < len) : ∃ b off, o = some ⟨b, off, none⟩ ∧ b < w.heap.size ∧ ∀ i, i < len → w.cell? ⟨b, off + i * 3, none⟩ = some (.int .i64 (X i).what) ∧ w.cell? ⟨b, off + i * 3 + 1, none⟩ = some (.int .i64 (X i).i) ∧ w.cell? ⟨b, off + i * 3 + 2, none⟩ = some (.int .i64 (X i).n) := by
  cases ho : o with
  | none => have := (h.nil ho).1; omega
  | some a =>
    obtain ⟨b, off, sp⟩ := a
    have c0 := (h.cells _ ho 0 (by omega)).1
    have hs : sp = none := act_spot (by simpa [Addr.add] using c0)
    subst hs
    have hb : b < w.heap.size := cell_lt (by simpa [Addr.add] using c0)
    refine ⟨b, off, rfl, hb, fun j hj => ?_⟩
    have := h.cells _ ho j hj
    rwa [addr_add0, addr_add0, addr_add0] at this
theorem cellsAct : Tryd.prog.cellsOf 29 = 3 := by kernel_rfl
theorem cells3 {w : World} {a : Addr} {cs : List Value} (h : w.cells? 0 a 3 = some cs) : ∃ c0 c1 c2, cs = [c0, c1, c2] ∧ w.cell? a = some c0 ∧ w.cell? (a.add 1) = some c1 ∧ w.cell? (a.add 2) = some c2 := by
  unfold World.cells? at h
  rw [if_pos (Nat.zero_le _)] at h
  have e : a.add 0 = a := by simp [Addr.add]
  simp only [show List.range 3 = [0, 1, 2] from rfl, List.mapM_cons, List.mapM_nil, e] at h
  cases h0 : w.cell? a with
  | none => rw [h0] at h; simp at h
  | some c0 =>
    cases h1 : w.cell? (a.add 1) with
    | none => rw [h0, h1] at h; simp at h
    | some c1 =>
      cases h2 : w.cell? (a.add 2) with
      | none => rw [h0, h1, h2] at h; simp at h
      | some c2 =>
        rw [h0, h1, h2] at h
        simp at h
        exact ⟨c0, c1, c2, h.symm, rfl, rfl, rfl⟩
theorem cellsI : Tryd.prog.cellsOf 3 = 1 := by kernel_rfl
theorem act_of {H : Type} {enc : TypeId × Value → H} {W : World} {n : Nat} {c0 c1 c2 : Value} {x : DataW H × List MemPlace} (h : DataW.trod enc Tryd.prog W 0 (fun _ => true) true n 29 [c0, c1, c2] = some x) :
    ∃ a : ActV, a.Ok ∧ c0 = .int .i64 a.what ∧ c1 = .int .i64 a.i ∧ c2 = .int .i64 a.n := by
  obtain ⟨y0, y1, y2, m, _, _, h0, h1, h2⟩ := Go.Deep.trod_struct3 Tryd.underlying29 h
  obtain ⟨n0, e0, _, w0⟩ := DataW.trod_int Tryd.underlying3 h0
  obtain ⟨n1, e1, _, w1⟩ := DataW.trod_int Tryd.underlying3 h1
  obtain ⟨n2, e2, _, w2⟩ := DataW.trod_int Tryd.underlying3 h2
  simp only [cellsI, List.drop_zero, List.drop_succ_cons, List.take_succ_cons, List.take_zero] at e0 e1 e2
  have b0 := bounds_i64 w0
  have b1 := bounds_i64 w1
  have b2 := bounds_i64 w2
  exact ⟨⟨n0, n1, n2⟩, ⟨b0.1, b0.2, b1.1, b1.2, b2.1, b2.2⟩, by injection e0, by injection e1, by injection e2⟩
theorem acts_of {H : Type} {enc : TypeId × Value → H} {W : World} {o : Option Addr} {len cap : Nat} {d : DataW H} {p : List MemPlace} (h : DataW.Trod enc Tryd.prog W 0 (fun _ => true) true 22 (.slice o len cap) d p) : len ≤ maxLen ∧ len ≤ cap ∧ ∃ X, ActsAt W o len cap X := by
  obtain ⟨fuel, hf⟩ := h
  have ok0 : (⟨0, 0, 0⟩ : ActV).Ok := ⟨by decide, by decide, by decide, by decide, by decide, by decide⟩
  rcases Go.Deep.open_slice Tryd.underlying22 hf with ⟨hcs, hx⟩ | ⟨a, len', cap', m, n, D, Pl, hcs, _, hl, hm, hme, hx, hc⟩
  · simp [Value.cells] at hcs
    obtain ⟨rfl, rfl, rfl⟩ := hcs
    exact ⟨by decide, Nat.le_refl _, fun _ => ⟨0, 0, 0⟩, ⟨fun _ => ⟨rfl, rfl⟩, fun _ z => by (cases z), fun _ => ok0⟩⟩
  · simp [Value.cells] at hcs
    obtain ⟨rfl, rfl, rfl⟩ := hcs
    have hmc : m = cap := by simpa using hme
    rw [cellsAct] at hc
    have ex : ∀ i, ∃ X : ActV, X.Ok ∧ (i < len → W.cell? (a.add (i * 3)) = some (.int .i64 X.what) ∧ W.cell? ((a.add (i * 3)).add 1) = some (.int .i64 X.i) ∧ W.cell? ((a.add (i * 3)).add 2) = some (.int .i64 X.n)) := fun i => by
      by_cases z : i < len
      · obtain ⟨cs', k1, k2⟩ := hc i (by omega)
        obtain ⟨c0, c1, c2, rfl, e0, e1, e2⟩ := cells3 k1
        obtain ⟨X, ok, rfl, rfl, rfl⟩ := act_of k2
        exact ⟨X, ok, fun _ => ⟨e0, e1, e2⟩⟩
      · exact ⟨⟨0, 0, 0⟩, ok0, fun y => absurd y z⟩
    refine ⟨by omega, by omega, fun i => Classical.choose (ex i), ⟨fun z => by (cases z), fun ad e i hi => ?_, fun i => (Classical.choose_spec (ex i)).1⟩⟩
    obtain rfl : a = ad := by injection e
    exact (Classical.choose_spec (ex i)).2 hi

/-- Numbers in a row. -/
structure IntsAt (w : World) (o : Option Addr) (len cap : Nat) (X : Nat → Int) : Prop where
  nil : o = none → len = 0 ∧ cap = 0
  cells : ∀ ad, o = some ad → ∀ i, i < len → w.cell? (ad.add i) = some (.int .i64 (X i))
  lo : ∀ i, -9223372036854775808 ≤ X i
  hi : ∀ i, X i ≤ 9223372036854775807
theorem IntsAt.at {w : World} {o : Option Addr} {len cap : Nat} {X : Nat → Int} (h : IntsAt w o len cap X) {i : Nat} (hi : i < len) : ∃ b off, o = some ⟨b, off, none⟩ ∧ b < w.heap.size ∧ ∀ i, i < len → w.cell? ⟨b, off + i, none⟩ = some (.int .i64 (X i)) := by
  cases ho : o with
  | none => have := (h.nil ho).1; omega
  | some a =>
    obtain ⟨b, off, sp⟩ := a
    have c0 := h.cells _ ho 0 (by omega)
    have hs : sp = none := act_spot (by simpa [Addr.add] using c0)
    subst hs
    have hb : b < w.heap.size := cell_lt (by simpa [Addr.add] using c0)
    refine ⟨b, off, rfl, hb, fun j hj => ?_⟩
    have := h.cells _ ho j hj
    rwa [addr_add0] at this
theorem ints_of {H : Type} {enc : TypeId × Value → H} {W : World} {o : Option Addr} {len cap : Nat} {d : DataW H} {p : List MemPlace} (h : DataW.Trod enc Tryd.prog W 0 (fun _ => true) true 54 (.slice o len cap) d p) : len ≤ maxLen ∧ len ≤ cap ∧ ∃ X, IntsAt W o len cap X := by
  obtain ⟨fuel, hf⟩ := h
  rcases Go.Deep.open_slice1 Tryd.underlying54 cellsI hf with ⟨hcs, hx⟩ | ⟨a, len', cap', m, n, V, D, Pl, hcs, _, hl, hm, hme, hx, hc⟩
  · simp [Value.cells] at hcs
    obtain ⟨rfl, rfl, rfl⟩ := hcs
    exact ⟨by decide, Nat.le_refl _, fun _ => 0, ⟨fun _ => ⟨rfl, rfl⟩, fun _ z => by (cases z), fun _ => by decide, fun _ => by decide⟩⟩
  · simp [Value.cells] at hcs
    obtain ⟨rfl, rfl, rfl⟩ := hcs
    have hmc : m = cap := by simpa using hme
    have ex : ∀ i, ∃ X : Int, (-9223372036854775808 ≤ X ∧ X ≤ 9223372036854775807) ∧ (i < len → W.cell? (a.add i) = some (.int .i64 X)) := fun i => by
      by_cases z : i < len
      · obtain ⟨k1, k2⟩ := hc i (by omega)
        obtain ⟨n0, e0, _, w0⟩ := DataW.trod_int Tryd.underlying3 k2
        have b0 := bounds_i64 w0
        have e1 : V i = .int .i64 n0 := by injection e0
        exact ⟨n0, ⟨b0.1, b0.2⟩, fun _ => by rw [k1, e1]⟩
      · exact ⟨0, ⟨by decide, by decide⟩, fun y => absurd y z⟩
    refine ⟨by omega, by omega, fun i => Classical.choose (ex i), ⟨fun z => by (cases z), fun ad e i hi => ?_, fun i => (Classical.choose_spec (ex i)).1.1, fun i => (Classical.choose_spec (ex i)).1.2⟩⟩
    obtain rfl : a = ad := by injection e
    exact (Classical.choose_spec (ex i)).2 hi
/-- Truths in a row. -/
structure BoolsAt (w : World) (o : Option Addr) (len cap : Nat) (X : Nat → Bool) : Prop where
  nil : o = none → len = 0 ∧ cap = 0
  cells : ∀ ad, o = some ad → ∀ i, i < len → w.cell? (ad.add i) = some (.bool (X i))
theorem BoolsAt.at {w : World} {o : Option Addr} {len cap : Nat} {X : Nat → Bool} (h : BoolsAt w o len cap X) {i : Nat} (hi : i < len) : ∃ b off, o = some ⟨b, off, none⟩ ∧ b < w.heap.size ∧ ∀ i, i < len → w.cell? ⟨b, off + i, none⟩ = some (.bool (X i)) := by
  cases ho : o with
  | none => have := (h.nil ho).1; omega
  | some a =>
    obtain ⟨b, off, sp⟩ := a
    have c0 := h.cells _ ho 0 (by omega)
    have hs : sp = none := act_spot (by simpa [Addr.add] using c0)
    subst hs
    have hb : b < w.heap.size := cell_lt (by simpa [Addr.add] using c0)
    refine ⟨b, off, rfl, hb, fun j hj => ?_⟩
    have := h.cells _ ho j hj
    rwa [addr_add0] at this
theorem cellsB : Tryd.prog.cellsOf 4 = 1 := by kernel_rfl
theorem bools_of {H : Type} {enc : TypeId × Value → H} {W : World} {o : Option Addr} {len cap : Nat} {d : DataW H} {p : List MemPlace} (h : DataW.Trod enc Tryd.prog W 0 (fun _ => true) true 33 (.slice o len cap) d p) : len ≤ maxLen ∧ len ≤ cap ∧ ∃ X, BoolsAt W o len cap X := by
  obtain ⟨fuel, hf⟩ := h
  rcases Go.Deep.open_slice1 Tryd.underlying33 cellsB hf with ⟨hcs, hx⟩ | ⟨a, len', cap', m, n, V, D, Pl, hcs, _, hl, hm, hme, hx, hc⟩
  · simp [Value.cells] at hcs
    obtain ⟨rfl, rfl, rfl⟩ := hcs
    exact ⟨by decide, Nat.le_refl _, fun _ => false, ⟨fun _ => ⟨rfl, rfl⟩, fun _ z => by (cases z)⟩⟩
  · simp [Value.cells] at hcs
    obtain ⟨rfl, rfl, rfl⟩ := hcs
    have hmc : m = cap := by simpa using hme
    have ex : ∀ i, ∃ X : Bool, (i < len → W.cell? (a.add i) = some (.bool X)) := fun i => by
      by_cases z : i < len
      · obtain ⟨k1, k2⟩ := hc i (by omega)
        obtain ⟨n0, e0, _⟩ := DataW.trod_bool Tryd.underlying4 k2
        have e1 : V i = .bool n0 := by injection e0
        exact ⟨n0, fun _ => by rw [k1, e1]⟩
      · exact ⟨false, fun y => absurd y z⟩
    refine ⟨by omega, by omega, fun i => Classical.choose (ex i), ⟨fun z => by (cases z), fun ad e i hi => ?_⟩⟩
    obtain rfl : a = ad := by injection e
    exact Classical.choose_spec (ex i) hi
def laid1 : List (String × DataW Unit) := [("math/bits.deBruijn64tab", Rows.laid_math_bits_deBruijn64tab)]
theorem own : ownKnob Tryd.prog.godebug = none := by kernel_rfl
theorem gTab : Tryd.prog.globalNamed "math/bits.deBruijn64tab" = some 0 := by kernel_rfl
theorem tTab : (Tryd.prog.globals[0]?).map (·.type) = some 78 := by kernel_rfl
theorem door_met (os : Os) (args : Array Value) : laidMetH Tryd.prog laid1 ((World.doorLaid Tryd.prog 400 os).forCall (fun _ _ => 0) ⟨#[], args, []⟩).memory :=
  laidMetH_of_parts3 (fuel := 8) (laidMet_of_run' 8 (by kernel_rfl) (by kernel_rfl)) (by kernel_rfl) (by kernel_rfl)
theorem tab_of_laid {W : World} (h : laidMetH Tryd.prog laid1 W) : TabW W := by
  rw [MakeChecks.laidMetH_plain _ _ _ (by kernel_rfl)] at h
  have hT := Lib.tabIs_of_head (k := .u8) (zs := Lib.deBruijn64tab.map fun n : Nat => (n : Int)) (rest := []) gTab tTab Tryd.underlying78 Tryd.underlying5 (by kernel_rfl) (by kernel_rfl) h
  intro j hj
  have := hT.cell gTab j (by rw [List.length_map]; exact hj)
  rw [this]
  congr 2
  simp only [List.getD, List.getElem?_map]
  cases Lib.deBruijn64tab[j]? <;> rfl
end Go.Proofs.YtgjgcdbhppaigaaDoor
