/- What comes in: lists of numbers; the tables that are laid. -/
import Derived.Test.YtnpimmjkmclkpaaDoorYi
import Derived.Deep.Slices
import Derived.Deep.Strs
import Derived.Lib.SmallJoins
import Derived.Lib.LaidTab
import Derived.LaidMore
import Derived.Stop.Joined
namespace Go.Proofs.YtnpimmjkmclkpaaDoor
open Go.ChangeShapes Go.WideShapes Go.ChangeAt Go.RowKit Go.Proofs.Bt Go.Shelf Go.WideMaps
set_option linter.unusedVariables false
set_option linter.unusedSimpArgs false

theorem act_spot {w : World} {b off : Nat} {sp : Option Nat} {v : Value} (h : w.cell? ⟨b, off, sp⟩ = some v) : sp = none := by
  unfold World.cell? at h
  cases sp with
  | none => rfl
  | some x => split at h <;> simp at h
theorem addr_add0 (b o j : Nat) : (⟨b, o, none⟩ : Addr).add j = ⟨b, o + j, none⟩ := by simp [Addr.add]
theorem cell_lt {w : World} {b o : Nat} {v : Value} (h : w.cell? ⟨b, o, none⟩ = some v) : b < w.heap.size := World.block_lt_of_cell? w ⟨b, o, none⟩ h
theorem cellsI : Tryd.prog.cellsOf 3 = 1 := by kernel_rfl
theorem cellsU : Tryd.prog.cellsOf 22 = 1 := by kernel_rfl
/-- Numbers in a row, uint64. -/
structure U64At (w : World) (o : Option Addr) (len cap : Nat) (X : Nat → Int) : Prop where
  nil : o = none → len = 0 ∧ cap = 0
  cells : ∀ ad, o = some ad → ∀ i, i < len → w.cell? (ad.add i) = some (.int .u64 (X i))
  lo : ∀ i, 0 ≤ X i
  hi : ∀ i, X i ≤ 18446744073709551615
theorem U64At.at {w : World} {o : Option Addr} {len cap : Nat} {X : Nat → Int} (h : U64At w o len cap X) {i : Nat} (hi : i < len) : ∃ b off, o = some ⟨b, off, none⟩ ∧ b < w.heap.size ∧ ∀ i, i < len → w.cell? ⟨b, off + i, none⟩ = some (.int .u64 (X i)) := by
  cases ho : o with
  | none => have := (h.nil ho).1; omega
  | some a =>
    obtain ⟨b, off, sp⟩ := a
    have c0 := h.cells _ ho 0 (by omega)
    have hs : sp = none := act_spot (by simpa [Addr.add] using c0)
    subst hs
    have hb : b < w.heap.size := cell_lt (by simpa [Addr.add] using c0)
    refine ⟨b, off, rfl, hb, fun j hj => ?_⟩
    have := h.cells _ ho j hj
    rwa [addr_add0] at this
theorem u64s_of {H : Type} {enc : TypeId × Value → H} {W : World} {o : Option Addr} {len cap : Nat} {d : DataW H} {p : List MemPlace} (h : DataW.Trod enc Tryd.prog W 0 (fun _ => true) true 36 (.slice o len cap) d p) : len ≤ maxLen ∧ len ≤ cap ∧ ∃ X, U64At W o len cap X := by
  obtain ⟨fuel, hf⟩ := h
  rcases Go.Deep.open_slice1 Tryd.underlying36 cellsU hf with ⟨hcs, hx⟩ | ⟨a, len', cap', m, n, V, D, Pl, hcs, _, hl, hm, hme, hx, hc⟩
  · simp [Value.cells] at hcs
    obtain ⟨rfl, rfl, rfl⟩ := hcs
    exact ⟨by decide, Nat.le_refl _, fun _ => 0, ⟨fun _ => ⟨rfl, rfl⟩, fun _ z => by (cases z), fun _ => by decide, fun _ => by decide⟩⟩
  · simp [Value.cells] at hcs
    obtain ⟨rfl, rfl, rfl⟩ := hcs
    have hmc : m = cap := by simpa using hme
    have ex : ∀ i, ∃ X : Int, (0 ≤ X ∧ X ≤ 18446744073709551615) ∧ (i < len → W.cell? (a.add i) = some (.int .u64 X)) := fun i => by
      by_cases z : i < len
      · obtain ⟨k1, k2⟩ := hc i (by omega)
        obtain ⟨n0, e0, _, w0⟩ := DataW.trod_int Tryd.underlying22 k2
        have b0 := bounds_u64 w0
        have e1 : V i = .int .u64 n0 := by injection e0
        exact ⟨n0, ⟨b0.1, b0.2⟩, fun _ => by rw [k1, e1]⟩
      · exact ⟨0, ⟨by decide, by decide⟩, fun y => absurd y z⟩
    refine ⟨by omega, by omega, fun i => Classical.choose (ex i), ⟨fun z => by (cases z), fun ad e i hi => ?_, fun i => (Classical.choose_spec (ex i)).1.1, fun i => (Classical.choose_spec (ex i)).1.2⟩⟩
    obtain rfl : a = ad := by injection e
    exact (Classical.choose_spec (ex i)).2 hi
/-- Numbers in a row. -/
structure IntsAt (w : World) (o : Option Addr) (len cap : Nat) (X : Nat → Int) : Prop where
  nil : o = none → len = 0 ∧ cap = 0
  cells : ∀ ad, o = some ad → ∀ i, i < len → w.cell? (ad.add i) = some (.int .i64 (X i))
  lo : ∀ i, -9223372036854775808 ≤ X i
  hi : ∀ i, X i ≤ 9223372036854775807
theorem IntsAt.at {w : World} {o : Option Addr} {len cap : Nat} {X : Nat → Int} (h : IntsAt w o len cap X) {i : Nat} (hi : i < len) : ∃ b off, o = some ⟨b, off, none⟩ ∧ b < w.heap.size ∧ ∀ i, i < len → w.cell? ⟨b, off + i, none⟩ = some (.int .i64 (X i)) := by
  cases ho : o with
  | none => have := (h.nil ho).1; omega
  | some a =>
    obtain ⟨b, off, sp⟩ := a
    have c0 := h.cells _ ho 0 (by omega)
    have hs : sp = none := act_spot (by simpa [Addr.add] using c0)
    subst hs
    have hb : b < w.heap.size := cell_lt (by simpa [Addr.add] using c0)
    refine ⟨b, off, rfl, hb, fun j hj => ?_⟩
    have := h.cells _ ho j hj
    rwa [addr_add0] at this
theorem ints_of {H : Type} {enc : TypeId × Value → H} {W : World} {o : Option Addr} {len cap : Nat} {d : DataW H} {p : List MemPlace} (h : DataW.Trod enc Tryd.prog W 0 (fun _ => true) true 42 (.slice o len cap) d p) : len ≤ maxLen ∧ len ≤ cap ∧ ∃ X, IntsAt W o len cap X := by
  obtain ⟨fuel, hf⟩ := h
  rcases Go.Deep.open_slice1 Tryd.underlying42 cellsI hf with ⟨hcs, hx⟩ | ⟨a, len', cap', m, n, V, D, Pl, hcs, _, hl, hm, hme, hx, hc⟩
  · simp [Value.cells] at hcs
    obtain ⟨rfl, rfl, rfl⟩ := hcs
    exact ⟨by decide, Nat.le_refl _, fun _ => 0, ⟨fun _ => ⟨rfl, rfl⟩, fun _ z => by (cases z), fun _ => by decide, fun _ => by decide⟩⟩
  · simp [Value.cells] at hcs
    obtain ⟨rfl, rfl, rfl⟩ := hcs
    have hmc : m = cap := by simpa using hme
    have ex : ∀ i, ∃ X : Int, (-9223372036854775808 ≤ X ∧ X ≤ 9223372036854775807) ∧ (i < len → W.cell? (a.add i) = some (.int .i64 X)) := fun i => by
      by_cases z : i < len
      · obtain ⟨k1, k2⟩ := hc i (by omega)
        obtain ⟨n0, e0, _, w0⟩ := DataW.trod_int Tryd.underlying3 k2
        have b0 := bounds_i64 w0
        have e1 : V i = .int .i64 n0 := by injection e0
        exact ⟨n0, ⟨b0.1, b0.2⟩, fun _ => by rw [k1, e1]⟩
      · exact ⟨0, ⟨by decide, by decide⟩, fun y => absurd y z⟩
    refine ⟨by omega, by omega, fun i => Classical.choose (ex i), ⟨fun z => by (cases z), fun ad e i hi => ?_, fun i => (Classical.choose_spec (ex i)).1.1, fun i => (Classical.choose_spec (ex i)).1.2⟩⟩
    obtain rfl : a = ad := by injection e
    exact (Classical.choose_spec (ex i)).2 hi
def laid1 : List (String × DataW Unit) := [("math/bits.deBruijn64tab", Rows.laid_math_bits_deBruijn64tab), ("mallow/radix.shifts", Rows.laid_mallow_radix_shifts)]
theorem own : ownKnob Tryd.prog.godebug = none := by kernel_rfl
theorem gTab : Tryd.prog.globalNamed "math/bits.deBruijn64tab" = some 1 := by kernel_rfl
theorem tTab : (Tryd.prog.globals[1]?).map (·.type) = some 118 := by kernel_rfl
theorem gSh : Tryd.prog.globalNamed "mallow/radix.shifts" = some 0 := by kernel_rfl
theorem tSh : (Tryd.prog.globals[0]?).map (·.type) = some 52 := by kernel_rfl
theorem door_met (os : Os) (args : Array Value) : laidMetH Tryd.prog laid1 ((World.doorLaid Tryd.prog 400 os).forCall (fun _ _ => 0) ⟨#[], args, []⟩).memory :=
  laidMetH_of_parts3 (fuel := 8) (laidMet_of_run' 8 (by kernel_rfl) (by kernel_rfl)) (by kernel_rfl) (by kernel_rfl)
/-- The second table on the list. -/
theorem tabIs_of_second {P : Program} {W : World} {x : String × DataW Unit} {name : String} {k : IntKind} {zs : List Int} {rest : List (String × DataW Unit)} {g : Nat} {t e : TypeId} {n : Nat}
    (hg : P.globalNamed name = some g) (hty : (P.globals[g]?).map (·.type) = some t) (ht : P.underlying t = some (.array n e)) (he : P.underlying e = some (.int k)) (hce : P.cellsOf e = 1) (hct : P.cellsOf t = n)
    (h : laidMet P (x :: (name, Lib.tabData k zs) :: rest) W) : Lib.TabIs P W name k zs := by
  obtain ⟨ps, ⟨_, _, _, _, _, _, _, _, _, _, ⟨g', t', cs, fuel, p, q, hg', ht', hvar, hd, _, _⟩, _⟩, _⟩ := h
  obtain rfl := Option.some.inj (hg.symm.trans hg')
  obtain rfl := Option.some.inj (hty.symm.trans ht')
  unfold Lib.TabIs
  rw [hvar, ← Lib.cells_of_tab ht he hce hct hd]
theorem tab_of_laid {W : World} (h : laidMetH Tryd.prog laid1 W) : TabW W := by
  rw [MakeChecks.laidMetH_plain _ _ _ (by kernel_rfl)] at h
  have hT := Lib.tabIs_of_head (k := .u8) (zs := Lib.deBruijn64tab.map fun n : Nat => (n : Int)) (rest := [("mallow/radix.shifts", Rows.laid_mallow_radix_shifts)]) gTab tTab Tryd.underlying118 Tryd.underlying5 (by kernel_rfl) (by kernel_rfl) h
  have hS := tabIs_of_second (k := .i64) (zs := [35, 27, 21, 18, 15, 12, 9]) (rest := []) gSh tSh Tryd.underlying52 Tryd.underlying3 (by kernel_rfl) (by kernel_rfl) h
  refine ⟨fun j hj => ?_, fun j hj => ?_⟩
  · have := hT.cell gTab j (by rw [List.length_map]; exact hj)
    rw [this]
    congr 2
    simp only [List.getD, List.getElem?_map]
    cases Lib.deBruijn64tab[j]? <;> rfl
  · have := hS.cell gSh j hj
    rw [this]
    have key : ∀ j, j < 7 → ([35, 27, 21, 18, 15, 12, 9] : List Int).getD j 0 = ((Rx.sh j : Nat) : Int) := by decide
    rw [key j hj]
end Go.Proofs.YtnpimmjkmclkpaaDoor
