/- The table that is laid; fields of what Info tells. -/
import Derived.Test.YtblfefibgoiaaaaDoorGj
import Derived.Lib.LaidTab
import Derived.LaidMore
import Derived.Stop.Joined
namespace Go.Proofs.YtblfefibgoiaaaaDoor
open Go.ChangeShapes Go.WideShapes Go.ChangeAt Go.RowKit Go.Shelf
set_option linter.unusedVariables false
set_option linter.unusedSimpArgs false

def laid1 : List (String × DataW Unit) := [("math/bits.deBruijn64tab", Rows.laid_math_bits_deBruijn64tab)]
theorem own : ownKnob Tryd.prog.godebug = none := by kernel_rfl
theorem gTab : Tryd.prog.globalNamed "math/bits.deBruijn64tab" = some 0 := by kernel_rfl
theorem tTab : (Tryd.prog.globals[0]?).map (·.type) = some 93 := by kernel_rfl
theorem door_met (os : Os) (args : Array Value) : laidMetH Tryd.prog laid1 ((World.doorLaid Tryd.prog 400 os).forCall (fun _ _ => 0) ⟨#[], args, []⟩).memory :=
  laidMetH_of_parts3 (fuel := 8) (laidMet_of_run' 8 (by kernel_rfl) (by kernel_rfl)) (by kernel_rfl) (by kernel_rfl)
theorem tab_of_laid {W : World} (h : laidMetH Tryd.prog laid1 W) : TabW W := by
  rw [MakeChecks.laidMetH_plain _ _ _ (by kernel_rfl)] at h
  have hT := Lib.tabIs_of_head (k := .u8) (zs := Lib.deBruijn64tab.map fun n : Nat => (n : Int)) (rest := []) gTab tTab Tryd.underlying93 Tryd.underlying5 (by kernel_rfl) (by kernel_rfl) h
  intro j hj
  have := hT.cell gTab j (by rw [List.length_map]; exact hj)
  rw [this]
  congr 2
  simp only [List.getD, List.getElem?_map]
  cases Lib.deBruijn64tab[j]? <;> rfl
theorem fld2 (a b c d e f g h i j : Value) (w : World) : (Instr.field 47 (.agg #[a, b, c, d, e, f, g, h, i, j]) 2).run Tryd.prog w = .ok c w := by
  simp [Instr.field, run_underlying Tryd.underlying47, part, go_sem, asAgg]
theorem fld6 (a b c d e f g h i j : Value) (w : World) : (Instr.field 47 (.agg #[a, b, c, d, e, f, g, h, i, j]) 6).run Tryd.prog w = .ok g w := by
  simp [Instr.field, run_underlying Tryd.underlying47, part, go_sem, asAgg]
theorem fld7 (a b c d e f g h i j : Value) (w : World) : (Instr.field 47 (.agg #[a, b, c, d, e, f, g, h, i, j]) 7).run Tryd.prog w = .ok h w := by
  simp [Instr.field, run_underlying Tryd.underlying47, part, go_sem, asAgg]
end Go.Proofs.YtblfefibgoiaaaaDoor
