/-
  DERIVED. GIVEN WITH THE SEED: THE CARDS: each row of YtnpimmjkmclkpaaDoorRows.lean that lists a variable, with what it lists TIED to the program's text (the seventh form; the later family's looks); each row that meets fmt, with fmt's text TOLD by the authors' own Lean function (tested against real Go, not proved from fmt's source: count such statements apart). THE CARD IS WHAT COUNTS. Prove the row's statement (the work); the ties are given (YtnpimmjkmclkpaaDoorTie.lean); close each card by the builder's one call (the guide's Derived/Test/ToyasCard.lean, 'card_holds'). Laid BY PROGRAM, IN A SANDBOX (cutbox-door.mjs). By AI agents, Wed Nov 11 2026. No macro, syntax, notation, axiom, sorry.
-/
import Derived.Test.YtnpimmjkmclkpaaDoorRows
import GoSem.ClaimSeven
namespace Go.Proofs.YtnpimmjkmclkpaaDoor
namespace Rows

/-- THE TIED CARD OF 'mallowlaw9.RadixGaps'. -/
def radixGapsCard : Claim7 := { stood := { row := radixGapsRow, standIns := [], harness := (true, "f7b74a6c3e4b6a810fa813433dfdfc3d41402e5dc82cb4ee897cc67cc2db6442"), looks := false }, kinds := [], alts := [], laidByText := true, laidKinds := [.data, .data], laidTests := true, laidLooks := .later }
def RadixGapsCardSaid : Prop := Claim7.holds Tryd.pinned (.plain (OpenSpec.ofChange radixGapsSpec)) radixGapsCard

/-- THE TIED CARD OF 'mallowlaw9.RadixUndo'. -/
def radixUndoCard : Claim7 := { stood := { row := radixUndoRow, standIns := [], harness := (true, "f7b74a6c3e4b6a810fa813433dfdfc3d41402e5dc82cb4ee897cc67cc2db6442"), looks := false }, kinds := [], alts := [], laidByText := true, laidKinds := [.data, .data], laidTests := true, laidLooks := .later }
def RadixUndoCardSaid : Prop := Claim7.holds Tryd.pinned (.plain (OpenSpec.ofChange radixUndoSpec)) radixUndoCard

/-- THE TIED CARD OF 'mallowlaw9.RadixFirst'. -/
def radixFirstCard : Claim7 := { stood := { row := radixFirstRow, standIns := [], harness := (true, "f7b74a6c3e4b6a810fa813433dfdfc3d41402e5dc82cb4ee897cc67cc2db6442"), looks := false }, kinds := [], alts := [], laidByText := true, laidKinds := [.data, .data], laidTests := true, laidLooks := .later }
def RadixFirstCardSaid : Prop := Claim7.holds Tryd.pinned (.plain (OpenSpec.ofChange radixFirstSpec)) radixFirstCard

/-- THE TIED CARD OF 'mallowlaw9.RadixMerges'. -/
def radixMergesCard : Claim7 := { stood := { row := radixMergesRow, standIns := [], harness := (true, "f7b74a6c3e4b6a810fa813433dfdfc3d41402e5dc82cb4ee897cc67cc2db6442"), looks := false }, kinds := [], alts := [], laidByText := true, laidKinds := [.data, .data], laidTests := true, laidLooks := .later }
def RadixMergesCardSaid : Prop := Claim7.holds Tryd.pinned (.plain (OpenSpec.ofChange radixMergesSpec)) radixMergesCard

/-- THE SECOND FORM's CARD OF 'mallowlaw9.RadixGaps'. -/
def radixGapsUptoCard : Claim7 := { stood := { row := radixGapsUptoRow, standIns := [], harness := (true, "f7b74a6c3e4b6a810fa813433dfdfc3d41402e5dc82cb4ee897cc67cc2db6442"), looks := false }, kinds := [], alts := [], laidByText := true, laidKinds := [.data, .data], laidTests := true, laidLooks := .later }
def RadixGapsUptoCardSaid : Prop := Claim7.holds Tryd.pinned (.plain (OpenSpec.upto radixGapsSpec)) radixGapsUptoCard

/-- THE SECOND FORM's CARD OF 'mallowlaw9.RadixUndo'. -/
def radixUndoUptoCard : Claim7 := { stood := { row := radixUndoUptoRow, standIns := [], harness := (true, "f7b74a6c3e4b6a810fa813433dfdfc3d41402e5dc82cb4ee897cc67cc2db6442"), looks := false }, kinds := [], alts := [], laidByText := true, laidKinds := [.data, .data], laidTests := true, laidLooks := .later }
def RadixUndoUptoCardSaid : Prop := Claim7.holds Tryd.pinned (.plain (OpenSpec.upto radixUndoSpec)) radixUndoUptoCard

/-- THE SECOND FORM's CARD OF 'mallowlaw9.RadixFirst'. -/
def radixFirstUptoCard : Claim7 := { stood := { row := radixFirstUptoRow, standIns := [], harness := (true, "f7b74a6c3e4b6a810fa813433dfdfc3d41402e5dc82cb4ee897cc67cc2db6442"), looks := false }, kinds := [], alts := [], laidByText := true, laidKinds := [.data, .data], laidTests := true, laidLooks := .later }
def RadixFirstUptoCardSaid : Prop := Claim7.holds Tryd.pinned (.plain (OpenSpec.upto radixFirstSpec)) radixFirstUptoCard

/-- THE SECOND FORM's CARD OF 'mallowlaw9.RadixMerges'. -/
def radixMergesUptoCard : Claim7 := { stood := { row := radixMergesUptoRow, standIns := [], harness := (true, "f7b74a6c3e4b6a810fa813433dfdfc3d41402e5dc82cb4ee897cc67cc2db6442"), looks := false }, kinds := [], alts := [], laidByText := true, laidKinds := [.data, .data], laidTests := true, laidLooks := .later }
def RadixMergesUptoCardSaid : Prop := Claim7.holds Tryd.pinned (.plain (OpenSpec.upto radixMergesSpec)) radixMergesUptoCard
end Rows
end Go.Proofs.YtnpimmjkmclkpaaDoor
