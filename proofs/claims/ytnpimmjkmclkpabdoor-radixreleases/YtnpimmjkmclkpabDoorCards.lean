/-
  DERIVED. GIVEN WITH THE SEED: THE CARDS: each row of YtnpimmjkmclkpabDoorRows.lean that lists a variable, with what it lists TIED to the program's text (the seventh form; the later family's looks); each row that meets fmt, with fmt's text TOLD by the authors' own Lean function (tested against real Go, not proved from fmt's source: count such statements apart). THE CARD IS WHAT COUNTS. Prove the row's statement (the work); the ties are given (YtnpimmjkmclkpabDoorTie.lean); close each card by the builder's one call (the guide's Derived/Test/ToyasCard.lean, 'card_holds'). Laid BY PROGRAM, IN A SANDBOX (cutbox-door.mjs). By AI agents, Wed Nov 11 2026. No macro, syntax, notation, axiom, sorry.
-/
import Derived.Test.YtnpimmjkmclkpabDoorRows
import GoSem.ClaimSeven
namespace Go.Proofs.YtnpimmjkmclkpabDoor
namespace Rows

/-- THE TIED CARD OF 'mallowlaw9.RadixReleases'. -/
def radixReleasesCard : Claim7 := { stood := { row := radixReleasesRow, standIns := [], harness := (true, "bda7488b2931a948b0842f7d7e944397b9e357dfa1cc17c4976b1df07f3a8a40"), looks := false }, kinds := [], alts := [], laidByText := true, laidKinds := [.data, .data], laidTests := true, laidLooks := .later }
def RadixReleasesCardSaid : Prop := Claim7.holds Tryd.pinned (.plain (OpenSpec.ofChange radixReleasesSpec)) radixReleasesCard

/-- THE TIED CARD OF 'mallowlaw9.RadixEdges'. -/
def radixEdgesCard : Claim7 := { stood := { row := radixEdgesRow, standIns := [], harness := (true, "bda7488b2931a948b0842f7d7e944397b9e357dfa1cc17c4976b1df07f3a8a40"), looks := false }, kinds := [], alts := [], laidByText := true, laidKinds := [.data, .data], laidTests := true, laidLooks := .later }
def RadixEdgesCardSaid : Prop := Claim7.holds Tryd.pinned (.plain (OpenSpec.ofChange radixEdgesSpec)) radixEdgesCard

/-- THE TIED CARD OF 'mallowlaw9.RadixTakes'. -/
def radixTakesCard : Claim7 := { stood := { row := radixTakesRow, standIns := [], harness := (true, "bda7488b2931a948b0842f7d7e944397b9e357dfa1cc17c4976b1df07f3a8a40"), looks := false }, kinds := [], alts := [], laidByText := true, laidKinds := [.data, .data], laidTests := true, laidLooks := .later }
def RadixTakesCardSaid : Prop := Claim7.holds Tryd.pinned (.plain (OpenSpec.ofChange radixTakesSpec)) radixTakesCard

/-- THE SECOND FORM's CARD OF 'mallowlaw9.RadixReleases'. -/
def radixReleasesUptoCard : Claim7 := { stood := { row := radixReleasesUptoRow, standIns := [], harness := (true, "bda7488b2931a948b0842f7d7e944397b9e357dfa1cc17c4976b1df07f3a8a40"), looks := false }, kinds := [], alts := [], laidByText := true, laidKinds := [.data, .data], laidTests := true, laidLooks := .later }
def RadixReleasesUptoCardSaid : Prop := Claim7.holds Tryd.pinned (.plain (OpenSpec.upto radixReleasesSpec)) radixReleasesUptoCard

/-- THE SECOND FORM's CARD OF 'mallowlaw9.RadixEdges'. -/
def radixEdgesUptoCard : Claim7 := { stood := { row := radixEdgesUptoRow, standIns := [], harness := (true, "bda7488b2931a948b0842f7d7e944397b9e357dfa1cc17c4976b1df07f3a8a40"), looks := false }, kinds := [], alts := [], laidByText := true, laidKinds := [.data, .data], laidTests := true, laidLooks := .later }
def RadixEdgesUptoCardSaid : Prop := Claim7.holds Tryd.pinned (.plain (OpenSpec.upto radixEdgesSpec)) radixEdgesUptoCard

/-- THE SECOND FORM's CARD OF 'mallowlaw9.RadixTakes'. -/
def radixTakesUptoCard : Claim7 := { stood := { row := radixTakesUptoRow, standIns := [], harness := (true, "bda7488b2931a948b0842f7d7e944397b9e357dfa1cc17c4976b1df07f3a8a40"), looks := false }, kinds := [], alts := [], laidByText := true, laidKinds := [.data, .data], laidTests := true, laidLooks := .later }
def RadixTakesUptoCardSaid : Prop := Claim7.holds Tryd.pinned (.plain (OpenSpec.upto radixTakesSpec)) radixTakesUptoCard
end Rows
end Go.Proofs.YtnpimmjkmclkpabDoor
