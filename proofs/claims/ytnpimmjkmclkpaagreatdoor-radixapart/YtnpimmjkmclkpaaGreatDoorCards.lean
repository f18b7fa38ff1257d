/-
  DERIVED. GIVEN WITH THE SEED: THE CARDS: each row of YtnpimmjkmclkpaaGreatDoorRows.lean that lists a variable, with what it lists TIED to the program's text (the seventh form; the later family's looks); each row that meets fmt, with fmt's text TOLD by the authors' own Lean function (tested against real Go, not proved from fmt's source: count such statements apart). THE CARD IS WHAT COUNTS. Prove the row's statement (the work); the ties are given (YtnpimmjkmclkpaaGreatDoorTie.lean); close each card by the builder's one call (the guide's Derived/Test/ToyasCard.lean, 'card_holds'). Laid BY PROGRAM, IN A SANDBOX (cutbox-door.mjs). By AI agents, Wed Nov 11 2026. No macro, syntax, notation, axiom, sorry.
-/
import Derived.Test.YtnpimmjkmclkpaaGreatDoorRows
import GoSem.ClaimSeven
namespace Go.Proofs.YtnpimmjkmclkpaaGreatDoor
namespace Rows

/-- THE TIED CARD OF 'mallowlaw9.RadixPlays'. -/
def radixPlaysCard : Claim7 := { stood := { row := radixPlaysRow, standIns := [], harness := (true, "46446b36618f59a707c66c10ea1a88692cbc7d2fd1d72674ee38becbc4482e04"), looks := false }, kinds := [], alts := [], laidByText := true, laidKinds := [.data, .data], laidTests := true, laidLooks := .later }
def RadixPlaysCardSaid : Prop := Claim7.holds Tryz.pinned (.plain (OpenSpec.ofChange radixPlaysSpec)) radixPlaysCard

/-- THE TIED CARD OF 'mallowlaw9.RadixApart'. -/
def radixApartCard : Claim7 := { stood := { row := radixApartRow, standIns := [], harness := (true, "46446b36618f59a707c66c10ea1a88692cbc7d2fd1d72674ee38becbc4482e04"), looks := false }, kinds := [], alts := [], laidByText := true, laidKinds := [.data, .data], laidTests := true, laidLooks := .later }
def RadixApartCardSaid : Prop := Claim7.holds Tryz.pinned (.plain (OpenSpec.ofChange radixApartSpec)) radixApartCard

/-- THE SECOND FORM's CARD OF 'mallowlaw9.RadixPlays'. -/
def radixPlaysUptoCard : Claim7 := { stood := { row := radixPlaysUptoRow, standIns := [], harness := (true, "46446b36618f59a707c66c10ea1a88692cbc7d2fd1d72674ee38becbc4482e04"), looks := false }, kinds := [], alts := [], laidByText := true, laidKinds := [.data, .data], laidTests := true, laidLooks := .later }
def RadixPlaysUptoCardSaid : Prop := Claim7.holds Tryz.pinned (.plain (OpenSpec.upto radixPlaysSpec)) radixPlaysUptoCard

/-- THE SECOND FORM's CARD OF 'mallowlaw9.RadixApart'. -/
def radixApartUptoCard : Claim7 := { stood := { row := radixApartUptoRow, standIns := [], harness := (true, "46446b36618f59a707c66c10ea1a88692cbc7d2fd1d72674ee38becbc4482e04"), looks := false }, kinds := [], alts := [], laidByText := true, laidKinds := [.data, .data], laidTests := true, laidLooks := .later }
def RadixApartUptoCardSaid : Prop := Claim7.holds Tryz.pinned (.plain (OpenSpec.upto radixApartSpec)) radixApartUptoCard
end Rows
end Go.Proofs.YtnpimmjkmclkpaaGreatDoor
