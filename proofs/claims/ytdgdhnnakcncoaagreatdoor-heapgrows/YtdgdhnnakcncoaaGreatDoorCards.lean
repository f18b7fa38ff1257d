/-
  DERIVED. GIVEN WITH THE SEED: THE CARDS: each row of YtdgdhnnakcncoaaGreatDoorRows.lean that lists a variable, with what it lists TIED to the program's text (the seventh form; the later family's looks); each row that meets fmt, with fmt's text TOLD by the authors' own Lean function (tested against real Go, not proved from fmt's source: count such statements apart). THE CARD IS WHAT COUNTS. Prove the row's statement (the work); the ties are given (YtdgdhnnakcncoaaGreatDoorTie.lean); close each card by the builder's one call (the guide's Derived/Test/ToyasCard.lean, 'card_holds'). Laid BY PROGRAM, IN A SANDBOX (cutbox-door.mjs). By AI agents, Wed Nov 11 2026. No macro, syntax, notation, axiom, sorry.
-/
import Derived.Test.YtdgdhnnakcncoaaGreatDoorRows
import GoSem.ClaimSeven
namespace Go.Proofs.YtdgdhnnakcncoaaGreatDoor
namespace Rows

/-- THE TIED CARD OF 'mallowlaw16.HeapPlays'. -/
def heapPlaysCard : Claim7 := { stood := { row := heapPlaysRow, standIns := [], harness := (true, "8a7598091ecf82ae3d2fa700fc3a31c1bc75e57cb342496e238ae6126d8a82c0"), looks := true }, kinds := [], alts := [], laidByText := true, laidKinds := [.data, .data], laidTests := true, laidLooks := .later }
def HeapPlaysCardSaid : Prop := Claim7.holds Tryz.pinned (.plain (OpenSpec.ofChange heapPlaysSpec)) heapPlaysCard

/-- THE TIED CARD OF 'mallowlaw16.HeapGrows'. -/
def heapGrowsCard : Claim7 := { stood := { row := heapGrowsRow, standIns := [], harness := (true, "8a7598091ecf82ae3d2fa700fc3a31c1bc75e57cb342496e238ae6126d8a82c0"), looks := true }, kinds := [], alts := [], laidByText := true, laidKinds := [.data, .data], laidTests := true, laidLooks := .later }
def HeapGrowsCardSaid : Prop := Claim7.holds Tryz.pinned (.plain (OpenSpec.ofChange heapGrowsSpec)) heapGrowsCard

/-- THE TIED CARD OF 'mallowlaw16.HeapCached'. -/
def heapCachedCard : Claim7 := { stood := { row := heapCachedRow, standIns := [], harness := (true, "8a7598091ecf82ae3d2fa700fc3a31c1bc75e57cb342496e238ae6126d8a82c0"), looks := true }, kinds := [], alts := [], laidByText := true, laidKinds := [.data, .data], laidTests := true, laidLooks := .later }
def HeapCachedCardSaid : Prop := Claim7.holds Tryz.pinned (.plain (OpenSpec.ofChange heapCachedSpec)) heapCachedCard

/-- THE TIED CARD OF 'mallowlaw16.HeapOwners'. -/
def heapOwnersCard : Claim7 := { stood := { row := heapOwnersRow, standIns := [], harness := (true, "8a7598091ecf82ae3d2fa700fc3a31c1bc75e57cb342496e238ae6126d8a82c0"), looks := true }, kinds := [], alts := [], laidByText := true, laidKinds := [.data, .data], laidTests := true, laidLooks := .later }
def HeapOwnersCardSaid : Prop := Claim7.holds Tryz.pinned (.plain (OpenSpec.ofChange heapOwnersSpec)) heapOwnersCard

/-- THE TIED CARD OF 'mallowlaw16.HeapRefused'. -/
def heapRefusedCard : Claim7 := { stood := { row := heapRefusedRow, standIns := [], harness := (true, "8a7598091ecf82ae3d2fa700fc3a31c1bc75e57cb342496e238ae6126d8a82c0"), looks := true }, kinds := [], alts := [], laidByText := true, laidKinds := [.data, .data], laidTests := true, laidLooks := .later }
def HeapRefusedCardSaid : Prop := Claim7.holds Tryz.pinned (.plain (OpenSpec.ofChange heapRefusedSpec)) heapRefusedCard

/-- THE TIED CARD OF 'mallowlaw16.HeapClasses'. -/
def heapClassesCard : Claim7 := { stood := { row := heapClassesRow, standIns := [], harness := (true, "8a7598091ecf82ae3d2fa700fc3a31c1bc75e57cb342496e238ae6126d8a82c0"), looks := true }, kinds := [], alts := [], laidByText := true, laidKinds := [.data, .data], laidTests := true, laidLooks := .later }
def HeapClassesCardSaid : Prop := Claim7.holds Tryz.pinned (.plain (OpenSpec.ofChange heapClassesSpec)) heapClassesCard

/-- THE SECOND FORM's CARD OF 'mallowlaw16.HeapPlays'. -/
def heapPlaysUptoCard : Claim7 := { stood := { row := heapPlaysUptoRow, standIns := [], harness := (true, "8a7598091ecf82ae3d2fa700fc3a31c1bc75e57cb342496e238ae6126d8a82c0"), looks := true }, kinds := [], alts := [], laidByText := true, laidKinds := [.data, .data], laidTests := true, laidLooks := .later }
def HeapPlaysUptoCardSaid : Prop := Claim7.holds Tryz.pinned (.plain (OpenSpec.upto heapPlaysSpec)) heapPlaysUptoCard

/-- THE SECOND FORM's CARD OF 'mallowlaw16.HeapGrows'. -/
def heapGrowsUptoCard : Claim7 := { stood := { row := heapGrowsUptoRow, standIns := [], harness := (true, "8a7598091ecf82ae3d2fa700fc3a31c1bc75e57cb342496e238ae6126d8a82c0"), looks := true }, kinds := [], alts := [], laidByText := true, laidKinds := [.data, .data], laidTests := true, laidLooks := .later }
def HeapGrowsUptoCardSaid : Prop := Claim7.holds Tryz.pinned (.plain (OpenSpec.upto heapGrowsSpec)) heapGrowsUptoCard

/-- THE SECOND FORM's CARD OF 'mallowlaw16.HeapCached'. -/
def heapCachedUptoCard : Claim7 := { stood := { row := heapCachedUptoRow, standIns := [], harness := (true, "8a7598091ecf82ae3d2fa700fc3a31c1bc75e57cb342496e238ae6126d8a82c0"), looks := true }, kinds := [], alts := [], laidByText := true, laidKinds := [.data, .data], laidTests := true, laidLooks := .later }
def HeapCachedUptoCardSaid : Prop := Claim7.holds Tryz.pinned (.plain (OpenSpec.upto heapCachedSpec)) heapCachedUptoCard

/-- THE SECOND FORM's CARD OF 'mallowlaw16.HeapOwners'. -/
def heapOwnersUptoCard : Claim7 := { stood := { row := heapOwnersUptoRow, standIns := [], harness := (true, "8a7598091ecf82ae3d2fa700fc3a31c1bc75e57cb342496e238ae6126d8a82c0"), looks := true }, kinds := [], alts := [], laidByText := true, laidKinds := [.data, .data], laidTests := true, laidLooks := .later }
def HeapOwnersUptoCardSaid : Prop := Claim7.holds Tryz.pinned (.plain (OpenSpec.upto heapOwnersSpec)) heapOwnersUptoCard

/-- THE SECOND FORM's CARD OF 'mallowlaw16.HeapRefused'. -/
def heapRefusedUptoCard : Claim7 := { stood := { row := heapRefusedUptoRow, standIns := [], harness := (true, "8a7598091ecf82ae3d2fa700fc3a31c1bc75e57cb342496e238ae6126d8a82c0"), looks := true }, kinds := [], alts := [], laidByText := true, laidKinds := [.data, .data], laidTests := true, laidLooks := .later }
def HeapRefusedUptoCardSaid : Prop := Claim7.holds Tryz.pinned (.plain (OpenSpec.upto heapRefusedSpec)) heapRefusedUptoCard

/-- THE SECOND FORM's CARD OF 'mallowlaw16.HeapClasses'. -/
def heapClassesUptoCard : Claim7 := { stood := { row := heapClassesUptoRow, standIns := [], harness := (true, "8a7598091ecf82ae3d2fa700fc3a31c1bc75e57cb342496e238ae6126d8a82c0"), looks := true }, kinds := [], alts := [], laidByText := true, laidKinds := [.data, .data], laidTests := true, laidLooks := .later }
def HeapClassesUptoCardSaid : Prop := Claim7.holds Tryz.pinned (.plain (OpenSpec.upto heapClassesSpec)) heapClassesUptoCard
end Rows
end Go.Proofs.YtdgdhnnakcncoaaGreatDoor
