/-
  DERIVED. GIVEN WITH THE SEED: THE CARDS: each row of YtgjgcdbhppaigaaDoorRows.lean that lists a variable, with what it lists TIED to the program's text (the seventh form; the later family's looks); each row that meets fmt, with fmt's text TOLD by the authors' own Lean function (tested against real Go, not proved from fmt's source: count such statements apart). THE CARD IS WHAT COUNTS. Prove the row's statement (the work); the ties are given (YtgjgcdbhppaigaaDoorTie.lean); close each card by the builder's one call (the guide's Derived/Test/ToyasCard.lean, 'card_holds'). Laid BY PROGRAM, IN A SANDBOX (cutbox-door.mjs). By AI agents, Wed Nov 11 2026. No macro, syntax, notation, axiom, sorry.
-/
import Derived.Test.YtgjgcdbhppaigaaDoorRows
import GoSem.ClaimSeven
namespace Go.Proofs.YtgjgcdbhppaigaaDoor
namespace Rows

/-- THE TIED CARD OF 'mallowlaw8.ChunkPlays'. -/
def chunkPlaysCard : Claim7 := { stood := { row := chunkPlaysRow, standIns := [], harness := (true, "4c3d3e7358f58b347c84383f8718a02da4fe60902f91797aa46ae75385204bce"), looks := false }, kinds := [], alts := [], laidByText := true, laidKinds := [.data], laidTests := true, laidLooks := .later }
def ChunkPlaysCardSaid : Prop := Claim7.holds Tryd.pinned (.plain (OpenSpec.ofChange chunkPlaysSpec)) chunkPlaysCard

/-- THE TIED CARD OF 'mallowlaw8.ChunkApart'. -/
def chunkApartCard : Claim7 := { stood := { row := chunkApartRow, standIns := [], harness := (true, "4c3d3e7358f58b347c84383f8718a02da4fe60902f91797aa46ae75385204bce"), looks := false }, kinds := [], alts := [], laidByText := true, laidKinds := [.data], laidTests := true, laidLooks := .later }
def ChunkApartCardSaid : Prop := Claim7.holds Tryd.pinned (.plain (OpenSpec.ofChange chunkApartSpec)) chunkApartCard

/-- THE TIED CARD OF 'mallowlaw8.ChunkRelease'. -/
def chunkReleaseCard : Claim7 := { stood := { row := chunkReleaseRow, standIns := [], harness := (true, "4c3d3e7358f58b347c84383f8718a02da4fe60902f91797aa46ae75385204bce"), looks := false }, kinds := [], alts := [], laidByText := true, laidKinds := [.data], laidTests := true, laidLooks := .later }
def ChunkReleaseCardSaid : Prop := Claim7.holds Tryd.pinned (.plain (OpenSpec.ofChange chunkReleaseSpec)) chunkReleaseCard

/-- THE TIED CARD OF 'mallowlaw8.ChunkCounts'. -/
def chunkCountsCard : Claim7 := { stood := { row := chunkCountsRow, standIns := [], harness := (true, "4c3d3e7358f58b347c84383f8718a02da4fe60902f91797aa46ae75385204bce"), looks := false }, kinds := [], alts := [], laidByText := true, laidKinds := [.data], laidTests := true, laidLooks := .later }
def ChunkCountsCardSaid : Prop := Claim7.holds Tryd.pinned (.plain (OpenSpec.ofChange chunkCountsSpec)) chunkCountsCard

/-- THE TIED CARD OF 'mallowlaw8.ChunkFirst'. -/
def chunkFirstCard : Claim7 := { stood := { row := chunkFirstRow, standIns := [], harness := (true, "4c3d3e7358f58b347c84383f8718a02da4fe60902f91797aa46ae75385204bce"), looks := false }, kinds := [], alts := [], laidByText := true, laidKinds := [.data], laidTests := true, laidLooks := .later }
def ChunkFirstCardSaid : Prop := Claim7.holds Tryd.pinned (.plain (OpenSpec.ofChange chunkFirstSpec)) chunkFirstCard

/-- THE SECOND FORM's CARD OF 'mallowlaw8.ChunkPlays'. -/
def chunkPlaysUptoCard : Claim7 := { stood := { row := chunkPlaysUptoRow, standIns := [], harness := (true, "4c3d3e7358f58b347c84383f8718a02da4fe60902f91797aa46ae75385204bce"), looks := false }, kinds := [], alts := [], laidByText := true, laidKinds := [.data], laidTests := true, laidLooks := .later }
def ChunkPlaysUptoCardSaid : Prop := Claim7.holds Tryd.pinned (.plain (OpenSpec.upto chunkPlaysSpec)) chunkPlaysUptoCard

/-- THE SECOND FORM's CARD OF 'mallowlaw8.ChunkApart'. -/
def chunkApartUptoCard : Claim7 := { stood := { row := chunkApartUptoRow, standIns := [], harness := (true, "4c3d3e7358f58b347c84383f8718a02da4fe60902f91797aa46ae75385204bce"), looks := false }, kinds := [], alts := [], laidByText := true, laidKinds := [.data], laidTests := true, laidLooks := .later }
def ChunkApartUptoCardSaid : Prop := Claim7.holds Tryd.pinned (.plain (OpenSpec.upto chunkApartSpec)) chunkApartUptoCard

/-- THE SECOND FORM's CARD OF 'mallowlaw8.ChunkRelease'. -/
def chunkReleaseUptoCard : Claim7 := { stood := { row := chunkReleaseUptoRow, standIns := [], harness := (true, "4c3d3e7358f58b347c84383f8718a02da4fe60902f91797aa46ae75385204bce"), looks := false }, kinds := [], alts := [], laidByText := true, laidKinds := [.data], laidTests := true, laidLooks := .later }
def ChunkReleaseUptoCardSaid : Prop := Claim7.holds Tryd.pinned (.plain (OpenSpec.upto chunkReleaseSpec)) chunkReleaseUptoCard

/-- THE SECOND FORM's CARD OF 'mallowlaw8.ChunkCounts'. -/
def chunkCountsUptoCard : Claim7 := { stood := { row := chunkCountsUptoRow, standIns := [], harness := (true, "4c3d3e7358f58b347c84383f8718a02da4fe60902f91797aa46ae75385204bce"), looks := false }, kinds := [], alts := [], laidByText := true, laidKinds := [.data], laidTests := true, laidLooks := .later }
def ChunkCountsUptoCardSaid : Prop := Claim7.holds Tryd.pinned (.plain (OpenSpec.upto chunkCountsSpec)) chunkCountsUptoCard

/-- THE SECOND FORM's CARD OF 'mallowlaw8.ChunkFirst'. -/
def chunkFirstUptoCard : Claim7 := { stood := { row := chunkFirstUptoRow, standIns := [], harness := (true, "4c3d3e7358f58b347c84383f8718a02da4fe60902f91797aa46ae75385204bce"), looks := false }, kinds := [], alts := [], laidByText := true, laidKinds := [.data], laidTests := true, laidLooks := .later }
def ChunkFirstUptoCardSaid : Prop := Claim7.holds Tryd.pinned (.plain (OpenSpec.upto chunkFirstSpec)) chunkFirstUptoCard
end Rows
end Go.Proofs.YtgjgcdbhppaigaaDoor
