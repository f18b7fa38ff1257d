/-
  DERIVED. GIVEN WITH THE SEED: THE CARDS: each row of YtgbfkmkinhlimabDoorRows.lean that lists a variable, with what it lists TIED to the program's text (the seventh form; the later family's looks); each row that meets fmt, with fmt's text TOLD by the authors' own Lean function (tested against real Go, not proved from fmt's source: count such statements apart). THE CARD IS WHAT COUNTS. Prove the row's statement (the work); the ties are given (YtgbfkmkinhlimabDoorTie.lean); close each card by the builder's one call (the guide's Derived/Test/ToyasCard.lean, 'card_holds'). Laid BY PROGRAM, IN A SANDBOX (cutbox-door.mjs). By AI agents, Wed Nov 11 2026. No macro, syntax, notation, axiom, sorry.
-/
import Derived.Test.YtgbfkmkinhlimabDoorRows
import GoSem.ClaimSeven
namespace Go.Proofs.YtgbfkmkinhlimabDoor
namespace Rows

/-- THE TIED CARD OF 'mallowlaw6.BitsWhole'. -/
def bitsWholeCard : Claim7 := { stood := { row := bitsWholeRow, standIns := [], harness := (true, "abcfde0db9d96bb0f256e38e39fbb1f343c3410b8c87a6612959f422bc152dcd"), looks := false }, kinds := [], alts := [], laidByText := true, laidKinds := [.data], laidTests := true, laidLooks := .later }
def BitsWholeCardSaid : Prop := Claim7.holds Tryd.pinned (.plain (OpenSpec.ofChange bitsWholeSpec)) bitsWholeCard

/-- THE SECOND FORM's CARD OF 'mallowlaw6.BitsWhole'. -/
def bitsWholeUptoCard : Claim7 := { stood := { row := bitsWholeUptoRow, standIns := [], harness := (true, "abcfde0db9d96bb0f256e38e39fbb1f343c3410b8c87a6612959f422bc152dcd"), looks := false }, kinds := [], alts := [], laidByText := true, laidKinds := [.data], laidTests := true, laidLooks := .later }
def BitsWholeUptoCardSaid : Prop := Claim7.holds Tryd.pinned (.plain (OpenSpec.upto bitsWholeSpec)) bitsWholeUptoCard
end Rows
end Go.Proofs.YtgbfkmkinhlimabDoor
