/-
  DERIVED. GIVEN WITH THE SEED: THE CARDS: each row of YtdkdckgheibjfaaDoorRows.lean that lists a variable, with what it lists TIED to the program's text (the seventh form; the later family's looks); each row that meets fmt, with fmt's text TOLD by the authors' own Lean function (tested against real Go, not proved from fmt's source: count such statements apart). THE CARD IS WHAT COUNTS. Prove the row's statement (the work); the ties are given (YtdkdckgheibjfaaDoorTie.lean); close each card by the builder's one call (the guide's Derived/Test/ToyasCard.lean, 'card_holds'). Laid BY PROGRAM, IN A SANDBOX (cutbox-door.mjs). By AI agents, Wed Nov 11 2026. No macro, syntax, notation, axiom, sorry.
-/
import Derived.Test.YtdkdckgheibjfaaDoorRows
import GoSem.ClaimSeven
namespace Go.Proofs.YtdkdckgheibjfaaDoor
namespace Rows

/-- THE TIED CARD OF 'mallowlaw7.PackRows'. -/
def packRowsCard : Claim7 := { stood := { row := packRowsRow, standIns := [], harness := (true, "0aabd776b277dcb21b988c232134f3a9dfc84d8bd2cd7dfdde4c476984acae1c"), looks := false }, kinds := [], alts := [], laidByText := true, laidKinds := [.data], laidTests := true, laidLooks := .later }
def PackRowsCardSaid : Prop := Claim7.holds Tryd.pinned (.plain (OpenSpec.ofChange packRowsSpec)) packRowsCard

/-- THE SECOND FORM's CARD OF 'mallowlaw7.PackRows'. -/
def packRowsUptoCard : Claim7 := { stood := { row := packRowsUptoRow, standIns := [], harness := (true, "0aabd776b277dcb21b988c232134f3a9dfc84d8bd2cd7dfdde4c476984acae1c"), looks := false }, kinds := [], alts := [], laidByText := true, laidKinds := [.data], laidTests := true, laidLooks := .later }
def PackRowsUptoCardSaid : Prop := Claim7.holds Tryd.pinned (.plain (OpenSpec.upto packRowsSpec)) packRowsUptoCard
end Rows
end Go.Proofs.YtdkdckgheibjfaaDoor
