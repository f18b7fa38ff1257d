/-
  DERIVED. GIVEN WITH THE SEED: THE CARDS: each row of YtnclicdnncgdiaaDoorRows.lean that lists a variable, with what it lists TIED to the program's text (the seventh form; the later family's looks); each row that meets fmt, with fmt's text TOLD by the authors' own Lean function (tested against real Go, not proved from fmt's source: count such statements apart). THE CARD IS WHAT COUNTS. Prove the row's statement (the work); the ties are given (YtnclicdnncgdiaaDoorTie.lean); close each card by the builder's one call (the guide's Derived/Test/ToyasCard.lean, 'card_holds'). Laid BY PROGRAM, IN A SANDBOX (cutbox-door.mjs). By AI agents, Wed Nov 11 2026. No macro, syntax, notation, axiom, sorry.
-/
import Derived.Test.YtnclicdnncgdiaaDoorRows
import GoSem.ClaimSeven
namespace Go.Proofs.YtnclicdnncgdiaaDoor
namespace Rows

/-- THE TIED CARD OF 'mallowlaw10.CacheUndo'. -/
def cacheUndoCard : Claim7 := { stood := { row := cacheUndoRow, standIns := [], harness := (true, "160b2d03475f59f132063c68d3eba29c79c91f2214c7c5abcb4b0a63dca68c07"), looks := false }, kinds := [], alts := [], laidByText := true, laidKinds := [.data, .data], laidTests := true, laidLooks := .later }
def CacheUndoCardSaid : Prop := Claim7.holds Tryd.pinned (.plain (OpenSpec.ofChange cacheUndoSpec)) cacheUndoCard

/-- THE TIED CARD OF 'mallowlaw10.CacheGives'. -/
def cacheGivesCard : Claim7 := { stood := { row := cacheGivesRow, standIns := [], harness := (true, "160b2d03475f59f132063c68d3eba29c79c91f2214c7c5abcb4b0a63dca68c07"), looks := false }, kinds := [], alts := [], laidByText := true, laidKinds := [.data, .data], laidTests := true, laidLooks := .later }
def CacheGivesCardSaid : Prop := Claim7.holds Tryd.pinned (.plain (OpenSpec.ofChange cacheGivesSpec)) cacheGivesCard

/-- THE TIED CARD OF 'mallowlaw10.CacheTwo'. -/
def cacheTwoCard : Claim7 := { stood := { row := cacheTwoRow, standIns := [], harness := (true, "160b2d03475f59f132063c68d3eba29c79c91f2214c7c5abcb4b0a63dca68c07"), looks := false }, kinds := [], alts := [], laidByText := true, laidKinds := [.data, .data], laidTests := true, laidLooks := .later }
def CacheTwoCardSaid : Prop := Claim7.holds Tryd.pinned (.plain (OpenSpec.ofChange cacheTwoSpec)) cacheTwoCard

/-- THE SECOND FORM's CARD OF 'mallowlaw10.CacheUndo'. -/
def cacheUndoUptoCard : Claim7 := { stood := { row := cacheUndoUptoRow, standIns := [], harness := (true, "160b2d03475f59f132063c68d3eba29c79c91f2214c7c5abcb4b0a63dca68c07"), looks := false }, kinds := [], alts := [], laidByText := true, laidKinds := [.data, .data], laidTests := true, laidLooks := .later }
def CacheUndoUptoCardSaid : Prop := Claim7.holds Tryd.pinned (.plain (OpenSpec.upto cacheUndoSpec)) cacheUndoUptoCard

/-- THE SECOND FORM's CARD OF 'mallowlaw10.CacheGives'. -/
def cacheGivesUptoCard : Claim7 := { stood := { row := cacheGivesUptoRow, standIns := [], harness := (true, "160b2d03475f59f132063c68d3eba29c79c91f2214c7c5abcb4b0a63dca68c07"), looks := false }, kinds := [], alts := [], laidByText := true, laidKinds := [.data, .data], laidTests := true, laidLooks := .later }
def CacheGivesUptoCardSaid : Prop := Claim7.holds Tryd.pinned (.plain (OpenSpec.upto cacheGivesSpec)) cacheGivesUptoCard

/-- THE SECOND FORM's CARD OF 'mallowlaw10.CacheTwo'. -/
def cacheTwoUptoCard : Claim7 := { stood := { row := cacheTwoUptoRow, standIns := [], harness := (true, "160b2d03475f59f132063c68d3eba29c79c91f2214c7c5abcb4b0a63dca68c07"), looks := false }, kinds := [], alts := [], laidByText := true, laidKinds := [.data, .data], laidTests := true, laidLooks := .later }
def CacheTwoUptoCardSaid : Prop := Claim7.holds Tryd.pinned (.plain (OpenSpec.upto cacheTwoSpec)) cacheTwoUptoCard
end Rows
end Go.Proofs.YtnclicdnncgdiaaDoor
