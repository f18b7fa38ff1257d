/-
  DERIVED. GIVEN WITH THE SEED: THE CARDS: each row of YtgbfkmkinhlimaaDoorRows.lean that lists a variable, with what it lists TIED to the program's text (the seventh form; the later family's looks); each row that meets fmt, with fmt's text TOLD by the authors' own Lean function (tested against real Go, not proved from fmt's source: count such statements apart). THE CARD IS WHAT COUNTS. Prove the row's statement (the work); the ties are given (YtgbfkmkinhlimaaDoorTie.lean); close each card by the builder's one call (the guide's Derived/Test/ToyasCard.lean, 'card_holds'). Laid BY PROGRAM, IN A SANDBOX (cutbox-door.mjs). By AI agents, Wed Nov 11 2026. No macro, syntax, notation, axiom, sorry.
-/
import Derived.Test.YtgbfkmkinhlimaaDoorRows
import GoSem.ClaimSeven
namespace Go.Proofs.YtgbfkmkinhlimaaDoor
namespace Rows

/-- THE TIED CARD OF 'mallowlaw6.BitsChange'. -/
def bitsChangeCard : Claim7 := { stood := { row := bitsChangeRow, standIns := [], harness := (true, "79b4de9de9cef6f6321b3fe74b6e88405a47a01f95bc1fd0a1ad39d5f3754406"), looks := false }, kinds := [], alts := [], laidByText := true, laidKinds := [.data], laidTests := true, laidLooks := .later }
def BitsChangeCardSaid : Prop := Claim7.holds Tryd.pinned (.plain (OpenSpec.ofChange bitsChangeSpec)) bitsChangeCard

/-- THE TIED CARD OF 'mallowlaw6.BitsFind'. -/
def bitsFindCard : Claim7 := { stood := { row := bitsFindRow, standIns := [], harness := (true, "79b4de9de9cef6f6321b3fe74b6e88405a47a01f95bc1fd0a1ad39d5f3754406"), looks := false }, kinds := [], alts := [], laidByText := true, laidKinds := [.data], laidTests := true, laidLooks := .later }
def BitsFindCardSaid : Prop := Claim7.holds Tryd.pinned (.plain (OpenSpec.ofChange bitsFindSpec)) bitsFindCard

/-- THE TIED CARD OF 'mallowlaw6.BitsFirst'. -/
def bitsFirstCard : Claim7 := { stood := { row := bitsFirstRow, standIns := [], harness := (true, "79b4de9de9cef6f6321b3fe74b6e88405a47a01f95bc1fd0a1ad39d5f3754406"), looks := false }, kinds := [], alts := [], laidByText := true, laidKinds := [.data], laidTests := true, laidLooks := .later }
def BitsFirstCardSaid : Prop := Claim7.holds Tryd.pinned (.plain (OpenSpec.ofChange bitsFirstSpec)) bitsFirstCard

/-- THE TIED CARD OF 'mallowlaw6.BitsSums'. -/
def bitsSumsCard : Claim7 := { stood := { row := bitsSumsRow, standIns := [], harness := (true, "79b4de9de9cef6f6321b3fe74b6e88405a47a01f95bc1fd0a1ad39d5f3754406"), looks := false }, kinds := [], alts := [], laidByText := true, laidKinds := [.data], laidTests := true, laidLooks := .later }
def BitsSumsCardSaid : Prop := Claim7.holds Tryd.pinned (.plain (OpenSpec.ofChange bitsSumsSpec)) bitsSumsCard

/-- THE TIED CARD OF 'mallowlaw6.BitsTwice'. -/
def bitsTwiceCard : Claim7 := { stood := { row := bitsTwiceRow, standIns := [], harness := (true, "79b4de9de9cef6f6321b3fe74b6e88405a47a01f95bc1fd0a1ad39d5f3754406"), looks := false }, kinds := [], alts := [], laidByText := true, laidKinds := [.data], laidTests := true, laidLooks := .later }
def BitsTwiceCardSaid : Prop := Claim7.holds Tryd.pinned (.plain (OpenSpec.ofChange bitsTwiceSpec)) bitsTwiceCard

/-- THE TIED CARD OF 'mallowlaw6.BitsLast'. -/
def bitsLastCard : Claim7 := { stood := { row := bitsLastRow, standIns := [], harness := (true, "79b4de9de9cef6f6321b3fe74b6e88405a47a01f95bc1fd0a1ad39d5f3754406"), looks := false }, kinds := [], alts := [], laidByText := true, laidKinds := [.data], laidTests := true, laidLooks := .later }
def BitsLastCardSaid : Prop := Claim7.holds Tryd.pinned (.plain (OpenSpec.ofChange bitsLastSpec)) bitsLastCard

/-- THE SECOND FORM's CARD OF 'mallowlaw6.BitsChange'. -/
def bitsChangeUptoCard : Claim7 := { stood := { row := bitsChangeUptoRow, standIns := [], harness := (true, "79b4de9de9cef6f6321b3fe74b6e88405a47a01f95bc1fd0a1ad39d5f3754406"), looks := false }, kinds := [], alts := [], laidByText := true, laidKinds := [.data], laidTests := true, laidLooks := .later }
def BitsChangeUptoCardSaid : Prop := Claim7.holds Tryd.pinned (.plain (OpenSpec.upto bitsChangeSpec)) bitsChangeUptoCard

/-- THE SECOND FORM's CARD OF 'mallowlaw6.BitsFind'. -/
def bitsFindUptoCard : Claim7 := { stood := { row := bitsFindUptoRow, standIns := [], harness := (true, "79b4de9de9cef6f6321b3fe74b6e88405a47a01f95bc1fd0a1ad39d5f3754406"), looks := false }, kinds := [], alts := [], laidByText := true, laidKinds := [.data], laidTests := true, laidLooks := .later }
def BitsFindUptoCardSaid : Prop := Claim7.holds Tryd.pinned (.plain (OpenSpec.upto bitsFindSpec)) bitsFindUptoCard

/-- THE SECOND FORM's CARD OF 'mallowlaw6.BitsFirst'. -/
def bitsFirstUptoCard : Claim7 := { stood := { row := bitsFirstUptoRow, standIns := [], harness := (true, "79b4de9de9cef6f6321b3fe74b6e88405a47a01f95bc1fd0a1ad39d5f3754406"), looks := false }, kinds := [], alts := [], laidByText := true, laidKinds := [.data], laidTests := true, laidLooks := .later }
def BitsFirstUptoCardSaid : Prop := Claim7.holds Tryd.pinned (.plain (OpenSpec.upto bitsFirstSpec)) bitsFirstUptoCard

/-- THE SECOND FORM's CARD OF 'mallowlaw6.BitsSums'. -/
def bitsSumsUptoCard : Claim7 := { stood := { row := bitsSumsUptoRow, standIns := [], harness := (true, "79b4de9de9cef6f6321b3fe74b6e88405a47a01f95bc1fd0a1ad39d5f3754406"), looks := false }, kinds := [], alts := [], laidByText := true, laidKinds := [.data], laidTests := true, laidLooks := .later }
def BitsSumsUptoCardSaid : Prop := Claim7.holds Tryd.pinned (.plain (OpenSpec.upto bitsSumsSpec)) bitsSumsUptoCard

/-- THE SECOND FORM's CARD OF 'mallowlaw6.BitsTwice'. -/
def bitsTwiceUptoCard : Claim7 := { stood := { row := bitsTwiceUptoRow, standIns := [], harness := (true, "79b4de9de9cef6f6321b3fe74b6e88405a47a01f95bc1fd0a1ad39d5f3754406"), looks := false }, kinds := [], alts := [], laidByText := true, laidKinds := [.data], laidTests := true, laidLooks := .later }
def BitsTwiceUptoCardSaid : Prop := Claim7.holds Tryd.pinned (.plain (OpenSpec.upto bitsTwiceSpec)) bitsTwiceUptoCard

/-- THE SECOND FORM's CARD OF 'mallowlaw6.BitsLast'. -/
def bitsLastUptoCard : Claim7 := { stood := { row := bitsLastUptoRow, standIns := [], harness := (true, "79b4de9de9cef6f6321b3fe74b6e88405a47a01f95bc1fd0a1ad39d5f3754406"), looks := false }, kinds := [], alts := [], laidByText := true, laidKinds := [.data], laidTests := true, laidLooks := .later }
def BitsLastUptoCardSaid : Prop := Claim7.holds Tryd.pinned (.plain (OpenSpec.upto bitsLastSpec)) bitsLastUptoCard
end Rows
end Go.Proofs.YtgbfkmkinhlimaaDoor
