/- Of the proof of HeapClasses: texts RXz, RYa. -/
import Derived.Test.YtdgdhnnakcncoaaGreatDoorJ20
namespace Go.Proofs.YtdgdhnnakcncoaaGreatDoor
set_option maxHeartbeats 1600000
open Go.ChangeShapes Go.WideShapes Go.ChangeAt Go.RowKit Go.Proofs.Bt Go.Shelf Go.Proofs.Rx Go.Maps Go.Proofs.Pk
set_option linter.unusedVariables false
set_option linter.unusedSimpArgs false
def up (D i k:Nat):Nat:=i/2^(sh k - sh D)
end Go.Proofs.YtdgdhnnakcncoaaGreatDoor
namespace Go.Proofs.YtdgdhnnakcncoaaGreatDoor
set_option maxHeartbeats 1600000
open Go.ChangeShapes Go.WideShapes Go.ChangeAt Go.RowKit Go.Proofs.Bt Go.Shelf Go.Proofs.Rx Go.Maps Go.Proofs.Pk
set_option linter.unusedVariables false
set_option linter.unusedSimpArgs false
theorem TreeE.tab {B:Nat} {O:Nat→Prop} {w:World} {tb:Nat} {st:Nat→Nat} (h:TreeE B O w tb st):TabW w:=by
 obtain ⟨T,L,C,rfl,rfl,h1,h2⟩:=h
 exact h1.rad.tab
end Go.Proofs.YtdgdhnnakcncoaaGreatDoor
