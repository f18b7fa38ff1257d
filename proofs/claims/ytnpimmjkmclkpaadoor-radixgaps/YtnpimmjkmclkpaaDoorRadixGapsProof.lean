/-
  RadixGaps returns true at every input (the tables deBruijn64tab of math/bits and shifts of radix as their initialisers lay them).
-/
import Derived.Test.YtnpimmjkmclkpaaDoorGa
import Derived.Test.YtnpimmjkmclkpaaDoorTie
import Derived.Test.YtnpimmjkmclkpaaDoorCards
import Derived.WalkKit
import Derived.ProofKit
import Derived.OpenShut
import Derived.Carry
import Derived.ChangeSlices
import Derived.LaidMore
import Derived.Stop.Joined
import Derived.SevenTiedAt
namespace Go.Proofs.YtnpimmjkmclkpaaDoor.radixGaps
open Go.ChangeShapes Go.WideShapes Go.ChangeAt Go.RowKit Go.Proofs.Bt
set_option linter.unusedVariables false
set_option linter.unusedSimpArgs false

end Go.Proofs.YtnpimmjkmclkpaaDoor.radixGaps
