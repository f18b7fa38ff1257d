/- The landed package's words: zero. -/
import Derived.Test.YtpceigglilgelabVmZc
namespace Go.Proofs.Ytpceigglilgelab
open Go.ChangeShapes Go.WideShapes Go.ChangeAt Go.RowKit Go.Proofs.Sp Go.Maps
set_option linter.unusedVariables false
set_option linter.unusedSimpArgs false

end Go.Proofs.Ytpceigglilgelab
