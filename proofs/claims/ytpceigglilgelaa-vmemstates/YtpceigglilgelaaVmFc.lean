/- The landed package keeps chapter 3, call by call. -/
import Derived.Test.YtpceigglilgelaaVmNb
namespace Go.Proofs.Ytpceigglilgelaa
open Go.ChangeShapes Go.WideShapes Go.ChangeAt Go.RowKit Go.Proofs.Sp

theorem vface : Face vm VI where
  wf := VI.wf
  lt := fun h => VI.lt h
  kept := VI.kept
  new := vnew
  reserve := vreserve
  commit := vcommit
  load := vload
  release := vrelease
  count := fun k h1 h2 h _ => vcount k h1 h2 h
  store := vstore
  zero := fun a b hz ha hb h hK => by first | exact vzero a b ha hb h hK | exact absurd rfl hz
  state := vstate
end Go.Proofs.Ytpceigglilgelaa
