/-
  No cell of these rows narrows 'for every input' (looked for: loops, veiled, ifaces, maps, wideKeys, modest, calm, conditions, laid).
  DERIVED. THE GIVEN ROWS OF THIS SEAT. 5 by the template 'for every input the law returns true; each argument reads behind the call as it read before'; 0 by the template 'total and deterministic' (their statements: YtkogomgnfeigbabTotals.lean).
  GIVEN WITH THE SEED: the statements are not yours to turn. If you find one false, say at which input.
  Laid BY PROGRAM, IN A SANDBOX (cutbox-rows.mjs): the forced cells as the released guide's own fill.sh prints them over the translation 0eb65e306bf018c0… (all of the seat's roots in one cut). By AI agents, Wed Nov 11 2026. No macro, syntax, notation, axiom, sorry.
-/
import Derived.Test.YtkogomgnfeigbabChecked
import GoSem.Claim
import GoSem.ClaimJoined
import GoSem.ClaimMapViews
import Derived.JoinedTies
import Derived.KernelRfl
namespace Go.Proofs.Ytkogomgnfeigbab
/- THE CELL 'sum', in the pinned program and in every row, IS THE sha256 OF THE DUMP (.gsa) THAT YtkogomgnfeigbabProg.lean LOADS. Nothing in Lean hashes anything: it is a label: what it is worth is what the hold of that sum in a sandbox is worth. -/
noncomputable def Try.pinned : Pinned := { name := "ytkogomgnfeigbab", sum := "0eb65e306bf018c0af931361325ff7179d27ee044e3ae66f6f04bf6bafbdc2b3", checked := Try.checked }
namespace Rows
def none {H : Type} : Left H := { results := [], args := [] }

/-- 'mallowlaw2.RatioEdges': WHATEVER THE INPUT: true; the input reads as it did. -/
def ratioEdgesSpec : ChangeSpec := { name := "ratioEdges", fn := fun _ => fun
  | [d1, d2] => { results := [.lit (.bool true)], args := [d1, d2] }
  | _ => none }
def ratioEdgesRow : OpenClaim := { program := "ytkogomgnfeigbab", sum := "0eb65e306bf018c0af931361325ff7179d27ee044e3ae66f6f04bf6bafbdc2b3", func := "mallow/mallowlaw2.RatioEdges", spec := "ratioEdges", inPlace := ["math.Float64frombits", "math.Float64bits"], apart := false }
def RatioEdgesSaid : Prop := ratioEdgesRow.holds Try.pinned (OpenSpec.ofChange ratioEdgesSpec)

/-- ITS FALSE NEIGHBOUR: 'it returns false'. Refute it at one input. -/
def ratioEdgesWrong : ChangeSpec := { name := "ratioEdges", fn := fun _ => fun
  | [d1, d2] => { results := [.lit (.bool false)], args := [d1, d2] }
  | _ => none }
def RatioEdgesWrongFalsely : Prop := ratioEdgesRow.holds Try.pinned (OpenSpec.ofChange ratioEdgesWrong)

/-- 'mallowlaw2.RatioThree': WHATEVER THE INPUT: true; the input reads as it did. -/
def ratioThreeSpec : ChangeSpec := { name := "ratioThree", fn := fun _ => fun
  | [d1, d2, d3] => { results := [.lit (.bool true)], args := [d1, d2, d3] }
  | _ => none }
def ratioThreeRow : OpenClaim := { program := "ytkogomgnfeigbab", sum := "0eb65e306bf018c0af931361325ff7179d27ee044e3ae66f6f04bf6bafbdc2b3", func := "mallow/mallowlaw2.RatioThree", spec := "ratioThree", inPlace := ["math.Float64frombits", "math.Float64bits"], apart := false }
def RatioThreeSaid : Prop := ratioThreeRow.holds Try.pinned (OpenSpec.ofChange ratioThreeSpec)

/-- ITS FALSE NEIGHBOUR: 'it returns false'. Refute it at one input. -/
def ratioThreeWrong : ChangeSpec := { name := "ratioThree", fn := fun _ => fun
  | [d1, d2, d3] => { results := [.lit (.bool false)], args := [d1, d2, d3] }
  | _ => none }
def RatioThreeWrongFalsely : Prop := ratioThreeRow.holds Try.pinned (OpenSpec.ofChange ratioThreeWrong)

/-- 'mallowlaw2.RatioBack': WHATEVER THE INPUT: true; the input reads as it did. -/
def ratioBackSpec : ChangeSpec := { name := "ratioBack", fn := fun _ => fun
  | [d1, d2] => { results := [.lit (.bool true)], args := [d1, d2] }
  | _ => none }
def ratioBackRow : OpenClaim := { program := "ytkogomgnfeigbab", sum := "0eb65e306bf018c0af931361325ff7179d27ee044e3ae66f6f04bf6bafbdc2b3", func := "mallow/mallowlaw2.RatioBack", spec := "ratioBack", inPlace := ["math.Float64bits", "math.Float64frombits"], apart := false }
def RatioBackSaid : Prop := ratioBackRow.holds Try.pinned (OpenSpec.ofChange ratioBackSpec)

/-- ITS FALSE NEIGHBOUR: 'it returns false'. Refute it at one input. -/
def ratioBackWrong : ChangeSpec := { name := "ratioBack", fn := fun _ => fun
  | [d1, d2] => { results := [.lit (.bool false)], args := [d1, d2] }
  | _ => none }
def RatioBackWrongFalsely : Prop := ratioBackRow.holds Try.pinned (OpenSpec.ofChange ratioBackWrong)

/-- 'mallowlaw2.RatioDistance': WHATEVER THE INPUT: true; the input reads as it did. -/
def ratioDistanceSpec : ChangeSpec := { name := "ratioDistance", fn := fun _ => fun
  | [d1, d2, d3] => { results := [.lit (.bool true)], args := [d1, d2, d3] }
  | _ => none }
def ratioDistanceRow : OpenClaim := { program := "ytkogomgnfeigbab", sum := "0eb65e306bf018c0af931361325ff7179d27ee044e3ae66f6f04bf6bafbdc2b3", func := "mallow/mallowlaw2.RatioDistance", spec := "ratioDistance", inPlace := ["math.Float64bits", "math.Float64frombits"], apart := false }
def RatioDistanceSaid : Prop := ratioDistanceRow.holds Try.pinned (OpenSpec.ofChange ratioDistanceSpec)

/-- ITS FALSE NEIGHBOUR: 'it returns false'. Refute it at one input. -/
def ratioDistanceWrong : ChangeSpec := { name := "ratioDistance", fn := fun _ => fun
  | [d1, d2, d3] => { results := [.lit (.bool false)], args := [d1, d2, d3] }
  | _ => none }
def RatioDistanceWrongFalsely : Prop := ratioDistanceRow.holds Try.pinned (OpenSpec.ofChange ratioDistanceWrong)

/-- 'mallowlaw2.RatioEven': WHATEVER THE INPUT: true; the input reads as it did. -/
def ratioEvenSpec : ChangeSpec := { name := "ratioEven", fn := fun _ => fun
  | [d1, d2] => { results := [.lit (.bool true)], args := [d1, d2] }
  | _ => none }
def ratioEvenRow : OpenClaim := { program := "ytkogomgnfeigbab", sum := "0eb65e306bf018c0af931361325ff7179d27ee044e3ae66f6f04bf6bafbdc2b3", func := "mallow/mallowlaw2.RatioEven", spec := "ratioEven", inPlace := ["math.Float64frombits", "math.Float64bits"], apart := false }
def RatioEvenSaid : Prop := ratioEvenRow.holds Try.pinned (OpenSpec.ofChange ratioEvenSpec)

/-- ITS FALSE NEIGHBOUR: 'it returns false'. Refute it at one input. -/
def ratioEvenWrong : ChangeSpec := { name := "ratioEven", fn := fun _ => fun
  | [d1, d2] => { results := [.lit (.bool false)], args := [d1, d2] }
  | _ => none }
def RatioEvenWrongFalsely : Prop := ratioEvenRow.holds Try.pinned (OpenSpec.ofChange ratioEvenWrong)

/- THE SECOND FORM. 'bulk': how many values and letters a reading holds, each counted each time it is reached (what is shared counts as often as it is met; a slice's spare places count too). A statement '..UptoSaid' is the law's where the arguments, and the package variables that the reading takes, are together of bulk at most 1048576: NARROWER than '..Said'. Prove '..Said' where nothing that the law and all that it calls make is longer than what came in: it says more and counts as full. Else prove '..UptoSaid'. A law counts once. -/
mutual
def uptoBulk {H : Type} : DataW H → Nat
  | .lit (.string bytes) => bytes.length + 1
  | .lit _ => 1
  | .nil => 1
  | .ptr d => uptoBulk d + 1
  | .slice elems spare => uptoBulkAll elems + uptoBulkAll spare + 1
  | .agg parts => uptoBulkAll parts + 1
  | .iface _ d => uptoBulk d + 1
  | .map entries => uptoBulkEntries entries + 1
  | .held _ => 1
def uptoBulkAll {H : Type} : List (DataW H) → Nat
  | [] => 0
  | d :: r => uptoBulk d + uptoBulkAll r
def uptoBulkEntries {H : Type} : List (Lit × DataW H) → Nat
  | [] => 0
  | x :: r => uptoBulkEntry x + uptoBulkEntries r
def uptoBulkEntry {H : Type} : Lit × DataW H → Nat
  | (.string bytes, d) => bytes.length + uptoBulk d + 1
  | (_, d) => uptoBulk d + 1
 end
def uptoSmall : (H : Type) → List (DataW H) → Bool := fun _ ds => decide (uptoBulkAll ds ≤ 1048576)
def OpenSpec.upto (s : _root_.Go.ChangeSpec) : _root_.Go.OpenSpec := { _root_.Go.OpenSpec.ofChange s with cond := some uptoSmall }

/-- 'mallowlaw2.RatioEdges', WHERE WHAT IT READS IS OF BULK AT MOST 1048576: true; the input reads as it did. -/
def ratioEdgesUptoRow : OpenClaim := { program := "ytkogomgnfeigbab", sum := "0eb65e306bf018c0af931361325ff7179d27ee044e3ae66f6f04bf6bafbdc2b3", func := "mallow/mallowlaw2.RatioEdges", spec := "ratioEdges", inPlace := ["math.Float64frombits", "math.Float64bits"], apart := false, narrowed := true }
def RatioEdgesUptoSaid : Prop := ratioEdgesUptoRow.holds Try.pinned (OpenSpec.upto ratioEdgesSpec)

/-- 'mallowlaw2.RatioThree', WHERE WHAT IT READS IS OF BULK AT MOST 1048576: true; the input reads as it did. -/
def ratioThreeUptoRow : OpenClaim := { program := "ytkogomgnfeigbab", sum := "0eb65e306bf018c0af931361325ff7179d27ee044e3ae66f6f04bf6bafbdc2b3", func := "mallow/mallowlaw2.RatioThree", spec := "ratioThree", inPlace := ["math.Float64frombits", "math.Float64bits"], apart := false, narrowed := true }
def RatioThreeUptoSaid : Prop := ratioThreeUptoRow.holds Try.pinned (OpenSpec.upto ratioThreeSpec)

/-- 'mallowlaw2.RatioBack', WHERE WHAT IT READS IS OF BULK AT MOST 1048576: true; the input reads as it did. -/
def ratioBackUptoRow : OpenClaim := { program := "ytkogomgnfeigbab", sum := "0eb65e306bf018c0af931361325ff7179d27ee044e3ae66f6f04bf6bafbdc2b3", func := "mallow/mallowlaw2.RatioBack", spec := "ratioBack", inPlace := ["math.Float64bits", "math.Float64frombits"], apart := false, narrowed := true }
def RatioBackUptoSaid : Prop := ratioBackUptoRow.holds Try.pinned (OpenSpec.upto ratioBackSpec)

/-- 'mallowlaw2.RatioDistance', WHERE WHAT IT READS IS OF BULK AT MOST 1048576: true; the input reads as it did. -/
def ratioDistanceUptoRow : OpenClaim := { program := "ytkogomgnfeigbab", sum := "0eb65e306bf018c0af931361325ff7179d27ee044e3ae66f6f04bf6bafbdc2b3", func := "mallow/mallowlaw2.RatioDistance", spec := "ratioDistance", inPlace := ["math.Float64bits", "math.Float64frombits"], apart := false, narrowed := true }
def RatioDistanceUptoSaid : Prop := ratioDistanceUptoRow.holds Try.pinned (OpenSpec.upto ratioDistanceSpec)

/-- 'mallowlaw2.RatioEven', WHERE WHAT IT READS IS OF BULK AT MOST 1048576: true; the input reads as it did. -/
def ratioEvenUptoRow : OpenClaim := { program := "ytkogomgnfeigbab", sum := "0eb65e306bf018c0af931361325ff7179d27ee044e3ae66f6f04bf6bafbdc2b3", func := "mallow/mallowlaw2.RatioEven", spec := "ratioEven", inPlace := ["math.Float64frombits", "math.Float64bits"], apart := false, narrowed := true }
def RatioEvenUptoSaid : Prop := ratioEvenUptoRow.holds Try.pinned (OpenSpec.upto ratioEvenSpec)

end Rows
end Go.Proofs.Ytkogomgnfeigbab
