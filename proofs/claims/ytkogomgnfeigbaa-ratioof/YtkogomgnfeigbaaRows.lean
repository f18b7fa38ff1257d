/-
  No cell of these rows narrows 'for every input' (looked for: loops, veiled, ifaces, maps, wideKeys, modest, calm, conditions, laid).
  DERIVED. THE GIVEN ROWS OF THIS SEAT. 6 by the template 'for every input the law returns true; each argument reads behind the call as it read before'; 0 by the template 'total and deterministic' (their statements: YtkogomgnfeigbaaTotals.lean).
  GIVEN WITH THE SEED: the statements are not yours to turn. If you find one false, say at which input.
  Laid BY PROGRAM, IN A SANDBOX (cutbox-rows.mjs): the forced cells as the released guide's own fill.sh prints them over the translation 6652c392377b695a… (all of the seat's roots in one cut). By AI agents, Wed Nov 11 2026. No macro, syntax, notation, axiom, sorry.
-/
import Derived.Test.YtkogomgnfeigbaaChecked
import GoSem.Claim
import GoSem.ClaimJoined
import GoSem.ClaimMapViews
import Derived.JoinedTies
import Derived.KernelRfl
namespace Go.Proofs.Ytkogomgnfeigbaa
/- THE CELL 'sum', in the pinned program and in every row, IS THE sha256 OF THE DUMP (.gsa) THAT YtkogomgnfeigbaaProg.lean LOADS. Nothing in Lean hashes anything: it is a label: what it is worth is what the hold of that sum in a sandbox is worth. -/
noncomputable def Try.pinned : Pinned := { name := "ytkogomgnfeigbaa", sum := "6652c392377b695acb027ec2367798fa8414ef1be1602d4a8b5c49c8636ff2a3", checked := Try.checked }
namespace Rows
def none {H : Type} : Left H := { results := [], args := [] }

/-- 'mallowlaw2.RatioOf': WHATEVER THE INPUT: true; the input reads as it did. -/
def ratioOfSpec : ChangeSpec := { name := "ratioOf", fn := fun _ => fun
  | [d1, d2, d3] => { results := [.lit (.bool true)], args := [d1, d2, d3] }
  | _ => none }
def ratioOfRow : OpenClaim := { program := "ytkogomgnfeigbaa", sum := "6652c392377b695acb027ec2367798fa8414ef1be1602d4a8b5c49c8636ff2a3", func := "mallow/mallowlaw2.RatioOf", spec := "ratioOf", inPlace := ["math.Float64bits", "math.Float64frombits"], apart := false }
def RatioOfSaid : Prop := ratioOfRow.holds Try.pinned (OpenSpec.ofChange ratioOfSpec)

/-- ITS FALSE NEIGHBOUR: 'it returns false'. Refute it at one input. -/
def ratioOfWrong : ChangeSpec := { name := "ratioOf", fn := fun _ => fun
  | [d1, d2, d3] => { results := [.lit (.bool false)], args := [d1, d2, d3] }
  | _ => none }
def RatioOfWrongFalsely : Prop := ratioOfRow.holds Try.pinned (OpenSpec.ofChange ratioOfWrong)

/-- 'mallowlaw2.RatioGoals': WHATEVER THE INPUT: true; the input reads as it did. -/
def ratioGoalsSpec : ChangeSpec := { name := "ratioGoals", fn := fun _ => fun
  | [d1, d2, d3, d4] => { results := [.lit (.bool true)], args := [d1, d2, d3, d4] }
  | _ => none }
def ratioGoalsRow : OpenClaim := { program := "ytkogomgnfeigbaa", sum := "6652c392377b695acb027ec2367798fa8414ef1be1602d4a8b5c49c8636ff2a3", func := "mallow/mallowlaw2.RatioGoals", spec := "ratioGoals", inPlace := ["math.Float64bits", "math.Float64frombits"], apart := false }
def RatioGoalsSaid : Prop := ratioGoalsRow.holds Try.pinned (OpenSpec.ofChange ratioGoalsSpec)

/-- ITS FALSE NEIGHBOUR: 'it returns false'. Refute it at one input. -/
def ratioGoalsWrong : ChangeSpec := { name := "ratioGoals", fn := fun _ => fun
  | [d1, d2, d3, d4] => { results := [.lit (.bool false)], args := [d1, d2, d3, d4] }
  | _ => none }
def RatioGoalsWrongFalsely : Prop := ratioGoalsRow.holds Try.pinned (OpenSpec.ofChange ratioGoalsWrong)

/-- 'mallowlaw2.RatioMixes': WHATEVER THE INPUT: true; the input reads as it did. -/
def ratioMixesSpec : ChangeSpec := { name := "ratioMixes", fn := fun _ => fun
  | [d1, d2, d3] => { results := [.lit (.bool true)], args := [d1, d2, d3] }
  | _ => none }
def ratioMixesRow : OpenClaim := { program := "ytkogomgnfeigbaa", sum := "6652c392377b695acb027ec2367798fa8414ef1be1602d4a8b5c49c8636ff2a3", func := "mallow/mallowlaw2.RatioMixes", spec := "ratioMixes", inPlace := ["math.Float64frombits", "math.Float64bits"], apart := false }
def RatioMixesSaid : Prop := ratioMixesRow.holds Try.pinned (OpenSpec.ofChange ratioMixesSpec)

/-- ITS FALSE NEIGHBOUR: 'it returns false'. Refute it at one input. -/
def ratioMixesWrong : ChangeSpec := { name := "ratioMixes", fn := fun _ => fun
  | [d1, d2, d3] => { results := [.lit (.bool false)], args := [d1, d2, d3] }
  | _ => none }
def RatioMixesWrongFalsely : Prop := ratioMixesRow.holds Try.pinned (OpenSpec.ofChange ratioMixesWrong)

/-- 'mallowlaw2.RatioOrders': WHATEVER THE INPUT: true; the input reads as it did. -/
def ratioOrdersSpec : ChangeSpec := { name := "ratioOrders", fn := fun _ => fun
  | [d1, d2] => { results := [.lit (.bool true)], args := [d1, d2] }
  | _ => none }
def ratioOrdersRow : OpenClaim := { program := "ytkogomgnfeigbaa", sum := "6652c392377b695acb027ec2367798fa8414ef1be1602d4a8b5c49c8636ff2a3", func := "mallow/mallowlaw2.RatioOrders", spec := "ratioOrders", inPlace := ["math.Float64frombits", "math.Float64bits"], apart := false }
def RatioOrdersSaid : Prop := ratioOrdersRow.holds Try.pinned (OpenSpec.ofChange ratioOrdersSpec)

/-- ITS FALSE NEIGHBOUR: 'it returns false'. Refute it at one input. -/
def ratioOrdersWrong : ChangeSpec := { name := "ratioOrders", fn := fun _ => fun
  | [d1, d2] => { results := [.lit (.bool false)], args := [d1, d2] }
  | _ => none }
def RatioOrdersWrongFalsely : Prop := ratioOrdersRow.holds Try.pinned (OpenSpec.ofChange ratioOrdersWrong)

/-- 'mallowlaw2.RatioCanon': WHATEVER THE INPUT: true; the input reads as it did. -/
def ratioCanonSpec : ChangeSpec := { name := "ratioCanon", fn := fun _ => fun
  | [d1, d2, d3] => { results := [.lit (.bool true)], args := [d1, d2, d3] }
  | _ => none }
def ratioCanonRow : OpenClaim := { program := "ytkogomgnfeigbaa", sum := "6652c392377b695acb027ec2367798fa8414ef1be1602d4a8b5c49c8636ff2a3", func := "mallow/mallowlaw2.RatioCanon", spec := "ratioCanon", inPlace := ["math.Float64bits", "math.Float64frombits"], apart := false }
def RatioCanonSaid : Prop := ratioCanonRow.holds Try.pinned (OpenSpec.ofChange ratioCanonSpec)

/-- ITS FALSE NEIGHBOUR: 'it returns false'. Refute it at one input. -/
def ratioCanonWrong : ChangeSpec := { name := "ratioCanon", fn := fun _ => fun
  | [d1, d2, d3] => { results := [.lit (.bool false)], args := [d1, d2, d3] }
  | _ => none }
def RatioCanonWrongFalsely : Prop := ratioCanonRow.holds Try.pinned (OpenSpec.ofChange ratioCanonWrong)

/-- 'mallowlaw2.RatioGrows': WHATEVER THE INPUT: true; the input reads as it did. -/
def ratioGrowsSpec : ChangeSpec := { name := "ratioGrows", fn := fun _ => fun
  | [d1, d2, d3, d4] => { results := [.lit (.bool true)], args := [d1, d2, d3, d4] }
  | _ => none }
def ratioGrowsRow : OpenClaim := { program := "ytkogomgnfeigbaa", sum := "6652c392377b695acb027ec2367798fa8414ef1be1602d4a8b5c49c8636ff2a3", func := "mallow/mallowlaw2.RatioGrows", spec := "ratioGrows", inPlace := ["math.Float64frombits", "math.Float64bits"], apart := false }
def RatioGrowsSaid : Prop := ratioGrowsRow.holds Try.pinned (OpenSpec.ofChange ratioGrowsSpec)

/-- ITS FALSE NEIGHBOUR: 'it returns false'. Refute it at one input. -/
def ratioGrowsWrong : ChangeSpec := { name := "ratioGrows", fn := fun _ => fun
  | [d1, d2, d3, d4] => { results := [.lit (.bool false)], args := [d1, d2, d3, d4] }
  | _ => none }
def RatioGrowsWrongFalsely : Prop := ratioGrowsRow.holds Try.pinned (OpenSpec.ofChange ratioGrowsWrong)

/- THE SECOND FORM. 'bulk': how many values and letters a reading holds, each counted each time it is reached (what is shared counts as often as it is met; a slice's spare places count too). A statement '..UptoSaid' is the law's where the arguments, and the package variables that the reading takes, are together of bulk at most 1048576: NARROWER than '..Said'. Prove '..Said' where nothing that the law and all that it calls make is longer than what came in: it says more and counts as full. Else prove '..UptoSaid'. A law counts once. -/
mutual
def uptoBulk {H : Type} : DataW H → Nat
  | .lit (.string bytes) => bytes.length + 1
  | .lit _ => 1
  | .nil => 1
  | .ptr d => uptoBulk d + 1
  | .slice elems spare => uptoBulkAll elems + uptoBulkAll spare + 1
  | .agg parts => uptoBulkAll parts + 1
  | .iface _ d => uptoBulk d + 1
  | .map entries => uptoBulkEntries entries + 1
  | .held _ => 1
def uptoBulkAll {H : Type} : List (DataW H) → Nat
  | [] => 0
  | d :: r => uptoBulk d + uptoBulkAll r
def uptoBulkEntries {H : Type} : List (Lit × DataW H) → Nat
  | [] => 0
  | x :: r => uptoBulkEntry x + uptoBulkEntries r
def uptoBulkEntry {H : Type} : Lit × DataW H → Nat
  | (.string bytes, d) => bytes.length + uptoBulk d + 1
  | (_, d) => uptoBulk d + 1
 end
def uptoSmall : (H : Type) → List (DataW H) → Bool := fun _ ds => decide (uptoBulkAll ds ≤ 1048576)
def OpenSpec.upto (s : _root_.Go.ChangeSpec) : _root_.Go.OpenSpec := { _root_.Go.OpenSpec.ofChange s with cond := some uptoSmall }

/-- 'mallowlaw2.RatioOf', WHERE WHAT IT READS IS OF BULK AT MOST 1048576: true; the input reads as it did. -/
def ratioOfUptoRow : OpenClaim := { program := "ytkogomgnfeigbaa", sum := "6652c392377b695acb027ec2367798fa8414ef1be1602d4a8b5c49c8636ff2a3", func := "mallow/mallowlaw2.RatioOf", spec := "ratioOf", inPlace := ["math.Float64bits", "math.Float64frombits"], apart := false, narrowed := true }
def RatioOfUptoSaid : Prop := ratioOfUptoRow.holds Try.pinned (OpenSpec.upto ratioOfSpec)

/-- 'mallowlaw2.RatioGoals', WHERE WHAT IT READS IS OF BULK AT MOST 1048576: true; the input reads as it did. -/
def ratioGoalsUptoRow : OpenClaim := { program := "ytkogomgnfeigbaa", sum := "6652c392377b695acb027ec2367798fa8414ef1be1602d4a8b5c49c8636ff2a3", func := "mallow/mallowlaw2.RatioGoals", spec := "ratioGoals", inPlace := ["math.Float64bits", "math.Float64frombits"], apart := false, narrowed := true }
def RatioGoalsUptoSaid : Prop := ratioGoalsUptoRow.holds Try.pinned (OpenSpec.upto ratioGoalsSpec)

/-- 'mallowlaw2.RatioMixes', WHERE WHAT IT READS IS OF BULK AT MOST 1048576: true; the input reads as it did. -/
def ratioMixesUptoRow : OpenClaim := { program := "ytkogomgnfeigbaa", sum := "6652c392377b695acb027ec2367798fa8414ef1be1602d4a8b5c49c8636ff2a3", func := "mallow/mallowlaw2.RatioMixes", spec := "ratioMixes", inPlace := ["math.Float64frombits", "math.Float64bits"], apart := false, narrowed := true }
def RatioMixesUptoSaid : Prop := ratioMixesUptoRow.holds Try.pinned (OpenSpec.upto ratioMixesSpec)

/-- 'mallowlaw2.RatioOrders', WHERE WHAT IT READS IS OF BULK AT MOST 1048576: true; the input reads as it did. -/
def ratioOrdersUptoRow : OpenClaim := { program := "ytkogomgnfeigbaa", sum := "6652c392377b695acb027ec2367798fa8414ef1be1602d4a8b5c49c8636ff2a3", func := "mallow/mallowlaw2.RatioOrders", spec := "ratioOrders", inPlace := ["math.Float64frombits", "math.Float64bits"], apart := false, narrowed := true }
def RatioOrdersUptoSaid : Prop := ratioOrdersUptoRow.holds Try.pinned (OpenSpec.upto ratioOrdersSpec)

/-- 'mallowlaw2.RatioCanon', WHERE WHAT IT READS IS OF BULK AT MOST 1048576: true; the input reads as it did. -/
def ratioCanonUptoRow : OpenClaim := { program := "ytkogomgnfeigbaa", sum := "6652c392377b695acb027ec2367798fa8414ef1be1602d4a8b5c49c8636ff2a3", func := "mallow/mallowlaw2.RatioCanon", spec := "ratioCanon", inPlace := ["math.Float64bits", "math.Float64frombits"], apart := false, narrowed := true }
def RatioCanonUptoSaid : Prop := ratioCanonUptoRow.holds Try.pinned (OpenSpec.upto ratioCanonSpec)

/-- 'mallowlaw2.RatioGrows', WHERE WHAT IT READS IS OF BULK AT MOST 1048576: true; the input reads as it did. -/
def ratioGrowsUptoRow : OpenClaim := { program := "ytkogomgnfeigbaa", sum := "6652c392377b695acb027ec2367798fa8414ef1be1602d4a8b5c49c8636ff2a3", func := "mallow/mallowlaw2.RatioGrows", spec := "ratioGrows", inPlace := ["math.Float64frombits", "math.Float64bits"], apart := false, narrowed := true }
def RatioGrowsUptoSaid : Prop := ratioGrowsUptoRow.holds Try.pinned (OpenSpec.upto ratioGrowsSpec)

end Rows
end Go.Proofs.Ytkogomgnfeigbaa
