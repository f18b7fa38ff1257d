/-
  No cell of these rows narrows 'for every input' (looked for: loops, veiled, ifaces, maps, wideKeys, modest, calm, conditions, laid).
  DERIVED. THE GIVEN ROWS OF THIS SEAT. 4 by the template 'for every input the law returns true; each argument reads behind the call as it read before'; 0 by the template 'total and deterministic' (their statements: YtdcjldpbgickmaaTotals.lean).
  GIVEN WITH THE SEED: the statements are not yours to turn. If you find one false, say at which input.
  Laid BY PROGRAM, IN A SANDBOX (cutbox-rows.mjs): the forced cells as the released guide's own fill.sh prints them over the translation 88c9b2fbee380790… (all of the seat's roots in one cut). By AI agents, Wed Nov 11 2026. No macro, syntax, notation, axiom, sorry.
-/
import Derived.Test.YtdcjldpbgickmaaChecked
import GoSem.Claim
import GoSem.ClaimJoined
import GoSem.ClaimMapViews
import Derived.JoinedTies
import Derived.KernelRfl
namespace Go.Proofs.Ytdcjldpbgickmaa
/- THE CELL 'sum', in the pinned program and in every row, IS THE sha256 OF THE DUMP (.gsa) THAT YtdcjldpbgickmaaProg.lean LOADS. Nothing in Lean hashes anything: it is a label: what it is worth is what the hold of that sum in a sandbox is worth. -/
noncomputable def Try.pinned : Pinned := { name := "ytdcjldpbgickmaa", sum := "88c9b2fbee380790d2d0a80e5f77be4ad789cef37952b5997d54291ceb45d684", checked := Try.checked }
namespace Rows
def none {H : Type} : Left H := { results := [], args := [] }

/-- 'mallowlaw11.ArenaPlays': WHATEVER THE INPUT: true; the input reads as it did. -/
def arenaPlaysSpec : ChangeSpec := { name := "arenaPlays", fn := fun _ => fun
  | [d] => { results := [.lit (.bool true)], args := [d] }
  | _ => none }
def arenaPlaysRow : OpenClaim := { program := "ytdcjldpbgickmaa", sum := "88c9b2fbee380790d2d0a80e5f77be4ad789cef37952b5997d54291ceb45d684", func := "mallow/mallowlaw11.ArenaPlays", spec := "arenaPlays", unfollowed := true, recurses := true, apart := false }
def ArenaPlaysSaid : Prop := arenaPlaysRow.holds Try.pinned (OpenSpec.ofChange arenaPlaysSpec)

/-- ITS FALSE NEIGHBOUR: 'it returns false'. Refute it at one input. -/
def arenaPlaysWrong : ChangeSpec := { name := "arenaPlays", fn := fun _ => fun
  | [d] => { results := [.lit (.bool false)], args := [d] }
  | _ => none }
def ArenaPlaysWrongFalsely : Prop := arenaPlaysRow.holds Try.pinned (OpenSpec.ofChange arenaPlaysWrong)

/-- 'mallowlaw11.ArenaApart': WHATEVER THE INPUT: true; the input reads as it did. -/
def arenaApartSpec : ChangeSpec := { name := "arenaApart", fn := fun _ => fun
  | [d1, d2] => { results := [.lit (.bool true)], args := [d1, d2] }
  | _ => none }
def arenaApartRow : OpenClaim := { program := "ytdcjldpbgickmaa", sum := "88c9b2fbee380790d2d0a80e5f77be4ad789cef37952b5997d54291ceb45d684", func := "mallow/mallowlaw11.ArenaApart", spec := "arenaApart", unfollowed := true, recurses := true, apart := false }
def ArenaApartSaid : Prop := arenaApartRow.holds Try.pinned (OpenSpec.ofChange arenaApartSpec)

/-- ITS FALSE NEIGHBOUR: 'it returns false'. Refute it at one input. -/
def arenaApartWrong : ChangeSpec := { name := "arenaApart", fn := fun _ => fun
  | [d1, d2] => { results := [.lit (.bool false)], args := [d1, d2] }
  | _ => none }
def ArenaApartWrongFalsely : Prop := arenaApartRow.holds Try.pinned (OpenSpec.ofChange arenaApartWrong)

/-- 'mallowlaw11.ArenaEverywhere': WHATEVER THE INPUT: true; the input reads as it did. -/
def arenaEverywhereSpec : ChangeSpec := { name := "arenaEverywhere", fn := fun _ => fun
  | [d1, d2, d3, d4, d5] => { results := [.lit (.bool true)], args := [d1, d2, d3, d4, d5] }
  | _ => none }
def arenaEverywhereRow : OpenClaim := { program := "ytdcjldpbgickmaa", sum := "88c9b2fbee380790d2d0a80e5f77be4ad789cef37952b5997d54291ceb45d684", func := "mallow/mallowlaw11.ArenaEverywhere", spec := "arenaEverywhere", unfollowed := true, recurses := true, apart := false }
def ArenaEverywhereSaid : Prop := arenaEverywhereRow.holds Try.pinned (OpenSpec.ofChange arenaEverywhereSpec)

/-- ITS FALSE NEIGHBOUR: 'it returns false'. Refute it at one input. -/
def arenaEverywhereWrong : ChangeSpec := { name := "arenaEverywhere", fn := fun _ => fun
  | [d1, d2, d3, d4, d5] => { results := [.lit (.bool false)], args := [d1, d2, d3, d4, d5] }
  | _ => none }
def ArenaEverywhereWrongFalsely : Prop := arenaEverywhereRow.holds Try.pinned (OpenSpec.ofChange arenaEverywhereWrong)

/-- 'mallowlaw11.ArenaRising': WHATEVER THE INPUT: true; the input reads as it did. -/
def arenaRisingSpec : ChangeSpec := { name := "arenaRising", fn := fun _ => fun
  | [d1, d2] => { results := [.lit (.bool true)], args := [d1, d2] }
  | _ => none }
def arenaRisingRow : OpenClaim := { program := "ytdcjldpbgickmaa", sum := "88c9b2fbee380790d2d0a80e5f77be4ad789cef37952b5997d54291ceb45d684", func := "mallow/mallowlaw11.ArenaRising", spec := "arenaRising", unfollowed := true, recurses := true, apart := false }
def ArenaRisingSaid : Prop := arenaRisingRow.holds Try.pinned (OpenSpec.ofChange arenaRisingSpec)

/-- ITS FALSE NEIGHBOUR: 'it returns false'. Refute it at one input. -/
def arenaRisingWrong : ChangeSpec := { name := "arenaRising", fn := fun _ => fun
  | [d1, d2] => { results := [.lit (.bool false)], args := [d1, d2] }
  | _ => none }
def ArenaRisingWrongFalsely : Prop := arenaRisingRow.holds Try.pinned (OpenSpec.ofChange arenaRisingWrong)

/- THE SECOND FORM. 'bulk': how many values and letters a reading holds, each counted each time it is reached (what is shared counts as often as it is met; a slice's spare places count too). A statement '..UptoSaid' is the law's where the arguments, and the package variables that the reading takes, are together of bulk at most 1048576: NARROWER than '..Said'. Prove '..Said' where nothing that the law and all that it calls make is longer than what came in: it says more and counts as full. Else prove '..UptoSaid'. A law counts once. -/
mutual
def uptoBulk {H : Type} : DataW H → Nat
  | .lit (.string bytes) => bytes.length + 1
  | .lit _ => 1
  | .nil => 1
  | .ptr d => uptoBulk d + 1
  | .slice elems spare => uptoBulkAll elems + uptoBulkAll spare + 1
  | .agg parts => uptoBulkAll parts + 1
  | .iface _ d => uptoBulk d + 1
  | .map entries => uptoBulkEntries entries + 1
  | .held _ => 1
def uptoBulkAll {H : Type} : List (DataW H) → Nat
  | [] => 0
  | d :: r => uptoBulk d + uptoBulkAll r
def uptoBulkEntries {H : Type} : List (Lit × DataW H) → Nat
  | [] => 0
  | x :: r => uptoBulkEntry x + uptoBulkEntries r
def uptoBulkEntry {H : Type} : Lit × DataW H → Nat
  | (.string bytes, d) => bytes.length + uptoBulk d + 1
  | (_, d) => uptoBulk d + 1
 end
def uptoSmall : (H : Type) → List (DataW H) → Bool := fun _ ds => decide (uptoBulkAll ds ≤ 1048576)
def OpenSpec.upto (s : _root_.Go.ChangeSpec) : _root_.Go.OpenSpec := { _root_.Go.OpenSpec.ofChange s with cond := some uptoSmall }

/-- 'mallowlaw11.ArenaPlays', WHERE WHAT IT READS IS OF BULK AT MOST 1048576: true; the input reads as it did. -/
def arenaPlaysUptoRow : OpenClaim := { program := "ytdcjldpbgickmaa", sum := "88c9b2fbee380790d2d0a80e5f77be4ad789cef37952b5997d54291ceb45d684", func := "mallow/mallowlaw11.ArenaPlays", spec := "arenaPlays", unfollowed := true, recurses := true, apart := false, narrowed := true }
def ArenaPlaysUptoSaid : Prop := arenaPlaysUptoRow.holds Try.pinned (OpenSpec.upto arenaPlaysSpec)

/-- 'mallowlaw11.ArenaApart', WHERE WHAT IT READS IS OF BULK AT MOST 1048576: true; the input reads as it did. -/
def arenaApartUptoRow : OpenClaim := { program := "ytdcjldpbgickmaa", sum := "88c9b2fbee380790d2d0a80e5f77be4ad789cef37952b5997d54291ceb45d684", func := "mallow/mallowlaw11.ArenaApart", spec := "arenaApart", unfollowed := true, recurses := true, apart := false, narrowed := true }
def ArenaApartUptoSaid : Prop := arenaApartUptoRow.holds Try.pinned (OpenSpec.upto arenaApartSpec)

/-- 'mallowlaw11.ArenaEverywhere', WHERE WHAT IT READS IS OF BULK AT MOST 1048576: true; the input reads as it did. -/
def arenaEverywhereUptoRow : OpenClaim := { program := "ytdcjldpbgickmaa", sum := "88c9b2fbee380790d2d0a80e5f77be4ad789cef37952b5997d54291ceb45d684", func := "mallow/mallowlaw11.ArenaEverywhere", spec := "arenaEverywhere", unfollowed := true, recurses := true, apart := false, narrowed := true }
def ArenaEverywhereUptoSaid : Prop := arenaEverywhereUptoRow.holds Try.pinned (OpenSpec.upto arenaEverywhereSpec)

/-- 'mallowlaw11.ArenaRising', WHERE WHAT IT READS IS OF BULK AT MOST 1048576: true; the input reads as it did. -/
def arenaRisingUptoRow : OpenClaim := { program := "ytdcjldpbgickmaa", sum := "88c9b2fbee380790d2d0a80e5f77be4ad789cef37952b5997d54291ceb45d684", func := "mallow/mallowlaw11.ArenaRising", spec := "arenaRising", unfollowed := true, recurses := true, apart := false, narrowed := true }
def ArenaRisingUptoSaid : Prop := arenaRisingUptoRow.holds Try.pinned (OpenSpec.upto arenaRisingSpec)

end Rows
end Go.Proofs.Ytdcjldpbgickmaa
