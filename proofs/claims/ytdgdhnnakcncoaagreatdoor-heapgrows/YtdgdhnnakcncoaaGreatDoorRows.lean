/-
  NARROWER THAN 'FOR EVERY INPUT', by the rows' own cells (each row's printed sentence says how): HeapPlays: laid · HeapGrows: laid · HeapCached: laid · HeapOwners: laid · HeapRefused: laid · HeapClasses: laid.
  DERIVED. THE GIVEN ROWS OF THIS SEAT. 6 by the template 'for every input the law returns true; each argument reads behind the call as it read before'; 0 by the template 'total and deterministic' (their statements: YtdgdhnnakcncoaaGreatDoorTotals.lean).
  GIVEN WITH THE SEED: the statements are not yours to turn. If you find one false, say at which input.
  Laid BY PROGRAM, IN A SANDBOX (cutbox-rows.mjs): the forced cells as the released guide's own fill.sh prints them over the translation d9fcf0fbd66b10bf… (all of the seat's roots in one cut). By AI agents, Wed Nov 11 2026. No macro, syntax, notation, axiom, sorry.
-/
import Derived.Test.YtdgdhnnakcncoaaGreatDoorChecked
import GoSem.Claim
import GoSem.ClaimJoined
import GoSem.ClaimMapViews
import Derived.JoinedTies
import Derived.KernelRfl
namespace Go.Proofs.YtdgdhnnakcncoaaGreatDoor
/- THE CELL 'sum', in the pinned program and in every row, IS THE sha256 OF THE DUMP (.gsa) THAT YtdgdhnnakcncoaaGreatDoorProg.lean LOADS. Nothing in Lean hashes anything: it is a label: what it is worth is what the hold of that sum in a sandbox is worth. -/
noncomputable def Tryz.pinned : Pinned := { name := "ytdgdhnnakcncoaagreatdoor", sum := "d9fcf0fbd66b10bf9e4c875b99d25b0007cb1e1580b7e6788f4270729184f22f", checked := Tryz.checked }
namespace Rows
def none {H : Type} : Left H := { results := [], args := [] }

/- WHAT THE LISTED PACKAGE-LEVEL VARIABLES READ AS WHEN THE CALL BEGINS. Each datum BY PROGRAM (the guide's laid-datum.mjs) off the statement by which the dump's own 'gosem.cut.vars' lays the variable. In a bare row this is a premise. The card (YtdgdhnnakcncoaaGreatDoorCards.lean) ties it to the program's text. -/
def laid_math_bits_deBruijn64tab {H : Type} : DataW H := .agg [.lit (.int .u8 0), .lit (.int .u8 1), .lit (.int .u8 56), .lit (.int .u8 2), .lit (.int .u8 57), .lit (.int .u8 49), .lit (.int .u8 28), .lit (.int .u8 3), .lit (.int .u8 61), .lit (.int .u8 58), .lit (.int .u8 42), .lit (.int .u8 50), .lit (.int .u8 38), .lit (.int .u8 29), .lit (.int .u8 17), .lit (.int .u8 4), .lit (.int .u8 62), .lit (.int .u8 47), .lit (.int .u8 59), .lit (.int .u8 36), .lit (.int .u8 45), .lit (.int .u8 43), .lit (.int .u8 51), .lit (.int .u8 22), .lit (.int .u8 53), .lit (.int .u8 39), .lit (.int .u8 33), .lit (.int .u8 30), .lit (.int .u8 24), .lit (.int .u8 18), .lit (.int .u8 12), .lit (.int .u8 5), .lit (.int .u8 63), .lit (.int .u8 55), .lit (.int .u8 48), .lit (.int .u8 27), .lit (.int .u8 60), .lit (.int .u8 41), .lit (.int .u8 37), .lit (.int .u8 16), .lit (.int .u8 46), .lit (.int .u8 35), .lit (.int .u8 44), .lit (.int .u8 21), .lit (.int .u8 52), .lit (.int .u8 32), .lit (.int .u8 23), .lit (.int .u8 11), .lit (.int .u8 54), .lit (.int .u8 26), .lit (.int .u8 40), .lit (.int .u8 15), .lit (.int .u8 34), .lit (.int .u8 20), .lit (.int .u8 31), .lit (.int .u8 10), .lit (.int .u8 25), .lit (.int .u8 14), .lit (.int .u8 19), .lit (.int .u8 9), .lit (.int .u8 13), .lit (.int .u8 8), .lit (.int .u8 7), .lit (.int .u8 6)]
def laid_mallow_radix_shifts {H : Type} : DataW H := .agg [.lit (.int .i64 35), .lit (.int .i64 27), .lit (.int .i64 21), .lit (.int .i64 18), .lit (.int .i64 15), .lit (.int .i64 12), .lit (.int .i64 9)]

/-- 'mallowlaw16.HeapPlays': WHATEVER THE INPUT: true; the input reads as it did. -/
def heapPlaysSpec : ChangeSpec := { name := "heapPlays", fn := fun _ => fun
  | [d1, d2] => { results := [.lit (.bool true)], args := [d1, d2] }
  | _ => none }
def heapPlaysRow : OpenClaim := { program := "ytdgdhnnakcncoaagreatdoor", sum := "d9fcf0fbd66b10bf9e4c875b99d25b0007cb1e1580b7e6788f4270729184f22f", func := "mallow/mallowlaw16.HeapPlays", spec := "heapPlays", inPlace := ["slices.overlaps[mallow/vmem.row]"], unfollowed := true, recurses := true, named := ["mallow/radix.shifts", "math/bits.deBruijn64tab"], apart := false, laid := [("math/bits.deBruijn64tab", laid_math_bits_deBruijn64tab), ("mallow/radix.shifts", laid_mallow_radix_shifts)] }
def HeapPlaysSaid : Prop := heapPlaysRow.holds Tryz.pinned (OpenSpec.ofChange heapPlaysSpec)

/-- ITS FALSE NEIGHBOUR: 'it returns false'. Refute it at one input. -/
def heapPlaysWrong : ChangeSpec := { name := "heapPlays", fn := fun _ => fun
  | [d1, d2] => { results := [.lit (.bool false)], args := [d1, d2] }
  | _ => none }
def HeapPlaysWrongFalsely : Prop := heapPlaysRow.holds Tryz.pinned (OpenSpec.ofChange heapPlaysWrong)

/-- 'mallowlaw16.HeapGrows': WHATEVER THE INPUT: true; the input reads as it did. -/
def heapGrowsSpec : ChangeSpec := { name := "heapGrows", fn := fun _ => fun
  | [d] => { results := [.lit (.bool true)], args := [d] }
  | _ => none }
def heapGrowsRow : OpenClaim := { program := "ytdgdhnnakcncoaagreatdoor", sum := "d9fcf0fbd66b10bf9e4c875b99d25b0007cb1e1580b7e6788f4270729184f22f", func := "mallow/mallowlaw16.HeapGrows", spec := "heapGrows", inPlace := ["slices.overlaps[mallow/vmem.row]"], unfollowed := true, recurses := true, named := ["mallow/radix.shifts", "math/bits.deBruijn64tab"], apart := false, laid := [("math/bits.deBruijn64tab", laid_math_bits_deBruijn64tab), ("mallow/radix.shifts", laid_mallow_radix_shifts)] }
def HeapGrowsSaid : Prop := heapGrowsRow.holds Tryz.pinned (OpenSpec.ofChange heapGrowsSpec)

/-- ITS FALSE NEIGHBOUR: 'it returns false'. Refute it at one input. -/
def heapGrowsWrong : ChangeSpec := { name := "heapGrows", fn := fun _ => fun
  | [d] => { results := [.lit (.bool false)], args := [d] }
  | _ => none }
def HeapGrowsWrongFalsely : Prop := heapGrowsRow.holds Tryz.pinned (OpenSpec.ofChange heapGrowsWrong)

/-- 'mallowlaw16.HeapCached': WHATEVER THE INPUT: true; the input reads as it did. -/
def heapCachedSpec : ChangeSpec := { name := "heapCached", fn := fun _ => fun
  | [d1, d2] => { results := [.lit (.bool true)], args := [d1, d2] }
  | _ => none }
def heapCachedRow : OpenClaim := { program := "ytdgdhnnakcncoaagreatdoor", sum := "d9fcf0fbd66b10bf9e4c875b99d25b0007cb1e1580b7e6788f4270729184f22f", func := "mallow/mallowlaw16.HeapCached", spec := "heapCached", inPlace := ["slices.overlaps[mallow/vmem.row]"], unfollowed := true, recurses := true, named := ["mallow/radix.shifts", "math/bits.deBruijn64tab"], apart := false, laid := [("math/bits.deBruijn64tab", laid_math_bits_deBruijn64tab), ("mallow/radix.shifts", laid_mallow_radix_shifts)] }
def HeapCachedSaid : Prop := heapCachedRow.holds Tryz.pinned (OpenSpec.ofChange heapCachedSpec)

/-- ITS FALSE NEIGHBOUR: 'it returns false'. Refute it at one input. -/
def heapCachedWrong : ChangeSpec := { name := "heapCached", fn := fun _ => fun
  | [d1, d2] => { results := [.lit (.bool false)], args := [d1, d2] }
  | _ => none }
def HeapCachedWrongFalsely : Prop := heapCachedRow.holds Tryz.pinned (OpenSpec.ofChange heapCachedWrong)

/-- 'mallowlaw16.HeapOwners': WHATEVER THE INPUT: true; the input reads as it did. -/
def heapOwnersSpec : ChangeSpec := { name := "heapOwners", fn := fun _ => fun
  | [d1, d2, d3] => { results := [.lit (.bool true)], args := [d1, d2, d3] }
  | _ => none }
def heapOwnersRow : OpenClaim := { program := "ytdgdhnnakcncoaagreatdoor", sum := "d9fcf0fbd66b10bf9e4c875b99d25b0007cb1e1580b7e6788f4270729184f22f", func := "mallow/mallowlaw16.HeapOwners", spec := "heapOwners", inPlace := ["slices.overlaps[mallow/vmem.row]"], unfollowed := true, recurses := true, named := ["mallow/radix.shifts", "math/bits.deBruijn64tab"], apart := false, laid := [("math/bits.deBruijn64tab", laid_math_bits_deBruijn64tab), ("mallow/radix.shifts", laid_mallow_radix_shifts)] }
def HeapOwnersSaid : Prop := heapOwnersRow.holds Tryz.pinned (OpenSpec.ofChange heapOwnersSpec)

/-- ITS FALSE NEIGHBOUR: 'it returns false'. Refute it at one input. -/
def heapOwnersWrong : ChangeSpec := { name := "heapOwners", fn := fun _ => fun
  | [d1, d2, d3] => { results := [.lit (.bool false)], args := [d1, d2, d3] }
  | _ => none }
def HeapOwnersWrongFalsely : Prop := heapOwnersRow.holds Tryz.pinned (OpenSpec.ofChange heapOwnersWrong)

/-- 'mallowlaw16.HeapRefused': WHATEVER THE INPUT: true; the input reads as it did. -/
def heapRefusedSpec : ChangeSpec := { name := "heapRefused", fn := fun _ => fun
  | [d1, d2, d3] => { results := [.lit (.bool true)], args := [d1, d2, d3] }
  | _ => none }
def heapRefusedRow : OpenClaim := { program := "ytdgdhnnakcncoaagreatdoor", sum := "d9fcf0fbd66b10bf9e4c875b99d25b0007cb1e1580b7e6788f4270729184f22f", func := "mallow/mallowlaw16.HeapRefused", spec := "heapRefused", inPlace := ["slices.overlaps[mallow/vmem.row]"], unfollowed := true, recurses := true, named := ["mallow/radix.shifts", "math/bits.deBruijn64tab"], apart := false, laid := [("math/bits.deBruijn64tab", laid_math_bits_deBruijn64tab), ("mallow/radix.shifts", laid_mallow_radix_shifts)] }
def HeapRefusedSaid : Prop := heapRefusedRow.holds Tryz.pinned (OpenSpec.ofChange heapRefusedSpec)

/-- ITS FALSE NEIGHBOUR: 'it returns false'. Refute it at one input. -/
def heapRefusedWrong : ChangeSpec := { name := "heapRefused", fn := fun _ => fun
  | [d1, d2, d3] => { results := [.lit (.bool false)], args := [d1, d2, d3] }
  | _ => none }
def HeapRefusedWrongFalsely : Prop := heapRefusedRow.holds Tryz.pinned (OpenSpec.ofChange heapRefusedWrong)

/-- 'mallowlaw16.HeapClasses': WHATEVER THE INPUT: true; the input reads as it did. -/
def heapClassesSpec : ChangeSpec := { name := "heapClasses", fn := fun _ => fun
  | [d1, d2, d3] => { results := [.lit (.bool true)], args := [d1, d2, d3] }
  | _ => none }
def heapClassesRow : OpenClaim := { program := "ytdgdhnnakcncoaagreatdoor", sum := "d9fcf0fbd66b10bf9e4c875b99d25b0007cb1e1580b7e6788f4270729184f22f", func := "mallow/mallowlaw16.HeapClasses", spec := "heapClasses", inPlace := ["slices.overlaps[mallow/vmem.row]"], unfollowed := true, recurses := true, named := ["mallow/radix.shifts", "math/bits.deBruijn64tab"], apart := false, laid := [("math/bits.deBruijn64tab", laid_math_bits_deBruijn64tab), ("mallow/radix.shifts", laid_mallow_radix_shifts)] }
def HeapClassesSaid : Prop := heapClassesRow.holds Tryz.pinned (OpenSpec.ofChange heapClassesSpec)

/-- ITS FALSE NEIGHBOUR: 'it returns false'. Refute it at one input. -/
def heapClassesWrong : ChangeSpec := { name := "heapClasses", fn := fun _ => fun
  | [d1, d2, d3] => { results := [.lit (.bool false)], args := [d1, d2, d3] }
  | _ => none }
def HeapClassesWrongFalsely : Prop := heapClassesRow.holds Tryz.pinned (OpenSpec.ofChange heapClassesWrong)

/- THE SECOND FORM. 'bulk': how many values and letters a reading holds, each counted each time it is reached (what is shared counts as often as it is met; a slice's spare places count too). A statement '..UptoSaid' is the law's where the arguments, and the package variables that the reading takes, are together of bulk at most 1048576: NARROWER than '..Said'. Prove '..Said' where nothing that the law and all that it calls make is longer than what came in: it says more and counts as full. Else prove '..UptoSaid'. A law counts once. -/
mutual
def uptoBulk {H : Type} : DataW H → Nat
  | .lit (.string bytes) => bytes.length + 1
  | .lit _ => 1
  | .nil => 1
  | .ptr d => uptoBulk d + 1
  | .slice elems spare => uptoBulkAll elems + uptoBulkAll spare + 1
  | .agg parts => uptoBulkAll parts + 1
  | .iface _ d => uptoBulk d + 1
  | .map entries => uptoBulkEntries entries + 1
  | .held _ => 1
def uptoBulkAll {H : Type} : List (DataW H) → Nat
  | [] => 0
  | d :: r => uptoBulk d + uptoBulkAll r
def uptoBulkEntries {H : Type} : List (Lit × DataW H) → Nat
  | [] => 0
  | x :: r => uptoBulkEntry x + uptoBulkEntries r
def uptoBulkEntry {H : Type} : Lit × DataW H → Nat
  | (.string bytes, d) => bytes.length + uptoBulk d + 1
  | (_, d) => uptoBulk d + 1
 end
def uptoSmall : (H : Type) → List (DataW H) → Bool := fun _ ds => decide (uptoBulkAll ds ≤ 1048576)
def OpenSpec.upto (s : _root_.Go.ChangeSpec) : _root_.Go.OpenSpec := { _root_.Go.OpenSpec.ofChange s with cond := some uptoSmall }

/-- 'mallowlaw16.HeapPlays', WHERE WHAT IT READS IS OF BULK AT MOST 1048576: true; the input reads as it did. -/
def heapPlaysUptoRow : OpenClaim := { program := "ytdgdhnnakcncoaagreatdoor", sum := "d9fcf0fbd66b10bf9e4c875b99d25b0007cb1e1580b7e6788f4270729184f22f", func := "mallow/mallowlaw16.HeapPlays", spec := "heapPlays", inPlace := ["slices.overlaps[mallow/vmem.row]"], unfollowed := true, recurses := true, named := ["mallow/radix.shifts", "math/bits.deBruijn64tab"], apart := false, laid := [("math/bits.deBruijn64tab", laid_math_bits_deBruijn64tab), ("mallow/radix.shifts", laid_mallow_radix_shifts)], narrowed := true }
def HeapPlaysUptoSaid : Prop := heapPlaysUptoRow.holds Tryz.pinned (OpenSpec.upto heapPlaysSpec)

/-- 'mallowlaw16.HeapGrows', WHERE WHAT IT READS IS OF BULK AT MOST 1048576: true; the input reads as it did. -/
def heapGrowsUptoRow : OpenClaim := { program := "ytdgdhnnakcncoaagreatdoor", sum := "d9fcf0fbd66b10bf9e4c875b99d25b0007cb1e1580b7e6788f4270729184f22f", func := "mallow/mallowlaw16.HeapGrows", spec := "heapGrows", inPlace := ["slices.overlaps[mallow/vmem.row]"], unfollowed := true, recurses := true, named := ["mallow/radix.shifts", "math/bits.deBruijn64tab"], apart := false, laid := [("math/bits.deBruijn64tab", laid_math_bits_deBruijn64tab), ("mallow/radix.shifts", laid_mallow_radix_shifts)], narrowed := true }
def HeapGrowsUptoSaid : Prop := heapGrowsUptoRow.holds Tryz.pinned (OpenSpec.upto heapGrowsSpec)

/-- 'mallowlaw16.HeapCached', WHERE WHAT IT READS IS OF BULK AT MOST 1048576: true; the input reads as it did. -/
def heapCachedUptoRow : OpenClaim := { program := "ytdgdhnnakcncoaagreatdoor", sum := "d9fcf0fbd66b10bf9e4c875b99d25b0007cb1e1580b7e6788f4270729184f22f", func := "mallow/mallowlaw16.HeapCached", spec := "heapCached", inPlace := ["slices.overlaps[mallow/vmem.row]"], unfollowed := true, recurses := true, named := ["mallow/radix.shifts", "math/bits.deBruijn64tab"], apart := false, laid := [("math/bits.deBruijn64tab", laid_math_bits_deBruijn64tab), ("mallow/radix.shifts", laid_mallow_radix_shifts)], narrowed := true }
def HeapCachedUptoSaid : Prop := heapCachedUptoRow.holds Tryz.pinned (OpenSpec.upto heapCachedSpec)

/-- 'mallowlaw16.HeapOwners', WHERE WHAT IT READS IS OF BULK AT MOST 1048576: true; the input reads as it did. -/
def heapOwnersUptoRow : OpenClaim := { program := "ytdgdhnnakcncoaagreatdoor", sum := "d9fcf0fbd66b10bf9e4c875b99d25b0007cb1e1580b7e6788f4270729184f22f", func := "mallow/mallowlaw16.HeapOwners", spec := "heapOwners", inPlace := ["slices.overlaps[mallow/vmem.row]"], unfollowed := true, recurses := true, named := ["mallow/radix.shifts", "math/bits.deBruijn64tab"], apart := false, laid := [("math/bits.deBruijn64tab", laid_math_bits_deBruijn64tab), ("mallow/radix.shifts", laid_mallow_radix_shifts)], narrowed := true }
def HeapOwnersUptoSaid : Prop := heapOwnersUptoRow.holds Tryz.pinned (OpenSpec.upto heapOwnersSpec)

/-- 'mallowlaw16.HeapRefused', WHERE WHAT IT READS IS OF BULK AT MOST 1048576: true; the input reads as it did. -/
def heapRefusedUptoRow : OpenClaim := { program := "ytdgdhnnakcncoaagreatdoor", sum := "d9fcf0fbd66b10bf9e4c875b99d25b0007cb1e1580b7e6788f4270729184f22f", func := "mallow/mallowlaw16.HeapRefused", spec := "heapRefused", inPlace := ["slices.overlaps[mallow/vmem.row]"], unfollowed := true, recurses := true, named := ["mallow/radix.shifts", "math/bits.deBruijn64tab"], apart := false, laid := [("math/bits.deBruijn64tab", laid_math_bits_deBruijn64tab), ("mallow/radix.shifts", laid_mallow_radix_shifts)], narrowed := true }
def HeapRefusedUptoSaid : Prop := heapRefusedUptoRow.holds Tryz.pinned (OpenSpec.upto heapRefusedSpec)

/-- 'mallowlaw16.HeapClasses', WHERE WHAT IT READS IS OF BULK AT MOST 1048576: true; the input reads as it did. -/
def heapClassesUptoRow : OpenClaim := { program := "ytdgdhnnakcncoaagreatdoor", sum := "d9fcf0fbd66b10bf9e4c875b99d25b0007cb1e1580b7e6788f4270729184f22f", func := "mallow/mallowlaw16.HeapClasses", spec := "heapClasses", inPlace := ["slices.overlaps[mallow/vmem.row]"], unfollowed := true, recurses := true, named := ["mallow/radix.shifts", "math/bits.deBruijn64tab"], apart := false, laid := [("math/bits.deBruijn64tab", laid_math_bits_deBruijn64tab), ("mallow/radix.shifts", laid_mallow_radix_shifts)], narrowed := true }
def HeapClassesUptoSaid : Prop := heapClassesUptoRow.holds Tryz.pinned (OpenSpec.upto heapClassesSpec)

end Rows
end Go.Proofs.YtdgdhnnakcncoaaGreatDoor
