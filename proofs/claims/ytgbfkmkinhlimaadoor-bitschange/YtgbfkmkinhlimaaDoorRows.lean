/-
  NARROWER THAN 'FOR EVERY INPUT', by the rows' own cells (each row's printed sentence says how): BitsChange: laid · BitsFind: laid · BitsFirst: laid · BitsSums: laid · BitsTwice: laid · BitsLast: laid.
  DERIVED. THE GIVEN ROWS OF THIS SEAT. 6 by the template 'for every input the law returns true; each argument reads behind the call as it read before'; 0 by the template 'total and deterministic' (their statements: YtgbfkmkinhlimaaDoorTotals.lean).
  GIVEN WITH THE SEED: the statements are not yours to turn. If you find one false, say at which input.
  Laid BY PROGRAM, IN A SANDBOX (cutbox-rows.mjs): the forced cells as the released guide's own fill.sh prints them over the translation 7b7cddb191cb7534… (all of the seat's roots in one cut). By AI agents, Wed Nov 11 2026. No macro, syntax, notation, axiom, sorry.
-/
import Derived.Test.YtgbfkmkinhlimaaDoorChecked
import GoSem.Claim
import GoSem.ClaimJoined
import GoSem.ClaimMapViews
import Derived.JoinedTies
import Derived.KernelRfl
namespace Go.Proofs.YtgbfkmkinhlimaaDoor
/- THE CELL 'sum', in the pinned program and in every row, IS THE sha256 OF THE DUMP (.gsa) THAT YtgbfkmkinhlimaaDoorProg.lean LOADS. Nothing in Lean hashes anything: it is a label: what it is worth is what the hold of that sum in a sandbox is worth. -/
noncomputable def Tryd.pinned : Pinned := { name := "ytgbfkmkinhlimaadoor", sum := "7b7cddb191cb75343f2e3e581720a0c01ddacde195584a381dd860c47a3c82a2", checked := Tryd.checked }
namespace Rows
def none {H : Type} : Left H := { results := [], args := [] }

/- WHAT THE LISTED PACKAGE-LEVEL VARIABLES READ AS WHEN THE CALL BEGINS. Each datum BY PROGRAM (the guide's laid-datum.mjs) off the statement by which the dump's own 'gosem.cut.vars' lays the variable. In a bare row this is a premise. The card (YtgbfkmkinhlimaaDoorCards.lean) ties it to the program's text. -/
def laid_math_bits_deBruijn64tab {H : Type} : DataW H := .agg [.lit (.int .u8 0), .lit (.int .u8 1), .lit (.int .u8 56), .lit (.int .u8 2), .lit (.int .u8 57), .lit (.int .u8 49), .lit (.int .u8 28), .lit (.int .u8 3), .lit (.int .u8 61), .lit (.int .u8 58), .lit (.int .u8 42), .lit (.int .u8 50), .lit (.int .u8 38), .lit (.int .u8 29), .lit (.int .u8 17), .lit (.int .u8 4), .lit (.int .u8 62), .lit (.int .u8 47), .lit (.int .u8 59), .lit (.int .u8 36), .lit (.int .u8 45), .lit (.int .u8 43), .lit (.int .u8 51), .lit (.int .u8 22), .lit (.int .u8 53), .lit (.int .u8 39), .lit (.int .u8 33), .lit (.int .u8 30), .lit (.int .u8 24), .lit (.int .u8 18), .lit (.int .u8 12), .lit (.int .u8 5), .lit (.int .u8 63), .lit (.int .u8 55), .lit (.int .u8 48), .lit (.int .u8 27), .lit (.int .u8 60), .lit (.int .u8 41), .lit (.int .u8 37), .lit (.int .u8 16), .lit (.int .u8 46), .lit (.int .u8 35), .lit (.int .u8 44), .lit (.int .u8 21), .lit (.int .u8 52), .lit (.int .u8 32), .lit (.int .u8 23), .lit (.int .u8 11), .lit (.int .u8 54), .lit (.int .u8 26), .lit (.int .u8 40), .lit (.int .u8 15), .lit (.int .u8 34), .lit (.int .u8 20), .lit (.int .u8 31), .lit (.int .u8 10), .lit (.int .u8 25), .lit (.int .u8 14), .lit (.int .u8 19), .lit (.int .u8 9), .lit (.int .u8 13), .lit (.int .u8 8), .lit (.int .u8 7), .lit (.int .u8 6)]

/-- 'mallowlaw6.BitsChange': WHATEVER THE INPUT: true; the input reads as it did. -/
def bitsChangeSpec : ChangeSpec := { name := "bitsChange", fn := fun _ => fun
  | [d1, d2] => { results := [.lit (.bool true)], args := [d1, d2] }
  | _ => none }
def bitsChangeRow : OpenClaim := { program := "ytgbfkmkinhlimaadoor", sum := "7b7cddb191cb75343f2e3e581720a0c01ddacde195584a381dd860c47a3c82a2", func := "mallow/mallowlaw6.BitsChange", spec := "bitsChange", unfollowed := true, recurses := true, named := ["math/bits.deBruijn64tab"], apart := false, laid := [("math/bits.deBruijn64tab", laid_math_bits_deBruijn64tab)] }
def BitsChangeSaid : Prop := bitsChangeRow.holds Tryd.pinned (OpenSpec.ofChange bitsChangeSpec)

/-- ITS FALSE NEIGHBOUR: 'it returns false'. Refute it at one input. -/
def bitsChangeWrong : ChangeSpec := { name := "bitsChange", fn := fun _ => fun
  | [d1, d2] => { results := [.lit (.bool false)], args := [d1, d2] }
  | _ => none }
def BitsChangeWrongFalsely : Prop := bitsChangeRow.holds Tryd.pinned (OpenSpec.ofChange bitsChangeWrong)

/-- 'mallowlaw6.BitsFind': WHATEVER THE INPUT: true; the input reads as it did. -/
def bitsFindSpec : ChangeSpec := { name := "bitsFind", fn := fun _ => fun
  | [d1, d2, d3, d4, d5] => { results := [.lit (.bool true)], args := [d1, d2, d3, d4, d5] }
  | _ => none }
def bitsFindRow : OpenClaim := { program := "ytgbfkmkinhlimaadoor", sum := "7b7cddb191cb75343f2e3e581720a0c01ddacde195584a381dd860c47a3c82a2", func := "mallow/mallowlaw6.BitsFind", spec := "bitsFind", unfollowed := true, recurses := true, named := ["math/bits.deBruijn64tab"], apart := false, laid := [("math/bits.deBruijn64tab", laid_math_bits_deBruijn64tab)] }
def BitsFindSaid : Prop := bitsFindRow.holds Tryd.pinned (OpenSpec.ofChange bitsFindSpec)

/-- ITS FALSE NEIGHBOUR: 'it returns false'. Refute it at one input. -/
def bitsFindWrong : ChangeSpec := { name := "bitsFind", fn := fun _ => fun
  | [d1, d2, d3, d4, d5] => { results := [.lit (.bool false)], args := [d1, d2, d3, d4, d5] }
  | _ => none }
def BitsFindWrongFalsely : Prop := bitsFindRow.holds Tryd.pinned (OpenSpec.ofChange bitsFindWrong)

/-- 'mallowlaw6.BitsFirst': WHATEVER THE INPUT: true; the input reads as it did. -/
def bitsFirstSpec : ChangeSpec := { name := "bitsFirst", fn := fun _ => fun
  | [d1, d2, d3] => { results := [.lit (.bool true)], args := [d1, d2, d3] }
  | _ => none }
def bitsFirstRow : OpenClaim := { program := "ytgbfkmkinhlimaadoor", sum := "7b7cddb191cb75343f2e3e581720a0c01ddacde195584a381dd860c47a3c82a2", func := "mallow/mallowlaw6.BitsFirst", spec := "bitsFirst", unfollowed := true, recurses := true, named := ["math/bits.deBruijn64tab"], apart := false, laid := [("math/bits.deBruijn64tab", laid_math_bits_deBruijn64tab)] }
def BitsFirstSaid : Prop := bitsFirstRow.holds Tryd.pinned (OpenSpec.ofChange bitsFirstSpec)

/-- ITS FALSE NEIGHBOUR: 'it returns false'. Refute it at one input. -/
def bitsFirstWrong : ChangeSpec := { name := "bitsFirst", fn := fun _ => fun
  | [d1, d2, d3] => { results := [.lit (.bool false)], args := [d1, d2, d3] }
  | _ => none }
def BitsFirstWrongFalsely : Prop := bitsFirstRow.holds Tryd.pinned (OpenSpec.ofChange bitsFirstWrong)

/-- 'mallowlaw6.BitsSums': WHATEVER THE INPUT: true; the input reads as it did. -/
def bitsSumsSpec : ChangeSpec := { name := "bitsSums", fn := fun _ => fun
  | [d] => { results := [.lit (.bool true)], args := [d] }
  | _ => none }
def bitsSumsRow : OpenClaim := { program := "ytgbfkmkinhlimaadoor", sum := "7b7cddb191cb75343f2e3e581720a0c01ddacde195584a381dd860c47a3c82a2", func := "mallow/mallowlaw6.BitsSums", spec := "bitsSums", unfollowed := true, recurses := true, named := ["math/bits.deBruijn64tab"], apart := false, laid := [("math/bits.deBruijn64tab", laid_math_bits_deBruijn64tab)] }
def BitsSumsSaid : Prop := bitsSumsRow.holds Tryd.pinned (OpenSpec.ofChange bitsSumsSpec)

/-- ITS FALSE NEIGHBOUR: 'it returns false'. Refute it at one input. -/
def bitsSumsWrong : ChangeSpec := { name := "bitsSums", fn := fun _ => fun
  | [d] => { results := [.lit (.bool false)], args := [d] }
  | _ => none }
def BitsSumsWrongFalsely : Prop := bitsSumsRow.holds Tryd.pinned (OpenSpec.ofChange bitsSumsWrong)

/-- 'mallowlaw6.BitsTwice': WHATEVER THE INPUT: true; the input reads as it did. -/
def bitsTwiceSpec : ChangeSpec := { name := "bitsTwice", fn := fun _ => fun
  | [d1, d2, d3] => { results := [.lit (.bool true)], args := [d1, d2, d3] }
  | _ => none }
def bitsTwiceRow : OpenClaim := { program := "ytgbfkmkinhlimaadoor", sum := "7b7cddb191cb75343f2e3e581720a0c01ddacde195584a381dd860c47a3c82a2", func := "mallow/mallowlaw6.BitsTwice", spec := "bitsTwice", unfollowed := true, recurses := true, named := ["math/bits.deBruijn64tab"], apart := false, laid := [("math/bits.deBruijn64tab", laid_math_bits_deBruijn64tab)] }
def BitsTwiceSaid : Prop := bitsTwiceRow.holds Tryd.pinned (OpenSpec.ofChange bitsTwiceSpec)

/-- ITS FALSE NEIGHBOUR: 'it returns false'. Refute it at one input. -/
def bitsTwiceWrong : ChangeSpec := { name := "bitsTwice", fn := fun _ => fun
  | [d1, d2, d3] => { results := [.lit (.bool false)], args := [d1, d2, d3] }
  | _ => none }
def BitsTwiceWrongFalsely : Prop := bitsTwiceRow.holds Tryd.pinned (OpenSpec.ofChange bitsTwiceWrong)

/-- 'mallowlaw6.BitsLast': WHATEVER THE INPUT: true; the input reads as it did. -/
def bitsLastSpec : ChangeSpec := { name := "bitsLast", fn := fun _ => fun
  | [d1, d2, d3] => { results := [.lit (.bool true)], args := [d1, d2, d3] }
  | _ => none }
def bitsLastRow : OpenClaim := { program := "ytgbfkmkinhlimaadoor", sum := "7b7cddb191cb75343f2e3e581720a0c01ddacde195584a381dd860c47a3c82a2", func := "mallow/mallowlaw6.BitsLast", spec := "bitsLast", unfollowed := true, recurses := true, named := ["math/bits.deBruijn64tab"], apart := false, laid := [("math/bits.deBruijn64tab", laid_math_bits_deBruijn64tab)] }
def BitsLastSaid : Prop := bitsLastRow.holds Tryd.pinned (OpenSpec.ofChange bitsLastSpec)

/-- ITS FALSE NEIGHBOUR: 'it returns false'. Refute it at one input. -/
def bitsLastWrong : ChangeSpec := { name := "bitsLast", fn := fun _ => fun
  | [d1, d2, d3] => { results := [.lit (.bool false)], args := [d1, d2, d3] }
  | _ => none }
def BitsLastWrongFalsely : Prop := bitsLastRow.holds Tryd.pinned (OpenSpec.ofChange bitsLastWrong)

/- THE SECOND FORM. 'bulk': how many values and letters a reading holds, each counted each time it is reached (what is shared counts as often as it is met; a slice's spare places count too). A statement '..UptoSaid' is the law's where the arguments, and the package variables that the reading takes, are together of bulk at most 1048576: NARROWER than '..Said'. Prove '..Said' where nothing that the law and all that it calls make is longer than what came in: it says more and counts as full. Else prove '..UptoSaid'. A law counts once. -/
mutual
def uptoBulk {H : Type} : DataW H → Nat
  | .lit (.string bytes) => bytes.length + 1
  | .lit _ => 1
  | .nil => 1
  | .ptr d => uptoBulk d + 1
  | .slice elems spare => uptoBulkAll elems + uptoBulkAll spare + 1
  | .agg parts => uptoBulkAll parts + 1
  | .iface _ d => uptoBulk d + 1
  | .map entries => uptoBulkEntries entries + 1
  | .held _ => 1
def uptoBulkAll {H : Type} : List (DataW H) → Nat
  | [] => 0
  | d :: r => uptoBulk d + uptoBulkAll r
def uptoBulkEntries {H : Type} : List (Lit × DataW H) → Nat
  | [] => 0
  | x :: r => uptoBulkEntry x + uptoBulkEntries r
def uptoBulkEntry {H : Type} : Lit × DataW H → Nat
  | (.string bytes, d) => bytes.length + uptoBulk d + 1
  | (_, d) => uptoBulk d + 1
 end
def uptoSmall : (H : Type) → List (DataW H) → Bool := fun _ ds => decide (uptoBulkAll ds ≤ 1048576)
def OpenSpec.upto (s : _root_.Go.ChangeSpec) : _root_.Go.OpenSpec := { _root_.Go.OpenSpec.ofChange s with cond := some uptoSmall }

/-- 'mallowlaw6.BitsChange', WHERE WHAT IT READS IS OF BULK AT MOST 1048576: true; the input reads as it did. -/
def bitsChangeUptoRow : OpenClaim := { program := "ytgbfkmkinhlimaadoor", sum := "7b7cddb191cb75343f2e3e581720a0c01ddacde195584a381dd860c47a3c82a2", func := "mallow/mallowlaw6.BitsChange", spec := "bitsChange", unfollowed := true, recurses := true, named := ["math/bits.deBruijn64tab"], apart := false, laid := [("math/bits.deBruijn64tab", laid_math_bits_deBruijn64tab)], narrowed := true }
def BitsChangeUptoSaid : Prop := bitsChangeUptoRow.holds Tryd.pinned (OpenSpec.upto bitsChangeSpec)

/-- 'mallowlaw6.BitsFind', WHERE WHAT IT READS IS OF BULK AT MOST 1048576: true; the input reads as it did. -/
def bitsFindUptoRow : OpenClaim := { program := "ytgbfkmkinhlimaadoor", sum := "7b7cddb191cb75343f2e3e581720a0c01ddacde195584a381dd860c47a3c82a2", func := "mallow/mallowlaw6.BitsFind", spec := "bitsFind", unfollowed := true, recurses := true, named := ["math/bits.deBruijn64tab"], apart := false, laid := [("math/bits.deBruijn64tab", laid_math_bits_deBruijn64tab)], narrowed := true }
def BitsFindUptoSaid : Prop := bitsFindUptoRow.holds Tryd.pinned (OpenSpec.upto bitsFindSpec)

/-- 'mallowlaw6.BitsFirst', WHERE WHAT IT READS IS OF BULK AT MOST 1048576: true; the input reads as it did. -/
def bitsFirstUptoRow : OpenClaim := { program := "ytgbfkmkinhlimaadoor", sum := "7b7cddb191cb75343f2e3e581720a0c01ddacde195584a381dd860c47a3c82a2", func := "mallow/mallowlaw6.BitsFirst", spec := "bitsFirst", unfollowed := true, recurses := true, named := ["math/bits.deBruijn64tab"], apart := false, laid := [("math/bits.deBruijn64tab", laid_math_bits_deBruijn64tab)], narrowed := true }
def BitsFirstUptoSaid : Prop := bitsFirstUptoRow.holds Tryd.pinned (OpenSpec.upto bitsFirstSpec)

/-- 'mallowlaw6.BitsSums', WHERE WHAT IT READS IS OF BULK AT MOST 1048576: true; the input reads as it did. -/
def bitsSumsUptoRow : OpenClaim := { program := "ytgbfkmkinhlimaadoor", sum := "7b7cddb191cb75343f2e3e581720a0c01ddacde195584a381dd860c47a3c82a2", func := "mallow/mallowlaw6.BitsSums", spec := "bitsSums", unfollowed := true, recurses := true, named := ["math/bits.deBruijn64tab"], apart := false, laid := [("math/bits.deBruijn64tab", laid_math_bits_deBruijn64tab)], narrowed := true }
def BitsSumsUptoSaid : Prop := bitsSumsUptoRow.holds Tryd.pinned (OpenSpec.upto bitsSumsSpec)

/-- 'mallowlaw6.BitsTwice', WHERE WHAT IT READS IS OF BULK AT MOST 1048576: true; the input reads as it did. -/
def bitsTwiceUptoRow : OpenClaim := { program := "ytgbfkmkinhlimaadoor", sum := "7b7cddb191cb75343f2e3e581720a0c01ddacde195584a381dd860c47a3c82a2", func := "mallow/mallowlaw6.BitsTwice", spec := "bitsTwice", unfollowed := true, recurses := true, named := ["math/bits.deBruijn64tab"], apart := false, laid := [("math/bits.deBruijn64tab", laid_math_bits_deBruijn64tab)], narrowed := true }
def BitsTwiceUptoSaid : Prop := bitsTwiceUptoRow.holds Tryd.pinned (OpenSpec.upto bitsTwiceSpec)

/-- 'mallowlaw6.BitsLast', WHERE WHAT IT READS IS OF BULK AT MOST 1048576: true; the input reads as it did. -/
def bitsLastUptoRow : OpenClaim := { program := "ytgbfkmkinhlimaadoor", sum := "7b7cddb191cb75343f2e3e581720a0c01ddacde195584a381dd860c47a3c82a2", func := "mallow/mallowlaw6.BitsLast", spec := "bitsLast", unfollowed := true, recurses := true, named := ["math/bits.deBruijn64tab"], apart := false, laid := [("math/bits.deBruijn64tab", laid_math_bits_deBruijn64tab)], narrowed := true }
def BitsLastUptoSaid : Prop := bitsLastUptoRow.holds Tryd.pinned (OpenSpec.upto bitsLastSpec)

end Rows
end Go.Proofs.YtgbfkmkinhlimaaDoor
