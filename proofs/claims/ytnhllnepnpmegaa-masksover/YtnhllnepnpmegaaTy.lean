/- The tree of pieces: the walks of split, put. -/
import Derived.Test.YtnhllnepnpmegaaFp
namespace Go.Proofs.Ytnhllnepnpmegaa
open Go.ChangeShapes Go.WideShapes Go.ChangeAt Go.RowKit Go.Shelf Go.Proofs.Rx Go.Maps
set_option linter.unusedVariables false
set_option linter.unusedSimpArgs false

attribute [local go_sem] Oper.semAt_some

section
variable {W : World} {b : Nat} {ql qr : Option Addr} {A X Y : Int} {T : Nat} {u : Value} {R3 : Ending → World → Prop}
theorem split_0 : Calls Try.prog 39 #[.pointer none, .int .u64 A] W fun e W' => e = .returned (.tuple #[.pointer none, .pointer none]) ∧ W' = W := by
  go_enter Try.func39, Try.ntmps39
  go_wp2_with fail
  go_ret2
  exact ⟨rfl, rfl⟩
set_option maxRecDepth 100000 in
theorem split_1 (a0 : W.cell? ⟨b, 0, none⟩ = some (.int .u64 X)) (a6 : W.cell? ⟨b, 6, none⟩ = some (.pointer ql)) (d : decide (A ≤ X) = true)
    (C1 : Calls Try.prog 39 #[.pointer ql, .int .u64 A] W fun e W' => ∃ q1 q2 qd, e = .returned (.tuple #[.pointer q1, .pointer q2]) ∧ W'.cell? ⟨b, 7, none⟩ = some (.pointer qd) ∧ Calls Try.prog 40 #[.pointer q2, .pointer (some ⟨b, 0, none⟩), .pointer qd] W' fun e W'' => ∃ v, e = .returned v ∧ R3 (.returned (.tuple #[.pointer q1, v])) W'') :
    Calls Try.prog 39 #[.pointer (some ⟨b, 0, none⟩), .int .u64 A] W R3 := by
  have HC := hide C1
  clear C1
  go_enter Try.func39, Try.ntmps39
  go_wp2_with fail
  refine HC.out.mono ?_
  rintro e W2 ⟨q1, q2, qd, rfl, hd, C3⟩
  have HC3 := hide C3
  clear C3 HC
  go_wp2_with fail
  refine HC3.out.mono ?_
  rintro e W3 ⟨v3, rfl, r3⟩
  go_wp2_with fail
  first | exact r3 | (go_ret2; exact r3)
set_option maxRecDepth 100000 in
theorem split_2 (a0 : W.cell? ⟨b, 0, none⟩ = some (.int .u64 X)) (a1 : W.cell? ⟨b, 1, none⟩ = some (.int .u64 Y)) (a7 : W.cell? ⟨b, 7, none⟩ = some (.pointer qr)) (d : decide (A ≤ X) = false) (d1 : decide (Y ≤ A) = true)
    (C1 : Calls Try.prog 39 #[.pointer qr, .int .u64 A] W fun e W' => ∃ q1 q2 qd, e = .returned (.tuple #[.pointer q1, .pointer q2]) ∧ W'.cell? ⟨b, 6, none⟩ = some (.pointer qd) ∧ Calls Try.prog 40 #[.pointer qd, .pointer (some ⟨b, 0, none⟩), .pointer q1] W' fun e W'' => ∃ v, e = .returned v ∧ R3 (.returned (.tuple #[v, .pointer q2])) W'') :
    Calls Try.prog 39 #[.pointer (some ⟨b, 0, none⟩), .int .u64 A] W R3 := by
  have HC := hide C1
  clear C1
  go_enter Try.func39, Try.ntmps39
  go_wp2_with fail
  refine HC.out.mono ?_
  rintro e W2 ⟨q1, q2, qd, rfl, hd, C3⟩
  have HC3 := hide C3
  clear C3 HC
  go_wp2_with fail
  refine HC3.out.mono ?_
  rintro e W3 ⟨v3, rfl, r3⟩
  go_wp2_with fail
  first | exact r3 | (go_ret2; exact r3)
set_option maxRecDepth 100000 in
theorem split_3 (a0 : W.cell? ⟨b, 0, none⟩ = some (.int .u64 X)) (a1 : W.cell? ⟨b, 1, none⟩ = some (.int .u64 Y)) (a2 : W.cell? ⟨b, 2, none⟩ = some (.iface T u)) (d : decide (A ≤ X) = false) (d1 : decide (Y ≤ A) = false)
    (C1 : Calls Try.prog 41 #[.int .u64 X, .int .u64 A, .iface T u] W.drew fun e W1 => ∃ b1, e = .returned (.pointer (some ⟨b1, 0, none⟩)) ∧ W1.cell? ⟨b, 0, none⟩ = some (.int .u64 X) ∧ W1.cell? ⟨b, 1, none⟩ = some (.int .u64 Y) ∧ W1.cell? ⟨b, 2, none⟩ = some (.iface T u) ∧
      Calls Try.prog 41 #[.int .u64 A, .int .u64 Y, .iface T u] W1 fun e W2 => ∃ b2, e = .returned (.pointer (some ⟨b2, 0, none⟩)) ∧ W2.cell? ⟨b, 0, none⟩ = some (.int .u64 X) ∧ W2.cell? ⟨b, 1, none⟩ = some (.int .u64 Y) ∧ W2.cell? ⟨b, 2, none⟩ = some (.iface T u) ∧
      ∃ q1 q2, W2.cell? ⟨b, 6, none⟩ = some (.pointer q1) ∧ W2.cell? ⟨b, 7, none⟩ = some (.pointer q2) ∧
      Calls Try.prog 40 #[.pointer q1, .pointer (some ⟨b1, 0, none⟩), .pointer none] W2.drew fun e W3 => ∃ q3, e = .returned (.pointer q3) ∧ W3.cell? ⟨b, 6, none⟩ = some (.pointer q1) ∧ W3.cell? ⟨b, 7, none⟩ = some (.pointer q2) ∧
      Calls Try.prog 40 #[.pointer none, .pointer (some ⟨b2, 0, none⟩), .pointer q2] W3 fun e W4 => ∃ v, e = .returned v ∧ W4.cell? ⟨b, 6, none⟩ = some (.pointer q1) ∧ W4.cell? ⟨b, 7, none⟩ = some (.pointer q2) ∧ R3 (.returned (.tuple #[.pointer q3, v])) W4) :
    Calls Try.prog 39 #[.pointer (some ⟨b, 0, none⟩), .int .u64 A] W R3 := by
  have HC := hide C1
  clear C1
  go_enter Try.func39, Try.ntmps39
  go_wp2_with fail
  go_region_held3 (fun w' => w'.cell? ⟨b, 0, none⟩ = some (.int .u64 X) ∧ w'.cell? ⟨b, 1, none⟩ = some (.int .u64 Y) ∧ w'.cell? ⟨b, 2, none⟩ = some (.iface T u)) (first | (go_keep; done)) (first
    | (go_at_call 41; refine HC.out.mono ?_; rintro e W1 ⟨b1, rfl, e0, e1, e2, C2⟩; have HC2 := hide C2; clear C2 HC a0 a1 a2)
    | (go_at_call 41; refine HC2.out.mono ?_; rintro e W2 ⟨b2, rfl, g0, g1, g2, q1, q2, g6, g7, C3⟩; have HC3 := hide C3; clear C3 HC2 e0 e1 e2))
  clear g0 g1 g2
  go_wp2_with fail
  go_region_held3 (fun w' => w'.cell? ⟨b, 6, none⟩ = some (.pointer q1) ∧ w'.cell? ⟨b, 7, none⟩ = some (.pointer q2)) (first | (go_keep; done)) (first
    | (go_at_call 40; refine HC3.out.mono ?_; rintro e W3 ⟨q3, rfl, i6, i7, C4⟩; have HC4 := hide C4; clear C4 HC3 g6 g7)
    | (go_at_call 40; refine HC4.out.mono ?_; rintro e W4 ⟨v, rfl, j6, j7, r3⟩; have HR := hide r3; clear r3 HC4 i6 i7))
  go_wp2_with fail
  first | exact HR.out | (go_ret2; exact HR.out)
theorem put_core (C1 : Calls Try.prog 39 #[.pointer ql, .int .u64 X] W fun e W1 => ∃ q1 q2, e = .returned (.tuple #[.pointer q1, .pointer q2]) ∧
      Calls Try.prog 39 #[.pointer q2, .int .u64 Y] W1 fun e W2 => ∃ q3 q4, e = .returned (.tuple #[.pointer q3, .pointer q4]) ∧
      Calls Try.prog 41 #[.int .u64 X, .int .u64 Y, .iface T u] W2 fun e W3 => ∃ b1, e = .returned (.pointer (some ⟨b1, 0, none⟩)) ∧
      Calls Try.prog 40 #[.pointer q1, .pointer (some ⟨b1, 0, none⟩), .pointer q4] W3 fun e W4 => R3 e W4 ∧ ∃ v, e = .returned v) :
    Calls Try.prog 34 #[.pointer ql, .int .u64 X, .int .u64 Y, .iface T u] W R3 := by
  have HC := hide C1
  clear C1
  go_enter Try.func34, Try.ntmps34
  go_wp2_with fail
  refine HC.out.mono ?_
  rintro e W1 ⟨q1, q2, rfl, C2⟩
  have HC2 := hide C2
  clear C2 HC
  go_wp2_with fail
  refine HC2.out.mono ?_
  rintro e W2 ⟨q3, q4, rfl, C3⟩
  have HC3 := hide C3
  clear C3 HC2
  go_wp2_with fail
  refine HC3.out.mono ?_
  rintro e W3 ⟨b1, rfl, C4⟩
  have HC4 := hide C4
  clear C4 HC3
  go_wp2_with fail
  refine HC4.out.mono ?_
  rintro e W4 ⟨r4, v, rfl⟩
  go_wp2_with fail
  first | exact r4 | (go_ret; exact r4)
end
end Go.Proofs.Ytnhllnepnpmegaa
