/- The tree of pieces: the walks of join, link, pop. -/
import Derived.Test.YtnhllnepnpmegaaTv
namespace Go.Proofs.Ytnhllnepnpmegaa
open Go.ChangeShapes Go.WideShapes Go.ChangeAt Go.RowKit Go.Shelf Go.Proofs.Rx Go.Maps
set_option linter.unusedVariables false
set_option linter.unusedSimpArgs false

attribute [local go_sem] Oper.semAt_some

section
variable {W : World} {b c : Nat} {ql qr qd qz v1 v2 : Option Addr} {HL HR OW : Int} {P2 : World → Prop} {R3 : Ending → World → Prop}
theorem join_0 (a3 : W.cell? ⟨b, 3, none⟩ = some (.int .u64 0))
    (C : Calls Try.prog 42 #[.pointer ql, .pointer qr] W fun e W' => R3 e W' ∧ ∃ v, e = .returned v) :
    Calls Try.prog 40 #[.pointer ql, .pointer (some ⟨b, 0, none⟩), .pointer qr] W R3 := by
  have HC := hide C
  clear C
  go_enter Try.func40, Try.ntmps40
  go_wp2_with fail
  refine HC.out.mono ?_
  rintro e W3 ⟨r3, v3, rfl⟩
  go_wp2_with fail
  first | exact r3 | (go_ret; exact r3)
set_option maxRecDepth 100000 in
theorem join_1 (a3 : W.cell? ⟨b, 3, none⟩ = some (.int .u64 OW)) (o1 : (OW == 0) = false) (c7 : W.cell? ⟨c, 7, none⟩ = some (.pointer qd))
    (t1 : Calls Try.prog 43 #[.pointer (some ⟨c, 0, none⟩)] W fun e w => e = .returned (.int .i64 HL) ∧ w = W) (t2 : Calls Try.prog 43 #[.pointer qr] W fun e w => e = .returned (.int .i64 HR) ∧ w = W)
    (l0 : 0 ≤ HL) (l1 : HL < 2199023255552) (r0 : 0 ≤ HR) (r1 : HR < 2199023255552) (d1 : decide (HR + 1 < HL) = true)
    (C1 : Calls Try.prog 40 #[.pointer qd, .pointer (some ⟨b, 0, none⟩), .pointer qr] W fun e W' => ∃ qz, e = .returned (.pointer qz) ∧ (∃ v, W'.cell? ⟨c, 7, none⟩ = some v) ∧ W'.frozen? ⟨c, 7, none⟩ = false ∧ Calls Try.prog 44 #[.pointer (some ⟨c, 0, none⟩)] (W'.setCell ⟨c, 7, none⟩ (.pointer qz)) fun e W'' => R3 e W'' ∧ ∃ v, e = .returned v) :
    Calls Try.prog 40 #[.pointer (some ⟨c, 0, none⟩), .pointer (some ⟨b, 0, none⟩), .pointer qr] W R3 := by
  have HC := hide C1
  have T1 := hide t1
  have T2 := hide t2
  clear C1 t1 t2
  go_enter Try.func40, Try.ntmps40
  go_wp2_with fail
  refine T1.out.mono ?_
  rintro e w ⟨rfl, hw⟩; rw [hw]; clear hw w
  go_wp2_with fail
  refine T2.out.mono ?_
  rintro e w ⟨rfl, hw⟩; rw [hw]; clear hw w
  go_wp2_with fail
  refine HC.out.mono ?_
  rintro e W2 ⟨qz, rfl, ⟨v, hv⟩, hf, C3⟩
  have HC3 := hide C3
  clear C3 HC T1 T2
  go_wp2_with fail
  refine HC3.out.mono ?_
  rintro e W3 ⟨r3, v3, rfl⟩
  go_wp2_with fail
  first | exact r3 | (go_ret; exact r3)
set_option maxRecDepth 100000 in
theorem join_2 (a3 : W.cell? ⟨b, 3, none⟩ = some (.int .u64 OW)) (o1 : (OW == 0) = false) (c6 : W.cell? ⟨c, 6, none⟩ = some (.pointer qd))
    (t1 : Calls Try.prog 43 #[.pointer ql] W fun e w => e = .returned (.int .i64 HL) ∧ w = W) (t2 : Calls Try.prog 43 #[.pointer (some ⟨c, 0, none⟩)] W fun e w => e = .returned (.int .i64 HR) ∧ w = W)
    (l0 : 0 ≤ HL) (l1 : HL < 2199023255552) (r0 : 0 ≤ HR) (r1 : HR < 2199023255552) (d1 : decide (HR + 1 < HL) = false) (d2 : decide (HL + 1 < HR) = true)
    (C1 : Calls Try.prog 40 #[.pointer ql, .pointer (some ⟨b, 0, none⟩), .pointer qd] W fun e W' => ∃ qz, e = .returned (.pointer qz) ∧ (∃ v, W'.cell? ⟨c, 6, none⟩ = some v) ∧ W'.frozen? ⟨c, 6, none⟩ = false ∧ Calls Try.prog 44 #[.pointer (some ⟨c, 0, none⟩)] (W'.setCell ⟨c, 6, none⟩ (.pointer qz)) fun e W'' => R3 e W'' ∧ ∃ v, e = .returned v) :
    Calls Try.prog 40 #[.pointer ql, .pointer (some ⟨b, 0, none⟩), .pointer (some ⟨c, 0, none⟩)] W R3 := by
  have HC := hide C1
  have T1 := hide t1
  have T2 := hide t2
  clear C1 t1 t2
  go_enter Try.func40, Try.ntmps40
  go_wp2_with fail
  refine T1.out.mono ?_
  rintro e w ⟨rfl, hw⟩; rw [hw]; clear hw w
  go_wp2_with fail
  refine T2.out.mono ?_
  rintro e w ⟨rfl, hw⟩; rw [hw]; clear hw w
  go_wp2_with fail
  refine T2.out.mono ?_
  rintro e w ⟨rfl, hw⟩; rw [hw]; clear hw w
  go_wp2_with fail
  refine T1.out.mono ?_
  rintro e w ⟨rfl, hw⟩; rw [hw]; clear hw w
  go_wp2_with fail
  refine HC.out.mono ?_
  rintro e W2 ⟨qz, rfl, ⟨v, hv⟩, hf, C3⟩
  have HC3 := hide C3
  clear C3 HC T1 T2
  go_wp2_with fail
  refine HC3.out.mono ?_
  rintro e W3 ⟨r3, v3, rfl⟩
  go_wp2_with fail
  first | exact r3 | (go_ret; exact r3)
set_option maxRecDepth 100000 in
theorem join_3 {z6 z7 : Value} (a3 : W.cell? ⟨b, 3, none⟩ = some (.int .u64 OW)) (o1 : (OW == 0) = false) (a6 : W.cell? ⟨b, 6, none⟩ = some z6) (f6 : W.frozen? ⟨b, 6, none⟩ = false) (a7 : (W.setCell ⟨b, 6, none⟩ (.pointer ql)).cell? ⟨b, 7, none⟩ = some z7) (f7 : (W.setCell ⟨b, 6, none⟩ (.pointer ql)).frozen? ⟨b, 7, none⟩ = false)
    (t1 : Calls Try.prog 43 #[.pointer ql] W fun e w => e = .returned (.int .i64 HL) ∧ w = W) (t2 : Calls Try.prog 43 #[.pointer qr] W fun e w => e = .returned (.int .i64 HR) ∧ w = W)
    (l0 : 0 ≤ HL) (l1 : HL < 2199023255552) (r0 : 0 ≤ HR) (r1 : HR < 2199023255552) (d1 : decide (HR + 1 < HL) = false) (d2 : decide (HL + 1 < HR) = false)
    (C1 : Calls Try.prog 44 #[.pointer (some ⟨b, 0, none⟩)] ((W.setCell ⟨b, 6, none⟩ (.pointer ql)).setCell ⟨b, 7, none⟩ (.pointer qr)) fun e W'' => R3 e W'' ∧ ∃ v, e = .returned v) :
    Calls Try.prog 40 #[.pointer ql, .pointer (some ⟨b, 0, none⟩), .pointer qr] W R3 := by
  have HC := hide C1
  have T1 := hide t1
  have T2 := hide t2
  clear C1 t1 t2
  go_enter Try.func40, Try.ntmps40
  go_wp2_with fail
  refine T1.out.mono ?_
  rintro e w ⟨rfl, hw⟩; rw [hw]; clear hw w
  go_wp2_with fail
  refine T2.out.mono ?_
  rintro e w ⟨rfl, hw⟩; rw [hw]; clear hw w
  go_wp2_with fail
  refine T2.out.mono ?_
  rintro e w ⟨rfl, hw⟩; rw [hw]; clear hw w
  go_wp2_with fail
  refine T1.out.mono ?_
  rintro e w ⟨rfl, hw⟩; rw [hw]; clear hw w
  go_wp2_with fail
  refine HC.out.mono ?_
  rintro e W3 ⟨r3, v3, rfl⟩
  go_wp2_with fail
  first | exact r3 | (go_ret; exact r3)
theorem link_0 : Calls Try.prog 42 #[.pointer ql, .pointer none] W fun e W' => e = .returned (.pointer ql) ∧ W' = W := by
  go_enter Try.func42, Try.ntmps42
  go_wp2_with fail
  go_ret
  exact ⟨rfl, rfl⟩
theorem link_1 (C1 : Calls Try.prog 45 #[.pointer (some ⟨c, 0, none⟩)] W fun e W' => ∃ q1 q2, e = .returned (.tuple #[.pointer q1, .pointer q2]) ∧ Calls Try.prog 40 #[.pointer ql, .pointer q1, .pointer q2] W' fun e W'' => R3 e W'' ∧ ∃ v, e = .returned v) :
    Calls Try.prog 42 #[.pointer ql, .pointer (some ⟨c, 0, none⟩)] W R3 := by
  have HC := hide C1
  clear C1
  go_enter Try.func42, Try.ntmps42
  go_wp2_with fail
  refine HC.out.mono ?_
  rintro e W2 ⟨q1, q2, rfl, C3⟩
  have HC3 := hide C3
  clear C3 HC
  go_wp2_with fail
  refine HC3.out.mono ?_
  rintro e W3 ⟨r3, v3, rfl⟩
  go_wp2_with fail
  first | exact r3 | (go_ret; exact r3)
theorem pop_0 (a6 : W.cell? ⟨b, 6, none⟩ = some (.pointer none)) (a7 : W.cell? ⟨b, 7, none⟩ = some (.pointer qr)) :
    Calls Try.prog 45 #[.pointer (some ⟨b, 0, none⟩)] W fun e W' => e = .returned (.tuple #[.pointer (some ⟨b, 0, none⟩), .pointer qr]) ∧ W' = W.drew := by
  go_enter Try.func45, Try.ntmps45
  go_wp2_with fail
  refine still_all (by kernel_rfl) (by kernel_rfl) ?_
  repeat still_step
  refine wpStill_nil ?_
  go_wp2_with fail
  go_ret2
  exact ⟨rfl, rfl⟩
theorem pop_1 (a6 : W.cell? ⟨b, 6, none⟩ = some (.pointer (some ⟨c, 0, none⟩)))
    (C1 : Calls Try.prog 45 #[.pointer (some ⟨c, 0, none⟩)] W fun e W' => ∃ q1 q2, e = .returned (.tuple #[.pointer q1, .pointer q2]) ∧ ∃ qd, W'.cell? ⟨b, 7, none⟩ = some (.pointer qd) ∧ Calls Try.prog 40 #[.pointer q2, .pointer (some ⟨b, 0, none⟩), .pointer qd] W' fun e W'' => ∃ v, e = .returned v ∧ R3 (.returned (.tuple #[.pointer q1, v])) W'') :
    Calls Try.prog 45 #[.pointer (some ⟨b, 0, none⟩)] W R3 := by
  have HC := hide C1
  clear C1
  go_enter Try.func45, Try.ntmps45
  go_wp2_with fail
  refine HC.out.mono ?_
  rintro e W2 ⟨q1, q2, rfl, qd, hd, C3⟩
  have HC3 := hide C3
  clear C3 HC
  go_wp2_with fail
  refine HC3.out.mono ?_
  rintro e W3 ⟨v3, rfl, r3⟩
  go_wp2_with fail
  first | exact r3 | (go_ret2; exact r3)
end
end Go.Proofs.Ytnhllnepnpmegaa
