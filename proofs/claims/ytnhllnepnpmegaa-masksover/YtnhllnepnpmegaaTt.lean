/- The law's truths: contract. -/
import Derived.Test.YtnhllnepnpmegaaGt
namespace Go.Proofs.Ytnhllnepnpmegaa
open Go.ChangeShapes Go.WideShapes Go.ChangeAt Go.RowKit Go.Shelf Go.Proofs.Rx Go.Maps Go.Proofs.Bt
set_option linter.unusedVariables false
set_option linter.unusedSimpArgs false

attribute [local go_sem] Oper.semAt_some

/-- Two lists of the same truths. -/
theorem truths_same {W : World} {o1 o2 : Option Addr} {len c1 c2 : Nat} {X Y : Nat → Bool} (h1 : BoolsAt W o1 len c1 X) (h2 : BoolsAt W o2 len c2 Y) (hl : len ≤ 1000000000) (e : ∀ k, k < len → X k = Y k) :
    Calls Try.prog 15 #[.slice o1 len c1, .slice o2 len c2] W fun e W' => e = .returned (.bool true) ∧ ∃ j, W' = W.drewN j := by
  obtain ⟨R, hR⟩ : ∃ R : Ending → World → Prop, R = fun e W' => e = .returned (.bool true) ∧ ∃ j, W' = W.drewN j := ⟨_, rfl⟩
  rw [← hR]
  have FIN := hide (show ∀ W', (∃ j, W' = W.drewN j) → R (.returned (.bool true)) W' from fun W' h => by rw [hR]; exact ⟨rfl, h⟩)
  clear hR
  have A1 := hide h1
  have A2 := hide h2
  have EE := hide e
  obtain ⟨LN, hLN⟩ : ∃ L : Int, (len : Int) = L := ⟨_, rfl⟩
  have l0 : 0 ≤ LN := by omega
  have l1 : LN ≤ 1000000000 := by omega
  have nn : (LN != LN) = false := by simp
  clear h1 h2 e hl
  go_enter Try.func15, Try.ntmps15
  go_wp2_with fail
  go_loopw [5] (fun vi wr => ∃ i : Nat, vi = .int .i64 (i : Nat) ∧ i ≤ len ∧ Hid (∃ j, wr = W.drewN j)) (fun vi _ => len - (zi vi).toNat)
  case atStart => exact ⟨0, rfl, Nat.zero_le _, hide ⟨0, rfl⟩⟩
  case round =>
    obtain ⟨i, rfl, hi, HJ⟩ := hrel
    by_cases c : i < len
    · have d : decide ((i : Int) < LN) = true := decide_eq_true (by omega)
      obtain ⟨b1, f1, rfl, hb1, z1⟩ := A1.out.at c
      obtain ⟨b2, f2, rfl, hb2, z2⟩ := A2.out.at c
      obtain ⟨j, hj⟩ := HJ.out
      have y1 : wr.cell? ⟨b1, f1 + i, none⟩ = some (.bool (X i)) := by rw [hj]; exact ((drewN_below W j).cell (p := ⟨b1, f1 + i, none⟩) hb1).trans (z1 i c)
      have y2 : wr.cell? ⟨b2, f2 + i, none⟩ = some (.bool (X i)) := by rw [hj, EE.out i c]; exact ((drewN_below W j).cell (p := ⟨b2, f2 + i, none⟩) hb2).trans (z2 i c)
      have HJ2 := hide hj
      generalize X i = x at *
      have i0 : (0 : Int) ≤ (i : Int) := by omega
      have i1 : (i : Int) < 1000000000 := by omega
      have xx : (x != x) = false := by simp
      clear hj z1 z2 HJ hb1 hb2
      go_wp2_with fail
      go_quiet (fail)
      go_wp2_with fail
      exact ⟨⟨i + 1, by rw [Int.natCast_add]; rfl, by omega, hide ⟨j + nq, by rw [HJ2.out, World.drewN_drewN]⟩⟩, by simp [zi]; omega⟩
    · have d : decide ((i : Int) < LN) = false := decide_eq_false (by omega)
      have FF := hide (FIN.out _ HJ.out)
      clear c HJ
      go_wp2_with fail
      first | exact FF.out | (go_ret; exact FF.out)
end Go.Proofs.Ytnhllnepnpmegaa
