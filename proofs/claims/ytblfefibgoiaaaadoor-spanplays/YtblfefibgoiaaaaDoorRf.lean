/- The reference's Make. -/
import Derived.Test.YtblfefibgoiaaaaDoorAw
import Derived.StillTailTactics
import Derived.Deep.Cut
namespace Go.Proofs.YtblfefibgoiaaaaDoor
open Go.ChangeShapes Go.WideShapes Go.ChangeAt Go.RowKit Go.Proofs.Cl Go.Shelf
set_option linter.unusedVariables false
set_option linter.unusedSimpArgs false

/-- A class of the reference's first loop. -/
def rc (r : Raw) : Cls := ⟨r.size, r.k, 0, 0⟩
theorem bad_cases {page most : Int} (h : okB page most = false) :
    page < 1024 ∨ (1024 ≤ page ∧ 65536 < page) ∨ (1024 ≤ page ∧ page ≤ 65536 ∧ Cl.pow page.toNat = false) ∨ (1024 ≤ page ∧ page ≤ 65536 ∧ Cl.pow page.toNat = true ∧ most < 64) ∨
    (1024 ≤ page ∧ page ≤ 65536 ∧ Cl.pow page.toNat = true ∧ 64 ≤ most ∧ 4 * page < most) ∨ (1024 ≤ page ∧ page ≤ 65536 ∧ Cl.pow page.toNat = true ∧ 64 ≤ most ∧ most ≤ 4 * page ∧ Cl.pow most.toNat = false) := by
  by_cases a : page < 1024
  · exact .inl a
  · by_cases b : 65536 < page
    · exact .inr (.inl ⟨by omega, b⟩)
    · cases c : Cl.pow page.toNat with
      | false => exact .inr (.inr (.inl ⟨by omega, by omega, rfl⟩))
      | true =>
        by_cases d : most < 64
        · exact .inr (.inr (.inr (.inl ⟨by omega, by omega, rfl, d⟩)))
        · by_cases e : 4 * page < most
          · exact .inr (.inr (.inr (.inr (.inl ⟨by omega, by omega, rfl, by omega, e⟩))))
          · refine .inr (.inr (.inr (.inr (.inr ⟨by omega, by omega, rfl, by omega, by omega, ?_⟩))))
            simp [okB, powerB, c] at h
            exact h (by omega) (by omega) (by omega) (by omega)
set_option maxRecDepth 100000 in
set_option maxHeartbeats 2000000 in
theorem refMake_err (page most : Int) (hp : page ≤ 9223372036854775807) (hm : most ≤ 9223372036854775807) (h : okB page most = false) (w : World) :
    Calls Tryd.prog 31 #[.int .i64 page, .int .i64 most] w fun e w' => e = .returned (.tuple #[.slice none 0 0, .int .i64 1]) ∧ w' = w := by
  rcases bad_cases h with a | ⟨a, b⟩ | ⟨a, b, c⟩ | ⟨a, b, c, d⟩ | ⟨a, b, c, d, f⟩ | ⟨a, b, c, d, f, g⟩
  · clear h
    go_enter Tryd.func31, Tryd.ntmps31
    go_wp2_with fail
    go_ret2
    exact ⟨rfl, rfl⟩
  · clear h
    go_enter Tryd.func31, Tryd.ntmps31
    go_wp2_with fail
    go_ret2
    exact ⟨rfl, rfl⟩
  · obtain ⟨p, rfl⟩ : ∃ p : Nat, page = (p : Int) := ⟨page.toNat, by omega⟩
    rw [Int.toNat_natCast] at c
    have C := fun w => powRef_nat p (by omega) w
    rw [c] at C
    have CC := hide C
    clear h c C
    go_enter Tryd.func31, Tryd.ntmps31
    go_wp2_with fail
    refine (CC.out _).mono ?_
    rintro e w' ⟨rfl, rfl⟩
    clear CC
    go_wp2_with fail
    go_ret2
    exact ⟨rfl, rfl⟩
  · obtain ⟨p, rfl⟩ : ∃ p : Nat, page = (p : Int) := ⟨page.toNat, by omega⟩
    rw [Int.toNat_natCast] at c
    have C := fun w => powRef_nat p (by omega) w
    rw [c] at C
    have CC := hide C
    clear h c C
    go_enter Tryd.func31, Tryd.ntmps31
    go_wp2_with fail
    refine (CC.out _).mono ?_
    rintro e w' ⟨rfl, rfl⟩
    clear CC
    go_wp2_with fail
    go_ret2
    exact ⟨rfl, rfl⟩
  · obtain ⟨p, rfl⟩ : ∃ p : Nat, page = (p : Int) := ⟨page.toNat, by omega⟩
    rw [Int.toNat_natCast] at c
    have C := fun w => powRef_nat p (by omega) w
    rw [c] at C
    have CC := hide C
    clear h c C
    go_enter Tryd.func31, Tryd.ntmps31
    go_wp2_with fail
    refine (CC.out _).mono ?_
    rintro e w' ⟨rfl, rfl⟩
    clear CC
    go_wp2_with fail
    go_ret2
    exact ⟨rfl, rfl⟩
  · obtain ⟨p, rfl⟩ : ∃ p : Nat, page = (p : Int) := ⟨page.toNat, by omega⟩
    obtain ⟨m, rfl⟩ : ∃ m : Nat, most = (m : Int) := ⟨most.toNat, by omega⟩
    rw [Int.toNat_natCast] at c g
    have C := fun w => powRef_nat p (by omega) w
    have D := fun w => powRef_nat m (by omega) w
    rw [c] at C
    rw [g] at D
    have CC := hide C
    have DD := hide D
    clear h c C g D
    go_enter Tryd.func31, Tryd.ntmps31
    go_wp2_with fail
    refine (CC.out _).mono ?_
    rintro e w' ⟨rfl, rfl⟩
    clear CC
    go_wp2_with fail
    refine (DD.out _).mono ?_
    rintro e w' ⟨rfl, rfl⟩
    clear DD
    go_wp2_with fail
    go_ret2
    exact ⟨rfl, rfl⟩
end Go.Proofs.YtblfefibgoiaaaaDoor
