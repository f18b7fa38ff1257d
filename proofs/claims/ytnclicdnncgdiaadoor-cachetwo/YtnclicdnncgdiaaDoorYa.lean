/- Package radix: Sum: its contract. -/
import Derived.Test.YtnclicdnncgdiaaDoorXz
namespace Go.Proofs.YtnclicdnncgdiaaDoor
open Go.ChangeShapes Go.WideShapes Go.ChangeAt Go.RowKit Go.Proofs.Bt Go.Shelf Go.Proofs.Rx Go.Maps Go.Proofs.Pk
set_option linter.unusedVariables false
set_option linter.unusedSimpArgs false

theorem TreeE.tab {B : Nat} {O : Nat → Prop} {w : World} {tb : Nat} {st : Nat → Nat} (h : TreeE B O w tb st) : TabW w := by
  obtain ⟨T, L, C, rfl, rfl, h1, h2⟩ := h
  exact h1.rad.tab
theorem ret_ct {fn : Func} {p u : Tmp} (hf : fn.results = #[.cell p 82, .tmp u]) {W : World} {Q : Nat} {x y z e : Int} {tmps : Array Value} (hp : tmps.getD p undef = .pointer (some ⟨Q, 0, none⟩)) (hu : tmps.getD u undef = .int .i64 e) (h : Bk W Q 82 #[.int .i64 x, .int .i64 y, .int .i64 z]) :
    (results fn tmps).run Tryd.prog W = .ok (.tuple #[sumV x y z, .int .i64 e]) W := by
  have hp' : tmps[p]?.getD undef = .pointer (some ⟨Q, 0, none⟩) := by simpa using hp
  have hu' : tmps[u]?.getD undef = .int .i64 e := by simpa using hu
  have := sum3 h
  simp [results, hf, hp', hu', asAddr, this]
/-- What Sum answers. -/
def SumT (st : Nat → Nat) (lv : Int) (i : Nat) (w : World) (e : Ending) (w' : World) : Prop :=
  ((¬ (0 ≤ lv ∧ lv ≤ 3) ∨ ¬ (i + 1) * sz (3 + lv.toNat) ≤ 34359738368 → e = .returned (.tuple #[sumV 0 0 0, .int .i64 1])) ∧
  (0 ≤ lv ∧ lv ≤ 3 → (i + 1) * sz (3 + lv.toNat) ≤ 34359738368 → ∃ s m e' : Nat, e = .returned (.tuple #[sumV (s : Nat) (m : Nat) (e' : Nat), .int .i64 0]) ∧ SumN (bsy st (i * sz (3 + lv.toNat))) (sz (3 + lv.toNat)) s m e')) ∧ Below w.heap.size w w'
end Go.Proofs.YtnclicdnncgdiaaDoor
