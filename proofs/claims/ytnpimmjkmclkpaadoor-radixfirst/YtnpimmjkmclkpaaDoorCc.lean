/- The landed chunk: Scavenge: its contract. -/
import Derived.Test.YtnpimmjkmclkpaaDoorCb
namespace Go.Proofs.YtnpimmjkmclkpaaDoor
open Go.ChangeShapes Go.WideShapes Go.ChangeAt Go.RowKit Go.Proofs.Bt Go.Shelf
set_option linter.unusedVariables false
set_option linter.unusedSimpArgs false

theorem last_bounds {f : Nat → Bool} {n to i k : Int} (h : LastP f n to i k) : 0 ≤ i ∧ 0 ≤ k ∧ i + k ≤ 512 := by
  rcases h with ⟨rfl, rfl, h1⟩ | ⟨h1, a, m, rfl, rfl, h2, h3, h4, h5, h6, h7⟩
  · omega
  · omega
/-- The pages that are used or released. -/
def busy (u g : Nat → Bool) (j : Nat) : Bool := u j || g j
/-- What Scavenge answers and leaves. -/
def ScavR (w : World) (b : Nat) (u g : Nat → Bool) (most : Int) (e : Ending) (w' : World) : Prop :=
  ∃ i k, e = .returned (.tuple #[.int .i64 i, .int .i64 k]) ∧ LastP (busy u g) most 512 i k ∧ ChF w' b u (setF g i.toNat k.toNat) ∧ Kept (fun x => x = b) w w'
end Go.Proofs.YtnpimmjkmclkpaaDoor
