/- Last: its contract. -/
import Derived.Test.YtnpimmjkmclkpaaDoorFi
namespace Go.Proofs.YtnpimmjkmclkpaaDoor
open Go.ChangeShapes Go.WideShapes Go.ChangeAt Go.RowKit Go.Proofs.Bt Go.Shelf
set_option linter.unusedVariables false
set_option linter.unusedSimpArgs false

attribute [local go_sem] Oper.semAt_some

/-- What is known of the two behind some rows. -/
def LastI (n : Int) (pre : List (Nat × Nat)) (at_ long : Int) : Prop :=
  (pre = [] ∧ at_ = 0 ∧ long = 0) ∨ ∃ p x, pre = p ++ [x] ∧ long = min ((x.2 : Int) - x.1) n ∧ at_ = (x.2 : Int) - min ((x.2 : Int) - x.1) n
/-- Between two rounds of Last. -/
structure LI (N : Nat) (w : World) (b ro : Nat) (f : Nat → Bool) (n : Int) (e : Nat) (pre : List (Nat × Nat)) (W : World) : Prop where
  bn : Boxed W N 3 (.int .i64 n)
  ba : ∃ at_ long, Boxed W (N + 1) 3 (.int .i64 at_) ∧ Boxed W (N + 2) 3 (.int .i64 long) ∧ LastI n pre at_ long
  rd : Rd b ro (N + 3) (N + 4) (N + 5) f 0 e W
  be : Below N w W
theorem LI.kept {F : Nat → Prop} {N : Nat} {w : World} {b ro : Nat} {f : Nat → Bool} {n : Int} {e : Nat} {pre : List (Nat × Nat)} {W W' : World} (h : LI N w b ro f n e pre W) (k : Kept F W W') (hN : 0 < N) (hb : b < N) (hF : ∀ x, F x → N + 6 ≤ x) : LI N w b ro f n e pre W' := by
  obtain ⟨at_, long, h1, h2, h3⟩ := h.ba
  exact ⟨boxed_kept h.bn k (fun x => by have := hF _ x; omega), ⟨at_, long, boxed_kept h1 k (fun x => by have := hF _ x; omega), boxed_kept h2 k (fun x => by have := hF _ x; omega), h3⟩,
    h.rd.kept k ⟨fun x => by have := hF _ x; omega, fun x => by have := hF _ x; omega⟩ (fun x => by have := hF _ x; omega) (fun x => by have := hF _ x; omega) (fun x => by have := hF _ x; omega) (fun x => by have := hF _ x; omega),
    below_kept h.be k (fun x f => by have := hF _ f; omega) (by have := box_lt h.bn; omega)⟩
def LastR (w : World) (f : Nat → Bool) (n to : Int) (e : Ending) (w' : World) : Prop := ∃ i k, e = .returned (.tuple #[.int .i64 i, .int .i64 k]) ∧ LastP f n to i k ∧ Below w.heap.size w w'

end Go.Proofs.YtnpimmjkmclkpaaDoor
