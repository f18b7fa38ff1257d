/- Counts of all pages, behind a change; runs of free pages: no Go in sight. -/
import Derived.Test.YtnpimmjkmclkpaaDoorXu
import Derived.Test.YtnpimmjkmclkpaaDoorYb
namespace Go.Proofs.YtnpimmjkmclkpaaDoor
open Go.Proofs.Bt Go.Proofs.Rx Go.Proofs.Pk
set_option linter.unusedVariables false
set_option linter.unusedSimpArgs false

/-- How many are free, how many released. -/
def frT (st : Nat → Nat) : Nat := (tl st 0 34359738368).f
def rlT (st : Nat → Nat) : Nat := (tl st 0 34359738368).r
theorem tot_set {st : Nat → Nat} {a n s : Nat} (h : a + n ≤ 34359738368) :
    frT (setSt st a (a + n) s) + (tl st a n).f = frT st + (if 2 ≤ s then n else 0) ∧ rlT (setSt st a (a + n) s) + (tl st a n).r = rlT st + (if s = 3 then n else 0) := by
  obtain ⟨h1, h2, h3, h4⟩ := tl_swap (st := st) (st' := setSt st a (a + n) s) (A := 0) (n := 34359738368) (K := a) (z := n) (by omega) (by omega) (fun q _ _ hq => (setSt_out hq).symm)
  have e : tl (setSt st a (a + n) s) a n = tlOf s n := All.tl fun q q1 q2 => setSt_in ⟨q1, q2⟩
  rw [e] at h1
  unfold frT rlT
  rw [h1]
  unfold Tl.add Tl.sub tlOf
  dsimp only
  omega
theorem tot_zero : frT (fun _ => 0) = 0 ∧ rlT (fun _ => 0) = 0 := by
  have e : tl (fun _ => 0) 0 34359738368 = tlOf 0 34359738368 := All.tl fun q _ _ => rfl
  unfold frT rlT
  rw [e]
  exact ⟨rfl, rfl⟩
theorem tl_all {st : Nat → Nat} {a n s : Nat} (h : ∀ q, a ≤ q → q < a + n → st q = s) : tl st a n = tlOf s n := All.tl h
/-- The first of all: only one. -/
theorem First_one {st : Nat → Nat} {n p p' : Nat} (h : First st n p) (h' : First st n p') : p = p' := by
  rcases Nat.lt_trichotomy p p' with y | y | y
  · exact absurd h.1 (h'.2 p y)
  · exact y
  · exact absurd h'.1 (h.2 p' y)
end Go.Proofs.YtnpimmjkmclkpaaDoor
