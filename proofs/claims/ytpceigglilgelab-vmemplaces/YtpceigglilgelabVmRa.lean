/- Where words of a row of bytes can't be touched. -/
import Derived.Test.YtpceigglilgelabVmR
import Derived.Test.YtpceigglilgelabVmC
namespace Go.Proofs.Ytpceigglilgelab
open Go.ChangeShapes Go.WideShapes Go.ChangeAt Go.RowKit Go.Proofs.Sp

theorem cover_ready {f : Nat → Nat} {a e : Nat} {Ps : List (Nat × Nat × Nat)} (h : Cover f a Ps e) : (!(Ps.any fun x => ((x.2.2 : Int) != 2))) = true ↔ ∀ p, a ≤ p → p < e → f p = 2 := by
  rw [← h.all (fun s => s = 2)]
  simp [bne_iff_ne]
  constructor
  · intro k a b c d; have := k a b c d; omega
  · intro k a b c d; have := k a b c d; omega
theorem all_rows {S : Sp} {a c : Nat} (hc : 0 < c) : allReady S a c ↔ ∀ p, a / 8192 ≤ p → p < (a + c - 1) / 8192 + 1 → S.st p = 2 := by
  unfold allReady
  constructor
  · intro h p h1 h2
    have := h (p - a / 8192) (by omega)
    rwa [show a / 8192 + (p - a / 8192) = p by omega] at this
  · intro h i hi
    exact h _ (by omega) (by omega)
end Go.Proofs.Ytpceigglilgelab
