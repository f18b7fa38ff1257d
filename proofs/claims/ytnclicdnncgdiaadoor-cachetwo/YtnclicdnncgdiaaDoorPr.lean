/- Rows of bits one behind the other: their summary, and where so many clear bits begin first. No Go in sight. -/
import Derived.Test.YtnclicdnncgdiaaDoorPk
import Derived.Test.YtnclicdnncgdiaaDoorBu
namespace Go.Proofs.Pk
open Go.Proofs.Bt

/-- What is told of the first L bits. -/
structure SumN (F : Nat → Bool) (L s m e : Nat) : Prop where
  sl : s ≤ L
  el : e ≤ L
  sc : Clr F 0 s
  ss : s < L → F s = true
  ec : Clr F (L - e) e
  es : e < L → F (L - 1 - e) = true
  mx : ∃ c, c + m ≤ L ∧ Clr F c m
  mn : ∀ c, c + (m + 1) ≤ L → ¬ Clr F c (m + 1)
theorem Clr.sub {F : Nat → Bool} {c m c' m' : Nat} (h : Clr F c m) (h1 : c ≤ c') (h2 : c' + m' ≤ c + m) : Clr F c' m' := fun k hk => by
  have := h (c' - c + k) (by omega)
  rwa [show c + (c' - c + k) = c' + k by omega] at this
theorem Clr.at {F : Nat → Bool} {c m : Nat} (h : Clr F c m) {k : Nat} (h1 : c ≤ k) (h2 : k < c + m) : F k = false := by
  have := h (k - c) (by omega)
  rwa [show c + (k - c) = k by omega] at this
theorem Clr.of {F : Nat → Bool} {c m : Nat} (h : ∀ k, c ≤ k → k < c + m → F k = false) : Clr F c m := fun k hk => h (c + k) (by omega) (by omega)
theorem SumN.le {F : Nat → Bool} {L s m e : Nat} (h : SumN F L s m e) {c k : Nat} (hc : c + k ≤ L) (hk : Clr F c k) : k ≤ m := by
  rcases Nat.lt_or_ge m k with l | l
  · exact absurd (Clr.sub hk (Nat.le_refl c) (by omega)) (h.mn c (by omega))
  · exact l
/-- What is clear up to the end is no longer than the end. -/
theorem SumN.end_le {F : Nat → Bool} {L s m e : Nat} (h : SumN F L s m e) {c : Nat} (hc : c ≤ L) (hk : ∀ k, c ≤ k → k < L → F k = false) : L - c ≤ e := by
  rcases Nat.lt_or_ge e (L - c) with l | l
  · have := h.es (by omega)
    rw [hk (L - 1 - e) (by omega) (by omega)] at this
    cases this
  · exact l
theorem SumN.all {F : Nat → Bool} {L s m e : Nat} (h : SumN F L s m e) : s = L ↔ e = L := by
  constructor
  · intro z
    have := h.end_le (c := 0) (by omega) (fun k _ hk => Clr.at h.sc (by omega) (by omega))
    have := h.el
    omega
  · intro z
    rcases Nat.lt_or_ge s L with l | l
    · have h1 := h.ss l
      rw [Clr.at h.ec (k := s) (by omega) (by omega)] at h1
      cases h1
    · have := h.sl; omega
theorem SumN.zero (F : Nat → Bool) : SumN F 0 0 0 0 := ⟨Nat.le_refl _, Nat.le_refl _, fun k hk => by omega, fun h => by omega, fun k hk => by omega, fun h => by omega, ⟨0, by omega, fun k hk => by omega⟩, fun c hc => by omega⟩
theorem SumN.one {F : Nat → Bool} {L s m e s' m' e' : Nat} (h : SumN F L s m e) (k : SumN F L s' m' e') : s = s' ∧ m = m' ∧ e = e' := by
  refine ⟨?_, ?_, ?_⟩
  · rcases Nat.lt_trichotomy s s' with l | l | l
    · have h1 := Clr.at k.sc (k := s) (by omega) (by omega); have h2 := h.ss (by have := k.sl; omega); rw [h1] at h2; cases h2
    · exact l
    · have h1 := Clr.at h.sc (k := s') (by omega) (by omega); have h2 := k.ss (by have := h.sl; omega); rw [h1] at h2; cases h2
  · obtain ⟨c, c1, c2⟩ := h.mx
    obtain ⟨d, d1, d2⟩ := k.mx
    have := k.le c1 c2
    have := h.le d1 d2
    omega
  · have h1 := k.end_le (c := L - e) (by omega) (fun i i1 i2 => Clr.at h.ec i1 (by have := h.el; omega))
    have h2 := h.end_le (c := L - e') (by omega) (fun i i1 i2 => Clr.at k.ec i1 (by have := k.el; omega))
    have := h.el
    have := k.el
    omega
end Go.Proofs.Pk
