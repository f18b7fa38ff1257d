/- The first place for pages, by rows. No program is spoken of. -/
import Derived.Test.YtpceigglilgelaaPg
import Derived.Test.YtpceigglilgelaaSp
namespace Go.Proofs.Sp
set_option linter.unusedVariables false
set_option linter.unusedSimpArgs false

/-- May so many pages be laid out in row i, from a page on? -/
def fitsR (R : List (Nat × Nat)) (a pages i : Nat) : Prop := (R[i]?.map (·.2)) = some 0 ∧ max a (startR R 34359738368 i) + pages ≤ startR R 34359738368 (i + 1)
def fromR (hint : Nat) : Nat := max ((hint + 511) / 512 * 512) 512
theorem rows_of_free {S : Sp} {R : List (Nat × Nat)} {hint pages i0 q : Nat} (h : Seg S.st 0 R 34359738368) (hA : Alt R) (hi0 : i0 < R.length) (h1 : R[i0].1 ≤ fromR hint) (hp : 0 < pages) (hf : free S pages q) (hq : hint ≤ q) :
    ∃ i, i0 ≤ i ∧ i < R.length ∧ fitsR R (fromR hint) pages i ∧ max (fromR hint) (startR R 34359738368 i) ≤ q := by
  obtain ⟨f1, f2, f3, f4⟩ := hf
  have hF : fromR hint ≤ q := by unfold fromR; omega
  obtain ⟨i, hi, q1, q2⟩ := h.at q (by omega) (by omega)
  have r := h.row i hi
  have z : R[i].2 = 0 := by rw [← r.2.2.2 q q1 q2]; exact f4 0 hp
  have hlt : q + pages ≤ startR R 34359738368 (i + 1) := by
    by_cases c : q + pages ≤ startR R 34359738368 (i + 1)
    · exact c
    · exfalso
      have hi1 : i + 1 < R.length := by
        by_cases d : i + 1 < R.length
        · exact d
        · rw [startR_ge (by omega)] at c; omega
      have r1 := h.row (i + 1) hi1
      have n := hA.get i hi1
      rw [startR_lt hi1] at c q2
      have e := f4 (R[i + 1].1 - q) (by omega)
      rw [show q + (R[i + 1].1 - q) = R[i + 1].1 by omega, r1.2.2.2 _ (Nat.le_refl _) r1.2.1] at e
      rw [z, e] at n
      exact n rfl
  refine ⟨i, ?_, hi, ⟨by rw [List.getElem?_eq_getElem hi]; simp [z], by rw [startR_lt hi]; omega⟩, by rw [startR_lt hi]; omega⟩
  by_cases c : i0 ≤ i
  · exact c
  · exfalso
    have := h.rise (i := i) (j := i0) (by omega) hi
    by_cases d : i0 = i + 1
    · subst d; rw [startR_lt hi0] at q2; omega
    · have hi1 : i + 1 < R.length := by omega
      have := h.rise (i := i + 1) (j := i0) (by omega) hi1
      rw [startR_lt hi1] at q2
      rw [startR_lt hi0] at this
      omega
theorem free_found {S : Sp} {R : List (Nat × Nat)} {hint pages i0 i : Nat} (h : Seg S.st 0 R 34359738368) (hA : Alt R) (hc : ∀ p, S.st p = 0 ↔ S.st (p / 512 * 512) = 0) (hi0 : i0 < R.length) (h1 : R[i0].1 ≤ fromR hint) (h2 : fromR hint < startR R 34359738368 (i0 + 1)) (hp : 0 < pages)
    (hii : i0 ≤ i) (hi : i < R.length) (hfit : fitsR R (fromR hint) pages i) (hno : ∀ k, i0 ≤ k → k < i → ¬ fitsR R (fromR hint) pages k) : firstFrom S hint pages = some (max (fromR hint) (startR R 34359738368 i)) := by
  obtain ⟨z, hl⟩ := hfit
  rw [List.getElem?_eq_getElem hi] at z
  have z' : R[i].2 = 0 := by simpa using z
  have r := h.row i hi
  have b := none_begins h hA hc hi z'
  rw [startR_lt hi] at hl ⊢
  have hin : fromR hint < startR R 34359738368 (i + 1) := by omega
  refine first_at hp ⟨?_, ?_, ?_, ?_⟩ ?_ ?_
  · have : fromR hint % 512 = 0 := by unfold fromR; omega
    omega
  · unfold fromR; omega
  · omega
  · intro k hk
    rw [r.2.2.2 _ (by omega) (by omega)]; exact z'
  · unfold fromR; omega
  · intro k k1 k2 hf
    obtain ⟨i', a1, a2, a3, a4⟩ := rows_of_free h hA hi0 h1 hp hf k1
    by_cases c : i' < i
    · exact hno i' a1 c a3
    · by_cases d : i' = i
      · subst d; rw [startR_lt hi] at a4; omega
      · have := h.rise (i := i) (j := i') (by omega) hi
        rw [startR_lt a2] at a4 this
        omega
theorem free_none {S : Sp} {R : List (Nat × Nat)} {hint pages i0 : Nat} (h : Seg S.st 0 R 34359738368) (hA : Alt R) (hi0 : i0 < R.length) (h1 : R[i0].1 ≤ fromR hint) (hp : 0 < pages) (hno : ∀ k, i0 ≤ k → k < R.length → ¬ fitsR R (fromR hint) pages k) : firstFrom S hint pages = none := by
  cases e : firstFrom S hint pages with
  | none => rfl
  | some q =>
    obtain ⟨a, b, _⟩ := first_some e
    obtain ⟨i', a1, a2, a3, _⟩ := rows_of_free h hA hi0 h1 hp a b
    exact absurd a3 (hno i' a1 a2)
theorem free_high {S : Sp} {hint pages : Nat} (hp : 0 < pages) (h : 34359738368 < hint + pages) : firstFrom S hint pages = none := by
  cases e : firstFrom S hint pages with
  | none => rfl
  | some q =>
    obtain ⟨a, b, _⟩ := first_some e
    have := a.2.2.1
    omega
end Go.Proofs.Sp
