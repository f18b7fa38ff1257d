/- The reference: a machine has a task more. -/
import Derived.Test.YtlcbegmhmbegjaaNs
import Derived.Test.YtlcbegmhmbegjaaRw
namespace Go.Proofs.Ytlcbegmhmbegjaa
open Go.ChangeShapes Go.WideShapes Go.ChangeAt Go.RowKit Go.Proofs.Sc Go.Maps
set_option linter.unusedVariables false
set_option linter.unusedSimpArgs false

variable {w w' : World} {b : Nat} {r : Rs} {v0 v1 v2 v3 v4 : Value} {vs : List Value} {T T' : Nat → Prop} {K : Nat → Nat}
open Classical in
/-- Field 0. -/
theorem RL.put0 (h : RL w b r v0 v1 v2 v3 v4 vs T K) {W : World} {v u : Value} {t : List Stp} (hs : w.heap.size ≤ W.heap.size) (hvs : vs.length = r.tasks.length)
    (hk : ∀ x, x < w.heap.size → v0.ownBlock ≠ some x → x ≠ b → W.heap[x]? = w.heap[x]?) (hc : ∀ j, j ≠ 0 → W.cell? ⟨b, j, none⟩ = w.cell? ⟨b, j, none⟩) (hck : W.cell? ⟨b, 0, none⟩ = some v) (hfz : ∀ j, W.frozen? ⟨b, j, none⟩ = false)
    (ho : W.ownsRow 0 34 1 v (r.tasks.length + 1) (vs ++ [u])) (hu : StepsAt W u t T') (hT : ∀ x, T' x → w.heap.size ≤ x ∧ x < W.heap.size ∧ v.ownBlock ≠ some x) (hb : ∀ g, v.ownBlock = some g → v0.ownBlock = some g ∨ w.heap.size ≤ g) :
    RL W b { r with tasks := r.tasks ++ [t] } v v1 v2 v3 v4 (vs ++ [u]) (fun x => T x ∨ T' x) (fun x => if v.ownBlock = some x then 0 else if T' x then 5 else K x) := by
  have hbl : b < w.heap.size := h.lt (Or.inl rfl)
  have kf : ∀ x, x < w.heap.size → K x ≠ 0 → (if v.ownBlock = some x then 0 else if T' x then 5 else K x) = K x := fun x hx hn => by
    rw [if_neg (fun e => by
      rcases hb x e with z | z
      · exact hn (h.k0 x z)
      · omega), if_neg (fun e => by have := (hT x e).1; omega)]
  have kk : ∀ {j x}, K x = j → j ≠ 0 → x < w.heap.size → j ≠ 6 → W.heap[x]? = w.heap[x]? := fun {j x} e hj hx h6 => hk x hx (fun z => hj (e.symm.trans (h.k0 x z))) (fun z => by subst z; exact h6 (e.symm.trans h.kb))
  have l1 : ∀ x, v1.ownBlock = some x → x < w.heap.size := fun x e => h.lt (by unfold RFoot; simp [e])
  have l2 : ∀ x, v2.ownBlock = some x → x < w.heap.size := fun x e => h.lt (by unfold RFoot; simp [e])
  have l3 : ∀ x, v3.ownBlock = some x → x < w.heap.size := fun x e => h.lt (by unfold RFoot; simp [e])
  have l4 : ∀ x, v4.ownBlock = some x → x < w.heap.size := fun x e => h.lt (by unfold RFoot; simp [e])
  refine ⟨hck, (hc 1 (by decide)).trans h.c1, (hc 2 (by decide)).trans h.c2, (hc 3 (by decide)).trans h.c3, (hc 4 (by decide)).trans h.c4, (hc 5 (by decide)).trans h.c5, hfz, by simpa using ho, fun i t' hi => ?_, owns_kept h.ats (fun x e => kk (h.k1 x e) (by decide) (l1 x e) (by decide)), owns_kept h.locks (fun x e => kk (h.k2 x e) (by decide) (l2 x e) (by decide)), owns_kept h.cells (fun x e => kk (h.k3 x e) (by decide) (l3 x e) (by decide)), owns_kept h.said (fun x e => kk (h.k4 x e) (by decide) (l4 x e) (by decide)), fun x hx => ?_, (kf b hbl (by rw [h.kb]; decide)).trans h.kb, fun x e => if_pos e, fun x e => (kf x (l1 x e) (by rw [h.k1 x e]; decide)).trans (h.k1 x e), fun x e => (kf x (l2 x e) (by rw [h.k2 x e]; decide)).trans (h.k2 x e), fun x e => (kf x (l3 x e) (by rw [h.k3 x e]; decide)).trans (h.k3 x e), fun x e => (kf x (l4 x e) (by rw [h.k4 x e]; decide)).trans (h.k4 x e), fun x hx => ?_⟩
  · by_cases c : i < r.tasks.length
    · simp only [List.getElem?_append_left c] at hi
      obtain ⟨u', e1, e2⟩ := h.els i t' hi
      refine ⟨u', by rw [List.getElem?_append_left (by omega)]; exact e1, ?_⟩
      have := e2.kept (w' := W) hs (fun x hx _ => kk (h.kt x hx) (by decide) (h.tlt x hx) (by decide))
      exact this.mono (fun x hx => Or.inl hx)
    · simp only [List.getElem?_append_right (Nat.le_of_not_lt c)] at hi
      have hz : i - r.tasks.length = 0 := by
        have := (List.getElem?_eq_some_iff.1 hi).1
        simp at this; omega
      rw [hz] at hi
      obtain rfl : t = t' := by simpa using hi
      refine ⟨u, by rw [List.getElem?_append_right (by omega), show i - vs.length = 0 by omega]; rfl, hu.mono (fun x hx => Or.inr hx)⟩
  · rcases hx with z | z
    · have := h.tlt x z; omega
    · exact (hT x z).2.1
  · rcases hx with z | z
    · exact (kf x (h.tlt x z) (by rw [h.kt x z]; decide)).trans (h.kt x z)
    · rw [if_neg (hT x z).2.2, if_pos z]
end Go.Proofs.Ytlcbegmhmbegjaa
