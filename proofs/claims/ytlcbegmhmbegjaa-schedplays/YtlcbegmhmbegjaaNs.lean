/- The reference: a machine that has just been made. -/
import Derived.Test.YtlcbegmhmbegjaaRx
import Derived.Test.YtlcbegmhmbegjaaHv
import Derived.Test.YtlcbegmhmbegjaaNc
namespace Go.Proofs.Ytlcbegmhmbegjaa
open Go.ChangeShapes Go.WideShapes Go.ChangeAt Go.RowKit Go.Proofs.Sc Go.Maps
set_option linter.unusedVariables false
set_option linter.unusedSimpArgs false

/-- No task has gone a step. -/
def initR (L : List (List Stp)) : Rs := ⟨L, List.replicate L.length 0, [], [], [], false⟩
theorem aheadR_init (L : List (List Stp)) : aheadR (initR L) = L := by
  unfold aheadR initR
  simp only
  induction L with
  | nil => rfl
  | cons t L ih => simp only [List.length_cons, List.replicate_succ, List.zipWith_cons_cons, List.drop_zero]; rw [ih]
theorem absR_init (L : List (List Stp)) : absR (initR L) = initS L := by
  unfold absR
  rw [aheadR_init]
  rfl
theorem OkR.init {L : List (List Stp)} (h : Wf (initS L)) : OkR (initR L) := by
  refine ⟨⟨by simp [initR], fun i n t h1 h2 => ?_, (fun p hp => by simp [initR] at hp), by rw [absR_init]; exact h⟩, (fun p hp => by simp [initR] at hp), (fun p hp => by simp [initR] at hp), ?_⟩
  · have : n = 0 := by
      simp only [initR] at h1
      rw [List.getElem?_replicate] at h1
      split at h1
      · exact (Option.some.inj h1).symm
      · cases h1
    omega
  · rw [aheadR_init]
    have h1 : lens L + ([] : List Int).length ≤ 10000 := h.steps
    simpa [initR] using h1
theorem RL.start (w : World) : RL (w.alloc (.cells #[.slice none 0 0, .slice none 0 0, .slice none 0 0, .slice none 0 0, .slice none 0 0, .bool false] 50)) w.heap.size (initR []) (.slice none 0 0) (.slice none 0 0) (.slice none 0 0) (.slice none 0 0) (.slice none 0 0) [] (fun _ => False) (fun _ => 6) := by
  refine ⟨by rw [World.cell?_alloc_new]; rfl, by rw [World.cell?_alloc_new]; rfl, by rw [World.cell?_alloc_new]; rfl, by rw [World.cell?_alloc_new]; rfl, by rw [World.cell?_alloc_new]; rfl, by rw [World.cell?_alloc_new]; rfl, fun k => ?_, World.ownsRow_nil _ _ _ _, (fun i t hi => by simp [initR] at hi), World.ownsRow_nil _ _ _ _, World.ownsRow_nil _ _ _ _, World.ownsRow_nil _ _ _ _, World.ownsRow_nil _ _ _ _, (fun x hx => False.elim hx), rfl, (fun x e => by cases e), (fun x e => by cases e), (fun x e => by cases e), (fun x e => by cases e), (fun x e => by cases e), (fun x hx => False.elim hx)⟩
  unfold World.frozen?
  simp only
  rw [heap_alloc_new]
  simp
end Go.Proofs.Ytlcbegmhmbegjaa
