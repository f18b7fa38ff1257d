/- A list of tasks that a law makes. -/
import Derived.Test.YtlcbegmhmbegjaaEn
namespace Go.Proofs.Ytlcbegmhmbegjaa
open Go.ChangeShapes Go.WideShapes Go.ChangeAt Go.RowKit Go.Proofs.Sc Go.Maps
set_option linter.unusedVariables false
set_option linter.unusedSimpArgs false

/-- Tasks in memory that is newer than w0. -/
structure Ot (w0 w : World) (v : Value) (L : List (List Stp)) : Prop where
  row : ∃ vs, w.ownsRow w0.heap.size 34 1 v L.length vs ∧ ∀ (i : Nat) (t : List Stp), L[i]? = some t → ∃ u, vs[i]? = some u ∧ StepsAt w u t (fun x => w0.heap.size ≤ x ∧ v.ownBlock ≠ some x)
  below : Below w0.heap.size w0 w
theorem Ot.start (w : World) : Ot w w (.slice none 0 0) [] := ⟨⟨[], World.ownsRow_nil w w.heap.size 34 1, fun i t hi => by simp at hi⟩, Below.refl _ _⟩
theorem Ot.more {w0 w w' : World} {v : Value} {L : List (List Stp)} (h : Ot w0 w v L) (hb : Below w.heap.size w w') : Ot w0 w' v L := by
  obtain ⟨⟨vs, h1, h2⟩, h3⟩ := h
  refine ⟨⟨vs, owns_kept h1 (fun x hx => hb.block x (h1.lt x hx).2), fun i t hi => ?_⟩, h3.trans (hb.mono h3.size)⟩
  obtain ⟨u, e1, e2⟩ := h2 i t hi
  exact ⟨u, e1, e2.kept hb.size (fun x _ hx => hb.block x hx)⟩
theorem Ot.tasks {w0 w : World} {v : Value} {L : List (List Stp)} (h : Ot w0 w v L) : TasksAt w v L := by
  obtain ⟨⟨vs, h1, h2⟩, h3⟩ := h
  have H := h1
  obtain ⟨hl, ⟨e, z⟩ | ⟨g, cap, cur, e, _, hh, hc, hm, _⟩⟩ := h1
  · obtain rfl := List.eq_nil_of_length_eq_zero z
    exact ⟨none, 0, e, Nat.le_refl _, by omega, fun _ => rfl, fun y => absurd rfl y⟩
  · rw [e] at H
    refine ⟨_, cap, e, hc, by unfold maxLen at hm; omega, fun y => by (cases y), fun _ => ⟨g, 0, rfl, (Array.getElem?_eq_some_iff.1 hh).1, fun i t hi => ?_⟩⟩
    obtain ⟨u, e1, e2⟩ := h2 i t hi
    refine ⟨u, ?_, e2.mono (fun _ _ => trivial)⟩
    rw [Nat.zero_add, H.cellAt i (by have := (List.getElem?_eq_some_iff.1 hi).1; omega)]
    exact e1
theorem Ot.shape {w0 w : World} {v : Value} {L : List (List Stp)} (h : Ot w0 w v L) : ∃ o cap, v = .slice o L.length cap ∧ L.length ≤ cap ∧ cap ≤ 9223372036854775807 := h.tasks.shape
/-- tasks = append(tasks, t). -/
theorem Ot.push {w0 w : World} {v : Value} {L : List (List Stp)} (h : Ot w0 w v L) (hL : L.length ≤ 1000000) {t : List Stp} {o : Option Addr} {n c : Nat} (ht : StepsAt w (.slice o n c) t (fun x => w0.heap.size ≤ x ∧ v.ownBlock ≠ some x)) (ty : TypeId) :
    ∃ g cap w', (Builtin.append_ #[22, 22] ty #[v, .slice (some ⟨w.heap.size, 0, none⟩) 1 1]).run Try.prog (w.alloc (.cells #[.slice o n c] 34)) = .ok (.slice (some ⟨g, 0, none⟩) (L.length + 1) cap) w' ∧ Ot w0 w' (.slice (some ⟨g, 0, none⟩) (L.length + 1) cap) (L ++ [t]) := by
  obtain ⟨i0, hi0, hz0, hz1, hz2⟩ := info_parts infoT
  obtain ⟨⟨vs, h1, h2⟩, h3⟩ := h
  obtain ⟨W, hW⟩ : ∃ W, W = w.alloc (.cells #[.slice o n c] 34) := ⟨_, rfl⟩
  have hs : W.heap.size = w.heap.size + 1 := by rw [hW]; simp
  have own : W.ownsRow w0.heap.size 34 1 v L.length vs := by rw [hW]; exact h1.alloc _
  have hb0 := h3.size
  obtain ⟨g, cap, w', r1, o1, g1, hat, hlt⟩ := run_append_lies (P := Try.prog) W 22 ty w0.heap.size 34 i0 _ 1 24 Try.underlying22 hi0 hz0 hz1 hz2 rfl (by decide) v L.length vs own ⟨w.heap.size, 0, none⟩ 1 1 [.slice o n c] rfl (by rw [hW]; exact World.news_of_block (heap_alloc_new _ _)) (by intro u hu; simp at hu; subst hu; rfl) (by decide) (by unfold maxLen; omega) (by omega) (by omega) _ rfl
  refine ⟨g, cap, w', by rw [← hW]; exact r1, ⟨⟨vs ++ [.slice o n c], by rw [List.length_append]; exact o1, fun i t' hi => ?_⟩, ?_⟩⟩
  · have hvl : vs.length = L.length := by have := h1.1; omega
    have keep : ∀ {u : Value} {t : List Stp}, StepsAt w u t (fun x => w0.heap.size ≤ x ∧ v.ownBlock ≠ some x) → StepsAt w' u t (fun x => w0.heap.size ≤ x ∧ (Value.slice (some ⟨g, 0, none⟩) (L.length + 1) cap).ownBlock ≠ some x) := fun {u t} k => by
      obtain ⟨o', cap', a1, a2, a3, a4, a5⟩ := k
      refine ⟨o', cap', a1, a2, a3, a4, fun z => ?_⟩
      obtain ⟨gg, off, e, hT, hgg, hc⟩ := a5 z
      have hk : w'.heap[gg]? = w.heap[gg]? := by rw [g1.block gg (by omega) (fun e => hT.2 e.symm), hW, Below.heap_alloc _ _ _ hgg]
      have := g1.size
      refine ⟨gg, off, e, ⟨hT.1, fun e => ?_⟩, by omega, fun j s hj => ?_⟩
      · simp [Value.ownBlock] at e
        rcases hat with y | y
        · exact hT.2 (e ▸ y)
        · omega
      · obtain ⟨b1, b2, b3⟩ := hc j s hj
        exact ⟨(World.cell?_of_block hk).trans b1, (World.cell?_of_block hk).trans b2, (World.cell?_of_block hk).trans b3⟩
    by_cases e : i < L.length
    · rw [List.getElem?_append_left e] at hi
      obtain ⟨u, e1, e2⟩ := h2 i t' hi
      exact ⟨u, by rw [List.getElem?_append_left (by omega)]; exact e1, keep e2⟩
    · have hi0 : i = L.length := by
        have := (List.getElem?_eq_some_iff.1 hi).1
        rw [List.length_append, List.length_singleton] at this
        omega
      subst hi0
      rw [List.getElem?_append_right (Nat.le_refl _), Nat.sub_self] at hi
      cases hi
      exact ⟨_, by rw [List.getElem?_append_right (by omega), hvl, Nat.sub_self]; rfl, keep ht⟩
  · rw [hW] at g1
    exact (h3.alloc hb0 _).grown g1 (by simp; omega) (fun k hk => (h1.lt k hk).1)
/-- A row of steps that is newer than all of them. -/
theorem Ot.new {w0 w w' : World} {v : Value} {L : List (List Stp)} (h : Ot w0 w v L) {u : Value} {t : List Stp} (hu : StepsAt w' u t (fun x => w.heap.size ≤ x)) : StepsAt w' u t (fun x => w0.heap.size ≤ x ∧ v.ownBlock ≠ some x) := by
  obtain ⟨⟨vs, h1, h2⟩, h3⟩ := h
  have := h3.size
  exact hu.mono (fun x hx => ⟨by omega, fun e => by have := (h1.lt x e).2; omega⟩)
end Go.Proofs.Ytlcbegmhmbegjaa
