/- Many loops over iterators in one call: how it is left. -/
import Derived.Test.YtnpimmjkmclkpaaDoorYa
import Derived.Test.YtnpimmjkmclkpaaDoorYb
namespace Go.Proofs.YtnpimmjkmclkpaaDoor
open Go.ChangeShapes Go.WideShapes Go.ChangeAt Go.RowKit Go.Proofs.Bt Go.Shelf Go.Proofs.Rx Go.Maps Go.Proofs.Pk
set_option linter.unusedVariables false
set_option linter.unusedSimpArgs false

/-- The marks of loops that are done: the newest first, each an empty list of deferred calls of its own, from B on. -/
def marks (l : List Nat) : List Deferred := l.map fun D => { target := .collected D, args := #[] }
structure Marks (B : Nat) (l : List Nat) (X : World) : Prop where
  at' : ∀ D, D ∈ l → X.heap[D]? = some (.deferred (some [])) ∧ B ≤ D
  nod : l.Nodup
theorem Marks.nil (B : Nat) (X : World) : Marks B [] X := ⟨fun D h => (by cases h), List.nodup_nil⟩
theorem Marks.kept {F : Nat → Prop} {B : Nat} {l : List Nat} {X X' : World} (h : Marks B l X) (k : Kept F X X') (hF : ∀ D, D ∈ l → ¬ F D) : Marks B l X' :=
  ⟨fun D hD => ⟨kept_at k (h.at' D hD).1 (hF D hD), (h.at' D hD).2⟩, h.nod⟩
theorem Marks.below {B : Nat} {l : List Nat} {X X' : World} (h : Marks B l X) (k : Below X.heap.size X X') : Marks B l X' := h.kept (F := fun _ => False) (Kept.of_below k) (fun _ _ z => z)
theorem Marks.lt {B : Nat} {l : List Nat} {X : World} (h : Marks B l X) {D : Nat} (hD : D ∈ l) : D < X.heap.size := (Array.getElem?_eq_some_iff.1 (h.at' D hD).1).1
theorem Marks.cons {B D : Nat} {l : List Nat} {X : World} (h : Marks B l X) (hD : X.heap[D]? = some (.deferred (some []))) (hB : B ≤ D) (hn : D ∉ l) : Marks B (D :: l) X :=
  ⟨fun E hE => by
    rcases List.mem_cons.1 hE with rfl | z
    · exact ⟨hD, hB⟩
    · exact h.at' E z, List.nodup_cons.2 ⟨hn, h.nod⟩⟩
theorem leaves_marks {n B : Nat} {fn : Func} {tmps : Array Value} {R : Ending → World → Prop} : ∀ (l : List Nat) (X : World), Marks B l X →
    (∀ X', Kept (fun x => x ∈ l) X X' → ∃ v, (results fn tmps).run Tryd.prog X' = .ok v X' ∧ R (.returned v) X') → LeavesInM Fence.wide n Tryd.prog fn tmps R (marks l) .returning X
  | [], X, h, hR => by
    obtain ⟨v, h1, h2⟩ := hR X (Kept.refl _ X)
    exact ⟨v, h1, h2⟩
  | D :: l, X, h, hR => by
    refine ⟨by simp, .inl ⟨D, _, rfl, run_takeDeferred (h.at' D (List.mem_cons_self ..)).1, ?_⟩⟩
    have kp := Kept.put (F := fun x => x = D) X D (.deferred none) rfl
    have hn := (List.nodup_cons.1 h.nod).1
    have h' : Marks B l (X.putObj D (.deferred none)) := ⟨fun E hE => ⟨kept_at kp (h.at' E (List.mem_cons_of_mem _ hE)).1 (fun z => hn (z ▸ hE)), (h.at' E (List.mem_cons_of_mem _ hE)).2⟩, (List.nodup_cons.1 h.nod).2⟩
    exact leaves_marks l _ h' (fun X' k => hR X' ((kp.mono (G := fun x => x ∈ D :: l) (fun x hx => by rw [hx]; exact List.mem_cons_self ..)).trans (k.mono (G := fun x => x ∈ D :: l) (fun x hx => List.mem_cons_of_mem _ hx)) (fun _ _ z => z)))
/-- A row is wholly free, or it is not. -/
theorem free_whole {st : Nat → Nat} {K z : Nat} {r : Rw} (ht : r.t = tl st K z) (hr : Su st K z r) : r.t.f < z ↔ r.s < z := by
  have h1 : r.t.f = cnt (fre st) K z := by rw [ht]; rfl
  have h2 := cnt_le (fre st) K z
  have h3 := hr.sl
  have key : cnt (fre st) K z = z ↔ r.s = z := by
    rw [cnt_full]
    constructor
    · intro h
      rcases Nat.lt_or_ge r.s z with y | y
      · have h4 := hr.ss y
        have h5 := h r.s y
        unfold bsy at h4
        rw [h5] at h4
        cases h4
      · omega
    · intro h k hk
      have h4 := hr.sc k (by omega)
      unfold bsy at h4
      rw [Nat.zero_add] at h4
      simpa using h4
  rw [h1]
  omega
end Go.Proofs.YtnpimmjkmclkpaaDoor
