/- Things that lie beside one another in memory, each with its blocks: a list of them, and steps in one of them. -/
import Derived.Test.YtnhllnepnpmegaaHq
namespace Go.Proofs.Ytnhllnepnpmegaa
open Go.ChangeShapes Go.WideShapes Go.ChangeAt Go.RowKit Go.Shelf Go.Proofs.Rx Go.Maps
set_option linter.unusedVariables false
set_option linter.unusedSimpArgs false

/-- A thing: what lies so, with which blocks. -/
structure Thing where
  P : World → (Nat → Prop) → Prop
  kept : ∀ {W W' : World} {F K : Nat → Prop}, P W F → Kept K W W' → (∀ z, F z → ¬ K z) → P W' F
  lt : ∀ {W : World} {F : Nat → Prop}, P W F → ∀ z, F z → z < W.heap.size
def Thing.none : Thing := ⟨fun _ F => ∀ z, ¬ F z, fun h _ _ => h, fun h z hz => (h z hz).elim⟩
/-- All of these lie beside one another, in blocks from N on; behind w nothing below N has turned. -/
structure Sep (N : Nat) (w W : World) (l : List Thing) : Prop where
  ex : ∃ F : Nat → Nat → Prop, (∀ i (h : i < l.length), l[i].P W (F i)) ∧ (∀ i j, i < l.length → j < l.length → i ≠ j → ∀ z, F i z → ¬ F j z) ∧ ∀ i, i < l.length → ∀ z, F i z → N ≤ z
  be : Below N w W
  nw : N ≤ W.heap.size
section
variable {N : Nat} {w W W' : World} {l : List Thing}
theorem Sep.start (w : World) : Sep w.heap.size w w [] := ⟨⟨fun _ _ => False, fun i h => absurd h (Nat.not_lt_zero _), fun i j h => absurd h (Nat.not_lt_zero _), fun i h => absurd h (Nat.not_lt_zero _)⟩, Below.refl _ _, Nat.le_refl _⟩
theorem Sep.read (h : Sep N w W l) (k : Below W.heap.size W W') : Sep N w W' l := by
  obtain ⟨⟨F, a, b, c⟩, be, nw⟩ := h
  exact ⟨⟨F, fun i hi => (l[i]).kept (a i hi) (Kept.of_below (F := fun _ => False) k) (fun _ _ f => f), b, c⟩, be.trans (k.mono nw), Nat.le_trans nw k.size⟩
/-- One of them goes a step. -/
theorem Sep.step (h : Sep N w W l) (i : Nat) (hi : i < l.length) (t : Thing) {f : FuncId} {args : Array Value} {R : Ending → World → Prop}
    (c : ∀ F, l[i].P W F → Calls Try.prog f args W fun e W' => R e W' ∧ ∃ F', t.P W' F' ∧ To W W' F F') : Calls Try.prog f args W fun e W' => R e W' ∧ Sep N w W' (l.set i t) := by
  obtain ⟨⟨F, a, b, d⟩, be, nw⟩ := h
  refine (c (F i) (a i hi)).mono fun e W' ⟨hr, F', p', k, n⟩ => ⟨hr, ⟨fun j => if j = i then F' else F j, fun j hj => ?_, fun j m hj hm hne z hz => ?_, fun j hj z hz => ?_⟩, ?_, ?_⟩
  · rw [List.length_set] at hj
    by_cases c : j = i
    · subst c
      simp only [if_true, List.getElem_set_self]
      exact p'
    · simp only [if_neg c, List.getElem_set_ne (fun u => c u.symm)]
      exact (l[j]).kept (a j hj) k (fun z hz => b j i hj hi c z hz)
  · rw [List.length_set] at hj hm
    have new : ∀ q, q < l.length → q ≠ i → ∀ z, F' z → ¬ F q z := fun q hq hqi z hz hz' => by
      rcases n z hz with u | u
      · exact b q i hq hi hqi z hz' u
      · have := (l[q]).lt (a q hq) z hz'; omega
    by_cases c1 : j = i
    · have c2 : m ≠ i := fun u => hne (c1.trans u.symm)
      simp only [if_pos c1] at hz
      simp only [if_neg c2]
      exact new m hm c2 z hz
    · simp only [if_neg c1] at hz
      by_cases c2 : m = i
      · simp only [if_pos c2]
        exact fun u => new j hj c1 z u hz
      · simp only [if_neg c2]
        exact b j m hj hm hne z hz
  · rw [List.length_set] at hj
    by_cases c1 : j = i
    · simp only [if_pos c1] at hz
      rcases n z hz with u | u
      · exact d i hi z u
      · omega
    · simp only [if_neg c1] at hz
      exact d j hj z hz
  · exact be.trans (k.below nw (fun z hz => d i hi z hz))
  · exact Nat.le_trans nw k.size
/-- .. with no call. -/
theorem Sep.turn (h : Sep N w W l) (i : Nat) (hi : i < l.length) (t : Thing) (c : ∀ F, l[i].P W F → ∃ F', t.P W' F' ∧ To W W' F F') : Sep N w W' (l.set i t) := by
  obtain ⟨⟨F, a, b, d⟩, be, nw⟩ := h
  obtain ⟨F', p', k, n⟩ := c (F i) (a i hi)
  have new : ∀ q, q < l.length → q ≠ i → ∀ z, F' z → ¬ F q z := fun q hq hqi z hz hz' => by
    rcases n z hz with u | u
    · exact b q i hq hi hqi z hz' u
    · have := (l[q]).lt (a q hq) z hz'; omega
  refine ⟨⟨fun j => if j = i then F' else F j, fun j hj => ?_, fun j m hj hm hne z hz => ?_, fun j hj z hz => ?_⟩, ?_, ?_⟩
  · rw [List.length_set] at hj
    by_cases c : j = i
    · subst c
      simp only [if_true, List.getElem_set_self]
      exact p'
    · simp only [if_neg c, List.getElem_set_ne (fun u => c u.symm)]
      exact (l[j]).kept (a j hj) k (fun z hz => b j i hj hi c z hz)
  · rw [List.length_set] at hj hm
    by_cases c1 : j = i
    · have c2 : m ≠ i := fun u => hne (c1.trans u.symm)
      simp only [if_pos c1] at hz
      simp only [if_neg c2]
      exact new m hm c2 z hz
    · simp only [if_neg c1] at hz
      by_cases c2 : m = i
      · simp only [if_pos c2]
        exact fun u => new j hj c1 z u hz
      · simp only [if_neg c2]
        exact b j m hj hm hne z hz
  · rw [List.length_set] at hj
    by_cases c1 : j = i
    · simp only [if_pos c1] at hz
      rcases n z hz with u | u
      · exact d i hi z u
      · omega
    · simp only [if_neg c1] at hz
      exact d j hj z hz
  · exact be.trans (k.below nw (fun z hz => d i hi z hz))
  · exact Nat.le_trans nw k.size
/-- What a thing says, for a call that turns nothing. -/
theorem Sep.have (h : Sep N w W l) (i : Nat) (hi : i < l.length) : ∃ F, l[i].P W F := by
  obtain ⟨⟨F, a, b, d⟩, be, nw⟩ := h
  exact ⟨F i, a i hi⟩
/-- One more, of new blocks. -/
theorem Sep.more (h : Sep N w W l) (k : Below W.heap.size W W') (t : Thing) {F' : Nat → Prop} (ht : t.P W' F') (n : ∀ z, F' z → W.heap.size ≤ z) : Sep N w W' (l ++ [t]) := by
  have h' := h.read k
  obtain ⟨⟨F, a, b, d⟩, be, nw⟩ := h
  obtain ⟨-, be', nw'⟩ := h'
  have a' : ∀ i (hi : i < l.length), l[i].P W' (F i) := fun i hi => (l[i]).kept (a i hi) (Kept.of_below (F := fun _ => False) k) (fun _ _ f => f)
  refine ⟨⟨fun j => if j = l.length then F' else F j, fun j hj => ?_, fun j m hj hm hne z hz => ?_, fun j hj z hz => ?_⟩, be', nw'⟩
  · rw [List.length_append, List.length_singleton] at hj
    by_cases c : j = l.length
    · subst c
      simp only [if_true, List.getElem_append_right (Nat.le_refl _), Nat.sub_self, List.getElem_singleton]
      exact ht
    · simp only [if_neg c]
      rw [List.getElem_append_left (by omega)]
      exact a' j (by omega)
  · rw [List.length_append, List.length_singleton] at hj hm
    by_cases c1 : j = l.length
    · simp only [if_pos c1] at hz
      have c2 : m ≠ l.length := fun u => hne (c1.trans u.symm)
      simp only [if_neg c2]
      intro u
      have := (l[m]'(by omega)).lt (a m (by omega)) z u
      have := n z hz
      omega
    · simp only [if_neg c1] at hz
      by_cases c2 : m = l.length
      · simp only [if_pos c2]
        intro u
        have := (l[j]'(by omega)).lt (a j (by omega)) z hz
        have := n z u
        omega
      · simp only [if_neg c2]
        exact b j m (by omega) (by omega) hne z hz
  · rw [List.length_append, List.length_singleton] at hj
    by_cases c1 : j = l.length
    · simp only [if_pos c1] at hz
      exact Nat.le_trans nw (n z hz)
    · simp only [if_neg c1] at hz
      exact d j (by omega) z hz
/-- The last ones go. -/
theorem Sep.fewer {l' : List Thing} (h : Sep N w W (l ++ l')) : Sep N w W l := by
  obtain ⟨⟨F, a, b, d⟩, be, nw⟩ := h
  have len : l.length ≤ (l ++ l').length := by rw [List.length_append]; omega
  refine ⟨⟨F, fun i hi => ?_, fun i j hi hj => b i j (by omega) (by omega), fun i hi => d i (by omega)⟩, be, nw⟩
  have := a i (by omega)
  rwa [List.getElem_append_left hi] at this
/-- A thing said otherwise. -/
theorem Sep.as (h : Sep N w W l) (i : Nat) (hi : i < l.length) (t : Thing) (c : ∀ F, l[i].P W F → t.P W F) : Sep N w W (l.set i t) :=
  h.turn i hi t (fun F hF => ⟨F, c F hF, To.refl W F⟩)
end
/-! ### Things -/
/-- A block of cells. -/
def tBk (b : Nat) (t : TypeId) (vs : Array Value) : Thing := ⟨fun W F => Bk W b t vs ∧ ∀ z, F z ↔ z = b, fun ⟨h, hF⟩ k n => ⟨h.kept k (n b ((hF b).2 rfl)), hF⟩, fun ⟨h, hF⟩ z hz => by rw [(hF z).1 hz]; exact h.lt⟩
end Go.Proofs.Ytnhllnepnpmegaa
