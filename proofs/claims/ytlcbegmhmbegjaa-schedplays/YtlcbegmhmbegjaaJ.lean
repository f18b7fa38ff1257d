/- One machine alone; and what the laws ask of it first. -/
import Derived.Test.YtlcbegmhmbegjaaNc
namespace Go.Proofs.Ytlcbegmhmbegjaa
open Go.ChangeShapes Go.WideShapes Go.ChangeAt Go.RowKit Go.Proofs.Sc Go.Maps
set_option linter.unusedVariables false
set_option linter.unusedSimpArgs false

/-- A machine of which nothing lies below w0's end. -/
def J (w0 : World) (m : Addr) (w : World) (S : Sc) : Prop := ∃ F, SI w m S F ∧ (∀ x, F x → w0.heap.size ≤ x) ∧ Below w0.heap.size w0 w
variable {w0 w : World} {m : Addr} {S : Sc}
theorem J.below (h : J w0 m w S) : Below w0.heap.size w0 w := by obtain ⟨_, _, _, h⟩ := h; exact h
theorem J.wf (h : J w0 m w S) : Wf S := by obtain ⟨_, h, _⟩ := h; exact h.wf
theorem J.step {w' : World} {S' : Sc} {F : Nat → Prop} (h2 : ∀ x, F x → w0.heap.size ≤ x) (h3 : Below w0.heap.size w0 w) (h : Step SI F w w' m S') : J w0 m w' S' := by
  obtain ⟨F', a, b, c⟩ := h
  have := h3.size
  refine ⟨F', a, fun x hx => ?_, h3.trans (b.below this h2)⟩
  rcases c x hx with hx | hx
  · exact h2 x hx
  · omega
theorem J.more {w' : World} (h : J w0 m w S) (hb : Below w.heap.size w w') : J w0 m w' S := by
  obtain ⟨F, h1, h2, h3⟩ := h
  exact ⟨F, h1.kept hb.size (fun x hx => hb.block x (h1.lt x hx)), h2, h3.trans (hb.mono h3.size)⟩
theorem J.go {i c : Nat} {S' : Sc} {p : Int} (hj : J w0 m w S) (hp : i64 p) (h : goS S p = (i, c, S')) :
    Calls Try.prog 10 #[.pointer (some m), .int .i64 p] w fun e w' => e = .returned (.tuple #[.int .i64 (i : Int), .int .i64 (c : Int)]) ∧ J w0 m w' S' := by
  obtain ⟨F, h1, h2, h3⟩ := hj
  have := h1.go p hp
  rw [h] at this
  exact this.mono fun e w' ⟨he, hs⟩ => ⟨he, J.step h2 h3 hs⟩
theorem J.left {x c : Nat} {t : Int} (hj : J w0 m w S) (ht : i64 t) (h : leftS S t = (x, c)) :
    Calls Try.prog 29 #[.pointer (some m), .int .i64 t] w fun e w' => e = .returned (.tuple #[.int .i64 (x : Int), .int .i64 (c : Int)]) ∧ J w0 m w' S ∧ Below w.heap.size w w' := by
  have hj' := hj
  obtain ⟨F, h1, h2, h3⟩ := hj
  have := h1.left t ht
  rw [h] at this
  exact this.mono fun e w' ⟨he, hs⟩ => ⟨he, hj'.more hs, hs⟩
theorem J.cellAt {x c : Int} (hj : J w0 m w S) (hc : i64 c) (h : S.cell c = x) :
    Calls Try.prog 31 #[.pointer (some m), .int .i64 c] w fun e w' => e = .returned (.int .i64 x) ∧ J w0 m w' S ∧ Below w.heap.size w w' := by
  have hj' := hj
  obtain ⟨F, h1, h2, h3⟩ := hj
  have := h1.cellAt c hc
  rw [h] at this
  exact this.mono fun e w' ⟨he, hs⟩ => ⟨he, hj'.more hs, hs⟩
theorem J.holder {l : Int} {x : Option Nat} (hj : J w0 m w S) (hl : i64 l) (h : S.hold l = x) :
    Calls Try.prog 19 #[.pointer (some m), .int .i64 l] w fun e w' => e = .returned (.tuple #[.int .i64 ((x.getD 0 : Nat) : Int), .bool x.isSome]) ∧ J w0 m w' S ∧ Below w.heap.size w w' := by
  have hj' := hj
  obtain ⟨F, h1, h2, h3⟩ := hj
  refine (h1.holder l hl).mono fun e w' ⟨he, hs⟩ => ⟨?_, hj'.more hs, hs⟩
  rw [he]
  unfold heldOf
  rw [h]
  cases x <;> rfl
theorem row_shape {base n : Nat} {e : TypeId} {v : Value} {xs : List Value} (h : w.ownsRow base e 1 v n xs) : ∃ o cap, v = .slice o n cap ∧ n ≤ cap ∧ cap ≤ 9223372036854775807 ∧ (0 < n → ∃ g, o = some ⟨g, 0, none⟩ ∧ ∀ k u, xs[k]? = some u → w.cell? ⟨g, k, none⟩ = some u) := by
  have H := h
  obtain ⟨hl, ⟨e, z⟩ | ⟨g, cap, cur, e, _, _, h1, h2, _⟩⟩ := h
  · exact ⟨none, 0, by rw [e, z], by omega, by omega, fun y => by omega⟩
  · refine ⟨_, cap, e, h1, by unfold maxLen at h2; omega, fun _ => ⟨g, rfl, fun k u hk => ?_⟩⟩
    rw [e] at H
    have hkl := (List.getElem?_eq_some_iff.1 hk).1
    rw [H.cellAt k (by omega)]
    exact hk
theorem J.enabled {l : List Nat} (hj : J w0 m w S) (h : ableS S = l) :
    Calls Try.prog 18 #[.pointer (some m)] w fun e w' => ∃ o cap, e = .returned (.slice o l.length cap) ∧ l.length ≤ cap ∧ cap ≤ 9223372036854775807 ∧ Hid (0 < l.length → ∃ g, o = some ⟨g, 0, none⟩ ∧ g < w'.heap.size ∧ ∀ (k i : Nat), l[k]? = some i → w'.cell? ⟨g, k, none⟩ = some (.int .i64 (i : Int))) ∧ J w0 m w' S ∧ Below w.heap.size w w' := by
  have hj' := hj
  obtain ⟨F, ⟨b, v0, v3, bh, bc, n, vs, T, rfl, rfl, k, wf, _⟩, h2, h3⟩ := hj
  have := enabled_core k wf
  unfold AblesP at this
  rw [h] at this
  refine this.mono fun e w' ⟨v, he, ho, hb⟩ => ?_
  obtain ⟨o, cap, rfl, a1, a2, a3⟩ := row_shape ho
  refine ⟨o, cap, he, a1, a2, hide (fun z => ?_), hj'.more hb, hb⟩
  obtain ⟨g, e1, e2⟩ := a3 z
  subst e1
  exact ⟨g, rfl, (ho.lt g rfl).2, fun k i hi => e2 k _ (by unfold nats; rw [List.getElem?_map, hi]; rfl)⟩
theorem J.said {l : List Int} (hj : J w0 m w S) (h : S.said = l) :
    Calls Try.prog 28 #[.pointer (some m)] w fun e w' => ∃ o cap, e = .returned (.slice o l.length cap) ∧ l.length ≤ cap ∧ cap ≤ 9223372036854775807 ∧ Hid (0 < l.length → ∃ g, o = some ⟨g, 0, none⟩ ∧ g < w'.heap.size ∧ ∀ (k : Nat) (i : Int), l[k]? = some i → w'.cell? ⟨g, k, none⟩ = some (.int .i64 i)) ∧ J w0 m w' S ∧ Below w.heap.size w w' := by
  have hj' := hj
  obtain ⟨F, h1, h2, h3⟩ := hj
  have := h1.said
  unfold RowP at this
  rw [h, ints_len] at this
  refine this.mono fun e w' ⟨v, he, ho, hb⟩ => ?_
  obtain ⟨o, cap, rfl, a1, a2, a3⟩ := row_shape ho
  refine ⟨o, cap, he, a1, a2, hide (fun z => ?_), hj'.more hb, hb⟩
  obtain ⟨g, e1, e2⟩ := a3 z
  subst e1
  exact ⟨g, rfl, (ho.lt g rfl).2, fun k i hi => e2 k _ (by unfold ints; rw [List.getElem?_map, hi]; rfl)⟩
theorem J.new (v : Value) (L : List (List Stp)) (h : TasksAt w v L) (hm : lens L ≤ 1000000) (hok : ∀ t ∈ L, ∀ s ∈ t, s.Ok) (h0 : newS L = 0) (hb : Below w0.heap.size w0 w) :
    Calls Try.prog 7 #[v] w fun e w' => ∃ m, e = .returned (.tuple #[.pointer (some m), .int .i64 0]) ∧ J w0 m w' (initS L) := by
  refine (new_core v L h hm hok).mono fun e w' hP => ?_
  rcases hP with ⟨z, _⟩ | ⟨_, m, F, he, h1, h2, h3⟩
  · exact absurd h0 z
  · exact ⟨m, he, F, h1, fun x hx => by have := h3 x hx; have := hb.size; omega, hb.trans (h2.mono hb.size)⟩

/-! ### Tasks that a law lays itself -/
theorem steps_block {w : World} {g : Nat} {t : List Stp} {cs : Array Value} (hb : w.heap[g]? = some (.cells cs 36 (0, 0))) (hc : cs.toList = flat t) {n : Nat} (hn : t.length = n) (hm : n ≤ 9223372036854775807) : StepsAt w (.slice (some ⟨g, 0, none⟩) n n) t (fun _ => True) := by
  have hg := (Array.getElem?_eq_some_iff.1 hb).1
  refine ⟨_, n, by rw [hn], by omega, hm, fun z => by (cases z), fun _ => ⟨g, 0, rfl, trivial, hg, fun i s hi => ?_⟩⟩
  obtain ⟨a, b, c⟩ := flat_at t i s hi
  rw [← hc] at a b c
  rw [Nat.add_assoc, Nat.add_assoc, Nat.zero_add, Nat.zero_add, Nat.zero_add]
  rw [cell_of_row w g _ cs _ (0, 0) hb, cell_of_row w g _ cs _ (0, 0) hb, cell_of_row w g _ cs _ (0, 0) hb]
  exact ⟨by simpa using a, by simpa using b, by simpa using c⟩
theorem tasks_block {w : World} {g : Nat} {L : List (List Stp)} {cs : Array Value} {fr : Nat × Nat} {ty : TypeId} (hb : w.heap[g]? = some (.cells cs ty fr)) {n cap : Nat} (hn : L.length = n) (hc : n ≤ cap) (hm : cap ≤ 9223372036854775807) (h : ∀ (i : Nat) (t : List Stp), L[i]? = some t → ∃ u, cs[i]? = some u ∧ StepsAt w u t (fun _ => True)) : TasksAt w (.slice (some ⟨g, 0, none⟩) n cap) L := by
  have hg := (Array.getElem?_eq_some_iff.1 hb).1
  refine ⟨_, cap, by rw [hn], by omega, hm, fun z => by (cases z), fun _ => ⟨g, 0, rfl, hg, fun i t hi => ?_⟩⟩
  obtain ⟨u, h1, h2⟩ := h i t hi
  exact ⟨u, by rw [Nat.zero_add, cell_of_row w g _ cs _ fr hb]; exact h1, h2⟩
theorem new_ok {L : List (List Stp)} (h1 : L.length ≤ 64) (h2 : lens L ≤ 10000) (h3 : AllKnown L) : newS L = 0 := by unfold newS; rw [if_neg (by omega), if_pos h3]
def awT : List Stp := [⟨1, 0, 0⟩, ⟨5, 1, 0⟩, ⟨2, 0, 0⟩]
theorem aw_ok : ∀ t ∈ [awT, awT], ∀ s ∈ t, s.Ok := by
  intro t ht s hs
  have : t = awT := by simpa using ht
  subst this
  simp [awT] at hs
  rcases hs with rfl | rfl | rfl <;> exact ⟨by unfold i64; decide, by unfold i64; decide, by unfold i64; decide⟩
theorem aw_known : AllKnown [awT, awT] := by
  intro t ht s hs
  have : t = awT := by simpa using ht
  subst this
  simp [awT] at hs
  rcases hs with rfl | rfl | rfl <;> exact ⟨by decide, by decide⟩
theorem awake_core (w : World) : Calls Try.prog 9 #[] w fun e w' => e = .returned (.bool true) ∧ Below w.heap.size w w' := by
  obtain ⟨W1, hW1⟩ : ∃ W1, W1 = w.alloc (.cells #[.int .i64 1, .int .i64 0, .int .i64 0, .int .i64 5, .int .i64 1, .int .i64 0, .int .i64 2, .int .i64 0, .int .i64 0] 36) := ⟨_, rfl⟩
  obtain ⟨W2, hW2⟩ : ∃ W2, W2 = W1.alloc (.cells #[.slice (some ⟨w.heap.size, 0, none⟩) 3 3, .slice (some ⟨w.heap.size, 0, none⟩) 3 3] 34) := ⟨_, rfl⟩
  have s1 : W1.heap.size = w.heap.size + 1 := by rw [hW1]; simp
  have B2 : Below w.heap.size w W2 := by rw [hW2, hW1]; exact ((Below.refl _ _).alloc (Nat.le_refl _) _).alloc (by simp) _
  have st : StepsAt W2 (.slice (some ⟨w.heap.size, 0, none⟩) 3 3) awT (fun _ => True) := steps_block (cs := #[.int .i64 1, .int .i64 0, .int .i64 0, .int .i64 5, .int .i64 1, .int .i64 0, .int .i64 2, .int .i64 0, .int .i64 0]) (by rw [hW2, Below.heap_alloc _ _ _ (by omega), hW1]; exact heap_alloc_new _ _) rfl rfl (by omega)
  have ta : TasksAt W2 (.slice (some ⟨w.heap.size + 1, 0, none⟩) 2 2) [awT, awT] := tasks_block (cs := #[.slice (some ⟨w.heap.size, 0, none⟩) 3 3, .slice (some ⟨w.heap.size, 0, none⟩) 3 3]) (fr := (0, 0)) (ty := 34) (by rw [← s1, hW2]; exact heap_alloc_new _ _) rfl (Nat.le_refl _) (by omega) (fun i t hi => by
    match i, hi with
    | 0, hi => cases hi; exact ⟨_, rfl, st⟩
    | 1, hi => cases hi; exact ⟨_, rfl, st⟩
    | i + 2, hi => simp at hi)
  have N := hide (J.new _ _ ta (by decide) aw_ok (new_ok (by decide) (by decide) aw_known) B2)
  have HW : Hid (W2 = (w.alloc (.cells #[.int .i64 1, .int .i64 0, .int .i64 0, .int .i64 5, .int .i64 1, .int .i64 0, .int .i64 2, .int .i64 0, .int .i64 0] 36)).alloc (.cells #[.slice (some ⟨w.heap.size, 0, none⟩) 3 3, .slice (some ⟨w.heap.size, 0, none⟩) 3 3] 34)) := hide (by rw [hW2, hW1])
  obtain ⟨S1, hS1⟩ : ∃ S1, goS (initS [awT, awT]) 1 = (1, 0, S1) := ⟨_, rfl⟩
  have a1 : ableS S1 = [1] := by
    have : S1 = (goS (initS [awT, awT]) 1).2.2 := by rw [hS1]
    rw [this]; rfl
  have h1 : S1.hold 0 = some 1 := by
    have : S1 = (goS (initS [awT, awT]) 1).2.2 := by rw [hS1]
    rw [this]; rfl
  have G := hide hS1
  have A1 := hide a1
  have H1 := hide h1
  clear hW1 hW2 s1 B2 st ta hS1 a1 h1
  go_enter Try.func9, Try.ntmps9
  go_wp2_with fail
  rw [← HW.out]
  refine N.out.mono ?_
  rintro e w1 ⟨m, rfl, j1⟩
  clear N HW
  go_wp2_with fail
  refine (j1.go (by unfold i64; decide) G.out).mono ?_
  rintro e w2 ⟨rfl, j2⟩
  clear j1
  go_wp2_with fail
  refine (j2.enabled A1.out).mono ?_
  rintro e w3 ⟨o, cap, rfl, c1, c2, c3, j3, _⟩
  obtain ⟨g, e1, e0, e2⟩ := c3.out (by decide)
  subst e1
  have c4 := e2 0 1 rfl
  clear j2 c3 e2
  go_wp2_with fail
  refine (j3.holder (by unfold i64; decide) H1.out).mono ?_
  rintro e w4 ⟨rfl, j4, b4⟩
  have c5 := (b4.cell (p := ⟨g, 0, none⟩) e0).trans c4
  have J4 := hide j4.below
  clear j3 b4 j4 c4
  go_wp2_with fail
  go_ret
  exact ⟨rfl, J4.out⟩
end Go.Proofs.Ytlcbegmhmbegjaa
