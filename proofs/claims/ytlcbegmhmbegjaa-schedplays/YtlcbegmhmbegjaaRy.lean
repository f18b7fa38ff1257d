/- The reference: what its lists become, as seen from where Go began. -/
import Derived.Test.YtlcbegmhmbegjaaRx
namespace Go.Proofs.Ytlcbegmhmbegjaa
open Go.ChangeShapes Go.WideShapes Go.ChangeAt Go.RowKit Go.Proofs.Sc Go.Maps
set_option linter.unusedVariables false
set_option linter.unusedSimpArgs false

variable {w W w6 : World} {b : Nat} {r : Rs} {v0 v1 v2 v3 v4 : Value} {vs : List Value} {T : Nat → Prop} {F : Nat → Prop} {g1 cap1 : Nat}
/-- The machine lies so in W; nothing old of w has turned but F. -/
structure RG (F : Nat → Prop) (w : World) (b : Nat) (vs : List Value) (T : Nat → Prop) (r : Rs) (v0 v1 v2 v3 v4 : Value) (W : World) : Prop where
  l : ∃ K, RL W b r v0 v1 v2 v3 v4 vs T K
  k : Kept F w W
  f : ∀ x, RFoot b v0 v1 v2 v3 v4 T x → F x ∨ w.heap.size ≤ x
theorem RG.below (h : RG F w b vs T r v0 v1 v2 v3 v4 W) (hb : Below W.heap.size W w6) : RG F w b vs T r v0 v1 v2 v3 v4 w6 := by
  obtain ⟨K, l⟩ := h.l
  exact ⟨⟨K, l.below hb⟩, h.k.trans (Kept.of_below (F := fun _ => False) hb) (fun x hx => by cases hx), h.f⟩
theorem RG.step (h : RG F w b vs T r v0 v1 v2 v3 v4 W) (ok : OkR r) : RStep F w W ⟨b, 0, none⟩ r := by
  obtain ⟨K, l⟩ := h.l
  exact ⟨_, ⟨b, v0, v1, v2, v3, v4, vs, T, K, rfl, rfl, l, ok⟩, h.k, h.f⟩
theorem kept_set1 (w : World) (b k : Nat) (v : Value) : Kept (fun x => x = b) w (w.setCell ⟨b, k, none⟩ v) :=
  ⟨rfl, rfl, rfl, by simp, fun x _ hn => Below.heap_setCell _ _ _ _ (fun e => hn e)⟩
/-- Field 2 has a list that was made out of its own. -/
theorem RG.put2 (h : RG F w b vs T r v0 v1 v2 v3 v4 W) {v : Value} {l : List Pr} (ho : w6.ownsRow 0 66 2 v l.length (pcells l)) (hk : Kept (fun x => v2.ownBlock = some x) W w6) (hb : ∀ g, v.ownBlock = some g → v2.ownBlock = some g ∨ W.heap.size ≤ g) :
    RG F w b vs T { r with locks := l } v0 v1 v v3 v4 (w6.setCell ⟨b, 2, none⟩ v) := by
  obtain ⟨K, L⟩ := h.l
  have hbl : b < W.heap.size := L.lt (Or.inl rfl)
  have nb : v2.ownBlock ≠ some b := ne_of_kind L.k2 L.kb (by decide)
  have hbb : w6.heap[b]? = W.heap[b]? := hk.block b hbl nb
  have vb : ∀ g, v.ownBlock = some g → g ≠ b := fun g e z => by
    subst z
    rcases hb g e with y | y
    · exact nb y
    · omega
  refine ⟨⟨_, L.put2 (W := w6.setCell ⟨b, 2, none⟩ v) (by have := hk.size; simpa using this) (fun x hx hn hxb => by rw [set_far hxb]; exact hk.block x hx hn) (fun j hj => by rw [set_other hj]; exact World.cell?_of_block hbb) (set_same ((World.cell?_of_block hbb).trans L.c2)) (fun j => by rw [World.frozen?_setCell]; exact (fz_of_block hbb).trans (L.fz j)) (owns_kept ho (fun x e => set_far (vb x e))) hb⟩, ?_, ?_⟩
  · refine (h.k.trans hk (fun x hx => h.f x (by unfold RFoot; simp [hx]))).trans (kept_set1 w6 b 2 v) (fun x hx => by subst hx; exact h.f x (Or.inl rfl))
  · intro x hx
    by_cases e : v.ownBlock = some x
    · rcases hb x e with z | z
      · exact h.f x (by unfold RFoot; simp [z])
      · right; have := h.k.size; omega
    · refine h.f x ?_
      unfold RFoot at hx ⊢
      rcases hx with z | z | z | z | z | z | z
      all_goals first
        | exact absurd z e
        | simp [z]
/-- Field 3 has a list that was made out of its own. -/
theorem RG.put3 (h : RG F w b vs T r v0 v1 v2 v3 v4 W) {v : Value} {l : List Pr} (ho : w6.ownsRow 0 66 2 v l.length (pcells l)) (hk : Kept (fun x => v3.ownBlock = some x) W w6) (hb : ∀ g, v.ownBlock = some g → v3.ownBlock = some g ∨ W.heap.size ≤ g) :
    RG F w b vs T { r with cells := l } v0 v1 v2 v v4 (w6.setCell ⟨b, 3, none⟩ v) := by
  obtain ⟨K, L⟩ := h.l
  have hbl : b < W.heap.size := L.lt (Or.inl rfl)
  have nb : v3.ownBlock ≠ some b := ne_of_kind L.k3 L.kb (by decide)
  have hbb : w6.heap[b]? = W.heap[b]? := hk.block b hbl nb
  have vb : ∀ g, v.ownBlock = some g → g ≠ b := fun g e z => by
    subst z
    rcases hb g e with y | y
    · exact nb y
    · omega
  refine ⟨⟨_, L.put3 (W := w6.setCell ⟨b, 3, none⟩ v) (by have := hk.size; simpa using this) (fun x hx hn hxb => by rw [set_far hxb]; exact hk.block x hx hn) (fun j hj => by rw [set_other hj]; exact World.cell?_of_block hbb) (set_same ((World.cell?_of_block hbb).trans L.c3)) (fun j => by rw [World.frozen?_setCell]; exact (fz_of_block hbb).trans (L.fz j)) (owns_kept ho (fun x e => set_far (vb x e))) hb⟩, ?_, ?_⟩
  · refine (h.k.trans hk (fun x hx => h.f x (by unfold RFoot; simp [hx]))).trans (kept_set1 w6 b 3 v) (fun x hx => by subst hx; exact h.f x (Or.inl rfl))
  · intro x hx
    by_cases e : v.ownBlock = some x
    · rcases hb x e with z | z
      · exact h.f x (by unfold RFoot; simp [z])
      · right; have := h.k.size; omega
    · refine h.f x ?_
      unfold RFoot at hx ⊢
      rcases hx with z | z | z | z | z | z | z
      all_goals first
        | exact absurd z e
        | simp [z]
/-- Field 4 has a list that was made out of its own. -/
theorem RG.put4 (h : RG F w b vs T r v0 v1 v2 v3 v4 W) {v : Value} {l : List Int} (ho : w6.ownsRow 0 3 1 v l.length (ints l)) (hk : Kept (fun x => v4.ownBlock = some x) W w6) (hb : ∀ g, v.ownBlock = some g → v4.ownBlock = some g ∨ W.heap.size ≤ g) :
    RG F w b vs T { r with said := l } v0 v1 v2 v3 v (w6.setCell ⟨b, 4, none⟩ v) := by
  obtain ⟨K, L⟩ := h.l
  have hbl : b < W.heap.size := L.lt (Or.inl rfl)
  have nb : v4.ownBlock ≠ some b := ne_of_kind L.k4 L.kb (by decide)
  have hbb : w6.heap[b]? = W.heap[b]? := hk.block b hbl nb
  have vb : ∀ g, v.ownBlock = some g → g ≠ b := fun g e z => by
    subst z
    rcases hb g e with y | y
    · exact nb y
    · omega
  refine ⟨⟨_, L.put4 (W := w6.setCell ⟨b, 4, none⟩ v) (by have := hk.size; simpa using this) (fun x hx hn hxb => by rw [set_far hxb]; exact hk.block x hx hn) (fun j hj => by rw [set_other hj]; exact World.cell?_of_block hbb) (set_same ((World.cell?_of_block hbb).trans L.c4)) (fun j => by rw [World.frozen?_setCell]; exact (fz_of_block hbb).trans (L.fz j)) (owns_kept ho (fun x e => set_far (vb x e))) hb⟩, ?_, ?_⟩
  · refine (h.k.trans hk (fun x hx => h.f x (by unfold RFoot; simp [hx]))).trans (kept_set1 w6 b 4 v) (fun x hx => by subst hx; exact h.f x (Or.inl rfl))
  · intro x hx
    by_cases e : v.ownBlock = some x
    · rcases hb x e with z | z
      · exact h.f x (by unfold RFoot; simp [z])
      · right; have := h.k.size; omega
    · refine h.f x ?_
      unfold RFoot at hx ⊢
      rcases hx with z | z | z | z | z | z | z
      all_goals first
        | exact absurd z e
        | simp [z]
/-- All is over. -/
theorem RG.end (h : RG F w b vs T r v0 v1 v2 v3 v4 W) : RG F w b vs T { r with over := true } v0 v1 v2 v3 v4 (W.setCell ⟨b, 5, none⟩ (.bool true)) := by
  obtain ⟨K, L⟩ := h.l
  exact ⟨⟨K, L.end⟩, h.k.trans (kept_set1 W b 5 _) (fun x hx => by subst hx; exact h.f x (Or.inl rfl)), h.f⟩
theorem nats_set (l : List Nat) (i n : Nat) : (nats l).set i (.int .i64 ((n : Nat) : Int)) = nats (l.set i n) := by
  unfold nats
  rw [List.map_set]
/-- A task has gone a step. -/
theorem RG.at (h : RG F w b vs T r v0 (.slice (some ⟨g1, 0, none⟩) r.at_.length cap1) v2 v3 v4 W) {i n : Nat} :
    RG F w b vs T { r with at_ := r.at_.set i n } v0 (.slice (some ⟨g1, 0, none⟩) r.at_.length cap1) v2 v3 v4 (W.setCell ⟨g1, i, none⟩ (.int .i64 ((n : Nat) : Int))) := by
  obtain ⟨K, L⟩ := h.l
  have hgb : g1 ≠ b := fun e => by
    have := L.k1 g1 rfl
    rw [e, L.kb] at this; omega
  have hbb : (W.setCell ⟨g1, i, none⟩ (.int .i64 ((n : Nat) : Int))).heap[b]? = W.heap[b]? := set_far (fun e => hgb e.symm)
  obtain ⟨s1, s2⟩ := L.ats.stored i (.int .i64 ((n : Nat) : Int))
  rw [nats_set] at s1
  refine ⟨⟨_, L.put1 (W := W.setCell ⟨g1, i, none⟩ (.int .i64 ((n : Nat) : Int))) (l := r.at_.set i n) (by simp) (fun x hx hn hxb => set_far (fun e => hn (by rw [e]; rfl))) (fun j _ => World.cell?_of_block hbb) ((World.cell?_of_block hbb).trans L.c1) (fun j => (fz_of_block hbb).trans (L.fz j)) (by rw [List.length_set]; exact s1) (fun g e => Or.inl e)⟩, ?_, h.f⟩
  exact h.k.trans (kept_set1 W g1 i _) (fun x hx => by subst hx; exact h.f _ (Or.inr (Or.inr (Or.inl rfl))))
theorem RG.at' (h : RG F w b vs T r v0 v1 v2 v3 v4 W) (hv : v1 = .slice (some ⟨g1, 0, none⟩) r.at_.length cap1) {i n : Nat} :
    RG F w b vs T { r with at_ := r.at_.set i n } v0 v1 v2 v3 v4 (W.setCell ⟨g1, i, none⟩ (.int .i64 ((n : Nat) : Int))) := by
  subst hv
  exact h.at
theorem RG.ats (h : RG F w b vs T r v0 v1 v2 v3 v4 W) (hv : v1 = .slice (some ⟨g1, 0, none⟩) r.at_.length cap1) {i n : Nat} (hn : r.at_[i]? = some n) :
    W.cell? ⟨b, 1, none⟩ = some (.slice (some ⟨g1, 0, none⟩) r.at_.length cap1) ∧ W.cell? ⟨g1, i, none⟩ = some (.int .i64 (n : Int)) ∧ W.frozen? ⟨g1, i, none⟩ = false := by
  subst hv
  obtain ⟨K, L⟩ := h.l
  have hi : i < r.at_.length := (List.getElem?_eq_some_iff.1 hn).1
  refine ⟨L.c1, ?_, ?_⟩
  · rw [L.ats.cellAt i (by omega)]
    unfold nats
    rw [List.getElem?_map, hn]
    rfl
  · obtain ⟨_, ⟨z, _⟩ | ⟨g', cap', cur, z, _, hh, _⟩⟩ := L.ats
    · injection z with z; cases z
    · injection z with z; injection z with z; injection z with z; subst z
      simp [World.frozen?, hh]
theorem RG.drew (h : RG F w b vs T r v0 v1 v2 v3 v4 W) : RG F w b vs T r v0 v1 v2 v3 v4 W.drew := h.below (drew_below W)
theorem own_slice {w : World} {base : Nat} {e : TypeId} {size : Nat} {v : Value} {n : Nat} {xs : List Value} (h : w.ownsRow base e size v n xs) : ∃ o c, v = .slice o n c := by
  obtain ⟨_, ⟨z, hz⟩ | ⟨g, cap, cur, z, _⟩⟩ := h
  · exact ⟨_, _, by rw [z, hz]⟩
  · exact ⟨_, _, z⟩
theorem own_mono {w : World} {base : Nat} {e : TypeId} {size : Nat} {v : Value} {n : Nat} {xs : List Value} (h : w.ownsRow base e size v n xs) : w.ownsRow 0 e size v n xs :=
  ⟨h.1, h.2.imp id (fun ⟨g, cap, cur, a, b, c⟩ => ⟨g, cap, cur, a, Nat.zero_le _, c⟩)⟩
end Go.Proofs.Ytlcbegmhmbegjaa
