/- The reference: a task is copied into a machine. -/
import Derived.Test.YtlcbegmhmbegjaaNt
import Derived.Test.YtlcbegmhmbegjaaOw
namespace Go.Proofs.Ytlcbegmhmbegjaa
open Go.ChangeShapes Go.WideShapes Go.ChangeAt Go.RowKit Go.Proofs.Sc Go.Maps
set_option linter.unusedVariables false
set_option linter.unusedSimpArgs false

variable {w w' : World} {b : Nat} {r : Rs} {v0 v1 v2 v3 v4 : Value} {vs : List Value} {T : Nat → Prop} {K : Nat → Nat}
theorem StepsAt.within {v : Value} {t : List Stp} (h : StepsAt w v t T) : StepsAt w v t (fun x => T x ∧ x < w.heap.size) := by
  obtain ⟨o, cap, h1, h2, hm, h3, h4⟩ := h
  refine ⟨o, cap, h1, h2, hm, h3, fun z => ?_⟩
  obtain ⟨g, off, e, hT, hl, hc⟩ := h4 z
  exact ⟨g, off, e, ⟨hT, hl⟩, hl, hc⟩
theorem RL.push (h : RL w b r v0 v1 v2 v3 v4 vs T K) (hn : r.tasks.length ≤ 64) {u : Value} {t : List Stp} (hu : StepsAt w u t (fun _ => True)) (ht : t.length ≤ 1000000) :
    ∃ (o : Option Addr) (c : Nat) (w2 : World) (g cap : Nat) (w3 : World) (T' : Nat → Prop) (K' : Nat → Nat), (Builtin.append_ #[34, 34] 34 #[.slice (some ⟨w.heap.size, 0, none⟩) 0 0, u]).run Try.prog (w.alloc (.cells #[] 36)).drew = .ok (.slice o t.length c) w2 ∧
      (Builtin.append_ #[22, 22] 22 #[v0, .slice (some ⟨w2.heap.size, 0, none⟩) 1 1]).run Try.prog (w2.alloc (.cells #[.slice o t.length c] 34)) = .ok (.slice (some ⟨g, 0, none⟩) (r.tasks.length + 1) cap) w3 ∧
      Below w.heap.size w w2 ∧ Below w.heap.size w (w2.alloc (.cells #[.slice o t.length c] 34)) ∧ w3.cell? ⟨b, 0, none⟩ = some v0 ∧ w3.frozen? ⟨b, 0, none⟩ = false ∧
      RL (w3.setCell ⟨b, 0, none⟩ (.slice (some ⟨g, 0, none⟩) (r.tasks.length + 1) cap)) b { r with tasks := r.tasks ++ [t] } (.slice (some ⟨g, 0, none⟩) (r.tasks.length + 1) cap) v1 v2 v3 v4 (vs ++ [.slice o t.length c]) (fun x => T x ∨ T' x) K' ∧
      (∀ x, T' x → w.heap.size ≤ x) ∧ (v0.ownBlock = some g ∨ w.heap.size ≤ g) ∧ Kept (RFoot b v0 v1 v2 v3 v4 T) w (w3.setCell ⟨b, 0, none⟩ (.slice (some ⟨g, 0, none⟩) (r.tasks.length + 1) cap)) := by
  obtain ⟨i0, hi0, hz0, hz1, hz2⟩ := info_parts infoT
  obtain ⟨W1, hW1⟩ : ∃ W1, W1 = (w.alloc (.cells #[] 36)).drew := ⟨_, rfl⟩
  have B1 : Below w.heap.size w W1 := by rw [hW1]; exact ((Below.refl _ _).alloc (Nat.le_refl _) _).drew
  have hv : W1.ownsRow w.heap.size 36 3 (.slice (some ⟨w.heap.size, 0, none⟩) 0 0) 0 [] := ⟨rfl, Or.inr ⟨w.heap.size, 0, #[], rfl, Nat.le_refl _, by rw [hW1]; exact heap_alloc_new _ _, Nat.le_refl _, Nat.zero_le _, rfl, rfl⟩⟩
  obtain ⟨o, c, w2, r1, s1, gr1⟩ := copy_run W1 w.heap.size 34 hv (hu.kept B1.size (fun x _ hx => B1.block x hx)) ht B1.size
  have B2 : Below w.heap.size w w2 := B1.grown gr1 B1.size (fun x hx => by
    have hx : w.heap.size = x := by simpa [Value.ownBlock] using hx
    omega)
  obtain ⟨W, hW⟩ : ∃ W, W = w2.alloc (.cells #[.slice o t.length c] 34) := ⟨_, rfl⟩
  have hs : W.heap.size = w2.heap.size + 1 := by rw [hW]; simp
  have l0 : ∀ x, v0.ownBlock = some x → x < w.heap.size := fun x e => h.lt (by unfold RFoot; simp [e])
  have own : W.ownsRow 0 34 1 v0 r.tasks.length vs := by rw [hW]; exact (owns_kept h.tasks (fun x e => B2.block x (l0 x e))).alloc _
  have B3 : Below w.heap.size w W := by rw [hW]; exact B2.alloc B2.size _
  obtain ⟨g, cap, w3, r3, o3, g3, hat, hlt⟩ := run_append_lies (P := Try.prog) W 22 22 0 34 i0 _ 1 24 Try.underlying22 hi0 hz0 hz1 hz2 rfl (by decide) v0 r.tasks.length vs own ⟨w2.heap.size, 0, none⟩ 1 1 [.slice o t.length c] rfl (by rw [hW]; exact World.news_of_block (heap_alloc_new _ _)) (by intro u hu; simp at hu; subst hu; rfl) (by decide) (by unfold maxLen; omega) (by omega) (Nat.zero_le _) _ rfl
  have hbl : b < w.heap.size := h.lt (Or.inl rfl)
  have nb : v0.ownBlock ≠ some b := ne_of_kind h.k0 h.kb (by decide)
  have z2 := B2.size
  have z3 := g3.size
  have hk : ∀ x, x < w.heap.size → v0.ownBlock ≠ some x → w3.heap[x]? = w.heap[x]? := fun x hx hn => (g3.block x (by omega) (fun e => hn e.symm)).trans (B3.block x hx)
  have hbb : w3.heap[b]? = w.heap[b]? := hk b hbl nb
  have hgb : g ≠ b := fun e => by
    rcases hat with y | y
    · exact nb (e ▸ y)
    · omega
  have hvs : vs.length = r.tasks.length := by have := h.tasks.1; omega
  have hT : ∀ x, (w.heap.size ≤ x ∧ x < w2.heap.size) → w.heap.size ≤ x ∧ x < (w3.setCell ⟨b, 0, none⟩ (.slice (some ⟨g, 0, none⟩) (r.tasks.length + 1) cap)).heap.size ∧ (Value.slice (some ⟨g, 0, none⟩) (r.tasks.length + 1) cap).ownBlock ≠ some x := fun x hx => ⟨hx.1, by simp; omega, fun e => by
    have e : g = x := by simpa [Value.ownBlock] using e
    subst e
    rcases hat with y | y
    · have := l0 _ y; omega
    · omega⟩
  have hst : StepsAt (w3.setCell ⟨b, 0, none⟩ (.slice (some ⟨g, 0, none⟩) (r.tasks.length + 1) cap)) (.slice o t.length c) t (fun x => w.heap.size ≤ x ∧ x < w2.heap.size) := s1.within.kept (by simp; omega) (fun x hx _ => by
    rw [set_far (by omega), g3.block x (by omega) (fun e => by have := l0 x e.symm; omega), hW, Below.heap_alloc _ _ _ hx.2])
  have hfar : ∀ x, (Value.slice (some ⟨g, 0, none⟩) (r.tasks.length + 1) cap).ownBlock = some x → (w3.setCell ⟨b, 0, none⟩ (.slice (some ⟨g, 0, none⟩) (r.tasks.length + 1) cap)).heap[x]? = w3.heap[x]? := fun x e => by
    have e : g = x := by simpa [Value.ownBlock] using e
    subst e
    exact set_far hgb
  have P := h.put0 (W := w3.setCell ⟨b, 0, none⟩ (.slice (some ⟨g, 0, none⟩) (r.tasks.length + 1) cap)) (by simp; omega) hvs (fun x hx hn hxb => by rw [set_far hxb]; exact hk x hx hn) (fun j hj => by rw [set_other hj]; exact World.cell?_of_block hbb) (set_same ((World.cell?_of_block hbb).trans h.c0)) (fun j => by rw [World.frozen?_setCell]; exact (fz_of_block hbb).trans (h.fz j)) (owns_kept o3 hfar) hst hT (fun x e => by
    have e : g = x := by simpa [Value.ownBlock] using e
    subst e
    rcases hat with y | y
    · exact Or.inl y
    · right; omega)
  refine ⟨o, c, w2, g, cap, w3, _, _, by rw [← hW1]; exact r1, by rw [← hW]; exact r3, B2, by rw [← hW]; exact B3, (World.cell?_of_block hbb).trans h.c0, (fz_of_block hbb).trans (h.fz 0), P, fun x hx => hx.1, ?_, ?_⟩
  · rcases hat with y | y
    · exact Or.inl y
    · right; omega
  · refine ⟨g3.os.trans B3.os, g3.tape.trans B3.tape, g3.output.trans B3.output, by simp; omega, fun x hx hn => ?_⟩
    rw [set_far (fun e => hn (Or.inl e))]
    exact hk x hx (fun e => hn (by unfold RFoot; simp [e]))
/-- A task more stands at its beginning. -/
theorem RL.zero (h : RL w b r v0 v1 v2 v3 v4 vs T K) (hn : r.at_.length ≤ 64) :
    ∃ (g cap : Nat) (w6 : World) (K' : Nat → Nat), (Builtin.append_ #[23, 23] 23 #[v1, .slice (some ⟨w.heap.size, 0, none⟩) 1 1]).run Try.prog (w.alloc (.cells #[.int .i64 0] 3)) = .ok (.slice (some ⟨g, 0, none⟩) (r.at_.length + 1) cap) w6 ∧
      w6.cell? ⟨b, 1, none⟩ = some v1 ∧ w6.frozen? ⟨b, 1, none⟩ = false ∧
      RL (w6.setCell ⟨b, 1, none⟩ (.slice (some ⟨g, 0, none⟩) (r.at_.length + 1) cap)) b { r with at_ := r.at_ ++ [0] } v0 (.slice (some ⟨g, 0, none⟩) (r.at_.length + 1) cap) v2 v3 v4 vs T K' ∧
      (v1.ownBlock = some g ∨ w.heap.size ≤ g) ∧ Kept (RFoot b v0 v1 v2 v3 v4 T) w (w6.setCell ⟨b, 1, none⟩ (.slice (some ⟨g, 0, none⟩) (r.at_.length + 1) cap)) := by
  obtain ⟨i0, hi0, hz0, hz1, hz2⟩ := info_parts infoI
  obtain ⟨W, hW⟩ : ∃ W, W = w.alloc (.cells #[.int .i64 0] 3) := ⟨_, rfl⟩
  have hs : W.heap.size = w.heap.size + 1 := by rw [hW]; simp
  have l1 : ∀ x, v1.ownBlock = some x → x < w.heap.size := fun x e => h.lt (by unfold RFoot; simp [e])
  have own : W.ownsRow 0 3 1 v1 r.at_.length (nats r.at_) := by rw [hW]; exact h.ats.alloc _
  have B3 : Below w.heap.size w W := by rw [hW]; exact (Below.refl _ _).alloc (Nat.le_refl _) _
  obtain ⟨g, cap, w6, r6, o6, g6, hat, hlt⟩ := run_append_lies (P := Try.prog) W 23 23 0 3 i0 _ 1 8 Try.underlying23 hi0 hz0 hz1 hz2 rfl (by decide) v1 r.at_.length (nats r.at_) own ⟨w.heap.size, 0, none⟩ 1 1 [.int .i64 0] rfl (by rw [hW]; exact World.news_of_block (heap_alloc_new _ _)) (by intro u hu; simp at hu; subst hu; rfl) (by decide) (by unfold maxLen; omega) (by omega) (Nat.zero_le _) _ rfl
  have hbl : b < w.heap.size := h.lt (Or.inl rfl)
  have nb : v1.ownBlock ≠ some b := ne_of_kind h.k1 h.kb (by decide)
  have z3 := g6.size
  have hk : ∀ x, x < w.heap.size → v1.ownBlock ≠ some x → w6.heap[x]? = w.heap[x]? := fun x hx hn => (g6.block x (by omega) (fun e => hn e.symm)).trans (B3.block x hx)
  have hbb : w6.heap[b]? = w.heap[b]? := hk b hbl nb
  have hgb : g ≠ b := fun e => by
    rcases hat with y | y
    · exact nb (e ▸ y)
    · omega
  have hfar : ∀ x, (Value.slice (some ⟨g, 0, none⟩) (r.at_.length + 1) cap).ownBlock = some x → (w6.setCell ⟨b, 1, none⟩ (.slice (some ⟨g, 0, none⟩) (r.at_.length + 1) cap)).heap[x]? = w6.heap[x]? := fun x e => by
    have e : g = x := by simpa [Value.ownBlock] using e
    subst e
    exact set_far hgb
  have P := h.put1 (W := w6.setCell ⟨b, 1, none⟩ (.slice (some ⟨g, 0, none⟩) (r.at_.length + 1) cap)) (l := r.at_ ++ [0]) (by simp; omega) (fun x hx hn hxb => by rw [set_far hxb]; exact hk x hx hn) (fun j hj => by rw [set_other hj]; exact World.cell?_of_block hbb) (set_same ((World.cell?_of_block hbb).trans h.c1)) (fun j => by rw [World.frozen?_setCell]; exact (fz_of_block hbb).trans (h.fz j)) (by rw [List.length_append, show nats (r.at_ ++ [0]) = nats r.at_ ++ [.int .i64 0] by simp [nats]]; exact owns_kept o6 hfar) (fun x e => by
    have e : g = x := by simpa [Value.ownBlock] using e
    subst e
    rcases hat with y | y
    · exact Or.inl y
    · right; omega)
  refine ⟨g, cap, w6, _, by rw [← hW]; exact r6, (World.cell?_of_block hbb).trans h.c1, (fz_of_block hbb).trans (h.fz 1), P, ?_, ?_⟩
  · rcases hat with y | y
    · exact Or.inl y
    · right; omega
  · refine ⟨g6.os.trans B3.os, g6.tape.trans B3.tape, g6.output.trans B3.output, by simp; omega, fun x hx hn => ?_⟩
    rw [set_far (fun e => hn (Or.inl e))]
    exact hk x hx (fun e => hn (by unfold RFoot; simp [e]))
end Go.Proofs.Ytlcbegmhmbegjaa
