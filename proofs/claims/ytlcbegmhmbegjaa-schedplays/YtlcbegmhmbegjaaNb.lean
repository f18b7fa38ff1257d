/- Copies of tasks. -/
import Derived.Test.YtlcbegmhmbegjaaNa
import Derived.Maps.AppendAt
namespace Go.Proofs.Ytlcbegmhmbegjaa
open Go.ChangeShapes Go.WideShapes Go.ChangeAt Go.RowKit Go.Proofs.Sc Go.Maps
set_option linter.unusedVariables false
set_option linter.unusedSimpArgs false

def flat (t : List Stp) : List Value := t.flatMap fun s => [.int .i64 s.op, .int .i64 s.a, .int .i64 s.b]
theorem flat_len (t : List Stp) : (flat t).length = t.length * 3 := by
  induction t with
  | nil => rfl
  | cons s r ih => simp only [flat, List.flatMap_cons, List.length_append, List.length_cons, List.length_nil] at ih ⊢; omega
theorem flat_one (t : List Stp) : ∀ u ∈ flat t, u.oneCell' = true := by
  intro u hu
  obtain ⟨s, _, h⟩ := List.mem_flatMap.1 hu
  simp at h
  rcases h with rfl | rfl | rfl <;> rfl
theorem flat_get : ∀ (t : List Stp) (j : Nat) (u : Value), (flat t)[j]? = some u → ∃ i s, t[i]? = some s ∧ ((j = i * 3 ∧ u = .int .i64 s.op) ∨ (j = i * 3 + 1 ∧ u = .int .i64 s.a) ∨ (j = i * 3 + 2 ∧ u = .int .i64 s.b))
  | [], j, u, h => by simp [flat] at h
  | s :: r, 0, u, h => ⟨0, s, rfl, Or.inl ⟨rfl, by simp [flat] at h; exact h.symm⟩⟩
  | s :: r, 1, u, h => ⟨0, s, rfl, Or.inr (Or.inl ⟨rfl, by simp [flat] at h; exact h.symm⟩)⟩
  | s :: r, 2, u, h => ⟨0, s, rfl, Or.inr (Or.inr ⟨rfl, by simp [flat] at h; exact h.symm⟩)⟩
  | s :: r, j + 3, u, h => by
    obtain ⟨i, s', h1, h2⟩ := flat_get r j u (by simpa [flat] using h)
    refine ⟨i + 1, s', by simpa using h1, ?_⟩
    rcases h2 with ⟨e, h⟩ | ⟨e, h⟩ | ⟨e, h⟩
    · exact Or.inl ⟨by omega, h⟩
    · exact Or.inr (Or.inl ⟨by omega, h⟩)
    · exact Or.inr (Or.inr ⟨by omega, h⟩)
theorem flat_at : ∀ (t : List Stp) (i : Nat) (s : Stp), t[i]? = some s → (flat t)[i * 3]? = some (.int .i64 s.op) ∧ (flat t)[i * 3 + 1]? = some (.int .i64 s.a) ∧ (flat t)[i * 3 + 2]? = some (.int .i64 s.b)
  | [], i, s, h => by simp at h
  | s0 :: r, 0, s, h => by simp at h; subst h; simp [flat]
  | s0 :: r, i + 1, s, h => by
    obtain ⟨a, b, c⟩ := flat_at r i s (by simpa using h)
    rw [show (i + 1) * 3 = i * 3 + 3 by omega]
    exact ⟨by simpa [flat] using a, by simpa [flat] using b, by simpa [flat] using c⟩
theorem infoS : (Try.prog.info? 36).map (fun i => (i.zero, i.size, i.bytes)) = some (some (.agg #[.int .i64 0, .int .i64 0, .int .i64 0]), 3, 24) := by kernel_rfl
theorem infoT : (Try.prog.info? 34).map (fun i => (i.zero, i.size, i.bytes)) = some (some (.slice none 0 0), 1, 24) := by kernel_rfl
/-- A row of steps of our own. -/
theorem steps_of_owns {w : World} {base n : Nat} {v : Value} {t : List Stp} (h : w.ownsRow base 36 3 v n (flat t)) : StepsAt w v t (fun x => base ≤ x) ∧ ∃ o c, v = .slice o t.length c := by
  have hl := h.1
  rw [flat_len] at hl
  have hn : t.length = n := by omega
  have H := h
  obtain ⟨_, ⟨rfl, rfl⟩ | ⟨g, cap, cur, rfl, hb, hh, hnc, hcm, hcs, ht⟩⟩ := h
  · obtain rfl := List.eq_nil_of_length_eq_zero hn
    exact ⟨⟨none, 0, rfl, Nat.le_refl _, by omega, fun _ => rfl, fun z => absurd rfl z⟩, none, 0, rfl⟩
  · have hg := (H.lt g rfl)
    refine ⟨⟨_, cap, by rw [hn], by omega, by unfold maxLen at hcm; omega, fun z => by (cases z), fun _ => ⟨g, 0, rfl, hg.1, hg.2, fun i s hi => ?_⟩⟩, _, cap, by rw [hn]⟩
    obtain ⟨a, b, c⟩ := flat_at t i s hi
    have hc := H.cells (g := g) rfl
    have ha := hc _ _ a
    have hb := hc _ _ b
    have hc' := hc _ _ c
    rw [addr_add0] at ha hb hc'
    rw [Nat.add_assoc, Nat.add_assoc]
    exact ⟨ha, hb, hc'⟩
theorem copy_run (w : World) (base : Nat) (ty : TypeId) {v u : Value} {t : List Stp} (hv : w.ownsRow base 36 3 v 0 []) (hu : StepsAt w u t (fun _ => True)) (ht : t.length ≤ 1000000) (hb : base ≤ w.heap.size) :
    ∃ o c w', (Builtin.append_ #[34, 34] ty #[v, u]).run Try.prog w = .ok (.slice o t.length c) w' ∧ StepsAt w' (.slice o t.length c) t (fun x => base ≤ x) ∧ w.grownBy w' v.ownBlock := by
  obtain ⟨i0, hi0, hz0, hz1, hz2⟩ := info_parts infoS
  obtain ⟨o, cap, rfl, h1, h2, h3, h4⟩ := hu
  cases o with
  | none =>
    obtain rfl := h3 rfl
    obtain rfl := List.eq_nil_of_length_eq_zero (show t.length = 0 by omega)
    have hr := run_append_owned_none (P := Try.prog) (w := w) base 34 ty 36 i0 3 Try.underlying34 hi0 v 0 [] hv
    obtain ⟨k, o, c, rfl⟩ := steps_of_owns (t := []) hv
    exact ⟨o, c, w, hr, k, ⟨rfl, rfl, rfl, Nat.le_refl _, fun _ _ _ => rfl⟩⟩
  | some ad =>
    have hnews : ∀ j u, (flat t)[j]? = some u → w.cell? (ad.add j) = some u := fun j u hu => by
      obtain ⟨i, s, hi, hc⟩ := flat_get t j u hu
      obtain ⟨g, off, e, _, hg, hcell⟩ := h4 (fun z => by rw [z] at hi; simp at hi)
      injection e with e
      subst e
      obtain ⟨q0, q1, q2⟩ := hcell i s hi
      rw [addr_add0]
      rcases hc with ⟨rfl, rfl⟩ | ⟨rfl, rfl⟩ | ⟨rfl, rfl⟩
      · exact q0
      · exact q1
      · exact q2
    obtain ⟨v', w', hr, hown, hg, _⟩ := run_append_own_at (P := Try.prog) w base 34 ty 36 i0 _ 3 24 Try.underlying34 hi0 hz0 hz1 hz2 rfl (by decide) v 0 [] hv ad t.length cap (flat t) (flat_len t) hnews (flat_one t) (by unfold maxLen; omega) (by omega) hb
    rw [List.nil_append] at hown
    obtain ⟨k, o, c, rfl⟩ := steps_of_owns hown
    exact ⟨o, c, w', hr, k, hg⟩

/-- An append whose run is known. -/
theorem wp_append_run {P : Program} {w w' : World} {o : Oper} {a : Act} {K : Act → World → Prop} {Q : Exit → Act → World → Prop} (s x : Operand) (t : TypeId)
    (ho : o.op = .call { callee := .builtin .append, args := #[s, x], argTypes := #[t, t] }) {v u v' : Value} (hs : a.eval s = v) (hx : a.eval x = u) (hr : (Builtin.append_ #[t, t] o.type #[v, u]).run P w = .ok v' w') (h : K (a.put o.dst v') w') : o.wp P a w K Q := by
  unfold Oper.wp execOp
  simp only [ho, resolve, invoke, builtin, Sem.run_bind, Sem.run_pure, Result.andThen_ok, List.map_toArray, List.map_cons, List.map_nil, hs, hx, hr]
  exact h
theorem step_append_run {P : Program} {w w' : World} {ops : Array Oper} {o : Oper} {a : Act} {K : Act → World → Prop} {Q : Exit → Act → World → Prop} {E : Prop} (hgd : o.guard = none) (s x : Operand) (t : TypeId)
    (ho : o.op = .call { callee := .builtin .append, args := #[s, x], argTypes := #[t, t] }) {v u v' : Value} (hs : a.eval s = v) (hx : a.eval x = u) (hr : (Builtin.append_ #[t, t] o.type #[v, u]).run P w = .ok v' w') (h : K (a.put o.dst v') w') :
    if Region.wanted o (yielded ops a.tmps) = true then Oper.wp P o a w K Q else E := by
  have hw : Region.wanted o (yielded ops a.tmps) = true := by simp [Region.wanted, hgd]
  rw [if_pos hw]
  exact wp_append_run s x t ho hs hx hr h
theorem list_append_run {P : Program} {w w' : World} {ops : Array Oper} {rest : List Oper} {o : Oper} {a : Act} {Q : Exit → Act → World → Prop} (hgd : o.guard = none) (s x : Operand) (t : TypeId)
    (ho : o.op = .call { callee := .builtin .append, args := #[s, x], argTypes := #[t, t] }) {v u v' : Value} (hs : a.eval s = v) (hx : a.eval x = u) (hr : (Builtin.append_ #[t, t] o.type #[v, u]).run P w = .ok v' w') (h : wpList P ops Q rest (a.put o.dst v') w') : wpList P ops Q (o :: rest) a w :=
  wpList_plain hgd fun _ hK => wp_append_run s x t ho hs hx hr (hK _ _ h)
variable {w : World}
/-- What New has made, behind i tasks. -/
structure Half (w0 w : World) (b : Nat) (L : List (List Stp)) (v0 : Value) (vs : List Value) : Prop where
  c0 : w.cell? ⟨b, 0, none⟩ = some v0
  c1 : w.cell? ⟨b, 1, none⟩ = some (.map (some w0.heap.size))
  c2 : w.cell? ⟨b, 2, none⟩ = some (.map (some (w0.heap.size + 1)))
  c3 : w.cell? ⟨b, 3, none⟩ = some (.slice none 0 0)
  c4 : w.cell? ⟨b, 4, none⟩ = some (.bool false)
  fz : ∀ k, w.frozen? ⟨b, k, none⟩ = false
  hb : b = w0.heap.size + 2
  m1 : MapOf w w0.heap.size 0 (fun _ => none)
  m2 : MapOf w (w0.heap.size + 1) 0 (fun _ => none)
  row : w.ownsRow 0 34 1 v0 L.length vs
  els : ∀ (i : Nat) (t : List Stp), L[i]? = some t → ∃ v, vs[i]? = some v ∧ StepsAt w v t (fun x => b < x ∧ v0.ownBlock ≠ some x)
  new : ∀ x, v0.ownBlock = some x → b < x
  below : Below w0.heap.size w0 w
theorem Half.done {w0 w : World} {b : Nat} {L : List (List Stp)} {v0 : Value} {vs : List Value} (h : Half w0 w b L v0 vs) (h0 : newS L = 0) (hok : ∀ t ∈ L, ∀ s ∈ t, s.Ok) :
    ∃ F, SI w ⟨b, 0, none⟩ (initS L) F ∧ Below w0.heap.size w0 w ∧ ∀ x, F x → w0.heap.size ≤ x := by
  have hb := h.hb
  have wf := Wf.init h0 hok
  have hl : 0 + lens (initS L).ahead ≤ 10000 := by have := wf.steps; omega
  have hbl := cell_lt h.c0
  refine ⟨_, ⟨b, v0, .slice none 0 0, w0.heap.size, w0.heap.size + 1, 0, vs, fun x => b < x ∧ v0.ownBlock ≠ some x ∧ x < w.heap.size, rfl, rfl, ⟨h.c0, h.c1, h.c2, h.c3, h.c4, h.fz, h.row, fun i t hi => ?_, h.m1, ⟨_, h.m2, fun _ => rfl⟩, World.ownsRow_nil w 0 3 1, fun x hx => hx.2.2, by omega, by omega, by omega, fun x hx => ?_, fun x hx => by simp [Value.ownBlock] at hx, fun x hx => ?_⟩, wf, hl⟩, h.below, fun x hx => ?_⟩
  · obtain ⟨v, e1, e2⟩ := h.els i t hi
    refine ⟨v, e1, ?_⟩
    obtain ⟨o, cap, h1, h2, h3, h4, h5⟩ := e2
    refine ⟨o, cap, h1, h2, h3, h4, fun z => ?_⟩
    obtain ⟨g, off, e, hT, hg, hc⟩ := h5 z
    exact ⟨g, off, e, ⟨hT.1, hT.2, hg⟩, hg, hc⟩
  · have := h.new x hx
    exact ⟨by omega, by omega, by omega, by simp [Value.ownBlock], fun z => z.2.1 hx⟩
  · have := hx.1
    exact ⟨by omega, by omega, by omega⟩
  · rcases hx with z | z | z | z | z | z
    · omega
    · omega
    · omega
    · have := h.new x z; omega
    · simp [Value.ownBlock] at z
    · have := z.1; omega
/-- One task more. -/
theorem Half.next {w0 wr : World} {b : Nat} {L : List (List Stp)} {v0 : Value} {vs : List Value} (h : Half w0 wr b L v0 vs) (hL : L.length ≤ 64) {t : List Stp} {u : Value} (hu : StepsAt wr u t (fun _ => True)) (ht : t.length ≤ 1000000) :
    ∃ o c w1 g cap w3, (Builtin.append_ #[34, 34] 34 #[.slice none 0 0, u]).run Try.prog wr.drew = .ok (.slice o t.length c) w1 ∧
      (Builtin.append_ #[22, 22] 22 #[v0, .slice (some ⟨w1.heap.size, 0, none⟩) 1 1]).run Try.prog (w1.alloc (.cells #[.slice o t.length c] 34)) = .ok (.slice (some ⟨g, 0, none⟩) (L.length + 1) cap) w3 ∧
      w1.cell? ⟨b, 0, none⟩ = some v0 ∧ w3.cell? ⟨b, 0, none⟩ = some v0 ∧ w3.frozen? ⟨b, 0, none⟩ = false ∧ (w1.alloc (.cells #[.slice o t.length c] 34)).cell? ⟨b, 0, none⟩ = some v0 ∧ 
      Half w0 (w3.setCell ⟨b, 0, none⟩ (.slice (some ⟨g, 0, none⟩) (L.length + 1) cap)) b (L ++ [t]) (.slice (some ⟨g, 0, none⟩) (L.length + 1) cap) (vs ++ [.slice o t.length c]) := by
  have hb := h.hb
  have hbl := cell_lt h.c0
  obtain ⟨i0, hi0, hz0, hz1, hz2⟩ := info_parts infoT
  have hsd : wr.drew.heap.size = wr.heap.size := rfl
  obtain ⟨o, c, w1, r1, s1, g1⟩ := copy_run wr.drew wr.heap.size 34 (World.ownsRow_nil wr.drew wr.heap.size 36 3) (hu.kept (w' := wr.drew) (Nat.le_refl _) (fun x _ _ => rfl)) ht (Nat.le_refl _)
  have k1 : ∀ x, x < wr.heap.size → w1.heap[x]? = wr.heap[x]? := fun x hx => g1.block x hx (by simp [Value.ownBlock])
  have z1 : wr.heap.size ≤ w1.heap.size := g1.size
  obtain ⟨W2, hW2⟩ : ∃ W2, W2 = w1.alloc (.cells #[.slice o t.length c] 34) := ⟨_, rfl⟩
  have k2 : ∀ x, x < w1.heap.size → W2.heap[x]? = w1.heap[x]? := fun x hx => by rw [hW2]; exact Below.heap_alloc _ _ _ hx
  have z2 : W2.heap.size = w1.heap.size + 1 := by rw [hW2]; simp
  have own2 : W2.ownsRow 0 34 1 v0 L.length vs := owns_kept h.row (fun x hx => by have := (h.row.lt x hx).2; rw [k2 x (by omega), k1 x this])
  obtain ⟨g, cap, w3, r3, own3, g3, hat, hlt⟩ := run_append_lies (P := Try.prog) W2 22 22 0 34 i0 _ 1 24 Try.underlying22 hi0 hz0 hz1 hz2 rfl (by decide) v0 L.length vs own2 ⟨w1.heap.size, 0, none⟩ 1 1 [.slice o t.length c] rfl (by rw [hW2]; exact World.news_of_block (heap_alloc_new _ _)) (by intro u hu; simp at hu; subst hu; rfl) (by decide) (by unfold maxLen; omega) (by omega) (Nat.zero_le _) _ rfl
  have n0 : v0.ownBlock ≠ some b := fun e => by have := h.new b e; omega
  have k3 : ∀ x, x < wr.heap.size → v0.ownBlock ≠ some x → w3.heap[x]? = wr.heap[x]? := fun x hx hn => by rw [g3.block x (by omega) (fun e => hn e.symm), k2 x (by omega), k1 x hx]
  have b3 := k3 b hbl n0
  have cb : ∀ k, w3.cell? ⟨b, k, none⟩ = wr.cell? ⟨b, k, none⟩ := fun k => World.cell?_of_block b3
  have z3 := g3.size
  have hgb : b < g := by
    rcases hat with e | e
    · exact h.new g e
    · omega
  have kn : ∀ x, v0.ownBlock = some x → x < wr.heap.size := fun x hx => (h.row.lt x hx).2
  refine ⟨o, c, w1, g, cap, w3, r1, by rw [hW2] at r3; exact r3, (World.cell?_of_block (k1 b hbl)).trans h.c0, (cb 0).trans h.c0, (fz_of_block b3).trans (h.fz 0), ?_, ?_⟩
  · rw [← hW2]; exact (World.cell?_of_block ((k2 b (by omega)).trans (k1 b hbl))).trans h.c0
  · have far : ∀ {x}, x ≠ b → (w3.setCell ⟨b, 0, none⟩ (.slice (some ⟨g, 0, none⟩) (L.length + 1) cap)).heap[x]? = w3.heap[x]? := fun e => set_far e
    have m1n : v0.ownBlock ≠ some w0.heap.size := fun e => by have := h.new _ e; omega
    have m2n : v0.ownBlock ≠ some (w0.heap.size + 1) := fun e => by have := h.new _ e; omega
    have hb0 := h.below.size
    refine ⟨set_same ((cb 0).trans h.c0), (set_other (by omega)).trans ((cb 1).trans h.c1), (set_other (by omega)).trans ((cb 2).trans h.c2), (set_other (by omega)).trans ((cb 3).trans h.c3), (set_other (by omega)).trans ((cb 4).trans h.c4), fun k => by rw [World.frozen?_setCell]; exact (fz_of_block b3).trans (h.fz k), hb, h.m1.kept ((far (by omega)).trans (k3 _ (by omega) m1n)), h.m2.kept ((far (by omega)).trans (k3 _ (by omega) m2n)), ?_, fun i t' hi => ?_, fun x hx => ?_, ?_⟩
    · rw [List.length_append]
      exact owns_kept own3 (fun x hx => far (by simp [Value.ownBlock] at hx; omega))
    · have hvl : vs.length = L.length := by have := h.row.1; omega
      by_cases e : i < L.length
      · rw [List.getElem?_append_left e] at hi
        obtain ⟨v, e1, e2⟩ := h.els i t' hi
        refine ⟨v, by rw [List.getElem?_append_left (by omega)]; exact e1, ?_⟩
        obtain ⟨o', cap', h1, h2, h3, h4, h5⟩ := e2
        refine ⟨o', cap', h1, h2, h3, h4, fun z => ?_⟩
        obtain ⟨gg, off, e', hT, hgg, hc⟩ := h5 z
        have hk : (w3.setCell ⟨b, 0, none⟩ (.slice (some ⟨g, 0, none⟩) (L.length + 1) cap)).heap[gg]? = wr.heap[gg]? := (far (by omega)).trans (k3 gg hgg hT.2)
        refine ⟨gg, off, e', ⟨hT.1, fun e => ?_⟩, by simp; omega, fun j s hj => ?_⟩
        · simp [Value.ownBlock] at e
          rcases hat with y | y
          · exact hT.2 (e ▸ y)
          · omega
        · obtain ⟨a1, a2, a3⟩ := hc j s hj
          exact ⟨(World.cell?_of_block hk).trans a1, (World.cell?_of_block hk).trans a2, (World.cell?_of_block hk).trans a3⟩
      · have hi0 : i = L.length := by
          have := (List.getElem?_eq_some_iff.1 hi).1
          rw [List.length_append, List.length_singleton] at this
          omega
        subst hi0
        rw [List.getElem?_append_right (Nat.le_refl _), Nat.sub_self] at hi
        cases hi
        refine ⟨_, by rw [List.getElem?_append_right (by omega), hvl, Nat.sub_self]; rfl, ?_⟩
        obtain ⟨o', cap', h1, h2, h3, h4, h5⟩ := s1
        refine ⟨o', cap', h1, h2, h3, h4, fun z => ?_⟩
        obtain ⟨gg, off, e', hT, hgg, hc⟩ := h5 z
        have hno : v0.ownBlock ≠ some gg := fun e => by have := kn gg e; omega
        have hk : (w3.setCell ⟨b, 0, none⟩ (.slice (some ⟨g, 0, none⟩) (L.length + 1) cap)).heap[gg]? = w1.heap[gg]? := (far (by omega)).trans ((g3.block gg (by omega) (fun e => hno e.symm)).trans (k2 gg hgg))
        refine ⟨gg, off, e', ⟨by omega, fun e => ?_⟩, by simp; omega, fun j s hj => ?_⟩
        · simp [Value.ownBlock] at e
          rcases hat with y | y
          · exact hno (e ▸ y)
          · omega
        · obtain ⟨a1, a2, a3⟩ := hc j s hj
          exact ⟨(World.cell?_of_block hk).trans a1, (World.cell?_of_block hk).trans a2, (World.cell?_of_block hk).trans a3⟩
    · simp [Value.ownBlock] at hx; omega
    · refine ⟨g3.os.trans (by rw [hW2]; exact g1.os.trans h.below.os), g3.tape.trans (by rw [hW2]; exact g1.tape.trans h.below.tape), g3.output.trans (by rw [hW2]; exact g1.output.trans h.below.output), by simp; omega, fun x hx => ?_⟩
      rw [far (by omega), k3 x (by omega) (fun e => by have := h.new x e; omega)]
      exact h.below.block x hx
theorem Half.start (w1 : World) : Half w1 (((w1.alloc (.map #[] 0)).alloc (.map #[] 0)).alloc (.cells #[.slice none 0 0, .map (some w1.heap.size), .map (some (w1.heap.size + 1)), .slice none 0 0, .bool false] 47)) (w1.heap.size + 1 + 1) [] (.slice none 0 0) [] := by
  obtain ⟨W1, h1⟩ : ∃ W1, W1 = w1.alloc (.map #[] 0) := ⟨_, rfl⟩
  obtain ⟨W2, h2⟩ : ∃ W2, W2 = W1.alloc (.map #[] 0) := ⟨_, rfl⟩
  rw [← h1, ← h2]
  have s1 : W1.heap.size = w1.heap.size + 1 := by rw [h1]; simp
  have s2 : W2.heap.size = w1.heap.size + 1 + 1 := by rw [h2]; simp; exact s1
  rw [← s2]
  have hc := heap_alloc_new W2 (.cells #[.slice none 0 0, .map (some w1.heap.size), .map (some (w1.heap.size + 1)), .slice none 0 0, .bool false] 47)
  refine ⟨by rw [World.cell?_alloc_new]; rfl, by rw [World.cell?_alloc_new]; rfl, by rw [World.cell?_alloc_new]; rfl, by rw [World.cell?_alloc_new]; rfl, by rw [World.cell?_alloc_new]; rfl, fun k => ?_, by omega, ?_, ?_, World.ownsRow_nil _ _ _ _, fun i t hi => by simp at hi, fun x hx => by simp [Value.ownBlock] at hx, ?_⟩
  · simp only [World.frozen?, hc]
    simp
  · refine (MapOf.kept (w := W1) (by rw [h1]; exact MapOf.made w1) ?_)
    rw [Below.heap_alloc _ _ _ (by omega), h2, Below.heap_alloc _ _ _ (by omega)]
  · refine (MapOf.kept (w := W2) (by rw [h2, ← s1]; exact MapOf.made W1) ?_)
    rw [Below.heap_alloc _ _ _ (by omega)]
  · rw [h2, h1]
    exact (((Below.refl _ _).alloc (Nat.le_refl _) _).alloc (by simp) _).alloc (by simp; omega) _
end Go.Proofs.Ytlcbegmhmbegjaa
