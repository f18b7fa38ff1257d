/- SchedLong: tasks laid in turns. -/
import Derived.Test.YthbohbhjegjniaaEn
import Derived.Test.YthbohbhjegjniaaLg
import Derived.Deep.OwnRows
namespace Go.Proofs.Ythbohbhjegjniaa
open Go.ChangeShapes Go.WideShapes Go.ChangeAt Go.RowKit Go.Proofs.Sc Go.Maps
set_option linter.unusedVariables false
set_option linter.unusedSimpArgs false

/-- Tasks in a block of their own, each in a block of its own. -/
structure Lt (w0 w : World) (g n : Nat) (R : List (List Stp)) : Prop where
  base : w0.heap.size ≤ g
  len : R.length = n
  block : ∃ cs : Array Value, w.heap[g]? = some (.cells cs 34 (0, 0)) ∧ cs.size = n ∧
    (∀ (k : Nat) (t : List Stp), R[k]? = some t → ∃ o c, cs[k]? = some (.slice o t.length c) ∧ w.ownsRow (g + 1) 36 3 (.slice o t.length c) t.length (flat t)) ∧
    (∀ (k k' : Nat) (u u' : Value) (b : Nat), cs[k]? = some u → cs[k']? = some u' → u.ownBlock = some b → u'.ownBlock = some b → k = k')
  below : Below w0.heap.size w0 w
theorem Lt.start (w : World) (n : Nat) : Lt w (w.alloc (.cells (madeCells #[.slice none 0 0] n) 34)) w.heap.size n (rowsAt n 0) := by
  have hget : ∀ (k : Nat) (u : Value), (madeCells #[Value.slice none 0 0] n)[k]? = some u → u = .slice none 0 0 := by
    intro k u h
    unfold madeCells at h
    rw [Array.getElem?_map] at h
    cases e : (Array.range n)[k]? with
    | none => rw [e] at h; cases h
    | some j => rw [e] at h; simp [Nat.mod_one] at h; exact h.symm
  refine ⟨Nat.le_refl _, rows_len n 0, ⟨_, heap_alloc_new w _, size_madeCells _ _, fun k t hk => ?_, fun k k' u u' b h1 _ h3 _ => ?_⟩, (Below.refl _ _).alloc (Nat.le_refl _) _⟩
  · have hkn : k < n := by have := (List.getElem?_eq_some_iff.1 hk).1; rw [rows_len] at this; exact this
    have ht : t = [] := by rw [rowsAt, List.getElem?_replicate, if_pos hkn] at hk; exact (Option.some.inj hk).symm
    subst ht
    have hs : k < (madeCells #[Value.slice none 0 0] n).size := by rw [size_madeCells]; exact hkn
    refine ⟨none, 0, ?_, World.ownsRow_nil _ _ _ _⟩
    have e := Array.getElem?_eq_getElem hs
    rw [hget k _ e] at e
    exact e
  · rw [hget k u h1] at h3; cases h3
theorem Lt.tasks {w0 w : World} {g n : Nat} {R : List (List Stp)} (h : Lt w0 w g n R) (hn : n ≤ 9223372036854775807) : TasksAt w (.slice (some ⟨g, 0, none⟩) n n) R := by
  obtain ⟨cs, h1, h2, h3, _⟩ := h.block
  refine tasks_block h1 h.len (Nat.le_refl _) hn (fun i t hi => ?_)
  obtain ⟨o, c, e1, e2⟩ := h3 i t hi
  exact ⟨_, e1, (steps_of_owns e2).1.mono (fun _ _ => trivial)⟩
theorem Lt.at {w0 w : World} {g n : Nat} {R : List (List Stp)} (h : Lt w0 w g n R) {k : Nat} {t : List Stp} (hk : R[k]? = some t) (s : Stp) (hl : t.length ≤ 1000000) (ty : TypeId) :
    ∃ o c, w.cell? ⟨g, k, none⟩ = some (.slice o t.length c) ∧ w.frozen? ⟨g, k, none⟩ = false ∧ g < w.heap.size ∧ ∃ g' c' w', (Builtin.append_ #[34, 34] ty #[.slice o t.length c, .slice (some ⟨w.heap.size, 0, none⟩) 1 1]).run Try.prog (w.drew.alloc (.cells #[.int .i64 s.op, .int .i64 s.a, .int .i64 s.b] 36)) = .ok (.slice (some ⟨g', 0, none⟩) (t.length + 1) c') w' ∧
      w'.cell? ⟨g, k, none⟩ = some (.slice o t.length c) ∧ w'.frozen? ⟨g, k, none⟩ = false ∧ Lt w0 (w'.setCell ⟨g, k, none⟩ (.slice (some ⟨g', 0, none⟩) (t.length + 1) c')) g n (R.set k (t ++ [s])) := by
  obtain ⟨cs, h1, h2, h3, h4⟩ := h.block
  obtain ⟨o, c, e1, e2⟩ := h3 k t hk
  obtain ⟨i0, hi0, hz0, hz1, hz2⟩ := info_parts infoS
  have hg : g < w.heap.size := (Array.getElem?_eq_some_iff.1 h1).1
  have hbase := h.base
  have own : (w.drew.alloc (.cells #[.int .i64 s.op, .int .i64 s.a, .int .i64 s.b] 36)).ownsRow (g + 1) 36 3 (.slice o t.length c) t.length (flat t) := (show w.drew.ownsRow (g + 1) 36 3 (.slice o t.length c) t.length (flat t) from e2).alloc _
  have fs : flat [s] = [.int .i64 s.op, .int .i64 s.a, .int .i64 s.b] := rfl
  obtain ⟨g', c', w', r1, o1, gr, hat, hlt⟩ := run_append_lies (P := Try.prog) (w.drew.alloc (.cells #[.int .i64 s.op, .int .i64 s.a, .int .i64 s.b] 36)) 34 ty (g + 1) 36 i0 _ 3 24 Try.underlying34 hi0 hz0 hz1 hz2 rfl (by decide) _ t.length (flat t) own ⟨w.heap.size, 0, none⟩ 1 1 (flat [s]) (flat_len [s]) (World.news_of_block (heap_alloc_new w.drew _)) (flat_one [s]) (by decide) (by unfold maxLen; omega) (by omega) (by simp; omega) (w.heap.size + 1) (by simp)
  have cg : w.cell? ⟨g, k, none⟩ = some (.slice o t.length c) := by rw [cell_of_row w g _ cs _ (0, 0) h1]; exact e1
  have ownlt : ∀ b, (Value.slice o t.length c).ownBlock = some b → g + 1 ≤ b ∧ b < w.heap.size := fun b hb => e2.lt b hb
  have hk1 : ∀ b, b < w.heap.size → (Value.slice o t.length c).ownBlock ≠ some b → w'.heap[b]? = w.heap[b]? := fun b hb hne => by
    rw [gr.block b (by simp; omega) (fun e => hne e.symm)]
    exact Below.heap_alloc w.drew _ _ hb
  have hgg : w'.heap[g]? = w.heap[g]? := hk1 g hg (fun e => by have := ownlt g e; omega)
  have gp : g + 1 ≤ g' := (o1.lt g' rfl).1
  have gs := gr.size
  simp only [World.size_alloc] at gs
  refine ⟨o, c, cg, by simp [World.frozen?, h1], hg, g', c', w', r1, (World.cell?_of_block (a := ⟨g, k, none⟩) hgg).trans cg, by simp [World.frozen?, hgg, h1], ?_⟩
  have hkn : k < n := by have := (List.getElem?_eq_some_iff.1 hk).1; rw [h.len] at this; exact this
  have hset : (w'.setCell ⟨g, k, none⟩ (.slice (some ⟨g', 0, none⟩) (t.length + 1) c')).heap[g]? = some (.cells (cs.setIfInBounds k (.slice (some ⟨g', 0, none⟩) (t.length + 1) c')) 34 (0, 0)) := by
    obtain ⟨hl1, hl2⟩ := Array.getElem?_eq_some_iff.1 (hgg.trans h1)
    show (w'.heap.modify g _)[g]? = _
    rw [Array.getElem?_eq_getElem (by rw [Array.size_modify]; exact hl1), Array.getElem_modify_self, hl2]
    rfl
  have hset2 : ∀ b, b ≠ g → (w'.setCell ⟨g, k, none⟩ (.slice (some ⟨g', 0, none⟩) (t.length + 1) c')).heap[b]? = w'.heap[b]? := fun b hb => Below.heap_setCell _ _ _ _ (fun e => hb (by simpa using e))
  refine ⟨h.base, by rw [List.length_set]; exact h.len, ⟨_, hset, by simp [h2], fun j t' hj => ?_, fun j j' u u' b hu hu' hb hb' => ?_⟩, ?_⟩
  · by_cases e : j = k
    · subst e
      rw [List.getElem?_set_self (by rw [h.len]; exact hkn)] at hj
      obtain rfl := Option.some.inj hj
      refine ⟨some ⟨g', 0, none⟩, c', ?_, ?_⟩
      · rw [Array.getElem?_setIfInBounds_self_of_lt (by omega)]; simp
      · have : (t ++ [s]).length = t.length + 1 := by simp
        rw [this, flat_append]
        exact owns_kept o1 (fun x hx => hset2 x (by have := (o1.lt x hx).1; omega))
    · rw [List.getElem?_set_ne (fun z => e z.symm)] at hj
      obtain ⟨o', d', a1, a2⟩ := h3 j t' hj
      refine ⟨o', d', by rw [Array.getElem?_setIfInBounds_ne (fun z => e z.symm)]; exact a1, owns_kept a2 (fun x hx => ?_)⟩
      have hx' := a2.lt x hx
      rw [hset2 x (by omega)]
      exact hk1 x hx'.2 (fun z => e (h4 j k _ _ x a1 e1 hx z))
  · have old : ∀ (j : Nat) (u : Value) (b : Nat), j ≠ k → (cs.setIfInBounds k (.slice (some ⟨g', 0, none⟩) (t.length + 1) c'))[j]? = some u → cs[j]? = some u := fun j u b hj hu => by
      rw [Array.getElem?_setIfInBounds_ne (fun z => hj z.symm)] at hu; exact hu
    have new : ∀ (u : Value), (cs.setIfInBounds k (.slice (some ⟨g', 0, none⟩) (t.length + 1) c'))[k]? = some u → u.ownBlock = some g' := fun u hu => by
      rw [Array.getElem?_setIfInBounds_self_of_lt (by omega)] at hu
      rw [← Option.some.inj hu]; rfl
    have clash : ∀ (j : Nat) (u : Value), j ≠ k → cs[j]? = some u → u.ownBlock = some g' → False := fun j u hj hu hb => by
      rcases hat with y | y
      · exact hj (h4 j k _ _ g' hu e1 hb y)
      · have hjn : j < n := by have := (Array.getElem?_eq_some_iff.1 hu).1; omega
        have hl : j < R.length := by rw [h.len]; exact hjn
        obtain ⟨o', d', a1, a2⟩ := h3 j _ (List.getElem?_eq_getElem hl)
        rw [a1] at hu
        obtain rfl := Option.some.inj hu
        have := (a2.lt g' hb).2
        omega
    by_cases e : j = k
    · by_cases e' : j' = k
      · rw [e, e']
      · subst e
        have := new u hu
        rw [hb] at this
        obtain rfl := Option.some.inj this
        exact (clash j' u' e' (old j' u' b e' hu') hb').elim
    · by_cases e' : j' = k
      · subst e'
        have := new u' hu'
        rw [hb'] at this
        obtain rfl := Option.some.inj this
        exact (clash j u e (old j u b e hu) hb).elim
      · exact h4 j j' u u' b (old j u b e hu) (old j' u' b e' hu') hb hb'
  · have hb1 : Below w0.heap.size w0 w' := by
      have h5 := h.below
      have h6 := h5.size
      exact ((h5.drew).alloc (by simpa using h6) _).grown gr (by simp; omega) (fun j ej => by have := ownlt j ej; omega)
    exact hb1.setCell (p := ⟨g, k, none⟩) h.base _
end Go.Proofs.Ythbohbhjegjniaa
