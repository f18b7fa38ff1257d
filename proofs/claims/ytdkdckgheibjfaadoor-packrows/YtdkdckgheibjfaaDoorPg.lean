/- Lists of a law's own. -/
import Derived.Test.YtdkdckgheibjfaaDoorPf
namespace Go.Proofs.YtdkdckgheibjfaaDoor
open Go.ChangeShapes Go.WideShapes Go.ChangeAt Go.RowKit Go.Proofs.Pk Go.Maps
set_option linter.unusedVariables false
set_option linter.unusedSimpArgs false

theorem owns_kept {w w' : World} {base : Nat} {e : TypeId} {size : Nat} {v : Value} {n : Nat} {xs : List Value} (h : w.ownsRow base e size v n xs) (hk : ∀ x, v.ownBlock = some x → w'.heap[x]? = w.heap[x]?) : w'.ownsRow base e size v n xs := by
  obtain ⟨h1, h2 | ⟨g, cap, cur, e1, hb, hh, r⟩⟩ := h
  · exact ⟨h1, Or.inl h2⟩
  · exact ⟨h1, Or.inr ⟨g, cap, cur, e1, hb, (hk g (by rw [e1]; rfl)).trans hh, r⟩⟩
/-- An append whose run is known. -/
theorem wp_append_run {P : Program} {w w' : World} {o : Oper} {a : Act} {K : Act → World → Prop} {Q : Exit → Act → World → Prop} (s x : Operand) (t : TypeId)
    (ho : o.op = .call { callee := .builtin .append, args := #[s, x], argTypes := #[t, t] }) {v u v' : Value} (hs : a.eval s = v) (hx : a.eval x = u) (hr : (Builtin.append_ #[t, t] o.type #[v, u]).run P w = .ok v' w') (h : K (a.put o.dst v') w') : o.wp P a w K Q := by
  unfold Oper.wp execOp
  simp only [ho, resolve, invoke, builtin, Sem.run_bind, Sem.run_pure, Result.andThen_ok, List.map_toArray, List.map_cons, List.map_nil, hs, hx, hr]
  exact h
theorem list_append_run {P : Program} {w w' : World} {ops : Array Oper} {rest : List Oper} {o : Oper} {a : Act} {Q : Exit → Act → World → Prop} (hgd : o.guard = none) (s x : Operand) (t : TypeId)
    (ho : o.op = .call { callee := .builtin .append, args := #[s, x], argTypes := #[t, t] }) {v u v' : Value} (hs : a.eval s = v) (hx : a.eval x = u) (hr : (Builtin.append_ #[t, t] o.type #[v, u]).run P w = .ok v' w') (h : wpList P ops Q rest (a.put o.dst v') w') : wpList P ops Q (o :: rest) a w :=
  wpList_plain hgd fun _ hK => wp_append_run s x t ho hs hx hr (hK _ _ h)

/-- Summaries in memory that is newer than w0. -/
structure Os (w0 w : World) (v : Value) (t : List Sm) : Prop where
  row : w.ownsRow w0.heap.size 28 3 v t.length (flat t)
  be : Below w0.heap.size w0 w
theorem Os.start (w : World) : Os w w (.slice none 0 0) [] := ⟨World.ownsRow_nil w w.heap.size 28 3, Below.refl _ _⟩
theorem Os.next {w0 w w' : World} {v : Value} {t : List Sm} (h : Os w0 w v t) (hb : Below w.heap.size w w') : Os w0 w' v t :=
  ⟨owns_kept h.row (fun x hx => hb.block x (h.row.lt x hx).2), h.be.trans (hb.mono h.be.size)⟩
theorem Os.sums {w0 w : World} {v : Value} {t : List Sm} (h : Os w0 w v t) : SumsAt w v t (fun x => w0.heap.size ≤ x) := (sums_of_owns h.row).1
theorem Os.shape {w0 w : World} {v : Value} {t : List Sm} (h : Os w0 w v t) : ∃ o c, v = .slice o t.length c := (sums_of_owns h.row).2
theorem flat_snoc (t : List Sm) (s : Sm) : flat (t ++ [s]) = flat t ++ [.int .i64 s.s, .int .i64 s.m, .int .i64 s.e] := flat_app t [s]
/-- l = append(l, s). -/
theorem Os.push {w0 w : World} {v : Value} {t : List Sm} (h : Os w0 w v t) (hL : t.length ≤ 1000000) (s : Sm) (ty : TypeId) :
    ∃ g cap w', (Builtin.append_ #[26, 26] ty #[v, .slice (some ⟨w.heap.size, 0, none⟩) 1 1]).run Tryd.prog (w.alloc (.cells #[.int .i64 s.s, .int .i64 s.m, .int .i64 s.e] 28)) = .ok (.slice (some ⟨g, 0, none⟩) (t.length + 1) cap) w' ∧ Os w0 w' (.slice (some ⟨g, 0, none⟩) (t.length + 1) cap) (t ++ [s]) := by
  obtain ⟨i0, hi0, hz0, hz1, hz2⟩ := info_parts infoS
  obtain ⟨h1, h3⟩ := h
  obtain ⟨W, hW⟩ : ∃ W, W = w.alloc (.cells #[.int .i64 s.s, .int .i64 s.m, .int .i64 s.e] 28) := ⟨_, rfl⟩
  have hs : W.heap.size = w.heap.size + 1 := by rw [hW]; simp
  have own : W.ownsRow w0.heap.size 28 3 v t.length (flat t) := by rw [hW]; exact h1.alloc _
  have hb0 := h3.size
  obtain ⟨g, cap, w', r1, o1, g1, hat, hlt⟩ := run_append_lies (P := Tryd.prog) W 26 ty w0.heap.size 28 i0 _ 3 24 Tryd.underlying26 hi0 hz0 hz1 hz2 rfl (by decide) v t.length (flat t) own ⟨w.heap.size, 0, none⟩ 1 1 [.int .i64 s.s, .int .i64 s.m, .int .i64 s.e] rfl (by rw [hW]; exact World.news_of_block (heap_alloc_new _ _)) (by intro u hu; simp at hu; rcases hu with rfl | rfl | rfl <;> rfl) (by decide) (by unfold maxLen; omega) (by omega) (by omega) _ rfl
  refine ⟨g, cap, w', by rw [← hW]; exact r1, ⟨?_, ?_⟩⟩
  · rw [List.length_append, flat_snoc]; exact o1
  · rw [hW] at g1
    exact (h3.alloc hb0 _).grown g1 (by simp; omega) (fun k hk => (h1.lt k hk).1)
/-- append([]api.Sum{}, l...). -/
theorem copy_run {w0 w : World} {u : Value} {t : List Sm} {T : Nat → Prop} (hb : Below w0.heap.size w0 w) (ty : TypeId) (hu : SumsAt w u t T) (ht : t.length ≤ 1000000) :
    ∃ o c w', (Builtin.append_ #[26, 26] ty #[.slice (some ⟨w.heap.size, 0, none⟩) 0 0, u]).run Tryd.prog (w.alloc (.cells #[] 28)) = .ok (.slice o t.length c) w' ∧ Os w0 w' (.slice o t.length c) t := by
  obtain ⟨i0, hi0, hz0, hz1, hz2⟩ := info_parts infoS
  obtain ⟨W, hW⟩ : ∃ W, W = w.alloc (.cells #[] 28) := ⟨_, rfl⟩
  have hb0 := hb.size
  have hv : W.ownsRow w0.heap.size 28 3 (.slice (some ⟨w.heap.size, 0, none⟩) 0 0) 0 [] := ⟨rfl, Or.inr ⟨w.heap.size, 0, #[], rfl, hb0, by rw [hW]; exact heap_alloc_new _ _, Nat.le_refl _, Nat.zero_le _, rfl, rfl⟩⟩
  have hbW : Below w0.heap.size w0 W := by rw [hW]; exact hb.alloc hb0 _
  have hu' : SumsAt W u t T := hu.below (by rw [hW]; exact alloc1 _ _)
  rw [← hW]
  obtain ⟨o, cap, rfl, h1, h2, h3, h4⟩ := hu'
  cases o with
  | none =>
    obtain rfl := h3 rfl
    obtain rfl := List.eq_nil_of_length_eq_zero (show t.length = 0 by omega)
    have hr := run_append_owned_none (P := Tryd.prog) (w := W) w0.heap.size 26 ty 28 i0 3 Tryd.underlying26 hi0 _ 0 [] hv
    exact ⟨_, _, W, hr, ⟨hv, hbW⟩⟩
  | some ad =>
    have hnews : ∀ j u, (flat t)[j]? = some u → W.cell? (ad.add j) = some u := fun j u hu => by
      obtain ⟨i, s, hi, hc⟩ := flat_get t j u hu
      obtain ⟨g, off, e, _, hg, hcell⟩ := h4 (fun z => by rw [z] at hi; simp at hi)
      injection e with e
      subst e
      obtain ⟨q0, q1, q2⟩ := hcell i s hi
      rw [addr_add0]
      rcases hc with ⟨rfl, rfl⟩ | ⟨rfl, rfl⟩ | ⟨rfl, rfl⟩
      · exact q0
      · exact q1
      · exact q2
    obtain ⟨v', w', hr, hown, hg, _⟩ := run_append_own_at (P := Tryd.prog) W w0.heap.size 26 ty 28 i0 _ 3 24 Tryd.underlying26 hi0 hz0 hz1 hz2 rfl (by decide) _ 0 [] hv ad t.length cap (flat t) (flat_len t) hnews (flat_one t) (by unfold maxLen; omega) (by omega) hbW.size
    rw [List.nil_append, Nat.zero_add] at hown
    obtain ⟨o, c, rfl⟩ := (sums_of_owns hown).2
    exact ⟨o, c, w', hr, ⟨hown, hbW.grown hg hbW.size (fun k hk => (hv.lt k hk).1)⟩⟩
/-- A list with a mark behind it. -/
structure Mk (w0 w : World) (g cap : Nat) (t : List Sm) : Prop where
  os : Os w0 w (.slice (some ⟨g, 0, none⟩) (t.length + 1) cap) (t ++ [⟨171, 0, 0⟩])
theorem Mk.next {w0 w w' : World} {g cap : Nat} {t : List Sm} (h : Mk w0 w g cap t) (hb : Below w.heap.size w w') : Mk w0 w' g cap t := ⟨h.os.next hb⟩
theorem Mk.cap {w0 w : World} {g cap : Nat} {t : List Sm} (h : Mk w0 w g cap t) : t.length < cap ∧ cap ≤ 9223372036854775807 := by
  obtain ⟨o, c, e, h2, h3, _⟩ := h.os.sums
  injection e with e1 e2 e3
  rw [List.length_append, List.length_singleton] at h2
  omega
theorem Mk.at {w0 w : World} {g cap : Nat} {t : List Sm} (h : Mk w0 w g cap t) {i : Nat} {s : Sm} (hi : (t ++ [(⟨171, 0, 0⟩ : Sm)])[i]? = some s) : g < w.heap.size ∧ w.cell? ⟨g, i * 3, none⟩ = some (.int .i64 s.s) ∧ w.cell? ⟨g, i * 3 + 1, none⟩ = some (.int .i64 s.m) ∧ w.cell? ⟨g, i * 3 + 2, none⟩ = some (.int .i64 s.e) := by
  obtain ⟨o, c, e, h2, h3, h4, h5⟩ := h.os.sums
  injection e with e1 e2 e3
  obtain ⟨g', off, e, hT, hg, hc⟩ := h5 (by simp)
  rw [← e1] at e
  injection e with e
  injection e with e5 e6
  subst e5 e6
  have := hc i s hi
  rw [Nat.zero_add] at this
  exact ⟨hg, this⟩
theorem Mk.sums {w0 w : World} {g cap : Nat} {t : List Sm} (h : Mk w0 w g cap t) : SumsAt w (.slice (some ⟨g, 0, none⟩) t.length cap) t (fun _ => True) := by
  have hc := h.cap
  refine ⟨_, cap, rfl, by omega, hc.2, fun z => (by cases z), fun z => ⟨g, 0, rfl, trivial, ?_, fun i s hi => ?_⟩⟩
  · exact (h.at (i := t.length) (s := ⟨171, 0, 0⟩) (by simp)).1
  · have hl := (List.getElem?_eq_some_iff.1 hi).1
    have := (h.at (i := i) (s := s) (by rw [List.getElem?_append_left hl]; exact hi)).2
    rw [Nat.zero_add]
    exact this
end Go.Proofs.YtdkdckgheibjfaaDoor
