/- The law's own copy of the tasks, in rows of its own. -/
import Derived.Test.YtlcbegmhmbegjaaOw
import Derived.Test.YtlcbegmhmbegjaaAk
namespace Go.Proofs.Ytlcbegmhmbegjaa
open Go.ChangeShapes Go.WideShapes Go.ChangeAt Go.RowKit Go.Proofs.Sc Go.Maps
set_option linter.unusedVariables false
set_option linter.unusedSimpArgs false

theorem copy_own (w : World) (base : Nat) (ty : TypeId) {v u : Value} {t : List Stp} (hv : w.ownsRow base 36 3 v 0 []) (hu : StepsAt w u t (fun _ => True)) (ht : t.length ≤ 1000000) (hb : base ≤ w.heap.size) :
    ∃ o c w', (Builtin.append_ #[34, 34] ty #[v, u]).run Try.prog w = .ok (.slice o t.length c) w' ∧ w'.ownsRow base 36 3 (.slice o t.length c) t.length (flat t) ∧ w.grownBy w' v.ownBlock := by
  obtain ⟨i0, hi0, hz0, hz1, hz2⟩ := info_parts infoS
  obtain ⟨o, cap, rfl, h1, h2, h3, h4⟩ := hu
  cases o with
  | none =>
    obtain rfl := h3 rfl
    obtain rfl := List.eq_nil_of_length_eq_zero (show t.length = 0 by omega)
    have hr := run_append_owned_none (P := Try.prog) (w := w) base 34 ty 36 i0 3 Try.underlying34 hi0 v 0 [] hv
    obtain ⟨k, o, c, rfl⟩ := steps_of_owns (t := []) hv
    exact ⟨o, c, w, hr, hv, ⟨rfl, rfl, rfl, Nat.le_refl _, fun _ _ _ => rfl⟩⟩
  | some ad =>
    have hnews : ∀ j u, (flat t)[j]? = some u → w.cell? (ad.add j) = some u := fun j u hu => by
      obtain ⟨i, s, hi, hc⟩ := flat_get t j u hu
      obtain ⟨g, off, e, _, hg, hcell⟩ := h4 (fun z => by rw [z] at hi; simp at hi)
      injection e with e
      subst e
      obtain ⟨q0, q1, q2⟩ := hcell i s hi
      rw [addr_add0]
      rcases hc with ⟨rfl, rfl⟩ | ⟨rfl, rfl⟩ | ⟨rfl, rfl⟩
      · exact q0
      · exact q1
      · exact q2
    obtain ⟨v', w', hr, hown, hg, _⟩ := run_append_own_at (P := Try.prog) w base 34 ty 36 i0 _ 3 24 Try.underlying34 hi0 hz0 hz1 hz2 rfl (by decide) v 0 [] hv ad t.length cap (flat t) (flat_len t) hnews (flat_one t) (by unfold maxLen; omega) (by omega) hb
    rw [List.nil_append, Nat.zero_add] at hown
    obtain ⟨k, o, c, rfl⟩ := steps_of_owns hown
    exact ⟨o, c, w', hr, hown, hg⟩
/-- Tasks in rows of their own, newer than w0. -/
structure Ox (w0 w : World) (v : Value) (L : List (List Stp)) : Prop where
  row : ∃ vs, w.ownsRow w0.heap.size 34 1 v L.length vs ∧ ∀ (i : Nat) (t : List Stp), L[i]? = some t → ∃ u, vs[i]? = some u ∧ w.ownsRow w0.heap.size 36 3 u t.length (flat t) ∧ ∀ x, u.ownBlock = some x → v.ownBlock ≠ some x
  below : Below w0.heap.size w0 w
theorem Ox.start (w : World) : Ox w w (.slice none 0 0) [] := ⟨⟨[], World.ownsRow_nil w w.heap.size 34 1, fun i t hi => by simp at hi⟩, Below.refl _ _⟩
theorem Ox.more {w0 w w' : World} {v : Value} {L : List (List Stp)} (h : Ox w0 w v L) (hb : Below w.heap.size w w') : Ox w0 w' v L := by
  obtain ⟨⟨vs, h1, h2⟩, h3⟩ := h
  refine ⟨⟨vs, owns_kept h1 (fun x hx => hb.block x (h1.lt x hx).2), fun i t hi => ?_⟩, h3.trans (hb.mono h3.size)⟩
  obtain ⟨u, e1, e2, e3⟩ := h2 i t hi
  exact ⟨u, e1, owns_kept e2 (fun x hx => hb.block x (e2.lt x hx).2), e3⟩
theorem Ox.tasks {w0 w : World} {v : Value} {L : List (List Stp)} (h : Ox w0 w v L) : TasksAt w v L := by
  obtain ⟨⟨vs, h1, h2⟩, h3⟩ := h
  have H := h1
  obtain ⟨hl, ⟨e, z⟩ | ⟨g, cap, cur, e, _, hh, hc, hm, _⟩⟩ := h1
  · obtain rfl := List.eq_nil_of_length_eq_zero z
    exact ⟨none, 0, e, Nat.le_refl _, by omega, fun _ => rfl, fun y => absurd rfl y⟩
  · rw [e] at H
    refine ⟨_, cap, e, hc, by unfold maxLen at hm; omega, fun y => by (cases y), fun _ => ⟨g, 0, rfl, (Array.getElem?_eq_some_iff.1 hh).1, fun i t hi => ?_⟩⟩
    obtain ⟨u, e1, e2, e3⟩ := h2 i t hi
    refine ⟨u, ?_, (steps_of_owns e2).1.mono (fun _ _ => trivial)⟩
    rw [Nat.zero_add, H.cellAt i (by have := (List.getElem?_eq_some_iff.1 hi).1; omega)]
    exact e1
theorem Ox.shape {w0 w : World} {v : Value} {L : List (List Stp)} (h : Ox w0 w v L) : ∃ o cap, v = .slice o L.length cap ∧ L.length ≤ cap ∧ cap ≤ 9223372036854775807 := h.tasks.shape
theorem Ox.push {w0 w : World} {v : Value} {L : List (List Stp)} (h : Ox w0 w v L) (hL : L.length ≤ 1000000) {t : List Stp} {o : Option Addr} {n c : Nat} (ht : w.ownsRow w0.heap.size 36 3 (.slice o n c) t.length (flat t)) (hne : ∀ x, (Value.slice o n c).ownBlock = some x → v.ownBlock ≠ some x) (ty : TypeId) :
    ∃ g cap w', (Builtin.append_ #[22, 22] ty #[v, .slice (some ⟨w.heap.size, 0, none⟩) 1 1]).run Try.prog (w.alloc (.cells #[.slice o n c] 34)) = .ok (.slice (some ⟨g, 0, none⟩) (L.length + 1) cap) w' ∧ Ox w0 w' (.slice (some ⟨g, 0, none⟩) (L.length + 1) cap) (L ++ [t]) := by
  obtain ⟨i0, hi0, hz0, hz1, hz2⟩ := info_parts infoT
  obtain ⟨⟨vs, h1, h2⟩, h3⟩ := h
  obtain ⟨W, hW⟩ : ∃ W, W = w.alloc (.cells #[.slice o n c] 34) := ⟨_, rfl⟩
  have hs : W.heap.size = w.heap.size + 1 := by rw [hW]; simp
  have own : W.ownsRow w0.heap.size 34 1 v L.length vs := by rw [hW]; exact h1.alloc _
  have hb0 := h3.size
  obtain ⟨g, cap, w', r1, o1, g1, hat, hlt⟩ := run_append_lies (P := Try.prog) W 22 ty w0.heap.size 34 i0 _ 1 24 Try.underlying22 hi0 hz0 hz1 hz2 rfl (by decide) v L.length vs own ⟨w.heap.size, 0, none⟩ 1 1 [.slice o n c] rfl (by rw [hW]; exact World.news_of_block (heap_alloc_new _ _)) (by intro u hu; simp at hu; subst hu; rfl) (by decide) (by unfold maxLen; omega) (by omega) (by omega) _ rfl
  refine ⟨g, cap, w', by rw [← hW]; exact r1, ⟨⟨vs ++ [.slice o n c], by rw [List.length_append]; exact o1, fun i t' hi => ?_⟩, ?_⟩⟩
  · have hvl : vs.length = L.length := by have := h1.1; omega
    have keep : ∀ {u : Value} {t : List Stp}, w.ownsRow w0.heap.size 36 3 u t.length (flat t) → (∀ x, u.ownBlock = some x → v.ownBlock ≠ some x) → w'.ownsRow w0.heap.size 36 3 u t.length (flat t) ∧ ∀ x, u.ownBlock = some x → (Value.slice (some ⟨g, 0, none⟩) (L.length + 1) cap).ownBlock ≠ some x := fun {u t} k k2 => by
      refine ⟨owns_kept k (fun x hx => ?_), fun x hx e => ?_⟩
      · have hx2 := (k.lt x hx).2
        rw [g1.block x (by omega) (fun e => k2 x hx e.symm), hW, Below.heap_alloc _ _ _ hx2]
      · have hx2 := (k.lt x hx).2
        have e' : g = x := by simpa [Value.ownBlock] using e
        rcases hat with y | y
        · exact k2 x hx (e' ▸ y)
        · omega
    by_cases e : i < L.length
    · rw [List.getElem?_append_left e] at hi
      obtain ⟨u, e1, e2, e3⟩ := h2 i t' hi
      exact ⟨u, by rw [List.getElem?_append_left (by omega)]; exact e1, (keep e2 e3).1, (keep e2 e3).2⟩
    · have hi0 : i = L.length := by
        have := (List.getElem?_eq_some_iff.1 hi).1
        rw [List.length_append, List.length_singleton] at this
        omega
      subst hi0
      rw [List.getElem?_append_right (Nat.le_refl _), Nat.sub_self] at hi
      cases hi
      exact ⟨_, by rw [List.getElem?_append_right (by omega), hvl, Nat.sub_self]; rfl, (keep ht hne).1, (keep ht hne).2⟩
  · rw [hW] at g1
    exact (h3.alloc hb0 _).grown g1 (by simp; omega) (fun k hk => (h1.lt k hk).1)
def OwnX (L : List (List Stp)) (w : World) (e : Ending) (w' : World) : Prop := ∃ v, e = .returned v ∧ Ox w w' v L
set_option maxRecDepth 100000 in
theorem ownx_core {w : World} (v : Value) (L : List (List Stp)) (h : TasksAt w v L) (hm : L.length + lens L ≤ 1000000) :
    Calls Try.prog 6 #[v] w (OwnX L w) := by
  have HT := hide h
  obtain ⟨o, cap, rfl, h1, h2⟩ := h.shape
  obtain ⟨PO, hPO⟩ : ∃ PO, PO = OwnX L w := ⟨_, rfl⟩
  rw [← hPO]
  have HP := hide hPO
  have HM := hide hm
  obtain ⟨k, hk⟩ : ∃ k, L.length = k := ⟨_, rfl⟩
  have HK := hide hk
  rw [hk] at h1 hm ⊢
  clear h hk hPO
  go_enter Try.func6, Try.ntmps6
  go_wp2_with fail
  go_loopw [3, 4] (fun lv iv wr => ∃ (i : Nat), iv = .int .i64 (i : Int) ∧ i ≤ k ∧ Hid (Ox w wr lv (L.take i))) (fun _ iv _ => k - (intOf iv).toNat)
  case atStart => exact ⟨0, rfl, Nat.zero_le _, hide (by simpa using Ox.start w)⟩
  case round =>
    obtain ⟨i, rfl, hi, hO⟩ := hrel
    have tl : (L.take i).length = i := by rw [List.length_take, HK.out]; omega
    obtain ⟨o2, c2, hv0, _, _⟩ := hO.out.shape
    rw [tl] at hv0
    subst hv0
    by_cases hlt : i < k
    · have hil : i < L.length := by rw [HK.out]; exact hlt
      have hpt := lens_part hil
      have htk := List.take_succ_eq_append_getElem hil
      have hB : Below w.heap.size w wr := hO.out.below
      obtain ⟨g, off, cap', o3, n3, c3, e1, _, hg, cv, hn3, h5, h6, hst⟩ := HT.out.at (List.getElem?_eq_getElem hil)
      injection e1 with e1 e2 e3
      subst e1 e3
      have cv' := (hB.cell (p := ⟨g, off + i, none⟩) hg).trans cv
      have gl : g < wr.heap.size := Nat.lt_of_lt_of_le hg hB.size
      obtain ⟨t, ht⟩ : ∃ t, L[i] = t := ⟨_, rfl⟩
      rw [ht] at hpt htk hn3 hst
      obtain ⟨W1, hW1⟩ : ∃ W1, W1 = wr.alloc (.cells #[] 36) := ⟨_, rfl⟩
      have B1 : Below wr.heap.size wr W1 := by rw [hW1]; exact (Below.refl _ _).alloc (Nat.le_refl _) _
      have hv : W1.ownsRow wr.heap.size 36 3 (.slice (some ⟨wr.heap.size, 0, none⟩) 0 0) 0 [] := ⟨rfl, Or.inr ⟨wr.heap.size, 0, #[], rfl, Nat.le_refl _, by rw [hW1]; exact heap_alloc_new _ _, Nat.le_refl _, Nat.zero_le _, rfl, rfl⟩⟩
      have hBW : Below w.heap.size w W1 := hB.trans (B1.mono hB.size)
      obtain ⟨o4, c4, w2, r1, s1, gr1⟩ := copy_own W1 wr.heap.size 34 hv (hst.kept hBW.size (fun x _ hx => hBW.block x hx)) (by have := HM.out; omega) B1.size
      have B2 : Below wr.heap.size wr w2 := B1.grown gr1 B1.size (fun x hx => by
        have hx : wr.heap.size = x := by simpa [Value.ownBlock] using hx
        omega)
      have O2 := hO.out.more B2
      obtain ⟨g5, cap5, w3, r3, O3⟩ := O2.push (by rw [tl]; omega) (owns_base s1 hB.size) (fun x hx e => by
        obtain ⟨⟨vs, q1, _⟩, _⟩ := hO.out
        have := (q1.lt x e).2
        have := (s1.lt x hx).1
        omega) 22
      rw [← htk] at O3
      rw [tl] at r3 O3
      rw [hW1] at r1
      have R1 := hide r1
      have R3 := hide r3
      have OO := hide O3
      have cw : W1.cell? ⟨g, off + i, none⟩ = some (.slice o3 n3 c3) := (B1.cell (p := ⟨g, off + i, none⟩) gl).trans cv'
      have HW := hide hW1
      rw [← hn3] at R1 R3
      have i1 : (i : Int) < (k : Int) := by omega
      have i2 : (0 : Int) ≤ (i : Int) := by omega
      clear r1 r3 O3 O2 B2 gr1 s1 hv B1 hst hn3 ht htk hpt hil hB hBW cv e2 tl
      go_wp2_with (first
        | (at_builtin; refine list_append_run (by rfl) (.tmp 12) (.tmp 16) 34 (by rfl) (by rfl) (by rfl) R1.out ?_)
        | (at_builtin; refine list_append_run (by rfl) (.tmp 11) (.tmp 18) 22 (by rfl) (by rfl) (by rfl) R3.out ?_))
      go_roundw
      case rel => exact ⟨i + 1, by go_num, by omega, OO⟩
      case measure => simp [intOf]; omega
    · obtain rfl : i = k := by omega
      have d0 : ¬ (i : Int) < (i : Int) := by omega
      have hh := hO.out
      rw [List.take_of_length_le (by rw [HK.out]; exact Nat.le_refl _)] at hh
      have FN : Hid (PO (.returned (.slice o2 i c2)) wr) := hide (by rw [HP.out]; exact ⟨_, rfl, hh⟩)
      clear hh HP hO
      go_wp2_with fail
      first | exact FN.out | (go_ret; exact FN.out)
end Go.Proofs.Ytlcbegmhmbegjaa
