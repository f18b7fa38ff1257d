/- Lists that come in, as the walks ask for them. -/
import Derived.Test.YtlcbegmhmbegjaaNb
import Derived.Carry
import Derived.ChangeSlices
import Derived.Deep.Slices
import Derived.Deep.Strs
namespace Go.Proofs.Ytlcbegmhmbegjaa
open Go.ChangeShapes Go.WideShapes Go.ChangeAt Go.RowKit Go.Proofs.Sc Go.Maps
set_option linter.unusedVariables false
set_option linter.unusedSimpArgs false

/-- A list of numbers in memory. -/
def IntsAt (w : World) (v : Value) (l : List Int) : Prop :=
  ∃ o cap, v = .slice o l.length cap ∧ l.length ≤ cap ∧ cap ≤ 9223372036854775807 ∧ (o = none → cap = 0) ∧ (∀ x ∈ l, i64 x) ∧ (l ≠ [] → ∃ g off, o = some ⟨g, off, none⟩ ∧ g < w.heap.size ∧ ∀ (i : Nat) (x : Int), l[i]? = some x → w.cell? ⟨g, off + i, none⟩ = some (.int .i64 x))
theorem IntsAt.below {w w' : World} {v : Value} {l : List Int} (h : IntsAt w v l) (hb : Below w.heap.size w w') : IntsAt w' v l := by
  obtain ⟨o, cap, h1, h2, h3, h4, h5, h6⟩ := h
  refine ⟨o, cap, h1, h2, h3, h4, h5, fun z => ?_⟩
  obtain ⟨g, off, e, hg, hc⟩ := h6 z
  have := hb.size
  exact ⟨g, off, e, by omega, fun i x hi => (hb.cell (p := ⟨g, off + i, none⟩) hg).trans (hc i x hi)⟩
theorem IntsAt.at {w w' : World} {o : Option Addr} {len cap : Nat} {l : List Int} (h : IntsAt w (.slice o len cap) l) (hb : Below w.heap.size w w') {i : Nat} (hi : i < len) : ∃ g off x, o = some ⟨g, off, none⟩ ∧ l[i]? = some x ∧ i64 x ∧ w'.cell? ⟨g, off + i, none⟩ = some (.int .i64 x) := by
  obtain ⟨o', cap', e, h2, h3, h4, h5, h6⟩ := h
  injection e with e1 e2 e3
  subst e1 e2 e3
  obtain ⟨g, off, rfl, hg, hc⟩ := h6 (fun z => by rw [z] at hi; simp at hi)
  have hx := List.getElem?_eq_getElem hi
  exact ⟨g, off, _, rfl, hx, h5 _ (List.mem_of_getElem? hx), (hb.cell (p := ⟨g, off + i, none⟩) hg).trans (hc i _ hx)⟩
theorem IntsAt.shape {w : World} {v : Value} {l : List Int} (h : IntsAt w v l) : ∃ o cap, v = .slice o l.length cap ∧ l.length ≤ 9223372036854775807 := by
  obtain ⟨o, cap, e, h2, h3, _⟩ := h
  exact ⟨o, cap, e, by omega⟩
/-- A list of lists of numbers in memory. -/
def RowsAt (w : World) (v : Value) (L : List (List Int)) : Prop :=
  ∃ o cap, v = .slice o L.length cap ∧ L.length ≤ cap ∧ cap ≤ 9223372036854775807 ∧ (o = none → cap = 0) ∧ (L ≠ [] → ∃ g off, o = some ⟨g, off, none⟩ ∧ g < w.heap.size ∧ ∀ (i : Nat) (t : List Int), L[i]? = some t → ∃ u, w.cell? ⟨g, off + i, none⟩ = some u ∧ IntsAt w u t)
theorem RowsAt.at {w w' : World} {o : Option Addr} {len cap : Nat} {A : List (List Int)} (h : RowsAt w (.slice o len cap) A) (hb : Below w.heap.size w w') {i : Nat} (hi : i < len) : ∃ g off o2 c2 a, o = some ⟨g, off, none⟩ ∧ A[i]? = some a ∧ w'.cell? ⟨g, off + i, none⟩ = some (.slice o2 a.length c2) ∧ a.length ≤ c2 ∧ c2 ≤ 9223372036854775807 ∧ IntsAt w (.slice o2 a.length c2) a := by
  obtain ⟨o', cap', e, h2, h3, h4, h5⟩ := h
  injection e with e1 e2 e3
  subst e1 e2 e3
  obtain ⟨g, off, rfl, hg, hc⟩ := h5 (fun z => by rw [z] at hi; simp at hi)
  have hx := List.getElem?_eq_getElem hi
  obtain ⟨u, hu, hI⟩ := hc i _ hx
  have HI := hI
  obtain ⟨o2, c2, rfl, k1, k2, _⟩ := hI
  exact ⟨g, off, o2, c2, _, rfl, hx, (hb.cell (p := ⟨g, off + i, none⟩) hg).trans hu, k1, k2, HI⟩
theorem RowsAt.shape {w : World} {v : Value} {A : List (List Int)} (h : RowsAt w v A) : ∃ o cap, v = .slice o A.length cap ∧ A.length ≤ cap ∧ cap ≤ 9223372036854775807 := by
  obtain ⟨o, cap, e, h2, h3, _⟩ := h
  exact ⟨o, cap, e, h2, h3⟩
theorem spot_none {w : World} {b off : Nat} {sp : Option Nat} {v : Value} (h : w.cell? ⟨b, off, sp⟩ = some v) : sp = none := by
  unfold World.cell? at h
  cases sp with
  | none => rfl
  | some x => split at h <;> simp at h
theorem cellsI : Try.prog.cellsOf 3 = 1 := by kernel_rfl
theorem cells1 {w : World} {a : Addr} {cs : List Value} (h : w.cells? 0 a 1 = some cs) : ∃ c0, cs = [c0] ∧ w.cell? a = some c0 := by
  unfold World.cells? at h
  rw [if_pos (Nat.zero_le _)] at h
  have e : a.add 0 = a := by simp [Addr.add]
  simp only [show List.range 1 = [0] from rfl, List.mapM_cons, List.mapM_nil, e] at h
  cases h0 : w.cell? a with
  | none => rw [h0] at h; simp at h
  | some c0 =>
    rw [h0] at h
    simp at h
    exact ⟨c0, h.symm, rfl⟩
theorem ints_of {H : Type} {enc : TypeId × Value → H} {W : World} {v : Value} {x : DataW H × List MemPlace} {fuel : Nat} (hf : DataW.trod enc Try.prog W 0 (fun _ => true) true fuel 23 [v] = some x) : ∃ l, IntsAt W v l := by
  rcases open_ints Try.underlying23 Try.underlying3 cellsI hf with ⟨hcs, hx⟩ | ⟨a, len, cap, zs, hcs, _, hl, hm, hz, hx, hcell, hwz⟩
  · injection hcs with hcs
    subst hcs
    exact ⟨[], none, 0, rfl, Nat.le_refl _, by omega, fun _ => rfl, fun x hx => (by cases hx), fun z => absurd rfl z⟩
  · injection hcs with hcs
    subst hcs
    have hzl : zs.length = cap := by simpa using hz
    have htl : (zs.take len).length = len := by rw [List.length_take]; omega
    refine ⟨zs.take len, some a, cap, by rw [htl], by omega, by unfold maxLen at hm; omega, fun z => by (cases z), fun x hx => ?_, fun z => ?_⟩
    · have := bounds_i64 (hwz x (List.mem_of_mem_take hx))
      exact ⟨this.1, this.2⟩
    · have hlen : 0 < len := by
        rcases Nat.eq_zero_or_pos len with e | e
        · rw [e] at z; simp at z
        · exact e
      obtain ⟨b, off, sp⟩ := a
      have c0 := hcell 0 (by omega)
      have hs : sp = none := spot_none (by simpa [Addr.add] using c0)
      subst hs
      refine ⟨b, off, rfl, cell_lt (by simpa [Addr.add] using c0), fun i x hi => ?_⟩
      have hil := (List.getElem?_eq_some_iff.1 hi).1
      rw [htl] at hil
      rw [List.getElem?_take_of_lt hil] at hi
      have := hcell i (by omega)
      rw [addr_add0] at this
      rw [this, List.getD_eq_getElem?_getD, hi]
      rfl
/-- A list of lists, whatever its elements are. -/
theorem lists_of {α : Type} {H : Type} {enc : TypeId × Value → H} {W : World} {o : Option Addr} {len cap : Nat} {d : DataW H} {p : List MemPlace} {t e : TypeId} (At : Value → List α → Prop) (ht : Try.prog.underlying t = some (.slice e)) (ce : Try.prog.cellsOf e = 1)
    (hel : ∀ {fuel : Nat} {v : Value} {x : DataW H × List MemPlace}, DataW.trod enc Try.prog W 0 (fun _ => true) true fuel e [v] = some x → ∃ l, At v l)
    (h : DataW.Trod enc Try.prog W 0 (fun _ => true) true t (.slice o len cap) d p) :
    ∃ L : List (List α), len = L.length ∧ len ≤ cap ∧ cap ≤ 9223372036854775807 ∧ (o = none → cap = 0) ∧ (L ≠ [] → ∃ g off, o = some ⟨g, off, none⟩ ∧ g < W.heap.size ∧ ∀ (i : Nat) (t : List α), L[i]? = some t → ∃ u, W.cell? ⟨g, off + i, none⟩ = some u ∧ At u t) := by
  obtain ⟨fuel, hf⟩ := h
  rcases Go.Deep.open_slice ht hf with ⟨hcs, hx⟩ | ⟨a, len', cap', m, n, D, Pl, hcs, _, hl, hm, hme, hx, hc⟩
  · simp [Value.cells] at hcs
    obtain ⟨rfl, rfl, rfl⟩ := hcs
    exact ⟨[], rfl, Nat.le_refl _, by omega, fun _ => rfl, fun z => absurd rfl z⟩
  · simp [Value.cells] at hcs
    obtain ⟨rfl, rfl, rfl⟩ := hcs
    have hmc : m = cap := by simpa using hme
    rw [ce] at hc
    have ex : ∀ i, ∃ X : List α, i < len → ∃ u, W.cell? (a.add (i * 1)) = some u ∧ At u X := fun i => by
      by_cases z : i < len
      · obtain ⟨cs', k1, k2⟩ := hc i (by omega)
        obtain ⟨c0, rfl, e0⟩ := cells1 k1
        obtain ⟨X, hX⟩ := hel k2
        exact ⟨X, fun _ => ⟨c0, e0, hX⟩⟩
      · exact ⟨[], fun y => absurd y z⟩
    obtain ⟨X, hX⟩ := Classical.axiomOfChoice ex
    refine ⟨(List.range len).map X, by simp, hl, by unfold maxLen at hm; omega, fun z => by (cases z), fun z => ?_⟩
    have hlen : 0 < len := by
      rcases Nat.eq_zero_or_pos len with e | e
      · rw [e] at z; simp at z
      · exact e
    obtain ⟨b, off, sp⟩ := a
    obtain ⟨u0, h0, _⟩ := hX 0 hlen
    have hs : sp = none := spot_none (by simpa [Addr.add] using h0)
    subst hs
    refine ⟨b, off, rfl, cell_lt (by simpa [Addr.add] using h0), fun i t hi => ?_⟩
    have hil : i < len := by have := (List.getElem?_eq_some_iff.1 hi).1; simpa using this
    rw [List.getElem?_map, List.getElem?_range hil] at hi
    simp at hi
    subst hi
    obtain ⟨u, hu, hA⟩ := hX i hil
    rw [addr_add0, Nat.mul_one] at hu
    exact ⟨u, hu, hA⟩
theorem cellsL : Try.prog.cellsOf 23 = 1 := by kernel_rfl
theorem ints_arg {H : Type} {enc : TypeId × Value → H} {W : World} {o : Option Addr} {len cap : Nat} {d : DataW H} {p : List MemPlace} (h : DataW.Trod enc Try.prog W 0 (fun _ => true) true 23 (.slice o len cap) d p) : ∃ l, IntsAt W (.slice o len cap) l := by
  obtain ⟨fuel, hf⟩ := h
  exact ints_of hf
theorem cellsS : Try.prog.cellsOf 36 = 3 := by kernel_rfl
theorem cellsT : Try.prog.cellsOf 34 = 1 := by kernel_rfl
theorem cells3 {w : World} {a : Addr} {cs : List Value} (h : w.cells? 0 a 3 = some cs) : ∃ c0 c1 c2, cs = [c0, c1, c2] ∧ w.cell? a = some c0 ∧ w.cell? (a.add 1) = some c1 ∧ w.cell? (a.add 2) = some c2 := by
  unfold World.cells? at h
  rw [if_pos (Nat.zero_le _)] at h
  have e : a.add 0 = a := by simp [Addr.add]
  simp only [show List.range 3 = [0, 1, 2] from rfl, List.mapM_cons, List.mapM_nil, e] at h
  cases h0 : w.cell? a with
  | none => rw [h0] at h; simp at h
  | some c0 =>
    cases h1 : w.cell? (a.add 1) with
    | none => rw [h0, h1] at h; simp at h
    | some c1 =>
      cases h2 : w.cell? (a.add 2) with
      | none => rw [h0, h1, h2] at h; simp at h
      | some c2 =>
        rw [h0, h1, h2] at h
        simp at h
        exact ⟨c0, c1, c2, h.symm, rfl, rfl, rfl⟩
theorem step_of {H : Type} {enc : TypeId × Value → H} {W : World} {n : Nat} {c0 c1 c2 : Value} {x : DataW H × List MemPlace} (h : DataW.trod enc Try.prog W 0 (fun _ => true) true n 36 [c0, c1, c2] = some x) :
    ∃ s : Stp, s.Ok ∧ c0 = .int .i64 s.op ∧ c1 = .int .i64 s.a ∧ c2 = .int .i64 s.b := by
  obtain ⟨y0, y1, y2, m, _, _, h0, h1, h2⟩ := Go.Deep.trod_struct3 Try.underlying36 h
  obtain ⟨n0, e0, _, w0⟩ := DataW.trod_int Try.underlying3 h0
  obtain ⟨n1, e1, _, w1⟩ := DataW.trod_int Try.underlying3 h1
  obtain ⟨n2, e2, _, w2⟩ := DataW.trod_int Try.underlying3 h2
  simp only [cellsI, List.drop_zero, List.drop_succ_cons, List.take_succ_cons, List.take_zero] at e0 e1 e2
  refine ⟨⟨n0, n1, n2⟩, ⟨bounds_i64 w0, bounds_i64 w1, bounds_i64 w2⟩, ?_, ?_, ?_⟩
  · injection e0
  · injection e1
  · injection e2
/-- A list of steps that came in. -/
def StepsOk (w : World) (v : Value) (t : List Stp) : Prop := StepsAt w v t (fun _ => True) ∧ ∀ s ∈ t, s.Ok
theorem steps_arg {H : Type} {enc : TypeId × Value → H} {W : World} {v : Value} {x : DataW H × List MemPlace} {fuel : Nat} (hf : DataW.trod enc Try.prog W 0 (fun _ => true) true fuel 34 [v] = some x) : ∃ t, StepsOk W v t := by
  rcases Go.Deep.open_slice Try.underlying34 hf with ⟨hcs, hx⟩ | ⟨a, len, cap, m, n, D, Pl, hcs, _, hl, hm, hme, hx, hc⟩
  · injection hcs with hcs
    subst hcs
    exact ⟨[], ⟨none, 0, rfl, Nat.le_refl _, by omega, fun _ => rfl, fun z => absurd rfl z⟩, fun s hs => by (cases hs)⟩
  · injection hcs with hcs
    subst hcs
    have hmc : m = cap := by simpa using hme
    rw [cellsS] at hc
    have ok0 : (⟨0, 0, 0⟩ : Stp).Ok := ⟨by unfold i64; decide, by unfold i64; decide, by unfold i64; decide⟩
    have ex : ∀ i, ∃ s : Stp, s.Ok ∧ (i < len → W.cell? (a.add (i * 3)) = some (.int .i64 s.op) ∧ W.cell? ((a.add (i * 3)).add 1) = some (.int .i64 s.a) ∧ W.cell? ((a.add (i * 3)).add 2) = some (.int .i64 s.b)) := fun i => by
      by_cases z : i < len
      · obtain ⟨cs', k1, k2⟩ := hc i (by omega)
        obtain ⟨c0, c1, c2, rfl, e0, e1, e2⟩ := cells3 k1
        obtain ⟨s, ok, rfl, rfl, rfl⟩ := step_of k2
        exact ⟨s, ok, fun _ => ⟨e0, e1, e2⟩⟩
      · exact ⟨⟨0, 0, 0⟩, ok0, fun y => absurd y z⟩
    obtain ⟨X, hX⟩ := Classical.axiomOfChoice ex
    have hln : ((List.range len).map X).length = len := by simp
    refine ⟨(List.range len).map X, ⟨some a, cap, by rw [hln], by rw [hln]; exact hl, by unfold maxLen at hm; omega, fun z => by (cases z), fun z => ?_⟩, fun s hs => ?_⟩
    · have hlen : 0 < len := by
        rcases Nat.eq_zero_or_pos len with e | e
        · rw [e] at z; simp at z
        · exact e
      obtain ⟨b, off, sp⟩ := a
      have h0 := ((hX 0).2 hlen).1
      have hs : sp = none := spot_none (by simpa [Addr.add] using h0)
      subst hs
      refine ⟨b, off, rfl, trivial, cell_lt (by simpa [Addr.add] using h0), fun i s hi => ?_⟩
      have hil : i < len := by have := (List.getElem?_eq_some_iff.1 hi).1; simpa using this
      rw [List.getElem?_map, List.getElem?_range hil] at hi
      simp at hi
      subst hi
      have := (hX i).2 hil
      rwa [addr_add0, addr_add0, addr_add0] at this
    · obtain ⟨i, _, rfl⟩ := List.mem_map.1 hs
      exact (hX i).1
theorem tasks_arg {H : Type} {enc : TypeId × Value → H} {W : World} {o : Option Addr} {len cap : Nat} {d : DataW H} {p : List MemPlace} (h : DataW.Trod enc Try.prog W 0 (fun _ => true) true 22 (.slice o len cap) d p) : ∃ L, TasksAt W (.slice o len cap) L ∧ ∀ t ∈ L, ∀ s ∈ t, s.Ok := by
  obtain ⟨L, h1, h2, h3, h4, h5⟩ := lists_of (StepsOk W) Try.underlying22 cellsT (fun hf => steps_arg hf) h
  refine ⟨L, ⟨o, cap, by rw [h1], by omega, h3, h4, fun z => ?_⟩, fun t ht s hs => ?_⟩
  · obtain ⟨g, off, e, hg, hc⟩ := h5 z
    exact ⟨g, off, e, hg, fun i t hi => by
      obtain ⟨u, a, b⟩ := hc i t hi
      exact ⟨u, a, b.1⟩⟩
  · obtain ⟨g, off, e, hg, hc⟩ := h5 (fun z => by rw [z] at ht; cases ht)
    obtain ⟨i, hi⟩ := List.mem_iff_getElem?.1 ht
    obtain ⟨u, a, b⟩ := hc i t hi
    exact b.2 s hs
end Go.Proofs.Ytlcbegmhmbegjaa
