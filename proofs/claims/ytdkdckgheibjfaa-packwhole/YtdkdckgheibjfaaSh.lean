/- What comes in: summaries, lists of them. -/
import Derived.Test.YtdkdckgheibjfaaBa
import Derived.Lib.SmallJoins
namespace Go.Proofs.Ytdkdckgheibjfaa
open Go.ChangeShapes Go.WideShapes Go.ChangeAt Go.RowKit Go.Proofs.Pk Go.Maps
set_option linter.unusedVariables false
set_option linter.unusedSimpArgs false

theorem own_knob : ownKnob Try.prog.godebug = none := by kernel_rfl
theorem cellsI : Try.prog.cellsOf 3 = 1 := by kernel_rfl
theorem cellsS : Try.prog.cellsOf 23 = 3 := by kernel_rfl
section
variable {H : Type} {enc : TypeId × Value → H} {W : World} {base : Nat} {sp : Nat → Bool} {held : Bool}
def sumD {H : Type} (a : Sm) : DataW H := .agg [.lit (.int .i64 a.s), .lit (.int .i64 a.m), .lit (.int .i64 a.e)]
theorem sum_open {r : Reach} {b0 : Nat} {v : Value} {d : DataW H} {p : List MemPlace} (hv : Value.okWide Try.prog W r b0 23 v) (h : DataW.Trod enc Try.prog W base sp held 23 v d p) :
    ∃ a : Sm, v = sumV a ∧ d = sumD a ∧ p = [] ∧ (Lit.int .i64 a.s).wf = true ∧ (Lit.int .i64 a.m).wf = true ∧ (Lit.int .i64 a.e).wf = true := by
  obtain ⟨v0, v1, v2, y0, y1, y2, n, rfl, rfl, rfl, h0, h1, h2⟩ := Go.Joins.open_agg3 Try.underlying23 (by kernel_rfl) cellsS hv h
  obtain ⟨n0, e0, rfl, w0⟩ := DataW.trod_int Try.underlying3 h0
  obtain ⟨n1, e1, rfl, w1⟩ := DataW.trod_int Try.underlying3 h1
  obtain ⟨n2, e2, rfl, w2⟩ := DataW.trod_int Try.underlying3 h2
  injection e0 with e0
  injection e1 with e1
  injection e2 with e2
  subst e0 e1 e2
  exact ⟨⟨n0, n1, n2⟩, rfl, rfl, rfl, w0, w1, w2⟩
theorem sum_shut {a : Sm} (h : (Lit.int .i64 a.s).wf = true ∧ (Lit.int .i64 a.m).wf = true ∧ (Lit.int .i64 a.e).wf = true) : DataW.Trod enc Try.prog W base sp held 23 (sumV a) (sumD a) [] := by
  obtain ⟨m0, s0⟩ := shut_int (enc := enc) (w := W) (base := base) (spare := sp) (held := held) Try.underlying3 h.1
  obtain ⟨m1, s1⟩ := shut_int (enc := enc) (w := W) (base := base) (spare := sp) (held := held) Try.underlying3 h.2.1
  obtain ⟨m2, s2⟩ := shut_int (enc := enc) (w := W) (base := base) (spare := sp) (held := held) Try.underlying3 h.2.2
  exact Go.Joins.shut_agg3 Try.underlying23 (by kernel_rfl) cellsS ⟨m0, s0⟩ ⟨m1, s1⟩ ⟨m2, s2⟩
end
theorem cells3 {w : World} {a : Addr} {cs : List Value} (h : w.cells? 0 a 3 = some cs) : ∃ c0 c1 c2, cs = [c0, c1, c2] ∧ w.cell? a = some c0 ∧ w.cell? (a.add 1) = some c1 ∧ w.cell? (a.add 2) = some c2 := by
  unfold World.cells? at h
  rw [if_pos (Nat.zero_le _)] at h
  have e : a.add 0 = a := by simp [Addr.add]
  simp only [show List.range 3 = [0, 1, 2] from rfl, List.mapM_cons, List.mapM_nil, e] at h
  cases h0 : w.cell? a with
  | none => rw [h0] at h; simp at h
  | some c0 =>
    cases h1 : w.cell? (a.add 1) with
    | none => rw [h0, h1] at h; simp at h
    | some c1 =>
      cases h2 : w.cell? (a.add 2) with
      | none => rw [h0, h1, h2] at h; simp at h
      | some c2 =>
        rw [h0, h1, h2] at h
        simp at h
        exact ⟨c0, c1, c2, h.symm, rfl, rfl, rfl⟩
theorem sum_of {H : Type} {enc : TypeId × Value → H} {W : World} {n : Nat} {c0 c1 c2 : Value} {x : DataW H × List MemPlace} (h : DataW.trod enc Try.prog W 0 (fun _ => true) true n 23 [c0, c1, c2] = some x) :
    ∃ s : Sm, s.Ok ∧ c0 = .int .i64 s.s ∧ c1 = .int .i64 s.m ∧ c2 = .int .i64 s.e := by
  obtain ⟨y0, y1, y2, m, _, _, h0, h1, h2⟩ := Go.Deep.trod_struct3 Try.underlying23 h
  obtain ⟨n0, e0, _, w0⟩ := DataW.trod_int Try.underlying3 h0
  obtain ⟨n1, e1, _, w1⟩ := DataW.trod_int Try.underlying3 h1
  obtain ⟨n2, e2, _, w2⟩ := DataW.trod_int Try.underlying3 h2
  simp only [cellsI, List.drop_zero, List.drop_succ_cons, List.take_succ_cons, List.take_zero] at e0 e1 e2
  refine ⟨⟨n0, n1, n2⟩, ⟨bounds_i64 w0, bounds_i64 w1, bounds_i64 w2⟩, ?_, ?_, ?_⟩
  · injection e0
  · injection e1
  · injection e2
theorem sums_arg {H : Type} {enc : TypeId × Value → H} {W : World} {o : Option Addr} {len cap : Nat} {d : DataW H} {p : List MemPlace} (h : DataW.Trod enc Try.prog W 0 (fun _ => true) true 32 (.slice o len cap) d p) : ∃ t, SumsAt W (.slice o len cap) t (fun _ => True) ∧ ∀ s ∈ t, s.Ok := by
  obtain ⟨fuel, hf⟩ := h
  rcases Go.Deep.open_slice Try.underlying32 hf with ⟨hcs, hx⟩ | ⟨a, len', cap', m, n, D, Pl, hcs, _, hl, hm, hme, hx, hc⟩
  · simp [Value.cells] at hcs
    obtain ⟨rfl, rfl, rfl⟩ := hcs
    exact ⟨[], ⟨none, 0, rfl, Nat.le_refl _, by omega, fun _ => rfl, fun z => absurd rfl z⟩, fun s hs => by (cases hs)⟩
  · simp [Value.cells] at hcs
    obtain ⟨rfl, rfl, rfl⟩ := hcs
    have hmc : m = cap := by simpa using hme
    rw [cellsS] at hc
    have ok0 : (⟨0, 0, 0⟩ : Sm).Ok := ⟨by unfold i64; decide, by unfold i64; decide, by unfold i64; decide⟩
    have ex : ∀ i, ∃ s : Sm, s.Ok ∧ (i < len → W.cell? (a.add (i * 3)) = some (.int .i64 s.s) ∧ W.cell? ((a.add (i * 3)).add 1) = some (.int .i64 s.m) ∧ W.cell? ((a.add (i * 3)).add 2) = some (.int .i64 s.e)) := fun i => by
      by_cases z : i < len
      · obtain ⟨cs', k1, k2⟩ := hc i (by omega)
        obtain ⟨c0, c1, c2, rfl, e0, e1, e2⟩ := cells3 k1
        obtain ⟨s, ok, rfl, rfl, rfl⟩ := sum_of k2
        exact ⟨s, ok, fun _ => ⟨e0, e1, e2⟩⟩
      · exact ⟨⟨0, 0, 0⟩, ok0, fun y => absurd y z⟩
    obtain ⟨X, hX⟩ := Classical.axiomOfChoice ex
    have hln : ((List.range len).map X).length = len := by simp
    refine ⟨(List.range len).map X, ⟨some a, cap, by rw [hln], by rw [hln]; exact hl, by unfold maxLen at hm; omega, fun z => by (cases z), fun z => ?_⟩, fun s hs => ?_⟩
    · have hlen : 0 < len := by
        rcases Nat.eq_zero_or_pos len with e | e
        · rw [e] at z; simp at z
        · exact e
      obtain ⟨b, off, sp⟩ := a
      have h0 := ((hX 0).2 hlen).1
      have hs : sp = none := spot_none (by simpa [Addr.add] using h0)
      subst hs
      refine ⟨b, off, rfl, trivial, cell_lt (by simpa [Addr.add] using h0), fun i s hi => ?_⟩
      have hil : i < len := by have := (List.getElem?_eq_some_iff.1 hi).1; simpa using this
      rw [List.getElem?_map, List.getElem?_range hil] at hi
      simp at hi
      subst hi
      have := (hX i).2 hil
      rwa [addr_add0, addr_add0, addr_add0] at this
    · obtain ⟨i, _, rfl⟩ := List.mem_map.1 hs
      exact (hX i).1
end Go.Proofs.Ytdkdckgheibjfaa
