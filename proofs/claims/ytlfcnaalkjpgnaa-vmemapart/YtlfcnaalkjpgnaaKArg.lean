/- Answers that come in: three lists. -/
import Derived.Test.YtlfcnaalkjpgnaaKPm3
import Derived.Deep.Slices
import Derived.Lib.SmallJoins
import Derived.OpenShut
import Derived.Carry
namespace Go.Proofs.Ytlfcnaalkjpgnaa
open Go.ChangeShapes Go.WideShapes Go.ChangeAt Go.RowKit Go.Proofs.Sp Go.Maps
set_option linter.unusedVariables false
set_option linter.unusedSimpArgs false

set_option maxRecDepth 100000 in
theorem slot_ok {W : World} {r : Reach} {base : Nat} {t e : TypeId} {v : Value} (ht : Try.prog.underlying t = some (.slice e)) (h : Cell.okWide Try.prog W r base t v) : v = .slice none 0 0 ∨ ∃ b off len cap, v = .slice (some ⟨b, off, none⟩) len cap ∧ b < W.heap.size := by
  unfold Cell.okWide at h
  rw [ht] at h
  unfold Cell.ok at h
  rw [ht] at h
  cases v with
  | slice o len cap =>
    cases o with
    | none =>
      left
      simp only at h
      split at h <;> simp_all
    | some a =>
      right
      obtain ⟨_, _, hh⟩ := h
      obtain ⟨_, hs, row, cells, hsh, _⟩ := hh
      obtain ⟨b, off, sp⟩ := a
      simp only at hs
      subst hs
      refine ⟨b, off, len, cap, rfl, ?_⟩
      unfold World.shape? at hsh
      cases hb : W.heap[b]? with
      | none => simp [hb] at hsh
      | some o => exact (Array.getElem?_eq_some_iff.1 hb).1
  | _ => simp at h
theorem ans_types : Try.prog.cellTypes Try.prog.depth 25 = some [22, 23, 22] := by kernel_rfl
set_option maxRecDepth 100000 in
theorem ans_cells {W : World} {r : Reach} {base : Nat} {v0 v1 v2 : Value} (h : Value.okWide Try.prog W r base 25 (.agg #[v0, v1, v2])) : Cell.okWide Try.prog W r base 22 v0 ∧ Cell.okWide Try.prog W r base 23 v1 ∧ Cell.okWide Try.prog W r base 22 v2 := by
  unfold Value.okWide at h
  rw [Try.underlying25] at h
  obtain ⟨cs, e, _, ts, hts, _, hall⟩ := h
  obtain rfl : #[v0, v1, v2] = cs := by injection e
  rw [ans_types] at hts
  obtain rfl : [22, 23, 22] = ts := by injection hts
  obtain ⟨u0, e0, h0⟩ := hall 0 v0 rfl
  obtain ⟨u1, e1, h1⟩ := hall 1 v1 rfl
  obtain ⟨u2, e2, h2⟩ := hall 2 v2 rfl
  simp at e0 e1 e2
  subst e0; subst e1; subst e2
  exact ⟨h0, h1, h2⟩
theorem bools_get (X : Nat → Bool) (len j : Nat) (u : Value) (h : (bools ((List.range len).map X))[j]? = some u) : j < len ∧ u = .bool (X j) := by
  unfold bools at h
  rw [List.getElem?_map, List.getElem?_map] at h
  by_cases hj : j < len
  · rw [List.getElem?_range hj] at h
    exact ⟨hj, (Option.some.inj h).symm⟩
  · rw [List.getElem?_eq_none (by simpa using hj)] at h
    cases h
theorem cells1 : Try.prog.cellsOf 4 = 1 := by kernel_rfl
set_option maxRecDepth 100000 in
theorem u_list {H : Type} {enc : TypeId × Value → H} {W : World} {r : Reach} {base n : Nat} {v : Value} {y : DataW H × List MemPlace} (hk : Cell.okWide Try.prog W r base 22 v) (h : DataW.trod enc Try.prog W 0 (fun _ => true) true n 22 [v] = some y) :
    ∃ o l c pl, v = .slice o l c ∧ pl.length = l ∧ l ≤ maxLen ∧ Sl W v (u64s pl) ∧ ∀ x ∈ pl, x < 18446744073709551616 := by
  rcases Go.Deep.open_slice1 Try.underlying22 cellsN h with ⟨hcs, hx⟩ | ⟨a, len, cap, m, n, V, D, Pl, hcs, _, hl, hm, hme, hx, hc⟩
  · obtain rfl : v = .slice none 0 0 := by injection hcs
    exact ⟨none, 0, 0, [], rfl, rfl, by decide, Sl.nil W, fun x hx => by cases hx⟩
  · obtain rfl : v = .slice (some a) len cap := by injection hcs
    have hmc : m = cap := by simpa using hme
    rcases slot_ok Try.underlying22 hk with hz | ⟨b, off, l', c', hz, hb⟩
    · cases hz
    · injection hz with z1 z2 z3
      obtain rfl : a = ⟨b, off, none⟩ := by injection z1
      have ex : ∀ i, ∃ z : Nat, z < 18446744073709551616 ∧ (i < len → W.cell? ⟨b, off + i, none⟩ = some (.int .u64 (z : Int))) := fun i => by
        by_cases z : i < len
        · obtain ⟨k1, k2⟩ := hc i (by omega)
          obtain ⟨q, e0, _, w0⟩ := DataW.trod_int Try.underlying33 k2
          have b0 := bounds_u64 w0
          have e1 : V i = .int .u64 q := by injection e0
          refine ⟨q.toNat, by omega, fun _ => ?_⟩
          rw [addr_add0] at k1
          rw [k1, e1, show ((q.toNat : Nat) : Int) = q by omega]
        · exact ⟨0, by decide, fun y => absurd y z⟩
      refine ⟨_, len, cap, (List.range len).map fun i => Classical.choose (ex i), rfl, by simp, by omega, Or.inr ⟨b, off, cap, by simp [u64s], by simp [u64s]; omega, hb, fun j u hu => ?_⟩, fun x hx => ?_⟩
      · obtain ⟨hj, rfl⟩ := u64s_get (fun i => Classical.choose (ex i)) len j u hu
        exact (Classical.choose_spec (ex j)).2 hj
      · obtain ⟨i, _, rfl⟩ := List.mem_map.1 hx
        exact (Classical.choose_spec (ex i)).1
set_option maxRecDepth 100000 in
theorem b_list {H : Type} {enc : TypeId × Value → H} {W : World} {r : Reach} {base n : Nat} {v : Value} {y : DataW H × List MemPlace} (hk : Cell.okWide Try.prog W r base 23 v) (h : DataW.trod enc Try.prog W 0 (fun _ => true) true n 23 [v] = some y) :
    ∃ o l c re, v = .slice o l c ∧ re.length = l ∧ l ≤ maxLen ∧ Sl W v (bools re) := by
  rcases Go.Deep.open_slice1 Try.underlying23 cells1 h with ⟨hcs, hx⟩ | ⟨a, len, cap, m, n, V, D, Pl, hcs, _, hl, hm, hme, hx, hc⟩
  · obtain rfl : v = .slice none 0 0 := by injection hcs
    exact ⟨none, 0, 0, [], rfl, rfl, by decide, Sl.nil W⟩
  · obtain rfl : v = .slice (some a) len cap := by injection hcs
    have hmc : m = cap := by simpa using hme
    rcases slot_ok Try.underlying23 hk with hz | ⟨b, off, l', c', hz, hb⟩
    · cases hz
    · injection hz with z1 z2 z3
      obtain rfl : a = ⟨b, off, none⟩ := by injection z1
      have ex : ∀ i, ∃ z : Bool, (i < len → W.cell? ⟨b, off + i, none⟩ = some (.bool z)) := fun i => by
        by_cases z : i < len
        · obtain ⟨k1, k2⟩ := hc i (by omega)
          obtain ⟨q, e0, _⟩ := DataW.trod_bool Try.underlying4 k2
          have e1 : V i = .bool q := by injection e0
          refine ⟨q, fun _ => ?_⟩
          rw [addr_add0] at k1
          rw [k1, e1]
        · exact ⟨false, fun y => absurd y z⟩
      refine ⟨_, len, cap, (List.range len).map fun i => Classical.choose (ex i), rfl, by simp, by omega, Or.inr ⟨b, off, cap, by simp [bools], by simp [bools]; omega, hb, fun j u hu => ?_⟩⟩
      obtain ⟨hj, rfl⟩ := bools_get (fun i => Classical.choose (ex i)) len j u hu
      exact Classical.choose_spec (ex j) hj
/-- What a law knows of the answers that come in. -/
structure AnsAt (w : World) (p0 r0 f0 : Option Addr) (lp cp lr cr lf cf : Nat) (pl : List Nat) (re : List Bool) (fi : List Nat) : Prop where
  h0 : Sl w (.slice p0 lp cp) (u64s pl)
  h1 : Sl w (.slice r0 lr cr) (bools re)
  h2 : Sl w (.slice f0 lf cf) (u64s fi)
  b0 : ∀ x ∈ pl, x < 18446744073709551616
  b2 : ∀ x ∈ fi, x < 18446744073709551616
  e0 : pl.length = lp
  e1 : re.length = lr
  e2 : fi.length = lf
  m0 : lp ≤ maxLen
  m1 : lr ≤ maxLen
  m2 : lf ≤ maxLen
set_option maxRecDepth 100000 in
theorem ans_of {H : Type} {enc : TypeId × Value → H} {W : World} {r : Reach} {base : Nat} {v : Value} {d : DataW H} {p : List MemPlace} (hv : Value.okWide Try.prog W r base 25 v) (h : DataW.Trod enc Try.prog W 0 (fun _ => true) true 25 v d p) :
    ∃ p0 r0 f0 lp cp lr cr lf cf pl re fi, v = .agg #[.slice p0 lp cp, .slice r0 lr cr, .slice f0 lf cf] ∧ AnsAt W p0 r0 f0 lp cp lr cr lf cf pl re fi := by
  obtain ⟨v0, v1, v2, y0, y1, y2, n, rfl, _, _, h0, h1, h2⟩ := Go.Joins.open_agg3 Try.underlying25 (by kernel_rfl) (by kernel_rfl) hv h
  obtain ⟨k0, k1, k2⟩ := ans_cells hv
  obtain ⟨p0, lp, cp, pl, rfl, a0, a1, a2, a3⟩ := u_list k0 h0
  obtain ⟨r0, lr, cr, re, rfl, b0, b1, b2⟩ := b_list k1 h1
  obtain ⟨f0, lf, cf, fi, rfl, c0, c1, c2, c3⟩ := u_list k2 h2
  exact ⟨p0, r0, f0, lp, cp, lr, cr, lf, cf, pl, re, fi, rfl, a2, b2, c2, a3, c3, a0, b0, c0, a1, b1, c1⟩
end Go.Proofs.Ytlfcnaalkjpgnaa
