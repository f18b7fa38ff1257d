/- Tasks that come in, and how long they may be. -/
import Derived.Test.YtlcbegmhmbegjaaArg
import Derived.SizedLaws
namespace Go.Proofs.Ytlcbegmhmbegjaa
open Go.ChangeShapes Go.WideShapes Go.ChangeAt Go.RowKit Go.Proofs.Sc Go.Maps
set_option linter.unusedVariables false
set_option linter.unusedSimpArgs false

theorem weights_all {H : Type} {P : Program} {e : TypeId} {d : DataW H} : ∀ {l : List (DataW H)}, d ∈ l → ∀ n ∈ d.weights P e, n ∈ DataW.weightsAll P e l
  | x :: l, h, n, hn => by
    simp only [DataW.weightsAll, List.mem_append]
    rcases List.mem_cons.1 h with rfl | h
    · exact .inl hn
    · exact .inr (weights_all h n hn)
theorem bytesS : Try.prog.bytesOf 36 = 24 := by kernel_rfl
theorem bytesL : Try.prog.bytesOf 34 = 24 := by kernel_rfl
theorem steps_sized {H : Type} {enc : TypeId × Value → H} {W : World} {v : Value} {x : DataW H × List MemPlace} {fuel : Nat} (hf : DataW.trod enc Try.prog W 0 (fun _ => true) true fuel 34 [v] = some x) (hw : ∀ n ∈ x.1.weights Try.prog 34, n ≤ reachBytes) : ∃ t, StepsOk W v t ∧ t.length ≤ 140737488355328 := by
  obtain ⟨t, ht⟩ := steps_arg hf
  refine ⟨t, ht, ?_⟩
  obtain ⟨⟨o, cap, e, _⟩, _⟩ := ht
  rcases Go.Deep.open_slice Try.underlying34 hf with ⟨hcs, hx⟩ | ⟨a, len, cap', m, n, D, Pl, hcs, _, hl, hm, hme, hx, hc⟩
  · injection hcs with hcs
    rw [e] at hcs
    injection hcs with _ h2 _
    omega
  · injection hcs with hcs
    rw [e] at hcs
    injection hcs with _ h2 _
    subst hx
    have := hw ((((List.range len).map D).length + ((List.range (m - len)).map fun j => D (len + j)).length) * Try.prog.bytesOf 36) (by simp [DataW.weights, Try.underlying34])
    rw [bytesS, List.length_map, List.length_range] at this
    have hr : reachBytes < 140737488355328 := by decide
    omega
theorem tasks_sized {H : Type} {enc : TypeId × Value → H} {W : World} {o : Option Addr} {len cap : Nat} {d : DataW H} {p : List MemPlace} (h : DataW.Trod enc Try.prog W 0 (fun _ => true) true 22 (.slice o len cap) d p) (hw : ∀ n ∈ d.weights Try.prog 22, n ≤ reachBytes) : ∃ L, TasksAt W (.slice o len cap) L ∧ (∀ t ∈ L, ∀ s ∈ t, s.Ok) ∧ L.length ≤ 140737488355328 ∧ ∀ t ∈ L, t.length ≤ 140737488355328 := by
  obtain ⟨fuel, hf⟩ := h
  have hr : reachBytes < 140737488355328 := by decide
  rcases Go.Deep.open_slice Try.underlying22 hf with ⟨hcs, hx⟩ | ⟨a, len', cap', m, n, D, Pl, hcs, _, hl, hm, hme, hx, hc⟩
  · simp [Value.cells] at hcs
    obtain ⟨rfl, rfl, rfl⟩ := hcs
    exact ⟨[], ⟨none, 0, rfl, Nat.le_refl _, by omega, fun _ => rfl, fun z => absurd rfl z⟩, fun t ht => by (cases ht), by decide, fun t ht => by (cases ht)⟩
  · simp [Value.cells] at hcs
    obtain ⟨rfl, rfl, rfl⟩ := hcs
    have hmc : m = cap := by simpa using hme
    rw [cellsT] at hc
    simp only [Prod.mk.injEq] at hx
    obtain ⟨hd, _⟩ := hx
    subst hd
    have hlen : len ≤ 140737488355328 := by
      have := hw ((((List.range len).map D).length + ((List.range (m - len)).map fun j => D (len + j)).length) * Try.prog.bytesOf 34) (by simp [DataW.weights, Try.underlying22])
      rw [bytesL, List.length_map, List.length_range] at this
      omega
    have ex : ∀ i, ∃ X : List Stp, i < len → ∃ u, W.cell? (a.add (i * 1)) = some u ∧ StepsOk W u X ∧ X.length ≤ 140737488355328 := fun i => by
      by_cases z : i < len
      · obtain ⟨cs', k1, k2⟩ := hc i (by omega)
        obtain ⟨c0, rfl, e0⟩ := cells1 k1
        obtain ⟨X, hX, hXl⟩ := steps_sized k2 (fun n hn => hw n (by
          simp only [DataW.weights, Try.underlying22]
          refine List.mem_cons_of_mem _ (List.mem_append_left _ (weights_all (d := D i) ?_ n hn))
          exact List.mem_map.2 ⟨i, List.mem_range.2 z, rfl⟩))
        exact ⟨X, fun _ => ⟨c0, e0, hX, hXl⟩⟩
      · exact ⟨[], fun y => absurd y z⟩
    obtain ⟨X, hX⟩ := Classical.axiomOfChoice ex
    have hmem : ∀ t ∈ (List.range len).map X, ∃ u, StepsOk W u t ∧ t.length ≤ 140737488355328 := fun t ht => by
      obtain ⟨i, hi, rfl⟩ := List.mem_map.1 ht
      obtain ⟨u, _, h1, h2⟩ := hX i (List.mem_range.1 hi)
      exact ⟨u, h1, h2⟩
    refine ⟨(List.range len).map X, ⟨some a, cap, by simp, by simpa using hl, by unfold maxLen at hm; omega, fun z => by (cases z), fun z => ?_⟩, fun t ht s hs => by
      obtain ⟨u, h1, _⟩ := hmem t ht
      exact h1.2 s hs, by simpa using hlen, fun t ht => by
      obtain ⟨u, _, h2⟩ := hmem t ht
      exact h2⟩
    have hlen0 : 0 < len := by
      rcases Nat.eq_zero_or_pos len with e | e
      · rw [e] at z; simp at z
      · exact e
    obtain ⟨b, off, sp⟩ := a
    obtain ⟨u0, h0, _⟩ := hX 0 hlen0
    have hs : sp = none := spot_none (by simpa [Addr.add] using h0)
    subst hs
    refine ⟨b, off, rfl, cell_lt (by simpa [Addr.add] using h0), fun i t hi => ?_⟩
    have hil : i < len := by have := (List.getElem?_eq_some_iff.1 hi).1; simpa using this
    rw [List.getElem?_map, List.getElem?_range hil] at hi
    simp at hi
    subst hi
    obtain ⟨u, hu, hA, _⟩ := hX i hil
    rw [addr_add0, Nat.mul_one] at hu
    exact ⟨u, hu, hA.1⟩
end Go.Proofs.Ytlcbegmhmbegjaa
