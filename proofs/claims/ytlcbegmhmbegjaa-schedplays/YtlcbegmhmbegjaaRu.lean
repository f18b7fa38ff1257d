/- The reference: where a task stands; Left. -/
import Derived.Test.YtlcbegmhmbegjaaRt
namespace Go.Proofs.Ytlcbegmhmbegjaa
open Go.ChangeShapes Go.WideShapes Go.ChangeAt Go.RowKit Go.Proofs.Sc Go.Maps
set_option linter.unusedVariables false
set_option linter.unusedSimpArgs false

variable {w w' : World} {b : Nat} {r : Rs} {v0 v1 v2 v3 v4 : Value} {vs : List Value} {T : Nat → Prop} {K : Nat → Nat}
theorem RL.shape (h : RL w b r v0 v1 v2 v3 v4 vs T K) : ∃ o cap, v0 = .slice o r.tasks.length cap ∧ r.tasks.length ≤ cap := by
  obtain ⟨hl, ⟨e, z⟩ | ⟨g, cap, cur, e, _, _, h1, h2, _⟩⟩ := h.tasks
  · exact ⟨none, 0, by rw [e, z], by omega⟩
  · exact ⟨_, cap, e, h1⟩
theorem RL.task (h : RL w b r v0 v1 v2 v3 v4 vs T K) {i n : Nat} {t : List Stp} (ht : r.tasks[i]? = some t) (hn : r.at_[i]? = some n) :
    ∃ g0 cap0 g1 cap1 o2 cap2, v0 = .slice (some ⟨g0, 0, none⟩) r.tasks.length cap0 ∧ v1 = .slice (some ⟨g1, 0, none⟩) r.at_.length cap1 ∧ w.cell? ⟨g0, i, none⟩ = some (.slice o2 t.length cap2) ∧ w.cell? ⟨g1, i, none⟩ = some (.int .i64 (n : Int)) ∧
      t.length ≤ cap2 ∧ cap2 ≤ 9223372036854775807 ∧ r.tasks.length ≤ cap0 ∧ r.at_.length ≤ cap1 ∧ (∀ k, w.frozen? ⟨g1, k, none⟩ = false) ∧
      (∀ s, t[n]? = some s → ∃ g off, o2 = some ⟨g, off, none⟩ ∧ w.cell? ⟨g, off + n * 3, none⟩ = some (.int .i64 s.op) ∧ w.cell? ⟨g, off + n * 3 + 1, none⟩ = some (.int .i64 s.a) ∧ w.cell? ⟨g, off + n * 3 + 2, none⟩ = some (.int .i64 s.b)) := by
  have hi := (List.getElem?_eq_some_iff.1 ht).1
  have hj := (List.getElem?_eq_some_iff.1 hn).1
  have own0 := h.tasks
  have own1 := h.ats
  obtain ⟨_, ⟨e, z⟩ | ⟨g0, cap0, cur0, e0, _, _, p1, p2, _⟩⟩ := h.tasks
  · omega
  · obtain ⟨_, ⟨e, z⟩ | ⟨g1, cap1, cur1, e1, _, hh1, q1, q2, _⟩⟩ := h.ats
    · omega
    · obtain ⟨v, hv, o2, cap2, rfl, s1, s2, s3, s4⟩ := h.els i t ht
      refine ⟨g0, cap0, g1, cap1, o2, cap2, e0, e1, ?_, ?_, s1, s2, p1, q1, fun k => by simp [World.frozen?, hh1], fun s hs => ?_⟩
      · rw [e0] at own0
        rw [own0.cellAt i (by omega)]
        exact hv
      · rw [e1] at own1
        rw [own1.cellAt i (by omega)]
        unfold nats
        rw [List.getElem?_map, hn]
        rfl
      · obtain ⟨g, off, x1, _, _, x2⟩ := s4 (fun e => by rw [e] at hs; simp at hs)
        exact ⟨g, off, x1, x2 n s hs⟩
theorem ahead_len {r : Rs} (h : WfR r) {i n : Nat} {t : List Stp} (ht : r.tasks[i]? = some t) (hn : r.at_[i]? = some n) : (aheadR r).getD i [] = t.drop n := by
  rw [List.getD_eq_getElem?_getD, aheadR_get r hn ht]; rfl
theorem wrap_sub {j n : Nat} (h : n ≤ j) (hj : j ≤ 9223372036854775807) : IntKind.i64.wrap ((j : Int) - (n : Int)) = (j : Int) - (n : Int) := by
  unfold IntKind.wrap
  simp [IntKind.bits, IntKind.signed]
  split <;> omega
theorem RL.left (h : RL w b r v0 v1 v2 v3 v4 vs T K) (ok : OkR r) (t : Int) (ht : i64 t) :
    Calls Try.prog 30 #[.pointer (some ⟨b, 0, none⟩), .int .i64 t] w fun e w' => e = .returned (.tuple #[.int .i64 ((leftS (absR r) t).1 : Nat), .int .i64 ((leftS (absR r) t).2 : Nat)]) ∧ Below w.heap.size w w' := by
  have c0 := h.c0
  have c1 := h.c1
  have t0 := ht.1
  have t1 := ht.2
  have hL : (absR r).ahead.length = r.tasks.length := aheadR_length ok.wf.len
  have hT : r.tasks.length ≤ 64 := by rw [← hL]; exact ok.wf.wf.tasks
  obtain ⟨o, cap, e0, hcap⟩ := h.shape
  by_cases c : t < 0
  · have e : leftS (absR r) t = (0, 1) := by unfold leftS; rw [if_pos (Or.inl c)]
    rw [e]
    clear e h ok hL hcap
    go_enter Try.func30, Try.ntmps30
    go_wp2_with fail
    go_ret2
    exact ⟨rfl, Below.refl _ _⟩
  · by_cases c2 : (r.tasks.length : Int) ≤ t
    · have e : leftS (absR r) t = (0, 1) := by unfold leftS; rw [if_pos (Or.inr (by rw [hL]; exact c2))]
      rw [e]
      subst e0
      obtain ⟨k, hk⟩ : ∃ k, r.tasks.length = k := ⟨_, rfl⟩
      rw [hk] at c0 c2 hT
      have d : decide (t ≥ (k : Int)) = true := decide_eq_true c2
      have d1 : decide (t < 0) = false := decide_eq_false c
      clear e h ok hk hL hcap
      go_enter Try.func30, Try.ntmps30
      go_wp2_with fail
      go_ret2
      exact ⟨rfl, Below.refl _ _⟩
    · obtain ⟨i, rfl⟩ : ∃ i : Nat, t = (i : Int) := ⟨t.toNat, by omega⟩
      have hi : i < r.tasks.length := by omega
      obtain ⟨q, hq⟩ : ∃ q, r.tasks[i]? = some q := ⟨_, List.getElem?_eq_getElem hi⟩
      obtain ⟨n, hn⟩ : ∃ n, r.at_[i]? = some n := ⟨_, List.getElem?_eq_getElem (by rw [ok.wf.len]; exact hi)⟩
      have hle := ok.wf.le i n q hn hq
      have e : leftS (absR r) (i : Int) = (q.length - n, 0) := by
        unfold leftS
        rw [if_neg (by rw [hL]; omega), Int.toNat_natCast]
        show (((aheadR r).getD i []).length, 0) = _
        rw [ahead_len ok.wf hq hn, List.length_drop]
      obtain ⟨g0, cap0, g1, cap1, o2, cap2, a0, a1, k0, k1, l2, l3, l0, l1, _, _⟩ := h.task hq hn
      rw [e]
      obtain ⟨k, hk⟩ : ∃ k, r.tasks.length = k := ⟨_, rfl⟩
      obtain ⟨j, hj⟩ : ∃ j, q.length = j := ⟨_, rfl⟩
      rw [ok.wf.len] at a1 l1
      rw [hk] at a0 a1 c2 hT hcap l0 l1
      rw [hj] at k0 l2 hle ⊢
      rw [a0] at c0
      rw [a1] at c1
      have c2' : (i : Int) < (k : Int) := by omega
      have i0 : (0 : Int) ≤ (i : Int) := by omega
      have d : decide ((i : Int) ≥ (k : Int)) = false := decide_eq_false (by omega)
      have d1 : decide ((i : Int) < 0) = false := decide_eq_false c
      have S : Hid (((j - n : Nat) : Int) = (j : Int) - (n : Int)) := hide (by omega)
      have s0 : (n : Int) ≤ (j : Int) := by omega
      have s1 : (j : Int) ≤ 9223372036854775807 := by omega
      rw [S.out]
      clear e h ok hk hj c c2 hi hL hq hn e0 a0 a1 S
      go_enter Try.func30, Try.ntmps30
      go_wp2_with fail
      refine still_tail 16 (by kernel_rfl) (by kernel_rfl) ?_
      simp only [List.take_succ_cons, List.take_zero, List.drop_succ_cons, List.drop_zero]
      repeat still_step
      refine wpStill_nil ?_
      go_wp2_with fail
      go_ret2
      refine ⟨?_, drew_below w⟩
      simp only [wrap_sub (show n ≤ j by omega) (show j ≤ 9223372036854775807 by omega)]
      try rfl
end Go.Proofs.Ytlcbegmhmbegjaa
