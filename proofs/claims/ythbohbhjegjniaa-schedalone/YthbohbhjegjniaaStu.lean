/- Two tasks that lock crosswise. -/
import Derived.Test.YthbohbhjegjniaaEn
namespace Go.Proofs.Ythbohbhjegjniaa
open Go.ChangeShapes Go.WideShapes Go.ChangeAt Go.RowKit Go.Proofs.Sc Go.Maps
set_option linter.unusedVariables false
set_option linter.unusedSimpArgs false

theorem able_two {S : Sc} {t t' : List Stp} (h0 : S.over = false) (h1 : S.ahead = [t, t']) : ableS S = (if canS S t then [0] else []) ++ (if canS S t' then [1] else []) := by
  unfold ableS ablesTo
  rw [if_neg (by rw [h0]; simp), h1]
  show List.filter _ [0, 1] = _
  simp only [List.filter_cons, List.filter_nil, List.getD_cons_zero, List.getD_cons_succ]
  cases canS S t <;> cases canS S t' <;> rfl
/-- One of those that are enabled goes on. -/
theorem go_pick {S : Sc} (p : Int) (h0 : S.over = false) (hd : doneS S = false) (ha : ableS S ≠ []) : ∃ i ∈ ableS S, goS S p = (i, stepS S i) := by
  refine ⟨pickS S p, (pick_mem p ha).1, ?_⟩
  unfold goS
  rw [if_neg (by rw [h0]; simp), if_neg (by rw [hd]; simp), if_neg ha]
def aT : List Stp := [⟨1, 1, 0⟩, ⟨1, 2, 0⟩, ⟨2, 2, 0⟩, ⟨2, 1, 0⟩]
def bT : List Stp := [⟨1, 2, 0⟩, ⟨1, 1, 0⟩, ⟨2, 1, 0⟩, ⟨2, 2, 0⟩]
def h1 (i j : Nat) : Option Nat := if 1 ≤ i ∧ i < 4 then some 0 else if 2 ≤ j ∧ j < 3 then some 1 else none
def h2 (i j : Nat) : Option Nat := if 2 ≤ i ∧ i < 3 then some 0 else if 1 ≤ j ∧ j < 4 then some 1 else none
structure X (S : Sc) (i j : Nat) : Prop where
  ahead : S.ahead = [aT.drop i, bT.drop j]
  over : S.over = false
  one : S.hold 1 = h1 i j
  two : S.hold 2 = h2 i j
def reach (i j : Nat) : Bool := [(0, 0), (1, 0), (0, 1), (1, 1), (2, 0), (3, 0), (4, 0), (3, 1), (4, 1), (4, 2), (4, 3), (4, 4), (0, 2), (0, 3), (0, 4), (1, 3), (1, 4), (2, 4), (3, 4)].contains (i, j)
theorem X.able {S : Sc} {i j : Nat} (h : X S i j) : ableS S = (if canS S (aT.drop i) then [0] else []) ++ (if canS S (bT.drop j) then [1] else []) := able_two h.over h.ahead
def canA (i j : Nat) : Bool := if i = 0 then (h1 i j).isNone else if i = 1 then (h2 i j).isNone else decide (i < 4)
def canB (i j : Nat) : Bool := if j = 0 then (h2 i j).isNone else if j = 1 then (h1 i j).isNone else decide (j < 4)
theorem X.canA {S : Sc} {i j : Nat} (h : X S i j) (hi : i ≤ 4) : canS S (aT.drop i) = canA i j := by
  have e1 := h.one
  have e2 := h.two
  match i, hi with
  | 0, _ => show (!waitsS S ⟨1, 1, 0⟩) = _; simp only [waitsS, if_true, e1, Go.Proofs.Ythbohbhjegjniaa.canA]; cases h1 0 j <;> rfl
  | 1, _ => show (!waitsS S ⟨1, 2, 0⟩) = _; simp only [waitsS, if_true, e2, Go.Proofs.Ythbohbhjegjniaa.canA]; cases h2 1 j <;> rfl
  | 2, _ => rfl
  | 3, _ => rfl
  | 4, _ => rfl
theorem X.canB {S : Sc} {i j : Nat} (h : X S i j) (hj : j ≤ 4) : canS S (bT.drop j) = canB i j := by
  have e1 := h.one
  have e2 := h.two
  match j, hj with
  | 0, _ => show (!waitsS S ⟨1, 2, 0⟩) = _; simp only [waitsS, if_true, e2, Go.Proofs.Ythbohbhjegjniaa.canB]; cases h2 i 0 <;> rfl
  | 1, _ => show (!waitsS S ⟨1, 1, 0⟩) = _; simp only [waitsS, if_true, e1, Go.Proofs.Ythbohbhjegjniaa.canB]; cases h1 i 1 <;> rfl
  | 2, _ => rfl
  | 3, _ => rfl
  | 4, _ => rfl
theorem X.left {S : Sc} {i j : Nat} (h : X S i j) (hi : i ≤ 4) (hj : j ≤ 4) : leftS S 0 = (4 - i, 0) ∧ leftS S 1 = (4 - j, 0) := by
  unfold leftS
  rw [h.ahead]
  refine ⟨?_, ?_⟩
  · rw [if_neg (by simp)]; show ((aT.drop i).length, 0) = _; simp [aT]
  · rw [if_neg (by simp)]; show ((bT.drop j).length, 0) = _; simp [bT]
theorem X.stepA {S : Sc} {i j : Nat} (h : X S i j) (hr : reach i j = true) (hc : Go.Proofs.Ythbohbhjegjniaa.canA i j = true) : ∃ S', stepS S 0 = (0, S') ∧ X S' (i + 1) j ∧ reach (i + 1) j = true := by
  have hh := h.ahead
  have e1 := h.one
  have e2 := h.two
  have go : ∀ (s : Stp) (r : List Stp), aT.drop i = s :: r → ¬ (s.op = 2 ∧ S.hold s.a ≠ some 0) → stepS S 0 = (0, { actS S 0 s with ahead := [r, bT.drop j] }) := fun s r hs hok => by
    rw [step_ok (i := 0) (s := s) (r := r) (by rw [hh, hs]; rfl) hok, hh]
    rfl
  simp only [reach, List.contains_cons, List.contains_nil, Bool.or_eq_true, beq_iff_eq, Prod.mk.injEq, Bool.or_false] at hr
  rcases hr with ⟨rfl, rfl⟩ | ⟨rfl, rfl⟩ | ⟨rfl, rfl⟩ | ⟨rfl, rfl⟩ | ⟨rfl, rfl⟩ | ⟨rfl, rfl⟩ | ⟨rfl, rfl⟩ | ⟨rfl, rfl⟩ | ⟨rfl, rfl⟩ | ⟨rfl, rfl⟩ | ⟨rfl, rfl⟩ | ⟨rfl, rfl⟩ | ⟨rfl, rfl⟩ | ⟨rfl, rfl⟩ | ⟨rfl, rfl⟩ | ⟨rfl, rfl⟩ | ⟨rfl, rfl⟩ | ⟨rfl, rfl⟩ | ⟨rfl, rfl⟩
  all_goals first
    | (exact absurd hc (by decide))
    | (refine ⟨_, go _ _ rfl (by first | (intro z; exact absurd z.1 (by decide)) | (intro z; exact z.2 (by simp only [e1, e2]; rfl))), ⟨rfl, ?_, ?_, ?_⟩, rfl⟩
       · simp only [act_lock, act_unlock]; exact h.over
       · simp only [act_lock, act_unlock, e1]; first | rfl | decide
       · simp only [act_lock, act_unlock, e2]; first | rfl | decide)
theorem X.stepB {S : Sc} {i j : Nat} (h : X S i j) (hr : reach i j = true) (hc : Go.Proofs.Ythbohbhjegjniaa.canB i j = true) : ∃ S', stepS S 1 = (0, S') ∧ X S' i (j + 1) ∧ reach i (j + 1) = true := by
  have hh := h.ahead
  have e1 := h.one
  have e2 := h.two
  have go : ∀ (s : Stp) (r : List Stp), bT.drop j = s :: r → ¬ (s.op = 2 ∧ S.hold s.a ≠ some 1) → stepS S 1 = (0, { actS S 1 s with ahead := [aT.drop i, r] }) := fun s r hs hok => by
    rw [step_ok (i := 1) (s := s) (r := r) (by rw [hh, hs]; rfl) hok, hh]
    rfl
  simp only [reach, List.contains_cons, List.contains_nil, Bool.or_eq_true, beq_iff_eq, Prod.mk.injEq, Bool.or_false] at hr
  rcases hr with ⟨rfl, rfl⟩ | ⟨rfl, rfl⟩ | ⟨rfl, rfl⟩ | ⟨rfl, rfl⟩ | ⟨rfl, rfl⟩ | ⟨rfl, rfl⟩ | ⟨rfl, rfl⟩ | ⟨rfl, rfl⟩ | ⟨rfl, rfl⟩ | ⟨rfl, rfl⟩ | ⟨rfl, rfl⟩ | ⟨rfl, rfl⟩ | ⟨rfl, rfl⟩ | ⟨rfl, rfl⟩ | ⟨rfl, rfl⟩ | ⟨rfl, rfl⟩ | ⟨rfl, rfl⟩ | ⟨rfl, rfl⟩ | ⟨rfl, rfl⟩
  all_goals first
    | (exact absurd hc (by decide))
    | (refine ⟨_, go _ _ rfl (by first | (intro z; exact absurd z.1 (by decide)) | (intro z; exact z.2 (by simp only [e1, e2]; rfl))), ⟨rfl, ?_, ?_, ?_⟩, rfl⟩
       · simp only [act_lock, act_unlock]; exact h.over
       · simp only [act_lock, act_unlock, e1]; first | rfl | decide
       · simp only [act_lock, act_unlock, e2]; first | rfl | decide)
theorem reach_le {i j : Nat} (h : reach i j = true) : i ≤ 4 ∧ j ≤ 4 := by
  simp only [reach, List.contains_cons, List.contains_nil, Bool.or_eq_true, beq_iff_eq, Prod.mk.injEq, Bool.or_false] at h
  omega
/-- What comes next. -/
theorem X.go {S : Sc} {i j : Nat} (h : X S i j) (hr : reach i j = true) (p : Int) (h44 : ¬ (i = 4 ∧ j = 4)) (h11 : ¬ (i = 1 ∧ j = 1)) : ∃ k S' i' j', goS S p = (k, 0, S') ∧ k ≤ 1 ∧ X S' i' j' ∧ reach i' j' = true ∧ i' + j' = i + j + 1 := by
  obtain ⟨hi, hj⟩ := reach_le hr
  have ea := h.able
  rw [h.canA hi, h.canB hj] at ea
  have hne : Go.Proofs.Ythbohbhjegjniaa.canA i j = true ∨ Go.Proofs.Ythbohbhjegjniaa.canB i j = true := by
    simp only [reach, List.contains_cons, List.contains_nil, Bool.or_eq_true, beq_iff_eq, Prod.mk.injEq, Bool.or_false] at hr
    rcases hr with ⟨rfl, rfl⟩ | ⟨rfl, rfl⟩ | ⟨rfl, rfl⟩ | ⟨rfl, rfl⟩ | ⟨rfl, rfl⟩ | ⟨rfl, rfl⟩ | ⟨rfl, rfl⟩ | ⟨rfl, rfl⟩ | ⟨rfl, rfl⟩ | ⟨rfl, rfl⟩ | ⟨rfl, rfl⟩ | ⟨rfl, rfl⟩ | ⟨rfl, rfl⟩ | ⟨rfl, rfl⟩ | ⟨rfl, rfl⟩ | ⟨rfl, rfl⟩ | ⟨rfl, rfl⟩ | ⟨rfl, rfl⟩ | ⟨rfl, rfl⟩
    all_goals first
      | (exact absurd ⟨rfl, rfl⟩ h44)
      | (exact absurd ⟨rfl, rfl⟩ h11)
      | decide
  have hd : doneS S = false := by
    cases e : doneS S with
    | false => rfl
    | true =>
      rw [done_all] at e
      have a0 := e 0 _ (by rw [h.ahead]; rfl)
      have b0 := e 1 _ (by rw [h.ahead]; rfl)
      have la := congrArg List.length a0
      have lb := congrArg List.length b0
      simp [aT, bT] at la lb
      omega
  have hnn : ableS S ≠ [] := by
    rw [ea]
    rcases hne with e | e <;> rw [e] <;> simp
  obtain ⟨k, hk, hg⟩ := go_pick p h.over hd hnn
  rw [hg]
  rw [ea] at hk
  rcases List.mem_append.1 hk with z | z
  · by_cases c : Go.Proofs.Ythbohbhjegjniaa.canA i j = true
    · rw [if_pos c] at z
      obtain rfl : k = 0 := by simpa using z
      obtain ⟨S', e1, e2, e3⟩ := h.stepA hr c
      rw [e1]
      exact ⟨0, S', i + 1, j, rfl, by omega, e2, e3, by omega⟩
    · rw [if_neg c] at z; simp at z
  · by_cases c : Go.Proofs.Ythbohbhjegjniaa.canB i j = true
    · rw [if_pos c] at z
      obtain rfl : k = 1 := by simpa using z
      obtain ⟨S', e1, e2, e3⟩ := h.stepB hr c
      rw [e1]
      exact ⟨1, S', i, j + 1, rfl, by omega, e2, e3, by omega⟩
    · rw [if_neg c] at z; simp at z
theorem X.stuck {S : Sc} (h : X S 1 1) (p : Int) : goS S p = (0, 21, S) ∧ ableS S = [] := by
  have ea := h.able
  rw [h.canA (by decide), h.canB (by decide)] at ea
  have ha : ableS S = [] := by rw [ea]; rfl
  refine ⟨?_, ha⟩
  unfold goS
  rw [if_neg (by rw [h.over]; simp), if_neg ?_, if_pos ha]
  unfold doneS
  rw [h.ahead]
  simp [aT, bT]
theorem X.done {S : Sc} (h : X S 4 4) (p : Int) : goS S p = (0, 22, S) := by
  unfold goS
  rw [if_neg (by rw [h.over]; simp), if_pos ?_]
  unfold doneS
  rw [h.ahead]
  rfl
theorem stu_start : X (initS [aT, bT]) 0 0 := ⟨rfl, rfl, rfl, rfl⟩
end Go.Proofs.Ythbohbhjegjniaa
