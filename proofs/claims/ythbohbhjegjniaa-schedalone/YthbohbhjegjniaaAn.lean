/- SchedAlone's machine at its end; what was said, number by number. -/
import Derived.Test.YthbohbhjegjniaaAm
namespace Go.Proofs.Ythbohbhjegjniaa
open Go.ChangeShapes Go.WideShapes Go.ChangeAt Go.RowKit Go.Proofs.Sc Go.Maps
set_option linter.unusedVariables false
set_option linter.unusedSimpArgs false

theorem lens_zero_nil {l : List (List Stp)} (h : lens l = 0) : ∀ t ∈ l, t = [] := by
  induction l with
  | nil => intro t ht; cases ht
  | cons a l ih =>
    rw [lens_cons] at h
    intro t ht
    rcases List.mem_cons.1 ht with e | e
    · subst e; exact List.eq_nil_of_length_eq_zero (by omega)
    · exact ih (by omega) t e
/-- How often a task has spoken. -/
def cnt (l : List Int) (i : Nat) : Nat := (l.filter (fun y => decide (y / 100 = (i : Int)))).length
/-- What holds at the end. -/
structure AE (A : List (List Int)) (S : Sc) : Prop where
  go : goS S 0 = (0, 22, S)
  able : ableS S = []
  free : ∀ l, S.hold l = none
  said : ∀ (i : Nat) (a : List Int), A[i]? = some a → S.said.filter (fun y => decide (y / 100 = (i : Int))) = a.map (fun x => 100 * (i : Int) + x)
  len : S.said.length = total A
  from' : ∀ y ∈ S.said, ∃ (i : Nat) (a : List Int), A[i]? = some a ∧ y / 100 = (i : Int)
theorem cnt_sum {n : Nat} : ∀ {l : List Int}, (∀ y ∈ l, ∃ i : Nat, i < n ∧ y / 100 = (i : Int)) → l.length = ((List.range n).map (cnt l)).sum := by
  intro l
  induction l with
  | nil =>
    intro _
    induction n with
    | zero => rfl
    | succ n ih => rw [List.range_succ, List.map_append, List.sum_append, ← ih (fun y hy => by cases hy)]; rfl
  | cons y l ih =>
    intro h
    obtain ⟨i, hi, hy⟩ := h y (by simp)
    have ih' := ih (fun z hz => h z (by simp [hz]))
    have e : ∀ j : Nat, cnt (y :: l) j = cnt l j + if j = i then 1 else 0 := fun j => by
      unfold cnt
      by_cases c : j = i
      · subst c; simp [List.filter_cons, hy]
      · rw [if_neg c, List.filter_cons_of_neg (by simp [hy]; omega)]; rfl
    have s : ∀ m, ((List.range m).map (cnt (y :: l))).sum = ((List.range m).map (cnt l)).sum + if i < m then 1 else 0 := by
      intro m
      induction m with
      | zero => simp
      | succ m ihm =>
        rw [List.range_succ, List.map_append, List.map_append, List.sum_append, List.sum_append, ihm]
        simp only [List.map_cons, List.map_nil, List.sum_cons, List.sum_nil, e m]
        (repeat' split) <;> omega
    rw [s n, if_pos hi, List.length_cons, ih']
theorem total_sum (A : List (List Int)) : total A = ((List.range A.length).map (fun i => (A.getD i []).length)).sum := by
  unfold total
  congr 1
  apply List.ext_getElem?
  intro i
  rw [List.getElem?_map, List.getElem?_map]
  by_cases h : i < A.length
  · rw [List.getElem?_eq_getElem h, List.getElem?_range h]; simp [List.getD_eq_getElem?_getD, List.getElem?_eq_getElem h]
  · rw [List.getElem?_eq_none (by omega), List.getElem?_eq_none (by simp; omega)]; rfl
theorem aq_end {A : List (List Int)} {S : Sc} (h : AQ A (3 * total A) S) : AE A S := by
  have hl : lens S.ahead = 0 := by have := h.sum; omega
  have emp := lens_zero_nil hl
  have fin : ∀ (i : Nat) (a : List Int), A[i]? = some a → ∃ d ph, Alo S i a d ph ∧ ph = 0 ∧ d = a.length := fun i a hi => by
    obtain ⟨d, ph, hA⟩ := h.ats i a hi
    by_cases hd : d < a.length
    · obtain ⟨x, hx, h1⟩ := hA.next hd
      rcases h1 with ⟨_, e⟩ | ⟨_, e⟩ | ⟨_, e⟩ <;> exact absurd (emp _ (List.mem_of_getElem? e)) (by simp)
    · exact ⟨d, ph, hA, (hA.done hd).1, (hA.done hd).2.1⟩
  have hdn : doneS S = true := by
    unfold doneS
    rw [List.all_eq_true]
    intro t ht
    rw [emp t ht]; rfl
  have hsaid : ∀ (i : Nat) (a : List Int), A[i]? = some a → S.said.filter (fun y => decide (y / 100 = (i : Int))) = a.map (fun x => 100 * (i : Int) + x) := fun i a hi => by
    obtain ⟨d, ph, hA, rfl, rfl⟩ := fin i a hi
    have := hA.said
    simpa using this
  refine ⟨?_, ?_, fun l => ?_, hsaid, ?_, h.from'⟩
  · unfold goS; rw [if_neg (by rw [h.over]; simp), if_pos hdn]
  · by_cases c : ableS S = []
    · exact c
    · obtain ⟨i, hi⟩ := List.exists_mem_of_ne_nil _ c
      obtain ⟨s, r, h1, _⟩ := mem_can h.over hi
      exact absurd (emp _ (List.mem_of_getElem? h1)) (by simp)
  · cases e : S.hold l with
    | none => rfl
    | some i =>
      have hi := h.held l i e
      obtain ⟨d, ph, hA, rfl, _⟩ := fin i _ (List.getElem?_eq_getElem hi)
      have := ((hA.hold l).1 e).1
      omega
  · rw [cnt_sum (n := A.length) (fun y hy => by
      obtain ⟨i, a, h1, h2⟩ := h.from' y hy
      exact ⟨i, (List.getElem?_eq_some_iff.1 h1).1, h2⟩), total_sum]
    congr 1
    apply List.map_congr_left
    intro i hi
    have hi' : i < A.length := by simpa using hi
    unfold cnt
    rw [hsaid i _ (List.getElem?_eq_getElem hi'), List.length_map, List.getD_eq_getElem?_getD, List.getElem?_eq_getElem hi']
    rfl
/-- The next thing that was said is the next number of its task. -/
theorem said_next {A : List (List Int)} {S : Sc} (h : AE A S) (hA : Small A) {i : Nat} {y : Int} (hy : S.said[i]? = some y) : ∃ (t : Nat) (a : List Int) (x : Int), A[t]? = some a ∧ y / 100 = (t : Int) ∧ y % 100 = x ∧ a[cnt (S.said.take i) t]? = some x ∧ 0 ≤ y ∧ y ≤ 100 * (A.length : Int) ∧
    ∀ j, cnt (S.said.take (i + 1)) j = cnt (S.said.take i) j + if j = t then 1 else 0 := by
  have hil := (List.getElem?_eq_some_iff.1 hy).1
  have hyy := (List.getElem?_eq_some_iff.1 hy).2
  obtain ⟨t, a, h1, h2⟩ := h.from' y (List.mem_of_getElem? hy)
  have e := h.said t a h1
  have split : S.said = S.said.take i ++ y :: S.said.drop (i + 1) := by
    rw [← hyy, ← List.drop_eq_getElem_cons hil, List.take_append_drop]
  have htk : S.said.take (i + 1) = S.said.take i ++ [y] := by rw [List.take_succ_eq_append_getElem hil, hyy]
  have hc : (S.said.filter (fun y => decide (y / 100 = (t : Int))))[cnt (S.said.take i) t]? = some y := by
    rw [split, List.filter_append, List.filter_cons_of_pos (by simp [h2])]
    unfold cnt
    rw [← split, List.getElem?_append_right (Nat.le_refl _)]
    simp
  rw [e, List.getElem?_map] at hc
  cases hx : a[cnt (S.said.take i) t]? with
  | none => rw [hx] at hc; cases hc
  | some x =>
    rw [hx] at hc
    have hyx : 100 * (t : Int) + x = y := by simpa using hc
    obtain ⟨x0, x1⟩ := hA a (List.mem_of_getElem? h1) x (List.mem_of_getElem? hx)
    have htl := (List.getElem?_eq_some_iff.1 h1).1
    refine ⟨t, a, x, h1, h2, by omega, hx, by omega, by omega, fun j => ?_⟩
    unfold cnt
    rw [htk, filt_snoc]
    by_cases c : j = t
    · subst c; rw [if_pos h2, if_pos rfl]; simp
    · rw [if_neg (by rw [h2]; omega), if_neg c]; rfl
end Go.Proofs.Ythbohbhjegjniaa
