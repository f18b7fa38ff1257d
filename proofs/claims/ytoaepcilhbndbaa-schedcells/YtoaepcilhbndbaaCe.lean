/- What all tasks add is there at the end. -/
import Derived.Test.YtoaepcilhbndbaaFa
namespace Go.Proofs.Ytoaepcilhbndbaa
open Go.ChangeShapes Go.WideShapes Go.ChangeAt Go.RowKit Go.Proofs.Sc Go.Maps
set_option linter.unusedVariables false
set_option linter.unusedSimpArgs false

def addT (l : List Int) : List Stp := l.map fun x => ⟨3, 5, x⟩
def isum (l : List Int) : Int := l.foldr (· + ·) 0
def rsum (R : List (List Int)) : Int := (R.map isum).foldr (· + ·) 0
theorem isum_cons (x : Int) (l : List Int) : isum (x :: l) = x + isum l := rfl
theorem isum_append (a b : List Int) : isum (a ++ b) = isum a + isum b := by
  induction a with
  | nil => simp [isum]
  | cons x a ih => rw [List.cons_append, isum_cons, isum_cons, ih]; omega
theorem rsum_cons (x : List Int) (l : List (List Int)) : rsum (x :: l) = isum x + rsum l := rfl
theorem rsum_append (a b : List (List Int)) : rsum (a ++ b) = rsum a + rsum b := by
  induction a with
  | nil => simp [rsum]
  | cons x a ih => rw [List.cons_append, rsum_cons, rsum_cons, ih]; omega
theorem rsum_set {R : List (List Int)} : ∀ {i : Nat} {x : Int} {r : List Int}, R[i]? = some (x :: r) → rsum (R.set i r) + x = rsum R := by
  induction R with
  | nil => intro i x r h; simp at h
  | cons a R ih =>
    intro i x r h
    cases i with
    | zero => simp at h; subst h; simp only [List.set_cons_zero, rsum_cons, isum_cons]; omega
    | succ i => simp at h; have := ih h; simp only [List.set_cons_succ, rsum_cons]; omega
theorem isum_pos {l : List Int} (h : ∀ x ∈ l, 1 ≤ x) : 0 ≤ isum l ∧ (l ≠ [] → 0 < isum l) := by
  induction l with
  | nil => exact ⟨by simp [isum], fun z => absurd rfl z⟩
  | cons x l ih =>
    have := (ih (fun y hy => h y (by simp [hy]))).1
    have hx := h x (by simp)
    rw [isum_cons]
    exact ⟨by omega, fun _ => by omega⟩
theorem rsum_pos {R : List (List Int)} (h : ∀ l ∈ R, ∀ x ∈ l, 1 ≤ x) : 0 ≤ rsum R ∧ ((∃ l ∈ R, l ≠ []) → 0 < rsum R) := by
  induction R with
  | nil => exact ⟨by simp [rsum], fun ⟨l, hl, _⟩ => by cases hl⟩
  | cons a R ih =>
    obtain ⟨i1, i2⟩ := ih (fun l hl => h l (by simp [hl]))
    obtain ⟨j1, j2⟩ := isum_pos (h a (by simp))
    rw [rsum_cons]
    refine ⟨by omega, fun ⟨l, hl, hne⟩ => ?_⟩
    rcases List.mem_cons.1 hl with e | e
    · subst e; have := j2 hne; omega
    · have := i2 ⟨l, e, hne⟩; omega
/-- The machine: what is still to be added; sum: of all. -/
structure CI (n : Nat) (sum : Int) (S : Sc) (R : List (List Int)) (last : List Stp) : Prop where
  over : S.over = false
  ahead : S.ahead = R.map addT ++ [last]
  len : R.length = n
  cell : S.cell 5 = sum - rsum R
  pos : ∀ l ∈ R, ∀ x ∈ l, 1 ≤ x
  last : (last = [⟨4, 5, sum⟩, ⟨5, 1, 0⟩] ∧ S.said.length = 0) ∨ (last = [⟨5, 1, 0⟩] ∧ rsum R = 0 ∧ S.said.length = 0) ∨ (last = [] ∧ rsum R = 0 ∧ S.said.length = 1)
  small : rsum R ≤ 200000 ∧ sum ≤ 200000 ∧ rsum R ≤ sum
variable {n : Nat} {sum : Int} {S : Sc} {R : List (List Int)} {last : List Stp}
theorem CI.at (h : CI n sum S R last) {i : Nat} {t : List Stp} (hi : S.ahead[i]? = some t) : (i < n ∧ ∃ l, R[i]? = some l ∧ t = addT l) ∨ (i = n ∧ t = last) := by
  rw [h.ahead] at hi
  have hl : (R.map addT).length = n := by rw [List.length_map]; exact h.len
  by_cases c : i < n
  · left
    rw [List.getElem?_append_left (by omega), List.getElem?_map] at hi
    cases e : R[i]? with
    | none => rw [e] at hi; simp at hi
    | some l => rw [e] at hi; simp at hi; exact ⟨c, l, rfl, hi.symm⟩
  · right
    rw [List.getElem?_append_right (by omega), hl] at hi
    have : i - n = 0 := by
      have := (List.getElem?_eq_some_iff.1 hi).1
      simp at this; omega
    rw [this] at hi
    simp at hi
    exact ⟨by omega, hi.symm⟩
theorem CI.step (h : CI n sum S R last) {i : Nat} {s : Stp} {r : List Stp} (hs : S.ahead[i]? = some (s :: r)) (hw : waitsS S s = false) :
    ∃ S' R' last', stepS S i = (0, S') ∧ CI n sum S' R' last' ∧ lens S'.ahead + 1 = lens S.ahead ∧ (i = n → S.cell 5 = sum) := by
  have hl1 := lens_set hs
  obtain ⟨sm1, sm2, sm3⟩ := h.small
  have hlm : (R.map addT).length = n := by rw [List.length_map]; exact h.len
  rcases h.at hs with ⟨hin, l, hl, e⟩ | ⟨rfl, e⟩
  · cases l with
    | nil => simp [addT] at e
    | cons x l =>
      simp [addT] at e
      obtain ⟨rfl, rfl⟩ := e
      have hr := rsum_set hl
      have hx := h.pos _ (List.mem_of_getElem? hl) x (by simp)
      have hpos : ∀ l' ∈ R.set i l, ∀ y ∈ l', 1 ≤ y := fun l' hl' y hy => by
        rcases List.mem_or_eq_of_mem_set hl' with z | z
        · exact h.pos l' z y hy
        · subst z; exact h.pos _ (List.mem_of_getElem? hl) y (by simp [hy])
      have hp0 := (rsum_pos hpos).1
      refine ⟨_, R.set i l, last, step_ok hs (by simp), ?_, hl1, fun z => by omega⟩
      refine ⟨?_, ?_, by rw [List.length_set]; exact h.len, ?_, hpos, ?_, by omega, sm2, by omega⟩
      · rw [act_add]; exact h.over
      · show S.ahead.set i (addT l) = _
        rw [h.ahead, List.set_append_left _ _ (by omega), List.map_set]
      · rw [act_add]
        show (if (5 : Int) = 5 then IntKind.i64.wrap (S.cell 5 + x) else S.cell 5) = _
        rw [if_pos rfl, h.cell, wrap_small (by unfold i64; omega)]
        omega
      · rw [act_add]
        rcases h.last with ⟨a, b⟩ | ⟨a, b, c⟩ | ⟨a, b, c⟩
        · exact Or.inl ⟨a, b⟩
        · exact absurd b (by omega)
        · exact absurd b (by omega)
  · have hset : S.ahead.set i r = R.map addT ++ [r] := by
      rw [h.ahead, List.set_append_right _ _ (by omega), hlm, Nat.sub_self]; rfl
    rcases h.last with ⟨a, b⟩ | ⟨a, b, c⟩ | ⟨a, b, c⟩
    · rw [a] at e
      injection e with e1 e2
      subst e1 e2
      have hge : sum ≤ S.cell 5 := by
        simp only [waitsS] at hw
        rw [if_neg (by decide), if_pos trivial] at hw
        have := of_decide_eq_false hw
        omega
      have hp0 := (rsum_pos h.pos).1
      have hc := h.cell
      have hr0 : rsum R = 0 := by omega
      refine ⟨_, R, _, step_ok hs (by simp), ⟨by rw [act_await]; exact h.over, hset, h.len, by rw [act_await]; exact h.cell, h.pos, Or.inr (Or.inl ⟨rfl, hr0, by rw [act_await]; exact b⟩), h.small⟩, hl1, fun _ => by omega⟩
    · rw [a] at e
      injection e with e1 e2
      subst e1 e2
      have hc := h.cell
      refine ⟨_, R, _, step_ok hs (by simp), ⟨by rw [act_say]; exact h.over, hset, h.len, by rw [act_say]; exact h.cell, h.pos, Or.inr (Or.inr ⟨rfl, b, by rw [act_say]; simp [c]⟩), h.small⟩, hl1, fun _ => by omega⟩
    · rw [a] at e; cases e
theorem CI.able (h : CI n sum S R last) (hl : 0 < lens S.ahead) : ableS S ≠ [] := by
  intro hno
  have stuck : ∀ (i : Nat) (s : Stp) (r : List Stp), S.ahead[i]? = some (s :: r) → waitsS S s = true := fun i s r hs => by
    cases e : waitsS S s with
    | true => rfl
    | false => have := mem_able h.over hs e; rw [hno] at this; cases this
  have hlm : (R.map addT).length = n := by rw [List.length_map]; exact h.len
  have hR : ∀ l ∈ R, l = [] := fun l hl => by
    obtain ⟨i, hi⟩ := List.mem_iff_getElem?.1 hl
    cases l with
    | nil => rfl
    | cons x l =>
      have hin : i < n := by rw [← h.len]; exact (List.getElem?_eq_some_iff.1 hi).1
      have := stuck i ⟨3, 5, x⟩ (addT l) (by rw [h.ahead, List.getElem?_append_left (by omega), List.getElem?_map, hi]; rfl)
      simp [waitsS] at this
  have hr0 : rsum R = 0 := by
    have : ∀ R : List (List Int), (∀ l ∈ R, l = []) → rsum R = 0 := fun R => by
      induction R with
      | nil => intro _; rfl
      | cons a R ih => intro hh; rw [rsum_cons, ih (fun l hl => hh l (by simp [hl])), hh a (by simp)]; rfl
    exact this R hR
  have hn : S.ahead[n]? = some last := by rw [h.ahead, List.getElem?_append_right (by omega), hlm, Nat.sub_self]; rfl
  have hc := h.cell
  rcases h.last with ⟨a, b⟩ | ⟨a, b, c⟩ | ⟨a, b, c⟩
  · rw [a] at hn
    have := stuck n _ _ hn
    simp only [waitsS] at this
    rw [if_neg (by decide), if_pos trivial] at this
    have := of_decide_eq_true this
    omega
  · rw [a] at hn
    have := stuck n _ _ hn
    simp [waitsS] at this
  · have : lens S.ahead = 0 := by
      refine done_of ?_
      rw [done_all]
      intro i t hi
      rcases h.at hi with ⟨_, l, hl, e⟩ | ⟨_, e⟩
      · rw [e, hR l (List.mem_of_getElem? hl)]; rfl
      · rw [e, a]
    omega
theorem CI.go (h : CI n sum S R last) (hl : 0 < lens S.ahead) (p : Int) : ∃ i S', goS S p = (i, 0, S') ∧ i ≤ n ∧ (∃ R' last', CI n sum S' R' last') ∧ lens S'.ahead + 1 = lens S.ahead ∧ (i = n → S.cell 5 = sum) := by
  have hd : doneS S = false := by
    cases e : doneS S with
    | false => rfl
    | true => have := done_of e; omega
  obtain ⟨i, hi, hg⟩ := go_pick p h.over hd (h.able hl)
  obtain ⟨s, r, hs, hw⟩ := able_mem hi
  have hin : i ≤ n := by
    have := (List.getElem?_eq_some_iff.1 hs).1
    rw [h.ahead, List.length_append, List.length_map, h.len] at this
    simp at this; omega
  obtain ⟨S', R', l', e1, e2, e3, e4⟩ := h.step hs hw
  exact ⟨i, S', by rw [hg, e1], hin, ⟨R', l', e2⟩, e3, e4⟩
theorem CI.end (h : CI n sum S R last) (hl : lens S.ahead = 0) : S.cell 5 = sum ∧ S.said.length = 1 := by
  have hz := lens_zero hl
  rw [h.ahead] at hz
  have hlast := hz last (by simp)
  rcases h.last with ⟨a, b⟩ | ⟨a, b, c⟩ | ⟨a, b, c⟩
  · rw [hlast] at a; cases a
  · rw [hlast] at a; cases a
  · have := h.cell; exact ⟨by omega, c⟩
end Go.Proofs.Ytoaepcilhbndbaa
