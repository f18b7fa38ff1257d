/- SchedAlone's machine: it never stands still. -/
import Derived.Test.YthbohbhjegjniaaStu
import Derived.Test.YthbohbhjegjniaaAl
namespace Go.Proofs.Ythbohbhjegjniaa
open Go.ChangeShapes Go.WideShapes Go.ChangeAt Go.RowKit Go.Proofs.Sc Go.Maps
set_option linter.unusedVariables false
set_option linter.unusedSimpArgs false

theorem lens_all_nil {l : List (List Stp)} (h : ∀ t ∈ l, t = []) : lens l = 0 := by
  induction l with
  | nil => rfl
  | cons a l ih => rw [lens_cons, h a (by simp), ih (fun t ht => h t (by simp [ht]))]; rfl
theorem can_mem {S : Sc} {i : Nat} {s : Stp} {r : List Stp} (ho : S.over = false) (h : S.ahead[i]? = some (s :: r)) (hw : waitsS S s = false) : i ∈ ableS S := by
  have hl : i < S.ahead.length := (List.getElem?_eq_some_iff.1 h).1
  unfold ableS
  rw [if_neg (by rw [ho]; simp)]
  unfold ablesTo
  rw [List.mem_filter]
  refine ⟨by simpa using hl, ?_⟩
  rw [List.getD_eq_getElem?_getD, h]
  simp [canS, hw]
theorem mem_can {S : Sc} {i : Nat} (ho : S.over = false) (h : i ∈ ableS S) : ∃ s r, S.ahead[i]? = some (s :: r) ∧ waitsS S s = false := by
  unfold ableS at h
  rw [if_neg (by rw [ho]; simp)] at h
  unfold ablesTo at h
  rw [List.mem_filter] at h
  obtain ⟨h1, h2⟩ := h
  have hl : i < S.ahead.length := by simpa using h1
  rw [List.getD_eq_getElem?_getD, List.getElem?_eq_getElem hl] at h2
  cases e : S.ahead[i] with
  | nil => rw [e] at h2; simp [canS] at h2
  | cons s r =>
    rw [e] at h2
    exact ⟨s, r, by rw [List.getElem?_eq_getElem hl, e], by simpa [canS] using h2⟩
variable {A : List (List Int)} {q : Nat} {S : Sc}
theorem aq_able (h : AQ A q S) (hq : q < 3 * total A) : ableS S ≠ [] := by
  intro hn
  have none : ∀ i, i ∉ ableS S := fun i => by rw [hn]; simp
  -- no task is in the middle
  have ph0 : ∀ (i : Nat) (a : List Int) (d ph : Nat), A[i]? = some a → Alo S i a d ph → ph = 0 := fun i a d ph hi hA => by
    rcases Nat.eq_zero_or_pos ph with z | z
    · exact z
    · obtain ⟨x, hx, h1⟩ := hA.next (hA.mid z)
      rcases h1 with ⟨e, _⟩ | ⟨_, e⟩ | ⟨_, e⟩
      · exact e
      · exact absurd (can_mem h.over e (by simp [waitsS])) (none i)
      · exact absurd (can_mem h.over e (by simp [waitsS])) (none i)
  have free : ∀ l, S.hold l = Option.none := fun l => by
    cases e : S.hold l with
    | none => rfl
    | some i =>
      have hi := h.held l i e
      obtain ⟨d, ph, hA⟩ := h.ats i _ (List.getElem?_eq_getElem hi)
      have := ((hA.hold l).1 e).1
      have := ph0 i _ d ph (List.getElem?_eq_getElem hi) hA
      omega
  have emp : ∀ t ∈ S.ahead, t = [] := fun t ht => by
    obtain ⟨i, hi, rfl⟩ := List.getElem_of_mem ht
    have hA' : i < A.length := by rw [← h.len]; exact hi
    obtain ⟨d, ph, hA⟩ := h.ats i _ (List.getElem?_eq_getElem hA')
    by_cases hd : d < (A[i]).length
    · obtain ⟨x, hx, h1⟩ := hA.next hd
      have := ph0 i _ d ph (List.getElem?_eq_getElem hA') hA
      rcases h1 with ⟨_, e⟩ | ⟨e, _⟩ | ⟨e, _⟩
      · exact absurd (can_mem h.over e (by simp [waitsS, free])) (none i)
      · omega
      · omega
    · have := (hA.done hd).2.2
      rw [List.getElem?_eq_getElem hi] at this
      exact Option.some.inj this
  have := lens_all_nil emp
  have := h.sum
  omega
theorem alo_other {S' : Sc} {i j : Nat} {a : List Int} {d ph : Nat} (h : Alo S i a d ph) (ha : S'.ahead[i]? = S.ahead[i]?) (hs : S'.said.filter (fun y => decide (y / 100 = (i : Int))) = S.said.filter (fun y => decide (y / 100 = (i : Int)))) (hh : ∀ l, S'.hold l = some i ↔ S.hold l = some i) : Alo S' i a d ph :=
  ⟨h.lt, h.mid, h.le, ha.trans h.ahead, hs.trans h.said, fun l => (hh l).trans (h.hold l)⟩
theorem filt_snoc (l : List Int) (y : Int) (i : Nat) : (l ++ [y]).filter (fun z => decide (z / 100 = (i : Int))) = if y / 100 = (i : Int) then l.filter (fun z => decide (z / 100 = (i : Int))) ++ [y] else l.filter (fun z => decide (z / 100 = (i : Int))) := by
  by_cases h : y / 100 = (i : Int)
  · simp [h]
  · simp [h]
theorem aq_go (h : AQ A q S) (hA : Small A) (hq : q < 3 * total A) (p : Int) : ∃ (i : Nat) (S' : Sc), goS S p = (i, 0, S') ∧ AQ A (q + 1) S' := by
  have hab := aq_able h hq
  have hdn : doneS S = false := by
    cases e : doneS S with
    | false => rfl
    | true =>
      exfalso
      obtain ⟨i, hi⟩ := List.exists_mem_of_ne_nil _ hab
      obtain ⟨s, r, h1, _⟩ := mem_can h.over hi
      unfold doneS at e
      have := List.all_eq_true.1 e _ (List.mem_of_getElem? h1)
      simp at this
  obtain ⟨hm, _⟩ := pick_mem p hab
  obtain ⟨i, hpi⟩ : ∃ i, pickS S p = i := ⟨_, rfl⟩
  rw [hpi] at hm
  have hgo : goS S p = (i, (stepS S i).1, (stepS S i).2) := by
    unfold goS
    rw [if_neg (by rw [h.over]; simp), if_neg (by rw [hdn]; simp), if_neg hab, hpi]
  obtain ⟨s, r, hs, hw⟩ := mem_can h.over hm
  have hil : i < A.length := by rw [← h.len]; exact (List.getElem?_eq_some_iff.1 hs).1
  obtain ⟨a, hai⟩ : ∃ a, A[i]? = some a := ⟨_, List.getElem?_eq_getElem hil⟩
  obtain ⟨d, ph, hat⟩ := h.ats i a hai
  have hd : d < a.length := by
    rcases Nat.lt_or_ge d a.length with c | c
    · exact c
    · have := (hat.done (by omega)).2.2
      rw [hs] at this; cases this
  obtain ⟨x, hx, hn⟩ := hat.next hd
  obtain ⟨x0, x1⟩ := hA a (List.mem_of_getElem? hai) x (List.mem_of_getElem? hx)
  have hl := lens_set hs
  have hsum := h.sum
  have setne : ∀ j, j ≠ i → ∀ r', (S.ahead.set i r')[j]? = S.ahead[j]? := fun j hj r' => List.getElem?_set_ne (fun z => hj z.symm)
  have setself : ∀ r', (S.ahead.set i r')[i]? = some r' := fun r' => List.getElem?_set_self (by rw [h.len]; exact hil)
  rcases hn with ⟨e, e1⟩ | ⟨e, e1⟩ | ⟨e, e1⟩
  · -- it locks
    subst e
    rw [e1] at hs
    obtain ⟨rfl, rfl⟩ : (⟨1, x % 3, 0⟩ : Stp) = s ∧ (aloneT i a).drop (3 * d + 1) = r := by
      have := Option.some.inj hs
      injection this with p1 p2
      exact ⟨p1, p2⟩
    have free : S.hold (x % 3) = none := by
      simp [waitsS] at hw; exact hw
    have hst := step_ok e1 (by simp)
    rw [act_lock] at hst
    refine ⟨i, (stepS S i).2, by rw [hgo, hst], ?_⟩
    rw [hst]
    refine ⟨h.over, by simpa using h.len, fun j b hj => ?_, fun l j hl' => ?_, by simp only; omega, h.from'⟩
    · by_cases hji : j = i
      · subst hji
        rw [hai] at hj
        obtain rfl := Option.some.inj hj
        refine ⟨d, 1, by omega, fun _ => hd, hat.le, setself _, by simpa using hat.said, fun l => ?_⟩
        simp only
        by_cases hl' : l = x % 3
        · rw [if_pos hl']
          exact ⟨fun _ => ⟨by omega, x, hx, hl'.symm⟩, fun _ => rfl⟩
        · rw [if_neg hl']
          constructor
          · intro z; have := ((hat.hold l).1 z).1; omega
          · rintro ⟨_, y, hy, rfl⟩
            rw [hx] at hy
            exact absurd (by rw [Option.some.inj hy]) hl'
      · obtain ⟨d', ph', hat'⟩ := h.ats j b hj
        refine ⟨d', ph', alo_other (j := i) hat' (setne j hji _) rfl (fun l => ?_)⟩
        simp only
        by_cases hl' : l = x % 3
        · rw [if_pos hl', hl', free]
          constructor
          · intro z; exact absurd (Option.some.inj z).symm hji
          · intro z; cases z
        · rw [if_neg hl']
    · simp only at hl'
      by_cases c : l = x % 3
      · rw [if_pos c] at hl'; rw [← Option.some.inj hl']; exact hil
      · rw [if_neg c] at hl'; exact h.held l j hl'
  · -- it says
    subst e
    rw [e1] at hs
    obtain ⟨rfl, rfl⟩ : (⟨5, 100 * (i : Int) + x, 0⟩ : Stp) = s ∧ (aloneT i a).drop (3 * d + 2) = r := by
      have := Option.some.inj hs
      injection this with p1 p2
      exact ⟨p1, p2⟩
    have hst := step_ok e1 (by simp)
    rw [act_say] at hst
    have hdiv : (100 * (i : Int) + x) / 100 = (i : Int) := by omega
    refine ⟨i, (stepS S i).2, by rw [hgo, hst], ?_⟩
    rw [hst]
    refine ⟨h.over, by simpa using h.len, fun j b hj => ?_, h.held, by simp only; omega, fun y hy => ?_⟩
    · by_cases hji : j = i
      · subst hji
        rw [hai] at hj
        obtain rfl := Option.some.inj hj
        refine ⟨d, 2, by omega, fun _ => hd, hat.le, setself _, ?_, fun l => ?_⟩
        · simp only
          rw [filt_snoc, if_pos hdiv, hat.said]
          have ht : a.take (d + 1) = a.take d ++ [x] := by
            rw [List.take_succ_eq_append_getElem hd]
            have := (List.getElem?_eq_some_iff.1 hx).2
            rw [this]
          show _ = List.map _ (a.take (d + 1))
          rw [ht, List.map_append]; rfl
        · have := hat.hold l
          simp only
          rw [this]
          constructor
          · rintro ⟨_, z⟩; exact ⟨by omega, z⟩
          · rintro ⟨_, z⟩; exact ⟨by omega, z⟩
      · obtain ⟨d', ph', hat'⟩ := h.ats j b hj
        refine ⟨d', ph', alo_other (j := i) hat' (setne j hji _) ?_ (fun l => Iff.rfl)⟩
        simp only
        rw [filt_snoc, if_neg (by rw [hdiv]; omega)]
    · simp only at hy
      rcases List.mem_append.1 hy with z | z
      · exact h.from' y z
      · simp at z; subst z; exact ⟨i, a, hai, hdiv⟩
  · -- it opens
    subst e
    rw [e1] at hs
    obtain ⟨rfl, rfl⟩ : (⟨2, x % 3, 0⟩ : Stp) = s ∧ (aloneT i a).drop (3 * (d + 1)) = r := by
      have := Option.some.inj hs
      injection this with p1 p2
      exact ⟨p1, p2⟩
    have mine : S.hold (x % 3) = some i := (hat.hold _).2 ⟨by omega, x, hx, rfl⟩
    have hst := step_ok e1 (by simp [mine])
    rw [act_unlock] at hst
    refine ⟨i, (stepS S i).2, by rw [hgo, hst], ?_⟩
    rw [hst]
    refine ⟨h.over, by simpa using h.len, fun j b hj => ?_, fun l j hl' => ?_, by simp only; omega, h.from'⟩
    · by_cases hji : j = i
      · subst hji
        rw [hai] at hj
        obtain rfl := Option.some.inj hj
        refine ⟨d + 1, 0, by omega, fun z => by omega, hd, by rw [Nat.add_zero]; exact setself _, by simpa using hat.said, fun l => ?_⟩
        simp only
        constructor
        · intro z
          by_cases hl' : l = x % 3
          · rw [if_pos hl'] at z; cases z
          · rw [if_neg hl'] at z
            obtain ⟨_, y, hy, e⟩ := (hat.hold l).1 z
            rw [hx] at hy
            exact absurd (by rw [← e, Option.some.inj hy]) hl'
        · rintro ⟨z, _⟩; omega
      · obtain ⟨d', ph', hat'⟩ := h.ats j b hj
        refine ⟨d', ph', alo_other (j := i) hat' (setne j hji _) rfl (fun l => ?_)⟩
        simp only
        by_cases hl' : l = x % 3
        · rw [if_pos hl', hl', mine]
          constructor
          · intro z; cases z
          · intro z; exact absurd (Option.some.inj z).symm hji
        · rw [if_neg hl']
    · simp only at hl'
      by_cases c : l = x % 3
      · rw [if_pos c] at hl'; cases hl'
      · rw [if_neg c] at hl'; exact h.held l j hl'
end Go.Proofs.Ythbohbhjegjniaa
