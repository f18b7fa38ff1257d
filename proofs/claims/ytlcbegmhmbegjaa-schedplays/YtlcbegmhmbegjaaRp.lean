/- The reference's plain lists: what a name has, and how its state stands for a Sc. -/
import Derived.Test.YtlcbegmhmbegjaaSc
namespace Go.Proofs.Sc
open Go

structure Pr where
  name : Int
  x : Int
def lookL : List Pr → Int → Option Int
  | [], _ => none
  | p :: l, n => if p.name = n then some p.x else lookL l n
def putL : List Pr → Int → Int → List Pr
  | [], n, x => [⟨n, x⟩]
  | p :: l, n, x => if p.name = n then ⟨n, x⟩ :: l else p :: putL l n x
def dropL (l : List Pr) (n : Int) : List Pr := l.filter fun p => !decide (p.name = n)

theorem look_put (l : List Pr) (n x m : Int) : lookL (putL l n x) m = if m = n then some x else lookL l m := by
  induction l with
  | nil =>
    simp only [putL, lookL]
    by_cases h : n = m
    · simp [h]
    · have h' : ¬ m = n := fun e => h e.symm
      simp [h, h']
  | cons p l ih =>
    simp only [putL]
    by_cases h : p.name = n
    · rw [if_pos h]
      simp only [lookL]
      by_cases k : n = m
      · simp [k]
      · have k' : ¬ m = n := fun e => k e.symm
        have k2 : ¬ p.name = m := fun e => k (h ▸ e)
        simp [k, k', k2]
    · rw [if_neg h]
      simp only [lookL]
      by_cases k : p.name = m
      · have k' : ¬ m = n := fun e => h (k.trans e)
        simp [k, k']
      · simp only [if_neg k, ih]
theorem look_drop (l : List Pr) (n m : Int) : lookL (dropL l n) m = if m = n then none else lookL l m := by
  induction l with
  | nil => simp [dropL, lookL]
  | cons p l ih =>
    unfold dropL at ih ⊢
    by_cases h : p.name = n
    · rw [List.filter_cons_of_neg (by simp [h]), ih]
      by_cases k : m = n
      · simp [k]
      · have k2 : ¬ p.name = m := fun e => k (e.symm.trans h)
        simp [k, lookL, k2]
    · rw [List.filter_cons_of_pos (by simp [h])]
      simp only [lookL, ih]
      by_cases k : p.name = m
      · have k' : ¬ m = n := fun e => h (k.trans e)
        simp [k, k']
      · simp [k]
theorem put_length (l : List Pr) (n x : Int) : (putL l n x).length ≤ l.length + 1 := by
  induction l with
  | nil => simp [putL]
  | cons p l ih =>
    simp only [putL]
    split
    · simp
    · simp only [List.length_cons]; omega
theorem drop_length (l : List Pr) (n : Int) : (dropL l n).length ≤ l.length := List.length_filter_le ..
theorem mem_put {l : List Pr} {n x : Int} {p : Pr} (h : p ∈ putL l n x) : p = ⟨n, x⟩ ∨ p ∈ l := by
  induction l with
  | nil => simp [putL] at h; exact Or.inl h
  | cons q l ih =>
    simp only [putL] at h
    split at h
    · rcases List.mem_cons.1 h with z | z
      · exact Or.inl z
      · exact Or.inr (List.mem_cons_of_mem _ z)
    · rcases List.mem_cons.1 h with z | z
      · exact Or.inr (z ▸ List.mem_cons_self ..)
      · rcases ih z with y | y
        · exact Or.inl y
        · exact Or.inr (List.mem_cons_of_mem _ y)
theorem mem_drop {l : List Pr} {n : Int} {p : Pr} (h : p ∈ dropL l n) : p ∈ l := (List.mem_filter.1 h).1
theorem look_mem {l : List Pr} {n x : Int} (h : lookL l n = some x) : ⟨n, x⟩ ∈ l := by
  induction l with
  | nil => simp [lookL] at h
  | cons p l ih =>
    simp only [lookL] at h
    split at h
    · rename_i e
      cases h
      subst e
      exact List.mem_cons_self ..
    · exact List.mem_cons_of_mem _ (ih h)
/-- Up to k none of the names is n: then looking goes on behind k. -/
theorem look_skip (l : List Pr) (n : Int) : ∀ (k : Nat), (∀ j, j < k → ∀ p, l[j]? = some p → p.name ≠ n) → lookL l n = lookL (l.drop k) n := by
  induction l with
  | nil => intro k _; simp
  | cons p l ih =>
    intro k h
    cases k with
    | zero => rfl
    | succ k =>
      have h0 := h 0 (by omega) p rfl
      simp only [lookL, if_neg h0, List.drop_succ_cons]
      exact ih k fun j hj q hq => h (j + 1) (by omega) q (by simpa using hq)
theorem look_found {l : List Pr} {n : Int} {k : Nat} {p : Pr} (h : ∀ j, j < k → ∀ p, l[j]? = some p → p.name ≠ n) (hk : l[k]? = some p) (e : p.name = n) : lookL l n = some p.x := by
  obtain ⟨hl, hg⟩ := List.getElem?_eq_some_iff.1 hk
  rw [look_skip l n k h, List.drop_eq_getElem_cons hl, hg]
  simp [lookL, e]
theorem look_none {l : List Pr} {n : Int} {k : Nat} (h : ∀ j, j < k → ∀ p, l[j]? = some p → p.name ≠ n) (hk : l.length ≤ k) : lookL l n = none := by
  rw [look_skip l n k h, List.drop_eq_nil_of_le hk]
  rfl
theorem put_found {l : List Pr} {n x : Int} : ∀ {k : Nat} {p : Pr}, (∀ j, j < k → ∀ p, l[j]? = some p → p.name ≠ n) → l[k]? = some p → p.name = n → putL l n x = l.set k ⟨n, x⟩ := by
  induction l with
  | nil => intro k p _ hk; simp at hk
  | cons q l ih =>
    intro k p h hk e
    cases k with
    | zero => simp at hk; subst hk; simp [putL, e]
    | succ k =>
      have h0 := h 0 (by omega) q rfl
      simp only [putL, if_neg h0, List.set_cons_succ]
      rw [ih (k := k) (p := p) (fun j hj r hr => h (j + 1) (by omega) r (by simpa using hr)) (by simpa using hk) e]
theorem put_none {l : List Pr} {n x : Int} (h : ∀ j, j < l.length → ∀ p, l[j]? = some p → p.name ≠ n) : putL l n x = l ++ [⟨n, x⟩] := by
  induction l with
  | nil => rfl
  | cons q l ih =>
    have h0 := h 0 (by simp) q rfl
    simp only [putL, if_neg h0, List.cons_append]
    rw [ih fun j hj r hr => h (j + 1) (by simp; omega) r (by simpa using hr)]

/-- The reference's state. -/
structure Rs where
  tasks : List (List Stp)
  at_ : List Nat
  locks : List Pr
  cells : List Pr
  said : List Int
  over : Bool
def aheadR (r : Rs) : List (List Stp) := List.zipWith (fun n t => t.drop n) r.at_ r.tasks
def absR (r : Rs) : Sc := ⟨aheadR r, fun l => (lookL r.locks l).map Int.toNat, fun c => (lookL r.cells c).getD 0, r.said, r.over⟩
structure WfR (r : Rs) : Prop where
  len : r.at_.length = r.tasks.length
  le : ∀ (i : Nat) (n : Nat) (t : List Stp), r.at_[i]? = some n → r.tasks[i]? = some t → n ≤ t.length
  locks : ∀ p ∈ r.locks, 0 ≤ p.x
  wf : Wf (absR r)
theorem aheadR_length {r : Rs} (h : r.at_.length = r.tasks.length) : (aheadR r).length = r.tasks.length := by
  simp [aheadR, h]
theorem aheadR_get (r : Rs) {i n : Nat} {t : List Stp} (h1 : r.at_[i]? = some n) (h2 : r.tasks[i]? = some t) : (aheadR r)[i]? = some (t.drop n) := by
  simp [aheadR, List.getElem?_zipWith, h1, h2]
theorem aheadR_set (r : Rs) {i n : Nat} {t : List Stp} (h1 : r.at_[i]? = some n) (h2 : r.tasks[i]? = some t) : List.zipWith (fun n t => t.drop n) (r.at_.set i (n + 1)) r.tasks = (aheadR r).set i (t.drop (n + 1)) := by
  apply List.ext_getElem?
  intro j
  obtain ⟨hl, _⟩ := List.getElem?_eq_some_iff.1 h1
  by_cases e : i = j
  · subst e
    have hl2 : i < (aheadR r).length := (List.getElem?_eq_some_iff.1 (aheadR_get r h1 h2)).1
    rw [List.getElem?_set_self hl2, List.getElem?_zipWith, List.getElem?_set_self hl, h2]
  · rw [List.getElem?_set_ne e, List.getElem?_zipWith, List.getElem?_set_ne e, aheadR, List.getElem?_zipWith]

/-- What the reference's Go leaves, when task i goes its step s. -/
def actR (r : Rs) (i : Nat) (s : Stp) : Rs :=
  if s.op = 1 then { r with locks := putL r.locks s.a i }
  else if s.op = 2 then { r with locks := dropL r.locks s.a }
  else if s.op = 3 then { r with cells := putL r.cells s.a (IntKind.i64.wrap ((lookL r.cells s.a).getD 0 + s.b)) }
  else if s.op = 5 then { r with said := r.said ++ [s.a] }
  else r
theorem actR_abs (r : Rs) (i : Nat) (s : Stp) : absR (actR r i s) = actS (absR r) i s := by
  unfold actR actS
  split
  · simp only [absR, aheadR, look_put, Sc.mk.injEq, true_and, and_true]
    funext l
    split <;> simp
  · split
    · simp only [absR, aheadR, look_drop, Sc.mk.injEq, true_and, and_true]
      funext l
      split <;> simp
    · split
      · simp only [absR, aheadR, look_put, Sc.mk.injEq, true_and, and_true]
        funext c
        split
        · rename_i e; simp [e]
        · rfl
      · split <;> rfl
theorem actR_tasks (r : Rs) (i : Nat) (s : Stp) : (actR r i s).tasks = r.tasks ∧ (actR r i s).at_ = r.at_ := by
  unfold actR
  repeat' split
  all_goals exact ⟨rfl, rfl⟩
theorem actR_locks {r : Rs} (h : ∀ p ∈ r.locks, 0 ≤ p.x) (i : Nat) (s : Stp) : ∀ p ∈ (actR r i s).locks, 0 ≤ p.x := by
  intro p hp
  unfold actR at hp
  split at hp
  · rcases mem_put hp with z | z
    · subst z; simp
    · exact h p z
  · split at hp
    · exact h p (mem_drop hp)
    · split at hp
      · exact h p hp
      · split at hp <;> exact h p hp
/-- A step of task i, of the reference. -/
def stepR (r : Rs) (i : Nat) : Nat × Rs :=
  match (aheadR r).getD i [] with
  | [] => (0, r)
  | s :: _ => if s.op = 2 ∧ (lookL r.locks s.a).map Int.toNat ≠ some i then (20, { r with over := true }) else (0, { actR r i s with at_ := r.at_.set i (r.at_.getD i 0 + 1) })
theorem stepR_abs {r : Rs} (h : WfR r) (i : Nat) : (stepR r i).1 = (stepS (absR r) i).1 ∧ absR (stepR r i).2 = (stepS (absR r) i).2 := by
  unfold stepR stepS
  have e0 : (absR r).ahead = aheadR r := rfl
  rw [e0]
  cases e : (aheadR r).getD i [] with
  | nil => exact ⟨rfl, rfl⟩
  | cons s q =>
    have e' := getD_some e
    have hi : i < (aheadR r).length := (List.getElem?_eq_some_iff.1 e').1
    rw [aheadR_length h.len] at hi
    obtain ⟨t, ht⟩ : ∃ t, r.tasks[i]? = some t := ⟨_, List.getElem?_eq_getElem hi⟩
    obtain ⟨n, hn⟩ : ∃ n, r.at_[i]? = some n := ⟨_, List.getElem?_eq_getElem (by rw [h.len]; exact hi)⟩
    have hd : t.drop n = s :: q := by have := aheadR_get r hn ht; rw [e'] at this; exact (Option.some.inj this).symm
    have hq : t.drop (n + 1) = q := by rw [← List.drop_drop, hd]; rfl
    have hg : r.at_.getD i 0 = n := by rw [List.getD_eq_getElem?_getD, hn]; rfl
    have eh : (absR r).hold s.a = (lookL r.locks s.a).map Int.toNat := rfl
    simp only [eh, hg]
    split
    · exact ⟨rfl, rfl⟩
    · refine ⟨rfl, ?_⟩
      have ha := actR_abs r i s
      rw [← ha]
      simp only [absR, Sc.mk.injEq, and_true]
      show List.zipWith _ (r.at_.set i (n + 1)) (actR r i s).tasks = _
      rw [(actR_tasks r i s).1, aheadR_set r hn ht, hq]
theorem WfR.step {r : Rs} (h : WfR r) (i : Nat) : WfR (stepR r i).2 := by
  have hw : Wf (absR (stepR r i).2) := (stepR_abs h i).2 ▸ h.wf.step i
  revert hw
  unfold stepR
  cases e : (aheadR r).getD i [] with
  | nil => exact fun _ => h
  | cons s q =>
    simp only
    split
    · exact fun hw => ⟨h.len, h.le, h.locks, hw⟩
    · intro hw
      have e' := getD_some e
      refine ⟨?_, ?_, actR_locks h.locks i s, hw⟩
      · show (r.at_.set i _).length = (actR r i s).tasks.length
        rw [(actR_tasks r i s).1, List.length_set, h.len]
      · intro j n t h1 h2
        have h1 : (r.at_.set i (r.at_.getD i 0 + 1))[j]? = some n := h1
        have h2 : (actR r i s).tasks[j]? = some t := h2
        rw [(actR_tasks r i s).1] at h2
        by_cases c : i = j
        · subst c
          have hi : i < r.tasks.length := (List.getElem?_eq_some_iff.1 h2).1
          have hi2 : i < r.at_.length := by rw [h.len]; exact hi
          rw [List.getElem?_set_self hi2] at h1
          obtain ⟨m, hm⟩ : ∃ m, r.at_[i]? = some m := ⟨_, List.getElem?_eq_getElem hi2⟩
          have hd : t.drop m = s :: q := by have := aheadR_get r hm h2; rw [e'] at this; exact (Option.some.inj this).symm
          have hg : r.at_.getD i 0 = m := by rw [List.getD_eq_getElem?_getD, hm]; rfl
          rw [hg] at h1
          have hn : m + 1 = n := Option.some.inj h1
          have hl := congrArg List.length hd
          simp only [List.length_drop, List.length_cons] at hl
          omega
        · rw [List.getElem?_set_ne c] at h1
          exact h.le j n t h1 h2
end Go.Proofs.Sc
