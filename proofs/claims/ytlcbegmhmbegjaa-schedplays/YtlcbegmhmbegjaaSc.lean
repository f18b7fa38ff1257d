/- Chapter 4's answers, as plain functions: tasks, locks, cells. -/
import Derived.WalkKit
namespace Go.Proofs.Sc
open Go

structure Stp where
  op : Int
  a : Int
  b : Int
def i64 (x : Int) : Prop := -9223372036854775808 ≤ x ∧ x ≤ 9223372036854775807
structure Stp.Ok (s : Stp) : Prop where
  op : i64 s.op
  a : i64 s.a
  b : i64 s.b
structure Sc where
  ahead : List (List Stp)
  hold : Int → Option Nat
  cell : Int → Int
  said : List Int
  over : Bool
def lens (l : List (List Stp)) : Nat := (l.map List.length).sum
def Known (s : Stp) : Prop := 1 ≤ s.op ∧ s.op ≤ 5
def AllKnown (l : List (List Stp)) : Prop := ∀ t ∈ l, ∀ s ∈ t, Known s
open Classical in
/-- What New answers. -/
noncomputable def newS (l : List (List Stp)) : Nat := if 64 < l.length ∨ 10000 < lens l then 2 else if AllKnown l then 0 else 1
def initS (l : List (List Stp)) : Sc := ⟨l, fun _ => none, fun _ => 0, [], false⟩
def waitsS (S : Sc) (s : Stp) : Bool := if s.op = 1 then (S.hold s.a).isSome else if s.op = 4 then decide (S.cell s.a < s.b) else false
def canS (S : Sc) : List Stp → Bool
  | [] => false
  | s :: _ => !waitsS S s
def ablesTo (S : Sc) (n : Nat) : List Nat := (List.range n).filter fun i => canS S (S.ahead.getD i [])
def ableS (S : Sc) : List Nat := if S.over then [] else ablesTo S S.ahead.length
def doneS (S : Sc) : Bool := S.ahead.all List.isEmpty
def actS (S : Sc) (i : Nat) (s : Stp) : Sc :=
  if s.op = 1 then { S with hold := fun l => if l = s.a then some i else S.hold l }
  else if s.op = 2 then { S with hold := fun l => if l = s.a then none else S.hold l }
  else if s.op = 3 then { S with cell := fun c => if c = s.a then IntKind.i64.wrap (S.cell c + s.b) else S.cell c }
  else if s.op = 5 then { S with said := S.said ++ [s.a] }
  else S
/-- A step of task i. -/
def stepS (S : Sc) (i : Nat) : Nat × Sc :=
  match S.ahead.getD i [] with
  | [] => (0, S)
  | s :: r => if s.op = 2 ∧ S.hold s.a ≠ some i then (20, { S with over := true }) else (0, { actS S i s with ahead := S.ahead.set i r })
def pickS (S : Sc) (pick : Int) : Nat := (ableS S).getD (pick % (ableS S).length).toNat 0
def goS (S : Sc) (pick : Int) : Nat × Nat × Sc :=
  if S.over then (0, 20, S) else if doneS S then (0, 22, S) else if ableS S = [] then (0, 21, S) else
  (pickS S pick, (stepS S (pickS S pick)).1, (stepS S (pickS S pick)).2)
def playS (S : Sc) : List Int → Nat × Nat × Sc
  | [] => (0, 0, S)
  | p :: r => if (goS S p).2.1 = 0 then ((playS (goS S p).2.2 r).1 + 1, (playS (goS S p).2.2 r).2) else (0, (goS S p).2.1, (goS S p).2.2)
def leftS (S : Sc) (t : Int) : Nat × Nat := if t < 0 ∨ (S.ahead.length : Int) ≤ t then (0, 1) else ((S.ahead.getD t.toNat []).length, 0)

/-- What holds of every machine. -/
structure Wf (S : Sc) : Prop where
  tasks : S.ahead.length ≤ 64
  steps : lens S.ahead + S.said.length ≤ 10000
  ok : ∀ t ∈ S.ahead, ∀ s ∈ t, s.Ok
  known : AllKnown S.ahead
  cell : ∀ c, i64 (S.cell c)
  said : ∀ x ∈ S.said, i64 x
  held : ∀ l i, S.hold l = some i → i < S.ahead.length

theorem wrap_i64 (x : Int) : i64 (IntKind.i64.wrap x) := by
  unfold i64 IntKind.wrap
  simp [IntKind.bits, IntKind.signed]
  split <;> omega
theorem lens_nil : lens [] = 0 := rfl
theorem lens_cons (a : List Stp) (l : List (List Stp)) : lens (a :: l) = a.length + lens l := by simp [lens]
theorem lens_append (l m : List (List Stp)) : lens (l ++ m) = lens l + lens m := by simp [lens]
theorem lens_set {l : List (List Stp)} : ∀ {i : Nat} {s : Stp} {r : List Stp}, l[i]? = some (s :: r) → lens (l.set i r) + 1 = lens l := by
  induction l with
  | nil => intro i s r h; simp at h
  | cons a l ih =>
    intro i s r h
    cases i with
    | zero => simp at h; subst h; simp [lens]; omega
    | succ i => simp at h; have := ih h; simp only [List.set_cons_succ, lens_cons]; omega
theorem getD_some {l : List (List Stp)} {i : Nat} {s : Stp} {r : List Stp} (h : l.getD i [] = s :: r) : l[i]? = some (s :: r) := by
  rw [List.getD_eq_getElem?_getD] at h
  cases e : l[i]? with
  | none => rw [e] at h; simp at h
  | some v => rw [e] at h; simp at h; rw [h]
theorem Wf.init {l : List (List Stp)} (h : newS l = 0) (hok : ∀ t ∈ l, ∀ s ∈ t, s.Ok) : Wf (initS l) := by
  unfold newS at h
  split at h
  · cases h
  · split at h
    · rename_i h1 h2
      exact ⟨by show l.length ≤ 64; omega, by show lens l + 0 ≤ 10000; omega, hok, h2, fun _ => by show i64 0; unfold i64; omega, fun x hx => by simp [initS] at hx, fun l i h => by simp [initS] at h⟩
    · cases h
theorem Wf.step {S : Sc} (h : Wf S) (i : Nat) : Wf (stepS S i).2 := by
  unfold stepS
  split
  · exact h
  · rename_i s r e
    have e' := getD_some e
    have hi : i < S.ahead.length := (List.getElem?_eq_some_iff.1 e').1
    have hm : (s :: r) ∈ S.ahead := List.mem_of_getElem? e'
    split
    · exact ⟨h.tasks, h.steps, h.ok, h.known, h.cell, h.said, h.held⟩
    · have hl := lens_set e'
      have hs := h.steps
      have hok := h.ok _ hm s (by simp)
      have mem : ∀ t ∈ S.ahead.set i r, ∀ x ∈ t, ∃ t' ∈ S.ahead, x ∈ t' := fun t ht x hx => by
        rcases List.mem_or_eq_of_mem_set ht with z | z
        · exact ⟨t, z, hx⟩
        · exact ⟨_, hm, by subst z; simp [hx]⟩
      have hsd : (actS S i s).said.length ≤ S.said.length + 1 := by
        unfold actS
        repeat' split
        all_goals simp
      refine ⟨by simpa using h.tasks, by simp only; omega, fun t ht x hx => ?_, fun t ht x hx => ?_, fun c => ?_, fun x hx => ?_, fun l j hj => ?_⟩
      · obtain ⟨t', h1, h2⟩ := mem t ht x hx; exact h.ok t' h1 x h2
      · obtain ⟨t', h1, h2⟩ := mem t ht x hx; exact h.known t' h1 x h2
      · simp only [actS]
        repeat' split
        all_goals (try exact h.cell c)
        simp only
        split
        · exact wrap_i64 _
        · exact h.cell c
      · simp only [actS] at hx
        repeat' split at hx
        all_goals (try exact h.said x hx)
        simp at hx
        rcases hx with hx | rfl
        · exact h.said x hx
        · exact hok.a
      · simp only [actS] at hj
        simp only [List.length_set]
        repeat' split at hj
        all_goals (try exact h.held l j hj)
        · simp only at hj
          split at hj
          · cases hj; exact hi
          · exact h.held l j hj
        · simp only at hj
          split at hj
          · cases hj
          · exact h.held l j hj
theorem Wf.go {S : Sc} (h : Wf S) (p : Int) : Wf (goS S p).2.2 := by
  unfold goS
  repeat' split
  all_goals (first | exact h | exact h.step _)
theorem Wf.play : ∀ (l : List Int) {S : Sc}, Wf S → Wf (playS S l).2.2
  | [], _, h => h
  | p :: r, S, h => by
    unfold playS
    split
    · exact Wf.play r (h.go p)
    · exact h.go p
end Go.Proofs.Sc
