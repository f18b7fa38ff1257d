/- SchedAlone's tasks, as plain lists. -/
import Derived.Test.YthbohbhjegjniaaSc
namespace Go.Proofs.Sc
open Go

/-- A task that locks, says and opens, for each number. -/
def aloneT (i : Nat) : List Int → List Stp
  | [] => []
  | x :: r => ⟨1, x % 3, 0⟩ :: ⟨5, 100 * (i : Int) + x, 0⟩ :: ⟨2, x % 3, 0⟩ :: aloneT i r
theorem alone_len (i : Nat) (a : List Int) : (aloneT i a).length = 3 * a.length := by
  induction a with
  | nil => rfl
  | cons x a ih => simp only [aloneT, List.length_cons, ih]; omega
theorem alone_append (i : Nat) (a b : List Int) : aloneT i (a ++ b) = aloneT i a ++ aloneT i b := by
  induction a with
  | nil => rfl
  | cons x a ih => simp [aloneT, ih]
/-- The tasks from a number on. -/
def aloneL : Nat → List (List Int) → List (List Stp)
  | _, [] => []
  | i, a :: r => aloneT i a :: aloneL (i + 1) r
theorem aloneL_len (i : Nat) (A : List (List Int)) : (aloneL i A).length = A.length := by
  induction A generalizing i with
  | nil => rfl
  | cons a A ih => simp [aloneL, ih]
theorem aloneL_at (k : Nat) (A : List (List Int)) (i : Nat) : (aloneL k A)[i]? = (A[i]?).map (aloneT (k + i)) := by
  induction A generalizing k i with
  | nil => simp [aloneL]
  | cons a A ih =>
    cases i with
    | zero => simp [aloneL]
    | succ i => simp only [aloneL, List.getElem?_cons_succ, ih]; rw [show k + 1 + i = k + (i + 1) by omega]
theorem aloneL_snoc (k : Nat) (A : List (List Int)) (a : List Int) : aloneL k (A ++ [a]) = aloneL k A ++ [aloneT (k + A.length) a] := by
  induction A generalizing k with
  | nil => simp [aloneL]
  | cons b A ih => simp only [List.cons_append, aloneL, ih, List.length_cons]; rw [show k + 1 + A.length = k + (A.length + 1) by omega]
def total (A : List (List Int)) : Nat := (A.map List.length).sum
theorem aloneL_lens (k : Nat) (A : List (List Int)) : lens (aloneL k A) = 3 * total A := by
  induction A generalizing k with
  | nil => rfl
  | cons a A ih => rw [aloneL, lens_cons, ih, alone_len]; simp [total]; omega
/-- Numbers that may be said. -/
def Small (A : List (List Int)) : Prop := ∀ a ∈ A, ∀ x ∈ a, 0 ≤ x ∧ x ≤ 50
theorem alone_drop0 (i : Nat) {a : List Int} {d : Nat} {x : Int} (h : a[d]? = some x) : (aloneT i a).drop (3 * d) = ⟨1, x % 3, 0⟩ :: ⟨5, 100 * (i : Int) + x, 0⟩ :: ⟨2, x % 3, 0⟩ :: (aloneT i a).drop (3 * (d + 1)) := by
  induction a generalizing d with
  | nil => simp at h
  | cons y a ih =>
    cases d with
    | zero => simp at h; subst h; simp [aloneT]
    | succ d =>
      have := ih (d := d) (by simpa using h)
      rw [show 3 * (d + 1) = 3 * d + 3 by omega, show 3 * (d + 1 + 1) = 3 * (d + 1) + 3 by omega]
      simp only [aloneT]
      rw [List.drop_succ_cons, List.drop_succ_cons, List.drop_succ_cons, List.drop_succ_cons, List.drop_succ_cons, List.drop_succ_cons]
      exact this
/-- What task i has come to: d numbers are through, and so many steps of the next. -/
structure Alo (S : Sc) (i : Nat) (a : List Int) (d ph : Nat) : Prop where
  lt : ph < 3
  mid : 0 < ph → d < a.length
  le : d ≤ a.length
  ahead : S.ahead[i]? = some ((aloneT i a).drop (3 * d + ph))
  said : S.said.filter (fun y => decide (y / 100 = (i : Int))) = (a.take (d + ph / 2)).map (fun x => 100 * (i : Int) + x)
  hold : ∀ l, S.hold l = some i ↔ 0 < ph ∧ ∃ x, a[d]? = some x ∧ x % 3 = l
structure AQ (A : List (List Int)) (q : Nat) (S : Sc) : Prop where
  over : S.over = false
  len : S.ahead.length = A.length
  ats : ∀ (i : Nat) (a : List Int), A[i]? = some a → ∃ d ph, Alo S i a d ph
  held : ∀ l i, S.hold l = some i → i < A.length
  sum : lens S.ahead + q = 3 * total A
  from' : ∀ y ∈ S.said, ∃ (i : Nat) (a : List Int), A[i]? = some a ∧ y / 100 = (i : Int)
theorem AQ.start (A : List (List Int)) : AQ A 0 (initS (aloneL 0 A)) := by
  refine ⟨rfl, aloneL_len 0 A, fun i a hi => ⟨0, 0, by omega, fun h => by omega, Nat.zero_le _, ?_, by simp [initS], fun l => ?_⟩, fun l i h => by simp [initS] at h, ?_, fun y hy => by simp [initS] at hy⟩
  · show (aloneL 0 A)[i]? = _
    rw [aloneL_at, hi]; simp
  · simp [initS]
  · show lens (aloneL 0 A) + 0 = _
    rw [aloneL_lens]; omega
/-- The next step of a task. -/
theorem Alo.next {S : Sc} {i : Nat} {a : List Int} {d ph : Nat} (h : Alo S i a d ph) (hd : d < a.length) : ∃ x, a[d]? = some x ∧
    ((ph = 0 ∧ S.ahead[i]? = some (⟨1, x % 3, 0⟩ :: (aloneT i a).drop (3 * d + 1))) ∨ (ph = 1 ∧ S.ahead[i]? = some (⟨5, 100 * (i : Int) + x, 0⟩ :: (aloneT i a).drop (3 * d + 2))) ∨ (ph = 2 ∧ S.ahead[i]? = some (⟨2, x % 3, 0⟩ :: (aloneT i a).drop (3 * (d + 1))))) := by
  have hx := List.getElem?_eq_getElem hd
  refine ⟨_, hx, ?_⟩
  have e := alone_drop0 i hx
  have hp := h.lt
  have e1 : (aloneT i a).drop (3 * d + 1) = ⟨5, 100 * (i : Int) + a[d], 0⟩ :: ⟨2, a[d] % 3, 0⟩ :: (aloneT i a).drop (3 * (d + 1)) := by rw [← List.drop_drop, e]; rfl
  have e2 : (aloneT i a).drop (3 * d + 2) = ⟨2, a[d] % 3, 0⟩ :: (aloneT i a).drop (3 * (d + 1)) := by rw [← List.drop_drop, e]; rfl
  have : ph = 0 ∨ ph = 1 ∨ ph = 2 := by omega
  rcases this with rfl | rfl | rfl
  · left; refine ⟨rfl, ?_⟩; rw [h.ahead, e1, Nat.add_zero, e]
  · right; left; refine ⟨rfl, ?_⟩; rw [h.ahead, e1, e2]
  · right; right; refine ⟨rfl, ?_⟩; rw [h.ahead, e2]
theorem Alo.done {S : Sc} {i : Nat} {a : List Int} {d ph : Nat} (h : Alo S i a d ph) (hd : ¬ d < a.length) : ph = 0 ∧ d = a.length ∧ S.ahead[i]? = some [] := by
  have hp : ph = 0 := by
    rcases Nat.eq_zero_or_pos ph with z | z
    · exact z
    · exact absurd (h.mid z) hd
  have := h.le
  refine ⟨hp, by omega, ?_⟩
  rw [h.ahead, hp, show d = a.length by omega, List.drop_eq_nil_of_le (by rw [alone_len]; omega)]
end Go.Proofs.Sc
