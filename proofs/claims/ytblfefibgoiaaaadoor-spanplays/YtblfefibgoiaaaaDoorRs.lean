/- The reference's second loop: facts on its list. -/
import Derived.Test.YtblfefibgoiaaaaDoorRf
import Derived.Deep.CutRange
import Derived.Deep.CutBlock
namespace Go.Proofs.YtblfefibgoiaaaaDoor
open Go.ChangeShapes Go.WideShapes Go.ChangeAt Go.RowKit Go.Proofs.Cl Go.Shelf
set_option linter.unusedVariables false
set_option linter.unusedSimpArgs false

theorem set_last {α : Type} {l : List α} {n : Nat} {a b : α} (h : l.length = n) : (l ++ [a]).set n b = l ++ [b] := by
  subst h
  induction l with
  | nil => rfl
  | cons x l ih => simp only [List.cons_append, List.length_cons, List.set_cons_succ, ih]
theorem set_mid {α : Type} {l r : List α} {n : Nat} {a b : α} (h : l.length = n) : (l ++ a :: r).set n b = l ++ b :: r := by
  subst h
  induction l with
  | nil => rfl
  | cons x l ih => simp only [List.cons_append, List.length_cons, List.set_cons_succ, ih]
theorem flatC_cons (a : Cls) (l : List Cls) : flatC (a :: l) = .int .i64 (a.size : Nat) :: .int .i64 (a.pages : Nat) :: .int .i64 (a.slots : Nat) :: .int .u32 (a.magic : Nat) :: flatC l := rfl
theorem flatC_size {l : List Cls} {i : Nat} {c : Cls} (h : l[i]? = some c) (s : Nat) : (flatC l).set (i * 4) (.int .i64 (s : Int)) = flatC (l.set i ⟨s, c.pages, c.slots, c.magic⟩) := by
  induction l generalizing i with
  | nil => simp at h
  | cons a l ih =>
    cases i with
    | zero => simp at h; subst h; rfl
    | succ i =>
      rw [flatC_cons, show (i + 1) * 4 = i * 4 + 1 + 1 + 1 + 1 by omega]
      simp only [List.set_cons_succ]
      rw [ih (i := i) (by simpa using h), flatC_cons]
theorem flatC_slots {l : List Cls} {i : Nat} {c : Cls} (h : l[i]? = some c) (s : Nat) : (flatC l).set (i * 4 + 2) (.int .i64 (s : Int)) = flatC (l.set i ⟨c.size, c.pages, s, c.magic⟩) := by
  induction l generalizing i with
  | nil => simp at h
  | cons a l ih =>
    cases i with
    | zero => simp at h; subst h; rfl
    | succ i =>
      rw [flatC_cons, show (i + 1) * 4 + 2 = i * 4 + 2 + 1 + 1 + 1 + 1 by omega]
      simp only [List.set_cons_succ]
      rw [ih (i := i) (by simpa using h), flatC_cons]
theorem flatC_magic {l : List Cls} {i : Nat} {c : Cls} (h : l[i]? = some c) (s : Nat) : (flatC l).set (i * 4 + 3) (.int .u32 (s : Int)) = flatC (l.set i ⟨c.size, c.pages, c.slots, s⟩) := by
  induction l generalizing i with
  | nil => simp at h
  | cons a l ih =>
    cases i with
    | zero => simp at h; subst h; rfl
    | succ i =>
      rw [flatC_cons, show (i + 1) * 4 + 3 = i * 4 + 3 + 1 + 1 + 1 + 1 by omega]
      simp only [List.set_cons_succ]
      rw [ih (i := i) (by simpa using h), flatC_cons]
theorem get_set {l : List Cls} {i : Nat} {c d : Cls} (h : l[i]? = some c) : (l.set i d)[i]? = some d := by
  have hl : i < l.length := (List.getElem?_eq_some_iff.1 h).1
  rw [List.getElem?_set_self hl]
theorem set_set {l : List Cls} {i : Nat} {c d : Cls} : (l.set i c).set i d = l.set i d := by simp
/-- The reference's list while its classes are widened: j of them are. -/
def mid (page : Nat) (R : List Raw) (j : Nat) : List Cls := zeroC :: ((R.take j).map (wide page) ++ (R.drop j).map rc)
theorem mid_len (page : Nat) (R : List Raw) (j : Nat) : (mid page R j).length = R.length + 1 := by
  unfold mid
  rw [List.length_cons, List.length_append, List.length_map, List.length_map, List.length_take, List.length_drop]
  omega
theorem mid_at {page : Nat} {R : List Raw} {j : Nat} {r : Raw} (h : R[j]? = some r) : (mid page R j)[j + 1]? = some (rc r) ∧ (mid page R j).set (j + 1) (wide page r) = mid page R (j + 1) := by
  have hl : j < R.length := (List.getElem?_eq_some_iff.1 h).1
  have hr : R[j] = r := (List.getElem?_eq_some_iff.1 h).2
  have ed : R.drop j = r :: R.drop (j + 1) := by rw [List.drop_eq_getElem_cons hl, hr]
  have et : R.take (j + 1) = R.take j ++ [r] := by rw [List.take_succ_eq_append_getElem hl, hr]
  have ht : ((R.take j).map (wide page)).length = j := by simp; omega
  constructor
  · unfold mid
    rw [List.getElem?_cons_succ, ed, List.map_cons, List.getElem?_append_right (by omega), ht]
    simp
  · unfold mid
    rw [List.set_cons_succ, ed, List.map_cons, set_mid ht, et, List.map_append]
    simp
theorem mid_end (page : Nat) (R : List Raw) : mid page R R.length = zeroC :: R.map (wide page) := by
  unfold mid; simp
theorem mid_start (page : Nat) (R : List Raw) : mid page R 0 = zeroC :: R.map rc := by
  unfold mid; simp
theorem wide_small {page most : Nat} {c : Raw} (h : Cl.Good page most c) (hp : 1 ≤ page) : wideN page c < 2 * c.size ∧ c.k * page / c.slots page < 2 * c.size := by
  obtain ⟨k1, k2, kr, s1, s2⟩ := h.facts hp
  obtain ⟨_, _, w3⟩ := wide_fits h hp
  have g8 := h.1
  have hd : c.k * page < (c.slots page + 1) * c.size := by
    have := Nat.lt_div_mul_add (a := c.k * page) (b := c.size) (by omega)
    unfold Raw.slots; rw [Nat.add_mul]; omega
  have e : (c.slots page + 1) * c.size ≤ 2 * c.slots page * c.size := Nat.mul_le_mul_right _ (by omega)
  have e2 : 2 * c.slots page * c.size = 2 * c.size * c.slots page := by rw [Nat.mul_assoc, Nat.mul_comm (c.slots page), ← Nat.mul_assoc]
  constructor
  · exact Nat.lt_of_mul_lt_mul_right (a := c.slots page) (by omega)
  · have := Nat.div_mul_le_self (c.k * page) (c.slots page)
    exact Nat.lt_of_mul_lt_mul_right (a := c.slots page) (by omega)
/-- The three cells of a class that is widened. -/
theorem flat_wide {page : Nat} {R : List Raw} {i : Nat} {r : Raw} (ma : (mid page R (i - 1))[i]? = some (rc r)) (ms : (mid page R (i - 1)).set i (wide page r) = mid page R i) :
    ((((flatC (mid page R (i - 1))).set (i * 4) (.int .i64 (wideN page r : Nat))).set (i * 4 + 2) (.int .i64 (r.slots page : Nat))).set (i * 4 + 3) (.int .u32 (magicN (wideN page r) : Nat))) = flatC (mid page R i) := by
  rw [flatC_size ma, flatC_slots (get_set ma), set_set, flatC_magic (get_set ma), set_set, ← ms]
  rfl
theorem flat_same {page : Nat} {R : List Raw} {i : Nat} {r : Raw} (ma : (mid page R (i - 1))[i]? = some (rc r)) (ms : (mid page R (i - 1)).set i (wide page r) = mid page R i) (hw : wideN page r = r.size) :
    (((flatC (mid page R (i - 1))).set (i * 4 + 2) (.int .i64 (r.slots page : Nat))).set (i * 4 + 3) (.int .u32 (magicN (wideN page r) : Nat))) = flatC (mid page R i) := by
  rw [flatC_slots ma, flatC_magic (get_set ma), set_set, ← ms]
  have e : wide page r = ⟨(rc r).size, (rc r).pages, r.slots page, magicN (wideN page r)⟩ := by unfold wide; simp [rc, hw]
  rw [e]
end Go.Proofs.YtblfefibgoiaaaaDoor
