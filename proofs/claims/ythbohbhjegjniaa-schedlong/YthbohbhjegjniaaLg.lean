/- SchedLong's tasks, as plain lists. -/
import Derived.Test.YthbohbhjegjniaaSc
namespace Go.Proofs.Sc
open Go

/-- The tasks behind i steps, laid in turns. -/
def rowsAt (n : Nat) : Nat → List (List Stp)
  | 0 => List.replicate n []
  | i + 1 => (rowsAt n i).set (i % n) ((rowsAt n i).getD (i % n) [] ++ [⟨5, i, 0⟩])
theorem rows_len (n i : Nat) : (rowsAt n i).length = n := by
  induction i with
  | zero => simp [rowsAt]
  | succ i ih => simp [rowsAt, ih]
theorem lens_set_snoc {l : List (List Stp)} {k : Nat} {t : List Stp} {s : Stp} (h : l[k]? = some t) : lens (l.set k (t ++ [s])) = lens l + 1 := by
  induction l generalizing k with
  | nil => simp at h
  | cons a l ih =>
    cases k with
    | zero => simp at h; subst h; simp [lens]; omega
    | succ k => simp only [List.set_cons_succ, lens_cons]; rw [ih (by simpa using h)]; omega
theorem rows_get {n i k : Nat} (hk : k < n) : ∃ t, (rowsAt n i)[k]? = some t ∧ (rowsAt n i).getD k [] = t := by
  have hl : k < (rowsAt n i).length := by rw [rows_len]; exact hk
  exact ⟨_, List.getElem?_eq_getElem hl, by rw [List.getD_eq_getElem?_getD, List.getElem?_eq_getElem hl]; rfl⟩
theorem rows_lens {n : Nat} (hn : 0 < n) (i : Nat) : lens (rowsAt n i) = i := by
  induction i with
  | zero => simp [rowsAt, lens]
  | succ i ih =>
    obtain ⟨t, h1, h2⟩ := rows_get (i := i) (Nat.mod_lt i hn)
    rw [rowsAt, h2, lens_set_snoc h1, ih]
theorem rows_mem {n : Nat} (i : Nat) : ∀ t ∈ rowsAt n i, ∀ s ∈ t, s.op = 5 ∧ s.b = 0 ∧ 0 ≤ s.a ∧ s.a < i := by
  induction i with
  | zero => intro t ht s hs; rw [rowsAt] at ht; rw [List.eq_of_mem_replicate ht] at hs; cases hs
  | succ i ih =>
    intro t ht s hs
    rw [rowsAt] at ht
    rcases List.mem_or_eq_of_mem_set ht with z | z
    · obtain ⟨a, b, c, d⟩ := ih t z s hs
      exact ⟨a, b, c, by omega⟩
    · subst z
      rcases List.mem_append.1 hs with z | z
      · by_cases hl : i % n < (rowsAt n i).length
        · rw [List.getD_eq_getElem?_getD, List.getElem?_eq_getElem hl] at z
          obtain ⟨a, b, c, d⟩ := ih _ (List.getElem_mem hl) s z
          exact ⟨a, b, c, by omega⟩
        · rw [List.getD_eq_getElem?_getD, List.getElem?_eq_none (by omega)] at z; cases z
      · simp at z; subst z; exact ⟨rfl, rfl, by simp, by simp; omega⟩
theorem rows_row {n : Nat} (hn : 0 < n) (i : Nat) : ∀ k, k < n → ((rowsAt n i).getD k [] ≠ [] ↔ k < i) := by
  induction i with
  | zero =>
    intro k hk
    rw [rowsAt, List.getD_eq_getElem?_getD, List.getElem?_replicate, if_pos hk]
    simp
  | succ i ih =>
    intro k hk
    have hm := Nat.mod_lt i hn
    rw [rowsAt, List.getD_eq_getElem?_getD]
    by_cases e : k = i % n
    · subst e
      rw [List.getElem?_set_self (by rw [rows_len]; exact hk)]
      have : i % n ≤ i := Nat.mod_le i n
      simp; omega
    · rw [List.getElem?_set_ne (fun z => e z.symm), ← List.getD_eq_getElem?_getD, ih k hk]
      constructor
      · intro h; omega
      · intro h
        rcases Nat.lt_or_ge k i with c | c
        · exact c
        · have hki : k = i := by omega
          subst hki
          exact absurd (Nat.mod_eq_of_lt hk).symm e
theorem filter_range (i : Nat) : ∀ n, ((List.range n).filter fun k => decide (k < i)).length = min n i := by
  intro n
  induction n with
  | zero => simp
  | succ n ih =>
    rw [List.range_succ, List.filter_append, List.length_append, ih]
    by_cases h : n < i
    · simp [h]; omega
    · simp [h]; omega
theorem rows_able {n : Nat} (hn : 0 < n) (i : Nat) : (ableS (initS (rowsAt n i))).length = min n i := by
  have e : ableS (initS (rowsAt n i)) = (List.range n).filter fun k => decide (k < i) := by
    unfold ableS
    rw [if_neg (by simp [initS])]
    unfold ablesTo
    rw [show (initS (rowsAt n i)).ahead = rowsAt n i from rfl, rows_len]
    apply List.filter_congr
    intro k hk
    have hk' : k < n := by simpa using hk
    have hr := rows_row hn i k hk'
    cases h : (rowsAt n i).getD k [] with
    | nil =>
      rw [h] at hr
      have : ¬ k < i := fun z => hr.2 z rfl
      simp [canS, this]
    | cons s r =>
      rw [h] at hr
      have hki : k < i := hr.1 (by simp)
      have hl : k < (rowsAt n i).length := by rw [rows_len]; exact hk'
      have hm : s.op = 5 := by
        rw [List.getD_eq_getElem?_getD, List.getElem?_eq_getElem hl] at h
        have h' : (rowsAt n i)[k] = s :: r := h
        exact (rows_mem i _ (List.getElem_mem hl) s (by rw [h']; simp)).1
      simp [canS, waitsS, hm, hki]
  rw [e, filter_range]
theorem rows_known {n i : Nat} (hi : i ≤ 1000000) : (∀ t ∈ rowsAt n i, ∀ s ∈ t, s.Ok) ∧ AllKnown (rowsAt n i) := by
  refine ⟨fun t ht s hs => ?_, fun t ht s hs => ?_⟩
  · obtain ⟨a, b, c, d⟩ := rows_mem i t ht s hs
    exact ⟨by unfold i64; omega, by unfold i64; omega, by unfold i64; omega⟩
  · obtain ⟨a, b, c, d⟩ := rows_mem i t ht s hs
    exact ⟨by omega, by omega⟩
theorem len_le_lens {l : List (List Stp)} {t : List Stp} (h : t ∈ l) : t.length ≤ lens l := by
  induction l with
  | nil => cases h
  | cons a l ih =>
    rw [lens_cons]
    rcases List.mem_cons.1 h with e | e
    · subst e; omega
    · have := ih e; omega
end Go.Proofs.Sc
