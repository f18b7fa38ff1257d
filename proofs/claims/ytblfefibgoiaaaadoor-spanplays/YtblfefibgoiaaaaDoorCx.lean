/- The class of a size, as a place in the table. -/
import Derived.Test.YtblfefibgoiaaaaDoorCl
namespace Go.Proofs.Cl

/-! ### The class of a size -/
def idx (sz : Nat) : Nat := table.findIdx (fun c => decide (sz ≤ c.size))
def clsOf (sz : Nat) : Cls := table.getD (idx sz) zeroC
theorem idx_of {sz : Nat} {p : List Cls} {c : Cls} (h : p ++ [c] <+: table) (hp : ∀ d ∈ p, d.size < sz) (hc : sz ≤ c.size) : idx sz = p.length ∧ clsOf sz = c := by
  obtain ⟨r, hr⟩ := h
  have e : idx sz = p.length := by
    unfold idx
    rw [← hr, List.append_assoc, List.findIdx_append, List.findIdx_eq_length.2 (fun d hd => by have := hp d hd; simp; omega)]
    simp [List.findIdx_cons, hc]
  refine ⟨e, ?_⟩
  unfold clsOf
  rw [e, ← hr, List.append_assoc, List.getD_eq_getElem?_getD, List.getElem?_append_right (by omega)]
  simp
theorem idx_lt {sz : Nat} (h : sz ≤ 32768) : idx sz < 67 := by
  rw [← table_len]
  unfold idx
  obtain ⟨c, hc, hz⟩ := table_last
  exact List.findIdx_lt_length_of_exists ⟨c, hc, by simp; omega⟩
theorem cls_at {sz : Nat} (h : sz ≤ 32768) : table[idx sz]? = some (clsOf sz) := by
  have := idx_lt h
  rw [← table_len] at this
  unfold clsOf
  rw [List.getD_eq_getElem?_getD, List.getElem?_eq_getElem this]
  rfl
theorem cls_room {sz : Nat} (h : sz ≤ 32768) : sz ≤ (clsOf sz).size := by
  have hl : table.findIdx (fun c => decide (sz ≤ c.size)) < table.length := by rw [table_len]; exact idx_lt h
  have := List.findIdx_getElem (w := hl)
  have e := cls_at h
  unfold idx at e
  rw [List.getElem?_eq_getElem hl] at e
  rw [Option.some.inj e] at this
  simpa using this
theorem cls_ahead {sz j : Nat} {c : Cls} (hj : j < idx sz) (hc : table[j]? = some c) : c.size < sz := by
  have hl : j < table.length := (List.getElem?_eq_some_iff.1 hc).1
  have := List.not_of_lt_findIdx (p := fun c : Cls => decide (sz ≤ c.size)) (xs := table) (i := j) hj
  rw [List.getElem?_eq_getElem hl] at hc
  rw [Option.some.inj hc] at this
  simpa using this
end Go.Proofs.Cl
