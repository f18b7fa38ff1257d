/- class.Of, class.Round. -/
import Derived.Test.YtblfefibgoiaaaaDoorTb
import Derived.Test.YtblfefibgoiaaaaDoorCx
namespace Go.Proofs.YtblfefibgoiaaaaDoor
open Go.ChangeShapes Go.WideShapes Go.ChangeAt Go.RowKit Go.Proofs.Cl Go.Shelf
set_option linter.unusedVariables false
set_option linter.unusedSimpArgs false

theorem up_is (n : Nat) (h : n ≤ 1099511627776) : upV (n : Int) 8192 = (((n + 8191) / 8192 * 8192 : Nat) : Int) := by
  have e : upOk (n : Int) 8192 = true := by
    unfold upOk
    by_cases c : (n : Int) % 8192 = 0
    · simp [c]
    · simp [c]; omega
  unfold upV
  rw [e]
  simp only [if_true]
  by_cases c : (n : Int) % 8192 = 0
  · rw [if_pos c]; omega
  · rw [if_neg c]; omega
/-- What a size takes. -/
def rndN (n : Nat) : Nat := if n ≤ 32768 then (clsOf n).size else (n + 8191) / 8192 * 8192
theorem table_sizes {c : Cls} (h : c ∈ table) : c.size ≤ 32768 := by
  have a : table.all (fun c => decide (c.size ≤ 32768)) = true := by decide +kernel
  simpa using List.all_eq_true.1 a c h
theorem cls_mem {sz : Nat} (h : sz ≤ 32768) : clsOf sz ∈ table := List.mem_of_getElem? (cls_at h)
end Go.Proofs.YtblfefibgoiaaaaDoor
