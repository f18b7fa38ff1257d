/- class.Of, class.Round. -/
import Derived.Test.YtamkjodfjdhhmaaTb
import Derived.Test.YtamkjodfjdhhmaaCx
namespace Go.Proofs.Ytamkjodfjdhhmaa
open Go.ChangeShapes Go.WideShapes Go.ChangeAt Go.RowKit Go.Proofs.Cl Go.Shelf
set_option linter.unusedVariables false
set_option linter.unusedSimpArgs false

theorem find_of (sz : Nat) (hs : sz ≤ 32768) (w : World) : Calls Try.prog 23 #[.int .i64 sz] w fun e w' => e = .returned (.tuple #[.int .i64 ((idx sz : Int) + 1), .agg #[.int .i64 ((clsOf sz).size : Nat), .int .i64 ((clsOf sz).pages : Nat), .int .i64 ((clsOf sz).slots : Nat), .int .u32 ((clsOf sz).magic : Nat)]]) ∧ Below w.heap.size w w' := by
  refine (find_any sz hs w).mono ?_
  rintro e w' ⟨p, c, h1, h2, h3, rfl, hb⟩
  obtain ⟨e1, e2⟩ := idx_of h1 h2 h3
  refine ⟨?_, hb⟩
  rw [e1, e2, Int.natCast_add]
  rfl
theorem of_err (n : Int) (h : n < 0 ∨ 32768 < n) (w : World) : Calls Try.prog 14 #[.int .i64 n] w fun e w' => e = .returned (.tuple #[.int .i64 0, .int .i64 1]) ∧ w' = w := by
  rcases h with h | h
  · go_enter Try.func14, Try.ntmps14
    go_wp2_with fail
    go_ret2
    exact ⟨rfl, rfl⟩
  · have h0 : ¬ n < 0 := by omega
    go_enter Try.func14, Try.ntmps14
    go_wp2_with fail
    go_ret2
    exact ⟨rfl, rfl⟩
theorem of_ok (sz : Nat) (hs : sz ≤ 32768) (w : World) : Calls Try.prog 14 #[.int .i64 sz] w fun e w' => e = .returned (.tuple #[.int .i64 ((idx sz : Int) + 1), .int .i64 0]) ∧ Below w.heap.size w w' := by
  have F := hide (find_of sz hs w)
  have h0 : (0 : Int) ≤ (sz : Int) := by omega
  have h1 : (sz : Int) ≤ 32768 := by omega
  go_enter Try.func14, Try.ntmps14
  go_wp2_with fail
  refine F.out.mono ?_
  rintro e w1 ⟨rfl, b1⟩
  have B1 := hide b1
  clear F b1
  go_wp2_with fail
  go_ret2
  exact ⟨rfl, B1.out.alloc B1.out.size _⟩
theorem round_long (n : Int) (h : 1099511627776 < n) (w : World) : Calls Try.prog 16 #[.int .u64 n] w fun e w' => e = .returned (.tuple #[.int .u64 0, .int .i64 2]) ∧ w' = w := by
  go_enter Try.func16, Try.ntmps16
  go_wp2_with fail
  go_ret2
  exact ⟨rfl, rfl⟩
theorem up_is (n : Nat) (h : n ≤ 1099511627776) : upV (n : Int) 8192 = (((n + 8191) / 8192 * 8192 : Nat) : Int) := by
  have e : upOk (n : Int) 8192 = true := by
    unfold upOk
    by_cases c : (n : Int) % 8192 = 0
    · simp [c]
    · simp [c]; omega
  unfold upV
  rw [e]
  simp only [if_true]
  by_cases c : (n : Int) % 8192 = 0
  · rw [if_pos c]; omega
  · rw [if_neg c]; omega
theorem up_at (n : Nat) (h : n ≤ 1099511627776) (w : World) : Calls Try.prog 24 #[.int .u64 n, .int .u64 8192] w fun e w' => e = .returned (.tuple #[.int .u64 (((n + 8191) / 8192 * 8192 : Nat) : Int), .bool (upOk n 8192)]) ∧ w' = w := by
  have := up_any n 8192 (by omega) (by omega) w
  rw [up_is n h] at this
  exact this
theorem upRef_at (n : Nat) (h : n ≤ 1099511627776) (w : World) : Calls Try.prog 25 #[.int .u64 n, .int .u64 8192] w fun e w' => e = .returned (.tuple #[.int .u64 (((n + 8191) / 8192 * 8192 : Nat) : Int), .bool (upOk n 8192)]) ∧ w' = w := by
  have := upRef_any n 8192 (by omega) (by omega) w
  rw [up_is n h] at this
  exact this
/-- What a size takes. -/
def rndN (n : Nat) : Nat := if n ≤ 32768 then (clsOf n).size else (n + 8191) / 8192 * 8192
theorem table_sizes {c : Cls} (h : c ∈ table) : c.size ≤ 32768 := by
  have a : table.all (fun c => decide (c.size ≤ 32768)) = true := by decide +kernel
  simpa using List.all_eq_true.1 a c h
theorem cls_mem {sz : Nat} (h : sz ≤ 32768) : clsOf sz ∈ table := List.mem_of_getElem? (cls_at h)
theorem round_ok (n : Nat) (h : n ≤ 1099511627776) (w : World) : Calls Try.prog 16 #[.int .u64 n] w fun e w' => e = .returned (.tuple #[.int .u64 (rndN n : Nat), .int .i64 0]) ∧ Below w.heap.size w w' := by
  have h0 : (n : Int) ≤ 1099511627776 := by omega
  by_cases hs : n ≤ 32768
  · have F := hide (find_of n hs w)
    have h1 : (n : Int) ≤ 32768 := by omega
    have e : rndN n = (clsOf n).size := if_pos hs
    have m1 := table_sizes (cls_mem hs)
    rw [e]
    clear e
    go_enter Try.func16, Try.ntmps16
    go_wp2_with fail
    refine F.out.mono ?_
    rintro e w1 ⟨rfl, b1⟩
    have B1 := hide b1
    clear F b1
    go_wp2_with fail
    go_ret2
    exact ⟨rfl, B1.out.alloc B1.out.size _⟩
  · have U := hide (up_at n h w)
    have h1 : (32768 : Int) < (n : Int) := by omega
    have e : rndN n = (n + 8191) / 8192 * 8192 := if_neg hs
    rw [e]
    generalize ((n + 8191) / 8192 * 8192 : Nat) = u at U
    clear e
    go_enter Try.func16, Try.ntmps16
    go_wp2_with fail
    refine U.out.mono ?_
    rintro e w1 ⟨rfl, hw⟩
    rw [hw]
    clear hw w1 U
    go_wp2_with fail
    go_ret2
    exact ⟨rfl, Below.refl _ _⟩
end Go.Proofs.Ytamkjodfjdhhmaa
