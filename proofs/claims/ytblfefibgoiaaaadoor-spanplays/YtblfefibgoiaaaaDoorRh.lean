/- The reference's span is made: right, New, Manual: contracts. -/
import Derived.Test.YtblfefibgoiaaaaDoorRe
import Derived.Test.YtblfefibgoiaaaaDoorGh
import Derived.Test.YtblfefibgoiaaaaDoorRm
import Derived.Laws.MakeOwn
namespace Go.Proofs.YtblfefibgoiaaaaDoor
open Go.ChangeShapes Go.WideShapes Go.ChangeAt Go.RowKit Go.Proofs.Sn Go.Shelf
set_option linter.unusedVariables false
set_option linter.unusedSimpArgs false

attribute [local go_sem] Oper.semAt_some

def rtB (page pages : Nat) : Bool := rpB page pages && decide (pages ≤ 134217728)
theorem rt_any (page pages : Nat) (h1 : page < 18446744073709551616) (h2 : pages < 18446744073709551616) (W : World) : Calls Tryd.prog 30 #[.int .u64 (page : Nat), .int .u64 (pages : Nat)] W fun e W' => e = .returned (.bool (rtB page pages)) ∧ W' = W := by
  obtain ⟨A, hA⟩ : ∃ A : Int, (page : Int) = A := ⟨_, rfl⟩
  obtain ⟨B, hB⟩ : ∃ B : Int, (pages : Int) = B := ⟨_, rfl⟩
  have e0 : rtB page pages = decide (0 < B ∧ A + B ≤ 34359738368 ∧ B ≤ 134217728) := by
    unfold rtB rpB
    rw [← Bool.decide_and]
    exact decide_eq_decide.2 (by omega)
  rw [e0, hA, hB]
  have a0 : 0 ≤ A := by omega
  clear e0 hA hB h1 h2
  by_cases c1 : 0 < B
  · have d1 : decide (0 < B) = true := decide_eq_true c1
    by_cases c2 : B ≤ 134217728
    · have d2 : decide (B ≤ 134217728) = true := decide_eq_true c2
      by_cases c3 : A ≤ 34359738368
      · have d3 : decide (A ≤ 34359738368) = true := decide_eq_true c3
        have w1 : IntKind.u64.wrap (34359738368 - A) = 34359738368 - A := by rw [IntKind.wrap_u64]; omega
        rw [show decide (0 < B ∧ A + B ≤ 34359738368 ∧ B ≤ 134217728) = decide (B ≤ 34359738368 - A) from decide_eq_decide.2 (by omega)]
        go_enter Tryd.func30, Tryd.ntmps30
        go_wp2_with fail
        go_ret
        exact ⟨rfl, rfl⟩
      · have d3 : decide (A ≤ 34359738368) = false := decide_eq_false c3
        rw [decide_eq_false (by omega)]
        go_enter Tryd.func30, Tryd.ntmps30
        go_wp2_with fail
        go_ret
        exact ⟨rfl, rfl⟩
    · have d2 : decide (B ≤ 134217728) = false := decide_eq_false c2
      rw [decide_eq_false (by omega)]
      go_enter Tryd.func30, Tryd.ntmps30
      go_wp2_with fail
      go_ret
      exact ⟨rfl, rfl⟩
  · have d1 : decide (0 < B) = false := decide_eq_false c1
    rw [decide_eq_false (by omega)]
    go_enter Tryd.func30, Tryd.ntmps30
    go_wp2_with fail
    go_ret
    exact ⟨rfl, rfl⟩
theorem made_false (L : Nat) : (madeCells (Value.bool false).cells L).toList = (List.replicate L false).map encB := by
  apply List.ext_getElem?
  intro k
  by_cases h : k < L
  · simp [madeCells, Value.cells, h, Nat.mod_one, encB]
  · simp [madeCells, Value.cells, h, Nat.mod_one, encB]
theorem make_row (W : World) (L : Nat) (hL : L ≤ 100000) : ∃ W', (Instr.makeSlice 40 (.int .i64 (L : Nat)) (.int .i64 (L : Nat))).run Tryd.prog W = .ok (.slice (some ⟨W.heap.size, 0, none⟩) L L) W' ∧ W'.ownsRow W.heap.size 4 1 (.slice (some ⟨W.heap.size, 0, none⟩) L L) (List.replicate L false).length ((List.replicate L false).map encB) ∧ Below W.heap.size W W' ∧ W'.heap.size = W.heap.size + 1 := by
  obtain ⟨i0, hi0, hz0, hz1, hz2⟩ := info_parts infoB
  have hr := run_make (P := Tryd.prog) W 40 4 i0 _ Tryd.underlying40 hi0 hz0 .i64 .i64 (L : Nat) (L : Nat) (by omega) (by omega) (by rw [hz2]; omega) (by omega)
  rw [Int.toNat_natCast, hz1, Nat.mul_one] at hr
  refine ⟨_, hr, ⟨by simp, .inr ⟨W.heap.size, L, _, by simp, Nat.le_refl _, World.alloc_heap_new W _, by simp, by unfold maxLen; omega, by rw [size_madeCells]; omega, ?_⟩⟩, below_alloc W _, by simp⟩
  rw [made_false]
  simp
section
variable {N : Nat} {W W' : World}
theorem rnew_right (page pages : Nat) (number : Int) (noptr : Bool) (h1 : page < 18446744073709551616) (h2 : pages < 18446744073709551616) (h : rtB page pages = false ∨ number < 0 ∨ 67 < number) (W : World) :
    Calls Tryd.prog 10 #[.int .u64 (page : Nat), .int .u64 (pages : Nat), .int .i64 number, .bool noptr] W fun e W' => e = .returned (.tuple #[.pointer none, .int .i64 1]) ∧ W' = W := by
  have C := hide (rt_any page pages h1 h2 W)
  cases c1 : rtB page pages with
  | false =>
    rw [c1] at C
    clear h h1 h2 c1
    go_enter Tryd.func10, Tryd.ntmps10
    go_wp2_with fail
    refine C.out.mono ?_
    rintro e W1 ⟨rfl, hw⟩
    rw [hw]
    clear hw C W1
    go_wp2_with fail
    go_ret2
    exact ⟨rfl, rfl⟩
  | true =>
    rw [c1] at C h
    by_cases c2 : number < 0
    · have d2 : decide (number < 0) = true := decide_eq_true c2
      clear h h1 h2 c1
      go_enter Tryd.func10, Tryd.ntmps10
      go_wp2_with fail
      refine C.out.mono ?_
      rintro e W1 ⟨rfl, hw⟩
      rw [hw]
      clear hw C W1
      go_wp2_with fail
      go_ret2
      exact ⟨rfl, rfl⟩
    · have d2 : decide (number < 0) = false := decide_eq_false c2
      have c3 : 67 < number := by
        rcases h with h | h | h
        · cases h
        · exact absurd h c2
        · exact h
      have d3 : decide (67 < number) = true := decide_eq_true c3
      clear h h1 h2 c1
      go_enter Tryd.func10, Tryd.ntmps10
      go_wp2_with fail
      refine C.out.mono ?_
      rintro e W1 ⟨rfl, hw⟩
      rw [hw]
      clear hw C W1
      go_wp2_with fail
      go_ret2
      exact ⟨rfl, rfl⟩
theorem rt_le {page pages : Nat} (h : rtB page pages = true) : rpB page pages = true ∧ pages ≤ 134217728 := by
  unfold rtB at h
  rw [Bool.and_eq_true] at h
  exact ⟨h.1, of_decide_eq_true h.2⟩
theorem refTable (w : World) : Calls Tryd.prog 31 #[.int .i64 8192, .int .i64 32768] w fun e w' => ∃ g cap, e = .returned (.tuple #[.slice (some ⟨g, 0, none⟩) 68 cap, .int .i64 0]) ∧ w'.ownsRow w.heap.size 54 4 (.slice (some ⟨g, 0, none⟩) 68 cap) 68 (flatC (Cl.zeroC :: Cl.table)) ∧ Below w.heap.size w w' := by
  have M := refMake_ok 8192 32768 (by decide +kernel) w
  refine M.mono ?_
  rintro e w' ⟨v, rfl, o1, b1⟩
  rw [Cl.make_eq, List.length_cons, Cl.table_len] at o1
  obtain ⟨g, cap, rfl⟩ := ownsRow_succ o1
  exact ⟨g, cap, rfl, o1, b1⟩
set_option maxRecDepth 100000 in
theorem rnew_class (page pages : Nat) (k : Nat) (noptr : Bool) (hr : rtB page pages = true) (k1 : 1 ≤ k) (k2 : k < 68) {cl : Cl.Cls} (hc : (Cl.zeroC :: Cl.table)[k]? = some cl) (hp : cl.pages ≠ pages) (W : World) :
    Calls Tryd.prog 10 #[.int .u64 (page : Nat), .int .u64 (pages : Nat), .int .i64 (k : Nat), .bool noptr] W fun e W' => e = .returned (.tuple #[.pointer none, .int .i64 1]) ∧ Below W.heap.size W W' := by
  have le := rt_le hr
  have lp := rp_le le.1
  have tf := table_at k1 hc
  have C := hide (rt_any page pages (by omega) (by omega) W)
  rw [hr] at C
  obtain ⟨P, hP⟩ : ∃ P : Int, (pages : Int) = P := ⟨_, rfl⟩
  have w1 : IntKind.i64.wrap P = P := by rw [IntKind.wrap_i64]; omega
  have w2 : IntKind.i64.wrap (P * 8192) = P * 8192 := by rw [IntKind.wrap_i64]; omega
  have w3 : IntKind.u64.wrap (cl.pages : Int) = (cl.pages : Int) := by rw [IntKind.wrap_u64]; omega
  have d3 : ((cl.pages : Int) != P) = true := by simp; omega
  have d4 : ((cl.pages : Int) == P) = false := by simp; omega
  have dk : decide (0 < k) = true := decide_eq_true (by omega)
  have dk2 : decide (67 < (k : Int)) = false := decide_eq_false (by omega)
  have k9 : (k : Int) < 68 := by omega
  have kp : 0 < k := by omega
  have ki : (k : Int) ≤ 67 := by omega
  have HC := hide hc
  rw [hP] at C ⊢
  clear hr le lp tf hc hp hP
  go_enter Tryd.func10, Tryd.ntmps10
  go_wp2_with fail
  refine C.out.mono ?_
  rintro e W1 ⟨rfl, hw⟩
  rw [hw]
  clear hw C W1
  go_wp2_with fail
  refine (refTable _).mono ?_
  rintro e W1 ⟨g, cap, rfl, o1, b1⟩
  obtain ⟨x0, x1, x2, x3⟩ := list_at o1 (by rw [List.length_cons, Cl.table_len]) k cl HC.out
  have B1 := hide b1
  clear o1 b1
  go_wp2_with fail
  go_ret2
  refine ⟨rfl, ?_⟩
  refine Below.trans (below_alloc W _) (B1.out.mono ?_)
  rw [World.size_alloc]; omega
end
end Go.Proofs.YtblfefibgoiaaaaDoor
