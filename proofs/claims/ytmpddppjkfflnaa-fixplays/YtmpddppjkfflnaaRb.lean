/- The reference's Bump: contracts. -/
import Derived.Test.YtmpddppjkfflnaaBu
namespace Go.Proofs.Ytmpddppjkfflnaa
open Go.ChangeShapes Go.WideShapes Go.ChangeAt Go.RowKit Go.Shelf Go.Proofs.Rx Go.Maps
set_option linter.unusedVariables false
set_option linter.unusedSimpArgs false

theorem powRef_in (n lo hi : Int) (h0 : 0 ≤ lo) (h1 : lo ≤ n) (h2 : n ≤ hi) (h3 : n ≤ 9223372036854775807) (w : World) :
    Calls Try.prog 26 #[.int .u64 n] w fun e w' => e = .returned (.bool (powIn n lo hi)) ∧ w' = w := by
  have C := powRef_any n.toNat (by omega) w
  rw [show ((n.toNat : Nat) : Int) = n by omega] at C
  have eP : powIn n lo hi = isPow n.toNat := by unfold powIn; rw [decide_eq_true h1, decide_eq_true h2]; rfl
  rw [eP]
  exact C
theorem newBumpR_no (k : Int) (h : powIn k 64 1048576 = false) (h1 : k ≤ 9223372036854775807) (w : World) :
    Calls Try.prog 10 #[.int .i64 k] w fun e w' => e = .returned (.tuple #[.pointer none, .int .i64 1]) ∧ w' = w := by
  by_cases c1 : k < 64
  · have d1 : decide (k < 64) = true := decide_eq_true c1
    go_enter Try.func10, Try.ntmps10
    go_wp2_with fail
    go_ret2
    exact ⟨rfl, rfl⟩
  · have d1 : decide (k < 64) = false := decide_eq_false c1
    by_cases c2 : 1048576 < k
    · have d2 : decide (1048576 < k) = true := decide_eq_true c2
      go_enter Try.func10, Try.ntmps10
      go_wp2_with fail
      go_ret2
      exact ⟨rfl, rfl⟩
    · have d2 : decide (1048576 < k) = false := decide_eq_false c2
      have C := hide (powRef_in k 64 1048576 (by omega) (by omega) (by omega) h1)
      rw [h] at C
      have w1 : IntKind.u64.wrap k = k := by rw [IntKind.wrap_u64]; omega
      go_enter Try.func10, Try.ntmps10
      go_wp2_with (go_at_call 26; refine (C.out _).mono ?_; rintro e w1 ⟨rfl, hw⟩; rw [hw]; clear hw w1)
      go_ret2
      exact ⟨rfl, rfl⟩
theorem newBumpR_ok (k : Int) (h : powIn k 64 1048576 = true) (w : World) :
    Calls Try.prog 10 #[.int .i64 k] w fun e w' => e = .returned (.tuple #[.pointer (some ⟨w.heap.size, 0, none⟩), .int .i64 0]) ∧ w' = w.alloc (.cells #[.int .i64 k, .int .i64 0, .int .i64 0] 42) := by
  obtain ⟨a1, a2, -⟩ := powIn_le h
  have d1 : decide (k < 64) = false := decide_eq_false (by omega)
  have d2 : decide (1048576 < k) = false := decide_eq_false (by omega)
  have C := hide (powRef_in k 64 1048576 (by omega) (by omega) (by omega) (by omega))
  rw [h] at C
  have w1 : IntKind.u64.wrap k = k := by rw [IntKind.wrap_u64]; omega
  go_enter Try.func10, Try.ntmps10
  go_wp2_with (go_at_call 26; refine (C.out _).mono ?_; rintro e w1 ⟨rfl, hw⟩; rw [hw]; clear hw w1)
  go_ret2
  exact ⟨rfl, rfl⟩
def RuAt (W : World) (bb : Nat) (K M E : Int) : Prop := Bk W bb 42 #[.int .i64 K, .int .i64 M, .int .i64 E]
def RuTo (W W' : World) (bb : Nat) (K M E : Int) : Prop := RuAt W' bb K M E ∧ Kept (fun z => z = bb) W W'
section
variable {W : World} {bb : Nat} {K M E : Int}
theorem rt_arg (h : RuAt W bb K M E) (s a : Int) (ha : a ≤ 9223372036854775807) (hb : s < 1 ∨ powIn a 1 K = false) :
    Calls Try.prog 12 #[.pointer (some ⟨bb, 0, none⟩), .int .i64 s, .int .i64 a] W fun e W' => e = .returned (.tuple #[.int .i64 0, .int .i64 0, .int .i64 1]) ∧ W' = W := by
  have y0 := Bk.cell h 0 _ rfl
  clear h
  by_cases c : s < 1
  · have d1 : decide (s < 1) = true := decide_eq_true c
    clear hb
    go_enter Try.func12, Try.ntmps12
    go_wp2_with fail
    refine bodyPost_ret (results_tmp3 Try.results12 _ _ _) rfl ?_
    exact ⟨rfl, rfl⟩
  · have d1 : decide (s < 1) = false := decide_eq_false c
    by_cases c2 : a < 1
    · have d2 : decide (a < 1) = true := decide_eq_true c2
      clear hb
      go_enter Try.func12, Try.ntmps12
      go_wp2_with fail
      refine bodyPost_ret (results_tmp3 Try.results12 _ _ _) rfl ?_
      exact ⟨rfl, rfl⟩
    · have d2 : decide (a < 1) = false := decide_eq_false c2
      by_cases c3 : K < a
      · have d3 : decide (K < a) = true := decide_eq_true c3
        clear hb
        go_enter Try.func12, Try.ntmps12
        go_wp2_with fail
        refine bodyPost_ret (results_tmp3 Try.results12 _ _ _) rfl ?_
        exact ⟨rfl, rfl⟩
      · have d3 : decide (K < a) = false := decide_eq_false c3
        have C := hide (powRef_in a 1 K (by omega) (by omega) (by omega) ha)
        rw [hb.resolve_left c] at C
        have w1 : IntKind.u64.wrap a = a := by rw [IntKind.wrap_u64]; omega
        clear hb
        go_enter Try.func12, Try.ntmps12
        go_wp2_with (go_at_call 26; refine (C.out _).mono ?_; rintro e w1 ⟨rfl, hw⟩; rw [hw]; clear hw w1)
        refine bodyPost_ret (results_tmp3 Try.results12 _ _ _) rfl ?_
        exact ⟨rfl, rfl⟩
theorem rt_long (h : RuAt W bb K M E) (k0 : 64 ≤ K) (s a : Int) (ha : a ≤ 9223372036854775807) (hb : powIn a 1 K = true) (hs : K < s) :
    Calls Try.prog 12 #[.pointer (some ⟨bb, 0, none⟩), .int .i64 s, .int .i64 a] W fun e W' => e = .returned (.tuple #[.int .i64 0, .int .i64 0, .int .i64 2]) ∧ W' = W := by
  obtain ⟨a1, a2, -⟩ := powIn_le hb
  have y0 := Bk.cell h 0 _ rfl
  have d1 : decide (s < 1) = false := decide_eq_false (by omega)
  have d2 : decide (a < 1) = false := decide_eq_false (by omega)
  have d3 : decide (K < a) = false := decide_eq_false (by omega)
  have d4 : decide (K < s) = true := decide_eq_true hs
  have C := hide (powRef_in a 1 K (by omega) (by omega) (by omega) ha)
  rw [hb] at C
  have w1 : IntKind.u64.wrap a = a := by rw [IntKind.wrap_u64]; omega
  clear hb h
  go_enter Try.func12, Try.ntmps12
  go_wp2_with (go_at_call 26; refine (C.out _).mono ?_; rintro e w1 ⟨rfl, hw⟩; rw [hw]; clear hw w1)
  refine bodyPost_ret (results_tmp3 Try.results12 _ _ _) rfl ?_
  exact ⟨rfl, rfl⟩
/-- A place in the last block. -/
theorem rt_old (h : RuAt W bb K M E) (ok : BuOk K M E) (s a : Int) (hb : powIn a 1 K = true) (hs : 1 ≤ s) (hs2 : s ≤ K) (hM : M ≠ 0) (hf : upB E a + s ≤ K) :
    Calls Try.prog 12 #[.pointer (some ⟨bb, 0, none⟩), .int .i64 s, .int .i64 a] W fun e W' => e = .returned (.tuple #[.int .i64 (M - 1), .int .i64 (upB E a), .int .i64 0]) ∧ RuTo W W' bb K M (upB E a + s) := by
  obtain ⟨a1, a2, -⟩ := powIn_le hb
  obtain ⟨u1, u2, -⟩ := upB_facts E a ok.e0 a1
  have eU : upB E a = (E + a - 1) / a * a := rfl
  obtain ⟨k0, k1, m0, m1, e0, e1, -⟩ := ok
  have H := hide h
  have y0 := Bk.cell h 0 _ rfl
  have y1 := Bk.cell h 1 _ rfl
  have y2 := Bk.cell h 2 _ rfl
  have d1 : decide (s < 1) = false := decide_eq_false (by omega)
  have d2 : decide (a < 1) = false := decide_eq_false (by omega)
  have d3 : decide (K < a) = false := decide_eq_false (by omega)
  have d4 : decide (K < s) = false := decide_eq_false (by omega)
  have C := hide (powRef_in a 1 K (by omega) (by omega) (by omega) (by omega))
  rw [hb] at C
  have w1 : IntKind.u64.wrap a = a := by rw [IntKind.wrap_u64]; omega
  generalize upB E a = U at *
  have q1 : IntKind.i64.wrap (E + a) = E + a := by rw [IntKind.wrap_i64]; omega
  have q2 : IntKind.i64.wrap (E + a - 1) = E + a - 1 := by rw [IntKind.wrap_i64]; omega
  have q0 : (E + a - 1).tdiv a = (E + a - 1) / a := Int.tdiv_eq_ediv_of_nonneg (by omega)
  have q9 : 0 ≤ (E + a - 1) / a := Int.ediv_nonneg (by omega) (by omega)
  have q8 : (E + a - 1) / a ≤ E + a - 1 := Int.ediv_le_self _ (by omega)
  have q3 : IntKind.i64.wrap ((E + a - 1) / a) = (E + a - 1) / a := by rw [IntKind.wrap_i64]; omega
  have q4 : IntKind.i64.wrap ((E + a - 1) / a * a) = U := by rw [← eU, IntKind.wrap_i64]; omega
  have az : (a == 0) = false := by simp; omega
  have w4 : IntKind.i64.wrap (K - U) = K - U := by rw [IntKind.wrap_i64]; omega
  have z1 : (M == 0) = false := by simpa using hM
  have z2 : decide (K < U) = false := decide_eq_false (by omega)
  have z3 : decide (K - U < s) = false := decide_eq_false (by omega)
  have w5 : IntKind.i64.wrap (U + s) = U + s := by rw [IntKind.wrap_i64]; omega
  have w6 : IntKind.i64.wrap (M - 1) = M - 1 := by rw [IntKind.wrap_i64]; omega
  have f2 := Bk.fz h 2
  have y3 := Bk.cell (Bk.set h 2 (.int .i64 (U + s))) 1 _ rfl
  clear hb h eU q8
  go_enter Try.func12, Try.ntmps12
  go_wp2_with (go_at_call 26; refine (C.out _).mono ?_; rintro e w1 ⟨rfl, hw⟩; rw [hw]; clear hw w1)
  refine bodyPost_ret (results_tmp3 Try.results12 _ _ _) rfl ?_
  exact ⟨rfl, Bk.set H.out 2 _, kept_set W bb 2 _ rfl⟩
/-- A new block. -/
theorem rt_new (h : RuAt W bb K M E) (ok : BuOk K M E) (s a : Int) (hb : powIn a 1 K = true) (hs : 1 ≤ s) (hs2 : s ≤ K) (hf : M ≠ 0 → K < upB E a + s) :
    Calls Try.prog 12 #[.pointer (some ⟨bb, 0, none⟩), .int .i64 s, .int .i64 a] W fun e W' => e = .returned (.tuple #[.int .i64 M, .int .i64 0, .int .i64 0]) ∧ RuTo W W' bb K (M + 1) s := by
  obtain ⟨R, hR⟩ : ∃ R : Ending → World → Prop, R = fun e W' => e = .returned (.tuple #[.int .i64 M, .int .i64 0, .int .i64 0]) ∧ RuTo W W' bb K (M + 1) s := ⟨_, rfl⟩
  rw [← hR]
  obtain ⟨a1, a2, -⟩ := powIn_le hb
  obtain ⟨u1, u2, -⟩ := upB_facts E a ok.e0 a1
  have eU : upB E a = (E + a - 1) / a * a := rfl
  obtain ⟨k0, k1, m0, m1, e0, e1, -⟩ := ok
  have H := hide h
  have y0 := Bk.cell h 0 _ rfl
  have y1 := Bk.cell h 1 _ rfl
  have y2 := Bk.cell h 2 _ rfl
  have d1 : decide (s < 1) = false := decide_eq_false (by omega)
  have d2 : decide (a < 1) = false := decide_eq_false (by omega)
  have d3 : decide (K < a) = false := decide_eq_false (by omega)
  have d4 : decide (K < s) = false := decide_eq_false (by omega)
  have C := hide (powRef_in a 1 K (by omega) (by omega) (by omega) (by omega))
  rw [hb] at C
  have w1 : IntKind.u64.wrap a = a := by rw [IntKind.wrap_u64]; omega
  generalize upB E a = U at *
  have q1 : IntKind.i64.wrap (E + a) = E + a := by rw [IntKind.wrap_i64]; omega
  have q2 : IntKind.i64.wrap (E + a - 1) = E + a - 1 := by rw [IntKind.wrap_i64]; omega
  have q0 : (E + a - 1).tdiv a = (E + a - 1) / a := Int.tdiv_eq_ediv_of_nonneg (by omega)
  have q9 : 0 ≤ (E + a - 1) / a := Int.ediv_nonneg (by omega) (by omega)
  have q8 : (E + a - 1) / a ≤ E + a - 1 := Int.ediv_le_self _ (by omega)
  have q3 : IntKind.i64.wrap ((E + a - 1) / a) = (E + a - 1) / a := by rw [IntKind.wrap_i64]; omega
  have q4 : IntKind.i64.wrap ((E + a - 1) / a * a) = U := by rw [← eU, IntKind.wrap_i64]; omega
  have az : (a == 0) = false := by simp; omega
  have w4 : IntKind.i64.wrap (K - U) = K - U := by rw [IntKind.wrap_i64]; omega
  have w5 : IntKind.i64.wrap (0 + s) = s := by rw [IntKind.wrap_i64]; omega
  have w6 : IntKind.i64.wrap (M + 1) = M + 1 := by rw [IntKind.wrap_i64]; omega
  have w7 : IntKind.i64.wrap (M + 1 - 1) = M := by rw [IntKind.wrap_i64]; omega
  have f1 := Bk.fz h 1
  have h2 := Bk.set h 1 (.int .i64 (M + 1))
  have y3 := Bk.cell h2 2 _ rfl
  have f3 := Bk.fz h2 2
  have h3 := Bk.set h2 2 (.int .i64 s)
  have y4 := Bk.cell h3 1 _ rfl
  have FIN := hide (show R (.returned (.tuple #[.int .i64 M, .int .i64 0, .int .i64 0])) ((W.setCell ⟨bb, 1, none⟩ (.int .i64 (M + 1))).setCell ⟨bb, 2, none⟩ (.int .i64 s)) from by
    rw [hR]
    exact ⟨rfl, h3, (kept_set (F := fun z => z = bb) W bb 1 _ rfl).trans (kept_set (F := fun z => z = bb) _ bb 2 _ rfl) (fun _ _ f => f)⟩)
  clear hb h eU q8 h2 h3 hR
  by_cases c1 : M = 0
  · have z1 : (M == 0) = true := by simpa using c1
    clear c1 hf
    go_enter Try.func12, Try.ntmps12
    go_wp2_with (go_at_call 26; refine (C.out _).mono ?_; rintro e w1 ⟨rfl, hw⟩; rw [hw]; clear hw w1)
    refine bodyPost_ret (results_tmp3 Try.results12 _ _ _) rfl ?_
    exact FIN.out
  · have z1 : (M == 0) = false := by simpa using c1
    have hf2 := hf c1
    clear hf
    by_cases c2 : K < U
    · have z2 : decide (K < U) = true := decide_eq_true c2
      go_enter Try.func12, Try.ntmps12
      go_wp2_with (go_at_call 26; refine (C.out _).mono ?_; rintro e w1 ⟨rfl, hw⟩; rw [hw]; clear hw w1)
      refine bodyPost_ret (results_tmp3 Try.results12 _ _ _) rfl ?_
      exact FIN.out
    · have z2 : decide (K < U) = false := decide_eq_false c2
      have z3 : decide (K - U < s) = true := decide_eq_true (by omega)
      go_enter Try.func12, Try.ntmps12
      go_wp2_with (go_at_call 26; refine (C.out _).mono ?_; rintro e w1 ⟨rfl, hw⟩; rw [hw]; clear hw w1)
      refine bodyPost_ret (results_tmp3 Try.results12 _ _ _) rfl ?_
      exact FIN.out
end
end Go.Proofs.Ytmpddppjkfflnaa
