/- Package radix: the numbers of rows, one by one: the iterator's contract; a loop over numbers. -/
import Derived.Test.YtnclicdnncgdiaaDoorXf
namespace Go.Proofs.YtnclicdnncgdiaaDoor
open Go.ChangeShapes Go.WideShapes Go.ChangeAt Go.RowKit Go.Proofs.Bt Go.Shelf Go.Proofs.Rx Go.Maps
set_option linter.unusedVariables false
set_option linter.unusedSimpArgs false

attribute [local go_sem] Oper.semAt_some

/-- How many rows at a depth a span meets. -/
def cntR (D a b : Nat) : Nat := (b - 1) / sz D + 1 - a / sz D
/-- What the iterator reads. -/
structure RdS (B0 B1 D a b : Nat) (w : World) : Prop where
  sp : w.heap[B0]? = some (.cells #[.int .u64 (a : Nat), .int .u64 (b : Nat)] 93 (0, 0))
  dp : w.heap[B1]? = some (.cells #[.int .i64 (D : Nat)] 3 (0, 0))
  tab : TabW w
theorem range_pre {j N : Nat} (h : j < N) : List.range j ++ [j] <+: List.range N := by
  rw [← List.range_succ, List.prefix_iff_eq_take, List.length_range, List.take_range, Nat.min_eq_left (by omega)]
theorem pre_range {pre : List Nat} {x N : Nat} (h : pre ++ [x] <+: List.range N) : pre = List.range pre.length ∧ x = pre.length ∧ pre.length < N := by
  have hl := h.length_le
  simp at hl
  have h1 : pre ++ [x] = (List.range N).take (pre.length + 1) := by
    have := List.prefix_iff_eq_take.1 h
    simpa using this
  rw [List.take_range, Nat.min_eq_left (by omega), List.range_succ] at h1
  have h2 := List.append_inj h1 (by simp)
  refine ⟨h2.1, ?_, by omega⟩
  simpa using h2.2
def encs1 (f j : Nat) : Array Value := #[.int .u64 ((f + j : Nat) : Int)]
set_option maxRecDepth 100000 in
set_option maxHeartbeats 1000000 in
theorem rows_seq (B0 B1 D a b : Nat) (hD : D ≤ 6) (hab : a < b) (hb : b ≤ 34359738368) (n : Nat) :
    SeqB n Tryd.prog 71 #[.pointer (some ⟨B0, 0, none⟩), .pointer (some ⟨B1, 0, none⟩)] (encs1 (a / sz D)) (RdS B0 B1 D a b) (List.range (cntR D a b)) := by
  intro l J Jx W hR hJ hY h0
  obtain ⟨f, hf⟩ : ∃ f, a / sz D = f := ⟨_, rfl⟩
  obtain ⟨N, hN⟩ : ∃ N, cntR D a b = N := ⟨_, rfl⟩
  rw [hf, hN] at hY
  rw [hN]
  have rd : ∀ j A, J (List.range j) A → Hid (A.cell? ⟨B0, 0, none⟩ = some (.int .u64 (a : Nat)) ∧ A.cell? ⟨B0, 1, none⟩ = some (.int .u64 (b : Nat)) ∧ A.cell? ⟨B1, 0, none⟩ = some (.int .i64 (D : Nat)) ∧ A.cell? ⟨0, D, none⟩ = some (.int .i64 (sh D : Nat))) := fun j A h => by
    have r := hR _ _ h
    exact hide ⟨by simp [World.cell?, r.sp], by simp [World.cell?, r.sp], by simp [World.cell?, r.dp], r.tab.2 D (by omega)⟩
  have HJ := hide hJ
  have HY := hide hY
  have H0 := hide h0
  have lt : ∀ j : Nat, ((f + j) * sz D < b ↔ j < N) := fun j => by
    unfold cntR at hN
    have hp := sz_pos D
    have h1 : (f + j) * sz D < b ↔ f + j ≤ (b - 1) / sz D := by
      rw [Nat.le_div_iff_mul_le hp]; omega
    have h2 : f ≤ (b - 1) / sz D := by rw [← hf]; exact Nat.div_le_div_right (by omega)
    rw [h1]; omega
  have hfb : (f + N) * sz D ≤ b + 2 * 34359738368 := by
    have h1 : ¬ (f + N) * sz D < b := fun z => by have := (lt N).1 z; omega
    have hz := sz_le D hD
    by_cases c : N = 0
    · subst c
      rw [Nat.add_zero]
      have : f * sz D ≤ a := by rw [← hf]; exact Nat.div_mul_le_self _ _
      omega
    · have h2 := (lt (N - 1)).2 (by omega)
      have e : (f + N) * sz D = (f + (N - 1)) * sz D + sz D := by rw [← Nat.succ_mul]; congr 1; omega
      omega
  have LT := hide lt
  have DL : ∀ (I : Int) (j : Nat), I = ((f + j : Nat) : Int) → decide (I * ((sz D : Nat) : Int) < ((b : Nat) : Int)) = decide (j < N) := fun I j e => by
    rw [e, ← Int.natCast_mul, decide_eq_decide, Int.ofNat_lt]; exact lt j
  have HWR : ∀ (I : Int) (j : Nat), I = ((f + j : Nat) : Int) → j ≤ N → IntKind.u64.wrap (I * ((sz D : Nat) : Int)) = I * ((sz D : Nat) : Int) := fun I j e hj => by
    have h1 : (f + j) * sz D ≤ (f + N) * sz D := Nat.mul_le_mul_right _ (by omega)
    rw [e, ← Int.natCast_mul, IntKind.wrap_u64]
    generalize (f + j) * sz D = X at *
    omega
  clear hR hJ hY h0 hN lt
  rcases cases_d hD with rfl | rfl | rfl | rfl | rfl | rfl | rfl
  all_goals
    clear hD
    simp only [sh, sz, Int.cast_ofNat_Int] at rd LT hf hfb DL HWR
    refine callsIn_of_wp Tryd.func71 rfl trivial ?_ rfl
    simp only [Tryd.ntmps71, List.size_toArray, List.length_cons, List.length_nil, Nat.reduceAdd, Nat.reduceSub, Array.replicate_succ, Array.replicate_zero, List.push_toArray, List.append_toArray, List.nil_append, List.cons_append]
    obtain ⟨r0', r1', r2', r3'⟩ := (rd 0 _ H0.out).out
    have H1 := hide (HJ.out _ _ _ H0.out (drew_below _))
    gi_wp2_with fail
    refine wpIn_wide.2 (still_all (by kernel_rfl) (by kernel_rfl) ?_)
    repeat still_step
    refine wpStill_nil ?_
    gi_wp2_with fail
    gi_loopw [4] (fun iv wr => ∃ (I : Int) (j : Nat), iv = .int .u64 I ∧ 0 ≤ I ∧ j ≤ N ∧ Hid (I = ((f + j : Nat) : Int)) ∧ Hid (J (List.range j) wr)) (fun iv _ => N + f - (intOf iv).toNat)
    case atStart => exact ⟨_, 0, rfl, by omega, by omega, hide (by omega), H1⟩
    case round =>
      obtain ⟨I, j, rfl, i0, hj, HI, HX⟩ := hrel
      obtain ⟨r0, r1, r2, r3⟩ := (rd j _ HX.out).out
      have HX1 := hide (HJ.out _ _ _ HX.out (drew_below _))
      have i1 : I ≤ 70368744177664 := by have := HI.out; omega
      have dl := DL I j HI.out
      have hw := HWR I j HI.out hj
      clear DL HWR rd LT r0' r1' r2' r3'
      by_cases hlt : j < N
      · rw [decide_eq_true hlt] at dl
        obtain ⟨fn, tmps, assign, body, hy, hRr⟩ := HY.out (List.range j) j _ (range_pre hlt) HX1.out
        simp only [encs1] at hy
        rw [← HI.out] at hy
        have HRR := hide hRr
        clear hRr HX
        gi_wp2_with fail
        refine wpIn_wide.2 (still_all (by kernel_rfl) (by kernel_rfl) ?_)
        repeat still_step
        refine wpStill_nil ?_
        gi_wp2_with fail
        refine ⟨(fun h => by cases h), HRR.out.mono ?_⟩
        clear HRR hy
        rintro e' w4 (⟨rfl, j4⟩ | ⟨rfl, jx4⟩)
        · have X := hide j4
          rw [← List.range_succ] at X
          clear j4
          gi_wp2_with fail
          refine ⟨⟨I + 1, j + 1, rfl, by omega, by omega, hide (by have := HI.out; omega), X⟩, ?_⟩
          have := HI.out
          simp [intOf]; omega
        · have X := hide jx4
          clear jx4
          gi_wp2_with fail
          refine bodyPost_ret (results_none rfl _ _ _) rfl ?_
          exact ⟨⟨_, rfl⟩, .inr ⟨_, _, range_pre hlt, X.out⟩⟩
      · rw [decide_eq_false hlt] at dl
        obtain rfl : j = N := by omega
        clear HX
        gi_wp2_with fail
        refine wpIn_wide.2 (still_all (by kernel_rfl) (by kernel_rfl) ?_)
        repeat still_step
        refine wpStill_nil ?_
        gi_wp2_with fail
        go_end0
        exact ⟨⟨_, rfl⟩, .inl HX1.out⟩
end Go.Proofs.YtnclicdnncgdiaaDoor
