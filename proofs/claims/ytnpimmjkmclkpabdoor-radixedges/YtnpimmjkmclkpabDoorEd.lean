/- RadixEdges: the last chunk of all. -/
import Derived.Test.YtnpimmjkmclkpabDoorSh
namespace Go.Proofs.YtnpimmjkmclkpabDoor
open Go.ChangeShapes Go.WideShapes Go.ChangeAt Go.RowKit Go.Proofs.Bt Go.Shelf Go.Proofs.Rx Go.Maps Go.Proofs.Pk
set_option linter.unusedVariables false
set_option linter.unusedSimpArgs false

/-- The last n chunks in use. -/
def ed (n : Nat) : Nat → Nat := setSt (fun _ => 0) ((67108864 - n) * 512) ((67108864 - n) * 512 + n * 512) 3
theorem ed_at (n q : Nat) (hn : n ≤ 20) : ed n q = if 34359738368 - 512 * n ≤ q ∧ q < 34359738368 then 3 else 0 := by
  unfold ed setSt
  by_cases a : (67108864 - n) * 512 ≤ q ∧ q < (67108864 - n) * 512 + n * 512
  · rw [if_pos a, if_pos (by omega)]
  · rw [if_neg a, if_neg (by omega)]
theorem ed_first (n k : Nat) (hn : n ≤ 20) (h1 : 1 ≤ k) (hk : k ≤ n * 512) : First (ed n) k (34359738368 - 512 * n) := by
  refine ⟨fun q q1 q2 => ?_, fun p hp hR => ?_⟩
  · rw [ed_at n q hn, if_pos (by omega)]; omega
  · have h1 := hR p (Nat.le_refl _) (by omega)
    rw [ed_at n p hn, if_neg (by omega)] at h1
    omega
/-- .. and the first k pages of them used. -/
def ed2 (n k : Nat) : Nat → Nat := setSt (ed n) (34359738368 - 512 * n) (34359738368 - 512 * n + k) 1
theorem ed2_at (n k q : Nat) (hn : n ≤ 20) (hk : k ≤ n * 512) : ed2 n k q = if 34359738368 - 512 * n ≤ q ∧ q < 34359738368 then (if q < 34359738368 - 512 * n + k then 1 else 3) else 0 := by
  unfold ed2 setSt
  by_cases a : 34359738368 - 512 * n ≤ q ∧ q < 34359738368 - 512 * n + k
  · rw [if_pos a, if_pos (by omega), if_pos (by omega)]
  · rw [if_neg a, ed_at n q hn]
    by_cases b : 34359738368 - 512 * n ≤ q ∧ q < 34359738368
    · rw [if_pos b, if_pos b, if_neg (by omega)]
    · rw [if_neg b, if_neg b]
theorem ed2_free {n k p m : Nat} (hn : n ≤ 20) (hk : k ≤ n * 512) (h : Run (ed2 n k) p m) (hm : 1 ≤ m) : 34359738368 - 512 * n + k ≤ p ∧ p + m ≤ 34359738368 := by
  have h1 := h p (Nat.le_refl _) (by omega)
  have h2 := h (p + m - 1) (by omega) (by omega)
  rw [ed2_at n k _ hn hk] at h1 h2
  constructor
  · split at h1
    · split at h1 <;> omega
    · omega
  · split at h2
    · split at h2 <;> omega
    · omega
theorem ed2_none (n k : Nat) (hn : n ≤ 20) (hk : k ≤ n * 512) : ∀ p, ¬ Run (ed2 n k) p (512 * n - k + 1) := fun p hR => by
  have := ed2_free hn hk hR (by omega)
  omega
theorem ed2_first (n k : Nat) (hn : n ≤ 20) (hk : k < n * 512) : First (ed2 n k) (512 * n - k) (34359738368 - 512 * n + k) := by
  refine ⟨fun q q1 q2 => ?_, fun p hp hR => ?_⟩
  · rw [ed2_at n k q hn (by omega), if_pos (by omega), if_neg (by omega)]; omega
  · have := ed2_free hn (by omega) hR (by omega)
    omega
set_option maxRecDepth 100000 in
theorem edges_any (w : World) (ht : TabW w) (n k : Nat) (hn : n < 18446744073709551616) (hk : k < 18446744073709551616) :
    Calls Tryd.prog 4 #[.int .u64 (n : Nat), .int .u64 (k : Nat)] w fun e w' => e = .returned (.bool true) ∧ Below w.heap.size w w' := by
  obtain ⟨N, hN⟩ : ∃ N, w.heap.size = N := ⟨_, rfl⟩
  have CN := hide (t9_new ht hN)
  have R0 := hide (Below.refl N w)
  rw [hN]
  obtain ⟨A, hA⟩ : ∃ A : Int, (n : Int) = A := ⟨_, rfl⟩
  obtain ⟨M, hM⟩ : ∃ M : Int, (k : Int) = M := ⟨_, rfl⟩
  rw [hA, hM]
  have HA := hide hA
  have HM := hide hM
  have f0 : 0 ≤ A := by omega
  have m0 : 0 ≤ M := by omega
  have f9 : A < 18446744073709551616 := by omega
  have m9 : M < 18446744073709551616 := by omega
  by_cases z1 : n < 1
  · have d1 : decide (A < 1) = true := decide_eq_true (by omega)
    clear CN ht hN hA hM z1
    go_enter Tryd.func4, Tryd.ntmps4
    go_wp2_with fail
    go_ret
    exact ⟨rfl, R0.out⟩
  have d1 : decide (A < 1) = false := decide_eq_false (by omega)
  by_cases z2 : 20 < n
  · have d2 : decide (20 < A) = true := decide_eq_true (by omega)
    clear CN ht hN hA hM z1 z2
    go_enter Tryd.func4, Tryd.ntmps4
    go_wp2_with fail
    go_ret
    exact ⟨rfl, R0.out⟩
  have d2 : decide (20 < A) = false := decide_eq_false (by omega)
  have a1 : 1 ≤ A := by omega
  have a2 : A ≤ 20 := by omega
  by_cases z3 : k < 1
  · have d3 : decide (M < 1) = true := decide_eq_true (by omega)
    clear CN ht hN hA hM z1 z2 z3
    go_enter Tryd.func4, Tryd.ntmps4
    go_wp2_with fail
    go_ret
    exact ⟨rfl, R0.out⟩
  have d3 : decide (M < 1) = false := decide_eq_false (by omega)
  by_cases z4 : n * 512 < k
  · have d4 : decide (A * 512 < M) = true := decide_eq_true (by omega)
    clear CN ht hN hA hM z1 z2 z3 z4
    go_enter Tryd.func4, Tryd.ntmps4
    go_wp2_with fail
    go_ret
    exact ⟨rfl, R0.out⟩
  have d4 : decide (A * 512 < M) = false := decide_eq_false (by omega)
  have m1 : 1 ≤ M := by omega
  have m2 : M ≤ A * 512 := by omega
  have n1 : 1 ≤ n := by omega
  have n2 : n ≤ 20 := by omega
  have k1 : 1 ≤ k := by omega
  have k2 : k ≤ n * 512 := by omega
  have q : (M == 512 * A) = true ∧ k = 512 * n ∨ (M == 512 * A) = false ∧ k < n * 512 := by
    by_cases y : k = 512 * n
    · exact .inl ⟨beq_iff_eq.2 (by omega), y⟩
    · exact .inr ⟨beq_eq_false_iff_ne.2 (by omega), by omega⟩
  clear ht hN hA hM z1 z2 z3 z4
  go_enter Tryd.func4, Tryd.ntmps4
  go_wp2_with fail
  refine CN.out.mono ?_
  rintro e w1 ⟨tb, rfl, t1⟩
  have CG := hide (t9_grow_bad t1 (67108864 - n) (n + 1) (by omega) (by omega) (by unfold GrowBad; omega))
  rw [show ((67108864 - n : Nat) : Int) = 67108864 - A by have := HA.out; omega, show ((n + 1 : Nat) : Int) = A + 1 by have := HA.out; omega] at CG
  clear CN t1
  go_wp2_with fail
  refine CG.out.mono ?_
  rintro e w2 ⟨rfl, t2, -⟩
  have CH := hide (t9_grow t2 (67108864 - n) n (by unfold GrowBad; omega) (by rw [tl_all (s := 0) fun q _ _ => rfl]; rfl))
  rw [show ((67108864 - n : Nat) : Int) = 67108864 - A by have := HA.out; omega, HA.out] at CH
  clear CG t2
  go_wp2_with fail
  refine CH.out.mono ?_
  rintro e w3 ⟨rfl, t3, -⟩
  have CI := hide (t9_grow_twice (st := ed n) t3 67108863 1 (by unfold GrowBad; omega) (by rw [tl_all (s := 3) fun q q1 q2 => by rw [ed_at n q n2, if_pos (by omega)]]; decide))
  simp only [Int.cast_ofNat_Int] at CI
  clear CH t3
  go_wp2_with fail
  refine CI.out.mono ?_
  rintro e w4 ⟨rfl, t4, -⟩
  have CA := hide (t9_alloc t4 k (34359738368 - 512 * n) hk k1 (ed_first n k n2 k1 k2))
  obtain ⟨x, hx⟩ : ∃ x, (tl (ed n) (34359738368 - 512 * n) k).r = x := ⟨_, rfl⟩
  rw [HM.out, hx, show ((34359738368 - 512 * n : Nat) : Int) = 34359738368 - 512 * A by have := HA.out; omega] at CA
  clear CI t4 hx
  go_wp2_with fail
  refine CA.out.mono ?_
  rintro e w5 ⟨rfl, t5, -⟩
  have CT := hide (t9_take_bad (st := ed2 n k) t5 34359738367 2 (by omega) (by omega) (fun z => by have := z.2.1; omega))
  simp only [Int.cast_ofNat_Int] at CT
  clear CA t5
  go_wp2_with fail
  refine CT.out.mono ?_
  rintro e w6 ⟨rfl, t6, -⟩
  have CF := hide (t9_find_no t6 (512 * n - k + 1) (by omega) (.inr (ed2_none n k n2 k2)))
  rw [show ((512 * n - k + 1 : Nat) : Int) = 512 * A - M + 1 by have := HA.out; have := HM.out; omega] at CF
  clear CT t6
  go_wp2_with fail
  refine CF.out.mono ?_
  rintro e w7 ⟨rfl, t7, -⟩
  clear CF
  rcases q with ⟨d5, y⟩ | ⟨d5, y⟩
  · have CL := hide (t9_find_no t7 (512 * n - k) (by omega) (.inl (by omega)))
    rw [show ((512 * n - k : Nat) : Int) = 512 * A - M by have := HA.out; have := HM.out; omega] at CL
    clear t7
    go_wp2_with fail
    refine CL.out.mono ?_
    rintro e w8 ⟨rfl, t8, -⟩
    have CW := hide (awake_any t8.tab)
    have B7 := hide t8.be
    have L7 := hide t8.tr.lt.2.2
    clear CL t8
    go_wp2_with fail
    refine CW.out.mono ?_
    rintro e w9 ⟨rfl, b9⟩
    have B8 := hide (B7.out.trans (b9.mono L7.out))
    clear CW b9
    go_wp2_with fail
    go_ret
    exact ⟨rfl, B8.out⟩
  · have CL := hide (t9_find t7 (512 * n - k) (34359738368 - 512 * n + k) (by omega) (by omega) (ed2_first n k n2 y))
    rw [show ((512 * n - k : Nat) : Int) = 512 * A - M by have := HA.out; have := HM.out; omega, show ((34359738368 - 512 * n + k : Nat) : Int) = 34359738368 - 512 * A + M by have := HA.out; have := HM.out; omega] at CL
    clear t7
    go_wp2_with fail
    refine CL.out.mono ?_
    rintro e w8 ⟨rfl, t8, -⟩
    have CW := hide (awake_any t8.tab)
    have B7 := hide t8.be
    have L7 := hide t8.tr.lt.2.2
    clear CL t8
    go_wp2_with fail
    refine CW.out.mono ?_
    rintro e w9 ⟨rfl, b9⟩
    have B8 := hide (B7.out.trans (b9.mono L7.out))
    clear CW b9
    go_wp2_with fail
    go_ret
    exact ⟨rfl, B8.out⟩
theorem edges_int (w : World) (ht : TabW w) (a0 : Int) (w0 : (Lit.int .u64 a0).wf = true) (a1 : Int) (w1 : (Lit.int .u64 a1).wf = true) :
    Calls Tryd.prog 4 #[.int .u64 a0, .int .u64 a1] w fun e w' => e = .returned (.bool true) ∧ Below w.heap.size w w' := by
  have b0 := bounds_u64 w0
  have b1 := bounds_u64 w1
  have h := edges_any w ht a0.toNat a1.toNat (by omega) (by omega)
  rw [Int.toNat_of_nonneg b0.1, Int.toNat_of_nonneg b1.1] at h
  exact h
end Go.Proofs.YtnpimmjkmclkpabDoor
