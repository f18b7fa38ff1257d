/- RadixGaps: rows of pages across a gap, or none. -/
import Derived.Test.YtnpimmjkmclkpaaDoorSh
namespace Go.Proofs.YtnpimmjkmclkpaaDoor
open Go.ChangeShapes Go.WideShapes Go.ChangeAt Go.RowKit Go.Proofs.Bt Go.Shelf Go.Proofs.Rx Go.Maps Go.Proofs.Pk
set_option linter.unusedVariables false
set_option linter.unusedSimpArgs false

/-- Two chunks in use, the second g behind the first. -/
def gp (f g : Nat) : Nat → Nat := setSt (setSt (fun _ => 0) ((f + g) * 512) ((f + g) * 512 + 1 * 512) 3) (f * 512) (f * 512 + 1 * 512) 3
theorem gp_at (f g q : Nat) : gp f g q = if f * 512 ≤ q ∧ q < f * 512 + 512 ∨ (f + g) * 512 ≤ q ∧ q < (f + g) * 512 + 512 then 3 else 0 := by
  unfold gp setSt
  simp only [Nat.one_mul]
  by_cases a : f * 512 ≤ q ∧ q < f * 512 + 512
  · rw [if_pos a, if_pos (.inl a)]
  · rw [if_neg a]
    by_cases b : (f + g) * 512 ≤ q ∧ q < (f + g) * 512 + 512
    · rw [if_pos b, if_pos (.inr b)]
    · rw [if_neg b, if_neg (fun z => z.elim a b)]
theorem gp_none (f n : Nat) (hn : 513 ≤ n) : ∀ p, ¬ Run (gp f 2) p n := fun p hR => by
  have h0 := hR p (Nat.le_refl _) (by omega)
  rw [gp_at] at h0
  split at h0
  · rename_i z
    rcases z with z | z
    · have h1 := hR (f * 512 + 512) (by omega) (by omega)
      rw [gp_at, if_neg (by omega)] at h1
      omega
    · have h1 := hR ((f + 2) * 512 + 512) (by omega) (by omega)
      rw [gp_at, if_neg (by omega)] at h1
      omega
  · omega
theorem gp_first (f n : Nat) (hn : 513 ≤ n) (hn' : n ≤ 1024) : First (gp f 1) n (f * 512) := by
  refine ⟨fun q q1 q2 => ?_, fun p hp hR => ?_⟩
  · rw [gp_at, if_pos (by omega)]; omega
  · have h1 := hR p (Nat.le_refl _) (by omega)
    rw [gp_at, if_neg (by omega)] at h1
    omega
theorem gp_grow1 (f g : Nat) : (tl (fun _ => 0) ((f + g) * 512) (1 * 512)).p = 0 := by
  rw [tl_all (s := 0) fun q _ _ => rfl]; rfl
theorem gp_grow2 (f g : Nat) (hg : 1 ≤ g) : tl (setSt (fun _ => 0) ((f + g) * 512) ((f + g) * 512 + 1 * 512) 3) (f * 512) (1 * 512) = tlOf 0 (1 * 512) :=
  tl_all fun q q1 q2 => by unfold setSt; rw [if_neg (by omega)]
theorem gp_free (f g : Nat) (hg : 1 ≤ g) (hf : f + g < 67108864) : frT (gp f g) = 1024 := by
  have h1 := (tot_set (st := fun _ => 0) (a := (f + g) * 512) (n := 1 * 512) (s := 3) (by omega)).1
  have h2 := (tot_set (st := setSt (fun _ => 0) ((f + g) * 512) ((f + g) * 512 + 1 * 512) 3) (a := f * 512) (n := 1 * 512) (s := 3) (by omega)).1
  rw [tl_all (s := 0) fun q _ _ => rfl, tot_zero.1, if_pos (by omega)] at h1
  rw [gp_grow2 f g hg, if_pos (by omega)] at h2
  have e1 : (tlOf 0 (1 * 512)).f = 0 := rfl
  rw [e1] at h1 h2
  unfold gp
  generalize frT _ = x at *
  generalize frT _ = y at *
  omega
theorem gp_left (f n : Nat) (hn : 513 ≤ n) (hn' : n ≤ 1024) (hf : f + 1 < 67108864) : frT (setSt (gp f 1) (f * 512) (f * 512 + n) 1) = 1024 - n := by
  have h1 := (tot_set (st := gp f 1) (a := f * 512) (n := n) (s := 1) (by omega)).1
  have e : tl (gp f 1) (f * 512) n = tlOf 3 n := tl_all fun q q1 q2 => by rw [gp_at, if_pos (by omega)]
  rw [gp_free f 1 (by omega) hf, e, if_neg (by omega)] at h1
  have e1 : (tlOf 3 n).f = n := rfl
  rw [e1] at h1
  clear e e1
  generalize frT _ = x at *
  omega
theorem gp_take (f : Nat) : ¬ InT (gp f 2) (f * 512 + 511) 2 := fun ⟨_, _, h⟩ => by
  have h1 : cnt (inU (gp f 2)) (f * 512 + 511) 2 = 2 := h
  have h2 := cnt_full.1 h1 1 (by omega)
  unfold inU at h2
  have h3 := of_decide_eq_true h2
  rw [gp_at, if_neg (by omega)] at h3
  exact h3 rfl
set_option maxRecDepth 100000 in
set_option maxHeartbeats 400000 in
theorem gaps_any (w : World) (ht : TabW w) (f n : Nat) (gap : Bool) (hf : f < 18446744073709551616) (hn : n < 18446744073709551616) :
    Calls Tryd.prog 3 #[.int .u64 (f : Nat), .bool gap, .int .u64 (n : Nat)] w fun e w' => e = .returned (.bool true) ∧ Below w.heap.size w w' := by
  obtain ⟨N, hN⟩ : ∃ N, w.heap.size = N := ⟨_, rfl⟩
  have CN := hide (t9_new ht hN)
  have R0 := hide (Below.refl N w)
  rw [hN]
  obtain ⟨F, hF⟩ : ∃ F : Int, (f : Int) = F := ⟨_, rfl⟩
  obtain ⟨M, hM⟩ : ∃ M : Int, (n : Int) = M := ⟨_, rfl⟩
  rw [hF, hM]
  have HF := hide hF
  have HM := hide hM
  have f0 : 0 ≤ F := by omega
  have m0 : 0 ≤ M := by omega
  have f9 : F < 18446744073709551616 := by omega
  have m9 : M < 18446744073709551616 := by omega
  by_cases z1 : f < 1
  · have d1 : decide (F < 1) = true := decide_eq_true (by omega)
    clear CN ht hN hF hM z1
    go_enter Tryd.func3, Tryd.ntmps3
    go_wp2_with fail
    go_ret
    exact ⟨rfl, R0.out⟩
  have d1 : decide (F < 1) = false := decide_eq_false (by omega)
  by_cases z2 : 33554432 < f
  · have d2 : decide (33554432 < F) = true := decide_eq_true (by omega)
    clear CN ht hN hF hM z1 z2
    go_enter Tryd.func3, Tryd.ntmps3
    go_wp2_with fail
    go_ret
    exact ⟨rfl, R0.out⟩
  have d2 : decide (33554432 < F) = false := decide_eq_false (by omega)
  by_cases z3 : n < 513
  · have d3 : decide (M < 513) = true := decide_eq_true (by omega)
    clear CN ht hN hF hM z1 z2 z3
    go_enter Tryd.func3, Tryd.ntmps3
    go_wp2_with fail
    go_ret
    exact ⟨rfl, R0.out⟩
  have d3 : decide (M < 513) = false := decide_eq_false (by omega)
  by_cases z4 : 1024 < n
  · have d4 : decide (1024 < M) = true := decide_eq_true (by omega)
    clear CN ht hN hF hM z1 z2 z3 z4
    go_enter Tryd.func3, Tryd.ntmps3
    go_wp2_with fail
    go_ret
    exact ⟨rfl, R0.out⟩
  have d4 : decide (1024 < M) = false := decide_eq_false (by omega)
  have f1 : 1 ≤ F := by omega
  have f2 : F ≤ 33554432 := by omega
  have m1 : 513 ≤ M := by omega
  have m2 : M ≤ 1024 := by omega
  have z3' : 513 ≤ n := by omega
  have z4' : n ≤ 1024 := by omega
  have z2' : f ≤ 33554432 := by omega
  cases gap with
  | true =>
    clear ht hN hF hM z1 z2 z3 z4
    go_enter Tryd.func3, Tryd.ntmps3
    go_wp2_with fail
    refine CN.out.mono ?_
    rintro e w1 ⟨tb, rfl, t1⟩
    have CG := hide (t9_grow t1 (f + 2) 1 (by unfold GrowBad; omega) (gp_grow1 f 2))
    rw [show ((f + 2 : Nat) : Int) = F + 1 + 1 by have := HF.out; omega] at CG
    simp only [Int.cast_ofNat_Int] at CG
    clear CN t1
    go_wp2_with fail
    refine CG.out.mono ?_
    rintro e w2 ⟨rfl, t2, -⟩
    have CH := hide (t9_grow t2 f 1 (by unfold GrowBad; omega) (by rw [gp_grow2 f 2 (by omega)]; rfl))
    rw [HF.out] at CH
    simp only [Int.cast_ofNat_Int] at CH
    clear CG t2
    go_wp2_with fail
    refine CH.out.mono ?_
    rintro e w3 ⟨rfl, t3, -⟩
    have CF := hide (t9_find_no (st := gp f 2) t3 n hn (.inr (gp_none f n z3')))
    rw [HM.out] at CF
    clear CH t3
    go_wp2_with fail
    refine CF.out.mono ?_
    rintro e w4 ⟨rfl, t4, -⟩
    have CA := hide (t9_alloc_no t4 n hn (by omega) (gp_none f n z3'))
    rw [HM.out] at CA
    clear CF t4
    go_wp2_with fail
    refine CA.out.mono ?_
    rintro e w5 ⟨rfl, t5, -⟩
    have CT := hide (t9_take_bad t5 (f * 512 + 511) 2 (by omega) (by omega) (gp_take f))
    rw [show ((f * 512 + 511 : Nat) : Int) = F * 512 + 511 by have := HF.out; omega] at CT
    simp only [Int.cast_ofNat_Int] at CT
    clear CA t5
    go_wp2_with fail
    refine CT.out.mono ?_
    rintro e w6 ⟨rfl, t6, -⟩
    have CR := hide (t9_free t6)
    rw [gp_free f 2 (by omega) (by omega)] at CR
    simp only [Int.cast_ofNat_Int] at CR
    clear CT t6
    go_wp2_with fail
    refine CR.out.mono ?_
    rintro e w7 ⟨rfl, t7, -⟩
    have CW := hide (awake_any t7.tab)
    have B7 := hide t7.be
    have L7 := hide t7.tr.lt.2.2
    clear CR t7
    go_wp2_with fail
    refine CW.out.mono ?_
    rintro e w8 ⟨rfl, b8⟩
    have B8 := hide (B7.out.trans (b8.mono L7.out))
    clear CW b8
    go_wp2_with fail
    go_ret
    exact ⟨rfl, B8.out⟩
  | false =>
    clear ht hN hF hM z1 z2 z3 z4
    go_enter Tryd.func3, Tryd.ntmps3
    go_wp2_with fail
    refine CN.out.mono ?_
    rintro e w1 ⟨tb, rfl, t1⟩
    have CG := hide (t9_grow t1 (f + 1) 1 (by unfold GrowBad; omega) (gp_grow1 f 1))
    rw [show ((f + 1 : Nat) : Int) = F + 1 by have := HF.out; omega] at CG
    simp only [Int.cast_ofNat_Int] at CG
    clear CN t1
    go_wp2_with fail
    refine CG.out.mono ?_
    rintro e w2 ⟨rfl, t2, -⟩
    have CH := hide (t9_grow t2 f 1 (by unfold GrowBad; omega) (by rw [gp_grow2 f 1 (by omega)]; rfl))
    rw [HF.out] at CH
    simp only [Int.cast_ofNat_Int] at CH
    clear CG t2
    go_wp2_with fail
    refine CH.out.mono ?_
    rintro e w3 ⟨rfl, t3, -⟩
    have CF := hide (t9_find (st := gp f 1) t3 n (f * 512) hn (by omega) (gp_first f n z3' z4'))
    rw [HM.out, show ((f * 512 : Nat) : Int) = F * 512 by have := HF.out; omega] at CF
    clear CH t3
    go_wp2_with fail
    refine CF.out.mono ?_
    rintro e w4 ⟨rfl, t4, -⟩
    have CA := hide (t9_alloc t4 n (f * 512) hn (by omega) (gp_first f n z3' z4'))
    obtain ⟨x, hx⟩ : ∃ x, (tl (gp f 1) (f * 512) n).r = x := ⟨_, rfl⟩
    rw [HM.out, hx, show ((f * 512 : Nat) : Int) = F * 512 by have := HF.out; omega] at CA
    clear CF t4 hx
    go_wp2_with fail
    refine CA.out.mono ?_
    rintro e w5 ⟨rfl, t5, -⟩
    have CR := hide (t9_free t5)
    rw [gp_left f n z3' z4' (by omega), show ((1024 - n : Nat) : Int) = 1024 - M by have := HM.out; omega] at CR
    clear CA t5
    go_wp2_with fail
    refine CR.out.mono ?_
    rintro e w7 ⟨rfl, t7, -⟩
    have CW := hide (awake_any t7.tab)
    have B7 := hide t7.be
    have L7 := hide t7.tr.lt.2.2
    clear CR t7
    go_wp2_with fail
    refine CW.out.mono ?_
    rintro e w8 ⟨rfl, b8⟩
    have B8 := hide (B7.out.trans (b8.mono L7.out))
    clear CW b8
    go_wp2_with fail
    go_ret
    exact ⟨rfl, B8.out⟩
theorem gaps_int (w : World) (ht : TabW w) (a0 : Int) (w0 : (Lit.int .u64 a0).wf = true) (a1 : Bool) (a2 : Int) (w2 : (Lit.int .u64 a2).wf = true) :
    Calls Tryd.prog 3 #[.int .u64 a0, .bool a1, .int .u64 a2] w fun e w' => e = .returned (.bool true) ∧ Below w.heap.size w w' := by
  have b0 := bounds_u64 w0
  have b2 := bounds_u64 w2
  have h := gaps_any w ht a0.toNat a2.toNat a1 (by omega) (by omega)
  rw [Int.toNat_of_nonneg b0.1, Int.toNat_of_nonneg b2.1] at h
  exact h
end Go.Proofs.YtnpimmjkmclkpaaDoor
