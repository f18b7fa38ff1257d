/- The forms of package masks: things: contracts. -/
import Derived.Test.YtnhllnepnpmegaaFm
namespace Go.Proofs.Ytnhllnepnpmegaa
open Go.ChangeShapes Go.WideShapes Go.ChangeAt Go.RowKit Go.Shelf Go.Proofs.Rx Go.Maps Go.Proofs.Bt
set_option linter.unusedVariables false
set_option linter.unusedSimpArgs false

attribute [local go_sem] Oper.semAt_some

/-- Things at block b, their mask's strips at block sb. -/
structure ThAt (W : World) (b sb fi wds n : Nat) (mb : Nat → Bool) : Prop where
  bk : Bk W b 76 #[.int .u64 (fi : Nat), .int .u64 (wds : Nat), .int .u64 (cnt mb 0 wds : Nat), .slice (some ⟨sb, 0, none⟩) ((wds + 63) / 64) ((wds + 63) / 64), .int .u64 (n : Nat)]
  row : Vec W sb ((wds + 63) / 64) 31 (strips mb)
  w1 : 1 ≤ wds
  w2 : wds ≤ 65536
  lim : fi + n * wds ≤ 35184372088832
section
variable {W W' : World} {b sb fi wds n : Nat} {mb : Nat → Bool}
theorem ThAt.kept {F : Nat → Prop} (h : ThAt W b sb fi wds n mb) (k : Kept F W W') (h1 : ¬ F b) (h2 : ¬ F sb) : ThAt W' b sb fi wds n mb := ⟨h.bk.kept k h1, h.row.kept k h2, h.w1, h.w2, h.lim⟩
theorem ThAt.below (h : ThAt W b sb fi wds n mb) (k : Below W.heap.size W W') : ThAt W' b sb fi wds n mb := ⟨h.bk.below k, h.row.below k, h.w1, h.w2, h.lim⟩
theorem end_any (h : ThAt W b sb fi wds n mb) : Calls Try.prog 68 #[.pointer (some ⟨b, 0, none⟩)] W fun e W' => e = .returned (.int .u64 ((fi + n * wds : Nat) : Int)) ∧ ∃ j, W' = W.drewN j := by
  have c0 : W.cell? ⟨b, 0, none⟩ = some (.int .u64 (fi : Nat)) := h.bk.cell 0 _ rfl
  have c1 : W.cell? ⟨b, 1, none⟩ = some (.int .u64 (wds : Nat)) := h.bk.cell 1 _ rfl
  have c4 : W.cell? ⟨b, 4, none⟩ = some (.int .u64 (n : Nat)) := h.bk.cell 4 _ rfl
  have lim := h.lim
  have e : ((fi + n * wds : Nat) : Int) = (fi : Int) + (n : Int) * (wds : Int) := by rw [Int.natCast_add, Int.natCast_mul]
  have p : ((n * wds : Nat) : Int) = (n : Int) * (wds : Int) := by rw [Int.natCast_mul]
  rw [e]
  obtain ⟨FI, hFI⟩ : ∃ X : Int, (fi : Int) = X := ⟨_, rfl⟩
  obtain ⟨WD, hWD⟩ : ∃ X : Int, (wds : Int) = X := ⟨_, rfl⟩
  obtain ⟨N, hN⟩ : ∃ X : Int, (n : Int) = X := ⟨_, rfl⟩
  rw [hFI] at c0 ⊢
  rw [hWD] at c1 p ⊢
  rw [hN] at c4 p ⊢
  have m0 : 0 ≤ N * WD := by omega
  have m1 : N * WD < 18446744073709551616 := by omega
  have m2 : 0 ≤ FI + N * WD := by omega
  have m3 : FI + N * WD < 18446744073709551616 := by omega
  clear hFI hWD hN e p lim h
  go_enter Try.func68, Try.ntmps68
  go_wp2_with fail
  go_quiet (fail)
  go_wp2_with fail
  go_ret
  exact ⟨rfl, _, rfl⟩
set_option maxRecDepth 100000 in
theorem thahead_any (h : ThAt W b sb fi wds n mb) (x : Nat) (hx : x ≤ 70368744177664) : Calls Try.prog 70 #[.pointer (some ⟨b, 0, none⟩), .int .u64 (x : Nat)] W fun e W' => e = .returned (.int .u64 (cto (thF fi wds n mb) x : Nat)) ∧ ∃ j, W' = W.drewN j := by
  have w1 := h.w1
  have w2 := h.w2
  have lim := h.lim
  have c0 : W.cell? ⟨b, 0, none⟩ = some (.int .u64 (fi : Nat)) := h.bk.cell 0 _ rfl
  have c1 : W.cell? ⟨b, 1, none⟩ = some (.int .u64 (wds : Nat)) := h.bk.cell 1 _ rfl
  have c2 : W.cell? ⟨b, 2, none⟩ = some (.int .u64 (cnt mb 0 wds : Nat)) := h.bk.cell 2 _ rfl
  obtain ⟨m, hm⟩ : ∃ m, m = min (max x fi) (fi + n * wds) - fi := ⟨_, rfl⟩
  have hv := th_cto fi wds n mb (by omega) x m hm
  have hle := cto_le (thF fi wds n mb) x
  have CE := fun j => end_any (h.below (drewN_below W j))
  have hmod : m % wds < wds := Nat.mod_lt _ (by omega)
  have CM := fun (W1 : World) (h1 : ThAt W1 b sb fi wds n mb) => mahead_any (W := W1) (b := b) (sb := sb) (L := (wds + 63) / 64) (mb := mb) (h1.bk.cell 3 _ rfl) h1.row (by omega) (m % wds) (by omega)
  have TH := hide (fun (W1 : World) (h1 : ThAt W1 b sb fi wds n mb) => And.intro (show W1.cell? ⟨b, 1, none⟩ = some (.int .u64 (wds : Nat)) from h1.bk.cell 1 _ rfl) (show W1.cell? ⟨b, 2, none⟩ = some (.int .u64 (cnt mb 0 wds : Nat)) from h1.bk.cell 2 _ rfl))
  have HH := hide h
  rw [hv] at hle ⊢
  rw [Int.natCast_add, Int.natCast_mul, Int.natCast_ediv]
  have hq : ((m / wds : Nat) : Int) = (m : Int) / (wds : Int) := Int.natCast_ediv _ _
  have hr : ((m % wds : Nat) : Int) = (m : Int) % (wds : Int) := Int.natCast_emod _ _
  have hcast : ((m / wds * cnt mb 0 wds + cnt mb 0 (m % wds) : Nat) : Int) = (m : Int) / (wds : Int) * ((cnt mb 0 wds : Nat) : Int) + ((cnt mb 0 (m % wds) : Nat) : Int) := by rw [Int.natCast_add, Int.natCast_mul, hq]
  have hp0 : (((m / wds * cnt mb 0 wds) : Nat) : Int) = (m : Int) / (wds : Int) * ((cnt mb 0 wds : Nat) : Int) := by rw [Int.natCast_mul, hq]
  simp only [hr] at CM
  obtain ⟨CV, hCV⟩ : ∃ X : Int, ((cnt mb 0 (m % wds) : Nat) : Int) = X := ⟨_, rfl⟩
  obtain ⟨PT, hPT⟩ : ∃ X : Int, ((cnt mb 0 wds : Nat) : Int) = X := ⟨_, rfl⟩
  obtain ⟨E, hE⟩ : ∃ X : Int, ((fi + n * wds : Nat) : Int) = X := ⟨_, rfl⟩
  obtain ⟨FI, hFI⟩ : ∃ X : Int, (fi : Int) = X := ⟨_, rfl⟩
  obtain ⟨WD, hWD⟩ : ∃ X : Int, (wds : Int) = X := ⟨_, rfl⟩
  obtain ⟨M, hM⟩ : ∃ X : Int, (m : Int) = X := ⟨_, rfl⟩
  obtain ⟨X, hX⟩ : ∃ X : Int, (x : Int) = X := ⟨_, rfl⟩
  have p1 : 0 ≤ (m : Int) / (wds : Int) * ((cnt mb 0 wds : Nat) : Int) := by omega
  have p2 : (m : Int) / (wds : Int) * ((cnt mb 0 wds : Nat) : Int) < 18446744073709551616 := by omega
  have cv0 : 0 ≤ CV := by omega
  have p3 : (m : Int) / (wds : Int) * ((cnt mb 0 wds : Nat) : Int) + CV < 18446744073709551616 := by omega
  have d0 : (WD == 0) = false := by rw [beq_eq_false_iff_ne]; omega
  have d1 : 1 ≤ WD := by omega
  have x0 : 0 ≤ X := by omega
  have x1 : X ≤ 70368744177664 := by omega
  have f0 : 0 ≤ FI := by omega
  have f1 : FI ≤ 35184372088832 := by omega
  have e0 : FI ≤ E := by omega
  have e1 : E ≤ 35184372088832 := by omega
  have m0 : 0 ≤ M := by omega
  have m1 : M ≤ 35184372088832 := by omega
  have d2 : WD ≤ 65536 := by omega
  have dz : (WD = 0) = False := by simp; omega
  have q0 : 0 ≤ M / WD := Int.ediv_nonneg m0 (by omega)
  have q1 : M / WD ≤ M := Int.ediv_le_self _ m0
  have r0 : 0 ≤ M % WD := Int.emod_nonneg _ (by omega)
  have r1 : M % WD < 65536 := by have := Int.emod_lt_of_pos M (show 0 < WD by omega); omega
  have wq : IntKind.u64.wrap (M / WD) = M / WD := by rw [IntKind.wrap_u64]; omega
  have td : M.tdiv WD = M / WD := Int.tdiv_eq_ediv_of_nonneg m0
  have tm : M.tmod WD = M % WD := Int.tmod_eq_emod_of_nonneg m0
  have MV := hide (show (X < FI ∧ M = 0) ∨ (FI ≤ X ∧ X < E ∧ M = X - FI) ∨ (FI ≤ X ∧ E ≤ X ∧ M = E - FI) by omega)
  rw [hFI] at c0
  rw [hWD] at c1 p1 p2 p3
  rw [hPT] at c2 p1 p2 p3
  rw [hM] at p1 p2 p3
  simp only [hE] at CE
  simp only [hCV, hM, hWD] at CM
  simp only [hPT, hWD] at TH
  rw [hX, hM, hWD, hPT, hCV]
  have HCE := hide CE
  have HCM := hide CM
  clear hFI hWD hM hX hE hPT hCV CE CM hp0 hcast hq hr hm hv hle hmod w1 w2 lim h hx
  go_enter Try.func70, Try.ntmps70
  go_wp2_with fail
  go_quiet (first | (go_at_call 68; refine Calls.quiet_of (HCE.out _)))
  have H1 := hide (HH.out.below (drewN_below W nq))
  have NQ := hide (show ∃ j, W.drewN nq = W.drewN j from ⟨nq, rfl⟩)
  generalize W.drewN nq = W1 at *
  obtain ⟨y1, y2⟩ := TH.out W1 H1.out
  have CM := fun j => HCM.out (W1.drewN j) (H1.out.below (drewN_below W1 j))
  clear HCM
  have HCM := hide CM
  clear CM c0 c1 c2 HCE HH H1 TH
  go_wp2_with fail
  · have e : E - FI = M := by have := MV.out; omega
    rw [e]
    clear e MV
    go_wp2_with fail
    go_quiet (first | (go_at_call 72; refine Calls.quiet_of (HCM.out _)))
    go_wp2_with fail
    go_ret
    refine ⟨by first | rfl | simp, ?_⟩
    obtain ⟨j, hj⟩ := NQ.out
    exact ⟨_, by rw [hj, World.drewN_drewN]⟩
  · obtain rfl : M = 0 := by have := MV.out; omega
    have CM := HCM.out
    simp only [Int.zero_emod] at CM
    have HCM := hide CM
    simp only [Int.zero_ediv, Int.zero_mul, Int.zero_add] at p1 p2 p3 ⊢
    clear CM MV p1 p2
    go_wp2_with fail
    go_quiet (first | (go_at_call 72; refine Calls.quiet_of (HCM.out _)))
    go_wp2_with fail
    go_ret
    refine ⟨by first | rfl | simp, ?_⟩
    obtain ⟨j, hj⟩ := NQ.out
    exact ⟨_, by rw [hj, World.drewN_drewN]⟩
  · have e : X - FI = M := by have := MV.out; omega
    rw [e]
    clear e MV
    go_wp2_with fail
    go_quiet (first | (go_at_call 72; refine Calls.quiet_of (HCM.out _)))
    go_wp2_with fail
    go_ret
    refine ⟨by first | rfl | simp, ?_⟩
    obtain ⟨j, hj⟩ := NQ.out
    exact ⟨_, by rw [hj, World.drewN_drewN]⟩
theorem thcount_any (h : ThAt W b sb fi wds n mb) (x y : Nat) (hxy : x ≤ y) (hy : y ≤ 70368744177664) : Calls Try.prog 67 #[.pointer (some ⟨b, 0, none⟩), .int .u64 (x : Nat), .int .u64 (y : Nat)] W fun e W' => e = .returned (.int .u64 (cnt (thF fi wds n mb) x (y - x) : Nat)) ∧ ∃ j, W' = W.drewN j := by
  have C1 := fun j => thahead_any (h.below (drewN_below W j)) x (by omega)
  have C2 := thahead_any h y hy
  have m := cto_mono (thF fi wds n mb) hxy
  have l := cto_le (thF fi wds n mb) y
  rw [cnt_cto _ hxy]
  obtain ⟨A, hA⟩ : ∃ X : Int, ((cto (thF fi wds n mb) x : Nat) : Int) = X := ⟨_, rfl⟩
  obtain ⟨B, hB⟩ : ∃ X : Int, ((cto (thF fi wds n mb) y : Nat) : Int) = X := ⟨_, rfl⟩
  rw [Int.natCast_sub m, hA, hB]
  simp only [hA] at C1
  rw [hB] at C2
  have a0 : 0 ≤ A := by omega
  have a1 : A ≤ B := by omega
  have a2 : B ≤ 70368744177664 := by omega
  have HC1 := hide C1
  have HC2 := hide C2
  clear C1 C2 hA hB m l h hxy hy
  go_enter Try.func67, Try.ntmps67
  go_wp2_with fail
  refine HC2.out.mono ?_
  rintro e W1 ⟨rfl, j, hj⟩
  rw [hj]
  clear hj
  go_wp2_with fail
  refine (HC1.out j).mono ?_
  rintro e W2 ⟨rfl, k, hk⟩
  rw [hk, World.drewN_drewN]
  clear hk
  go_wp2_with fail
  go_ret
  exact ⟨rfl, _, rfl⟩
end
end Go.Proofs.Ytnhllnepnpmegaa
