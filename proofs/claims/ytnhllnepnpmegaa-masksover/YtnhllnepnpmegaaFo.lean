/- The forms of package masks: things' strip: contract. -/
import Derived.Test.YtnhllnepnpmegaaFn
namespace Go.Proofs.Ytnhllnepnpmegaa
open Go.ChangeShapes Go.WideShapes Go.ChangeAt Go.RowKit Go.Shelf Go.Proofs.Rx Go.Maps Go.Proofs.Bt
set_option linter.unusedVariables false
set_option linter.unusedSimpArgs false

attribute [local go_sem] Oper.semAt_some

theorem shl1 (r : Nat) (h : 2 ^ r < 18446744073709551616) : IntKind.u64.wrap ((2 : Int) ^ r) = (2 : Int) ^ r := by
  have e : ((2 : Int) ^ r) = ((2 ^ r : Nat) : Int) := by simp
  rw [IntKind.wrap_u64, e]
  generalize 2 ^ r = x at *
  omega
theorem pow64 {r : Nat} (h : r < 64) : 2 ^ r < 18446744073709551616 := Nat.pow_lt_pow_right (m := r) (n := 64) (by decide) h
section
variable {W W' : World} {b sb fi wds n : Nat} {mb : Nat → Bool}
/-- The strip so far. -/
def sofar (fi wds n : Nat) (mb : Nat → Bool) (S y : Nat) : Nat := wd (fun k => thF fi wds n mb (64 * S + k) && decide (64 * S + k < y)) 64
set_option maxRecDepth 100000 in
set_option maxHeartbeats 1000000 in
theorem thstrip_any (h : ThAt W b sb fi wds n mb) (S : Nat) (hS : S < 549755813888) : Calls Try.prog 69 #[.pointer (some ⟨b, 0, none⟩), .int .u64 ((64 * S : Nat) : Int)] W fun e W' => e = .returned (.int .u64 (wd (fun k => thF fi wds n mb (64 * S + k)) 64 : Nat)) ∧ ∃ j, W' = W.drewN j := by
  obtain ⟨R, hR⟩ : ∃ R : Ending → World → Prop, R = fun e W' => e = .returned (.int .u64 (wd (fun k => thF fi wds n mb (64 * S + k)) 64 : Nat)) ∧ ∃ j, W' = W.drewN j := ⟨_, rfl⟩
  rw [← hR]
  have w1 := h.w1
  have w2 := h.w2
  have lim := h.lim
  obtain ⟨lo, hlo⟩ : ∃ x, x = max (64 * S) fi := ⟨_, rfl⟩
  obtain ⟨hi, hhi⟩ : ∃ x, x = min (64 * S + 64) (fi + n * wds) := ⟨_, rfl⟩
  have FIN := hide (show ∀ y j, hi ≤ y → R (.returned (.int .u64 (sofar fi wds n mb S y : Nat))) (W.drewN j) from fun y j hy => by
    rw [hR]
    refine ⟨?_, j, rfl⟩
    congr 3
    refine wd_congr fun k hk => ?_
    show (thF fi wds n mb (64 * S + k) && decide (64 * S + k < y)) = _
    unfold thF
    by_cases c : 64 * S + k < y
    · rw [decide_eq_true c, Bool.and_true]
    · rw [decide_eq_false c, Bool.and_false]; rw [decide_eq_false (by omega)]; rfl)
  have BEG := hide (show sofar fi wds n mb S lo = 0 from wd_none fun k hk => by
    unfold thF
    by_cases c : 64 * S + k < lo
    · rw [show decide (fi ≤ 64 * S + k ∧ 64 * S + k < fi + n * wds) = false from decide_eq_false (by omega)]; rfl
    · rw [decide_eq_false c, Bool.and_false])
  have NXT := hide (show ∀ y, lo ≤ y → y < hi → sofar fi wds n mb S (y + 1) = if mb ((y - fi) % wds) then sofar fi wds n mb S y ||| 2 ^ (y - 64 * S) else sofar fi wds n mb S y from fun y h1 h2 => by
    have et : thF fi wds n mb y = mb ((y - fi) % wds) := by unfold thF; rw [decide_eq_true (by omega), Bool.true_and]
    split
    · rename_i c
      unfold sofar
      rw [wd_pow _ _ (by omega)]
      refine wd_congr fun k hk => ?_
      by_cases e : k = y - 64 * S
      · rw [decide_eq_true e, Bool.or_true, show 64 * S + k = y by omega, et, c, decide_eq_true (by omega)]; rfl
      · rw [decide_eq_false e, Bool.or_false]
        congr 1
        rw [Bool.eq_iff_iff]; simp; omega
    · rename_i c
      refine wd_congr fun k hk => ?_
      by_cases e : k = y - 64 * S
      · rw [show 64 * S + k = y by omega, et]; simp at c; rw [c]; simp
      · congr 1
        rw [Bool.eq_iff_iff]; simp; omega)
  have LT := hide (show ∀ y, sofar fi wds n mb S y < 18446744073709551616 from fun y => wd_lt _ (Nat.le_refl _))
  have HH := hide h
  have CE := hide (fun j => end_any (h.below (drewN_below W j)))
  have TH := hide (fun (W1 : World) (h1 : ThAt W1 b sb fi wds n mb) => And.intro (show W1.cell? ⟨b, 0, none⟩ = some (.int .u64 (fi : Nat)) from h1.bk.cell 0 _ rfl) (show W1.cell? ⟨b, 1, none⟩ = some (.int .u64 (wds : Nat)) from h1.bk.cell 1 _ rfl))
  have CH := hide (show ∀ (W1 : World) (h1 : ThAt W1 b sb fi wds n mb) (y : Nat) (hy : fi ≤ y) (z : Int), z = (y : Int) → Calls Try.prog 71 #[.pointer (some ⟨b, 1, none⟩), .int .u64 ((z - (fi : Int)) % (wds : Int))] W1 fun e W' => e = .returned (.bool (mb ((y - fi) % wds))) ∧ ∃ j, W' = W1.drewN j from fun W1 h1 y hy z hz => by
    have hmod : (y - fi) % wds < wds := Nat.mod_lt _ (by omega)
    have e : ((z - (fi : Int)) % (wds : Int)) = (((y - fi) % wds : Nat) : Int) := by rw [hz, Int.natCast_emod, Int.natCast_sub hy]
    rw [e]
    exact has_any (h1.bk.cell 3 _ rfl) h1.row (by omega) _ (by omega))
  have c0 : W.cell? ⟨b, 0, none⟩ = some (.int .u64 (fi : Nat)) := h.bk.cell 0 _ rfl
  obtain ⟨E, hE⟩ : ∃ X : Int, ((fi + n * wds : Nat) : Int) = X := ⟨_, rfl⟩
  obtain ⟨FI, hFI⟩ : ∃ X : Int, (fi : Int) = X := ⟨_, rfl⟩
  obtain ⟨WD, hWD⟩ : ∃ X : Int, (wds : Int) = X := ⟨_, rfl⟩
  obtain ⟨X, hX⟩ : ∃ X : Int, ((64 * S : Nat) : Int) = X := ⟨_, rfl⟩
  obtain ⟨LO, hLO⟩ : ∃ X : Int, (lo : Int) = X := ⟨_, rfl⟩
  obtain ⟨HI, hHI⟩ : ∃ X : Int, (hi : Int) = X := ⟨_, rfl⟩
  have d0 : (WD == 0) = false := by rw [beq_eq_false_iff_ne]; omega
  have dz : (WD = 0) = False := by simp; omega
  have d1 : 1 ≤ WD := by omega
  have d2 : WD ≤ 65536 := by omega
  have x0 : 0 ≤ X := by omega
  have x1 : X ≤ 35184372088832 := by omega
  have f0 : 0 ≤ FI := by omega
  have f1 : FI ≤ 35184372088832 := by omega
  have e0 : FI ≤ E := by omega
  have e1 : E ≤ 35184372088832 := by omega
  have MX := hide (show (X < FI ∧ FI = LO) ∨ (FI ≤ X ∧ X = LO) by omega)
  have MN := hide (show (E < X + 64 ∧ E = HI) ∨ (X + 64 ≤ E ∧ X + 64 = HI) by omega)
  have LH := hide (show X ≤ LO ∧ FI ≤ LO ∧ HI ≤ X + 64 ∧ HI ≤ E ∧ LO ≤ 35184372088832 by omega)
  have NN := hide (And.intro hX (And.intro hLO (And.intro hHI hFI)))
  rw [hFI] at c0
  simp only [hE] at CE
  simp only [hFI, hWD] at CH TH
  rw [hX]
  clear hFI hWD hX hE hLO hHI hlo hhi hR h w1 w2 lim hS
  go_enter Try.func69, Try.ntmps69
  go_wp2_with fail
  go_quiet (first | (go_at_call 68; refine Calls.quiet_of (CE.out _)))
  go_wp2_with fail
  all_goals
    clear CE c0
    have mx := MX.out
    have mn := MN.out
    have lh := LH.out
    have nn := NN.out
    first
      | (have v : E = HI := by omega
         rw [v])
      | (have v : X + 64 = HI := by omega
         rw [v])
    have l1 : HI ≤ 35184372088896 := by omega
    have l2 := lh.1
    have l3 := lh.2.1
    have l4 := lh.2.2.1
    clear v mx mn lh
    go_loopw [7, 8] (fun vs vy wr => ∃ y : Nat, vy = .int .u64 (y : Nat) ∧ vs = .int .u64 (sofar fi wds n mb S y : Nat) ∧ lo ≤ y ∧ Hid (∃ j, wr = W.drewN j)) (fun vs vy _ => hi - (zi vy).toNat)
    case atStart => exact ⟨lo, by have mx := MX.out; congr 1; omega, by rw [BEG.out]; rfl, Nat.le_refl _, hide ⟨_, rfl⟩⟩
    case round =>
      obtain ⟨y, rfl, rfl, hy, HJ⟩ := hrel
      obtain ⟨j, hj⟩ := HJ.out
      obtain ⟨Y, hY⟩ : ∃ Y : Int, (y : Int) = Y := ⟨_, rfl⟩
      obtain ⟨v, hv⟩ : ∃ v, sofar fi wds n mb S y = v := ⟨_, rfl⟩
      have vl := LT.out y
      rw [hv] at vl ⊢
      rw [hY]
      have y0 : LO ≤ Y := by omega
      by_cases c : y < hi
      · have d : decide (Y < HI) = true := decide_eq_true (by omega)
        have H1 := hide (show ThAt wr b sb fi wds n mb from by rw [hj]; exact HH.out.below (drewN_below W j))
        obtain ⟨z0, z1⟩ := TH.out wr H1.out
        have C1 := fun i => CH.out (wr.drewN i) (H1.out.below (drewN_below wr i)) y (by omega) Y hY.symm
        have HC1 := hide C1
        have NX := hide (NXT.out y hy c)
        have NL := hide (LT.out (y + 1))
        have y1 : Y < 35184372088896 := by omega
        have t1 : 0 ≤ Y - FI := by omega
        have t2 : 0 ≤ (Y - FI) % WD := Int.emod_nonneg _ (by omega)
        have t3 : (Y - FI) % WD < 65536 := by have := Int.emod_lt_of_pos (Y - FI) (show 0 < WD by omega); omega
        have t4 : (Y - FI).tmod WD = (Y - FI) % WD := Int.tmod_eq_emod_of_nonneg t1
        have HY := hide hY
        have HV := hide hv
        have HJ2 := hide hj
        have r64 : y - 64 * S < 64 := by omega
        have tn : (Y - X).toNat = y - 64 * S := by omega
        generalize hr : y - 64 * S = r at *
        have w1 := shl1 r (pow64 r64)
        have wo : bits .or .u64 (v : Int) ((2 : Int) ^ r) = ((v ||| 2 ^ r : Nat) : Int) := by rw [show ((2 : Int) ^ r) = ((2 ^ r : Nat) : Int) by simp]; exact w_or v (2 ^ r) vl (pow64 r64)
        clear hY hv hj C1 nn hr
        by_cases cb : mb ((y - fi) % wds) = true
        · have C1 := HC1.out
          rw [cb] at C1
          have HC1 := hide C1
          clear C1
          have nx := NX.out
          rw [if_pos cb, HV.out] at nx
          have NX := hide nx
          clear nx cb
          go_wp2_with fail
          go_quiet (first | (go_at_call 71; refine Calls.quiet_of (HC1.out _)))
          go_wp2_with fail
          exact ⟨⟨y + 1, by rw [Int.natCast_add, HY.out]; rfl, by rw [NX.out], by omega, hide ⟨j + nq, by rw [HJ2.out, World.drewN_drewN]⟩⟩, by have := HY.out; simp [zi]; omega⟩
        · have cb' : mb ((y - fi) % wds) = false := by simpa using cb
          have C1 := HC1.out
          rw [cb'] at C1
          have HC1 := hide C1
          clear C1
          have nx := NX.out
          rw [if_neg cb, HV.out] at nx
          have NX := hide nx
          clear nx cb cb'
          go_wp2_with fail
          go_quiet (first | (go_at_call 71; refine Calls.quiet_of (HC1.out _)))
          go_wp2_with fail
          exact ⟨⟨y + 1, by rw [Int.natCast_add, HY.out]; rfl, by rw [NX.out], by omega, hide ⟨j + nq, by rw [HJ2.out, World.drewN_drewN]⟩⟩, by have := HY.out; simp [zi]; omega⟩
      · have d : decide (Y < HI) = false := decide_eq_false (by omega)
        have F := FIN.out y j (by omega)
        rw [← hj, hv] at F
        have HF := hide F
        clear F hY hv hj nn
        go_wp2_with fail
        first | exact HF.out | (go_ret; exact HF.out)
end
end Go.Proofs.Ytnhllnepnpmegaa
