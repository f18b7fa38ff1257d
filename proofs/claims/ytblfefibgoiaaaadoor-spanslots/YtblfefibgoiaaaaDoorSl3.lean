/- SpanSlots, walked. -/
import Derived.Test.YtblfefibgoiaaaaDoorZo
namespace Go.Proofs.YtblfefibgoiaaaaDoor
open Go.ChangeShapes Go.WideShapes Go.ChangeAt Go.RowKit Go.Proofs.Sn Go.Shelf
set_option linter.unusedVariables false
set_option linter.unusedSimpArgs false

set_option maxRecDepth 100000 in
set_option maxHeartbeats 1000000 in
theorem slots_in (k p a : Int) (hp0 : 0 ≤ p) (hp1 : p ≤ 18446744073709551615) (ha0 : 0 ≤ a) (ha1 : a ≤ 18446744073709551615) (w : World) (hT : TabW w) :
    Calls Tryd.prog 5 #[.int .i64 k, .int .u64 p, .int .u64 a] w fun e w' => e = .returned (.bool true) ∧ Below w.heap.size w w' := by
  obtain ⟨R, hR⟩ : ∃ R : Ending → World → Prop, R = fun e w' => e = .returned (.bool true) ∧ Below w.heap.size w w' := ⟨_, rfl⟩
  rw [← hR]
  have FIN := hide (show ∀ W, Below w.heap.size w W → R (.returned (.bool true)) W from fun W h => by rw [hR]; exact ⟨rfl, h⟩)
  clear hR
  have HT := hide hT
  clear hT
  by_cases c1 : k < 1
  · have dc1 : decide (k < 1) = true := decide_eq_true c1
    go_enter Tryd.func5, Tryd.ntmps5
    go_wp2_with fail
    refine (table_any _).mono ?_
    rintro e W1 ⟨g, cap, rfl, o1, b1⟩
    have CW := hide (awake13 W1 (HT.out.below HT.out.lt b1))
    have B1 := hide b1
    clear o1 b1
    go_wp2_with fail
    refine CW.out.mono ?_
    rintro e W2 ⟨rfl, b2⟩
    have FF := hide (FIN.out W2 (B1.out.trans (b2.mono B1.out.size)))
    clear CW b2
    go_wp2_with fail
    first | exact FF.out | (go_ret; exact FF.out)
  have dc1 : decide (k < 1) = false := decide_eq_false c1
  by_cases c2 : 68 ≤ k
  · have dc2 : decide (68 ≤ k) = true := decide_eq_true c2
    go_enter Tryd.func5, Tryd.ntmps5
    go_wp2_with fail
    refine (table_any _).mono ?_
    rintro e W1 ⟨g, cap, rfl, o1, b1⟩
    have CW := hide (awake13 W1 (HT.out.below HT.out.lt b1))
    have B1 := hide b1
    clear o1 b1
    go_wp2_with fail
    refine CW.out.mono ?_
    rintro e W2 ⟨rfl, b2⟩
    have FF := hide (FIN.out W2 (B1.out.trans (b2.mono B1.out.size)))
    clear CW b2
    go_wp2_with fail
    first | exact FF.out | (go_ret; exact FF.out)
  have dc2 : decide (68 ≤ k) = false := decide_eq_false c2
  obtain ⟨K, rfl⟩ : ∃ K : Nat, k = K := ⟨k.toNat, by omega⟩
  obtain ⟨cl, hcl⟩ := table_some (k := K) (by omega)
  have HC := hide hcl
  have TF := hide (table_at (by omega) hcl)
  have K1 : (K : Int) < 68 := by omega
  have K0 : (0 : Int) ≤ (K : Int) := by omega
  have K2 : 1 ≤ K := by omega
  clear hcl
  by_cases c3 : 17179869184 < p
  · have dc3 : decide (17179869184 < p) = true := decide_eq_true c3
    go_enter Tryd.func5, Tryd.ntmps5
    go_wp2_with fail
    refine (table_any _).mono ?_
    rintro e W1 ⟨g, cap, rfl, o1, b1⟩
    have CW := hide (awake13 W1 (HT.out.below HT.out.lt b1))
    have B1 := hide b1
    clear o1 b1
    go_wp2_with fail
    refine CW.out.mono ?_
    rintro e W2 ⟨rfl, b2⟩
    have FF := hide (FIN.out W2 (B1.out.trans (b2.mono B1.out.size)))
    clear CW b2
    go_wp2_with fail
    first | exact FF.out | (go_ret; exact FF.out)
  have dc3 : decide (17179869184 < p) = false := decide_eq_false c3
  obtain ⟨t1, t2, t3, t4, t5, t6, t7, t8⟩ := TF.out
  obtain ⟨pn, hpn⟩ : ∃ pn : Nat, p = pn := ⟨p.toNat, by omega⟩
  obtain ⟨an, han⟩ : ∃ an : Nat, a = an := ⟨a.toNat, by omega⟩
  obtain ⟨B, hB⟩ : ∃ B : Int, (cl.pages : Int) * 8192 = B := ⟨_, rfl⟩
  obtain ⟨P8, hP⟩ : ∃ P8 : Int, p * 8192 = P8 := ⟨_, rfl⟩
  obtain ⟨r, hr⟩ : ∃ r : Nat, an % (cl.pages * 8192) = r := ⟨_, rfl⟩
  obtain ⟨T, hT⟩ : ∃ T : Int, (cl.slots : Int) * (cl.size : Int) = T := ⟨_, rfl⟩
  have r1 : r < cl.pages * 8192 := by rw [← hr]; exact Nat.mod_lt _ (by omega)
  have hTn : ((cl.slots * cl.size : Nat) : Int) = T := by rw [← hT]; push_cast; rfl
  have wq : IntKind.u64.wrap (cl.pages : Int) = (cl.pages : Int) := by rw [IntKind.wrap_u64]; omega
  have wB : IntKind.u64.wrap ((cl.pages : Int) * 8192) = B := by rw [IntKind.wrap_u64]; omega
  have wP : IntKind.u64.wrap (p * 8192) = P8 := by rw [IntKind.wrap_u64]; omega
  have m1 : a % B = (r : Int) := by rw [← hr, han, ← hB]; push_cast; rfl
  have m2 : a.tmod B = (r : Int) := by rw [Int.tmod_eq_emod_of_nonneg ha0]; exact m1
  have B0 : 0 < B := by omega
  have zB : (B == 0) = false := by simp; omega
  obtain ⟨X, hX⟩ : ∃ X : Int, P8 + (r : Int) = X := ⟨_, rfl⟩
  have wX : IntKind.u64.wrap (P8 + (r : Int)) = X := by rw [IntKind.wrap_u64]; omega
  have wT : IntKind.i64.wrap ((cl.slots : Int) * (cl.size : Int)) = T := by rw [IntKind.wrap_i64]; omega
  have wT2 : IntKind.u64.wrap T = T := by rw [IntKind.wrap_u64]; omega
  have wz : IntKind.u64.wrap (cl.size : Int) = (cl.size : Int) := by rw [IntKind.wrap_u64]; omega
  have wE : IntKind.u64.wrap (P8 + B) = P8 + B := by rw [IntKind.wrap_u64]; omega
  have C0 := hide (fun W (O : Nat → Prop) (ho : ∀ z, O z → w.heap.size ≤ z ∧ z < W.heap.size) (b : Below w.heap.size w W) => ls_new (N := w.heap.size) (w := w) (W := W) O ho b b.size (HT.out.below HT.out.lt b) HT.out.lt pn cl.pages (K : Int) true cl.size (rp_class K2 HC.out (by omega)) (elem_class K2 (by omega) HC.out))
  rw [← hpn, Int.toNat_natCast] at C0
  have GS := slots_class (page := pn) (cls := K) (noptr := true) K2 HC.out
  have GB : (geo pn cl.pages K true cl.size).base = pn * 8192 := rfl
  have GE : (geo pn cl.pages K true cl.size).elem = cl.size := rfl
  obtain ⟨G, hG⟩ : ∃ G : Geo, geo pn cl.pages K true cl.size = G := ⟨_, rfl⟩
  rw [hG] at C0 GS GB GE
  have hXn : ((pn * 8192 + r : Nat) : Int) = X := by omega
  have DV := Nat.div_add_mod r cl.size
  have ML := Nat.mod_lt r (show 0 < cl.size by omega)
  clear hG
  have Qhpn := hide hpn
  have Qhan := hide han
  have QhB := hide hB
  have QhP := hide hP
  have Qhr := hide hr
  have QhT := hide hT
  have Qr1 := hide r1
  have QhTn := hide hTn
  have QhX := hide hX
  have QhXn := hide hXn
  have QDV := hide DV
  have QML := hide ML
  have QGS := hide GS
  have QGB := hide GB
  have QGE := hide GE
  have Qm1 := hide m1
  have Qm2 := hide m2
  have QwX := hide wX
  have QwT := hide wT
  have QwT2 := hide wT2
  have QwE := hide wE
  have QwP := hide wP
  have QwB := hide wB
  have QB0 := hide B0
  have QzB := hide zB
  have Qhp1 := hide hp1
  have Qha0 := hide ha0
  have Qha1 := hide ha1
  have Qhp0 := hide hp0
  have Qt1 := hide t1
  have Qt3 := hide t3
  have Qt4 := hide t4
  have Qt5 := hide t5
  have Qt6 := hide t6
  have Qt7 := hide t7
  have Qt8 := hide t8
  clear hpn han hB hP hr hT r1 hTn hX hXn DV ML GS GB GE m1 m2 wX wT wT2 wE wP wB B0 zB hp1 ha0 ha1 hp0 t1 t3 t4 t5 t6 t7 t8
  go_enter Tryd.func5, Tryd.ntmps5
  go_wp2_with fail
  refine (table_any _).mono ?_
  rintro e W1 ⟨g, cap, rfl, o1, b1⟩
  obtain ⟨x0, x1, x2, x3⟩ := list_at o1 (by rw [List.length_cons, Cl.table_len]) K cl HC.out
  have bA := below_alloc W1 (.cells #[.int .i64 (cl.size : Nat), .int .i64 (cl.pages : Nat), .int .i64 (cl.slots : Nat), .int .u32 (cl.magic : Nat)] 54)
  have kA : Bk (W1.alloc (.cells #[.int .i64 (cl.size : Nat), .int .i64 (cl.pages : Nat), .int .i64 (cl.slots : Nat), .int .u32 (cl.magic : Nat)] 54)) W1.heap.size 54 #[.int .i64 (cl.size : Nat), .int .i64 (cl.pages : Nat), .int .i64 (cl.slots : Nat), .int .u32 (cl.magic : Nat)] := World.alloc_heap_new _ _
  have C1 := hide (C0.out _ (fun z => z = W1.heap.size) (fun z hz => by rw [hz, World.size_alloc]; exact ⟨b1.size, by omega⟩) (b1.trans (bA.mono b1.size)))
  have KA := hide kA
  clear o1 b1 C0 bA kA
  go_wp2_with fail
  refine C1.out.mono ?_
  rintro e W2 ⟨sb, rfl, l2, b2⟩
  have hpn := Qhpn.out
  have han := Qhan.out
  have hB := QhB.out
  have hP := QhP.out
  have hr := Qhr.out
  have hT := QhT.out
  have r1 := Qr1.out
  have hTn := QhTn.out
  have hX := QhX.out
  have hXn := QhXn.out
  have DV := QDV.out
  have ML := QML.out
  have GS := QGS.out
  have GB := QGB.out
  have GE := QGE.out
  have m1 := Qm1.out
  have m2 := Qm2.out
  have wX := QwX.out
  have wT := QwT.out
  have wT2 := QwT2.out
  have wE := QwE.out
  have wP := QwP.out
  have wB := QwB.out
  have B0 := QB0.out
  have zB := QzB.out
  have hp1 := Qhp1.out
  have ha0 := Qha0.out
  have ha1 := Qha1.out
  have hp0 := Qhp0.out
  have t1 := Qt1.out
  have t3 := Qt3.out
  have t4 := Qt4.out
  have t5 := Qt5.out
  have t6 := Qt6.out
  have t7 := Qt7.out
  have t8 := Qt8.out
  clear Qhpn Qhan QhB QhP Qhr QhT Qr1 QhTn QhX QhXn QDV QML QGS QGB QGE Qm1 Qm2 QwX QwT QwT2 QwE QwP QwB QB0 QzB Qhp1 Qha0 Qha1 Qhp0 Qt1 Qt3 Qt4 Qt5 Qt6 Qt7 Qt8
  have k2 := KA.out.below b2
  have y0 := k2.cell 0 _ rfl
  have y1 := k2.cell 1 _ rfl
  have y2 := k2.cell 2 _ rfl
  have P2 := hide l2
  have CW := hide (fun n => awake13 (W2.drewN n) (l2.tab.block rfl))
  have FX := hide (fun n W8 (b8 : Below (W2.drewN n).heap.size (W2.drewN n) W8) => FIN.out W8 ((l2.read (below_dN W2 n)).read b8).be)
  clear C1 b2 k2 x0 x1 x2 x3 KA
  by_cases c4 : cl.slots * cl.size ≤ r
  · have d4 : decide (T ≤ (r : Int)) = true := decide_eq_true (by omega)
    have CI := hide (ls_index_no l2 (pn * 8192 + r) (by omega) (by
      unfold idxV
      rw [if_neg]
      rw [GB, GE, GS, show pn * 8192 + r - pn * 8192 = r by omega]
      intro z
      have := (Nat.div_lt_iff_lt_mul (show 0 < cl.size by omega)).1 z.2
      omega))
    rw [hXn] at CI
    clear l2 t1 t2 t3 t4 t5 t6 t7 t8 hpn han hB hP hr hT r1 hTn hX GS GB GE hXn DV ML c4 wE
    go_wp2_with fail
    refine CI.out.mono ?_
    rintro e W3 ⟨rfl, j, hw⟩
    rw [hw]
    clear hw CI W3
    go_wp2_with fail
    go_quiet (fail)
    go_wp2_with fail
    refine (CW.out _).mono ?_
    rintro e W8 ⟨rfl, b8⟩
    have FF := hide (FX.out _ W8 b8)
    clear CW b8
    go_wp2_with fail
    first | exact FF.out | (go_ret; exact FF.out)
  · have d4 : decide (T ≤ (r : Int)) = false := decide_eq_false (by omega)
    obtain ⟨q, hq⟩ : ∃ q : Nat, r / cl.size = q := ⟨_, rfl⟩
    obtain ⟨s, hs⟩ : ∃ s : Nat, r % cl.size = s := ⟨_, rfl⟩
    rw [hq, hs] at DV
    rw [hs] at ML
    have q1 : q < cl.slots := by rw [← hq]; exact (Nat.div_lt_iff_lt_mul (by omega)).2 (by omega)
    have CI := hide (ls_index l2 (pn * 8192 + r) q (by omega) (by
      unfold idxV
      rw [GB, GE, GS, show pn * 8192 + r - pn * 8192 = r by omega, hq]
      exact if_pos ⟨by omega, q1⟩))
    rw [hXn] at CI
    obtain ⟨A, hA⟩ : ∃ A : Int, ((G.base + q * G.elem : Nat) : Int) = A := ⟨_, rfl⟩
    have hA2 : A = P8 + (cl.size * q : Nat) := by rw [← hA, GB, GE, Nat.mul_comm q]; omega
    have CS := hide (fun n => ls_slot (l2.read (below_dN W2 n)) q (by rw [GS]; exact q1))
    rw [hA] at CS
    have CN := hide (fun n => ls_slot_no (l2.read (below_dN W2 n)) (cl.slots : Int) (inB_false.2 (.inr (by omega))))
    have CE := hide (fun n => ls_index_no (l2.read (below_dN W2 n)) (pn * 8192 + cl.pages * 8192) (by omega) (by
      unfold idxV
      rw [if_neg]
      rw [GB, GE, GS, show pn * 8192 + cl.pages * 8192 - pn * 8192 = cl.pages * 8192 by omega]
      intro z
      omega))
    rw [show ((pn * 8192 + cl.pages * 8192 : Nat) : Int) = P8 + B by omega] at CE
    have d5 : decide (X < A) = false := decide_eq_false (by omega)
    have wS : IntKind.u64.wrap (X - A) = (s : Int) := by rw [IntKind.wrap_u64]; omega
    have d6 : decide (cl.size ≤ s) = false := decide_eq_false (by omega)
    have d6' : s < cl.size := by omega
    have wD : IntKind.u64.wrap (A - P8) = ((cl.size * q : Nat) : Int) := by
      rw [IntKind.wrap_u64, show A - P8 = ((cl.size * q : Nat) : Int) by omega]
      have : cl.size * q ≤ r := by omega
      omega
    have mo : (((cl.size * q : Nat) : Int)).tmod (cl.size : Int) = 0 := by rw [Int.tmod_eq_emod_of_nonneg (by omega)]; push_cast; exact Int.mul_emod_right _ _
    have mo2 : ((cl.size * q : Nat) : Int) % (cl.size : Int) = 0 := by push_cast; exact Int.mul_emod_right _ _
    have zz : ((cl.size : Int) == 0) = false := by simp; omega
    have z8 : 8 ≤ cl.size := t2
    generalize hD : ((cl.size * q : Nat) : Int) = D at *
    clear l2 t1 t2 t3 t4 t5 t6 t7 t8 hpn han hB hP hr hT r1 hTn hX GS GB GE hXn DV ML c4 hq hs hA hA2 hD
    go_wp2_with fail
    refine CI.out.mono ?_
    rintro e W3 ⟨rfl, j, hw⟩
    rw [hw]
    clear hw CI W3
    go_wp2_with fail
    go_quiet (fail)
    go_wp2_with fail
    refine (CS.out _).mono ?_
    rintro e W3 ⟨rfl, j2, hw⟩
    rw [hw]
    clear hw CS W3
    go_wp2_with fail
    refine (CN.out _).mono ?_
    rintro e W3 ⟨rfl, hw⟩
    rw [hw]
    clear hw CN W3
    go_wp2_with fail
    refine (CE.out _).mono ?_
    rintro e W3 ⟨rfl, j3, hw⟩
    rw [hw]
    clear hw CE W3
    go_wp2_with fail
    refine (CW.out _).mono ?_
    rintro e W8 ⟨rfl, b8⟩
    have FF := hide (FX.out _ W8 b8)
    clear CW b8
    go_wp2_with fail
    first | exact FF.out | (go_ret; exact FF.out)
end Go.Proofs.YtblfefibgoiaaaaDoor
