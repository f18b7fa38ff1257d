/- RadixUndo: what is allocated and given back leaves the tree as it was. -/
import Derived.Test.YtnpimmjkmclkpaaDoorSh
namespace Go.Proofs.YtnpimmjkmclkpaaDoor
open Go.ChangeShapes Go.WideShapes Go.ChangeAt Go.RowKit Go.Proofs.Bt Go.Shelf Go.Proofs.Rx Go.Maps Go.Proofs.Pk
set_option linter.unusedVariables false
set_option linter.unusedSimpArgs false

/-- No page is free and not released. -/
def NoIdle (st : Nat → Nat) : Prop := ∀ q, st q ≠ 2
theorem first_or (st : Nat → Nat) (n : Nat) : (∀ p, ¬ Run st p n) ∨ ∃ p, First st n p := by
  by_cases h : ∃ p, Run st p n
  · obtain ⟨p, hp⟩ := h
    obtain ⟨a, h1, h2⟩ := least (P := fun p => Run st p n) p hp
    exact .inr ⟨a, h1, h2⟩
  · exact .inl fun p hp => h ⟨p, hp⟩
theorem run_three {st : Nat → Nat} (h4 : Four st) (hi : NoIdle st) {p n : Nat} (h : Run st p n) : ∀ q, p ≤ q → q < p + n → st q = 3 := fun q q1 q2 => by
  have h1 := h q q1 q2
  have h2 := h4 q
  have h3 := hi q
  omega
theorem noIdle_set {st : Nat → Nat} {a b s : Nat} (h : NoIdle st) (hs : s ≠ 2) : NoIdle (setSt st a b s) := fun q => by
  unfold setSt
  split
  · exact hs
  · exact h q
theorem used_in {st : Nat → Nat} {p n : Nat} (h1 : 1 ≤ n) (h : p + n ≤ 34359738368) : InT (setSt st p (p + n) 1) p n ∧ (tl (setSt st p (p + n) 1) p n).f = 0 := by
  have e : tl (setSt st p (p + n) 1) p n = tlOf 1 n := tl_all fun q q1 q2 => setSt_in ⟨q1, q2⟩
  unfold InT
  rw [e]
  exact ⟨⟨h1, h, rfl⟩, rfl⟩
theorem undone {st : Nat → Nat} {p n : Nat} (h : ∀ q, p ≤ q → q < p + n → st q = 3) : setSt (setSt st p (p + n) 1) p (p + n) 3 = st := by
  funext q
  unfold setSt
  by_cases z : p ≤ q ∧ q < p + n
  · rw [if_pos z, h q z.1 z.2]
  · rw [if_neg z, if_neg z]
theorem t9_sum_ex {N : Nat} {O : Nat → Prop} {w W : World} {tb : Nat} {st : Nat → Nat} (h : T9 N O w W tb st) (lv i : Nat) (hl : lv ≤ 3) (hi : (i + 1) * sz (3 + lv) ≤ 34359738368) :
    Calls Tryd.prog 16 #[.pointer (some ⟨tb, 0, none⟩), .int .i64 (lv : Nat), .int .u64 (i : Nat)] W fun en W' => (∃ s m e : Nat, SumN (bsy st (i * sz (3 + lv))) (sz (3 + lv)) s m e ∧ en = .returned (.tuple #[.agg #[.int .i64 (s : Nat), .int .i64 (m : Nat), .int .i64 (e : Nat)], .int .i64 0])) ∧ T9 N O w W' tb st ∧ Left9 N O W W' := by
  have hp := sz_pos (3 + lv)
  have : i + 1 ≤ (i + 1) * sz (3 + lv) := Nat.le_mul_of_pos_right _ hp
  refine (sumT_any h.tr (lv : Nat) i (by omega)).mono ?_
  rintro en W' ⟨⟨_, h2⟩, b⟩
  rw [Int.toNat_natCast] at h2
  obtain ⟨s', m', e', h3, h4⟩ := h2 (by omega) hi
  exact ⟨⟨s', m', e', h4, h3⟩, h.read b⟩
set_option maxRecDepth 100000 in
set_option maxHeartbeats 2000000 in
theorem undo_any (w : World) (ht : TabW w) (o0 : Option Addr) (l0 c0 : Nat) (hA0 : l0 ≤ maxLen ∧ l0 ≤ c0 ∧ ∃ X, U64At w o0 l0 c0 X) (n : Nat) (hn : n < 18446744073709551616) :
    Calls Tryd.prog 4 #[.slice o0 l0 c0, .int .u64 (n : Nat)] w fun e w' => e = .returned (.bool true) ∧ Below w.heap.size w w' := by
  obtain ⟨_, hc0, X, hX⟩ := hA0
  obtain ⟨N, hN⟩ : ∃ N, w.heap.size = N := ⟨_, rfl⟩
  have CN := hide (t9_new ht hN)
  obtain ⟨R, hR⟩ : ∃ R : Ending → World → Prop, R = fun e w' => e = .returned (.bool true) ∧ Below w.heap.size w w' := ⟨_, rfl⟩
  rw [← hR]
  have FIN := hide (show ∀ W, Below N w W → R (.returned (.bool true)) W from fun W hW => by rw [hR]; exact ⟨rfl, by rw [hN]; exact hW⟩)
  have HX := hide hX
  have HN := hide hN
  obtain ⟨M, hM⟩ : ∃ M : Int, (n : Int) = M := ⟨_, rfl⟩
  rw [hM]
  have HM := hide hM
  have m0 : 0 ≤ M := by omega
  have m9 : M < 18446744073709551616 := by omega
  clear hX hN hR ht hc0
  by_cases z0 : 30 < l0
  · have d0 : (30 : Int) < (l0 : Int) := by omega
    have F := hide (FIN.out w (Below.refl _ _))
    clear CN FIN z0 hM
    go_enter Tryd.func4, Tryd.ntmps4
    go_wp2_with fail
    try go_ret
    exact F.out
  have d0 : (l0 : Int) ≤ 30 := by omega
  by_cases z1 : n < 1
  · have d1 : M < 1 := by omega
    have F := hide (FIN.out w (Below.refl _ _))
    clear CN FIN z0 z1 hM
    go_enter Tryd.func4, Tryd.ntmps4
    go_wp2_with fail
    try go_ret
    exact F.out
  have d1 : 1 ≤ M := by omega
  by_cases z2 : 2000 < n
  · have d2 : 2000 < M := by omega
    have F := hide (FIN.out w (Below.refl _ _))
    clear CN FIN z0 z1 z2 hM
    go_enter Tryd.func4, Tryd.ntmps4
    go_wp2_with fail
    try go_ret
    exact F.out
  have d2 : M ≤ 2000 := by omega
  have n1 : 1 ≤ n := by omega
  have n2 : n ≤ 2000 := by omega
  have e2 : (0 : Int) ≤ l0 := by omega
  clear z0 z1 z2 hM
  go_enter Tryd.func4, Tryd.ntmps4
  go_wp2_with fail
  refine CN.out.mono ?_
  rintro e w1 ⟨tb, rfl, t1⟩
  have CG := hide (t9_grow t1 4 3 (by unfold GrowBad; omega) (by rw [tl_all (s := 0) fun q _ _ => rfl]; rfl))
  simp only [Int.cast_ofNat_Int] at CG
  clear CN t1
  go_wp2_with fail
  refine CG.out.mono ?_
  rintro e w2 ⟨rfl, t2, -⟩
  have I0 := hide (show ∃ st, T9 N (fun _ => False) w w2 tb st ∧ NoIdle st from ⟨_, t2, noIdle_set (fun q => by decide) (by decide)⟩)
  clear CG t2
  go_wp2_with fail
  go_loopw [6] (fun iv wr => ∃ k : Int, iv = .int .i64 k ∧ 0 ≤ k ∧ k ≤ l0 ∧ Hid (∃ st, T9 N (fun _ => False) w wr tb st ∧ NoIdle st)) (fun iv _ => ((l0 : Int) - intOf iv).toNat)
  case atStart => exact ⟨0, rfl, by omega, by omega, I0⟩
  case round =>
    clear I0
    obtain ⟨k, rfl, k0, k1, HI⟩ := hrel
    obtain ⟨st, hT, hNI⟩ := HI.out
    have TT := hide hT
    have NI := hide hNI
    clear HI hT hNI
    by_cases hk : k < l0
    · obtain ⟨b0, off0, rfl, hb0, hcl0⟩ := HX.out.at (i := k.toNat) (by omega)
      have x0 := (cell_block (TT.out.be.block b0 (by rw [← HN.out]; exact hb0)) _).trans (hcl0 k.toNat (by omega))
      have y0 := HX.out.lo k.toNat
      have y1 := HX.out.hi k.toNat
      obtain ⟨A, hA⟩ : ∃ A : Nat, X k.toNat = A := ⟨(X k.toNat).toNat, by omega⟩
      rw [hA] at x0 y0 y1
      have XS := hide (show ∀ Z, Below N w Z → Z.cell? ⟨b0, off0 + k.toNat, none⟩ = some (.int .u64 (A : Nat)) from fun Z hZ => (cell_block (hZ.block b0 (by rw [← HN.out]; exact hb0)) _).trans (by rw [← hA]; exact hcl0 k.toNat (by omega)))
      clear hcl0 hA
      by_cases a1 : (A : Int) < 1
      · have F := hide (FIN.out wr TT.out.be)
        go_wp2_with fail
        try go_ret
        exact F.out
      have a1' : 1 ≤ (A : Int) := by omega
      by_cases a2 : 200 < (A : Int)
      · have F := hide (FIN.out wr TT.out.be)
        clear a1
        go_wp2_with fail
        try go_ret
        exact F.out
      have a2' : (A : Int) ≤ 200 := by omega
      have a3 : 1 ≤ A := by omega
      clear a1 a2
      rcases first_or st A with hno | ⟨p, hf⟩
      · have CA := hide (t9_alloc_no TT.out A (by omega) a3 hno)
        clear hno
        go_wp2_with fail
        refine CA.out.mono ?_
        rintro e w3 ⟨rfl, t3, -⟩
        have I3 := hide (show ∃ st, T9 N (fun _ => False) w w3 tb st ∧ NoIdle st from ⟨_, t3, NI.out⟩)
        clear CA t3
        go_wp2_with fail
        refine ⟨⟨k + 1, rfl, by omega, by omega, I3⟩, ?_⟩
        simp [intOf]; omega
      · have CA := hide (t9_alloc TT.out A p (by omega) a3 hf)
        obtain ⟨r1, -, -⟩ := run_tl hf.1 a3 TT.out.out
        obtain ⟨x, hx⟩ : ∃ x, (tl st p A).r = x := ⟨_, rfl⟩
        rw [hx] at CA
        have HR1 := hide r1
        clear hf hx r1
        go_wp2_with fail
        refine CA.out.mono ?_
        rintro e w3 ⟨rfl, t3, -⟩
        have T3 := hide t3
        clear CA t3 x0
        have x0 := XS.out _ T3.out.be
        by_cases hm : k % 3 = 0
        · have d3 : k % 3 = 0 := hm
          have CB := hide (t9_back T3.out p A (used_in a3 HR1.out).1 (used_in a3 HR1.out).2)
          clear hm
          go_wp2_with fail
          refine CB.out.mono ?_
          rintro e w4 ⟨rfl, t4, -⟩
          have I3 := hide (show ∃ st, T9 N (fun _ => False) w w4 tb st ∧ NoIdle st from ⟨_, t4, noIdle_set (noIdle_set NI.out (by decide)) (by decide)⟩)
          clear CB t4
          go_wp2_with fail
          refine ⟨⟨k + 1, rfl, by omega, by omega, I3⟩, ?_⟩
          simp [intOf]; omega
        · have d3 : ¬ k % 3 = 0 := hm
          have I3 := hide (show ∃ st, T9 N (fun _ => False) w w3 tb st ∧ NoIdle st from ⟨_, T3.out, noIdle_set NI.out (by decide)⟩)
          clear hm
          go_wp2_with fail
          refine ⟨⟨k + 1, rfl, by omega, by omega, I3⟩, ?_⟩
          simp [intOf]; omega
    · have hk' : (l0 : Int) ≤ k := by omega
      have C1 := hide (t9_free TT.out)
      obtain ⟨fr, hfr⟩ : ∃ fr, frT st = fr := ⟨_, rfl⟩
      obtain ⟨rl, hrl⟩ : ∃ rl, rlT st = rl := ⟨_, rfl⟩
      rw [hfr] at C1
      have HFR := hide (And.intro hfr hrl)
      clear hk hfr hrl
      go_wp2_with fail
      refine C1.out.mono ?_
      rintro e w3 ⟨rfl, t3, -⟩
      have C2 := hide (t9_released t3)
      rw [HFR.out.2] at C2
      clear C1 t3
      go_wp2_with fail
      refine C2.out.mono ?_
      rintro e w4 ⟨rfl, t4, -⟩
      have C3 := hide (t9_sum_ex t4 0 0 (by omega) (by decide))
      simp only [Int.cast_ofNat_Int] at C3
      clear C2 t4
      go_wp2_with fail
      refine C3.out.mono ?_
      rintro e w5 ⟨⟨sa, ma, ea, hsum, rfl⟩, t5, -⟩
      obtain ⟨B, hB⟩ : ∃ B, w5.heap.size = B := ⟨_, rfl⟩
      obtain ⟨V, hV⟩ : ∃ V, w5.alloc (.cells #[.int .i64 (sa : Nat), .int .i64 (ma : Nat), .int .i64 (ea : Nat)] 38) = V := ⟨_, rfl⟩
      have bV : Below w5.heap.size w5 V := by rw [← hV]; exact grown1 w5 _
      have K1 := hide (show Bk V B 38 #[.int .i64 (sa : Nat), .int .i64 (ma : Nat), .int .i64 (ea : Nat)] from by rw [← hV, ← hB]; exact World.alloc_heap_new w5 _)
      have TV := hide (show T9 N (fun x => x = B) w V tb st from t5.more bV (fun x hx => .inr ⟨by omega, by have := K1.out.lt; omega⟩))
      have SU := hide hsum
      clear C3 t5 bV hsum
      rcases first_or st n with hno | ⟨p, hf⟩
      · have C4 := hide (t9_find_no TV.out n hn (.inr hno))
        rw [HM.out] at C4
        have NO := hide hno
        clear hno
        go_wp2_with fail
        refine C4.out.mono ?_
        rintro e w6 ⟨rfl, t6, -⟩
        have C5 := hide (t9_alloc_no t6 n hn n1 NO.out)
        rw [HM.out] at C5
        clear C4 t6
        go_wp2_with fail
        refine C5.out.mono ?_
        rintro e w7 ⟨rfl, t7, -⟩
        have CW := hide (awake_any t7.tab)
        have B7 := hide t7.be
        have L7 := hide t7.tr.lt.2.2
        clear C5 t7
        go_wp2_with fail
        refine CW.out.mono ?_
        rintro e w9 ⟨rfl, b9⟩
        have F := hide (FIN.out _ (B7.out.trans (b9.mono L7.out)))
        clear CW b9
        go_wp2_with fail
        try go_ret
        exact F.out
      · have HFI := hide hf
        have hth := run_three TV.out.four NI.out hf.1
        obtain ⟨r1, -, -⟩ := run_tl hf.1 n1 TV.out.out
        have C4 := hide (t9_find TV.out n p hn n1 hf)
        rw [HM.out] at C4
        have er : (tl st p n).r = n := by rw [tl_all hth]; rfl
        have HTH := hide hth
        have HER := hide er
        have HR1 := hide r1
        clear hf hth er r1
        go_wp2_with fail
        refine C4.out.mono ?_
        rintro e w6 ⟨rfl, t6, l6⟩
        have C5 := hide (t9_alloc t6 n p hn n1 HFI.out)
        rw [HER.out, HM.out] at C5
        have K6 := hide (K1.out.kept l6 (fun z => z.2 rfl))
        clear C4 t6 l6
        go_wp2_with fail
        refine C5.out.mono ?_
        rintro e w7 ⟨rfl, t7, l7⟩
        have C6 := hide (t9_back t7 p n (used_in n1 HR1.out).1 (used_in n1 HR1.out).2)
        rw [undone HTH.out, HM.out] at C6
        have K7 := hide (K6.out.kept l7 (fun z => z.2 rfl))
        clear C5 t7 l7
        go_wp2_with fail
        refine C6.out.mono ?_
        rintro e w8 ⟨rfl, t8, l8⟩
        have C7 := hide (t9_sum t8 0 0 (by omega) (by decide) sa ma ea SU.out)
        simp only [Int.cast_ofNat_Int] at C7
        have K8 := hide (K7.out.kept l8 (fun z => z.2 rfl))
        clear C6 t8 l8
        go_wp2_with fail
        refine C7.out.mono ?_
        rintro e w9 ⟨rfl, t9, l9⟩
        obtain ⟨B2, hB2⟩ : ∃ B2, w9.heap.size = B2 := ⟨_, rfl⟩
        obtain ⟨V2, hV2⟩ : ∃ V2, w9.alloc (.cells #[.int .i64 (sa : Nat), .int .i64 (ma : Nat), .int .i64 (ea : Nat)] 38) = V2 := ⟨_, rfl⟩
        have bV : Below w9.heap.size w9 V2 := by rw [← hV2]; exact grown1 w9 _
        have Q2 := hide (show Bk V2 B2 38 #[.int .i64 (sa : Nat), .int .i64 (ma : Nat), .int .i64 (ea : Nat)] from by rw [← hV2, ← hB2]; exact World.alloc_heap_new w9 _)
        have Q1 := hide ((K8.out.kept l9 (fun z => z.2 rfl)).below bV)
        have T2 := hide (show T9 N (fun x => x = B ∨ x = B2) w V2 tb st from t9.more bV (fun x hx => hx.imp id (fun e => ⟨by omega, by have := Q2.out.lt; omega⟩)))
        have C8 := hide (t9_find T2.out n p hn n1 HFI.out)
        rw [HM.out] at C8
        clear C7 t9 l9 bV
        go_wp2_with fail
        refine C8.out.mono ?_
        rintro e w10 ⟨rfl, t10, l10⟩
        have q1 := Q1.out.kept l10 (fun z => z.2 (.inl rfl))
        have q2 := Q2.out.kept l10 (fun z => z.2 (.inr rfl))
        have a0 := q1.cell 0 _ rfl
        have a1 := q1.cell 1 _ rfl
        have a2 := q1.cell 2 _ rfl
        have b0 := q2.cell 0 _ rfl
        have b1 := q2.cell 1 _ rfl
        have b2 := q2.cell 2 _ rfl
        have C9 := hide (t9_free t10)
        rw [HFR.out.1] at C9
        clear C8 l10 q1 q2
        go_wp2_with fail
        refine C9.out.mono ?_
        rintro e w11 ⟨rfl, t11, -⟩
        have C10 := hide (t9_released t11)
        rw [HFR.out.2] at C10
        clear C9 t10 t11
        go_wp2_with fail
        refine C10.out.mono ?_
        rintro e w12 ⟨rfl, t12, -⟩
        have C11 := hide (t9_back_free t12 p n (by unfold InT; rw [tl_all HTH.out]; exact ⟨n1, HR1.out, rfl⟩) (by rw [tl_all HTH.out]; exact n1))
        rw [HM.out] at C11
        clear C10 t12
        go_wp2_with fail
        refine C11.out.mono ?_
        rintro e w13 ⟨rfl, t13, -⟩
        have CW := hide (awake_any t13.tab)
        have B7 := hide t13.be
        have L7 := hide t13.tr.lt.2.2
        clear C11 t13
        go_wp2_with fail
        refine CW.out.mono ?_
        rintro e w14 ⟨rfl, b9⟩
        have F := hide (FIN.out _ (B7.out.trans (b9.mono L7.out)))
        clear CW b9
        go_wp2_with fail
        try go_ret
        exact F.out
theorem undo_int (w : World) (ht : TabW w) (o0 : Option Addr) (l0 c0 : Nat) (hA0 : l0 ≤ maxLen ∧ l0 ≤ c0 ∧ ∃ X, U64At w o0 l0 c0 X) (a1 : Int) (w1 : (Lit.int .u64 a1).wf = true) :
    Calls Tryd.prog 4 #[.slice o0 l0 c0, .int .u64 a1] w fun e w' => e = .returned (.bool true) ∧ Below w.heap.size w w' := by
  have b1 := bounds_u64 w1
  have h := undo_any w ht o0 l0 c0 hA0 a1.toNat (by omega)
  rw [Int.toNat_of_nonneg b1.1] at h
  exact h
end Go.Proofs.YtnpimmjkmclkpaaDoor
