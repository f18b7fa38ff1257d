/- RadixTakes: rows that are taken at a place. -/
import Derived.Test.YtnpimmjkmclkpabDoorBo
import Derived.BigQuiet
namespace Go.Proofs.YtnpimmjkmclkpabDoor
open Go.ChangeShapes Go.WideShapes Go.ChangeAt Go.RowKit Go.Proofs.Bt Go.Shelf Go.Proofs.Rx Go.Maps Go.Proofs.Pk
set_option linter.unusedVariables false
set_option linter.unusedSimpArgs false

/-- Two chunks in use, some of their pages used. -/
def tks (u : Nat → Bool) (q : Nat) : Nat := if 1024 ≤ q ∧ q < 2048 then (if u (q - 1024) then 1 else 3) else 0
/-- .. some more. -/
def uni (u : Nat → Bool) (a b : Nat) (j : Nat) : Bool := u j || decide (a ≤ j ∧ j < b)
theorem tks_zero : setSt (fun _ => 0) (2 * 512) (2 * 512 + 2 * 512) 3 = tks (fun _ => false) := by
  funext q
  unfold setSt tks
  simp
theorem tks_more (u : Nat → Bool) (a m : Nat) (h : a + m ≤ 1024) : setSt (tks u) (1024 + a) (1024 + a + m) 1 = tks (uni u a (a + m)) := by
  funext q
  unfold setSt tks uni
  by_cases z : 1024 + a ≤ q ∧ q < 1024 + a + m
  · rw [if_pos z, if_pos (by omega), show decide (a ≤ q - 1024 ∧ q - 1024 < a + m) = true from decide_eq_true (by omega), Bool.or_true, if_pos rfl]
  · rw [if_neg z]
    by_cases y : 1024 ≤ q ∧ q < 2048
    · rw [if_pos y, if_pos y, show decide (a ≤ q - 1024 ∧ q - 1024 < a + m) = false from decide_eq_false (by omega), Bool.or_false]
    · rw [if_neg y, if_neg y]
theorem tks_in {u : Nat → Bool} {a m : Nat} : InT (tks u) (1024 + a) m ↔ m ≠ 0 ∧ a + m ≤ 1024 := by
  unfold InT
  constructor
  · rintro ⟨h1, h2, h3⟩
    have h4 : cnt (inU (tks u)) (1024 + a) m = m := h3
    have h5 := cnt_full.1 h4 (m - 1) (by omega)
    unfold inU tks at h5
    have h6 := of_decide_eq_true h5
    refine ⟨by omega, ?_⟩
    rcases Nat.lt_or_ge 1024 (a + m) with y | y
    · rw [if_neg (by omega)] at h6; exact absurd rfl h6
    · exact y
  · rintro ⟨h1, h2⟩
    refine ⟨by omega, by omega, ?_⟩
    show cnt (inU (tks u)) (1024 + a) m = m
    refine cnt_full.2 fun k hk => ?_
    unfold inU tks
    rw [if_pos (by omega)]
    split <;> rfl
/-- Is one of them used? -/
def Hit (u : Nat → Bool) (a b : Nat) : Prop := ∃ j, a ≤ j ∧ j < b ∧ u j = true
theorem tks_used {u : Nat → Bool} {a m : Nat} (h : a + m ≤ 1024) (hh : Hit u a (a + m)) : (tl (tks u) (1024 + a) m).f < m := by
  obtain ⟨j, j1, j2, j3⟩ := hh
  have h1 : (tl (tks u) (1024 + a) m).f ≤ m := (tl_le _ _ _).2.1
  rcases Nat.lt_or_ge (tl (tks u) (1024 + a) m).f m with y | y
  · exact y
  · have h2 : cnt (fre (tks u)) (1024 + a) m = m := Nat.le_antisymm h1 y
    have h3 := cnt_full.1 h2 (j - a) (by omega)
    unfold fre tks at h3
    have h4 := of_decide_eq_true h3
    rw [if_pos (by omega), show 1024 + a + (j - a) - 1024 = j by omega, j3, if_pos rfl] at h4
    omega
theorem tks_alike {u : Nat → Bool} {a m : Nat} (h : a + m ≤ 1024) (hh : ¬ Hit u a (a + m)) : tl (tks u) (1024 + a) m = tlOf 3 m :=
  tl_all fun q q1 q2 => by
    unfold tks
    rw [if_pos (by omega)]
    cases hu : u (q - 1024) with
    | true => exact absurd ⟨q - 1024, by omega, by omega, hu⟩ hh
    | false => rfl
theorem tks_left (u : Nat → Bool) (a m : Nat) (h : a + m ≤ 1024) (hh : ¬ Hit u a (a + m)) : frT (tks (uni u a (a + m))) + m = frT (tks u) ∧ rlT (tks (uni u a (a + m))) + m = rlT (tks u) := by
  have h1 := tot_set (st := tks u) (a := 1024 + a) (n := m) (s := 1) (by omega)
  rw [tks_more u a m h, tks_alike h hh, if_neg (by omega), if_neg (by omega), show (tlOf 3 m).f = m from rfl, show (tlOf 3 m).r = m from rfl, Nat.add_zero, Nat.add_zero] at h1
  exact h1
theorem tks_start1 : frT (tks (fun _ => false)) = 1024 := by
  have h1 := (tot_set (st := fun _ => 0) (a := 1024) (n := 1024) (s := 3) (by omega)).1
  have e1 : (tl (fun _ => 0) 1024 1024).f = 0 := by rw [tl_all (s := 0) fun q _ _ => rfl]; rfl
  have e3 : setSt (fun _ => 0) 1024 (1024 + 1024) 3 = tks (fun _ => false) := tks_zero
  rw [e1, tot_zero.1, e3] at h1
  clear e1 e3
  generalize frT (tks (fun _ => false)) = x at h1 ⊢
  rw [if_pos (by omega), Nat.add_zero, Nat.zero_add] at h1
  exact h1
theorem tks_start2 : rlT (tks (fun _ => false)) = 1024 := by
  have h1 := (tot_set (st := fun _ => 0) (a := 1024) (n := 1024) (s := 3) (by omega)).2
  have e1 : (tl (fun _ => 0) 1024 1024).r = 0 := by rw [tl_all (s := 0) fun q _ _ => rfl]; rfl
  have e3 : setSt (fun _ => 0) 1024 (1024 + 1024) 3 = tks (fun _ => false) := tks_zero
  rw [e1, tot_zero.2, e3] at h1
  clear e1 e3
  generalize rlT (tks (fun _ => false)) = x at h1 ⊢
  rw [if_pos rfl, Nat.add_zero, Nat.zero_add] at h1
  exact h1
theorem tks_start : frT (tks (fun _ => false)) = 1024 ∧ rlT (tks (fun _ => false)) = 1024 := ⟨tks_start1, tks_start2⟩
theorem norm0 {P : Program} {c : Code} {Q : Exit → Act → World → Prop} {a : Act} {w : World} (h : c.wp P (fun e a w => e = .normal ∧ Q .normal a w) a w) : c.wp P Q a w :=
  Code.wp_mono (fun e a w ⟨he, hq⟩ => by rw [he]; exact hq) h
theorem tks_state (u : Nat → Bool) (j : Nat) (hj : j < 1024) : inU (tks u) (1024 + j) = true ∧ fre (tks u) (1024 + j) = !u j ∧ rel (tks u) (1024 + j) = !u j := by
  unfold inU fre rel tks
  rw [if_pos (by omega), show 1024 + j - 1024 = j by omega]
  cases u j <;> decide
/-- Between two rounds. -/
structure TkI (N U tb : Nat) (w W : World) (u : Nat → Bool) : Prop where
  t : T9 N (fun x => x = U) w W tb (tks u)
  b : BoR W U 1024 u
  e : rlT (tks u) = frT (tks u)
  le : frT (tks u) ≤ 1024
  nu : N ≤ U
theorem TkI.below {N U tb : Nat} {w W W' : World} {u : Nat → Bool} (h : TkI N U tb w W u) (k : Below W.heap.size W W') : TkI N U tb w W' u := ⟨(h.t.read k).1, h.b.below k, h.e, h.le, h.nu⟩
set_option maxRecDepth 100000 in
set_option maxHeartbeats 2000000 in
theorem takes_any (w : World) (ht : TabW w) (o0 : Option Addr) (l0 c0 : Nat) (hA0 : l0 ≤ maxLen ∧ l0 ≤ c0 ∧ ∃ X, U64At w o0 l0 c0 X) (o1 : Option Addr) (l1 c1 : Nat) (hA1 : l1 ≤ maxLen ∧ l1 ≤ c1 ∧ ∃ X, U64At w o1 l1 c1 X) :
    Calls Tryd.prog 5 #[.slice o0 l0 c0, .slice o1 l1 c1] w fun e w' => e = .returned (.bool true) ∧ Below w.heap.size w w' := by
  obtain ⟨_, hc0, X, hX⟩ := hA0
  obtain ⟨_, hc1, Y, hY⟩ := hA1
  obtain ⟨N, hN⟩ : ∃ N, w.heap.size = N := ⟨_, rfl⟩
  have CN := hide (t9_new ht hN)
  obtain ⟨R, hR⟩ : ∃ R : Ending → World → Prop, R = fun e w' => e = .returned (.bool true) ∧ Below w.heap.size w w' := ⟨_, rfl⟩
  rw [← hR]
  have FIN := hide (show ∀ W, Below N w W → R (.returned (.bool true)) W from fun W hW => by rw [hR]; exact ⟨rfl, by rw [hN]; exact hW⟩)
  have HX := hide hX
  have HY := hide hY
  have HN := hide hN
  clear hX hY hN hR ht
  by_cases z0 : 60 < l0
  · have d0 : (60 : Int) < (l0 : Int) := by omega
    have F := hide (FIN.out w (Below.refl _ _))
    clear CN FIN hc0 hc1 z0
    go_enter Tryd.func5, Tryd.ntmps5
    go_wp2_with fail
    try go_ret
    exact F.out
  have d0 : (l0 : Int) ≤ 60 := by omega
  by_cases z1 : 60 < l1
  · have d1 : (60 : Int) < (l1 : Int) := by omega
    have F := hide (FIN.out w (Below.refl _ _))
    clear CN FIN hc0 hc1 z0 z1
    go_enter Tryd.func5, Tryd.ntmps5
    go_wp2_with fail
    try go_ret
    exact F.out
  have e0 : (l0 : Int) ≤ 60 := by omega
  have e1 : (l1 : Int) ≤ 60 := by omega
  have e2 : (0 : Int) ≤ l0 := by omega
  have e3 : (0 : Int) ≤ l1 := by omega
  clear z0 z1 hc0 hc1
  go_enter Tryd.func5, Tryd.ntmps5
  go_wp2_with fail
  refine CN.out.mono ?_
  rintro e w1 ⟨tb, rfl, t1⟩
  have CG := hide (t9_grow t1 2 2 (by unfold GrowBad; omega) (by rw [tl_all (s := 0) fun q _ _ => rfl]; rfl))
  rw [tks_zero] at CG
  simp only [Int.cast_ofNat_Int] at CG
  clear CN t1
  go_wp2_with fail
  refine CG.out.mono ?_
  rintro e w2 ⟨rfl, t2, -⟩
  obtain ⟨W0, hrun, hB, hbel, hsz⟩ := make_bools w2 1024 (by omega)
  simp only [Int.cast_ofNat_Int] at hrun
  obtain ⟨U, hU⟩ : ∃ U, w2.heap.size = U := ⟨_, rfl⟩
  have I0 := hide (show TkI N U tb w W0 (fun _ => false) from by
    rw [hU] at hB hsz
    refine ⟨t2.more hbel (fun x hx => .inr ⟨by omega, by omega⟩), hB, by rw [tks_start.1, tks_start.2], by rw [tks_start.1]; omega, ?_⟩
    have := t2.tr.lt.2.2
    omega)
  clear CG t2 hB hbel hsz d0
  go_wp2_with fail
  go_loopw [7, 8] (fun fv iv wr => ∃ (k : Int) (f : Int), fv = .int .u64 f ∧ iv = .int .i64 k ∧ 0 ≤ k ∧ k ≤ l0 ∧ k ≤ l1 ∧ 0 ≤ f ∧ f ≤ 1024 ∧ Hid (∃ u, TkI N U tb w wr u ∧ f = (frT (tks u) : Nat))) (fun _ iv _ => ((l0 : Int) - intOf iv).toNat)
  case atStart => exact ⟨0, 1024, rfl, rfl, by omega, by omega, by omega, by omega, by omega, hide ⟨_, I0.out, by rw [tks_start.1]; rfl⟩⟩
  case round =>
    obtain ⟨k, f, rfl, rfl, k0, k1, k2, f0, f1, HI⟩ := hrel
    clear I0 hrun
    by_cases hk : k < l0 ∧ k < l1
    · obtain ⟨b0, off0, rfl, hb0, hcl0⟩ := HX.out.at (i := k.toNat) (by omega)
      obtain ⟨b1, off1, rfl, hb1, hcl1⟩ := HY.out.at (i := k.toNat) (by omega)
      obtain ⟨u, hI, hf⟩ := HI.out
      have x0 := (cell_block (hI.t.be.block b0 (by rw [← HN.out]; exact hb0)) _).trans (hcl0 k.toNat (by omega))
      have x1 := (cell_block (hI.t.be.block b1 (by rw [← HN.out]; exact hb1)) _).trans (hcl1 k.toNat (by omega))
      have y0 := HX.out.lo k.toNat
      have y1 := HX.out.hi k.toNat
      have y2 := HY.out.lo k.toNat
      have y3 := HY.out.hi k.toNat
      obtain ⟨A, hA⟩ : ∃ A : Nat, X k.toNat = A := ⟨(X k.toNat).toNat, by omega⟩
      obtain ⟨M, hM⟩ : ∃ M : Nat, Y k.toNat = M := ⟨(Y k.toNat).toNat, by omega⟩
      rw [hA] at x0 y0 y1
      rw [hM] at x1 y2 y3
      have hk1 := hk.1
      have hk2 := hk.2
      have II := hide hI
      have XS := hide (show ∀ Z, Below N w Z → Z.cell? ⟨b0, off0 + k.toNat, none⟩ = some (.int .u64 (A : Nat)) ∧ Z.cell? ⟨b1, off1 + k.toNat, none⟩ = some (.int .u64 (M : Nat)) from fun Z hZ => ⟨(cell_block (hZ.block b0 (by rw [← HN.out]; exact hb0)) _).trans (by rw [← hA]; exact hcl0 k.toNat (by omega)), (cell_block (hZ.block b1 (by rw [← HN.out]; exact hb1)) _).trans (by rw [← hM]; exact hcl1 k.toNat (by omega))⟩)
      have HFV := hide hf
      clear hcl0 hcl1 hA hM hI hk hf
      by_cases a1 : 1100 < (A : Int)
      · have F := hide (FIN.out wr II.out.t.be)
        go_wp2_with fail
        try go_ret
        exact F.out
      by_cases a2 : 1100 < (M : Int)
      · have F := hide (FIN.out wr II.out.t.be)
        have a1' : (A : Int) ≤ 1100 := by omega
        clear a1
        go_wp2_with fail
        try go_ret
        exact F.out
      have a1' : (A : Int) ≤ 1100 := by omega
      have a2' : (M : Int) ≤ 1100 := by omega
      have hwa : IntKind.u64.wrap (1024 + (A : Int)) = 1024 + (A : Int) := by rw [IntKind.wrap_u64]; omega
      clear a1 a2
--ROUND--
      by_cases m0 : M = 0
      · have D1 := hide (show ((M : Int) == 0) = true from beq_iff_eq.2 (by omega))
        have CK := hide (t9_take_bad (II.out.below (drew_below wr)).t (1024 + A) M (by omega) (by omega) (fun z => by have := tks_in.1 z; omega))
        clear m0
        rw [show ((1024 + A : Nat) : Int) = 1024 + (A : Int) from rfl] at CK
        go_wp2_with fail
        refine norm0 ?_
        refine wp_region_held_drew (S := fun Z => Z.cell? ⟨b0, off0 + k.toNat, none⟩ = some (.int .u64 (A : Nat)) ∧ Z.cell? ⟨b1, off1 + k.toNat, none⟩ = some (.int .u64 (M : Nat))) (by kernel_rfl) ⟨x0, x1⟩ (fun hHeld => ?_)
        refine wpAnyH_take (i := 0) (oi := _) (v := ?_) rfl (by kernel_rfl) (by kernel_rfl) (by kernel_rfl) (fun _ _ _ h => by cases h.1) (Or.inl ⟨by rfl, ?_⟩) (by assumption) ?_
        rotate_left
        · (intro Z hSw; go_simp; try with_reducible rfl)
        try simp only [Act.put, List.setIfInBounds_toArray, List.set_cons_zero, List.set_cons_succ]
        refine wpAnyH_take (i := 1) (oi := _) (v := ?_) rfl (by kernel_rfl) (by kernel_rfl) (by kernel_rfl) (fun _ _ _ h => by cases h.1) (Or.inl ⟨by rfl, ?_⟩) (by assumption) ?_
        rotate_left
        · (intro Z hSw; go_simp; try with_reducible rfl)
        try simp only [Act.put, List.setIfInBounds_toArray, List.set_cons_zero, List.set_cons_succ]
        refine wpAnyH_take (i := 2) (oi := _) (v := ?_) rfl (by kernel_rfl) (by kernel_rfl) (by kernel_rfl) (fun _ _ _ h => by cases h.1) (Or.inl ⟨by rfl, ?_⟩) (by assumption) ?_
        rotate_left
        · (intro Z hSw; go_simp; try with_reducible rfl)
        try simp only [Act.put, List.setIfInBounds_toArray, List.set_cons_zero, List.set_cons_succ]
        refine wpAnyH_take (i := 3) (oi := _) (v := ?_) rfl (by kernel_rfl) (by kernel_rfl) (by kernel_rfl) (fun _ _ _ h => by cases h.1) (Or.inl ⟨by rfl, ?_⟩) (by assumption) ?_
        rotate_left
        · (intro Z hSw; go_simp; try with_reducible rfl)
        try simp only [Act.put, List.setIfInBounds_toArray, List.set_cons_zero, List.set_cons_succ]
        refine wpAnyH_take (i := 4) (oi := _) (v := ?_) rfl (by kernel_rfl) (by kernel_rfl) (by kernel_rfl) (fun _ _ _ h => by cases h.1) (Or.inl ⟨by rfl, ?_⟩) (by assumption) ?_
        rotate_left
        · (intro Z hSw; obtain ⟨s0, s1⟩ := hSw; go_simp; try with_reducible rfl)
        try simp only [Act.put, List.setIfInBounds_toArray, List.set_cons_zero, List.set_cons_succ]
        refine wpAnyH_take (i := 5) (oi := _) (v := ?_) rfl (by kernel_rfl) (by kernel_rfl) (by kernel_rfl) (fun _ _ _ h => by cases h.1) (Or.inl ⟨by rfl, ?_⟩) (by assumption) ?_
        rotate_left
        · (intro Z hSw; go_simp; try with_reducible rfl)
        try simp only [Act.put, List.setIfInBounds_toArray, List.set_cons_zero, List.set_cons_succ]
        refine wpAnyH_take (i := 6) (oi := _) (v := ?_) rfl (by kernel_rfl) (by kernel_rfl) (by kernel_rfl) (fun _ _ _ h => by cases h.1) (Or.inl ⟨by rfl, ?_⟩) (by assumption) ?_
        rotate_left
        · (intro Z hSw; go_simp; try with_reducible rfl)
        try simp only [Act.put, List.setIfInBounds_toArray, List.set_cons_zero, List.set_cons_succ]
        refine wpAnyH_take (i := 7) (oi := _) (v := ?_) rfl (by kernel_rfl) (by kernel_rfl) (by kernel_rfl) (fun _ _ _ h => by cases h.1) (Or.inl ⟨by rfl, ?_⟩) (by assumption) ?_
        rotate_left
        · (intro Z hSw; go_simp; try with_reducible rfl)
        try simp only [Act.put, List.setIfInBounds_toArray, List.set_cons_zero, List.set_cons_succ]
        refine wpAnyH_take (i := 8) (oi := _) (v := ?_) rfl (by kernel_rfl) (by kernel_rfl) (by kernel_rfl) (fun _ _ _ h => by cases h.1) (Or.inl ⟨by rfl, ?_⟩) (by assumption) ?_
        rotate_left
        · (intro Z hSw; go_simp; try with_reducible rfl)
        try simp only [Act.put, List.setIfInBounds_toArray, List.set_cons_zero, List.set_cons_succ]
        refine wpAnyH_take (i := 9) (oi := _) (v := ?_) rfl (by kernel_rfl) (by kernel_rfl) (by kernel_rfl) (fun _ _ _ h => by cases h.1) (Or.inl ⟨by rfl, ?_⟩) (by assumption) ?_
        rotate_left
        · (intro Z hSw; obtain ⟨s0, s1⟩ := hSw; go_simp; try with_reducible rfl)
        try simp only [Act.put, List.setIfInBounds_toArray, List.set_cons_zero, List.set_cons_succ]
        refine wpAnyH_ready (rs := [10]) (by kernel_rfl) (by simp) ?_
        refine AllReadyH.cons (o := ⟨some 70, _, _, _, _, _⟩) rfl (fun K hK => ?_) AllReadyH.nil
        go_simp
        refine CK.out.mono ?_
        rintro e W3 ⟨rfl, t3, l3⟩
        have T3 := hide t3
        have I3 := hide (show TkI N U tb w W3 u from ⟨t3, ((II.out.below (drew_below wr)).b).kept l3 (fun z => z.2 rfl), II.out.e, II.out.le, II.out.nu⟩)
        clear t3 l3
        refine hK.out _ _ (XS.out _ T3.out.be) (fun hHeld => ?_)
        clear hK K
        try simp only [Act.put, List.setIfInBounds_toArray, List.set_cons_zero, List.set_cons_succ]
        refine wpAnyH_take (i := 11) (oi := _) (v := ?_) rfl (by kernel_rfl) (by kernel_rfl) (by kernel_rfl) (fun _ _ _ h => by cases h.1) (Or.inl ⟨by rfl, ?_⟩) (by assumption) ?_
        rotate_left
        · (intro Z hSw; go_simp; try with_reducible rfl)
        try simp only [Act.put, List.setIfInBounds_toArray, List.set_cons_zero, List.set_cons_succ]
        refine wpAnyH_take (i := 12) (oi := _) (v := ?_) rfl (by kernel_rfl) (by kernel_rfl) (by kernel_rfl) (fun _ _ _ h => by cases h.1) (Or.inl ⟨by rfl, ?_⟩) (by assumption) ?_
        rotate_left
        · (intro Z hSw; go_simp; try with_reducible rfl)
        try simp only [Act.put, List.setIfInBounds_toArray, List.set_cons_zero, List.set_cons_succ]
        refine wpAnyH_take (i := 13) (oi := _) (v := ?_) rfl (by kernel_rfl) (by kernel_rfl) (by kernel_rfl) (fun _ _ _ h => by cases h.1) (Or.inl ⟨by rfl, ?_⟩) (by assumption) ?_
        rotate_left
        · (intro Z hSw; go_simp; try with_reducible rfl)
        try simp only [Act.put, List.setIfInBounds_toArray, List.set_cons_zero, List.set_cons_succ]
        refine wpAnyH_take (i := 14) (oi := _) (v := ?_) rfl (by kernel_rfl) (by kernel_rfl) (by kernel_rfl) (fun _ _ _ h => by cases h.1) (Or.inl ⟨by rfl, ?_⟩) (by assumption) ?_
        rotate_left
        · (intro Z hSw; go_simp; try with_reducible rfl)
        try simp only [Act.put, List.setIfInBounds_toArray, List.set_cons_zero, List.set_cons_succ]
        refine wpAnyH_take (i := 15) (oi := _) (v := ?_) rfl (by kernel_rfl) (by kernel_rfl) (by kernel_rfl) (fun _ _ _ h => by cases h.1) (Or.inl ⟨by rfl, ?_⟩) (by assumption) ?_
        rotate_left
        · (intro Z hSw; go_simp; try with_reducible rfl)
        try simp only [Act.put, List.setIfInBounds_toArray, List.set_cons_zero, List.set_cons_succ]
        refine wpAnyH_done (by kernel_rfl) ⟨rfl, ?_⟩ _
        obtain ⟨x0, x1⟩ := XS.out _ I3.out.t.be
        clear hHeld CK
        have d1 := D1.out
        go_wp2_with fail
        go_quiet (fail)
        have bq : Below W3.heap.size W3 (W3.drewN nq) := ⟨rfl, rfl, rfl, Nat.le_refl _, fun _ _ => rfl⟩
        have I4 := hide (I3.out.below bq)
        clear bq
        generalize W3.drewN nq = W4 at *
        obtain ⟨x0, x1⟩ := XS.out _ I4.out.t.be
        have CR := hide (t9_free I4.out.t)
        obtain ⟨fr, hfr⟩ : ∃ fr, frT (tks u) = fr := ⟨_, rfl⟩
        have ef : (fr : Int) = f := by rw [HFV.out, hfr]
        rw [hfr, ef] at CR
        go_wp2_with fail
        refine CR.out.mono ?_
        rintro e w6 ⟨rfl, t6, l6⟩
        have CQ := hide (t9_released t6)
        rw [I4.out.e, hfr, ef] at CQ
        go_wp2_with fail
        refine CQ.out.mono ?_
        rintro e w7 ⟨rfl, t7, l7⟩
        have I7 := hide (show TkI N U tb w w7 u from ⟨t7, (I4.out.b.kept l6 (fun z => z.2 rfl)).kept l7 (fun z => z.2 rfl), I4.out.e, I4.out.le, I4.out.nu⟩)
        clear t6 t7 l6 l7 CR CQ
        go_wp2_with fail
        go_roundw
        case rel => exact ⟨k + 1, f, rfl, by go_num, by omega, by omega, by omega, by omega, by omega, hide ⟨_, I7.out, HFV.out⟩⟩
        case measure => simp [intOf]; omega
      · have D1 := hide (show ((M : Int) == 0) = false from beq_eq_false_iff_ne.2 (by omega))
        by_cases hAM : 1024 < A + M
        · have D2 := hide (show decide (1024 < (A : Int) + (M : Int)) = true from decide_eq_true (by omega))
          have CK := hide (t9_take_bad (II.out.below (drew_below wr)).t (1024 + A) M (by omega) (by omega) (fun z => by have := tks_in.1 z; omega))
          clear m0
          rw [show ((1024 + A : Nat) : Int) = 1024 + (A : Int) from rfl] at CK
          go_wp2_with fail
          refine norm0 ?_
          refine wp_region_held_drew (S := fun Z => Z.cell? ⟨b0, off0 + k.toNat, none⟩ = some (.int .u64 (A : Nat)) ∧ Z.cell? ⟨b1, off1 + k.toNat, none⟩ = some (.int .u64 (M : Nat))) (by kernel_rfl) ⟨x0, x1⟩ (fun hHeld => ?_)
          refine wpAnyH_take (i := 0) (oi := _) (v := ?_) rfl (by kernel_rfl) (by kernel_rfl) (by kernel_rfl) (fun _ _ _ h => by cases h.1) (Or.inl ⟨by rfl, ?_⟩) (by assumption) ?_
          rotate_left
          · (intro Z hSw; go_simp; try with_reducible rfl)
          try simp only [Act.put, List.setIfInBounds_toArray, List.set_cons_zero, List.set_cons_succ]
          refine wpAnyH_take (i := 1) (oi := _) (v := ?_) rfl (by kernel_rfl) (by kernel_rfl) (by kernel_rfl) (fun _ _ _ h => by cases h.1) (Or.inl ⟨by rfl, ?_⟩) (by assumption) ?_
          rotate_left
          · (intro Z hSw; go_simp; try with_reducible rfl)
          try simp only [Act.put, List.setIfInBounds_toArray, List.set_cons_zero, List.set_cons_succ]
          refine wpAnyH_take (i := 2) (oi := _) (v := ?_) rfl (by kernel_rfl) (by kernel_rfl) (by kernel_rfl) (fun _ _ _ h => by cases h.1) (Or.inl ⟨by rfl, ?_⟩) (by assumption) ?_
          rotate_left
          · (intro Z hSw; go_simp; try with_reducible rfl)
          try simp only [Act.put, List.setIfInBounds_toArray, List.set_cons_zero, List.set_cons_succ]
          refine wpAnyH_take (i := 3) (oi := _) (v := ?_) rfl (by kernel_rfl) (by kernel_rfl) (by kernel_rfl) (fun _ _ _ h => by cases h.1) (Or.inl ⟨by rfl, ?_⟩) (by assumption) ?_
          rotate_left
          · (intro Z hSw; go_simp; try with_reducible rfl)
          try simp only [Act.put, List.setIfInBounds_toArray, List.set_cons_zero, List.set_cons_succ]
          refine wpAnyH_take (i := 4) (oi := _) (v := ?_) rfl (by kernel_rfl) (by kernel_rfl) (by kernel_rfl) (fun _ _ _ h => by cases h.1) (Or.inl ⟨by rfl, ?_⟩) (by assumption) ?_
          rotate_left
          · (intro Z hSw; obtain ⟨s0, s1⟩ := hSw; go_simp; try with_reducible rfl)
          try simp only [Act.put, List.setIfInBounds_toArray, List.set_cons_zero, List.set_cons_succ]
          refine wpAnyH_take (i := 5) (oi := _) (v := ?_) rfl (by kernel_rfl) (by kernel_rfl) (by kernel_rfl) (fun _ _ _ h => by cases h.1) (Or.inl ⟨by rfl, ?_⟩) (by assumption) ?_
          rotate_left
          · (intro Z hSw; go_simp; try with_reducible rfl)
          try simp only [Act.put, List.setIfInBounds_toArray, List.set_cons_zero, List.set_cons_succ]
          refine wpAnyH_take (i := 6) (oi := _) (v := ?_) rfl (by kernel_rfl) (by kernel_rfl) (by kernel_rfl) (fun _ _ _ h => by cases h.1) (Or.inl ⟨by rfl, ?_⟩) (by assumption) ?_
          rotate_left
          · (intro Z hSw; go_simp; try with_reducible rfl)
          try simp only [Act.put, List.setIfInBounds_toArray, List.set_cons_zero, List.set_cons_succ]
          refine wpAnyH_take (i := 7) (oi := _) (v := ?_) rfl (by kernel_rfl) (by kernel_rfl) (by kernel_rfl) (fun _ _ _ h => by cases h.1) (Or.inl ⟨by rfl, ?_⟩) (by assumption) ?_
          rotate_left
          · (intro Z hSw; go_simp; try with_reducible rfl)
          try simp only [Act.put, List.setIfInBounds_toArray, List.set_cons_zero, List.set_cons_succ]
          refine wpAnyH_take (i := 8) (oi := _) (v := ?_) rfl (by kernel_rfl) (by kernel_rfl) (by kernel_rfl) (fun _ _ _ h => by cases h.1) (Or.inl ⟨by rfl, ?_⟩) (by assumption) ?_
          rotate_left
          · (intro Z hSw; go_simp; try with_reducible rfl)
          try simp only [Act.put, List.setIfInBounds_toArray, List.set_cons_zero, List.set_cons_succ]
          refine wpAnyH_take (i := 9) (oi := _) (v := ?_) rfl (by kernel_rfl) (by kernel_rfl) (by kernel_rfl) (fun _ _ _ h => by cases h.1) (Or.inl ⟨by rfl, ?_⟩) (by assumption) ?_
          rotate_left
          · (intro Z hSw; obtain ⟨s0, s1⟩ := hSw; go_simp; try with_reducible rfl)
          try simp only [Act.put, List.setIfInBounds_toArray, List.set_cons_zero, List.set_cons_succ]
          refine wpAnyH_ready (rs := [10]) (by kernel_rfl) (by simp) ?_
          refine AllReadyH.cons (o := ⟨some 70, _, _, _, _, _⟩) rfl (fun K hK => ?_) AllReadyH.nil
          go_simp
          refine CK.out.mono ?_
          rintro e W3 ⟨rfl, t3, l3⟩
          have T3 := hide t3
          have I3 := hide (show TkI N U tb w W3 u from ⟨t3, ((II.out.below (drew_below wr)).b).kept l3 (fun z => z.2 rfl), II.out.e, II.out.le, II.out.nu⟩)
          clear t3 l3
          refine hK.out _ _ (XS.out _ T3.out.be) (fun hHeld => ?_)
          clear hK K
          try simp only [Act.put, List.setIfInBounds_toArray, List.set_cons_zero, List.set_cons_succ]
          refine wpAnyH_take (i := 11) (oi := _) (v := ?_) rfl (by kernel_rfl) (by kernel_rfl) (by kernel_rfl) (fun _ _ _ h => by cases h.1) (Or.inl ⟨by rfl, ?_⟩) (by assumption) ?_
          rotate_left
          · (intro Z hSw; go_simp; try with_reducible rfl)
          try simp only [Act.put, List.setIfInBounds_toArray, List.set_cons_zero, List.set_cons_succ]
          refine wpAnyH_take (i := 12) (oi := _) (v := ?_) rfl (by kernel_rfl) (by kernel_rfl) (by kernel_rfl) (fun _ _ _ h => by cases h.1) (Or.inl ⟨by rfl, ?_⟩) (by assumption) ?_
          rotate_left
          · (intro Z hSw; go_simp; try with_reducible rfl)
          try simp only [Act.put, List.setIfInBounds_toArray, List.set_cons_zero, List.set_cons_succ]
          refine wpAnyH_take (i := 13) (oi := _) (v := ?_) rfl (by kernel_rfl) (by kernel_rfl) (by kernel_rfl) (fun _ _ _ h => by cases h.1) (Or.inl ⟨by rfl, ?_⟩) (by assumption) ?_
          rotate_left
          · (intro Z hSw; go_simp; try with_reducible rfl)
          try simp only [Act.put, List.setIfInBounds_toArray, List.set_cons_zero, List.set_cons_succ]
          refine wpAnyH_take (i := 14) (oi := _) (v := ?_) rfl (by kernel_rfl) (by kernel_rfl) (by kernel_rfl) (fun _ _ _ h => by cases h.1) (Or.inl ⟨by rfl, ?_⟩) (by assumption) ?_
          rotate_left
          · (intro Z hSw; go_simp; try with_reducible rfl)
          try simp only [Act.put, List.setIfInBounds_toArray, List.set_cons_zero, List.set_cons_succ]
          refine wpAnyH_take (i := 15) (oi := _) (v := ?_) rfl (by kernel_rfl) (by kernel_rfl) (by kernel_rfl) (fun _ _ _ h => by cases h.1) (Or.inl ⟨by rfl, ?_⟩) (by assumption) ?_
          rotate_left
          · (intro Z hSw; go_simp; try with_reducible rfl)
          try simp only [Act.put, List.setIfInBounds_toArray, List.set_cons_zero, List.set_cons_succ]
          refine wpAnyH_done (by kernel_rfl) ⟨rfl, ?_⟩ _
          obtain ⟨x0, x1⟩ := XS.out _ I3.out.t.be
          clear hHeld CK
          have d1 := D1.out
          have d2 := D2.out
          go_wp2_with fail
          go_quiet (fail)
          have bq : Below W3.heap.size W3 (W3.drewN nq) := ⟨rfl, rfl, rfl, Nat.le_refl _, fun _ _ => rfl⟩
          have I4 := hide (I3.out.below bq)
          clear bq
          generalize W3.drewN nq = W4 at *
          obtain ⟨x0, x1⟩ := XS.out _ I4.out.t.be
          have CR := hide (t9_free I4.out.t)
          obtain ⟨fr, hfr⟩ : ∃ fr, frT (tks u) = fr := ⟨_, rfl⟩
          have ef : (fr : Int) = f := by rw [HFV.out, hfr]
          rw [hfr, ef] at CR
          go_wp2_with fail
          refine CR.out.mono ?_
          rintro e w6 ⟨rfl, t6, l6⟩
          have CQ := hide (t9_released t6)
          rw [I4.out.e, hfr, ef] at CQ
          go_wp2_with fail
          refine CQ.out.mono ?_
          rintro e w7 ⟨rfl, t7, l7⟩
          have I7 := hide (show TkI N U tb w w7 u from ⟨t7, (I4.out.b.kept l6 (fun z => z.2 rfl)).kept l7 (fun z => z.2 rfl), I4.out.e, I4.out.le, I4.out.nu⟩)
          clear t6 t7 l6 l7 CR CQ
          go_wp2_with fail
          go_roundw
          case rel => exact ⟨k + 1, f, rfl, by go_num, by omega, by omega, by omega, by omega, by omega, hide ⟨_, I7.out, HFV.out⟩⟩
          case measure => simp [intOf]; omega
        · have D2 := hide (show decide (1024 < (A : Int) + (M : Int)) = false from decide_eq_false (by omega))
          have hAM : A + M ≤ 1024 := by omega
          by_cases hh : Hit u A (A + M)
          · have CK := hide (t9_take_used (II.out.below (drew_below wr)).t (1024 + A) M (tks_in.2 ⟨m0, hAM⟩) (tks_used hAM hh))
            have HH := hide hh
            clear m0 hh
            rw [show ((1024 + A : Nat) : Int) = 1024 + (A : Int) from rfl] at CK
            go_wp2_with fail
            refine norm0 ?_
            refine wp_region_held_drew (S := fun Z => Z.cell? ⟨b0, off0 + k.toNat, none⟩ = some (.int .u64 (A : Nat)) ∧ Z.cell? ⟨b1, off1 + k.toNat, none⟩ = some (.int .u64 (M : Nat))) (by kernel_rfl) ⟨x0, x1⟩ (fun hHeld => ?_)
            refine wpAnyH_take (i := 0) (oi := _) (v := ?_) rfl (by kernel_rfl) (by kernel_rfl) (by kernel_rfl) (fun _ _ _ h => by cases h.1) (Or.inl ⟨by rfl, ?_⟩) (by assumption) ?_
            rotate_left
            · (intro Z hSw; go_simp; try with_reducible rfl)
            try simp only [Act.put, List.setIfInBounds_toArray, List.set_cons_zero, List.set_cons_succ]
            refine wpAnyH_take (i := 1) (oi := _) (v := ?_) rfl (by kernel_rfl) (by kernel_rfl) (by kernel_rfl) (fun _ _ _ h => by cases h.1) (Or.inl ⟨by rfl, ?_⟩) (by assumption) ?_
            rotate_left
            · (intro Z hSw; go_simp; try with_reducible rfl)
            try simp only [Act.put, List.setIfInBounds_toArray, List.set_cons_zero, List.set_cons_succ]
            refine wpAnyH_take (i := 2) (oi := _) (v := ?_) rfl (by kernel_rfl) (by kernel_rfl) (by kernel_rfl) (fun _ _ _ h => by cases h.1) (Or.inl ⟨by rfl, ?_⟩) (by assumption) ?_
            rotate_left
            · (intro Z hSw; go_simp; try with_reducible rfl)
            try simp only [Act.put, List.setIfInBounds_toArray, List.set_cons_zero, List.set_cons_succ]
            refine wpAnyH_take (i := 3) (oi := _) (v := ?_) rfl (by kernel_rfl) (by kernel_rfl) (by kernel_rfl) (fun _ _ _ h => by cases h.1) (Or.inl ⟨by rfl, ?_⟩) (by assumption) ?_
            rotate_left
            · (intro Z hSw; go_simp; try with_reducible rfl)
            try simp only [Act.put, List.setIfInBounds_toArray, List.set_cons_zero, List.set_cons_succ]
            refine wpAnyH_take (i := 4) (oi := _) (v := ?_) rfl (by kernel_rfl) (by kernel_rfl) (by kernel_rfl) (fun _ _ _ h => by cases h.1) (Or.inl ⟨by rfl, ?_⟩) (by assumption) ?_
            rotate_left
            · (intro Z hSw; obtain ⟨s0, s1⟩ := hSw; go_simp; try with_reducible rfl)
            try simp only [Act.put, List.setIfInBounds_toArray, List.set_cons_zero, List.set_cons_succ]
            refine wpAnyH_take (i := 5) (oi := _) (v := ?_) rfl (by kernel_rfl) (by kernel_rfl) (by kernel_rfl) (fun _ _ _ h => by cases h.1) (Or.inl ⟨by rfl, ?_⟩) (by assumption) ?_
            rotate_left
            · (intro Z hSw; go_simp; try with_reducible rfl)
            try simp only [Act.put, List.setIfInBounds_toArray, List.set_cons_zero, List.set_cons_succ]
            refine wpAnyH_take (i := 6) (oi := _) (v := ?_) rfl (by kernel_rfl) (by kernel_rfl) (by kernel_rfl) (fun _ _ _ h => by cases h.1) (Or.inl ⟨by rfl, ?_⟩) (by assumption) ?_
            rotate_left
            · (intro Z hSw; go_simp; try with_reducible rfl)
            try simp only [Act.put, List.setIfInBounds_toArray, List.set_cons_zero, List.set_cons_succ]
            refine wpAnyH_take (i := 7) (oi := _) (v := ?_) rfl (by kernel_rfl) (by kernel_rfl) (by kernel_rfl) (fun _ _ _ h => by cases h.1) (Or.inl ⟨by rfl, ?_⟩) (by assumption) ?_
            rotate_left
            · (intro Z hSw; go_simp; try with_reducible rfl)
            try simp only [Act.put, List.setIfInBounds_toArray, List.set_cons_zero, List.set_cons_succ]
            refine wpAnyH_take (i := 8) (oi := _) (v := ?_) rfl (by kernel_rfl) (by kernel_rfl) (by kernel_rfl) (fun _ _ _ h => by cases h.1) (Or.inl ⟨by rfl, ?_⟩) (by assumption) ?_
            rotate_left
            · (intro Z hSw; go_simp; try with_reducible rfl)
            try simp only [Act.put, List.setIfInBounds_toArray, List.set_cons_zero, List.set_cons_succ]
            refine wpAnyH_take (i := 9) (oi := _) (v := ?_) rfl (by kernel_rfl) (by kernel_rfl) (by kernel_rfl) (fun _ _ _ h => by cases h.1) (Or.inl ⟨by rfl, ?_⟩) (by assumption) ?_
            rotate_left
            · (intro Z hSw; obtain ⟨s0, s1⟩ := hSw; go_simp; try with_reducible rfl)
            try simp only [Act.put, List.setIfInBounds_toArray, List.set_cons_zero, List.set_cons_succ]
            refine wpAnyH_ready (rs := [10]) (by kernel_rfl) (by simp) ?_
            refine AllReadyH.cons (o := ⟨some 70, _, _, _, _, _⟩) rfl (fun K hK => ?_) AllReadyH.nil
            go_simp
            refine CK.out.mono ?_
            rintro e W3 ⟨rfl, t3, l3⟩
            have T3 := hide t3
            have I3 := hide (show TkI N U tb w W3 u from ⟨t3, ((II.out.below (drew_below wr)).b).kept l3 (fun z => z.2 rfl), II.out.e, II.out.le, II.out.nu⟩)
            clear t3 l3
            refine hK.out _ _ (XS.out _ T3.out.be) (fun hHeld => ?_)
            clear hK K
            try simp only [Act.put, List.setIfInBounds_toArray, List.set_cons_zero, List.set_cons_succ]
            refine wpAnyH_take (i := 11) (oi := _) (v := ?_) rfl (by kernel_rfl) (by kernel_rfl) (by kernel_rfl) (fun _ _ _ h => by cases h.1) (Or.inl ⟨by rfl, ?_⟩) (by assumption) ?_
            rotate_left
            · (intro Z hSw; go_simp; try with_reducible rfl)
            try simp only [Act.put, List.setIfInBounds_toArray, List.set_cons_zero, List.set_cons_succ]
            refine wpAnyH_take (i := 12) (oi := _) (v := ?_) rfl (by kernel_rfl) (by kernel_rfl) (by kernel_rfl) (fun _ _ _ h => by cases h.1) (Or.inl ⟨by rfl, ?_⟩) (by assumption) ?_
            rotate_left
            · (intro Z hSw; go_simp; try with_reducible rfl)
            try simp only [Act.put, List.setIfInBounds_toArray, List.set_cons_zero, List.set_cons_succ]
            refine wpAnyH_take (i := 13) (oi := _) (v := ?_) rfl (by kernel_rfl) (by kernel_rfl) (by kernel_rfl) (fun _ _ _ h => by cases h.1) (Or.inl ⟨by rfl, ?_⟩) (by assumption) ?_
            rotate_left
            · (intro Z hSw; go_simp; try with_reducible rfl)
            try simp only [Act.put, List.setIfInBounds_toArray, List.set_cons_zero, List.set_cons_succ]
            refine wpAnyH_take (i := 14) (oi := _) (v := ?_) rfl (by kernel_rfl) (by kernel_rfl) (by kernel_rfl) (fun _ _ _ h => by cases h.1) (Or.inl ⟨by rfl, ?_⟩) (by assumption) ?_
            rotate_left
            · (intro Z hSw; go_simp; try with_reducible rfl)
            try simp only [Act.put, List.setIfInBounds_toArray, List.set_cons_zero, List.set_cons_succ]
            refine wpAnyH_take (i := 15) (oi := _) (v := ?_) rfl (by kernel_rfl) (by kernel_rfl) (by kernel_rfl) (fun _ _ _ h => by cases h.1) (Or.inl ⟨by rfl, ?_⟩) (by assumption) ?_
            rotate_left
            · (intro Z hSw; go_simp; try with_reducible rfl)
            try simp only [Act.put, List.setIfInBounds_toArray, List.set_cons_zero, List.set_cons_succ]
            refine wpAnyH_done (by kernel_rfl) ⟨rfl, ?_⟩ _
            obtain ⟨x0, x1⟩ := XS.out _ I3.out.t.be
            clear hHeld CK
            have d1 := D1.out
            have d2 := D2.out
            go_wp2_with fail
            go_quiet (fail)
            have bq : Below W3.heap.size W3 (W3.drewN nq) := ⟨rfl, rfl, rfl, Nat.le_refl _, fun _ _ => rfl⟩
            have I4 := hide (I3.out.below bq)
            clear bq
            generalize W3.drewN nq = W4 at *
            obtain ⟨x0, x1⟩ := XS.out _ I4.out.t.be
            obtain ⟨TK, hTK⟩ : ∃ TK : World → Prop, TK = fun Z => TkI N U tb w Z u := ⟨_, rfl⟩
            have TKt := hide (show ∀ Z, TK Z → T9 N (fun x => x = U) w Z tb (tks u) from fun Z hZ => by rw [hTK] at hZ; exact hZ.t)
            have TKc := hide (show ∀ Z, TK Z → BoR Z U 1024 u from fun Z hZ => by rw [hTK] at hZ; exact hZ.b)
            have TKb := hide (show ∀ Z Z', TK Z → Below Z.heap.size Z Z' → TK Z' from fun Z Z' hZ k => by rw [hTK] at hZ ⊢; exact hZ.below k)
            have IX := hide (show TK W4 from by rw [hTK]; exact I4.out)
            have HTK := hide hTK
            clear hTK
            go_wp2_with fail
            go_loopw [11, 12] (fun wv kv wr2 => ∃ (j : Int) (c : Int), wv = .int .i64 c ∧ kv = .int .u64 j ∧ (A : Int) ≤ j ∧ j ≤ (A : Int) + (M : Int) ∧ (c = 0 ∨ c = 32) ∧ Hid ((c = 32 ↔ Hit u A j.toNat) ∧ TK wr2)) (fun _ kv _ => ((A : Int) + (M : Int) - intOf kv).toNat)
            case atStart => exact ⟨(A : Int), 0, rfl, rfl, by omega, by omega, .inl rfl, hide ⟨⟨fun z => (by cases z), fun ⟨y, y1, y2, y3⟩ => (by omega)⟩, IX.out⟩⟩
            case round =>
              obtain ⟨j, c, rfl, rfl, j0, j1, c01, HJ⟩ := hrel
              clear x0 x1 IX
              obtain ⟨x0, x1⟩ := XS.out _ (TKt.out _ HJ.out.2).be
              by_cases hj : j < (A : Int) + (M : Int)
              · have dj : decide (j < (A : Int) + (M : Int)) = true := decide_eq_true hj
                have j2 : j < 1024 := by omega
                have j3 : 0 ≤ j := by omega
                go_wp2_with fail
                go_quiet (fail)
                have HQ := hide (And.intro HJ.out.1 (TKb.out _ _ HJ.out.2 (show Below wr.heap.size wr (wr.drewN nq) from ⟨rfl, rfl, rfl, Nat.le_refl _, fun _ _ => rfl⟩)))
                generalize wr.drewN nq = W5 at *
                have x6 := (TKc.out _ HQ.out.2).cell j.toNat (by omega)
                obtain ⟨y, hy⟩ : ∃ y, u j.toNat = y := ⟨_, rfl⟩
                rw [hy] at x6
                have HYY := hide hy
                clear hy HJ x0 x1 dj
                cases y with
                | true =>
                  go_wp2_with fail
                  refine ⟨⟨j + 1, 32, rfl, rfl, by omega, by omega, .inr rfl, hide ⟨⟨fun _ => ⟨j.toNat, by omega, by omega, HYY.out⟩, fun _ => rfl⟩, HQ.out.2⟩⟩, ?_⟩
                  simp [intOf]; omega
                | false =>
                  have HN2 := hide (show c = 32 ↔ Hit u A (j + 1).toNat from by
                    constructor
                    · intro z
                      obtain ⟨y, y1, y2, y3⟩ := HQ.out.1.1 z
                      exact ⟨y, y1, by omega, y3⟩
                    · rintro ⟨y, y1, y2, y3⟩
                      rcases Nat.lt_or_ge y j.toNat with q | q
                      · exact HQ.out.1.2 ⟨y, y1, q, y3⟩
                      · exfalso
                        have e : y = j.toNat := by omega
                        rw [e, HYY.out] at y3
                        cases y3)
                  go_wp2_with fail
                  refine ⟨⟨j + 1, c, rfl, rfl, by omega, by omega, c01, hide ⟨HN2.out, HQ.out.2⟩⟩, ?_⟩
                  simp [intOf]; omega
              · have hj' : j = (A : Int) + (M : Int) := by omega
                have dj : decide (j < (A : Int) + (M : Int)) = false := decide_eq_false (by omega)
                have HC := hide (show c = 32 ↔ Hit u A (A + M) from by have h := HJ.out.1; rw [hj', show ((A : Int) + (M : Int)).toNat = A + M by omega] at h; exact h)
                clear hj hj'
                go_wp2_with fail
                go_quiet (fail)
                have IZ := hide (TKb.out _ _ HJ.out.2 (show Below wr.heap.size wr (wr.drewN nq) from ⟨rfl, rfl, rfl, Nat.le_refl _, fun _ _ => rfl⟩))
                generalize wr.drewN nq = W6 at *
                clear x0 x1 dj HJ
                obtain ⟨x0, x1⟩ := XS.out _ (TKt.out _ IZ.out).be
                have hc := HC.out.2 HH.out
                subst hc
                have I6 := hide (show TkI N U tb w W6 u from by have h := IZ.out; rw [HTK.out] at h; exact h)
                clear c01
                have CR := hide (t9_free I6.out.t)
                obtain ⟨fr, hfr⟩ : ∃ fr, frT (tks u) = fr := ⟨_, rfl⟩
                have ef : (fr : Int) = f := by rw [HFV.out, hfr]
                rw [hfr, ef] at CR
                go_wp2_with fail
                refine CR.out.mono ?_
                rintro e w6 ⟨rfl, t6, l6⟩
                have CQ := hide (t9_released t6)
                rw [I6.out.e, hfr, ef] at CQ
                go_wp2_with fail
                refine CQ.out.mono ?_
                rintro e w7 ⟨rfl, t7, l7⟩
                have I7 := hide (show TkI N U tb w w7 u from ⟨t7, (I6.out.b.kept l6 (fun z => z.2 rfl)).kept l7 (fun z => z.2 rfl), I6.out.e, I6.out.le, I6.out.nu⟩)
                clear t6 t7 l6 l7 CR CQ
                go_wp2_with fail
                go_roundw
                case rel => exact ⟨k + 1, f, rfl, by go_num, by omega, by omega, by omega, by omega, by omega, hide ⟨_, I7.out, HFV.out⟩⟩
                case measure => simp [intOf]; omega
          · have CK := hide (t9_take (II.out.below (drew_below wr)).t (1024 + A) M (tks_in.2 ⟨m0, hAM⟩) (by rw [tks_alike hAM hh]; rfl))
            rw [tks_alike hAM hh, show (tlOf 3 M).r = M from rfl, tks_more u A M hAM] at CK
            have LFT := hide (tks_left u A M hAM hh)
            have HH := hide hh
            clear m0 hh
            rw [show ((1024 + A : Nat) : Int) = 1024 + (A : Int) from rfl] at CK
            go_wp2_with fail
            refine norm0 ?_
            refine wp_region_held_drew (S := fun Z => Z.cell? ⟨b0, off0 + k.toNat, none⟩ = some (.int .u64 (A : Nat)) ∧ Z.cell? ⟨b1, off1 + k.toNat, none⟩ = some (.int .u64 (M : Nat))) (by kernel_rfl) ⟨x0, x1⟩ (fun hHeld => ?_)
            refine wpAnyH_take (i := 0) (oi := _) (v := ?_) rfl (by kernel_rfl) (by kernel_rfl) (by kernel_rfl) (fun _ _ _ h => by cases h.1) (Or.inl ⟨by rfl, ?_⟩) (by assumption) ?_
            rotate_left
            · (intro Z hSw; go_simp; try with_reducible rfl)
            try simp only [Act.put, List.setIfInBounds_toArray, List.set_cons_zero, List.set_cons_succ]
            refine wpAnyH_take (i := 1) (oi := _) (v := ?_) rfl (by kernel_rfl) (by kernel_rfl) (by kernel_rfl) (fun _ _ _ h => by cases h.1) (Or.inl ⟨by rfl, ?_⟩) (by assumption) ?_
            rotate_left
            · (intro Z hSw; go_simp; try with_reducible rfl)
            try simp only [Act.put, List.setIfInBounds_toArray, List.set_cons_zero, List.set_cons_succ]
            refine wpAnyH_take (i := 2) (oi := _) (v := ?_) rfl (by kernel_rfl) (by kernel_rfl) (by kernel_rfl) (fun _ _ _ h => by cases h.1) (Or.inl ⟨by rfl, ?_⟩) (by assumption) ?_
            rotate_left
            · (intro Z hSw; go_simp; try with_reducible rfl)
            try simp only [Act.put, List.setIfInBounds_toArray, List.set_cons_zero, List.set_cons_succ]
            refine wpAnyH_take (i := 3) (oi := _) (v := ?_) rfl (by kernel_rfl) (by kernel_rfl) (by kernel_rfl) (fun _ _ _ h => by cases h.1) (Or.inl ⟨by rfl, ?_⟩) (by assumption) ?_
            rotate_left
            · (intro Z hSw; go_simp; try with_reducible rfl)
            try simp only [Act.put, List.setIfInBounds_toArray, List.set_cons_zero, List.set_cons_succ]
            refine wpAnyH_take (i := 4) (oi := _) (v := ?_) rfl (by kernel_rfl) (by kernel_rfl) (by kernel_rfl) (fun _ _ _ h => by cases h.1) (Or.inl ⟨by rfl, ?_⟩) (by assumption) ?_
            rotate_left
            · (intro Z hSw; obtain ⟨s0, s1⟩ := hSw; go_simp; try with_reducible rfl)
            try simp only [Act.put, List.setIfInBounds_toArray, List.set_cons_zero, List.set_cons_succ]
            refine wpAnyH_take (i := 5) (oi := _) (v := ?_) rfl (by kernel_rfl) (by kernel_rfl) (by kernel_rfl) (fun _ _ _ h => by cases h.1) (Or.inl ⟨by rfl, ?_⟩) (by assumption) ?_
            rotate_left
            · (intro Z hSw; go_simp; try with_reducible rfl)
            try simp only [Act.put, List.setIfInBounds_toArray, List.set_cons_zero, List.set_cons_succ]
            refine wpAnyH_take (i := 6) (oi := _) (v := ?_) rfl (by kernel_rfl) (by kernel_rfl) (by kernel_rfl) (fun _ _ _ h => by cases h.1) (Or.inl ⟨by rfl, ?_⟩) (by assumption) ?_
            rotate_left
            · (intro Z hSw; go_simp; try with_reducible rfl)
            try simp only [Act.put, List.setIfInBounds_toArray, List.set_cons_zero, List.set_cons_succ]
            refine wpAnyH_take (i := 7) (oi := _) (v := ?_) rfl (by kernel_rfl) (by kernel_rfl) (by kernel_rfl) (fun _ _ _ h => by cases h.1) (Or.inl ⟨by rfl, ?_⟩) (by assumption) ?_
            rotate_left
            · (intro Z hSw; go_simp; try with_reducible rfl)
            try simp only [Act.put, List.setIfInBounds_toArray, List.set_cons_zero, List.set_cons_succ]
            refine wpAnyH_take (i := 8) (oi := _) (v := ?_) rfl (by kernel_rfl) (by kernel_rfl) (by kernel_rfl) (fun _ _ _ h => by cases h.1) (Or.inl ⟨by rfl, ?_⟩) (by assumption) ?_
            rotate_left
            · (intro Z hSw; go_simp; try with_reducible rfl)
            try simp only [Act.put, List.setIfInBounds_toArray, List.set_cons_zero, List.set_cons_succ]
            refine wpAnyH_take (i := 9) (oi := _) (v := ?_) rfl (by kernel_rfl) (by kernel_rfl) (by kernel_rfl) (fun _ _ _ h => by cases h.1) (Or.inl ⟨by rfl, ?_⟩) (by assumption) ?_
            rotate_left
            · (intro Z hSw; obtain ⟨s0, s1⟩ := hSw; go_simp; try with_reducible rfl)
            try simp only [Act.put, List.setIfInBounds_toArray, List.set_cons_zero, List.set_cons_succ]
            refine wpAnyH_ready (rs := [10]) (by kernel_rfl) (by simp) ?_
            refine AllReadyH.cons (o := ⟨some 70, _, _, _, _, _⟩) rfl (fun K hK => ?_) AllReadyH.nil
            go_simp
            refine CK.out.mono ?_
            rintro e W3 ⟨rfl, t3, l3⟩
            have T3 := hide t3
            have B3 := hide (((II.out.below (drew_below wr)).b).kept l3 (fun z => z.2 rfl))
            clear t3 l3
            refine hK.out _ _ (XS.out _ T3.out.be) (fun hHeld => ?_)
            clear hK K
            try simp only [Act.put, List.setIfInBounds_toArray, List.set_cons_zero, List.set_cons_succ]
            refine wpAnyH_take (i := 11) (oi := _) (v := ?_) rfl (by kernel_rfl) (by kernel_rfl) (by kernel_rfl) (fun _ _ _ h => by cases h.1) (Or.inl ⟨by rfl, ?_⟩) (by assumption) ?_
            rotate_left
            · (intro Z hSw; go_simp; try with_reducible rfl)
            try simp only [Act.put, List.setIfInBounds_toArray, List.set_cons_zero, List.set_cons_succ]
            refine wpAnyH_take (i := 12) (oi := _) (v := ?_) rfl (by kernel_rfl) (by kernel_rfl) (by kernel_rfl) (fun _ _ _ h => by cases h.1) (Or.inl ⟨by rfl, ?_⟩) (by assumption) ?_
            rotate_left
            · (intro Z hSw; go_simp; try with_reducible rfl)
            try simp only [Act.put, List.setIfInBounds_toArray, List.set_cons_zero, List.set_cons_succ]
            refine wpAnyH_take (i := 13) (oi := _) (v := ?_) rfl (by kernel_rfl) (by kernel_rfl) (by kernel_rfl) (fun _ _ _ h => by cases h.1) (Or.inl ⟨by rfl, ?_⟩) (by assumption) ?_
            rotate_left
            · (intro Z hSw; go_simp; try with_reducible rfl)
            try simp only [Act.put, List.setIfInBounds_toArray, List.set_cons_zero, List.set_cons_succ]
            refine wpAnyH_take (i := 14) (oi := _) (v := ?_) rfl (by kernel_rfl) (by kernel_rfl) (by kernel_rfl) (fun _ _ _ h => by cases h.1) (Or.inl ⟨by rfl, ?_⟩) (by assumption) ?_
            rotate_left
            · (intro Z hSw; go_simp; try with_reducible rfl)
            try simp only [Act.put, List.setIfInBounds_toArray, List.set_cons_zero, List.set_cons_succ]
            refine wpAnyH_take (i := 15) (oi := _) (v := ?_) rfl (by kernel_rfl) (by kernel_rfl) (by kernel_rfl) (fun _ _ _ h => by cases h.1) (Or.inl ⟨by rfl, ?_⟩) (by assumption) ?_
            rotate_left
            · (intro Z hSw; go_simp; try with_reducible rfl)
            try simp only [Act.put, List.setIfInBounds_toArray, List.set_cons_zero, List.set_cons_succ]
            refine wpAnyH_done (by kernel_rfl) ⟨rfl, ?_⟩ _
            obtain ⟨x0, x1⟩ := XS.out _ T3.out.be
            clear hHeld CK
            have d1 := D1.out
            have d2 := D2.out
            obtain ⟨TK, hTK⟩ : ∃ TK : World → Prop, TK = fun Z => T9 N (fun x => x = U) w Z tb (tks (uni u A (A + M))) ∧ BoR Z U 1024 u := ⟨_, rfl⟩
            have TKt := hide (show ∀ Z, TK Z → T9 N (fun x => x = U) w Z tb (tks (uni u A (A + M))) from fun Z hZ => by rw [hTK] at hZ; exact hZ.1)
            have TKc := hide (show ∀ Z, TK Z → BoR Z U 1024 u from fun Z hZ => by rw [hTK] at hZ; exact hZ.2)
            have TKb := hide (show ∀ Z Z', TK Z → Below Z.heap.size Z Z' → TK Z' from fun Z Z' hZ k => by rw [hTK] at hZ ⊢; exact ⟨(hZ.1.read k).1, hZ.2.below k⟩)
            have I3 := hide (show TK W3 from by rw [hTK]; exact ⟨T3.out, B3.out⟩)
            clear hTK T3 B3
            go_wp2_with fail
            go_quiet (fail)
            have IX := hide (TKb.out _ _ I3.out (show Below W3.heap.size W3 (W3.drewN nq) from ⟨rfl, rfl, rfl, Nat.le_refl _, fun _ _ => rfl⟩))
            generalize W3.drewN nq = W4 at *
            clear x0 x1
            obtain ⟨x0, x1⟩ := XS.out _ (TKt.out _ IX.out).be
            go_wp2_with fail
            go_loopw [11, 12] (fun wv kv wr2 => ∃ (j : Int) (c : Int), wv = .int .i64 c ∧ kv = .int .u64 j ∧ (A : Int) ≤ j ∧ j ≤ (A : Int) + (M : Int) ∧ (c = 0 ∨ c = 32) ∧ Hid ((c = 32 ↔ Hit u A j.toNat) ∧ TK wr2)) (fun _ kv _ => ((A : Int) + (M : Int) - intOf kv).toNat)
            case atStart => exact ⟨(A : Int), 0, rfl, rfl, by omega, by omega, .inl rfl, hide ⟨⟨fun z => (by cases z), fun ⟨y, y1, y2, y3⟩ => (by omega)⟩, IX.out⟩⟩
            case round =>
              obtain ⟨j, c, rfl, rfl, j0, j1, c01, HJ⟩ := hrel
              clear x0 x1 IX
              obtain ⟨x0, x1⟩ := XS.out _ (TKt.out _ HJ.out.2).be
              by_cases hj : j < (A : Int) + (M : Int)
              · have dj : decide (j < (A : Int) + (M : Int)) = true := decide_eq_true hj
                have j2 : j < 1024 := by omega
                have j3 : 0 ≤ j := by omega
                go_wp2_with fail
                go_quiet (fail)
                have HQ := hide (And.intro HJ.out.1 (TKb.out _ _ HJ.out.2 (show Below wr.heap.size wr (wr.drewN nq) from ⟨rfl, rfl, rfl, Nat.le_refl _, fun _ _ => rfl⟩)))
                generalize wr.drewN nq = W5 at *
                have x6 := (TKc.out _ HQ.out.2).cell j.toNat (by omega)
                obtain ⟨y, hy⟩ : ∃ y, u j.toNat = y := ⟨_, rfl⟩
                rw [hy] at x6
                have HYY := hide hy
                clear hy HJ x0 x1 dj
                cases y with
                | true =>
                  go_wp2_with fail
                  refine ⟨⟨j + 1, 32, rfl, rfl, by omega, by omega, .inr rfl, hide ⟨⟨fun _ => ⟨j.toNat, by omega, by omega, HYY.out⟩, fun _ => rfl⟩, HQ.out.2⟩⟩, ?_⟩
                  simp [intOf]; omega
                | false =>
                  have HN2 := hide (show c = 32 ↔ Hit u A (j + 1).toNat from by
                    constructor
                    · intro z
                      obtain ⟨y, y1, y2, y3⟩ := HQ.out.1.1 z
                      exact ⟨y, y1, by omega, y3⟩
                    · rintro ⟨y, y1, y2, y3⟩
                      rcases Nat.lt_or_ge y j.toNat with q | q
                      · exact HQ.out.1.2 ⟨y, y1, q, y3⟩
                      · exfalso
                        have e : y = j.toNat := by omega
                        rw [e, HYY.out] at y3
                        cases y3)
                  go_wp2_with fail
                  refine ⟨⟨j + 1, c, rfl, rfl, by omega, by omega, c01, hide ⟨HN2.out, HQ.out.2⟩⟩, ?_⟩
                  simp [intOf]; omega
              · have hj' : j = (A : Int) + (M : Int) := by omega
                have dj : decide (j < (A : Int) + (M : Int)) = false := decide_eq_false (by omega)
                have HC := hide (show c = 32 ↔ Hit u A (A + M) from by have h := HJ.out.1; rw [hj', show ((A : Int) + (M : Int)).toNat = A + M by omega] at h; exact h)
                clear hj hj'
                go_wp2_with fail
                go_quiet (fail)
                have IZ := hide (TKb.out _ _ HJ.out.2 (show Below wr.heap.size wr (wr.drewN nq) from ⟨rfl, rfl, rfl, Nat.le_refl _, fun _ _ => rfl⟩))
                generalize wr.drewN nq = W6 at *
                clear x0 x1 dj HJ
                obtain ⟨x0, x1⟩ := XS.out _ (TKt.out _ IZ.out).be
                have hc : c = 0 := c01.resolve_right (fun z => HH.out (HC.out.1 z))
                subst hc
                clear c01
                go_wp2_with fail
                go_loopw [13] (fun kv wr2 => ∃ j : Int, kv = .int .u64 j ∧ (A : Int) ≤ j ∧ j ≤ (A : Int) + (M : Int) ∧ Hid (T9 N (fun x => x = U) w wr2 tb (tks (uni u A (A + M))) ∧ BoR wr2 U 1024 (uni u A j.toNat))) (fun kv _ => ((A : Int) + (M : Int) - intOf kv).toNat)
                case atStart => exact ⟨(A : Int), rfl, by omega, by omega, hide ⟨TKt.out _ IZ.out, (TKc.out _ IZ.out).congr (fun q hq => by unfold uni; rw [show decide (A ≤ q ∧ q < ((A : Int)).toNat) = false from decide_eq_false (by omega), Bool.or_false])⟩⟩
                case round =>
                  obtain ⟨j, rfl, j0, j1, HJ⟩ := hrel
                  clear x0 x1
                  obtain ⟨x0, x1⟩ := XS.out _ HJ.out.1.be
                  by_cases hj : j < (A : Int) + (M : Int)
                  · have dj : decide (j < (A : Int) + (M : Int)) = true := decide_eq_true hj
                    have j2 : j < 1024 := by omega
                    have j3 : 0 ≤ j := by omega
                    go_wp2_with fail
                    go_quiet (fail)
                    have bq : Below wr.heap.size wr (wr.drewN nq) := ⟨rfl, rfl, rfl, Nat.le_refl _, fun _ _ => rfl⟩
                    have HQ := hide (And.intro (HJ.out.1.read bq).1 (HJ.out.2.below bq))
                    clear bq
                    generalize wr.drewN nq = W5 at *
                    have x6 := HQ.out.2.cell j.toNat (by omega)
                    have z6 := HQ.out.2.fz j.toNat
                    have l6 := HQ.out.2.lt
                    clear HJ x0 x1 dj
                    go_wp2_with fail
                    have hset := HQ.out.2.set j.toNat (by omega) true
                    have kz := kept_set (F := fun x => x = U) W5 U j.toNat (.bool true) rfl
                    refine ⟨⟨j + 1, rfl, by omega, by omega, hide ⟨HQ.out.1.own kz (fun x hx => ⟨hx, by rw [hx]; exact II.out.nu⟩), hset.congr (fun q hq => ?_)⟩⟩, ?_⟩
                    · unfold uni
                      by_cases e : q = j.toNat
                      · rw [if_pos e, show decide (A ≤ q ∧ q < (j + 1).toNat) = true from decide_eq_true (by omega), Bool.or_true]
                      · rw [if_neg e]
                        congr 1
                        rw [decide_eq_decide]
                        omega
                    · simp [intOf]; omega
                  · have hj' : j = (A : Int) + (M : Int) := by omega
                    have dj : decide (j < (A : Int) + (M : Int)) = false := decide_eq_false (by omega)
                    have HB := hide (show BoR wr U 1024 (uni u A (A + M)) from by have h := HJ.out.2; rw [hj', show ((A : Int) + (M : Int)).toNat = A + M by omega] at h; exact h)
                    clear hj hj'
                    go_wp2_with fail
                    go_quiet (fail)
                    have bq : Below wr.heap.size wr (wr.drewN nq) := ⟨rfl, rfl, rfl, Nat.le_refl _, fun _ _ => rfl⟩
                    have I9 := hide (show TkI N U tb w (wr.drewN nq) (uni u A (A + M)) from ⟨(HJ.out.1.read bq).1, HB.out.below bq, by have := II.out.e; have := LFT.out; omega, by have := II.out.le; have := LFT.out; omega, II.out.nu⟩)
                    clear bq HJ HB dj
                    generalize wr.drewN nq = W9 at *
                    clear x0 x1
                    obtain ⟨x0, x1⟩ := XS.out _ I9.out.t.be
                    have fM : (M : Int) ≤ f := by have := LFT.out.1; have := HFV.out; omega
                    obtain ⟨fr, hfr⟩ : ∃ fr, frT (tks (uni u A (A + M))) = fr := ⟨_, rfl⟩
                    have ef : (fr : Int) = f - (M : Int) := by have := LFT.out.1; have := HFV.out; omega
                    have CR := hide (t9_free I9.out.t)
                    rw [hfr, ef] at CR
                    go_wp2_with fail
                    refine CR.out.mono ?_
                    rintro e w6 ⟨rfl, t6, l6⟩
                    have CQ := hide (t9_released t6)
                    rw [I9.out.e, hfr, ef] at CQ
                    go_wp2_with fail
                    refine CQ.out.mono ?_
                    rintro e w7 ⟨rfl, t7, l7⟩
                    have I7 := hide (show TkI N U tb w w7 (uni u A (A + M)) from ⟨t7, (I9.out.b.kept l6 (fun z => z.2 rfl)).kept l7 (fun z => z.2 rfl), I9.out.e, I9.out.le, I9.out.nu⟩)
                    clear t6 t7 l6 l7 CR CQ
                    go_wp2_with fail
                    go_roundw
                    case rel => exact ⟨k + 1, f - (M : Int), by go_num, by go_num, by omega, by omega, by omega, by omega, by omega, hide ⟨_, I7.out, by rw [hfr, ef]⟩⟩
                    case measure => simp [intOf]; omega
    · obtain ⟨u, hI, hf⟩ := HI.out
      have II := hide hI
      clear HI hI hf
      by_cases hk1 : k < l0
      · have hk2 : (l1 : Int) ≤ k := by omega
        clear hk
        go_wp2_with fail
        go_loopw [14] (fun kv wr2 => ∃ j : Int, kv = .int .u64 j ∧ 0 ≤ j ∧ j ≤ 1024 ∧ Hid (TkI N U tb w wr2 u)) (fun kv _ => (1024 - intOf kv).toNat)
        case atStart => exact ⟨0, rfl, by omega, by omega, II⟩
        case round =>
          clear II
          obtain ⟨j, rfl, j0, j1, HJ⟩ := hrel
          by_cases hj : j < 1024
          · have CS := hide (t9_state HJ.out.t (1024 + j.toNat) (by omega))
            obtain ⟨s1, s2, s3⟩ := tks_state u j.toNat (by omega)
            rw [s1, s2, s3, show ((1024 + j.toNat : Nat) : Int) = 1024 + j by omega] at CS
            obtain ⟨y, hy⟩ : ∃ y, u j.toNat = y := ⟨_, rfl⟩
            rw [hy] at CS
            have HYY := hide hy
            clear s1 s2 s3 hy
            go_wp2_with fail
            refine CS.out.mono ?_
            rintro e w8 ⟨rfl, t8, l8⟩
            have I8 := hide (show TkI N U tb w w8 u from ⟨t8, HJ.out.b.kept l8 (fun z => z.2 rfl), HJ.out.e, HJ.out.le, HJ.out.nu⟩)
            have x6 := I8.out.b.cell j.toNat (by omega)
            rw [HYY.out] at x6
            clear t8 l8 CS HJ
            cases y with
            | true =>
              go_wp2_with fail
              refine ⟨⟨j + 1, rfl, by omega, by omega, I8⟩, ?_⟩
              simp [intOf]; omega
            | false =>
              go_wp2_with fail
              refine ⟨⟨j + 1, rfl, by omega, by omega, I8⟩, ?_⟩
              simp [intOf]; omega
          · have hj' : 1024 ≤ j := by omega
            have CW := hide (awake_any HJ.out.t.tab)
            have B7 := hide HJ.out.t.be
            have L7 := hide HJ.out.t.tr.lt.2.2
            clear HJ hj
            go_wp2_with fail
            refine CW.out.mono ?_
            rintro e w9 ⟨rfl, b9⟩
            have F := hide (FIN.out _ (B7.out.trans (b9.mono L7.out)))
            clear CW b9
            go_wp2_with fail
            try go_ret
            exact F.out
      · have hk2 : (l0 : Int) ≤ k := by omega
        clear hk hk1
        go_wp2_with fail
        go_loopw [14] (fun kv wr2 => ∃ j : Int, kv = .int .u64 j ∧ 0 ≤ j ∧ j ≤ 1024 ∧ Hid (TkI N U tb w wr2 u)) (fun kv _ => (1024 - intOf kv).toNat)
        case atStart => exact ⟨0, rfl, by omega, by omega, II⟩
        case round =>
          clear II
          obtain ⟨j, rfl, j0, j1, HJ⟩ := hrel
          by_cases hj : j < 1024
          · have CS := hide (t9_state HJ.out.t (1024 + j.toNat) (by omega))
            obtain ⟨s1, s2, s3⟩ := tks_state u j.toNat (by omega)
            rw [s1, s2, s3, show ((1024 + j.toNat : Nat) : Int) = 1024 + j by omega] at CS
            obtain ⟨y, hy⟩ : ∃ y, u j.toNat = y := ⟨_, rfl⟩
            rw [hy] at CS
            have HYY := hide hy
            clear s1 s2 s3 hy
            go_wp2_with fail
            refine CS.out.mono ?_
            rintro e w8 ⟨rfl, t8, l8⟩
            have I8 := hide (show TkI N U tb w w8 u from ⟨t8, HJ.out.b.kept l8 (fun z => z.2 rfl), HJ.out.e, HJ.out.le, HJ.out.nu⟩)
            have x6 := I8.out.b.cell j.toNat (by omega)
            rw [HYY.out] at x6
            clear t8 l8 CS HJ
            cases y with
            | true =>
              go_wp2_with fail
              refine ⟨⟨j + 1, rfl, by omega, by omega, I8⟩, ?_⟩
              simp [intOf]; omega
            | false =>
              go_wp2_with fail
              refine ⟨⟨j + 1, rfl, by omega, by omega, I8⟩, ?_⟩
              simp [intOf]; omega
          · have hj' : 1024 ≤ j := by omega
            have CW := hide (awake_any HJ.out.t.tab)
            have B7 := hide HJ.out.t.be
            have L7 := hide HJ.out.t.tr.lt.2.2
            clear HJ hj
            go_wp2_with fail
            refine CW.out.mono ?_
            rintro e w9 ⟨rfl, b9⟩
            have F := hide (FIN.out _ (B7.out.trans (b9.mono L7.out)))
            clear CW b9
            go_wp2_with fail
            try go_ret
            exact F.out
end Go.Proofs.YtnpimmjkmclkpabDoor
