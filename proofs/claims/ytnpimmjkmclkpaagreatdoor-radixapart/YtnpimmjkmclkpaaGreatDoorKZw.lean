/- RadixPlays: whatever is done to a tree and to the reference's: each answer, and all that is told behind it. -/
import Derived.Test.YtnpimmjkmclkpaaGreatDoorJ30
namespace Go.Proofs.YtnpimmjkmclkpaaGreatDoor
open Go.ChangeShapes Go.WideShapes Go.ChangeAt Go.RowKit Go.Proofs.Bt Go.Shelf Go.Proofs.Rx Go.Maps Go.Proofs.Pk
set_option linter.unusedVariables false
set_option linter.unusedSimpArgs false

theorem mt_nil : Mt (fun _ => 0) [] := ⟨List.Pairwise.nil, fun x hx => absurd hx (by simp), List.Pairwise.nil, fun x hx => absurd hx (by simp), fun q hq => absurd rfl hq, fun q => Nat.zero_le _⟩
section
variable {N : Nat} {O : Nat → Prop} {w W W' : World} {tb rb M : Nat}
/-- A new one of the reference beside a new tree. -/
theorem both_new (t : T9 N O w W tb (fun _ => 0)) (hW : W' = W.alloc (.cells #[.slice none 0 0] 29)) (hr : rb = W.heap.size) : Both N O w W' tb rb (fun _ => 0) [] (fun x => x = rb) none 0 := by
  have b : Below W.heap.size W W' := by rw [hW]; exact (Below.refl _ W).alloc (Nat.le_refl _) _
  have s : W'.heap.size = W.heap.size + 1 := by rw [hW]; simp
  have f : W'.heap[rb]? = some (.cells #[.slice none 0 0] 29 (0, 0)) := by rw [hW, hr]; exact World.alloc_heap_new W _
  refine ⟨t.more b (fun x hx => ?_), ⟨⟨?_, ?_, World.ownsRow_nil _ _ _ _, fun i hi => ?_, List.Pairwise.nil, fun p hp => absurd hp (by simp [pts])⟩, mt_nil, fun x hx => ?_⟩, fun x hx z => ?_⟩
  · rcases hx with z | z
    · exact .inr ⟨by omega, by omega⟩
    · exact .inl z
  · show W'.cell? ⟨rb, 0, none⟩ = _
    simp [World.cell?, f, pts]
  · simp [World.frozen?, f]
  · simp [pts] at hi
  · rcases hx with z | z | ⟨y, hy, _⟩
    · exact z
    · cases z
    · cases hy
  · have := (t.inO z).2
    omega
theorem BothE.tab (h : BothE N O w W tb rb M) : TabW W := by
  obtain ⟨st, Q, F, o, k, h, _⟩ := h
  exact h.t.tab
theorem BothE.be (h : BothE N O w W tb rb M) : Below N w W ∧ N ≤ W.heap.size := by
  obtain ⟨st, Q, F, o, k, h, _⟩ := h
  exact ⟨h.t.be, h.t.tr.lt.2.2⟩
theorem BothE.act (h : BothE N O w W tb rb M) (hM : M ≤ 40) (a : Int) (x y : Nat) (hx : x < 18446744073709551616) (hy : y < 18446744073709551616) (M' : Nat) (hM' : M + more9 a y ≤ M') :
    Calls Tryz.prog 7 #[.pointer (some ⟨tb, 0, none⟩), .pointer (some ⟨rb, 0, none⟩), .agg #[.int .i64 a, .int .u64 (x : Nat), .int .u64 (y : Nat)]] W (ActR N O w W tb rb M') := by
  obtain ⟨st, Q, F, o, k, h, hq⟩ := h
  exact act_any h (by omega) a x y hx hy M' (by omega)
theorem BothE.same (h : BothE N O w W tb rb M) (hM : M ≤ 40) (step : Int) (s1 : 1 ≤ step) (s2 : step ≤ 512) :
    Calls Tryz.prog 8 #[.pointer (some ⟨tb, 0, none⟩), .pointer (some ⟨rb, 0, none⟩), .int .i64 step] W (ActR N O w W tb rb M) := by
  obtain ⟨st, Q, F, o, k, h, hq⟩ := h
  exact (same_any h (by omega) step s1 s2).mono fun e W' ⟨e1, e2, e3⟩ => ⟨e1, ⟨st, Q, F, o, k, e2, hq⟩, e3⟩
end
set_option maxRecDepth 100000 in
set_option maxHeartbeats 4000000 in
theorem plays_any (w : World) (ht : TabW w) (o : Option Addr) (len cap : Nat) (hA : len ≤ maxLen ∧ len ≤ cap ∧ ∃ X, ActsAt w o len cap X) :
    Calls Tryz.prog 3 #[.slice o len cap] w fun e w' => e = .returned (.bool true) ∧ Below w.heap.size w w' := by
  obtain ⟨hm, hc, X, hX⟩ := hA
  obtain ⟨N, hN⟩ : ∃ N, w.heap.size = N := ⟨_, rfl⟩
  obtain ⟨R, hR⟩ : ∃ R : Ending → World → Prop, R = fun e w' => e = .returned (.bool true) ∧ Below w.heap.size w w' := ⟨_, rfl⟩
  rw [← hR]
  have FIN := hide (show ∀ W, Below N w W → R (.returned (.bool true)) W from fun W hW => by rw [hR]; exact ⟨rfl, by rw [hN]; exact hW⟩)
  have CH := hide (heavy_any w o len cap X hX hm)
  have CN := hide (t9_new ht hN)
  have HX := hide hX
  have HN := hide hN
  clear hR hX hm hc hN ht
  go_enter Tryz.func3, Tryz.ntmps3
  go_wp2_with fail
  refine CH.out.mono ?_
  rintro e w0 ⟨(rfl | ⟨rfl, hl, hg⟩), hw0⟩
  · rw [hw0]
    have F0 := hide (FIN.out w (Below.refl _ _))
    clear hw0 CH CN FIN
    go_wp2_with fail
    first | exact F0.out | (go_ret; exact F0.out)
  rw [hw0]
  have HG := hide (show ∀ i, i ≤ len → gsum X i ≤ 40 from fun i hi => Nat.le_trans (gsum_mono X hi) hg)
  have l1 : (len : Int) ≤ 150 := by omega
  have l0 : 0 ≤ (len : Int) := by omega
  clear hw0 CH hg hl w0
  go_wp2_with fail
  refine CN.out.mono ?_
  rintro e w1 ⟨tb, rfl, t1⟩
  obtain ⟨w2, hw2⟩ : ∃ w2, w1.alloc (.cells #[.slice none 0 0] 29) = w2 := ⟨_, rfl⟩
  obtain ⟨rb, hrb⟩ : ∃ rb, w1.heap.size = rb := ⟨_, rfl⟩
  have I0 := hide (show BothE N (fun _ => False) w w2 tb rb (gsum X 0) from ⟨_, _, _, _, _, both_new t1 hw2.symm hrb.symm, Nat.le_refl _⟩)
  have W2 := hide hw2
  have HRB := hide hrb
  clear t1 CN hw2 hrb
  go_wp2_with fail
  rw [W2.out, HRB.out]
  clear W2 HRB
  go_loopw [5] (fun iv wr => ∃ i : Int, iv = .int .i64 i ∧ 0 ≤ i ∧ i ≤ len ∧ Hid (BothE N (fun _ => False) w wr tb rb (gsum X i.toNat))) (fun iv _ => (len - intOf iv).toNat)
  case atStart => exact ⟨0, rfl, by omega, by omega, I0⟩
  case round =>
    clear I0
    obtain ⟨i, rfl, i0, i1, HI⟩ := hrel
    by_cases hi : i < len
    · obtain ⟨b, off, rfl, hb, hcl⟩ := HX.out.at (i := i.toNat) (by omega)
      obtain ⟨c0, c1, c2⟩ := hcl i.toNat (by omega)
      have be := HI.out.be.1.block b (by rw [← HN.out]; exact hb)
      have d0 := (cell_block be _).trans c0
      have d1 := (cell_block be _).trans c1
      have d2 := (cell_block be _).trans c2
      have ok := HX.out.ok i.toNat
      have GS := HG.out (i + 1).toNat (by omega)
      have G0 := HG.out i.toNat (by omega)
      have CA := hide (HI.out.act G0 (X i.toNat).what (X i.toNat).i (X i.toNat).n ok.b1 ok.c1 (gsum X (i + 1).toNat) (by rw [show (i + 1).toNat = i.toNat + 1 by omega]; exact Nat.le_refl _))
      have CS := hide (fun Z (hZ : BothE N (fun _ => False) w Z tb rb (gsum X (i + 1).toNat)) => hZ.same GS 37 (by omega) (by omega))
      generalize X i.toNat = A at d0 d1 d2 CA
      clear hcl hb c0 c1 c2 be ok GS G0 HI
      by_cases h16 : i % 16 = 15
      · have q16 : (i % 16 == 15) = true := beq_iff_eq.2 h16
        clear h16
        go_wp2_with fail
        refine CA.out.mono ?_
        rintro e w3 ⟨rfl, h3, -⟩
        have C3 := hide (CS.out w3 h3)
        clear CA CS h3 d0 d1 d2
        go_wp2_with fail
        refine C3.out.mono ?_
        rintro e w4 ⟨rfl, h4, -⟩
        have H4 := hide h4
        clear C3 h4
        go_wp2_with fail
        refine ⟨⟨i + 1, by go_num, by omega, by omega, H4⟩, ?_⟩
        simp [intOf]; omega
      · have q16 : (i % 16 == 15) = false := beq_eq_false_iff_ne.2 h16
        clear h16
        go_wp2_with fail
        refine CA.out.mono ?_
        rintro e w3 ⟨rfl, h3, -⟩
        have H3 := hide h3
        clear CA CS h3 d0 d1 d2
        go_wp2_with fail
        refine ⟨⟨i + 1, by go_num, by omega, by omega, H3⟩, ?_⟩
        simp [intOf]; omega
    · have hi' : (len : Int) ≤ i := by omega
      have CS := hide (HI.out.same (HG.out i.toNat (by omega)) 1 (by omega) (by omega))
      have hd : decide (i < (len : Int)) = false := decide_eq_false hi
      clear hi HI
      go_wp2_with fail
      refine CS.out.mono ?_
      rintro e w3 ⟨rfl, h3, -⟩
      have CW := hide (awake_any h3.tab)
      have B3 := hide h3.be
      clear h3 CS
      go_wp2_with fail
      refine CW.out.mono ?_
      rintro e w4 ⟨rfl, b4⟩
      have F0 := hide (FIN.out _ (B3.out.1.trans (b4.mono B3.out.2)))
      clear CW b4 FIN
      go_wp2_with fail
      first | exact F0.out | (go_ret; exact F0.out)
end Go.Proofs.YtnpimmjkmclkpaaGreatDoor
