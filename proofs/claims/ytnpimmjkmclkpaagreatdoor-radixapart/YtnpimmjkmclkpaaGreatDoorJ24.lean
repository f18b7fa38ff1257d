/- J24 of the proof of both laws: texts Zl, Mf, one behind the other. -/
import Derived.Test.YtnpimmjkmclkpaaGreatDoorJ23
import Derived.Test.YtnpimmjkmclkpaaGreatDoorJ16
/- The reference's tree: Grow: its contract. -/
namespace Go.Proofs.YtnpimmjkmclkpaaGreatDoor
open Go.ChangeShapes Go.WideShapes Go.ChangeAt Go.RowKit Go.Proofs.Bt Go.Shelf Go.Proofs.Rx Go.Maps Go.Proofs.Pk
set_option linter.unusedVariables false
set_option linter.unusedSimpArgs false

theorem own_emptyP (w : World) : (w.alloc (.cells #[] 64)).ownsRow w.heap.size 64 2 (.slice (some ⟨w.heap.size, 0, none⟩) 0 0) 0 [] :=
  World.ownsRow_made w #[] 0 (Nat.le_refl _) (by decide) rfl
section
variable {F : Nat → Prop} {W : World} {rb : Nat} {st : Nat → Nat} {Q : List (Nat × Nat)} {o : Option Addr} {k : Nat}
set_option maxRecDepth 100000 in
theorem r9_grow_bad (h : RefAt F W rb st Q o k) (c n : Nat) (hc : c < 18446744073709551616) (hn : n < 18446744073709551616) (hb : GrowBad c n) :
    Calls Tryz.prog 11 #[.pointer (some ⟨rb, 0, none⟩), .int .u64 (c : Nat), .int .u64 (n : Nat)] W (RfL F W rb st Q o k (.int .i64 1)) := by
  obtain ⟨R, hR⟩ : ∃ R, R = RfL F W rb st Q o k (.int .i64 1) := ⟨_, rfl⟩
  rw [← hR]
  have FI := hide (show R (.returned (.int .i64 1)) W from by rw [hR]; exact ⟨rfl, h, Kept.refl _ _⟩)
  obtain ⟨C, hC⟩ : ∃ C : Int, (c : Int) = C := ⟨_, rfl⟩
  obtain ⟨M, hM⟩ : ∃ M : Int, (n : Int) = M := ⟨_, rfl⟩
  have c0 : 0 ≤ C := by omega
  have m0 : 0 ≤ M := by omega
  have c1 : C < 18446744073709551616 := by omega
  have m1 : M < 18446744073709551616 := by omega
  have hb' : M = 0 ∨ 262144 < M ∨ 67108864 < C + M := by unfold GrowBad at hb; omega
  rw [hC, hM]
  clear hR h hb hC hM hc hn
  by_cases z1 : M = 0
  · have d1 : (M == 0) = true := beq_iff_eq.2 z1
    clear hb' z1
    go_enter Tryz.func11, Tryz.ntmps11
    go_wp2_with fail
    first | exact FI.out | (go_ret; exact FI.out)
  have d1 : (M == 0) = false := beq_eq_false_iff_ne.2 z1
  by_cases z2 : 262144 < M
  · have d2 : decide (262144 < M) = true := decide_eq_true z2
    clear hb' z1 z2
    go_enter Tryz.func11, Tryz.ntmps11
    go_wp2_with fail
    first | exact FI.out | (go_ret; exact FI.out)
  have d2 : decide (262144 < M) = false := decide_eq_false z2
  by_cases z3 : 67108864 < C
  · have d3 : decide (67108864 < C) = true := decide_eq_true z3
    clear hb' z1 z2 z3
    go_enter Tryz.func11, Tryz.ntmps11
    go_wp2_with fail
    first | exact FI.out | (go_ret; exact FI.out)
  have d3 : decide (67108864 < C) = false := decide_eq_false z3
  have d4 : decide (67108864 - C < M) = true := decide_eq_true (by omega)
  have z4 : C ≤ 67108864 := by omega
  clear hb' z1 z2 z3
  go_enter Tryz.func11, Tryz.ntmps11
  go_wp2_with fail
  first | exact FI.out | (go_ret; exact FI.out)
set_option maxRecDepth 100000 in
theorem r9_grow_twice (h : RefAt F W rb st Q o k) (hl : Q.length ≤ 1000000) (c n : Nat) (hb : ¬ GrowBad c n) (ht : 0 < (tl st (c * 512) (n * 512)).p) :
    Calls Tryz.prog 11 #[.pointer (some ⟨rb, 0, none⟩), .int .u64 (c : Nat), .int .u64 (n : Nat)] W (RfL F W rb st Q o k (.int .i64 34)) := by
  obtain ⟨R, hR⟩ : ∃ R, R = RfL F W rb st Q o k (.int .i64 34) := ⟨_, rfl⟩
  rw [← hR]
  have HR := hide hR
  have CF := hide (find9 h.tr (by rw [pts_len]; exact hl) (c : Nat) (by omega))
  rw [Int.toNat_natCast] at CF
  have hb' : n ≠ 0 ∧ n ≤ 262144 ∧ c + n ≤ 67108864 := by unfold GrowBad at hb; omega
  obtain ⟨hi, hlt⟩ := (twice_iff (c := c) h.mt (by omega)).2 ht
  obtain ⟨p, hp⟩ : ∃ p, pos9 c (pts st Q) = p := ⟨_, rfl⟩
  simp only [hp] at hi hlt CF
  generalize has9 c (pts st Q) = hb9 at CF
  have HH := hide h
  obtain ⟨C, hC⟩ : ∃ C : Int, (c : Int) = C := ⟨_, rfl⟩
  obtain ⟨M, hM⟩ : ∃ M : Int, (n : Int) = M := ⟨_, rfl⟩
  obtain ⟨P, hP⟩ : ∃ P : Int, (p : Int) = P := ⟨_, rfl⟩
  rw [hC, hP] at CF
  rw [hC, hM]
  have c0 : 0 ≤ C := by omega
  have m0 : 1 ≤ M := by omega
  have m1 : M ≤ 262144 := by omega
  have m2 : C + M ≤ 67108864 := by omega
  have d1 : (M == 0) = false := beq_eq_false_iff_ne.2 (by omega)
  have d2 : decide (262144 < M) = false := decide_eq_false (by omega)
  have d3 : decide (67108864 < C) = false := decide_eq_false (by omega)
  have d4 : decide (67108864 - C < M) = false := decide_eq_false (by omega)
  obtain ⟨b, rfl, e0, -⟩ := h.at hi
  obtain ⟨NI, hNI⟩ : ∃ NI : Int, (Q[p].1 : Int) = NI := ⟨_, rfl⟩
  rw [hNI, show p = P.toNat by omega] at e0
  have q1 : NI < C + M := by omega
  have q2 : 0 ≤ NI := by omega
  obtain ⟨L, hL⟩ : ∃ L : Nat, Q.length = L := ⟨_, rfl⟩
  have f0 := h.cell0
  rw [hL] at f0
  have p0 : 0 ≤ P := by omega
  have p1 : P < (L : Int) := by omega
  have l1 : (L : Int) ≤ 1000000 := by omega
  have CC := hide (show ∀ j, (W.drewN j).cell? ⟨rb, 0, none⟩ = some (.slice (some ⟨b, 0, none⟩) L k) ∧ (W.drewN j).cell? ⟨b, P.toNat * 2, none⟩ = some (.int .u64 NI) from fun j => ⟨f0, e0⟩)
  clear hR h hb hC hM hP hNI hlt hp ht hb' hi hL f0 e0
  go_enter Tryz.func11, Tryz.ntmps11
  go_wp2_with fail
  refine CF.out.mono ?_
  rintro e w1 ⟨rfl, j, hw⟩
  obtain ⟨f0, e0⟩ := CC.out j
  rw [← hw] at f0 e0
  have FI := hide (show R (.returned (.int .i64 34)) w1 from by rw [HR.out]; exact ⟨rfl, HH.out.same ⟨j, hw⟩⟩)
  clear hw CF CC HH HR
  go_wp2_with fail
  first | exact FI.out | (go_ret; exact FI.out)
set_option maxRecDepth 100000 in
set_option maxHeartbeats 2000000 in
theorem r9_grow (h : RefAt F W rb st Q o k) (hl : Q.length ≤ 1000000) (c n : Nat) (hb : ¬ GrowBad c n) (ht : ¬ 0 < (tl st (c * 512) (n * 512)).p) :
    Calls Tryz.prog 11 #[.pointer (some ⟨rb, 0, none⟩), .int .u64 (c : Nat), .int .u64 (n : Nat)] W (GrwL F W rb st Q c n) := by
  obtain ⟨R, hR⟩ : ∃ R, R = GrwL F W rb st Q c n := ⟨_, rfl⟩
  rw [← hR]
  have HR := hide hR
  have CF := hide (find9 h.tr (by rw [pts_len]; exact hl) (c : Nat) (by omega))
  rw [Int.toNat_natCast] at CF
  have hb' : n ≠ 0 ∧ n ≤ 262144 ∧ c + n ≤ 67108864 := by unfold GrowBad at hb; omega
  have HT := hide ht
  obtain ⟨p, hp⟩ : ∃ p, pos9 c (pts st Q) = p := ⟨_, rfl⟩
  have HP := hide hp
  have hle : p ≤ Q.length := by rw [← hp]; have := pos9_le c (pts st Q); rwa [pts_len] at this
  have hno : ∀ hi : p < Q.length, c + n ≤ Q[p].1 := fun hi => by
    rcases Nat.lt_or_ge Q[p].1 (c + n) with y | y
    · exact absurd ((twice_iff (c := c) h.mt (by omega)).1 (by rw [hp]; exact ⟨hi, y⟩)) ht
    · exact y
  simp only [hp] at CF
  generalize has9 c (pts st Q) = hb9 at CF
  have HH := hide h
  obtain ⟨C, hC⟩ : ∃ C : Int, (c : Int) = C := ⟨_, rfl⟩
  obtain ⟨M, hM⟩ : ∃ M : Int, (n : Int) = M := ⟨_, rfl⟩
  obtain ⟨P, hP⟩ : ∃ P : Int, (p : Int) = P := ⟨_, rfl⟩
  rw [hC] at CF
  rw [hC, hM]
  have c0 : 0 ≤ C := by omega
  have m0 : 1 ≤ M := by omega
  have m1 : M ≤ 262144 := by omega
  have m2 : C + M ≤ 67108864 := by omega
  have d1 : (M == 0) = false := beq_eq_false_iff_ne.2 (by omega)
  have d2 : decide (262144 < M) = false := decide_eq_false (by omega)
  have d3 : decide (67108864 < C) = false := decide_eq_false (by omega)
  have d4 : decide (67108864 - C < M) = false := decide_eq_false (by omega)
  have HNO := hide hno
  have HCM := hide (And.intro hC hM)
  have HLE := hide hle
  have HBB := hide hb'
  obtain ⟨L, hL⟩ : ∃ L : Nat, Q.length = L := ⟨_, rfl⟩
  have HL := hide hL
  have l1 : (L : Int) ≤ 1000000 := by omega
  have p1 : (p : Int) ≤ (L : Int) := by omega
  clear hR h hb hC hM hP hp ht hno hb' hle hL
  go_enter Tryz.func11, Tryz.ntmps11
  go_wp2_with fail
  refine CF.out.mono ?_
  rintro e W1 ⟨rfl, j, hw⟩
  have R1 := hide (show RefAt F W1 rb st Q o k from by rw [hw]; exact HH.out.drewN j)
  have FIN := hide (show ∀ W', GrwL F W1 rb st Q c n (.returned (.int .i64 0)) W' → R (.returned (.int .i64 0)) W' from fun W' q => by
    rw [HR.out]
    rw [hw] at q
    exact ⟨q.1, q.2.1, (kept_drewN F W j).trans q.2.2 (fun _ _ z => z)⟩)
  clear hw CF HH HR
  have f0 := R1.out.cell0
  rw [HL.out] at f0
  have z0 := R1.out.tr.fz
  have hrb := R1.out.lt (.inl rfl)
  rcases Joins.ownsRow_forms R1.out.tr.own with ⟨e, hn0⟩ | ⟨g, cap, e⟩
  · injection e with e1 e2 e3
    subst e1
    subst e3
    rw [pts_len, HL.out] at e2
    subst e2
    obtain rfl : p = 0 := by omega
    obtain ⟨o5, c5, w5, r5, own5, k5, -⟩ := parts_more (w1 := W1.alloc (.cells #[] 64)) (base := W1.heap.size) (by simp) (own_emptyP W1) (by omega) (src := .slice none 0 0) (xs := Q.take 0) (by rw [List.length_take]; omega) (.inl ⟨rfl, by simp⟩) 27
    have lt1 : (Q.take 0).length = 0 := by rw [List.length_take]; have := HLE.out; omega
    rw [lt1, Nat.zero_add] at r5 own5
    have L0 := hide (show Laid9 W1 Q 0 c [] (.slice o5 0 c5) w5 from Laid9.start HLE.out (by simpa using own5) (((Below.refl _ W1).alloc (Nat.le_refl _) _).trans (k5.below (by simp) (fun b e => ((own_emptyP W1).lt b e).1))))
    have R5 := hide r5
    have hc0 : (W1.alloc (.cells #[] 64)).cell? ⟨rb, 0, none⟩ = some (.slice none 0 0) := by rw [World.cell?_alloc_lt _ _ _ (by exact hrb)]; exact f0
    clear r5 own5 k5 lt1
    go_wp2_with (at_builtin; refine list_append_run (by rfl) (.tmp 54) (.tmp 60) 27 (by rfl) (by rfl) (by rfl) R5.out ?_)
    clear R5 hc0
    go_loopw [9, 10] (fun lv iv wr => ∃ (i : Nat) (ol : Option Addr) (cl : Nat), lv = .slice ol (i) cl ∧ iv = .int .u64 (i : Int) ∧ (i : Int) ≤ M ∧ Hid (∃ B : List Nat, B.length = i ∧ Laid9 W1 Q 0 c B (.slice ol (i) cl) wr)) (fun _ iv _ => M.toNat - (intOf iv).toNat)
    case atStart => exact ⟨0, o5, c5, rfl, rfl, by omega, hide ⟨[], rfl, L0.out⟩⟩
    case round =>
      clear L0
      obtain ⟨i, ol, cl, rfl, rfl, hi, HB⟩ := hrel
      obtain ⟨B, hB, hL9⟩ := HB.out
      have H9 := hide hL9
      have HBL := hide hB
      clear HB hL9 hB
      by_cases hlt : (i : Int) < M
      · have CN := hide (newR_any wr)
        have ci : C + (i : Int) < 18446744073709551616 := by omega
        have ci0 : 0 ≤ C + (i : Int) := by omega
        have PU := hide (fun w1 hb r => H9.out.push (w1 := w1) (by have := HBL.out; have := HLE.out; have := HL.out; omega) hb r 27)
        rw [HBL.out, show ((c + i : Nat) : Int) = C + (i : Int) by have := HCM.out; omega] at PU
        generalize hbn : wr.heap.size = bn at CN PU
        clear H9 f0 z0
        go_wp2_with fail
        refine CN.out.mono ?_
        rintro e w1 ⟨rfl, r1, b1⟩
        obtain ⟨o7, c7, w7, r7, L7⟩ := PU.out w1 b1 r1
        simp only [Nat.zero_add] at r7 L7
        have R7 := hide r7
        have NX := hide (show ∃ B : List Nat, B.length = i + 1 ∧ Laid9 W1 Q 0 c B (.slice o7 (i + 1) c7) w7 from ⟨_, by rw [List.length_append, HBL.out]; rfl, L7⟩)
        clear r7 L7 PU CN b1 r1 hbn
        go_wp2_with (at_builtin; refine list_append_run (by rfl) (.tmp 67) (.tmp 73) 27 (by rfl) (by rfl) (by rfl) R7.out ?_)
        go_roundw
        case rel => exact ⟨i + 1, o7, c7, rfl, by go_num, by omega, NX⟩
        case measure => simp [intOf]; omega
      · obtain rfl : i = n := by have := HCM.out; omega
        have d0 : decide ((i : Int) < M) = false := decide_eq_false hlt
        have hp1 : 0 ≤ Q.length := HLE.out
        obtain ⟨o6, c6, w6, r6, own6, k6, -⟩ := parts_more H9.out.be.size H9.out.own (by have := HBL.out; have := HL.out; have := HBB.out; omega) (src := .slice none 0 0) (xs := Q.drop 0) (by rw [List.length_drop]; omega) (.inl ⟨rfl, List.eq_nil_of_length_eq_zero (by rw [List.length_drop, HL.out])⟩) 27
        have LN : 0 + i + (Q.length - 0) = i := by have := HL.out; omega
        rw [HBL.out, List.length_drop] at r6 own6
        have dn := Laid9.done R1.out HP.out.symm H9.out HBL.out (by have := HBB.out; omega) HBB.out.2.2 HT.out own6 k6
        rw [LN] at r6 dn
        have R6 := hide r6
        have FN := hide (FIN.out _ dn)
        have b6 : Below W1.heap.size W1 w6 := H9.out.be.trans (k6.below H9.out.be.size (fun b e => (H9.out.own.lt b e).1))
        have c7 := (H9.out.be.cell (p := ⟨rb, 0, none⟩) hrb).trans f0
        have c8 := (b6.cell (p := ⟨rb, 0, none⟩) hrb).trans f0
        have z8 := (b6.frozen (p := ⟨rb, 0, none⟩) hrb).trans z0
        clear r6 own6 k6 dn LN b6 H9 FIN R1 f0 z0 hlt hp1
        go_wp2_with (at_builtin; refine list_append_run (by rfl) (.tmp 76) (.tmp 82) 27 (by rfl) (by rfl) (by rfl) R6.out ?_)
        first | exact FN.out | (go_ret; exact FN.out)
  · injection e with e1 e2 e3
    subst e1
    subst e3
    have hcap : L ≤ k ∧ k ≤ 9223372036854775807 := by
      obtain ⟨_, ⟨z, _⟩ | ⟨g', cap', cur, z, _, _, h1, h2, _⟩⟩ := R1.out.tr.own
      · cases z
      · injection z with z1 z2 z3
        rw [pts_len, HL.out] at h1
        unfold maxLen at h2
        subst z3
        exact ⟨h1, by omega⟩
    have hg := R1.out.lt (.inr (.inl rfl))
    have CL := hide (show ∀ a m, a + m ≤ Q.length → ∀ j u, (((Q.drop a).take m).flatMap cq)[j]? = some u → W1.cell? ⟨g, a * 2 + j, none⟩ = some u from fun a m hm j u hu => by
      have q := cqs_part Q a m hm j u hu
      have hj := (List.getElem?_eq_some_iff.1 q).1
      rw [cqs_len] at hj
      have own := R1.out.tr.own
      rw [pts_len, ptcells_eq] at own
      rw [own.cellAt (a * 2 + j) (by omega)]
      exact q)
    obtain ⟨hc1, hc2⟩ := hcap
    by_cases kp : k = p
    · subst kp
      obtain rfl : L = k := by omega
      obtain ⟨o5, c5, w5, r5, own5, k5, -⟩ := parts_more (w1 := W1.alloc (.cells #[] 64)) (base := W1.heap.size) (by simp) (own_emptyP W1) (by omega) (src := .slice (some ⟨g, 0, none⟩) L L) (xs := Q.take L) (by rw [List.length_take]; omega) (.inr ⟨g, 0, L, by rw [List.length_take, Nat.min_eq_left HLE.out], fun j u hu => by rw [Nat.zero_add, World.cell?_alloc_lt _ _ _ (by exact hg)]; have := CL.out 0 L (by have := HLE.out; omega) j u (by rw [List.drop_zero]; exact hu); rw [Nat.zero_mul, Nat.zero_add] at this; exact this⟩) 27
      have lt1 : (Q.take L).length = L := by rw [List.length_take]; have := HLE.out; omega
      rw [lt1, Nat.zero_add] at r5 own5
      have L0 := hide (show Laid9 W1 Q L c [] (.slice o5 L c5) w5 from Laid9.start HLE.out (by simpa using own5) (((Below.refl _ W1).alloc (Nat.le_refl _) _).trans (k5.below (by simp) (fun b e => ((own_emptyP W1).lt b e).1))))
      have R5 := hide r5
      have hc0 : (W1.alloc (.cells #[] 64)).cell? ⟨rb, 0, none⟩ = some (.slice (some ⟨g, 0, none⟩) L L) := by rw [World.cell?_alloc_lt _ _ _ (by exact hrb)]; exact f0
      clear r5 own5 k5 lt1
      go_wp2_with (at_builtin; refine list_append_run (by rfl) (.tmp 54) (.tmp 60) 27 (by rfl) (by rfl) (by rfl) R5.out ?_)
      clear R5 hc0
      go_loopw [9, 10] (fun lv iv wr => ∃ (i : Nat) (ol : Option Addr) (cl : Nat), lv = .slice ol (L + i) cl ∧ iv = .int .u64 (i : Int) ∧ (i : Int) ≤ M ∧ Hid (∃ B : List Nat, B.length = i ∧ Laid9 W1 Q L c B (.slice ol (L + i) cl) wr)) (fun _ iv _ => M.toNat - (intOf iv).toNat)
      case atStart => exact ⟨0, o5, c5, rfl, rfl, by omega, hide ⟨[], rfl, L0.out⟩⟩
      case round =>
        clear L0
        obtain ⟨i, ol, cl, rfl, rfl, hi, HB⟩ := hrel
        obtain ⟨B, hB, hL9⟩ := HB.out
        have H9 := hide hL9
        have HBL := hide hB
        clear HB hL9 hB
        by_cases hlt : (i : Int) < M
        · have CN := hide (newR_any wr)
          have ci : C + (i : Int) < 18446744073709551616 := by omega
          have ci0 : 0 ≤ C + (i : Int) := by omega
          have PU := hide (fun w1 hb r => H9.out.push (w1 := w1) (by have := HBL.out; have := HLE.out; have := HL.out; omega) hb r 27)
          rw [HBL.out, show ((c + i : Nat) : Int) = C + (i : Int) by have := HCM.out; omega] at PU
          generalize hbn : wr.heap.size = bn at CN PU
          clear H9 f0 z0
          go_wp2_with fail
          refine CN.out.mono ?_
          rintro e w1 ⟨rfl, r1, b1⟩
          obtain ⟨o7, c7, w7, r7, L7⟩ := PU.out w1 b1 r1
          have R7 := hide r7
          have NX := hide (show ∃ B : List Nat, B.length = i + 1 ∧ Laid9 W1 Q L c B (.slice o7 (L + (i + 1)) c7) w7 from ⟨_, by rw [List.length_append, HBL.out]; rfl, L7⟩)
          clear r7 L7 PU CN b1 r1 hbn
          go_wp2_with (at_builtin; refine list_append_run (by rfl) (.tmp 67) (.tmp 73) 27 (by rfl) (by rfl) (by rfl) R7.out ?_)
          go_roundw
          case rel => exact ⟨i + 1, o7, c7, rfl, by go_num, by omega, NX⟩
          case measure => simp [intOf]; omega
        · obtain rfl : i = n := by have := HCM.out; omega
          have d0 : decide ((i : Int) < M) = false := decide_eq_false hlt
          have hp1 : L ≤ Q.length := HLE.out
          obtain ⟨o6, c6, w6, r6, own6, k6, -⟩ := parts_more H9.out.be.size H9.out.own (by have := HBL.out; have := HL.out; have := HBB.out; omega) (src := .slice (some ⟨g, 0, none⟩) 0 0) (xs := Q.drop L) (by rw [List.length_drop]; omega) (.inr ⟨g, 0, 0, by rw [List.length_drop, HL.out, Nat.sub_self], fun j u hu => by rw [List.eq_nil_of_length_eq_zero (show (Q.drop L).length = 0 by rw [List.length_drop, HL.out, Nat.sub_self])] at hu; cases hu⟩) 27
          have LN : L + i + (Q.length - L) = L + i := by have := HL.out; omega
          rw [HBL.out, List.length_drop] at r6 own6
          have dn := Laid9.done R1.out HP.out.symm H9.out HBL.out (by have := HBB.out; omega) HBB.out.2.2 HT.out own6 k6
          rw [LN] at r6 dn
          have R6 := hide r6
          have FN := hide (FIN.out _ dn)
          have b6 : Below W1.heap.size W1 w6 := H9.out.be.trans (k6.below H9.out.be.size (fun b e => (H9.out.own.lt b e).1))
          have c7 := (H9.out.be.cell (p := ⟨rb, 0, none⟩) hrb).trans f0
          have c8 := (b6.cell (p := ⟨rb, 0, none⟩) hrb).trans f0
          have z8 := (b6.frozen (p := ⟨rb, 0, none⟩) hrb).trans z0
          clear r6 own6 k6 dn LN b6 H9 FIN R1 f0 z0 hlt hp1
          go_wp2_with (at_builtin; refine list_append_run (by rfl) (.tmp 76) (.tmp 82) 27 (by rfl) (by rfl) (by rfl) R6.out ?_)
          first | exact FN.out | (go_ret; exact FN.out)
    · have kp' : p < k := by omega
      by_cases pl : p < L
      · obtain ⟨NI, hNI⟩ : ∃ NI : Int, (((Q[p]'(by have := HL.out; omega)).1 : Nat) : Int) = NI := ⟨_, rfl⟩
        have e0 : W1.cell? ⟨g, p * 2, none⟩ = some (.int .u64 NI) := by
          obtain ⟨b, e, q, _⟩ := R1.out.at (i := p) (by have := HL.out; omega)
          injection e with e
          injection e with e
          rw [e, ← hNI]
          exact q
        have q1 : C + M ≤ NI := by have := HNO.out (by have := HL.out; omega); have := HCM.out; omega
        have q2 : 0 ≤ NI := by omega
        have dn : decide (NI < C + M) = false := decide_eq_false (by omega)
        have pI : (p : Int) < (L : Int) := by omega
        clear hNI
        obtain ⟨o5, c5, w5, r5, own5, k5, -⟩ := parts_more (w1 := W1.alloc (.cells #[] 64)) (base := W1.heap.size) (by simp) (own_emptyP W1) (by omega) (src := .slice (some ⟨g, 0, none⟩) p k) (xs := Q.take p) (by rw [List.length_take]; omega) (.inr ⟨g, 0, k, by rw [List.length_take, Nat.min_eq_left HLE.out], fun j u hu => by rw [Nat.zero_add, World.cell?_alloc_lt _ _ _ (by exact hg)]; have := CL.out 0 p (by have := HLE.out; omega) j u (by rw [List.drop_zero]; exact hu); rw [Nat.zero_mul, Nat.zero_add] at this; exact this⟩) 27
        have lt1 : (Q.take p).length = p := by rw [List.length_take]; have := HLE.out; omega
        rw [lt1, Nat.zero_add] at r5 own5
        have L0 := hide (show Laid9 W1 Q p c [] (.slice o5 p c5) w5 from Laid9.start HLE.out (by simpa using own5) (((Below.refl _ W1).alloc (Nat.le_refl _) _).trans (k5.below (by simp) (fun b e => ((own_emptyP W1).lt b e).1))))
        have R5 := hide r5
        have hc0 : (W1.alloc (.cells #[] 64)).cell? ⟨rb, 0, none⟩ = some (.slice (some ⟨g, 0, none⟩) L k) := by rw [World.cell?_alloc_lt _ _ _ (by exact hrb)]; exact f0
        clear r5 own5 k5 lt1
        go_wp2_with (at_builtin; refine list_append_run (by rfl) (.tmp 54) (.tmp 60) 27 (by rfl) (by rfl) (by rfl) R5.out ?_)
        clear R5 hc0
        go_loopw [9, 10] (fun lv iv wr => ∃ (i : Nat) (ol : Option Addr) (cl : Nat), lv = .slice ol (p + i) cl ∧ iv = .int .u64 (i : Int) ∧ (i : Int) ≤ M ∧ Hid (∃ B : List Nat, B.length = i ∧ Laid9 W1 Q p c B (.slice ol (p + i) cl) wr)) (fun _ iv _ => M.toNat - (intOf iv).toNat)
        case atStart => exact ⟨0, o5, c5, rfl, rfl, by omega, hide ⟨[], rfl, L0.out⟩⟩
        case round =>
          clear L0
          obtain ⟨i, ol, cl, rfl, rfl, hi, HB⟩ := hrel
          obtain ⟨B, hB, hL9⟩ := HB.out
          have H9 := hide hL9
          have HBL := hide hB
          clear HB hL9 hB
          by_cases hlt : (i : Int) < M
          · have CN := hide (newR_any wr)
            have ci : C + (i : Int) < 18446744073709551616 := by omega
            have ci0 : 0 ≤ C + (i : Int) := by omega
            have PU := hide (fun w1 hb r => H9.out.push (w1 := w1) (by have := HBL.out; have := HLE.out; have := HL.out; omega) hb r 27)
            rw [HBL.out, show ((c + i : Nat) : Int) = C + (i : Int) by have := HCM.out; omega] at PU
            generalize hbn : wr.heap.size = bn at CN PU
            clear H9 f0 z0
            go_wp2_with fail
            refine CN.out.mono ?_
            rintro e w1 ⟨rfl, r1, b1⟩
            obtain ⟨o7, c7, w7, r7, L7⟩ := PU.out w1 b1 r1
            have R7 := hide r7
            have NX := hide (show ∃ B : List Nat, B.length = i + 1 ∧ Laid9 W1 Q p c B (.slice o7 (p + (i + 1)) c7) w7 from ⟨_, by rw [List.length_append, HBL.out]; rfl, L7⟩)
            clear r7 L7 PU CN b1 r1 hbn
            go_wp2_with (at_builtin; refine list_append_run (by rfl) (.tmp 67) (.tmp 73) 27 (by rfl) (by rfl) (by rfl) R7.out ?_)
            go_roundw
            case rel => exact ⟨i + 1, o7, c7, rfl, by go_num, by omega, NX⟩
            case measure => simp [intOf]; omega
          · obtain rfl : i = n := by have := HCM.out; omega
            have d0 : decide ((i : Int) < M) = false := decide_eq_false hlt
            have hp1 : p ≤ Q.length := HLE.out
            obtain ⟨o6, c6, w6, r6, own6, k6, -⟩ := parts_more H9.out.be.size H9.out.own (by have := HBL.out; have := HL.out; have := HBB.out; omega) (src := .slice (some ⟨g, p * 2, none⟩) (L - p) (k - p)) (xs := Q.drop p) (by rw [List.length_drop]; omega) (.inr ⟨g, p * 2, k - p, by rw [List.length_drop, HL.out], fun j u hu => (H9.out.be.cell (p := ⟨g, p * 2 + j, none⟩) hg).trans (CL.out p (L - p) (by have := HL.out; omega) j u (by rw [List.take_of_length_le (by rw [List.length_drop, HL.out]; exact Nat.le_refl _)]; exact hu))⟩) 27
            have LN : p + i + (Q.length - p) = p + i + (L - p) := by have := HL.out; omega
            rw [HBL.out, List.length_drop] at r6 own6
            have dn := Laid9.done R1.out HP.out.symm H9.out HBL.out (by have := HBB.out; omega) HBB.out.2.2 HT.out own6 k6
            rw [LN] at r6 dn
            have R6 := hide r6
            have FN := hide (FIN.out _ dn)
            have b6 : Below W1.heap.size W1 w6 := H9.out.be.trans (k6.below H9.out.be.size (fun b e => (H9.out.own.lt b e).1))
            have c7 := (H9.out.be.cell (p := ⟨rb, 0, none⟩) hrb).trans f0
            have c8 := (b6.cell (p := ⟨rb, 0, none⟩) hrb).trans f0
            have z8 := (b6.frozen (p := ⟨rb, 0, none⟩) hrb).trans z0
            clear r6 own6 k6 dn LN b6 H9 FIN R1 f0 z0 hlt hp1
            go_wp2_with (at_builtin; refine list_append_run (by rfl) (.tmp 76) (.tmp 82) 27 (by rfl) (by rfl) (by rfl) R6.out ?_)
            first | exact FN.out | (go_ret; exact FN.out)
      · have dpl : decide ((p : Int) < (L : Int)) = false := decide_eq_false (by omega)
        have dpn : decide (p < L) = false := decide_eq_false pl
        obtain ⟨o5, c5, w5, r5, own5, k5, -⟩ := parts_more (w1 := W1.alloc (.cells #[] 64)) (base := W1.heap.size) (by simp) (own_emptyP W1) (by omega) (src := .slice (some ⟨g, 0, none⟩) p k) (xs := Q.take p) (by rw [List.length_take]; omega) (.inr ⟨g, 0, k, by rw [List.length_take, Nat.min_eq_left HLE.out], fun j u hu => by rw [Nat.zero_add, World.cell?_alloc_lt _ _ _ (by exact hg)]; have := CL.out 0 p (by have := HLE.out; omega) j u (by rw [List.drop_zero]; exact hu); rw [Nat.zero_mul, Nat.zero_add] at this; exact this⟩) 27
        have lt1 : (Q.take p).length = p := by rw [List.length_take]; have := HLE.out; omega
        rw [lt1, Nat.zero_add] at r5 own5
        have L0 := hide (show Laid9 W1 Q p c [] (.slice o5 p c5) w5 from Laid9.start HLE.out (by simpa using own5) (((Below.refl _ W1).alloc (Nat.le_refl _) _).trans (k5.below (by simp) (fun b e => ((own_emptyP W1).lt b e).1))))
        have R5 := hide r5
        have hc0 : (W1.alloc (.cells #[] 64)).cell? ⟨rb, 0, none⟩ = some (.slice (some ⟨g, 0, none⟩) L k) := by rw [World.cell?_alloc_lt _ _ _ (by exact hrb)]; exact f0
        clear r5 own5 k5 lt1
        go_wp2_with (at_builtin; refine list_append_run (by rfl) (.tmp 54) (.tmp 60) 27 (by rfl) (by rfl) (by rfl) R5.out ?_)
        clear R5 hc0
        go_loopw [9, 10] (fun lv iv wr => ∃ (i : Nat) (ol : Option Addr) (cl : Nat), lv = .slice ol (p + i) cl ∧ iv = .int .u64 (i : Int) ∧ (i : Int) ≤ M ∧ Hid (∃ B : List Nat, B.length = i ∧ Laid9 W1 Q p c B (.slice ol (p + i) cl) wr)) (fun _ iv _ => M.toNat - (intOf iv).toNat)
        case atStart => exact ⟨0, o5, c5, rfl, rfl, by omega, hide ⟨[], rfl, L0.out⟩⟩
        case round =>
          clear L0
          obtain ⟨i, ol, cl, rfl, rfl, hi, HB⟩ := hrel
          obtain ⟨B, hB, hL9⟩ := HB.out
          have H9 := hide hL9
          have HBL := hide hB
          clear HB hL9 hB
          by_cases hlt : (i : Int) < M
          · have CN := hide (newR_any wr)
            have ci : C + (i : Int) < 18446744073709551616 := by omega
            have ci0 : 0 ≤ C + (i : Int) := by omega
            have PU := hide (fun w1 hb r => H9.out.push (w1 := w1) (by have := HBL.out; have := HLE.out; have := HL.out; omega) hb r 27)
            rw [HBL.out, show ((c + i : Nat) : Int) = C + (i : Int) by have := HCM.out; omega] at PU
            generalize hbn : wr.heap.size = bn at CN PU
            clear H9 f0 z0
            go_wp2_with fail
            refine CN.out.mono ?_
            rintro e w1 ⟨rfl, r1, b1⟩
            obtain ⟨o7, c7, w7, r7, L7⟩ := PU.out w1 b1 r1
            have R7 := hide r7
            have NX := hide (show ∃ B : List Nat, B.length = i + 1 ∧ Laid9 W1 Q p c B (.slice o7 (p + (i + 1)) c7) w7 from ⟨_, by rw [List.length_append, HBL.out]; rfl, L7⟩)
            clear r7 L7 PU CN b1 r1 hbn
            go_wp2_with (at_builtin; refine list_append_run (by rfl) (.tmp 67) (.tmp 73) 27 (by rfl) (by rfl) (by rfl) R7.out ?_)
            go_roundw
            case rel => exact ⟨i + 1, o7, c7, rfl, by go_num, by omega, NX⟩
            case measure => simp [intOf]; omega
          · obtain rfl : i = n := by have := HCM.out; omega
            have d0 : decide ((i : Int) < M) = false := decide_eq_false hlt
            have hp1 : p ≤ Q.length := HLE.out
            obtain ⟨o6, c6, w6, r6, own6, k6, -⟩ := parts_more H9.out.be.size H9.out.own (by have := HBL.out; have := HL.out; have := HBB.out; omega) (src := .slice (some ⟨g, p * 2, none⟩) (L - p) (k - p)) (xs := Q.drop p) (by rw [List.length_drop]; omega) (.inr ⟨g, p * 2, k - p, by rw [List.length_drop, HL.out], fun j u hu => (H9.out.be.cell (p := ⟨g, p * 2 + j, none⟩) hg).trans (CL.out p (L - p) (by have := HL.out; omega) j u (by rw [List.take_of_length_le (by rw [List.length_drop, HL.out]; exact Nat.le_refl _)]; exact hu))⟩) 27
            have LN : p + i + (Q.length - p) = p + i + (L - p) := by have := HL.out; omega
            rw [HBL.out, List.length_drop] at r6 own6
            have dn := Laid9.done R1.out HP.out.symm H9.out HBL.out (by have := HBB.out; omega) HBB.out.2.2 HT.out own6 k6
            rw [LN] at r6 dn
            have R6 := hide r6
            have FN := hide (FIN.out _ dn)
            have b6 : Below W1.heap.size W1 w6 := H9.out.be.trans (k6.below H9.out.be.size (fun b e => (H9.out.own.lt b e).1))
            have c7 := (H9.out.be.cell (p := ⟨rb, 0, none⟩) hrb).trans f0
            have c8 := (b6.cell (p := ⟨rb, 0, none⟩) hrb).trans f0
            have z8 := (b6.frozen (p := ⟨rb, 0, none⟩) hrb).trans z0
            clear r6 own6 k6 dn LN b6 H9 FIN R1 f0 z0 hlt hp1
            go_wp2_with (at_builtin; refine list_append_run (by rfl) (.tmp 76) (.tmp 82) 27 (by rfl) (by rfl) (by rfl) R6.out ?_)
            first | exact FN.out | (go_ret; exact FN.out)
end
end Go.Proofs.YtnpimmjkmclkpaaGreatDoor

/- The reference's Right, right, Merge: contracts (stage 7's texts). -/
namespace Go.Proofs.YtnpimmjkmclkpaaGreatDoor.Mg
open Go.ChangeShapes Go.WideShapes Go.ChangeAt Go.RowKit Go.Proofs.Pk Go.Maps
set_option linter.unusedVariables false
set_option linter.unusedSimpArgs false

theorem ret_ce {fn : Func} {p u : Tmp} (hf : fn.results = #[.cell p 56, .tmp u]) {N Q : Nat} {w W : World} {x y z e : Int} {tmps : Array Value} (hp : tmps.getD p undef = .pointer (some ⟨Q, 0, none⟩)) (hu : tmps.getD u undef = .int .i64 e) (h : Bx N Q w W x y z) :
    (results fn tmps).run Tryz.prog W = .ok (.tuple #[sumV ⟨x, y, z⟩, .int .i64 e]) W := by
  have e0 := h.c0
  have e1 := h.c1
  have e2 := h.c2
  have hp' : tmps[p]?.getD undef = .pointer (some ⟨Q, 0, none⟩) := by simpa using hp
  have hu' : tmps[u]?.getD undef = .int .i64 e := by simpa using hu
  simp [results, hf, hp', hu', go_sem, sumV, Nat.add_assoc, e0, e1, e2, Result.andThen]
theorem Right_yes (a : Sm) (p : Int) (h : Rgt a p) (h2 : p ≤ 2097152) (w : World) : Calls Tryz.prog 88 #[sumV a, .int .i64 p] w fun e w' => e = .returned (.bool true) ∧ Below w.heap.size w w' := by
  obtain ⟨s, m, y⟩ := a
  unfold sumV
  obtain ⟨⟨h1, h2, h3, h4, h5, h6⟩, h7⟩ := h
  dsimp only at h1 h2 h3 h4 h5 h6 h7
  have d1 : decide (s < 0) = false := decide_eq_false (by omega)
  have d2 : decide (m < 0) = false := decide_eq_false (by omega)
  have d3 : decide (y < 0) = false := decide_eq_false (by omega)
  have d4 : decide (m < s) = false := decide_eq_false (by omega)
  have d5 : decide (m < y) = false := decide_eq_false (by omega)
  have d6 : decide (p < m) = false := decide_eq_false (by omega)
  by_cases c : m = p
  · have d7 : (s == p) = true := beq_iff_eq.2 (by omega)
    have d8 : (m == p) = true := beq_iff_eq.2 (by omega)
    have d9 : (y == p) = true := beq_iff_eq.2 (by omega)
    clear h1 h2 h3 h4 h5 h6 h7 c
    go_enter Tryz.func88, Tryz.ntmps88
    go_wp2_with fail
    go_ret
    exact ⟨rfl, alloc1 _ _⟩
  · have d7 : (s == p) = false := beq_eq_false_iff_ne.2 (by omega)
    have d8 : (m == p) = false := beq_eq_false_iff_ne.2 (by omega)
    have d9 : (y == p) = false := beq_eq_false_iff_ne.2 (by omega)
    have d10 : decide (p ≤ s + y) = false := decide_eq_false (by omega)
    have b1 : 0 ≤ s + y := by omega
    have b2 : s + y ≤ 4194304 := by omega
    clear h1 h2 h3 h4 h5 h6 h7 c
    go_enter Tryz.func88, Tryz.ntmps88
    go_wp2_with fail
    go_ret
    exact ⟨rfl, alloc1 _ _⟩
set_option maxRecDepth 100000 in
theorem Right_no (a : Sm) (p : Int) (h : ¬ Rgt a p) (hp : p ≤ 2097152) (w : World) : Calls Tryz.prog 88 #[sumV a, .int .i64 p] w fun e w' => e = .returned (.bool false) ∧ Below w.heap.size w w' := by
  obtain ⟨s, m, y⟩ := a
  unfold sumV
  have q : decide (s < 0) = true ∨ decide (s < 0) = false ∧ (decide (m < 0) = true ∨ decide (m < 0) = false ∧ (decide (y < 0) = true ∨ decide (y < 0) = false ∧ (decide (m < s) = true ∨ decide (m < s) = false ∧ (decide (m < y) = true ∨ decide (m < y) = false ∧ (decide (p < m) = true ∨ decide (p < m) = false ∧ (0 ≤ s + y ∧ s + y ≤ 4194304) ∧ ((s == p) = true ∧ (m == p) = true ∧ (y == p) = false ∨ (s == p) = false ∧ ((m == p) = true ∨ (m == p) = false ∧ (y == p) = false ∧ decide (p ≤ s + y) = true))))))) := by
    unfold Rgt Bnd at h
    dsimp only at h
    simp only [decide_eq_true_eq, decide_eq_false_iff_not, beq_eq_false_iff_ne, beq_iff_eq, ne_eq]
    omega
  clear h
  rcases q with d1 | ⟨d1, d2 | ⟨d2, d3 | ⟨d3, d4 | ⟨d4, d5 | ⟨d5, d6 | ⟨d6, ⟨b1, b2⟩, ⟨d7, d8, d9⟩ | ⟨d7, d8 | ⟨d8, d9, d10⟩⟩⟩⟩⟩⟩⟩⟩
  all_goals
    go_enter Tryz.func88, Tryz.ntmps88
    go_wp2_with fail
    go_ret
    exact ⟨rfl, alloc1 _ _⟩
set_option maxRecDepth 100000 in
theorem rrows_core {w : World} {v : Value} {t : List Sm} {T : Nat → Prop} (h : SumsAt w v t T) (p : Int) : Calls Tryz.prog 68 #[v, .int .i64 p] w (RowsP t p w) := by
  obtain ⟨o, cap, rfl, h1, h2⟩ := h.shape
  have H := hide h
  obtain ⟨PO, hPO⟩ : ∃ PO, PO = RowsP t p w := ⟨_, rfl⟩
  rw [← hPO]
  have HP := hide hPO
  obtain ⟨n, hn⟩ : ∃ n, t.length = n := ⟨_, rfl⟩
  have HN := hide hn
  rw [hn] at H h1 ⊢
  clear h hPO hn
  have bad : ¬ (1 ≤ p ∧ p ≤ 2097152 ∧ n ≤ 64) → Hid (PO (.returned (.bool false)) w) := fun z => hide (by rw [HP.out]; exact RowsP.no (fun y => z ⟨y.p1, y.p2, by rw [← HN.out]; exact y.len⟩) (Below.refl _ _))
  have q : decide (p < 1) = true ∨ decide (p < 1) = false ∧ (decide (2097152 < p) = true ∨ decide (2097152 < p) = false ∧ (decide (64 < (n : Int)) = true ∨ decide (64 < (n : Int)) = false)) := by
    simp only [decide_eq_true_eq, decide_eq_false_iff_not]
    omega
  rcases q with d1 | ⟨d1, d2 | ⟨d2, d3 | d3⟩⟩
  · have FN := bad (by simp only [decide_eq_true_eq] at d1; omega)
    clear bad H HP
    go_enter Tryz.func68, Tryz.ntmps68
    go_wp2_with fail
    first | exact FN.out | (go_ret; exact FN.out)
  · have FN := bad (by simp only [decide_eq_true_eq] at d2; omega)
    clear bad H HP
    go_enter Tryz.func68, Tryz.ntmps68
    go_wp2_with fail
    first | exact FN.out | (go_ret; exact FN.out)
  · have FN := bad (by simp only [decide_eq_true_eq] at d3; omega)
    clear bad H HP
    go_enter Tryz.func68, Tryz.ntmps68
    go_wp2_with fail
    first | exact FN.out | (go_ret; exact FN.out)
  · have z1 : 1 ≤ p := by simp only [decide_eq_false_iff_not] at d1; omega
    have z2 : p ≤ 2097152 := by simp only [decide_eq_false_iff_not] at d2; omega
    have z3 : n ≤ 64 := by simp only [decide_eq_false_iff_not] at d3; omega
    clear bad
    go_enter Tryz.func68, Tryz.ntmps68
    go_wp2_with fail
    go_loopw [5] (fun iv wr => ∃ (i : Nat), iv = .int .i64 (i : Int) ∧ i ≤ n ∧ Hid (∀ j, j < i → Rgt (nth t j) p) ∧ Hid (Below w.heap.size w wr)) (fun iv _ => n - (intOf iv).toNat)
    case atStart => exact ⟨0, rfl, Nat.zero_le _, hide (fun j hj => by omega), hide (Below.refl _ _)⟩
    case round =>
      obtain ⟨i, rfl, hi, ha, hB⟩ := hrel
      by_cases hlt : i < n
      · obtain ⟨g, off, x, rfl, hx, hg, c0, c1, c2⟩ := H.out.at hB.out hlt
        have i1 : (i : Int) < (n : Int) := by omega
        have i2 : (0 : Int) ≤ (i : Int) := by omega
        have hxn := nth_at hx
        clear hx
        by_cases e : Rgt x p
        · have CB := fun w => hide (Right_yes x p e z2 w)
          have ha' : Hid (∀ j, j < i + 1 → Rgt (nth t j) p) := hide (fun j hj => by
            by_cases z : j = i
            · subst z; rw [hxn]; exact e
            · exact ha.out j (by omega))
          clear hxn e ha
          obtain ⟨s, m, y⟩ := x
          unfold sumV at CB
          dsimp only at CB c0 c1 c2
          go_wp2_with fail
          refine (CB _).out.mono ?_
          rintro e w' ⟨rfl, hb⟩
          have HB := hide (hB.out.trans (hb.mono hB.out.size))
          clear hb CB
          go_wp2_with fail
          go_roundw
          case rel => exact ⟨i + 1, by go_num, by omega, ha', HB⟩
          case measure => simp [intOf]; omega
        · have CB := fun w => hide (Right_no x p e z2 w)
          have NR : Hid (¬ RR t p) := hide (fun z => e (by have := z.all i (by rw [HN.out]; exact hlt); rwa [hxn] at this))
          clear hxn e ha
          obtain ⟨s, m, y⟩ := x
          unfold sumV at CB
          dsimp only at CB c0 c1 c2
          go_wp2_with fail
          refine (CB _).out.mono ?_
          rintro e w' ⟨rfl, hb⟩
          have FN : Hid (PO (.returned (.bool false)) w') := hide (by rw [HP.out]; exact RowsP.no NR.out (hB.out.trans (hb.mono hB.out.size)))
          clear hb CB
          go_wp2_with fail
          first | exact FN.out | (go_ret; exact FN.out)
      · obtain rfl : i = n := by omega
        have FN : Hid (PO (.returned (.bool true)) wr) := hide (by rw [HP.out]; exact RowsP.yes ⟨z1, z2, by rw [HN.out]; exact z3, fun j hj => ha.out j (by rw [← HN.out]; exact hj)⟩ hB.out)
        have d0 : ¬ (i : Int) < (i : Int) := by omega
        clear ha HP
        go_wp2_with fail
        first | exact FN.out | (go_ret; exact FN.out)

theorem Bx.drew {N Q : Nat} {w W : World} {x y z : Int} (h : Bx N Q w W x y z) : Bx N Q w W.drew x y z := h.of h.be.drew rfl
theorem wrap_in (x : Int) (h1 : -9223372036854775808 ≤ x) (h2 : x ≤ 9223372036854775807) : IntKind.i64.wrap x = x := by
  simp [IntKind.wrap, IntKind.bits, IntKind.signed]; omega
/-- What the reference's Merge has between two statements. -/
structure RM (N Q : Nat) (w W : World) (S M : Int) : Prop where
  r : Bx N N w W 0 0 0
  s : Bx N Q w W S M 0
  ne : N ≠ Q
theorem RM.drew {N Q : Nat} {w W : World} {S M : Int} (h : RM N Q w W S M) : RM N Q w W.drew S M := ⟨h.r.drew, h.s.drew, h.ne⟩
theorem RM.set0 {N Q : Nat} {w W : World} {S M : Int} (h : RM N Q w W S M) (v : Int) : RM N Q w (W.setCell ⟨Q, 0, none⟩ (.int .i64 v)) v M := ⟨h.r.far h.ne (h.s.put 0 _), h.s.set0 v, h.ne⟩
theorem RM.set1 {N Q : Nat} {w W : World} {S M : Int} (h : RM N Q w W S M) (v : Int) : RM N Q w (W.setCell ⟨Q, 1, none⟩ (.int .i64 v)) S v := ⟨h.r.far h.ne (h.s.put 1 _), h.s.set1 v, h.ne⟩
theorem RM.as {N Q : Nat} {w W : World} {S M S' M' : Int} (h : RM N Q w W S M) (e : S = S') (f : M = M') : RM N Q w W S' M' := e ▸ f ▸ h
set_option maxRecDepth 100000 in
set_option maxHeartbeats 4000000 in
theorem rmerge_core {w : World} {v : Value} {t : List Sm} {T : Nat → Prop} (h : SumsAt w v t T) (p : Int) : Calls Tryz.prog 50 #[v, .int .i64 p] w (MergeP t p w) := by
  obtain ⟨o, cap, rfl, h1, h2⟩ := h.shape
  have H := hide h
  obtain ⟨PO, hPO⟩ : ∃ PO, PO = MergeP t p w := ⟨_, rfl⟩
  rw [← hPO]
  have HP := hide hPO
  obtain ⟨n, hn⟩ : ∃ n, t.length = n := ⟨_, rfl⟩
  have HN := hide hn
  rw [hn] at H h1 ⊢
  obtain ⟨N, hN⟩ : ∃ N, w.heap.size = N := ⟨_, rfl⟩
  obtain ⟨w1, hw1⟩ : ∃ w1, w1 = w.alloc (.cells #[.int .i64 0, .int .i64 0, .int .i64 0] 56) := ⟨_, rfl⟩
  have S1 : Hid (Bx N N w w1 0 0 0) := hide (by rw [hw1, ← hN]; exact Bx.new (Below.refl _ _) (Nat.le_refl _))
  have HW := hide hw1
  have A1 : Hid (SumsAt w1 (.slice o n cap) t T) := hide (H.out.below (by rw [hw1]; exact alloc1 _ _))
  have HNN := hide hN
  clear h hPO hn hw1 hN
  go_enter Tryz.func50, Tryz.ntmps50
  go_wp2_with fail
  rw [← HW.out]
  refine (rrows_core A1.out p).mono ?_
  rintro e w2 ⟨hy, hno, b2⟩
  have S2 := hide (S1.out.next b2)
  rw [HNN.out]
  by_cases r : RR t p
  · obtain rfl := hy r
    have FN : ∀ W (a : Sm), a = mg p (nth t) n → Below N w W → Hid (PO (.returned (.tuple #[sumV a, .int .i64 0])) W) := fun W a ha hW => hide (by rw [HP.out]; exact ⟨fun _ => by rw [ha, HN.out], fun z => absurd r z, by rw [HNN.out]; exact hW⟩)
    obtain ⟨p1, p2, p3, p4⟩ := r
    rw [HN.out] at p3
    have P4 : Hid (∀ j, j < n → Rgt (nth t j) p) := hide (fun j hj => p4 j (by rw [HN.out]; exact hj))
    obtain ⟨Q, hQ⟩ : ∃ Q, w2.heap.size = Q := ⟨_, rfl⟩
    have hNQ : N < Q := by have := S2.out.lt; omega
    obtain ⟨w3, hw3⟩ : ∃ w3, w3 = w2.alloc (.cells #[.int .i64 0, .int .i64 0, .int .i64 0] 56) := ⟨_, rfl⟩
    have R3 : Hid (RM N Q w w3 0 0) := hide ⟨S2.out.next (by rw [hw3]; exact alloc1 _ _), by rw [hw3, ← hQ]; exact Bx.new S2.out.be (by omega), by omega⟩
    have HW3 := hide hw3
    have HQ := hide hQ
    clear hy hno b2 S1 A1 HW S2 p4 HP hw3 hQ
    go_wp2_with fail
    rw [← HW3.out, HQ.out]
    clear HW3 HQ
    go_loopw [7, 8, 9] (fun rv hv iv wr => ∃ (i : Nat), iv = .int .i64 (i : Int) ∧ i ≤ n ∧ rv = .int .i64 (mg p (nth t) i).e ∧ hv = .bool (decide ((mg p (nth t) i).s = (i : Int) * p)) ∧ Hid (RM N Q w wr (mg p (nth t) i).s (mg p (nth t) i).m)) (fun _ _ iv _ => n - (intOf iv).toNat)
    case atStart => exact ⟨0, rfl, Nat.zero_le _, rfl, by simp [mg], hide R3.out⟩
    case round =>
      clear R3
      obtain ⟨i, rfl, hi, rfl, rfl, HS⟩ := hrel
      by_cases hlt : i < n
      · have LC0 := fun (W : World) (hW : Below N w W) => H.out.at (by rw [HNN.out]; exact hW) hlt
        obtain ⟨g, off, x, rfl, hx, _⟩ := LC0 wr HS.out.s.be
        have LC : Hid (∀ W, Below N w W → W.cell? ⟨g, off + i * 3, none⟩ = some (.int .i64 x.s) ∧ W.cell? ⟨g, off + i * 3 + 1, none⟩ = some (.int .i64 x.m) ∧ W.cell? ⟨g, off + i * 3 + 2, none⟩ = some (.int .i64 x.e)) := hide (fun W hW => by
          obtain ⟨g', off', x', e, hx', _, c0, c1, c2⟩ := LC0 W hW
          injection e with e
          injection e with e1 e2
          subst e1 e2
          rw [hx] at hx'
          injection hx' with hx'
          subst hx'
          exact ⟨c0, c1, c2⟩)
        have GN : Hid (g < N) := hide (by
          obtain ⟨g', off', x', e, _, hg, _⟩ := H.out.at (Below.refl _ _) hlt
          injection e with e
          injection e with e _
          rw [e, ← HNN.out]; exact hg)
        clear LC0
        have i1 : (i : Int) < (n : Int) := by omega
        have i2 : (0 : Int) ≤ (i : Int) := by omega
        have hxn := nth_at hx
        have hr := P4.out i hlt
        rw [hxn] at hr
        have hok := mg_ok p1 i (fun j hj => P4.out j (by omega))
        have em : mg p (nth t) (i + 1) = ⟨if (mg p (nth t) i).s = (i : Int) * p then (mg p (nth t) i).s + x.s else (mg p (nth t) i).s, max (max (mg p (nth t) i).m x.m) ((mg p (nth t) i).e + x.s), if x.e = p then (mg p (nth t) i).e + p else x.e⟩ := by rw [mg, hxn]
        have qb : (i : Int) * p ≤ 134217728 := by
          have : (i : Int) * p ≤ 64 * p := Int.mul_le_mul_of_nonneg_right (by omega) (by omega)
          omega
        have qa : 0 ≤ (i : Int) * p := Int.mul_nonneg i2 (by omega)
        have esm := succ_mul i p
        have REL : ∀ (W : World) (rv S' M' : Int) (hv : Bool), RM N Q w W S' M' → rv = (mg p (nth t) (i + 1)).e → hv = decide ((mg p (nth t) (i + 1)).s = ((i + 1 : Nat) : Int) * p) → S' = (mg p (nth t) (i + 1)).s → M' = (mg p (nth t) (i + 1)).m → Hid (rv = (mg p (nth t) (i + 1)).e ∧ hv = decide ((mg p (nth t) (i + 1)).s = ((i + 1 : Nat) : Int) * p) ∧ RM N Q w W (mg p (nth t) (i + 1)).s (mg p (nth t) (i + 1)).m) := fun W rv S' M' hv h1 h2 h3 h4 h5 => hide ⟨h2, h3, h1.as h4 h5⟩
        obtain ⟨nx, hnx⟩ : ∃ nx, mg p (nth t) (i + 1) = nx := ⟨_, rfl⟩
        have HNX := hide hnx
        rw [hnx] at REL em
        clear hnx
        have EM := hide em
        have ESM := hide esm
        clear hx hxn em esm
        have hgQ : g ≠ Q := by have := GN.out; omega
        generalize mg p (nth t) i = a at *
        obtain ⟨s, m, y⟩ := x
        obtain ⟨S, M, E⟩ := a
        dsimp only at *
        obtain ⟨⟨r1, r2, r3, r4, r5, r6⟩, r7⟩ := hr
        obtain ⟨k1, k2, k3, k4, k5, k6, k7⟩ := hok
        dsimp only at r1 r2 r3 r4 r5 r6 r7 k1 k2 k3 k4 k5 k6 k7
        have u1 : S ≤ 134217728 := by omega
        have u2 : M ≤ 134217728 := by omega
        have u3 : E ≤ 134217728 := by omega
        have v1 : s ≤ 2097152 := by omega
        have v2 : m ≤ 2097152 := by omega
        have v3 : y ≤ 2097152 := by omega
        have b5 : 0 ≤ M := by omega
        have b6 : 0 ≤ m := by omega
        generalize hq : (i : Int) * p = q at *
        have FAC : Hid ((S ≠ q → S + E < q) ∧ S ≤ q ∧ (y = p ↔ s = p) ∧ s ≤ p ∧ (s = p → m = p)) := hide ⟨k7, by omega, by omega, by omega, by omega⟩
        have wE : IntKind.i64.wrap (E + s) = E + s := wrap_in _ (by omega) (by omega)
        have wS : IntKind.i64.wrap (S + s) = S + s := wrap_in _ (by omega) (by omega)
        clear r3 r4 r5 r6 r7 k3 k4 k5 k6 k7 hq qa qb
        obtain ⟨c0, c1, c2⟩ := LC.out wr HS.out.s.be
        have g0 := HS.out.s.c0
        have g1 := HS.out.s.c1
        have gf0 := HS.out.s.fz 0
        by_cases c : S = q
        · have dc : decide (S = q) = true := decide_eq_true c
          rw [dc]
          have HC := hide c
          clear c dc
          go_wp2_with fail
          refine still_tail 9 (by kernel_rfl) (by kernel_rfl) ?_
          simp only [List.take_succ_cons, List.take_zero, List.drop_succ_cons, List.drop_zero]
          repeat still_step
          refine wpStill_nil ?_
          go_wp2_with fail
          have R1 := hide ((HS.out.set0 (S + s)).drew)
          generalize (wr.setCell ⟨Q, 0, none⟩ (.int .i64 (S + s))).drew = W1 at R1 ⊢
          obtain ⟨Z, hZ⟩ : ∃ Z, Z = S + s := ⟨_, rfl⟩
          have ZE : Hid (Z = if S = q then S + s else S) := hide (by have := HC.out; rw [if_pos this]; exact hZ)
          rw [← hZ] at R1
          clear hZ
          clear c0 c1 c2 g0 g1 gf0 HS
          obtain ⟨c0, c1, c2⟩ := LC.out W1 R1.out.s.be
          have g1 := R1.out.s.c1
          have gf1 := R1.out.s.fz 1
          by_cases c3 : M < E + s
          · have d3 : decide (M < E + s) = true := decide_eq_true c3
            have C3 := hide c3
            clear c3
            refine still_all (by kernel_rfl) (by kernel_rfl) ?_
            repeat still_step
            refine wpStill_nil ?_
            go_wp2_with fail
            have R2 := hide ((R1.out.set1 (E + s)).drew)
            generalize (W1.setCell ⟨Q, 1, none⟩ (.int .i64 (E + s))).drew = W2 at R2 ⊢
            clear c0 c1 c2 g1 gf1 R1
            obtain ⟨c0, c1, c2⟩ := LC.out W2 R2.out.s.be
            have g1 := R2.out.s.c1
            have gf1 := R2.out.s.fz 1
            by_cases c4 : (E + s) < m
            · have d4 : decide ((E + s) < m) = true := decide_eq_true c4
              have C4 := hide c4
              clear c4
              by_cases c5 : s < p
              · have d5 : decide (s < p) = true := decide_eq_true c5
                have C5 := hide c5
                clear c5
                have FF := REL ((W2.setCell ⟨Q, 1, none⟩ (.int .i64 m)).drew) y Z m false ((R2.out.set1 m).drew)
                  (by have := FAC.out; have := C5.out; rw [EM.out]; dsimp only; split <;> omega)
                  (by have h1 := FAC.out; have h2 := HC.out; have h3 := C5.out; have h4 := ZE.out; symm; rw [EM.out, ESM.out]; dsimp only; rw [← h4]; exact decide_eq_false (by omega))
                  (by rw [EM.out]; exact ZE.out)
                  (by have h1 := C3.out; have h2 := C4.out; rw [EM.out]; dsimp only; omega)
                refine still_all (by kernel_rfl) (by kernel_rfl) ?_
                repeat still_step
                refine wpStill_nil ?_
                go_wp2_with fail
                go_roundw
                case rel => exact ⟨i + 1, by go_num, by omega, by rw [HNX.out]; exact congrArg _ FF.out.1, by rw [HNX.out]; exact congrArg _ FF.out.2.1, by rw [HNX.out]; exact hide FF.out.2.2⟩
                case measure => simp [intOf]; omega
              · have d5 : decide (s < p) = false := decide_eq_false c5
                have C5 := hide c5
                clear c5
                have FF := REL ((W2.setCell ⟨Q, 1, none⟩ (.int .i64 m)).drew) (E + y) Z m true ((R2.out.set1 m).drew)
                  (by have := FAC.out; have := C5.out; rw [EM.out]; dsimp only; split <;> omega)
                  (by have h1 := FAC.out; have h2 := HC.out; have h3 := C5.out; have h4 := ZE.out; symm; rw [EM.out, ESM.out]; dsimp only; rw [← h4]; exact decide_eq_true (by omega))
                  (by rw [EM.out]; exact ZE.out)
                  (by have h1 := C3.out; have h2 := C4.out; rw [EM.out]; dsimp only; omega)
                refine still_all (by kernel_rfl) (by kernel_rfl) ?_
                repeat still_step
                refine wpStill_nil ?_
                go_wp2_with fail
                go_roundw
                case rel => exact ⟨i + 1, by go_num, by omega, by rw [HNX.out]; exact congrArg _ FF.out.1, by rw [HNX.out]; exact congrArg _ FF.out.2.1, by rw [HNX.out]; exact hide FF.out.2.2⟩
                case measure => simp [intOf]; omega
            · have d4 : decide ((E + s) < m) = false := decide_eq_false c4
              have C4 := hide c4
              clear c4
              by_cases c5 : s < p
              · have d5 : decide (s < p) = true := decide_eq_true c5
                have C5 := hide c5
                clear c5
                have FF := REL (W2.drew) y Z (E + s) false (R2.out.drew)
                  (by have := FAC.out; have := C5.out; rw [EM.out]; dsimp only; split <;> omega)
                  (by have h1 := FAC.out; have h2 := HC.out; have h3 := C5.out; have h4 := ZE.out; symm; rw [EM.out, ESM.out]; dsimp only; rw [← h4]; exact decide_eq_false (by omega))
                  (by rw [EM.out]; exact ZE.out)
                  (by have h1 := C3.out; have h2 := C4.out; rw [EM.out]; dsimp only; omega)
                refine still_all (by kernel_rfl) (by kernel_rfl) ?_
                repeat still_step
                refine wpStill_nil ?_
                go_wp2_with fail
                go_roundw
                case rel => exact ⟨i + 1, by go_num, by omega, by rw [HNX.out]; exact congrArg _ FF.out.1, by rw [HNX.out]; exact congrArg _ FF.out.2.1, by rw [HNX.out]; exact hide FF.out.2.2⟩
                case measure => simp [intOf]; omega
              · have d5 : decide (s < p) = false := decide_eq_false c5
                have C5 := hide c5
                clear c5
                have FF := REL (W2.drew) (E + y) Z (E + s) true (R2.out.drew)
                  (by have := FAC.out; have := C5.out; rw [EM.out]; dsimp only; split <;> omega)
                  (by have h1 := FAC.out; have h2 := HC.out; have h3 := C5.out; have h4 := ZE.out; symm; rw [EM.out, ESM.out]; dsimp only; rw [← h4]; exact decide_eq_true (by omega))
                  (by rw [EM.out]; exact ZE.out)
                  (by have h1 := C3.out; have h2 := C4.out; rw [EM.out]; dsimp only; omega)
                refine still_all (by kernel_rfl) (by kernel_rfl) ?_
                repeat still_step
                refine wpStill_nil ?_
                go_wp2_with fail
                go_roundw
                case rel => exact ⟨i + 1, by go_num, by omega, by rw [HNX.out]; exact congrArg _ FF.out.1, by rw [HNX.out]; exact congrArg _ FF.out.2.1, by rw [HNX.out]; exact hide FF.out.2.2⟩
                case measure => simp [intOf]; omega
          · have d3 : decide (M < E + s) = false := decide_eq_false c3
            have C3 := hide c3
            clear c3
            refine still_all (by kernel_rfl) (by kernel_rfl) ?_
            repeat still_step
            refine wpStill_nil ?_
            go_wp2_with fail
            have R2 := hide (R1.out.drew)
            generalize W1.drew = W2 at R2 ⊢
            clear c0 c1 c2 g1 gf1 R1
            obtain ⟨c0, c1, c2⟩ := LC.out W2 R2.out.s.be
            have g1 := R2.out.s.c1
            have gf1 := R2.out.s.fz 1
            by_cases c4 : M < m
            · have d4 : decide (M < m) = true := decide_eq_true c4
              have C4 := hide c4
              clear c4
              by_cases c5 : s < p
              · have d5 : decide (s < p) = true := decide_eq_true c5
                have C5 := hide c5
                clear c5
                have FF := REL ((W2.setCell ⟨Q, 1, none⟩ (.int .i64 m)).drew) y Z m false ((R2.out.set1 m).drew)
                  (by have := FAC.out; have := C5.out; rw [EM.out]; dsimp only; split <;> omega)
                  (by have h1 := FAC.out; have h2 := HC.out; have h3 := C5.out; have h4 := ZE.out; symm; rw [EM.out, ESM.out]; dsimp only; rw [← h4]; exact decide_eq_false (by omega))
                  (by rw [EM.out]; exact ZE.out)
                  (by have h1 := C3.out; have h2 := C4.out; rw [EM.out]; dsimp only; omega)
                refine still_all (by kernel_rfl) (by kernel_rfl) ?_
                repeat still_step
                refine wpStill_nil ?_
                go_wp2_with fail
                go_roundw
                case rel => exact ⟨i + 1, by go_num, by omega, by rw [HNX.out]; exact congrArg _ FF.out.1, by rw [HNX.out]; exact congrArg _ FF.out.2.1, by rw [HNX.out]; exact hide FF.out.2.2⟩
                case measure => simp [intOf]; omega
              · have d5 : decide (s < p) = false := decide_eq_false c5
                have C5 := hide c5
                clear c5
                have FF := REL ((W2.setCell ⟨Q, 1, none⟩ (.int .i64 m)).drew) (E + y) Z m true ((R2.out.set1 m).drew)
                  (by have := FAC.out; have := C5.out; rw [EM.out]; dsimp only; split <;> omega)
                  (by have h1 := FAC.out; have h2 := HC.out; have h3 := C5.out; have h4 := ZE.out; symm; rw [EM.out, ESM.out]; dsimp only; rw [← h4]; exact decide_eq_true (by omega))
                  (by rw [EM.out]; exact ZE.out)
                  (by have h1 := C3.out; have h2 := C4.out; rw [EM.out]; dsimp only; omega)
                refine still_all (by kernel_rfl) (by kernel_rfl) ?_
                repeat still_step
                refine wpStill_nil ?_
                go_wp2_with fail
                go_roundw
                case rel => exact ⟨i + 1, by go_num, by omega, by rw [HNX.out]; exact congrArg _ FF.out.1, by rw [HNX.out]; exact congrArg _ FF.out.2.1, by rw [HNX.out]; exact hide FF.out.2.2⟩
                case measure => simp [intOf]; omega
            · have d4 : decide (M < m) = false := decide_eq_false c4
              have C4 := hide c4
              clear c4
              by_cases c5 : s < p
              · have d5 : decide (s < p) = true := decide_eq_true c5
                have C5 := hide c5
                clear c5
                have FF := REL (W2.drew) y Z M false (R2.out.drew)
                  (by have := FAC.out; have := C5.out; rw [EM.out]; dsimp only; split <;> omega)
                  (by have h1 := FAC.out; have h2 := HC.out; have h3 := C5.out; have h4 := ZE.out; symm; rw [EM.out, ESM.out]; dsimp only; rw [← h4]; exact decide_eq_false (by omega))
                  (by rw [EM.out]; exact ZE.out)
                  (by have h1 := C3.out; have h2 := C4.out; rw [EM.out]; dsimp only; omega)
                refine still_all (by kernel_rfl) (by kernel_rfl) ?_
                repeat still_step
                refine wpStill_nil ?_
                go_wp2_with fail
                go_roundw
                case rel => exact ⟨i + 1, by go_num, by omega, by rw [HNX.out]; exact congrArg _ FF.out.1, by rw [HNX.out]; exact congrArg _ FF.out.2.1, by rw [HNX.out]; exact hide FF.out.2.2⟩
                case measure => simp [intOf]; omega
              · have d5 : decide (s < p) = false := decide_eq_false c5
                have C5 := hide c5
                clear c5
                have FF := REL (W2.drew) (E + y) Z M true (R2.out.drew)
                  (by have := FAC.out; have := C5.out; rw [EM.out]; dsimp only; split <;> omega)
                  (by have h1 := FAC.out; have h2 := HC.out; have h3 := C5.out; have h4 := ZE.out; symm; rw [EM.out, ESM.out]; dsimp only; rw [← h4]; exact decide_eq_true (by omega))
                  (by rw [EM.out]; exact ZE.out)
                  (by have h1 := C3.out; have h2 := C4.out; rw [EM.out]; dsimp only; omega)
                refine still_all (by kernel_rfl) (by kernel_rfl) ?_
                repeat still_step
                refine wpStill_nil ?_
                go_wp2_with fail
                go_roundw
                case rel => exact ⟨i + 1, by go_num, by omega, by rw [HNX.out]; exact congrArg _ FF.out.1, by rw [HNX.out]; exact congrArg _ FF.out.2.1, by rw [HNX.out]; exact hide FF.out.2.2⟩
                case measure => simp [intOf]; omega
        · have dc : decide (S = q) = false := decide_eq_false c
          rw [dc]
          have HC := hide c
          clear c dc g0 gf0
          go_wp2_with fail
          have R1 := HS
          have ZE : Hid (S = if S = q then S + s else S) := hide (by have := HC.out; rw [if_neg this])
          obtain ⟨W1, hW1⟩ : ∃ W1, W1 = wr := ⟨_, rfl⟩
          rw [← hW1] at R1 ⊢
          obtain ⟨Z, hZ⟩ : ∃ Z, Z = S := ⟨_, rfl⟩
          have R1' := R1
          rw [← hZ] at R1'
          have ZE' : Hid (Z = if S = q then S + s else S) := hide (by rw [hZ]; exact ZE.out)
          clear c0 c1 c2 g1 HS R1 ZE hZ hW1
          have R1 := R1'
          have ZE := ZE'
          clear R1' ZE'
          obtain ⟨c0, c1, c2⟩ := LC.out W1 R1.out.s.be
          have g1 := R1.out.s.c1
          have gf1 := R1.out.s.fz 1
          by_cases c3 : M < E + s
          · have d3 : decide (M < E + s) = true := decide_eq_true c3
            have C3 := hide c3
            clear c3
            refine still_all (by kernel_rfl) (by kernel_rfl) ?_
            repeat still_step
            refine wpStill_nil ?_
            go_wp2_with fail
            have R2 := hide ((R1.out.set1 (E + s)).drew)
            generalize (W1.setCell ⟨Q, 1, none⟩ (.int .i64 (E + s))).drew = W2 at R2 ⊢
            clear c0 c1 c2 g1 gf1 R1
            obtain ⟨c0, c1, c2⟩ := LC.out W2 R2.out.s.be
            have g1 := R2.out.s.c1
            have gf1 := R2.out.s.fz 1
            by_cases c4 : (E + s) < m
            · have d4 : decide ((E + s) < m) = true := decide_eq_true c4
              have C4 := hide c4
              clear c4
              by_cases c5 : s < p
              · have d5 : decide (s < p) = true := decide_eq_true c5
                have C5 := hide c5
                clear c5
                have FF := REL ((W2.setCell ⟨Q, 1, none⟩ (.int .i64 m)).drew) y Z m false ((R2.out.set1 m).drew)
                  (by have := FAC.out; have := C5.out; rw [EM.out]; dsimp only; split <;> omega)
                  (by have h1 := FAC.out; have h2 := HC.out; have h3 := C5.out; have h4 := ZE.out; symm; rw [EM.out, ESM.out]; dsimp only; rw [← h4]; exact decide_eq_false (by omega))
                  (by rw [EM.out]; exact ZE.out)
                  (by have h1 := C3.out; have h2 := C4.out; rw [EM.out]; dsimp only; omega)
                refine still_all (by kernel_rfl) (by kernel_rfl) ?_
                repeat still_step
                refine wpStill_nil ?_
                go_wp2_with fail
                go_roundw
                case rel => exact ⟨i + 1, by go_num, by omega, by rw [HNX.out]; exact congrArg _ FF.out.1, by rw [HNX.out]; exact congrArg _ FF.out.2.1, by rw [HNX.out]; exact hide FF.out.2.2⟩
                case measure => simp [intOf]; omega
              · have d5 : decide (s < p) = false := decide_eq_false c5
                have C5 := hide c5
                clear c5
                have FF := REL ((W2.setCell ⟨Q, 1, none⟩ (.int .i64 m)).drew) (E + y) Z m false ((R2.out.set1 m).drew)
                  (by have := FAC.out; have := C5.out; rw [EM.out]; dsimp only; split <;> omega)
                  (by have h1 := FAC.out; have h2 := HC.out; have h3 := C5.out; have h4 := ZE.out; symm; rw [EM.out, ESM.out]; dsimp only; rw [← h4]; exact decide_eq_false (by omega))
                  (by rw [EM.out]; exact ZE.out)
                  (by have h1 := C3.out; have h2 := C4.out; rw [EM.out]; dsimp only; omega)
                refine still_all (by kernel_rfl) (by kernel_rfl) ?_
                repeat still_step
                refine wpStill_nil ?_
                go_wp2_with fail
                go_roundw
                case rel => exact ⟨i + 1, by go_num, by omega, by rw [HNX.out]; exact congrArg _ FF.out.1, by rw [HNX.out]; exact congrArg _ FF.out.2.1, by rw [HNX.out]; exact hide FF.out.2.2⟩
                case measure => simp [intOf]; omega
            · have d4 : decide ((E + s) < m) = false := decide_eq_false c4
              have C4 := hide c4
              clear c4
              by_cases c5 : s < p
              · have d5 : decide (s < p) = true := decide_eq_true c5
                have C5 := hide c5
                clear c5
                have FF := REL (W2.drew) y Z (E + s) false (R2.out.drew)
                  (by have := FAC.out; have := C5.out; rw [EM.out]; dsimp only; split <;> omega)
                  (by have h1 := FAC.out; have h2 := HC.out; have h3 := C5.out; have h4 := ZE.out; symm; rw [EM.out, ESM.out]; dsimp only; rw [← h4]; exact decide_eq_false (by omega))
                  (by rw [EM.out]; exact ZE.out)
                  (by have h1 := C3.out; have h2 := C4.out; rw [EM.out]; dsimp only; omega)
                refine still_all (by kernel_rfl) (by kernel_rfl) ?_
                repeat still_step
                refine wpStill_nil ?_
                go_wp2_with fail
                go_roundw
                case rel => exact ⟨i + 1, by go_num, by omega, by rw [HNX.out]; exact congrArg _ FF.out.1, by rw [HNX.out]; exact congrArg _ FF.out.2.1, by rw [HNX.out]; exact hide FF.out.2.2⟩
                case measure => simp [intOf]; omega
              · have d5 : decide (s < p) = false := decide_eq_false c5
                have C5 := hide c5
                clear c5
                have FF := REL (W2.drew) (E + y) Z (E + s) false (R2.out.drew)
                  (by have := FAC.out; have := C5.out; rw [EM.out]; dsimp only; split <;> omega)
                  (by have h1 := FAC.out; have h2 := HC.out; have h3 := C5.out; have h4 := ZE.out; symm; rw [EM.out, ESM.out]; dsimp only; rw [← h4]; exact decide_eq_false (by omega))
                  (by rw [EM.out]; exact ZE.out)
                  (by have h1 := C3.out; have h2 := C4.out; rw [EM.out]; dsimp only; omega)
                refine still_all (by kernel_rfl) (by kernel_rfl) ?_
                repeat still_step
                refine wpStill_nil ?_
                go_wp2_with fail
                go_roundw
                case rel => exact ⟨i + 1, by go_num, by omega, by rw [HNX.out]; exact congrArg _ FF.out.1, by rw [HNX.out]; exact congrArg _ FF.out.2.1, by rw [HNX.out]; exact hide FF.out.2.2⟩
                case measure => simp [intOf]; omega
          · have d3 : decide (M < E + s) = false := decide_eq_false c3
            have C3 := hide c3
            clear c3
            refine still_all (by kernel_rfl) (by kernel_rfl) ?_
            repeat still_step
            refine wpStill_nil ?_
            go_wp2_with fail
            have R2 := hide (R1.out.drew)
            generalize W1.drew = W2 at R2 ⊢
            clear c0 c1 c2 g1 gf1 R1
            obtain ⟨c0, c1, c2⟩ := LC.out W2 R2.out.s.be
            have g1 := R2.out.s.c1
            have gf1 := R2.out.s.fz 1
            by_cases c4 : M < m
            · have d4 : decide (M < m) = true := decide_eq_true c4
              have C4 := hide c4
              clear c4
              by_cases c5 : s < p
              · have d5 : decide (s < p) = true := decide_eq_true c5
                have C5 := hide c5
                clear c5
                have FF := REL ((W2.setCell ⟨Q, 1, none⟩ (.int .i64 m)).drew) y Z m false ((R2.out.set1 m).drew)
                  (by have := FAC.out; have := C5.out; rw [EM.out]; dsimp only; split <;> omega)
                  (by have h1 := FAC.out; have h2 := HC.out; have h3 := C5.out; have h4 := ZE.out; symm; rw [EM.out, ESM.out]; dsimp only; rw [← h4]; exact decide_eq_false (by omega))
                  (by rw [EM.out]; exact ZE.out)
                  (by have h1 := C3.out; have h2 := C4.out; rw [EM.out]; dsimp only; omega)
                refine still_all (by kernel_rfl) (by kernel_rfl) ?_
                repeat still_step
                refine wpStill_nil ?_
                go_wp2_with fail
                go_roundw
                case rel => exact ⟨i + 1, by go_num, by omega, by rw [HNX.out]; exact congrArg _ FF.out.1, by rw [HNX.out]; exact congrArg _ FF.out.2.1, by rw [HNX.out]; exact hide FF.out.2.2⟩
                case measure => simp [intOf]; omega
              · have d5 : decide (s < p) = false := decide_eq_false c5
                have C5 := hide c5
                clear c5
                have FF := REL ((W2.setCell ⟨Q, 1, none⟩ (.int .i64 m)).drew) (E + y) Z m false ((R2.out.set1 m).drew)
                  (by have := FAC.out; have := C5.out; rw [EM.out]; dsimp only; split <;> omega)
                  (by have h1 := FAC.out; have h2 := HC.out; have h3 := C5.out; have h4 := ZE.out; symm; rw [EM.out, ESM.out]; dsimp only; rw [← h4]; exact decide_eq_false (by omega))
                  (by rw [EM.out]; exact ZE.out)
                  (by have h1 := C3.out; have h2 := C4.out; rw [EM.out]; dsimp only; omega)
                refine still_all (by kernel_rfl) (by kernel_rfl) ?_
                repeat still_step
                refine wpStill_nil ?_
                go_wp2_with fail
                go_roundw
                case rel => exact ⟨i + 1, by go_num, by omega, by rw [HNX.out]; exact congrArg _ FF.out.1, by rw [HNX.out]; exact congrArg _ FF.out.2.1, by rw [HNX.out]; exact hide FF.out.2.2⟩
                case measure => simp [intOf]; omega
            · have d4 : decide (M < m) = false := decide_eq_false c4
              have C4 := hide c4
              clear c4
              by_cases c5 : s < p
              · have d5 : decide (s < p) = true := decide_eq_true c5
                have C5 := hide c5
                clear c5
                have FF := REL (W2.drew) y Z M false (R2.out.drew)
                  (by have := FAC.out; have := C5.out; rw [EM.out]; dsimp only; split <;> omega)
                  (by have h1 := FAC.out; have h2 := HC.out; have h3 := C5.out; have h4 := ZE.out; symm; rw [EM.out, ESM.out]; dsimp only; rw [← h4]; exact decide_eq_false (by omega))
                  (by rw [EM.out]; exact ZE.out)
                  (by have h1 := C3.out; have h2 := C4.out; rw [EM.out]; dsimp only; omega)
                refine still_all (by kernel_rfl) (by kernel_rfl) ?_
                repeat still_step
                refine wpStill_nil ?_
                go_wp2_with fail
                go_roundw
                case rel => exact ⟨i + 1, by go_num, by omega, by rw [HNX.out]; exact congrArg _ FF.out.1, by rw [HNX.out]; exact congrArg _ FF.out.2.1, by rw [HNX.out]; exact hide FF.out.2.2⟩
                case measure => simp [intOf]; omega
              · have d5 : decide (s < p) = false := decide_eq_false c5
                have C5 := hide c5
                clear c5
                have FF := REL (W2.drew) (E + y) Z M false (R2.out.drew)
                  (by have := FAC.out; have := C5.out; rw [EM.out]; dsimp only; split <;> omega)
                  (by have h1 := FAC.out; have h2 := HC.out; have h3 := C5.out; have h4 := ZE.out; symm; rw [EM.out, ESM.out]; dsimp only; rw [← h4]; exact decide_eq_false (by omega))
                  (by rw [EM.out]; exact ZE.out)
                  (by have h1 := C3.out; have h2 := C4.out; rw [EM.out]; dsimp only; omega)
                refine still_all (by kernel_rfl) (by kernel_rfl) ?_
                repeat still_step
                refine wpStill_nil ?_
                go_wp2_with fail
                go_roundw
                case rel => exact ⟨i + 1, by go_num, by omega, by rw [HNX.out]; exact congrArg _ FF.out.1, by rw [HNX.out]; exact congrArg _ FF.out.2.1, by rw [HNX.out]; exact hide FF.out.2.2⟩
                case measure => simp [intOf]; omega
      · obtain rfl : i = n := by omega
        have d0 : ¬ (i : Int) < (i : Int) := by omega
        have r0 := HS.out.r.c0
        have r1 := HS.out.r.c1
        have r2 := HS.out.r.c2
        have rf0 := HS.out.r.fz 0
        have rf1 := HS.out.r.fz 1
        have rf2 := HS.out.r.fz 2
        have g0 := HS.out.s.c0
        have g1 := HS.out.s.c1
        have g2 := HS.out.s.c2
        have gf2 := HS.out.s.fz 2
        obtain ⟨S, hSs⟩ : ∃ S, (mg p (nth t) i).s = S := ⟨_, rfl⟩
        obtain ⟨M, hMs⟩ : ∃ S, (mg p (nth t) i).m = S := ⟨_, rfl⟩
        obtain ⟨E, hEs⟩ : ∃ S, (mg p (nth t) i).e = S := ⟨_, rfl⟩
        have B0 := HS.out.r.far HS.out.ne (HS.out.s.put 2 (.int .i64 E))
        have F2 := hide (((B0.set0 S).set1 M).set2 E)
        have FF := FN _ ⟨S, M, E⟩ (by rw [← hSs, ← hMs, ← hEs]) F2.out.be
        have ne := HS.out.ne
        rw [hSs] at g0
        rw [hMs] at g1
        rw [hEs]
        rw [hSs]
        clear FN hSs hMs hEs HS H B0
        go_wp2_with fail
        exact bodyPost_ret (ret_ce Tryz.results50 rfl rfl F2.out) rfl FF.out
  · obtain rfl := hno r
    have FN : ∀ W, Below N w W → Hid (PO (.returned (.tuple #[sumV ⟨0, 0, 0⟩, .int .i64 1])) W) := fun W hW => hide (by rw [HP.out]; exact ⟨fun z => absurd z r, fun _ => rfl, by rw [HNN.out]; exact hW⟩)
    have c0 := S2.out.c0
    have c1 := S2.out.c1
    have c2 := S2.out.c2
    have f0 := S2.out.fz 0
    have f1 := S2.out.fz 1
    have f2 := S2.out.fz 2
    have F2 := hide (((S2.out.set0 0).set1 0).set2 0)
    have FF := FN _ F2.out.be
    clear hy hno b2 r HP S1 A1 HW H FN
    go_wp2_with fail
    exact bodyPost_ret (ret_ce Tryz.results50 rfl rfl F2.out) rfl FF.out
end Go.Proofs.YtnpimmjkmclkpaaGreatDoor.Mg
