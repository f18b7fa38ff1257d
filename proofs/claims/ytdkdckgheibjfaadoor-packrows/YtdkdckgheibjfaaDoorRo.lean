/- PackRows: its walk. -/
import Derived.Test.YtdkdckgheibjfaaDoorDs
namespace Go.Proofs.YtdkdckgheibjfaaDoor
open Go.ChangeShapes Go.WideShapes Go.ChangeAt Go.RowKit Go.Proofs.Pk Go.Maps Go.Proofs.Bt Bb
set_option linter.unusedVariables false
set_option linter.unusedSimpArgs false

/-- The summaries of the first rows. -/
def SumsOf (fs : Nat → Nat → Bool) (t : List Sm) : Prop := ∀ j, j < t.length → ∃ s m e : Nat, nth t j = ⟨(s : Nat), (m : Nat), (e : Nat)⟩ ∧ SumP (fs j) s m e
theorem SumsOf.snoc {fs : Nat → Nat → Bool} {t : List Sm} (h : SumsOf fs t) {s m e : Nat} (k : SumP (fs t.length) s m e) : SumsOf fs (t ++ [⟨(s : Nat), (m : Nat), (e : Nat)⟩]) := fun j hj => by
  rw [List.length_append, List.length_singleton] at hj
  by_cases z : j < t.length
  · obtain ⟨s', m', e', h1, h2⟩ := h j z
    refine ⟨s', m', e', ?_, h2⟩
    unfold nth at h1 ⊢
    rw [List.getElem?_append_left z]; exact h1
  · obtain rfl : j = t.length := by omega
    exact ⟨s, m, e, nth_at (by simp), k⟩
theorem SumsOf.rr {fs : Nat → Nat → Bool} {t : List Sm} (h : SumsOf fs t) (hl : t.length ≤ 64) : RR t 512 := ⟨by decide, by decide, hl, fun j hj => by
  obtain ⟨s, m, e, h1, h2⟩ := h j hj
  rw [h1]; exact sump_rgt h2⟩
set_option maxRecDepth 100000 in
set_option maxHeartbeats 4000000 in
theorem rows_core3 (a b c : Nat → Nat) (ha : ∀ k, a k < 18446744073709551616) (hb : ∀ k, b k < 18446744073709551616) (hc : ∀ k, c k < 18446744073709551616) (n : Int) (w : World) (ht : TabW w) :
    Calls Tryd.prog 3 #[words a, words b, words c, .int .i64 n] w fun e w' => e = .returned (.bool true) ∧ Below w.heap.size w w' := by
  obtain ⟨N, hN⟩ : ∃ N, w.heap.size = N := ⟨_, rfl⟩
  obtain ⟨w3, hw3⟩ : ∃ w3, w3 = (((w.alloc (.cells (cells8 a) 23)).alloc (.cells (cells8 b) 23)).alloc (.cells (cells8 c) 23)).alloc (.cells (cells24 a b c) 24) := ⟨_, rfl⟩
  have B3 : Hid (Below N w w3) := hide (by rw [hw3, ← hN]; exact ((((Below.refl _ w).alloc (Nat.le_refl _) _).alloc (by simp) _).alloc (by simp; omega) _).alloc (by simp; omega) _)
  have hB : w3.heap[N + 3]? = some (.cells (cells24 a b c) 24 (0, 0)) := by
    have := heap_alloc_new (((w.alloc (.cells (cells8 a) 23)).alloc (.cells (cells8 b) 23)).alloc (.cells (cells8 c) 23)) (.cells (cells24 a b c) 24)
    rw [← hw3] at this
    rw [show N + 3 = (((w.alloc (.cells (cells8 a) 23)).alloc (.cells (cells8 b) 23)).alloc (.cells (cells8 c) 23)).heap.size by simp [hN]]
    exact this
  have rw3 := rows_of hB ha hb hc
  obtain ⟨fs, hfs⟩ : ∃ fs, fs = fs3 a b c := ⟨_, rfl⟩
  have RW : Hid (∀ W, Below w3.heap.size w3 W → ∀ k, k < 3 → RowF W (N + 3) (k * 8) (fs k)) := hide (fun W hW k hk => by rw [hfs]; exact (row3 rw3 k hk).below hW)
  have TW : Hid (∀ W, Below w3.heap.size w3 W → TabW W) := hide (fun W hW => (ht.below (by rw [hN]; exact B3.out)).below hW)
  have HW := hide hw3
  have HNN := hide hN
  clear rw3 hB hfs ht hw3 ha hb hc
  unfold words
  unfold cells8 cells24 at HW
  unfold cells8
  go_enter Tryd.func3, Tryd.ntmps3
  go_wp2_with fail
  rw [← HW.out]
  clear HW
  go_loopw [10, 11] (fun lv iv wr => ∃ (i : Nat) (t : List Sm), iv = .int .i64 (i : Int) ∧ i ≤ 3 ∧ Hid (t.length = i) ∧ Hid (Os w3 wr lv t ∧ SumsOf fs t)) (fun _ iv _ => 3 - (intOf iv).toNat)
  case atStart => exact ⟨0, [], rfl, by omega, hide rfl, hide ⟨Os.start w3, fun j hj => by simp at hj⟩⟩
  case round =>
    obtain ⟨i, t, rfl, hi, HL, HO⟩ := hrel
    obtain ⟨o, cp, hv⟩ := HO.out.1.shape
    rw [HL.out] at hv
    subst hv
    by_cases hlt : i < 3
    · have i1 : (i : Int) < 3 := by omega
      have i2 : (0 : Int) ≤ (i : Int) := by omega
      have CS : Hid (Calls Tryd.prog 4 #[.pointer (some ⟨N + 3, i * 8, none⟩)] wr (SumR wr (fs i))) := hide (Bb.sum_any (N + 3) (i * 8) (fs i) wr (RW.out _ HO.out.1.be i hlt) (TW.out _ HO.out.1.be))
      go_wp2_with fail
      refine CS.out.mono ?_
      rintro e w4 ⟨s, m, y, rfl, hP, b4⟩
      unfold Bb.sumV
      have O4 := HO.out.1.next b4
      obtain ⟨g, c5, w5, r5, O5⟩ := O4.push (by rw [HL.out]; omega) ⟨(s : Nat), (m : Nat), (y : Nat)⟩ 26
      have S5 := HO.out.2.snoc (s := s) (m := m) (e := y) (by rw [HL.out]; exact hP)
      have L5 : Hid ((t ++ [(⟨(s : Nat), (m : Nat), (y : Nat)⟩ : Sm)]).length = i + 1) := hide (by rw [List.length_append, List.length_singleton, HL.out])
      dsimp only at r5
      rw [HL.out] at r5 O5
      have R5 := hide r5
      have OO := hide (And.intro O5 S5)
      clear r5 O5 O4 S5 hP b4 CS HO HL
      go_wp2_with (at_builtin; refine list_append_run (by rfl) (.tmp 30) (.tmp 35) 26 (by rfl) (by rfl) (by rfl) R5.out ?_)
      go_roundw
      case rel => exact ⟨i + 1, _, by go_num, by omega, L5, OO⟩
      case measure => simp [intOf]; omega
    · obtain rfl : i = 3 := by omega
      have d0 : ¬ ((3 : Nat) : Int) < 3 := by omega
      have A0 := hide HO.out.1.sums
      have SS := hide HO.out.2
      have RRH : Hid (RR t 512) := hide (HO.out.2.rr (by rw [HL.out]; decide))
      have BE := hide HO.out.1.be
      obtain ⟨S, M, E, hmg, hsn⟩ := mg_cat (fs := fs) (X := nth t) t.length SS.out
      have MG := hide hmg
      have SN : Hid (SumN (cat fs) 1536 S M E) := hide (by have := hsn; rwa [HL.out] at this)
      clear HO hmg hsn
      go_wp2_with fail
      refine (merge_core A0.out 512).mono ?_
      intro e w4 h4
      obtain ⟨rfl, b4⟩ := h4.at RRH.out
      rw [MG.out]
      unfold sumV
      dsimp only
      have B4 := BE.out.trans (b4.mono BE.out.size)
      have A4 := A0.out.below b4
      obtain ⟨w5, hw5⟩ : ∃ w5, w5 = w4.alloc (.cells #[.int .i64 (S : Int), .int .i64 (M : Int), .int .i64 (E : Int)] 28) := ⟨_, rfl⟩
      have B5 : Hid (Below w3.heap.size w3 w5) := hide (by rw [hw5]; exact B4.alloc B4.size _)
      have X5 : Hid (Bx w3.heap.size w4.heap.size w3 w5 (S : Int) (M : Int) (E : Int)) := hide (by rw [hw5]; exact Bx.new B4 B4.size)
      have A5 := hide (A4.below (show Below w4.heap.size w4 w5 by rw [hw5]; exact alloc1 _ _))
      have HW := hide hw5
      clear h4 b4 B4 A4 hw5 A0 BE MG
      go_wp2_with fail
      rw [← HW.out]
      clear HW
      go_loopw [14, 15, 16, 17, 18] (fun sv mv rv fv iv wr => ∃ (i s m e : Nat) (fi : Int), iv = .int .i64 (i : Int) ∧ i ≤ 1536 ∧ sv = .int .i64 (s : Int) ∧ mv = .int .i64 (m : Int) ∧ rv = .int .i64 (e : Int) ∧ fv = .int .i64 fi ∧ e ≤ i ∧ -1 ≤ fi ∧ fi ≤ 1536 ∧ wr = w5 ∧ Hid (SumN (cat fs) i s m e ∧ (1 ≤ n → FirstP (cat fs) n.toNat i fi))) (fun _ _ _ _ iv _ => 1536 - (intOf iv).toNat)
      case atStart => exact ⟨0, 0, 0, 0, -1, rfl, by omega, rfl, rfl, rfl, rfl, by omega, by omega, by omega, rfl, hide ⟨SumN.zero _, fun h => FirstP.zero _ (by omega)⟩⟩
      case round =>
        obtain ⟨i, s, m, e, fi, rfl, hi, rfl, rfl, rfl, rfl, hei, f1, f2, hwr, HS⟩ := hrel
        subst hwr
        by_cases hlt : i < 1536
        · have i1 : (i : Int) < 1536 := by omega
          have i2 : (0 : Int) ≤ (i : Int) := by omega
          have q0 : (0 : Int) ≤ (i : Int) / 512 := by omega
          have q1 : (i : Int) / 512 < 3 := by omega
          have CG := fun (bb : Bool) (hbb : bb = fs (i / 512) (i % 512)) => hide (show Calls Tryd.prog 6 #[.pointer (some ⟨N + 3, (i / 512) * 8, none⟩), .int .i64 ((i : Int) % 512)] wr fun r w' => r = .returned (.bool bb) ∧ w' = wr from by
            have := Bb.get_any (N + 3) (i / 512 * 8) (fs (i / 512)) wr (RW.out _ B5.out (i / 512) (by omega)) (i % 512) (by omega)
            rw [show ((i % 512 : Nat) : Int) = (i : Int) % 512 by omega] at this
            rw [hbb]
            exact this)
          have hcat : cat fs i = fs (i / 512) (i % 512) := rfl
          cases hb : cat fs i with
          | true =>
            have CG' := CG true (by rw [← hcat, hb])
            have NX : Hid (SumN (cat fs) (i + 1) s m 0 ∧ (1 ≤ n → FirstP (cat fs) n.toNat (i + 1) fi)) := hide ⟨HS.out.1.set hb, fun h => (HS.out.2 h).set (by omega) hb⟩
            clear CG hcat hb HS
            go_wp2_with fail
            refine CG'.out.mono ?_
            rintro _ w' ⟨rfl, hw'⟩
            rw [hw']
            clear hw' w' CG'
            go_wp2_with fail
            go_roundw
            case rel => exact ⟨i + 1, s, m, 0, fi, by go_num, by omega, rfl, rfl, rfl, rfl, by omega, f1, f2, by first | rfl | trivial, NX⟩
            case measure => simp [intOf]; omega
          | false =>
            have CG' := CG false (by rw [← hcat, hb])
            have ns := HS.out.1.clear hb
            obtain ⟨s', hs'⟩ : ∃ s', (if e + 1 = i + 1 then e + 1 else s) = s' := ⟨_, rfl⟩
            obtain ⟨m', hm'⟩ : ∃ m', max m (e + 1) = m' := ⟨_, rfl⟩
            obtain ⟨fi', hf'⟩ : ∃ fi' : Int, (if ((e : Int) + 1 = n) ∧ fi < 0 then (i : Int) - n + 1 else fi) = fi' := ⟨_, rfl⟩
            rw [hs', hm'] at ns
            have NX : Hid (SumN (cat fs) (i + 1) s' m' (e + 1) ∧ (1 ≤ n → FirstP (cat fs) n.toNat (i + 1) fi')) := hide ⟨ns, fun h => by
              have := (HS.out.2 h).clear (by omega) HS.out.1 hb
              have e1 : (if e + 1 = n.toNat ∧ fi < 0 then (i : Int) - (n.toNat : Nat) + 1 else fi) = fi' := by
                rw [← hf']
                by_cases z : (e : Int) + 1 = n ∧ fi < 0
                · rw [if_pos z, if_pos (by omega), show ((n.toNat : Nat) : Int) = n by omega]
                · rw [if_neg z, if_neg (by omega)]
              rwa [e1] at this⟩
            have hA : (((e : Int) + 1 == (i : Int) + 1) = true ∧ s' = e + 1) ∨ (((e : Int) + 1 == (i : Int) + 1) = false ∧ s' = s) := by
              by_cases z : e = i
              · exact .inl ⟨beq_iff_eq.2 (by omega), by rw [← hs', if_pos (by omega)]⟩
              · exact .inr ⟨beq_eq_false_iff_ne.2 (by omega), by rw [← hs', if_neg (by omega)]⟩
            have hBB : (decide ((m : Int) < (e : Int) + 1) = true ∧ m' = e + 1) ∨ (decide ((m : Int) < (e : Int) + 1) = false ∧ m' = m) := by
              by_cases z : (m : Int) < (e : Int) + 1
              · exact .inl ⟨decide_eq_true z, by omega⟩
              · exact .inr ⟨decide_eq_false z, by omega⟩
            have hC : (((e : Int) + 1 == n) = false ∧ fi' = fi) ∨ (((e : Int) + 1 == n) = true ∧ decide (fi < 0) = false ∧ fi' = fi) ∨ (((e : Int) + 1 == n) = true ∧ decide (fi < 0) = true ∧ fi' = (i : Int) - n + 1 ∧ 1 ≤ n ∧ n ≤ 1536 ∧ n ≤ (i : Int) + 1) := by
              by_cases z : (e : Int) + 1 = n
              · by_cases y : fi < 0
                · exact .inr (.inr ⟨beq_iff_eq.2 z, decide_eq_true y, by rw [← hf', if_pos ⟨z, y⟩], by omega, by omega, by omega⟩)
                · exact .inr (.inl ⟨beq_iff_eq.2 z, decide_eq_false y, by rw [← hf', if_neg (fun x => y x.2)]⟩)
              · exact .inl ⟨beq_eq_false_iff_ne.2 z, by rw [← hf', if_neg (fun x => z x.1)]⟩
            clear CG hcat hb HS ns hs' hm' hf'
            go_wp2_with fail
            refine CG'.out.mono ?_
            rintro _ w' ⟨rfl, hw'⟩
            rw [hw']
            clear hw' w' CG'
            rcases hA with ⟨dA, rfl⟩ | ⟨dA, rfl⟩
            all_goals rcases hBB with ⟨dB, rfl⟩ | ⟨dB, rfl⟩
            all_goals rcases hC with ⟨dC, rfl⟩ | ⟨dC, dD, rfl⟩ | ⟨dC, dD, hfi, n1, n2, n3⟩
            all_goals
              go_wp2_with fail
              go_roundw
              case rel => exact ⟨i + 1, _, _, e + 1, _, by go_num, by omega, by go_num, by go_num, by go_num, by first | go_num | (rw [hfi]; go_num), by omega, by omega, by omega, by first | rfl | trivial, NX⟩
              case measure => simp [intOf]; omega
        · obtain rfl : i = 1536 := by omega
          obtain ⟨z1, z2, z3⟩ := SN.out.one HS.out.1
          subst z1 z2 z3
          have d0 : ¬ ((1536 : Nat) : Int) < 1536 := by omega
          have x0 := X5.out.c0
          have x1 := X5.out.c1
          have x2 := X5.out.c2
          have FP := hide HS.out.2
          have AW : ∀ W, Below wr.heap.size wr W → Hid (Calls Tryd.prog 8 #[] W fun e w' => e = .returned (.bool true) ∧ Below N w w') := fun W hW => hide ((awake_any W).mono fun e w' h => ⟨h.1, by
            have z0 := HNN.out
            have q1 := B3.out.trans (B5.out.mono (by have := B3.out.size; omega))
            have q2 := q1.trans (hW.mono (by have := q1.size; omega))
            exact q2.trans (h.2.mono (by have := q2.size; omega))⟩)
          have HAW := hide AW
          obtain ⟨S', hS'⟩ : ∃ S' : Int, (S : Int) = S' := ⟨_, rfl⟩
          obtain ⟨M', hM'⟩ : ∃ S' : Int, (M : Int) = S' := ⟨_, rfl⟩
          obtain ⟨E', hE'⟩ : ∃ S' : Int, (E : Int) = S' := ⟨_, rfl⟩
          rw [hS', hM', hE']
          rw [hS'] at x0
          rw [hM'] at x1
          rw [hE'] at x2
          clear HS AW hS' hM' hE' hei SN
          go_wp2_with fail
          refine (fits_core A5.out 512 n).mono ?_
          rintro r w6 ⟨y6, no6, b6⟩
          have B6 := hide b6
          by_cases hn : 1 ≤ n
          · obtain ⟨i', ok, rfl, hf⟩ := y6 hn RRH.out
            have SSX : ∀ j, j < 3 → ∃ s m e : Nat, nth t j = ⟨(s : Nat), (m : Nat), (e : Nat)⟩ ∧ SumP (fs j) s m e := fun j hj => SS.out j (by rw [HL.out]; exact hj)
            rw [HL.out] at hf
            have bd := hf.bounds (by decide) (fun j hj => RRH.out.all j (by rw [HL.out]; exact hj))
            have key := fit_cat (fs := fs) (n := n.toNat) (by omega) SSX (by rw [show ((n.toNat : Nat) : Int) = n by omega]; exact hf) (FP.out hn)
            have dn : decide (n < 1) = false := decide_eq_false (by omega)
            have bi0 := bd.1
            have bi1 : i' ≤ 1536 := by have := bd.2; omega
            clear y6 no6 b6 hf SSX bd FP hn
            rcases key with ⟨rfl, k1, k2, k3⟩ | ⟨rfl, rfl, rfl⟩
            · have e1 : decide (0 ≤ fi) = true := decide_eq_true k1
              have e2 : decide (i' ≤ fi) = true := decide_eq_true k2
              have q : (i' == fi) = true ∨ (i' == fi) = false ∧ (i' % 512 == 0) = true ∧ decide (fi < i' + 512) = true := by
                rcases k3 with z | ⟨z, y⟩
                · exact .inl (beq_iff_eq.2 z)
                · by_cases x : i' = fi
                  · exact .inl (beq_iff_eq.2 x)
                  · exact .inr ⟨beq_eq_false_iff_ne.2 x, beq_iff_eq.2 z, decide_eq_true y⟩
              clear k3
              rcases q with q1 | ⟨q1, q2, q3⟩
              all_goals
                go_wp2_with fail
                refine (HAW.out _ B6.out).out.mono ?_
                rintro _ w7 ⟨rfl, b7⟩
                have F := hide b7
                clear b7
                go_wp2_with fail
                go_ret
                exact ⟨rfl, by first | exact F.out | (rw [HNN.out]; exact F.out)⟩
            · go_wp2_with fail
              refine (HAW.out _ B6.out).out.mono ?_
              rintro _ w7 ⟨rfl, b7⟩
              have F := hide b7
              clear b7
              go_wp2_with fail
              go_ret
              exact ⟨rfl, by first | exact F.out | (rw [HNN.out]; exact F.out)⟩
          · obtain rfl := no6 (fun z => hn z.1)
            have dn : decide (n < 1) = true := decide_eq_true (by omega)
            clear y6 no6 b6 hn
            go_wp2_with fail
            refine (HAW.out _ B6.out).out.mono ?_
            rintro _ w7 ⟨rfl, b7⟩
            have F := hide b7
            clear b7
            go_wp2_with fail
            go_ret
            exact ⟨rfl, by first | exact F.out | (rw [HNN.out]; exact F.out)⟩
end Go.Proofs.YtdkdckgheibjfaaDoor
