/- The reference: Enabled. -/
import Derived.Test.YtlcbegmhmbegjaaRu
namespace Go.Proofs.Ytlcbegmhmbegjaa
open Go.ChangeShapes Go.WideShapes Go.ChangeAt Go.RowKit Go.Proofs.Sc Go.Maps
set_option linter.unusedVariables false
set_option linter.unusedSimpArgs false

variable {w w' : World} {b : Nat} {r : Rs} {v0 v1 v2 v3 v4 : Value} {vs : List Value} {T : Nat → Prop} {K : Nat → Nat}
theorem RL.below (h : RL w b r v0 v1 v2 v3 v4 vs T K) (hb : Below w.heap.size w w') : RL w' b r v0 v1 v2 v3 v4 vs T K := h.kept hb.size (fun x hx => hb.block x (h.lt hx))
set_option maxRecDepth 100000 in
set_option maxHeartbeats 4000000 in
theorem RL.enabled (l : RL w b r v0 v1 v2 v3 v4 vs T K) (ok : OkR r) :
    Calls Try.prog 23 #[.pointer (some ⟨b, 0, none⟩)] w (AblesP (absR r) w) := by
  have c0 := l.c0
  have c1 := l.c1
  have c5 := l.c5
  have hL : (absR r).ahead.length = r.tasks.length := aheadR_length ok.wf.len
  have hT : r.tasks.length ≤ 64 := by rw [← hL]; exact ok.wf.wf.tasks
  have hbl := cell_lt c0
  obtain ⟨o, cap, e0, hcap⟩ := l.shape
  obtain ⟨i0, hi0, hz0, hz1, hz2⟩ := info_parts infoI
  have L := hide l
  have OK := hide ok
  obtain ⟨k, hk⟩ : ∃ k, r.tasks.length = k := ⟨_, rfl⟩
  have HK := hide hk
  subst e0
  rw [hk] at c0 hT hcap hL
  obtain ⟨ov, hov⟩ : ∃ ov, r.over = ov := ⟨_, rfl⟩
  have FN : Hid (ov = false → ∀ v w', w'.ownsRow w.heap.size 3 1 v (ablesTo (absR r) k).length (nats (ablesTo (absR r) k)) → Below w.heap.size w w' → AblesP (absR r) w (.returned v) w') := hide (fun ho v w' h1 h2 => ⟨v, rfl, by
      rw [show ableS (absR r) = ablesTo (absR r) k by unfold ableS; rw [if_neg (by show ¬ r.over = true; rw [hov, ho]; simp), hL]]
      exact h1, h2⟩)
  have FO : Hid (ov = true → AblesP (absR r) w (.returned (.slice none 0 0)) w) := hide (fun ho => ⟨_, rfl, by
      rw [show ableS (absR r) = [] by unfold ableS; rw [if_pos (by show r.over = true; rw [hov, ho])]]
      exact World.ownsRow_nil w w.heap.size 3 1, Below.refl _ _⟩)
  rw [hov] at c5
  clear l ok hk hov hL
  cases ov with
  | true =>
    have FO' := hide (FO.out rfl)
    clear FN FO
    go_enter Try.func23, Try.ntmps23
    go_wp2_with fail
    go_loopw [3, 4] (fun vv iv wr => vv = .slice none 0 0 ∧ iv = .int .i64 0 ∧ wr = w) (fun _ iv _ => 0)
    case atStart => exact ⟨rfl, rfl, rfl⟩
    case round =>
      obtain ⟨rfl, rfl, rfl⟩ := hrel
      by_cases z : 0 < k
      · have d : (0 : Int) < (k : Int) := by omega
        go_wp2_with fail
        first | exact FO'.out | (go_ret; exact FO'.out)
      · obtain rfl : k = 0 := by omega
        go_wp2_with fail
        first | exact FO'.out | (go_ret; exact FO'.out)
  | false =>
    have FN' := hide (FN.out rfl)
    clear FN FO
    go_enter Try.func23, Try.ntmps23
    go_wp2_with fail
    go_loopw [3, 4] (fun vv iv wr => ∃ (i m : Nat), iv = .int .i64 (i : Int) ∧ i ≤ k ∧ m ≤ i ∧ Hid (m = (ablesTo (absR r) i).length) ∧ Hid (wr.ownsRow w.heap.size 3 1 vv m (nats (ablesTo (absR r) i))) ∧ Hid (Below w.heap.size w wr)) (fun _ iv _ => k - (intOf iv).toNat)
    case atStart => exact ⟨0, 0, rfl, Nat.zero_le _, Nat.zero_le _, hide rfl, hide (World.ownsRow_nil w w.heap.size 3 1), hide (Below.refl _ _)⟩
    case round =>
      obtain ⟨i, m, rfl, hi, hm, hme, hown, hB⟩ := hrel
      have L' := L.out.below hB.out
      have c0' := L'.c0
      have c1' := L'.c1
      have c5' := (hB.out.cell (p := ⟨b, 5, none⟩) hbl).trans c5
      rw [HK.out] at c0'
      by_cases hlt : i < k
      · have hil : i < r.tasks.length := by rw [HK.out]; exact hlt
        obtain ⟨q, hq⟩ : ∃ q, r.tasks[i]? = some q := ⟨_, List.getElem?_eq_getElem hil⟩
        obtain ⟨n, hn⟩ : ∃ n, r.at_[i]? = some n := ⟨_, List.getElem?_eq_getElem (by rw [OK.out.wf.len]; exact hil)⟩
        have hle := OK.out.wf.le i n q hn hq
        have NX := hide (ables_next (absR r) i)
        have eg : (absR r).ahead.getD i [] = q.drop n := ahead_len OK.out.wf hq hn
        rw [eg] at NX
        have hmem : q.drop n ∈ (absR r).ahead := List.mem_of_getElem? (aheadR_get r hn hq)
        have HM := hide hmem
        obtain ⟨g0, cap0, g1, cap1, o2, cap2, a0, a1, k0, k1, l2, l3, l0, l1, _, st⟩ := L'.task hq hn
        injection a0 with a0 _ _
        subst a0
        rw [a1, OK.out.wf.len, HK.out] at c1'
        rw [OK.out.wf.len, HK.out] at l1
        have HL' := hide L'
        have ST := hide st
        obtain ⟨j, hj⟩ : ∃ j, q.length = j := ⟨_, rfl⟩
        have HJ := hide hj
        rw [hj] at k0 l2 hle
        have d0 : (i : Int) < (k : Int) := by omega
        have i0' : (0 : Int) ≤ (i : Int) := by omega
        clear L' st hj hq hn hil a1 eg hmem l0 c0 c1 c5
        by_cases hnj : n = j
        · have E : Hid (ablesTo (absR r) (i + 1) = ablesTo (absR r) i) := hide (by rw [NX.out, List.drop_eq_nil_of_le (by rw [HJ.out]; omega)]; simp [canS])
          have d : ((n : Int) == (j : Int)) = true := by rw [hnj]; simp
          clear hnj NX ST
          go_wp2_with fail
          refine still_all (by kernel_rfl) (by kernel_rfl) ?_
          repeat still_step
          refine wpStill_nil ?_
          go_wp2_with fail
          go_roundw
          case rel => exact ⟨i + 1, m, by go_num, by omega, by omega, by rw [E.out]; exact hme, by rw [E.out]; exact hown, hide hB.out.drew⟩
          case measure => simp [intOf]; omega
        · have d : ((n : Int) == (j : Int)) = false := by simp; omega
          have hnl : n < q.length := by rw [HJ.out]; omega
          obtain ⟨g, off, rfl, s0, s1, s2⟩ := ST.out _ (List.getElem?_eq_getElem hnl)
          rw [List.drop_eq_getElem_cons hnl] at NX HM
          have sok := OK.out.wf.wf.ok _ HM.out _ (List.mem_cons_self ..)
          have skn := OK.out.wf.wf.known _ HM.out _ (List.mem_cons_self ..)
          generalize q[n] = s at *
          obtain ⟨op, a, bb⟩ := s
          obtain ⟨⟨o1, o2⟩, ⟨a1, a2⟩, ⟨b1, b2⟩⟩ := sok
          simp only at s0 s1 s2 o1 o2 a1 a2 b1 b2
          have n0 : (0 : Int) ≤ (n : Int) := by omega
          have n1 : (n : Int) < (j : Int) := by omega
          have z0 := cell_lt c0'
          have z1 := cell_lt k0
          have z2 := cell_lt k1
          have z3 := cell_lt s0
          clear ST HM hnl hnj hle
          go_wp2_with fail
          refine still_all (by kernel_rfl) (by kernel_rfl) ?_
          repeat still_step
          refine wpStill_nil ?_
          go_wp2_with fail
          go_region_held3 (fun w' => w'.cell? ⟨b, 0, none⟩ = some (.slice (some ⟨g0, 0, none⟩) k cap0) ∧ w'.cell? ⟨b, 1, none⟩ = some (.slice (some ⟨g1, 0, none⟩) k cap1) ∧ w'.cell? ⟨g0, i, none⟩ = some (.slice (some ⟨g, off, none⟩) j cap2) ∧ w'.cell? ⟨g1, i, none⟩ = some (.int .i64 (n : Int)) ∧ w'.cell? ⟨g, off + n * 3, none⟩ = some (.int .i64 op) ∧ w'.cell? ⟨g, off + n * 3 + 1, none⟩ = some (.int .i64 a) ∧ w'.cell? ⟨g, off + n * 3 + 2, none⟩ = some (.int .i64 bb)) (go_keep) (fail)
          go_wp2_with fail
          have B2 : Below wr.heap.size wr (wr.alloc (.cells #[.int .i64 op, .int .i64 a, .int .i64 bb] 36 (0, 0))).drew.drew := ((Below.refl _ _).alloc (Nat.le_refl _) _).drew.drew
          obtain ⟨W2, hW2⟩ : ∃ W2, W2 = (wr.alloc (.cells #[.int .i64 op, .int .i64 a, .int .i64 bb] 36 (0, 0))).drew.drew := ⟨_, rfl⟩
          rw [← hW2] at B2 ⊢
          have t0 : W2.cell? ⟨wr.heap.size, 0, none⟩ = some (.int .i64 op) := by
            rw [hW2]; show (wr.alloc _).cell? _ = _; rw [World.cell?_alloc_new]; rfl
          have t1 : W2.cell? ⟨wr.heap.size, 1, none⟩ = some (.int .i64 a) := by
            rw [hW2]; show (wr.alloc _).cell? _ = _; rw [World.cell?_alloc_new]; rfl
          have t2 : W2.cell? ⟨wr.heap.size, 2, none⟩ = some (.int .i64 bb) := by
            rw [hW2]; show (wr.alloc _).cell? _ = _; rw [World.cell?_alloc_new]; rfl
          have own2 := hide (owns_kept (w' := W2) hown.out (fun x hx => B2.block x (hown.out.lt x hx).2))
          have B3 := hide (hB.out.trans (B2.mono hB.out.size))
          have L2 := hide (HL'.out.below B2)
          have HH := hide (L2.out.holder OK.out a ⟨a1, a2⟩)
          have CQ : Hid (∀ nq, Calls Try.prog 27 #[.pointer (some ⟨b, 0, none⟩), .int .i64 a] (W2.drewN nq) fun e w' => e = .returned (.int .i64 ((lookL r.cells a).getD 0)) ∧ w' = W2.drewN nq) := hide (fun nq => (L2.out.below (below_drewN (Below.refl _ _) nq)).cellAt OK.out a ⟨a1, a2⟩)
          have WT : Hid (waitsS (absR r) ⟨op, a, bb⟩ = if op = 1 then (lookL r.locks a).isSome else if op = 4 then decide ((lookL r.cells a).getD 0 < bb) else false) := hide (by
            unfold waitsS
            simp only [absR, Option.isSome_map]
            rfl)
          have EC : Hid (waitsS (absR r) ⟨op, a, bb⟩ = true → ablesTo (absR r) (i + 1) = ablesTo (absR r) i) := hide (fun h => by rw [NX.out]; simp [canS, h])
          have EA : Hid (waitsS (absR r) ⟨op, a, bb⟩ = false → ablesTo (absR r) (i + 1) = ablesTo (absR r) i ++ [i]) := hide (fun h => by rw [NX.out]; simp [canS, h])
          have hcx : i64 ((lookL r.cells a).getD 0) := OK.out.wf.wf.cell a
          obtain ⟨x1, x2⟩ := hcx
          generalize (lookL r.locks a).getD 0 = hx at *
          generalize (lookL r.locks a).isSome = hy at *
          generalize (lookL r.cells a).getD 0 = cx at *
          clear hW2 NX hown B2 HL' c0' c1' c5' k0 k1 s0 s1 s2
          refine HH.out.mono ?_
          rintro e w1 ⟨rfl, hw1⟩
          rw [hw1]
          clear hw1 w1 HH
          by_cases p1 : op = 1
          · subst p1
            cases hy with
            | true =>
              have E := hide (EC.out (by rw [WT.out]; rfl))
              clear EC EA WT
              go_wp2_with fail
              go_quiet (first | (refine Calls.quiet_of_same (CQ.out _)))
              go_wp2_with fail
              go_roundw
              case rel => exact ⟨i + 1, m, by go_num, by omega, by omega, by rw [E.out]; exact hme, by rw [E.out]; exact hide own2.out, hide (below_drewN B3.out _)⟩
              case measure => simp [intOf]; omega
            | false =>
              have E := hide (EA.out (by rw [WT.out]; rfl))
              clear EC EA WT
              go_wp2_with fail
              go_quiet (first | (refine Calls.quiet_of_same (CQ.out _)))
              have own4 := hide (show (W2.drewN nq).ownsRow w.heap.size 3 1 _ m (nats (ablesTo (absR r) i)) from own2.out)
              have B4 := hide (below_drewN B3.out nq)
              obtain ⟨W4, hW4⟩ : ∃ W4, W4 = W2.drewN nq := ⟨_, rfl⟩
              rw [← hW4] at own4 B4 ⊢
              clear hW4 CQ L2 own2 B3 t0 t1 t2
              go_wp2_with (first | (at_builtin; refine wpList_append_own _ rfl (.tmp 83) (.tmp 85) 23 rfl w.heap.size 3 i0 (.int .i64 0) 1 8 Try.underlying23 hi0 hz0 hz1 hz2 rfl (by decide) _ m _ rfl (own4.out.alloc _) ⟨W4.heap.size, 0, none⟩ 1 1 [.int .i64 (i : Int)] rfl rfl (World.news_of_block (heap_alloc_new _ _)) (by intro u hu; simp at hu; subst hu; rfl) (by unfold maxLen; omega) (by omega) (by have := B4.out.size; simp; omega) ?_; intro v' w5 hown5 hgrow hnil; have O5 := hide hown5; have G5 := hide hgrow; clear hown5 hgrow hnil))
              go_roundw
              case rel =>
                refine ⟨i + 1, m + 1, by go_num, by omega, by omega, hide (by rw [E.out, hme.out]; simp), ?_, ?_⟩
                · rw [E.out]
                  have := O5.out
                  rw [show nats (ablesTo (absR r) i ++ [i]) = nats (ablesTo (absR r) i) ++ [.int .i64 (i : Int)] by simp [nats]]
                  exact hide this
                · refine hide ((B4.out.alloc B4.out.size _).grown G5.out (by have := B4.out.size; simp; omega) (fun x hx => (own4.out.lt x hx).1))
              case measure => simp [intOf]; omega
          · have d1 : (op == 1) = false := beq_eq_false_iff_ne.2 p1
            by_cases p4 : op = 4
            · subst p4
              by_cases lt : cx < bb
              · have E := hide (EC.out (by rw [WT.out]; simp [lt]))
                have dl : decide (cx < bb) = true := decide_eq_true lt
                clear EC EA WT
                go_wp2_with fail
                go_quiet (first | (refine Calls.quiet_of_same (CQ.out _)))
                go_wp2_with fail
                go_roundw
                case rel => exact ⟨i + 1, m, by go_num, by omega, by omega, by rw [E.out]; exact hme, by rw [E.out]; exact hide own2.out, hide (below_drewN B3.out _)⟩
                case measure => simp [intOf]; omega
              · have E := hide (EA.out (by rw [WT.out]; simp [lt]))
                have dl : decide (cx < bb) = false := decide_eq_false lt
                clear EC EA WT
                go_wp2_with fail
                go_quiet (first | (refine Calls.quiet_of_same (CQ.out _)))
                have own4 := hide (show (W2.drewN nq).ownsRow w.heap.size 3 1 _ m (nats (ablesTo (absR r) i)) from own2.out)
                have B4 := hide (below_drewN B3.out nq)
                obtain ⟨W4, hW4⟩ : ∃ W4, W4 = W2.drewN nq := ⟨_, rfl⟩
                rw [← hW4] at own4 B4 ⊢
                clear hW4 CQ L2 own2 B3 t0 t1 t2
                go_wp2_with (first | (at_builtin; refine wpList_append_own _ rfl (.tmp 83) (.tmp 85) 23 rfl w.heap.size 3 i0 (.int .i64 0) 1 8 Try.underlying23 hi0 hz0 hz1 hz2 rfl (by decide) _ m _ rfl (own4.out.alloc _) ⟨W4.heap.size, 0, none⟩ 1 1 [.int .i64 (i : Int)] rfl rfl (World.news_of_block (heap_alloc_new _ _)) (by intro u hu; simp at hu; subst hu; rfl) (by unfold maxLen; omega) (by omega) (by have := B4.out.size; simp; omega) ?_; intro v' w5 hown5 hgrow hnil; have O5 := hide hown5; have G5 := hide hgrow; clear hown5 hgrow hnil))
                go_roundw
                case rel =>
                  refine ⟨i + 1, m + 1, by go_num, by omega, by omega, hide (by rw [E.out, hme.out]; simp), ?_, ?_⟩
                  · rw [E.out]
                    have := O5.out
                    rw [show nats (ablesTo (absR r) i ++ [i]) = nats (ablesTo (absR r) i) ++ [.int .i64 (i : Int)] by simp [nats]]
                    exact hide this
                  · refine hide ((B4.out.alloc B4.out.size _).grown G5.out (by have := B4.out.size; simp; omega) (fun x hx => (own4.out.lt x hx).1))
                case measure => simp [intOf]; omega
            · have d4 : (op == 4) = false := beq_eq_false_iff_ne.2 p4
              have E := hide (EA.out (by rw [WT.out]; simp [p1, p4]))
              clear EC EA WT
              go_wp2_with fail
              go_quiet (first | (refine Calls.quiet_of_same (CQ.out _)))
              have own4 := hide (show (W2.drewN nq).ownsRow w.heap.size 3 1 _ m (nats (ablesTo (absR r) i)) from own2.out)
              have B4 := hide (below_drewN B3.out nq)
              obtain ⟨W4, hW4⟩ : ∃ W4, W4 = W2.drewN nq := ⟨_, rfl⟩
              rw [← hW4] at own4 B4 ⊢
              clear hW4 CQ L2 own2 B3 t0 t1 t2
              go_wp2_with (first | (at_builtin; refine wpList_append_own _ rfl (.tmp 83) (.tmp 85) 23 rfl w.heap.size 3 i0 (.int .i64 0) 1 8 Try.underlying23 hi0 hz0 hz1 hz2 rfl (by decide) _ m _ rfl (own4.out.alloc _) ⟨W4.heap.size, 0, none⟩ 1 1 [.int .i64 (i : Int)] rfl rfl (World.news_of_block (heap_alloc_new _ _)) (by intro u hu; simp at hu; subst hu; rfl) (by unfold maxLen; omega) (by omega) (by have := B4.out.size; simp; omega) ?_; intro v' w5 hown5 hgrow hnil; have O5 := hide hown5; have G5 := hide hgrow; clear hown5 hgrow hnil))
              go_roundw
              case rel =>
                refine ⟨i + 1, m + 1, by go_num, by omega, by omega, hide (by rw [E.out, hme.out]; simp), ?_, ?_⟩
                · rw [E.out]
                  have := O5.out
                  rw [show nats (ablesTo (absR r) i ++ [i]) = nats (ablesTo (absR r) i) ++ [.int .i64 (i : Int)] by simp [nats]]
                  exact hide this
                · refine hide ((B4.out.alloc B4.out.size _).grown G5.out (by have := B4.out.size; simp; omega) (fun x hx => (own4.out.lt x hx).1))
              case measure => simp [intOf]; omega
      · obtain rfl : i = k := by omega
        have FN2 : Hid _ := hide (FN'.out _ _ (by rw [← hme.out]; exact hown.out) hB.out)
        clear FN' hown hme c0 c1 c5
        have d0 : ¬ (i : Int) < (i : Int) := by omega
        go_wp2_with fail
        first | exact FN2.out | (go_ret; exact FN2.out)
end Go.Proofs.Ytlcbegmhmbegjaa
