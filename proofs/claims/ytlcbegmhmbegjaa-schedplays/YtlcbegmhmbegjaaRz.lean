/- The reference: Go. -/
import Derived.Test.YtlcbegmhmbegjaaRy
import Derived.Deep.CutRange
import Derived.Deep.DeepCutAuto
namespace Go.Proofs.Ytlcbegmhmbegjaa
open Go.ChangeShapes Go.WideShapes Go.ChangeAt Go.RowKit Go.Proofs.Sc Go.Maps
set_option linter.unusedVariables false
set_option linter.unusedSimpArgs false

variable {w w' : World} {b : Nat} {r : Rs} {v0 v1 v2 v3 v4 : Value} {vs : List Value} {T : Nat → Prop} {K : Nat → Nat}
theorem wrap_of {x : Int} (h : i64 x) : IntKind.i64.wrap x = x := by
  obtain ⟨h1, h2⟩ := h
  unfold IntKind.wrap
  simp [IntKind.bits, IntKind.signed]
  split <;> omega
theorem tmod_pick (p n : Int) (h0 : 0 < n) : (0 ≤ p.tmod n ∧ p.tmod n = p % n) ∨ (p.tmod n < 0 ∧ p.tmod n + n = p % n) := by
  have g1 : p % n < n := Int.emod_lt_of_pos _ h0
  have g2 : 0 ≤ p % n := Int.emod_nonneg _ (by omega)
  have e : p.tmod n = p % n - if 0 ≤ p ∨ n ∣ p then 0 else (n.natAbs : Int) := by rw [Int.tmod_eq_emod]; split <;> simp
  by_cases c : 0 ≤ p ∨ n ∣ p
  · rw [if_pos c] at e
    exact Or.inl ⟨by omega, by omega⟩
  · rw [if_neg c] at e
    exact Or.inr ⟨by omega, by omega⟩
set_option maxRecDepth 100000 in
set_option maxHeartbeats 4000000 in
theorem RL.go (l : RL w b r v0 v1 v2 v3 v4 vs T K) (ok : OkR r) (p : Int) (hp : i64 p) :
    Calls Try.prog 11 #[.pointer (some ⟨b, 0, none⟩), .int .i64 p] w (GoP (RFoot b v0 v1 v2 v3 v4 T) w ⟨b, 0, none⟩ r p) := by
  have HRI : Hid (RI w ⟨b, 0, none⟩ r (RFoot b v0 v1 v2 v3 v4 T)) := hide ⟨b, v0, v1, v2, v3, v4, vs, T, K, rfl, rfl, l, ok⟩
  have c0 := l.c0
  have c1 := l.c1
  have c5 := l.c5
  have hL : (absR r).ahead.length = r.tasks.length := aheadR_length ok.wf.len
  have hT : r.tasks.length ≤ 64 := by rw [← hL]; exact ok.wf.wf.tasks
  have hbl := cell_lt c0
  obtain ⟨p1, p2⟩ := hp
  obtain ⟨o, cap, e0, hcap⟩ := l.shape
  obtain ⟨PO, hPO⟩ : ∃ PO, PO = GoP (RFoot b v0 v1 v2 v3 v4 T) w ⟨b, 0, none⟩ r p := ⟨_, rfl⟩
  rw [← hPO]
  have L := hide l
  have OK := hide ok
  obtain ⟨k, hk⟩ : ∃ k, r.tasks.length = k := ⟨_, rfl⟩
  have HK := hide hk
  have HPO := hide hPO
  have E0 := hide e0
  rw [e0, hk] at c0
  rw [hk] at hT hcap
  obtain ⟨ov, hov⟩ : ∃ ov, r.over = ov := ⟨_, rfl⟩
  rw [hov] at c5
  cases ov with
  | true =>
    have FN : Hid (PO (.returned (.tuple #[.int .i64 0, .int .i64 20])) w) := hide (by
      rw [hPO]
      have e : goS (absR r) p = (0, 20, absR r) := by unfold goS; rw [if_pos (show (absR r).over = true from hov)]
      refine ⟨by rw [e]; rfl, r, by rw [e], RStep.same HRI.out (Below.refl _ _)⟩)
    clear l ok hk hPO hov hL e0 HPO
    go_enter Try.func11, Try.ntmps11
    go_wp2_with fail
    exact FN.out
  | false =>
    have hov' : (absR r).over = false := hov
    have HOV := hide hov'
    clear l ok hk hPO hov hL e0 hov'
    go_enter Try.func11, Try.ntmps11
    go_wp2_with fail
    go_loopw [6, 7] (fun sv iv wr => ∃ (i : Nat) (L0 : Nat), iv = .int .i64 (i : Int) ∧ sv = .int .i64 (L0 : Int) ∧ i ≤ k ∧ L0 ≤ 10000 ∧ Hid (L0 = lens ((aheadR r).take i)) ∧ Hid (Below w.heap.size w wr)) (fun _ iv _ => k - (intOf iv).toNat)
    case atStart => exact ⟨0, 0, rfl, rfl, Nat.zero_le _, Nat.zero_le _, hide rfl, hide (Below.refl _ _)⟩
    case round =>
      obtain ⟨i, L0, rfl, rfl, hi, hL0, hle, hB⟩ := hrel
      have L' := L.out.below hB.out
      have c0' := L'.c0
      have c1' := L'.c1
      rw [E0.out, HK.out] at c0'
      by_cases hlt : i < k
      · have hil : i < r.tasks.length := by rw [HK.out]; exact hlt
        obtain ⟨q, hq⟩ : ∃ q, r.tasks[i]? = some q := ⟨_, List.getElem?_eq_getElem hil⟩
        obtain ⟨n, hn⟩ : ∃ n, r.at_[i]? = some n := ⟨_, List.getElem?_eq_getElem (by rw [OK.out.wf.len]; exact hil)⟩
        have hnq := OK.out.wf.le i n q hn hq
        have hah := aheadR_get r hn hq
        have ht := lens_take_succ _ i _ hah
        rw [List.length_drop, ← hle.out] at ht
        have hfew : lens ((aheadR r).take (i + 1)) ≤ 10000 := by have := lens_take_le (aheadR r) (i + 1); have := OK.out.few; omega
        obtain ⟨g0, cap0, g1, cap1, o2, cap2, a0, a1, k0, k1, l2, l3, l0, l1, _, _⟩ := L'.task hq hn
        rw [E0.out, HK.out] at a0
        injection a0 with a0 _ _
        subst a0
        rw [a1, OK.out.wf.len, HK.out] at c1'
        rw [OK.out.wf.len, HK.out] at l1
        obtain ⟨j, hj⟩ : ∃ j, q.length = j := ⟨_, rfl⟩
        rw [hj] at k0 l2 hnq ht
        have hw := wrap_left L0 j n hnq (by omega)
        have d0 : (i : Int) < (k : Int) := by omega
        have i0' : (0 : Int) ≤ (i : Int) := by omega
        have HT2 := hide ht
        have HF := hide hfew
        clear L' hq hn hil a1 hah hle ht hfew hj
        go_wp2_with fail
        refine still_all (by kernel_rfl) (by kernel_rfl) ?_
        repeat still_step
        refine wpStill_nil ?_
        go_wp2_with fail
        refine ⟨⟨i + 1, L0 + (j - n), by go_num, rfl, by omega, by have := HT2.out; have := HF.out; omega, hide (by rw [HT2.out]), hide hB.out.drew⟩, ?_⟩
        simp [intOf]; omega
      · obtain rfl : i = k := by omega
        have hall : L0 = lens (aheadR r) := by rw [hle.out, List.take_of_length_le (by rw [aheadR_length OK.out.wf.len, HK.out]; exact Nat.le_refl _)]
        have d0 : ¬ (i : Int) < (i : Int) := by omega
        by_cases hz : L0 = 0
        · have FN : Hid (PO (.returned (.tuple #[.int .i64 0, .int .i64 22])) wr) := hide (by
            rw [HPO.out]
            have e : goS (absR r) p = (0, 22, absR r) := by
              unfold goS
              rw [if_neg (by rw [HOV.out]; decide), if_pos (show doneS (absR r) = true from done_lens.2 (by show lens (aheadR r) = 0; omega))]
            exact ⟨by rw [e]; rfl, r, by rw [e], RStep.same HRI.out hB.out⟩)
          subst hz
          clear hall hle HPO
          go_wp2_with fail
          exact FN.out
        · have dz : ((L0 : Int) == 0) = false := by simp; omega
          have hnd : doneS (absR r) = false := by
            cases hd : doneS (absR r) with
            | false => rfl
            | true => exact absurd (by rw [hall]; exact done_lens.1 hd) hz
          have HND := hide hnd
          have EN := hide ((L.out.below hB.out).enabled OK.out)
          clear hall hle hnd hz
          go_wp2_with fail
          refine EN.out.mono ?_
          rintro e w1 ⟨v, rfl, h1, h2⟩
          have hle : (ableS (absR r)).length ≤ 64 := by
            unfold ableS
            split
            · simp
            · exact Nat.le_trans (ables_le _ _) OK.out.wf.wf.tasks
          have B1 := hide (hB.out.trans (h2.mono hB.out.size))
          by_cases st : ableS (absR r) = []
          · have FN : Hid (PO (.returned (.tuple #[.int .i64 0, .int .i64 21])) w1) := hide (by
              rw [HPO.out]
              have e : goS (absR r) p = (0, 21, absR r) := by unfold goS; rw [if_neg (by rw [HOV.out]; decide), if_neg (by rw [HND.out]; decide), if_pos st]
              exact ⟨by rw [e]; rfl, r, by rw [e], RStep.same HRI.out B1.out⟩)
            rw [st] at h1
            obtain ⟨o2, cap2, rfl⟩ : ∃ o cap, v = .slice o 0 cap := by
              obtain ⟨_, ⟨e, _⟩ | ⟨g, cap, cur, e, _⟩⟩ := h1
              · exact ⟨_, _, e⟩
              · exact ⟨_, _, e⟩
            clear h1 h2 st hle HPO EN
            go_wp2_with fail
            exact FN.out
          · obtain ⟨m1, m2, m3, m4⟩ := pick_mem p st
            obtain ⟨s, rest, hi', hwt⟩ := able_mem m1
            have eg : goS (absR r) p = (pickS (absR r) p, (stepS (absR r) (pickS (absR r) p)).1, (stepS (absR r) (pickS (absR r) p)).2) := by unfold goS; rw [if_neg (by rw [HOV.out]; decide), if_neg (by rw [HND.out]; decide), if_neg st]
            obtain ⟨ti, hpi⟩ : ∃ i, pickS (absR r) p = i := ⟨_, rfl⟩
            rw [hpi] at m2 hi' eg
            have FN : Hid (∀ W c, (stepR r ti).1 = c → RStep (RFoot b v0 v1 v2 v3 v4 T) w W ⟨b, 0, none⟩ (stepR r ti).2 → PO (.returned (.tuple #[.int .i64 (ti : Int), .int .i64 (c : Nat)])) W) := hide (fun W c h1 h2 => by
              rw [HPO.out]
              obtain ⟨s1, s2⟩ := stepR_abs OK.out.wf ti
              exact ⟨by rw [eg]; show _ = Ending.returned (.tuple #[.int .i64 (ti : Nat), .int .i64 ((stepS (absR r) ti).1 : Nat)]); rw [← s1, h1], _, by rw [eg]; exact s2, h2⟩)
            obtain ⟨k2, hk2⟩ : ∃ k, (ableS (absR r)).length = k := ⟨_, rfl⟩
            rw [hk2] at hle m2 m3 m4 h1
            have hk0 : (0 : Int) < (k2 : Int) := by omega
            have dk0 : ((k2 : Int) == 0) = false := beq_eq_false_iff_ne.2 (by omega)
            obtain ⟨kq, hkq⟩ : ∃ q : Nat, p % (k2 : Int) = (q : Int) := ⟨(p % (k2 : Int)).toNat, by omega⟩
            have hR := tmod_pick p (k2 : Int) hk0
            rw [hkq] at m2 m3 m4 hR
            rw [Int.toNat_natCast] at m2
            obtain ⟨ga, capa, rfl, _, hca⟩ := h1.form (by omega)
            have ca : w1.cell? ⟨ga, kq, none⟩ = some (.int .i64 (ti : Int)) := by
              rw [h1.cellAt kq (by omega)]
              unfold nats
              rw [List.getElem?_map, m2]
              rfl
            have hti : ti < r.tasks.length := by have := (List.getElem?_eq_some_iff.1 hi').1; rw [show (absR r).ahead.length = r.tasks.length from aheadR_length OK.out.wf.len] at this; exact this
            have hilt : ti < i := by rw [← HK.out]; exact hti
            obtain ⟨q, hq⟩ : ∃ q, r.tasks[ti]? = some q := ⟨_, List.getElem?_eq_getElem hti⟩
            obtain ⟨n, hn⟩ : ∃ n, r.at_[ti]? = some n := ⟨_, List.getElem?_eq_getElem (by rw [OK.out.wf.len]; exact hti)⟩
            have hd : q.drop n = s :: rest := by have : (absR r).ahead[ti]? = _ := aheadR_get r hn hq; rw [hi'] at this; exact (Option.some.inj this).symm
            obtain ⟨j, hj⟩ : ∃ j, q.length = j := ⟨_, rfl⟩
            have hnj : n < j := by
              have := congrArg List.length hd
              rw [List.length_drop, hj, List.length_cons] at this; omega
            have hqn : q[n]? = some s := by
              have := congrArg (·[0]?) hd
              simpa [List.getElem?_drop] using this
            have L1 := L.out.below B1.out
            obtain ⟨g0, cap0, g1, cap1, o2, cap2, a0, a1, k0, k1, l2, l3, l0, l1, _, sx⟩ := L1.task hq hn
            obtain ⟨g, off, rfl, s0, s1, s2⟩ := sx _ hqn
            have hmem : s :: rest ∈ (absR r).ahead := List.mem_of_getElem? hi'
            have sok := OK.out.wf.wf.ok _ hmem _ (List.mem_cons_self ..)
            have c0'' := L1.c0
            have c1'' := L1.c1
            rw [a0, HK.out] at c0''
            rw [a1, OK.out.wf.len, HK.out] at c1''
            rw [OK.out.wf.len, HK.out] at l1
            rw [HK.out] at l0
            rw [hj] at k0 l2
            have STEP : Hid (stepR r ti = if s.op = 2 ∧ (lookL r.locks s.a).map Int.toNat ≠ some ti then (20, { r with over := true }) else (0, { actR r ti s with at_ := r.at_.set ti (n + 1) })) := hide (by
              unfold stepR
              have e1 : (aheadR r).getD ti [] = s :: rest := by rw [List.getD_eq_getElem?_getD]; show ((absR r).ahead[ti]?).getD [] = _; rw [hi']; rfl
              have e2 : r.at_.getD ti 0 = n := by rw [List.getD_eq_getElem?_getD, hn]; rfl
              rw [e1, e2])
            have OKS := hide (OK.out.step ti)
            have HN := hide hn
            have HA1 := hide a1
            obtain ⟨op, a, bb⟩ := s
            obtain ⟨⟨op1, op2⟩, ⟨a1', a2'⟩, ⟨b1', b2'⟩⟩ := sok
            simp only at s0 s1 s2 op1 op2 a1' a2' b1' b2' STEP
            have HL1 := hide L1
            have z0 := cell_lt c0''
            have z1 := cell_lt k0
            have z2 := cell_lt k1
            have z3 := cell_lt s0
            have za := cell_lt ca
            clear HPO EN st hk2 hkq m2 hpi eg h1 h2 L1 sx hqn hd hq hn hi' hmem m1 hwt c0 c1 c0' c1' c5 HND HOV L' E0 a0 a1 hti hj
            have i0' : (0 : Int) ≤ (ti : Int) := by omega
            have i1' : (ti : Int) < (i : Int) := by omega
            have n0' : (0 : Int) ≤ (n : Int) := by omega
            have n1' : (n : Int) < (j : Int) := by omega
            have hwn : IntKind.i64.wrap ((n : Int) + 1) = ((n + 1 : Nat) : Int) := by
              have : (n : Int) < 9223372036854775807 := by have := l3; unfold maxLen at this; omega
              exact wrap_of (by unfold i64; omega)
            obtain ⟨R, hRR⟩ : ∃ R, p.tmod (k2 : Int) = R := ⟨_, rfl⟩
            rw [hRR] at hR
            go_upto_if 57 with fail
            go_cut [9] (fun s9 wx => s9 = .int .i64 (kq : Int) ∧ wx = w1)
            case first =>
              rcases hR with ⟨r1, r2⟩ | ⟨r1, r2⟩
              · subst r2
                go_wp2_with fail
                go_meet
                exact ⟨rfl, rfl⟩
              · obtain rfl : R = (kq : Int) - (k2 : Int) := by omega
                have hw : IntKind.i64.wrap ((kq : Int) - (k2 : Int) + (k2 : Int)) = (kq : Int) := by rw [show (kq : Int) - (k2 : Int) + (k2 : Int) = (kq : Int) by omega]; exact wrap_of (by unfold i64; omega)
                go_wp2_with fail
                go_meet
                exact ⟨rfl, rfl⟩
            case rest =>
              obtain ⟨rfl, hwc⟩ := hcut
              rw [hwc]
              clear hwc hR hRR
              go_wp2_with fail
              go_region_held3 (fun w' => w'.cell? ⟨b, 0, none⟩ = some (.slice (some ⟨g0, 0, none⟩) i cap0) ∧ w'.cell? ⟨b, 1, none⟩ = some (.slice (some ⟨g1, 0, none⟩) i cap1) ∧ w'.cell? ⟨g0, ti, none⟩ = some (.slice (some ⟨g, off, none⟩) j cap2) ∧ w'.cell? ⟨g1, ti, none⟩ = some (.int .i64 (n : Int)) ∧ w'.cell? ⟨g, off + n * 3, none⟩ = some (.int .i64 op) ∧ w'.cell? ⟨g, off + n * 3 + 1, none⟩ = some (.int .i64 a) ∧ w'.cell? ⟨g, off + n * 3 + 2, none⟩ = some (.int .i64 bb)) (go_keep) (fail)
              have B2 : Below w1.heap.size w1 (w1.alloc (.cells #[.int .i64 op, .int .i64 a, .int .i64 bb] 36)).drew := ((Below.refl _ _).alloc (Nat.le_refl _) _).drew
              obtain ⟨W2, hW2⟩ : ∃ W2, W2 = (w1.alloc (.cells #[.int .i64 op, .int .i64 a, .int .i64 bb] 36)).drew := ⟨_, rfl⟩
              rw [← hW2] at B2 ⊢
              have t0 : W2.cell? ⟨w1.heap.size, 0, none⟩ = some (.int .i64 op) := by
                rw [hW2]; show (w1.alloc _).cell? _ = _; rw [World.cell?_alloc_new]; rfl
              have t1 : W2.cell? ⟨w1.heap.size, 1, none⟩ = some (.int .i64 a) := by
                rw [hW2]; show (w1.alloc _).cell? _ = _; rw [World.cell?_alloc_new]; rfl
              have t2 : W2.cell? ⟨w1.heap.size, 2, none⟩ = some (.int .i64 bb) := by
                rw [hW2]; show (w1.alloc _).cell? _ = _; rw [World.cell?_alloc_new]; rfl
              have L2 := hide (HL1.out.below B2)
              have G2 : Hid (RG (RFoot b v0 v1 v2 v3 v4 T) w b vs T r v0 v1 v2 v3 v4 W2) := hide ⟨⟨K, L2.out⟩, Kept.of_below (B1.out.trans (B2.mono B1.out.size)), fun x hx => Or.inl hx⟩
              have TB : Hid (∀ x, RFoot b v0 v1 v2 v3 v4 T x → x ≠ w1.heap.size) := hide (fun x hx e => by have := HL1.out.lt hx; omega)
              have hT1 : w1.heap.size < W2.heap.size := cell_lt t0
              obtain ⟨tb, htb⟩ : ∃ tb, w1.heap.size = tb := ⟨_, rfl⟩
              rw [htb] at t0 t1 t2 TB hT1 ⊢
              clear hW2 B2 c0'' c1'' k0 k1 s0 s1 s2 htb ca z0 z1 z2 z3 za
              have FIN : Hid (∀ c r', stepR r ti = (c, r') → ∀ W v1' v2' v3' v4', RG (RFoot b v0 v1 v2 v3 v4 T) w b vs T r' v0 v1' v2' v3' v4' W → PO (.returned (.tuple #[.int .i64 (ti : Int), .int .i64 (c : Nat)])) W) := hide (fun c r' e W v1' v2' v3' v4' h => FN.out W c (by rw [e]) (by have := OKS.out; rw [e] at this ⊢; exact h.step this))
              by_cases p2 : op = 2
              · subst p2
                have HH := hide (L2.out.holder OK.out a ⟨a1', a2'⟩)
                have STB : Hid ((lookL r.locks a).map Int.toNat ≠ some ti → stepR r ti = (20, { r with over := true })) := hide (fun h => by rw [STEP.out, if_pos ⟨rfl, h⟩])
                have STG : Hid ((lookL r.locks a).map Int.toNat = some ti → stepR r ti = (0, { r with locks := dropL r.locks a, at_ := r.at_.set ti (n + 1) })) := hide (fun h => by rw [STEP.out, if_neg (fun z => z.2 h)]; rfl)
                have hx0 : ∀ x, lookL r.locks a = some x → 0 ≤ x := fun x hx => OK.out.wf.locks _ (look_mem hx)
                have c5' := L2.out.c5
                have f5 := L2.out.fz 5
                obtain ⟨y, hy⟩ : ∃ y, lookL r.locks a = y := ⟨_, rfl⟩
                rw [hy] at STB STG HH hx0
                have HY := hide hy
                clear hy STEP
                go_wp2_with fail
                refine HH.out.mono ?_
                rintro e w3 ⟨rfl, hw3⟩
                rw [hw3]
                clear hw3 w3 HH
                by_cases bad : y.map Int.toNat = some ti
                · obtain ⟨x, rfl⟩ : ∃ x, y = some x := by
                    cases y with
                    | none => simp at bad
                    | some x => exact ⟨x, rfl⟩
                  have hx := hx0 x rfl
                  have dne : x = (ti : Int) := by simp at bad; omega
                  have FE := hide (fun W v1' v2' v3' v4' => FIN.out 0 _ (STG.out bad) W v1' v2' v3' v4')
                  subst dne
                  clear STB STG bad hx0 FIN FN
                  simp only [Option.getD_some, Option.isSome_some]
                  have c2 := L2.out.c2
                  have f2 := L2.out.fz 2
                  have DR := hide (drop_core (L2.out.below (drew_below W2)).locks a ⟨a1', a2'⟩ OK.out.locks (by have := OK.out.few; omega))
                  have HA2 : Hid (v1 = .slice (some ⟨g1, 0, none⟩) r.at_.length cap1) := HA1
                  go_wp2_with fail
                  have DR' : Hid (Calls Try.prog 25 #[v2, .int .i64 a] W2.drew fun e w6 => ∃ o' n' c', e = .returned (.slice o' n' c') ∧ RG (RFoot b v0 v1 v2 v3 v4 T) w b vs T { r with locks := dropL r.locks a } v0 v1 (.slice o' n' c') v3 v4 (w6.setCell ⟨b, 2, none⟩ (.slice o' n' c')) ∧ w6.cell? ⟨b, 2, none⟩ = some v2 ∧ w6.frozen? ⟨b, 2, none⟩ = false ∧ Below W2.heap.size W2 w6) := hide (DR.out.mono (by
                    intro e w6 h
                    obtain ⟨v', rfl, h⟩ := h
                    have ho := h.1
                    have b6 := h.2
                    obtain ⟨o', c', rfl⟩ := own_slice ho
                    have b6' : Below W2.heap.size W2 w6 := (drew_below W2).trans b6
                    exact ⟨_, _, _, rfl, G2.out.drew.put2 (own_mono ho) (Kept.of_below b6) (fun g e => Or.inr ((World.ownsRow.lt ho g e).1)), (b6'.cell (p := ⟨b, 2, none⟩) (cell_lt c2)).trans c2, (fz_of_block (b6'.block b (cell_lt c2))).trans f2, b6'⟩))
                  go_region_with (first
                    | (go_at_call 25; refine DR'.out.mono ?_; rintro e w6 ⟨o', n', c', rfl, G3, cc2, ff2, B6⟩; have G3 := hide G3; have B6 := hide B6))
                  all_goals
                    obtain ⟨W3, hW3⟩ : ∃ W3, W3 = w6.setCell ⟨b, 2, none⟩ (.slice o' n' c') := ⟨_, rfl⟩
                    rw [← hW3] at G3 ⊢
                    have tt0 : W3.cell? ⟨tb, 0, none⟩ = some (.int .i64 2) := by
                      rw [hW3, World.cell?_of_block (set_far (fun e => TB.out b (Or.inl rfl) e.symm))]
                      exact (B6.out.cell (p := ⟨tb, 0, none⟩) hT1).trans t0
                    obtain ⟨e1, e2, e3⟩ := G3.out.ats HA2.out HN.out
                    have FE' := hide (FE.out _ _ _ _ _ (G3.out.drew.at' (i := ti) (n := n + 1) HA2.out))
                    rw [show r.at_.length = i by rw [OK.out.wf.len, HK.out]] at e1
                    clear hW3 cc2 ff2 B6 G3 c2 f2 c5' f5 t0 t1 t2 DR DR' G2 L2 FE
                    go_wp2_with fail
                    refine still_tail 14 (by kernel_rfl) (by kernel_rfl) ?_
                    simp only [List.take_succ_cons, List.take_zero, List.drop_succ_cons, List.drop_zero]
                    repeat still_step
                    refine wpStill_nil ?_
                    go_wp2_with fail
                    exact FE'.out
                · have FE := hide (FIN.out 20 _ (STB.out bad) _ _ _ _ _ G2.out.end)
                  clear STB STG HY HN OKS G2 FN FIN L2 
                  cases y with
                  | none =>
                    clear bad hx0
                    simp only [Option.getD_none, Option.isSome_none]
                    go_wp2_with fail
                    exact FE.out
                  | some x =>
                    have hx := hx0 x rfl
                    have dne : (x == (ti : Int)) = false := beq_eq_false_iff_ne.2 (fun e => bad (by rw [e]; simp))
                    clear bad hx0
                    simp only [Option.getD_some, Option.isSome_some]
                    go_wp2_with fail
                    exact FE.out
              · have d2 : (op == 2) = false := beq_eq_false_iff_ne.2 p2
                have ST : Hid (stepR r ti = (0, { actR r ti ⟨op, a, bb⟩ with at_ := r.at_.set ti (n + 1) })) := hide (by rw [STEP.out, if_neg (fun z => p2 z.1)])
                have HA2 : Hid (v1 = .slice (some ⟨g1, 0, none⟩) r.at_.length cap1) := HA1
                have FE0 := hide (fun W v1' v2' v3' v4' => FIN.out 0 _ ST.out W v1' v2' v3' v4')
                clear FIN FN ST STEP
                by_cases p1 : op = 1
                · subst p1
                  have FE : Hid (∀ W v1' v2' v3' v4', RG (RFoot b v0 v1 v2 v3 v4 T) w b vs T { r with locks := putL r.locks a ti, at_ := r.at_.set ti (n + 1) } v0 v1' v2' v3' v4' W → PO (.returned (.tuple #[.int .i64 (ti : Int), .int .i64 ((0 : Nat) : Int)])) W) := FE0
                  clear FE0
                  have c2 := L2.out.c2
                  have f2 := L2.out.fz 2
                  have PT := hide (put_core (L2.out.below (drew_below W2)).locks a (ti : Int) ⟨a1', a2'⟩ (by unfold i64; omega) OK.out.locks (by have := OK.out.few; omega))
                  have PT' : Hid (Calls Try.prog 26 #[v2, .int .i64 a, .int .i64 (ti : Int)] W2.drew fun e w6 => ∃ o' n' c', e = .returned (.slice o' n' c') ∧ RG (RFoot b v0 v1 v2 v3 v4 T) w b vs T { r with locks := putL r.locks a ti } v0 v1 (.slice o' n' c') v3 v4 (w6.setCell ⟨b, 2, none⟩ (.slice o' n' c')) ∧ w6.cell? ⟨b, 2, none⟩ = some v2 ∧ w6.frozen? ⟨b, 2, none⟩ = false) := hide (PT.out.mono (by
                    intro e w6 h
                    obtain ⟨v', rfl, h⟩ := h
                    have ho := h.1
                    have hk := h.2.1
                    obtain ⟨o', c', rfl⟩ := own_slice ho
                    have nb : ¬ v2.ownBlock = some b := ne_of_kind L2.out.k2 L2.out.kb (by decide)
                    exact ⟨_, _, _, rfl, G2.out.drew.put2 ho hk h.2.2, (hk.cell (cell_lt c2) nb).trans c2, (hk.fz (cell_lt c2) nb).trans f2⟩))
                  go_wp2_with fail
                  go_region_with (first
                    | (go_at_call 26; refine PT'.out.mono ?_; rintro e w6 ⟨o', n', c', rfl, G3, cc2, ff2⟩; have G3 := hide G3))
                  all_goals
                    obtain ⟨W3, hW3⟩ : ∃ W3, W3 = w6.setCell ⟨b, 2, none⟩ (.slice o' n' c') := ⟨_, rfl⟩
                    rw [← hW3] at G3 ⊢
                    obtain ⟨e1, e2, e3⟩ := G3.out.ats HA2.out HN.out
                    have FE' := hide (FE.out _ _ _ _ _ (G3.out.drew.at' (i := ti) (n := n + 1) HA2.out))
                    rw [show r.at_.length = i by rw [OK.out.wf.len, HK.out]] at e1
                    clear hW3 cc2 ff2 G3 c2 f2 t0 t1 t2 PT PT' G2 L2 FE
                    go_wp2_with fail
                    refine still_tail 14 (by kernel_rfl) (by kernel_rfl) ?_
                    simp only [List.take_succ_cons, List.take_zero, List.drop_succ_cons, List.drop_zero]
                    repeat still_step
                    refine wpStill_nil ?_
                    go_wp2_with fail
                    exact FE'.out
                · have d1 : (op == 1) = false := beq_eq_false_iff_ne.2 p1
                  by_cases p3 : op = 3
                  · subst p3
                    have FE : Hid (∀ W v1' v2' v3' v4', RG (RFoot b v0 v1 v2 v3 v4 T) w b vs T { r with cells := putL r.cells a (IntKind.i64.wrap ((lookL r.cells a).getD 0 + bb)), at_ := r.at_.set ti (n + 1) } v0 v1' v2' v3' v4' W → PO (.returned (.tuple #[.int .i64 (ti : Int), .int .i64 ((0 : Nat) : Int)])) W) := FE0
                    clear FE0
                    have c2 := L2.out.c3
                    have f2 := L2.out.fz 3
                    have CQ := hide ((L2.out.below (drew_below W2)).cellAt OK.out a ⟨a1', a2'⟩)
                    have hcx : i64 ((lookL r.cells a).getD 0) := OK.out.wf.wf.cell a
                    obtain ⟨cx, hcx'⟩ : ∃ cx, (lookL r.cells a).getD 0 = cx := ⟨_, rfl⟩
                    rw [hcx'] at CQ hcx FE
                    obtain ⟨x1, x2⟩ := hcx
                    have hX64 := wrap_i64 (cx + bb)
                    obtain ⟨X, hX⟩ : ∃ X, IntKind.i64.wrap (cx + bb) = X := ⟨_, rfl⟩
                    rw [hX] at FE hX64
                    have PT := hide (put_core (L2.out.below (drew_below W2)).cells a X ⟨a1', a2'⟩ hX64 OK.out.cells (by have := OK.out.few; omega))
                    have PT' : Hid (Calls Try.prog 26 #[v3, .int .i64 a, .int .i64 X] W2.drew fun e w6 => ∃ o' n' c', e = .returned (.slice o' n' c') ∧ RG (RFoot b v0 v1 v2 v3 v4 T) w b vs T { r with cells := putL r.cells a X } v0 v1 v2 (.slice o' n' c') v4 (w6.setCell ⟨b, 3, none⟩ (.slice o' n' c')) ∧ w6.cell? ⟨b, 3, none⟩ = some v3 ∧ w6.frozen? ⟨b, 3, none⟩ = false ∧ w6.cell? ⟨tb, 1, none⟩ = some (.int .i64 a) ∧ w6.cell? ⟨tb, 2, none⟩ = some (.int .i64 bb)) := hide (PT.out.mono (by
                      intro e w6 h
                      obtain ⟨v', rfl, h⟩ := h
                      have ho := h.1
                      have hk := h.2.1
                      obtain ⟨o', c', rfl⟩ := own_slice ho
                      have nb : ¬ v3.ownBlock = some b := ne_of_kind L2.out.k3 L2.out.kb (by decide)
                      have nt : ¬ v3.ownBlock = some tb := fun e => TB.out tb (by unfold RFoot; simp [e]) rfl
                      exact ⟨_, _, _, rfl, G2.out.drew.put3 ho hk h.2.2, (hk.cell (cell_lt c2) nb).trans c2, (hk.fz (cell_lt c2) nb).trans f2, (hk.cell hT1 nt).trans t1, (hk.cell hT1 nt).trans t2⟩))
                    have nbt : b ≠ tb := TB.out b (Or.inl rfl)
                    have nbt' : tb ≠ b := fun e => nbt e.symm
                    clear hX64 hcx'
                    go_wp2_with fail
                    refine wp_region_held_drew (S := fun w' => w'.cell? ⟨tb, 1, none⟩ = some (.int .i64 a) ∧ w'.cell? ⟨tb, 2, none⟩ = some (.int .i64 bb)) (by kernel_rfl) ⟨t1, t2⟩ (fun hHeld => ?_)
                    refine wpAnyH_take (i := 0) (oi := _) (v := ?_) rfl (by kernel_rfl) (by kernel_rfl) (by kernel_rfl) (fun _ _ _ h => h) (Or.inl ⟨by rfl, ?_⟩) (by assumption) ?_
                    rotate_left
                    · (intro w hSw; (try dsimp only at hSw); go_simp; try with_reducible rfl)
                    try simp only [Act.put, List.setIfInBounds_toArray, List.set_cons_zero, List.set_cons_succ]
                    refine wpAnyH_take (i := 1) (oi := _) (v := ?_) rfl (by kernel_rfl) (by kernel_rfl) (by kernel_rfl) (fun _ _ _ h => h) (Or.inl ⟨by rfl, ?_⟩) (by assumption) ?_
                    rotate_left
                    · (intro w hSw; (try dsimp only at hSw); go_simp; try with_reducible rfl)
                    try simp only [Act.put, List.setIfInBounds_toArray, List.set_cons_zero, List.set_cons_succ]
                    refine wpAnyH_take (i := 2) (oi := _) (v := ?_) rfl (by kernel_rfl) (by kernel_rfl) (by kernel_rfl) (fun _ _ _ h => h) (Or.inl ⟨by rfl, ?_⟩) (by assumption) ?_
                    rotate_left
                    · (intro w hSw; (try dsimp only at hSw); go_simp; try with_reducible rfl)
                    try simp only [Act.put, List.setIfInBounds_toArray, List.set_cons_zero, List.set_cons_succ]
                    refine wpAnyH_take (i := 3) (oi := _) (v := ?_) rfl (by kernel_rfl) (by kernel_rfl) (by kernel_rfl) (fun _ _ _ h => h) (Or.inl ⟨by rfl, ?_⟩) (by assumption) ?_
                    rotate_left
                    · (intro w hSw; (try dsimp only at hSw); go_simp; try with_reducible rfl)
                    try simp only [Act.put, List.setIfInBounds_toArray, List.set_cons_zero, List.set_cons_succ]
                    refine wpAnyH_take (i := 5) (oi := _) (v := ?_) rfl (by kernel_rfl) (by kernel_rfl) (by kernel_rfl) (fun _ _ _ h => h) (Or.inl ⟨by rfl, ?_⟩) (by assumption) ?_
                    rotate_left
                    · (intro w hSw; (try dsimp only at hSw); go_simp; try with_reducible rfl)
                    try simp only [Act.put, List.setIfInBounds_toArray, List.set_cons_zero, List.set_cons_succ]
                    refine wpAnyH_take (i := 6) (oi := _) (v := ?_) rfl (by kernel_rfl) (by kernel_rfl) (by kernel_rfl) (fun _ _ _ h => h) (Or.inl ⟨by rfl, ?_⟩) (by assumption) ?_
                    rotate_left
                    · (intro w hSw; (try dsimp only at hSw); go_simp; try with_reducible rfl)
                    try simp only [Act.put, List.setIfInBounds_toArray, List.set_cons_zero, List.set_cons_succ]
                    refine wpAnyH_take (i := 7) (oi := _) (v := ?_) rfl (by kernel_rfl) (by kernel_rfl) (by kernel_rfl) (fun _ _ _ h => h) (Or.inl ⟨by rfl, ?_⟩) (by assumption) ?_
                    rotate_left
                    · (intro w hSw; (try dsimp only at hSw); go_simp; try with_reducible rfl)
                    try simp only [Act.put, List.setIfInBounds_toArray, List.set_cons_zero, List.set_cons_succ]
                    refine wpAnyH_take (i := 8) (oi := _) (v := ?_) rfl (by kernel_rfl) (by kernel_rfl) (by kernel_rfl) (fun _ _ _ h => h) (Or.inl ⟨by rfl, ?_⟩) (by assumption) ?_
                    rotate_left
                    · (intro w hSw; (try dsimp only at hSw); go_simp; try with_reducible rfl)
                    try simp only [Act.put, List.setIfInBounds_toArray, List.set_cons_zero, List.set_cons_succ]
                    refine wpAnyH_take (i := 9) (oi := _) (v := ?_) rfl (by kernel_rfl) (by kernel_rfl) (by kernel_rfl) (fun _ _ _ h => h) (Or.inl ⟨by rfl, ?_⟩) (by assumption) ?_
                    rotate_left
                    · (intro w hSw; (try dsimp only at hSw); go_simp; try with_reducible rfl)
                    try simp only [Act.put, List.setIfInBounds_toArray, List.set_cons_zero, List.set_cons_succ]
                    refine wpAnyH_take (i := 11) (oi := _) (v := ?_) rfl (by kernel_rfl) (by kernel_rfl) (by kernel_rfl) (fun _ _ _ h => h) (Or.inl ⟨by rfl, ?_⟩) (by assumption) ?_
                    rotate_left
                    · (intro w hSw; (try dsimp only at hSw); go_simp; try with_reducible rfl)
                    try simp only [Act.put, List.setIfInBounds_toArray, List.set_cons_zero, List.set_cons_succ]
                    refine wpAnyH_take (i := 12) (oi := _) (v := ?_) rfl (by kernel_rfl) (by kernel_rfl) (by kernel_rfl) (fun _ _ _ h => h) (Or.inl ⟨by rfl, ?_⟩) (by assumption) ?_
                    rotate_left
                    · (intro w hSw; (try dsimp only at hSw); go_simp; try with_reducible rfl)
                    try simp only [Act.put, List.setIfInBounds_toArray, List.set_cons_zero, List.set_cons_succ]
                    refine wpAnyH_ready (rs := [4, 10]) (by kernel_rfl) (by simp) ?_
                    refine AllReadyH.cons (o := _) rfl (fun K hK => ?_) (AllReadyH.cons (o := _) rfl (fun K hK => ?_) AllReadyH.nil)
                    focus
                      go_simp
                      refine hK.out _ _ ⟨t1, t2⟩ (fun hHeld => ?_)
                      clear hK K
                      try simp only [Act.put, List.setIfInBounds_toArray, List.set_cons_zero, List.set_cons_succ]
                      refine wpAnyH_ready (rs := [10]) (by kernel_rfl) (by simp) ?_
                      refine AllReadyH.cons (o := _) rfl (fun K hK => ?_) AllReadyH.nil
                      go_simp
                      refine CQ.out.mono ?_
                      rintro e w5 ⟨rfl, hw5⟩
                      rw [hw5]
                      clear hw5 w5
                      refine hK.out _ _ ⟨t1, t2⟩ (fun hHeld => ?_)
                      clear hK K
                      try simp only [Act.put, List.setIfInBounds_toArray, List.set_cons_zero, List.set_cons_succ]
                      refine wpAnyH_take (i := 13) (oi := _) (v := ?_) rfl (by kernel_rfl) (by kernel_rfl) (by kernel_rfl) (fun _ _ _ h => h) (Or.inl ⟨by rfl, ?_⟩) (by assumption) ?_
                      rotate_left
                      · (intro w hSw; (try dsimp only at hSw); go_simp; try with_reducible rfl)
                      try simp only [Act.put, List.setIfInBounds_toArray, List.set_cons_zero, List.set_cons_succ]
                      refine wpAnyH_ready (rs := [14]) (by kernel_rfl) (by simp) ?_
                      refine AllReadyH.cons (o := _) rfl (fun K hK => ?_) AllReadyH.nil
                      go_simp
                      refine PT'.out.mono ?_
                      rintro e w6 ⟨o', n', c', rfl, G3, cc2, ff2, tt1, tt2⟩
                      have G3 := hide G3
                      refine hK.out _ _ ⟨tt1, tt2⟩ (fun hHeld => ?_)
                      clear hK K
                      try simp only [Act.put, List.setIfInBounds_toArray, List.set_cons_zero, List.set_cons_succ]
                      refine wpAnyH_take (i := 15) (oi := _) (v := ?_) rfl (by kernel_rfl) (by kernel_rfl) (by kernel_rfl) (fun _ _ _ h => h) (Or.inl ⟨by rfl, ?_⟩) (by assumption) ?_
                      rotate_left
                      · (intro w hSw; (try dsimp only at hSw); go_simp; try with_reducible rfl)
                      try simp only [Act.put, List.setIfInBounds_toArray, List.set_cons_zero, List.set_cons_succ]
                      refine wpAnyH_take (i := 16) (oi := _) (v := ?_) rfl (by kernel_rfl) (by kernel_rfl) (by kernel_rfl) (fun _ _ _ h => h) (Or.inl ⟨by rfl, ?_⟩) (by assumption) ?_
                      rotate_left
                      · (intro w hSw; (try dsimp only at hSw); go_simp; try with_reducible rfl)
                      try simp only [Act.put, List.setIfInBounds_toArray, List.set_cons_zero, List.set_cons_succ]
                      refine wpAnyH_ready (rs := [17]) (by kernel_rfl) (by simp) ?_
                      refine AllReadyH.cons (o := _) rfl (fun K hK => ?_) AllReadyH.nil
                      go_simp
                      refine hK.out _ _ ⟨(World.cell?_of_block (set_far nbt')).trans tt1, (World.cell?_of_block (set_far nbt')).trans tt2⟩ (fun hHeld => ?_)
                      clear hK K
                      try simp only [Act.put, List.setIfInBounds_toArray, List.set_cons_zero, List.set_cons_succ]
                      refine wpAnyH_done (by kernel_rfl) ?_ _
                    rotate_left
                    focus
                      go_simp
                      refine CQ.out.mono ?_
                      rintro e w5 ⟨rfl, hw5⟩
                      rw [hw5]
                      clear hw5 w5
                      refine hK.out _ _ ⟨t1, t2⟩ (fun hHeld => ?_)
                      clear hK K
                      try simp only [Act.put, List.setIfInBounds_toArray, List.set_cons_zero, List.set_cons_succ]
                      refine wpAnyH_take (i := 13) (oi := _) (v := ?_) rfl (by kernel_rfl) (by kernel_rfl) (by kernel_rfl) (fun _ _ _ h => h) (Or.inl ⟨by rfl, ?_⟩) (by assumption) ?_
                      rotate_left
                      · (intro w hSw; (try dsimp only at hSw); go_simp; try with_reducible rfl)
                      try simp only [Act.put, List.setIfInBounds_toArray, List.set_cons_zero, List.set_cons_succ]
                      refine wpAnyH_ready (rs := [4]) (by kernel_rfl) (by simp) ?_
                      refine AllReadyH.cons (o := _) rfl (fun K hK => ?_) AllReadyH.nil
                      go_simp
                      refine hK.out _ _ ⟨t1, t2⟩ (fun hHeld => ?_)
                      clear hK K
                      try simp only [Act.put, List.setIfInBounds_toArray, List.set_cons_zero, List.set_cons_succ]
                      refine wpAnyH_ready (rs := [14]) (by kernel_rfl) (by simp) ?_
                      refine AllReadyH.cons (o := _) rfl (fun K hK => ?_) AllReadyH.nil
                      go_simp
                      refine PT'.out.mono ?_
                      rintro e w6 ⟨o', n', c', rfl, G3, cc2, ff2, tt1, tt2⟩
                      have G3 := hide G3
                      refine hK.out _ _ ⟨tt1, tt2⟩ (fun hHeld => ?_)
                      clear hK K
                      try simp only [Act.put, List.setIfInBounds_toArray, List.set_cons_zero, List.set_cons_succ]
                      refine wpAnyH_take (i := 15) (oi := _) (v := ?_) rfl (by kernel_rfl) (by kernel_rfl) (by kernel_rfl) (fun _ _ _ h => h) (Or.inl ⟨by rfl, ?_⟩) (by assumption) ?_
                      rotate_left
                      · (intro w hSw; (try dsimp only at hSw); go_simp; try with_reducible rfl)
                      try simp only [Act.put, List.setIfInBounds_toArray, List.set_cons_zero, List.set_cons_succ]
                      refine wpAnyH_take (i := 16) (oi := _) (v := ?_) rfl (by kernel_rfl) (by kernel_rfl) (by kernel_rfl) (fun _ _ _ h => h) (Or.inl ⟨by rfl, ?_⟩) (by assumption) ?_
                      rotate_left
                      · (intro w hSw; (try dsimp only at hSw); go_simp; try with_reducible rfl)
                      try simp only [Act.put, List.setIfInBounds_toArray, List.set_cons_zero, List.set_cons_succ]
                      refine wpAnyH_ready (rs := [17]) (by kernel_rfl) (by simp) ?_
                      refine AllReadyH.cons (o := _) rfl (fun K hK => ?_) AllReadyH.nil
                      go_simp
                      refine hK.out _ _ ⟨(World.cell?_of_block (set_far nbt')).trans tt1, (World.cell?_of_block (set_far nbt')).trans tt2⟩ (fun hHeld => ?_)
                      clear hK K
                      try simp only [Act.put, List.setIfInBounds_toArray, List.set_cons_zero, List.set_cons_succ]
                      refine wpAnyH_done (by kernel_rfl) ?_ _
                    all_goals
                      obtain ⟨W3, hW3⟩ : ∃ W3, W3 = w6.setCell ⟨b, 3, none⟩ (.slice o' n' c') := ⟨_, rfl⟩
                      rw [← hW3] at G3 ⊢
                      obtain ⟨e1, e2, e3⟩ := G3.out.ats HA2.out HN.out
                      have FE' := hide (FE.out _ _ _ _ _ (G3.out.drew.at' (i := ti) (n := n + 1) HA2.out))
                      rw [show r.at_.length = i by rw [OK.out.wf.len, HK.out]] at e1
                      clear hW3 cc2 ff2 G3 c2 f2 t0 t1 t2 PT PT' G2 L2 FE
                      go_wp2_with fail
                      refine still_tail 14 (by kernel_rfl) (by kernel_rfl) ?_
                      simp only [List.take_succ_cons, List.take_zero, List.drop_succ_cons, List.drop_zero]
                      repeat still_step
                      refine wpStill_nil ?_
                      go_wp2_with fail
                      exact FE'.out
                  · have d3 : (op == 3) = false := beq_eq_false_iff_ne.2 p3
                    by_cases p5 : op = 5
                    · subst p5
                      have FE : Hid (∀ W v1' v2' v3' v4', RG (RFoot b v0 v1 v2 v3 v4 T) w b vs T { r with said := r.said ++ [a], at_ := r.at_.set ti (n + 1) } v0 v1' v2' v3' v4' W → PO (.returned (.tuple #[.int .i64 (ti : Int), .int .i64 ((0 : Nat) : Int)])) W) := FE0
                      clear FE0
                      obtain ⟨i0, hi0, hz0, hz1, hz2⟩ := info_parts infoI
                      have hsd : r.said.length ≤ 10000 := by
                        have : lens (absR r).ahead + r.said.length ≤ 10000 := OK.out.wf.wf.steps
                        omega
                      obtain ⟨W4, hW4⟩ : ∃ W4, W4 = (W2.alloc (.cells #[.int .i64 a] 3)).drew := ⟨_, rfl⟩
                      have B4 := hide (show Below W2.heap.size W2 W4 by rw [hW4]; exact ((Below.refl _ _).alloc (Nat.le_refl _) _).drew)
                      have L4 := hide (L2.out.below B4.out)
                      have G4 := hide (G2.out.below B4.out)
                      have hsz : W4.heap.size = W2.heap.size + 1 := by rw [hW4]; show (W2.heap.push _).size = _; simp
                      have SZ := hide hsz
                      have HW4 := hide hW4
                      have N1 : Hid (∀ j u, [Value.int .i64 a][j]? = some u → W4.cell? ((⟨W2.heap.size, 0, none⟩ : Addr).add j) = some u) := hide (World.news_of_block (B := W2.heap.size) (w := W4) (cs := #[.int .i64 a]) (t := 3) (fr := (0, 0)) (by rw [hW4]; exact heap_alloc_new _ _))
                      have NB : Hid (some b ≠ v4.ownBlock) := hide (fun e => ne_of_kind L2.out.k4 L2.out.kb (by decide) e.symm)
                      have hb2 : b < W2.heap.size := cell_lt L2.out.c4
                      have c4 := L2.out.c4
                      have f4 := L2.out.fz 4
                      obtain ⟨m, hm⟩ : ∃ m, r.said.length = m := ⟨_, rfl⟩
                      have HM := hide hm
                      rw [hm] at hsd
                      clear hsz hW4 hm
                      go_wp2_with fail
                      go_region_law ((rw [← HW4.out]; refine step_append_lies _ rfl (.tmp 153) (.tmp 156) 23 rfl 0 3 i0 _ 1 8 Try.underlying23 hi0 hz0 hz1 hz2 rfl (by decide) v4 m (ints r.said) (by simp [Act.eval]) (by rw [← HM.out]; exact L4.out.said) ⟨W2.heap.size, 0, none⟩ 1 1 [.int .i64 a] (by simp [Act.eval]) rfl N1.out (by simp [Value.oneCell']) (by decide) (by unfold maxLen; omega) (by omega) (Nat.zero_le _) _ rfl ?_; intro gs caps w6 hown1 hgrow1 hat1 hlt1; have cc2 := (hgrow1.cell_far ⟨b, 4, none⟩ (by rw [SZ.out]; show b < _; omega) NB.out).trans L4.out.c4; have ff2 := (hgrow1.frozen_far ⟨b, 4, none⟩ (by rw [SZ.out]; show b < _; omega) NB.out).trans (L4.out.fz 4); have O1 := hide hown1; have R1 := hide hgrow1; have A1 := hide hat1; clear hown1 hgrow1 hat1 hlt1))
                      all_goals
                        have G3 := hide (G4.out.put4 (l := r.said ++ [a]) (v := .slice (some ⟨gs, 0, none⟩) (m + 1) caps) (by rw [show (r.said ++ [a]).length = m + 1 by simp [HM.out], show ints (r.said ++ [a]) = ints r.said ++ [.int .i64 a] by simp [ints]]; exact O1.out) (Kept.of_grown R1.out (fun k e => e)) (fun g e => by
                          have e : gs = g := by simpa [Value.ownBlock] using e
                          subst e
                          rcases A1.out with z | z
                          · exact Or.inl z
                          · exact Or.inr (by omega)))
                        obtain ⟨W3, hW3⟩ : ∃ W3, W3 = w6.setCell ⟨b, 4, none⟩ (.slice (some ⟨gs, 0, none⟩) (m + 1) caps) := ⟨_, rfl⟩
                        rw [← hW3] at G3 ⊢
                        obtain ⟨e1, e2, e3⟩ := G3.out.ats HA2.out HN.out
                        have FE' := hide (FE.out _ _ _ _ _ (G3.out.drew.at' (i := ti) (n := n + 1) HA2.out))
                        rw [show r.at_.length = i by rw [OK.out.wf.len, HK.out]] at e1
                        clear hW3 cc2 ff2 G3 c4 f4 t0 t1 t2 G2 L2 L4 G4 FE O1 R1 A1
                        go_wp2_with fail
                        refine still_tail 14 (by kernel_rfl) (by kernel_rfl) ?_
                        simp only [List.take_succ_cons, List.take_zero, List.drop_succ_cons, List.drop_zero]
                        repeat still_step
                        refine wpStill_nil ?_
                        go_wp2_with fail
                        exact FE'.out
                    · have d5 : (op == 5) = false := beq_eq_false_iff_ne.2 p5
                      have ea : actR r ti ⟨op, a, bb⟩ = r := by unfold actR; rw [if_neg p1, if_neg p2, if_neg p3, if_neg p5]
                      rw [ea] at FE0
                      obtain ⟨e1, e2, e3⟩ := G2.out.ats HA2.out HN.out
                      have FE' := hide (FE0.out _ _ _ _ _ (G2.out.drew.at' (i := ti) (n := n + 1) HA2.out))
                      rw [show r.at_.length = i by rw [OK.out.wf.len, HK.out]] at e1
                      clear G2 L2 FE0 ea
                      go_wp2_with fail
                      refine still_tail 14 (by kernel_rfl) (by kernel_rfl) ?_
                      simp only [List.take_succ_cons, List.take_zero, List.drop_succ_cons, List.drop_zero]
                      repeat still_step
                      refine wpStill_nil ?_
                      go_wp2_with fail
                      exact FE'.out
end Go.Proofs.Ytlcbegmhmbegjaa
