/- The reference's Make, where page and most are right. -/
import Derived.Test.YtblfefibgoiaaaaDoorRs
namespace Go.Proofs.YtblfefibgoiaaaaDoor
open Go.ChangeShapes Go.WideShapes Go.ChangeAt Go.RowKit Go.Proofs.Cl Go.Shelf
set_option linter.unusedVariables false
set_option linter.unusedSimpArgs false

theorem below_drewN {B : Nat} {w0 w : World} (h : Below B w0 w) (k : Nat) : Below B w0 (w.drewN k) := ⟨h.os, h.tape, h.output, h.size, h.block⟩
theorem wp_append_run {P : Program} {w w' : World} {o : Oper} {a : Act} {K : Act → World → Prop} {Q : Exit → Act → World → Prop} (s x : Operand) (t : TypeId)
    (ho : o.op = .call { callee := .builtin .append, args := #[s, x], argTypes := #[t, t] }) {v u v' : Value} (hs : a.eval s = v) (hx : a.eval x = u) (hr : (Builtin.append_ #[t, t] o.type #[v, u]).run P w = .ok v' w') (h : K (a.put o.dst v') w') : Oper.wp P o a w K Q := by
  unfold Oper.wp
  simp only [execOp]
  simp only [ho, resolve, invoke, builtin, Sem.run_bind, Sem.run_pure, Result.andThen_ok, List.map_toArray, List.map_cons, List.map_nil, hs, hx, hr]
  exact h
theorem list_append_run {P : Program} {w w' : World} {ops : Array Oper} {rest : List Oper} {o : Oper} {a : Act} {Q : Exit → Act → World → Prop} (hgd : o.guard = none) (s x : Operand) (t : TypeId)
    (ho : o.op = .call { callee := .builtin .append, args := #[s, x], argTypes := #[t, t] }) {v u v' : Value} (hs : a.eval s = v) (hx : a.eval x = u) (hr : (Builtin.append_ #[t, t] o.type #[v, u]).run P w = .ok v' w') (h : wpList P ops Q rest (a.put o.dst v') w') : wpList P ops Q (o :: rest) a w :=
  wpList_plain hgd fun _ hK => wp_append_run s x t ho hs hx hr (hK _ _ h)
/-- The reference's list while it grows. -/
def grown (pre : List Raw) (o : Option Raw) : List Cls := zeroC :: (pre ++ o.toList).map rc
theorem grown_len (pre : List Raw) (o : Option Raw) : (grown pre o).length = pre.length + o.toList.length + 1 := by simp [grown]
set_option maxRecDepth 100000 in
set_option maxHeartbeats 8000000 in
theorem refMake_ok (page most : Nat) (h : okB page most = true) (w : World) :
    Calls Tryd.prog 31 #[.int .i64 page, .int .i64 most] w fun e w' => ∃ v, e = .returned (.tuple #[v, .int .i64 0]) ∧ w'.ownsRow w.heap.size 54 4 v (make page most).length (flatC (make page most)) ∧ Below w.heap.size w w' := by
  obtain ⟨b1, b2, b3, b4, c1, c2⟩ := okB_page h
  rw [Int.toNat_natCast] at c1 c2
  have p1 : 1024 ≤ page := by omega
  have p2 : page ≤ 65536 := by omega
  have m1 : 64 ≤ most := by omega
  have m2 : most ≤ 262144 := by omega
  have C := fun w => powRef_nat page (by omega) w
  have D := fun w => powRef_nat most (by omega) w
  rw [c1] at C
  rw [c2] at D
  have CC := hide C
  have DD := hide D
  clear h c1 c2 C D
  go_enter Tryd.func31, Tryd.ntmps31
  go_wp2_with fail
  refine (CC.out _).mono ?_
  rintro e w' ⟨rfl, hw'⟩; rw [hw']; clear hw' w' CC
  go_wp2_with fail
  refine (DD.out _).mono ?_
  rintro e w' ⟨rfl, hw'⟩; rw [hw']; clear hw' w' DD
  go_wp2_with fail
  have o1 : (w.alloc (.cells #[.int .i64 0, .int .i64 0, .int .i64 0, .int .u32 0] 54)).ownsRow w.heap.size 54 4 (.slice (some ⟨w.heap.size, 0, none⟩) 1 1) 1 (flatC [zeroC]) :=
    ⟨rfl, .inr ⟨_, 1, _, rfl, Nat.le_refl _, World.alloc_heap_new w _, by omega, by unfold maxLen; omega, rfl, rfl⟩⟩
  have O1 := hide o1
  clear o1
  go_loopw [6, 7, 8] (fun lv st sz wr => ∃ (f size step : Nat) (o : Option Raw) (pre : List Raw), st = .int .i64 (step : Int) ∧ sz = .int .i64 (size : Int) ∧ 8 ≤ size ∧ 8 ≤ step ∧ step ≤ 256 ∧ size ≤ most + 256 ∧ most < size + 8 * f ∧
      (o = none → size = 8 ∧ pre = []) ∧ (∀ c, o = some c → 8 < size ∧ Cl.Good page most c) ∧ Hid (pre ++ rest page most f size step o = raws page most) ∧
      Hid (wr.ownsRow w.heap.size 54 4 lv (grown pre o).length (flatC (grown pre o))) ∧ Hid (Below w.heap.size w wr))
    (fun _ _ sz _ => most + 257 - (intOf sz).toNat)
  case atStart =>
    exact ⟨most / 8 + 1, 8, 8, none, [], rfl, rfl, by omega, by omega, by omega, by omega, by omega, fun _ => ⟨rfl, rfl⟩, (fun c e => by cases e), hide rfl, hide O1.out, hide (below_alloc _ _)⟩
  case round =>
    obtain ⟨f, size, step, o, pre, rfl, rfl, i1, i2, i3, i4, i5, i6, i7, HR, HO, HB⟩ := hrel
    clear O1
    obtain ⟨gb, cap, rfl⟩ : ∃ gb cap, u6 = .slice (some ⟨gb, 0, none⟩) (grown pre o).length cap := ownsRow_succ HO.out
    by_cases hlt : size ≤ most
    · have i9 : (size : Int) ≤ (most : Int) := by omega
      obtain ⟨g, rfl⟩ : ∃ g, f = g + 1 := ⟨f - 1, by omega⟩
      have P := fun w => powRef_nat size (by omega) w
      have PP := hide P
      clear P
      obtain ⟨p, hp⟩ : ∃ p, Cl.pow size = p := ⟨_, rfl⟩
      rw [hp] at PP
      have HP := hide hp
      clear hp
      go_upto_if 52 with (go_at_call 53; refine (PP.out _).mono ?_; rintro e w' ⟨rfl, hw'⟩; rw [hw']; clear hw' w')
      obtain ⟨st, hst⟩ : ∃ st, st = stepN size step := ⟨_, rfl⟩
      have st1 : 8 ≤ st := by rw [hst]; exact step_lo i2
      have st2 : st ≤ 256 := by rw [hst]; exact step_hi i3
      have HST := hide hst
      clear hst
      go_cut [7] from 44 to 112 (fun s7 wc => s7 = .int .i64 (st : Int) ∧ wc = wr)
      case first =>
        have hst := HST.out
        unfold stepN at hst
        rw [HP.out] at hst
        cases p with
        | false =>
          have e : st = step := by simpa using hst
          have E := hide e
          clear hst e
          go_wp2_with fail
          go_meet
          case rel => exact ⟨by rw [E.out], rfl⟩
        | true =>
          simp only [Bool.true_eq_false, if_false] at hst
          by_cases c1 : 2048 ≤ size
          · rw [if_pos c1] at hst
            have E := hide hst
            have d1 : (2048 : Int) ≤ (size : Int) := by omega
            clear hst
            go_wp2_with fail
            go_meet
            case rel => exact ⟨by rw [E.out]; rfl, rfl⟩
          · rw [if_neg c1] at hst
            have d1 : (size : Int) < 2048 := by omega
            by_cases c2 : 128 ≤ size
            · rw [if_pos c2] at hst
              have E := hide hst
              have d2 : (128 : Int) ≤ (size : Int) := by omega
              clear hst
              go_wp2_with fail
              go_meet
              case rel => exact ⟨by rw [E.out, Int.natCast_ediv]; rfl, rfl⟩
            · rw [if_neg c2] at hst
              have d2 : (size : Int) < 128 := by omega
              by_cases c3 : 32 ≤ size
              · rw [if_pos c3] at hst
                have E := hide hst
                have d3 : (32 : Int) ≤ (size : Int) := by omega
                clear hst
                go_wp2_with fail
                go_meet
                case rel => exact ⟨by rw [E.out]; rfl, rfl⟩
              · rw [if_neg c3] at hst
                have E := hide hst
                have d3 : (size : Int) < 32 := by omega
                clear hst
                go_wp2_with fail
                go_meet
                case rel => exact ⟨by rw [E.out], rfl⟩
      case rest =>
        obtain ⟨rfl, rfl⟩ := hcut
        clear PP
        have z1 : ((size : Int) == 0) = false := by simp; omega
        have z2 : ((page : Int) == 0) = false := by simp; omega
        obtain ⟨n, hn⟩ : ∃ n, (grown pre o).length = n := ⟨_, rfl⟩
        rw [hn] at HO ⊢
        have HN := hide hn
        clear hn
        go_wp2_with fail
        go_loop [9] (fun b => ∃ k f : Nat, b = .int .i64 ((k * page : Nat) : Int) ∧ 1 ≤ k ∧ k ≤ size ∧ k + f = size + 1 ∧ cutF page size f k = cutK page size) (fun b => size * page - (intOf b).toNat)
        case atStart => exact ⟨1, size, by rw [Nat.one_mul], Nat.le_refl _, by omega, by omega, rfl⟩
        case round =>
          obtain ⟨k, f, rfl, k1, k2, kf, kc⟩ := hrel
          have KC := hide kc
          have KF := hide kf
          clear kc kf
          have hb : k * page ≤ 17179869184 := Nat.le_trans (Nat.mul_le_mul k2 p2) (by omega)
          have hb1 : 1 ≤ k * page := Nat.mul_pos k1 (by omega)
          obtain ⟨BB, hBB⟩ : ∃ B : Int, B = ((k * page : Nat) : Int) := ⟨_, rfl⟩
          have m0 := Int.emod_nonneg BB (show (size : Int) ≠ 0 by omega)
          rw [← hBB]
          have b0 : 0 < BB := by omega
          have b1 : BB ≤ 17179869184 := by omega
          have HBB := hide hBB
          by_cases c : k * page / 8 < k * page % size
          · have t : BB / 8 < BB % size := by rw [hBB, ← cut_mod]; omega
            have hk := cut_last (by omega) k2 c
            have C := hide c
            have hm : (k + 1) * page = k * page + page := Nat.succ_mul k page
            have hm2 : (k + 1) * page ≤ size * page := Nat.mul_le_mul_right _ hk
            have HM := hide hm
            have HM2 := hide hm2
            have hk' := hide hk
            clear c hBB hm hb hb1 hm2 hk
            go_wp2_with fail
            go_round
            case rel =>
              have hm := HM.out
              have hBB := HBB.out
              have kf := KF.out
              have hk := hk'.out
              obtain ⟨g', rfl⟩ : ∃ g, f = g + 1 := ⟨f - 1, by omega⟩
              refine ⟨k + 1, g', by rw [hm, hBB]; rfl, by omega, by omega, by omega, ?_⟩
              have kc := KC.out
              rw [cut_go C.out] at kc
              exact kc
            case measure =>
              have hm := HM.out
              have hm2 := HM2.out
              have hBB := HBB.out
              simp [intOf]
              omega
          · have t : BB % size ≤ BB / 8 := by rw [hBB, ← cut_mod]; omega
            have kc := KC.out
            rw [cut_stop c] at kc
            have d1 : BB / (page : Int) = (k : Int) := by rw [hBB, ← Int.natCast_ediv, Nat.mul_div_cancel _ (by omega)]
            have d2 : BB / (size : Int) = ((k * page / size : Nat) : Int) := by rw [hBB, Int.natCast_ediv]
            have kk := hide kc
            have D2 := hide d2
            clear kc c hBB hb hb1 d2 KC KF
            have hn := HN.out
            rw [grown_len] at hn
            have n1 : 1 ≤ n := by omega
            have hnn := rest_len page most (g + 1) size step o
            have hnr := HR.out
            have nb : n ≤ 40000 := by
              have := congrArg List.length hnr
              rw [List.length_append] at this
              have := raws_len page most
              have ho : o.toList.length ≤ 1 := by cases o <;> simp
              omega
            clear hnn hnr
            -- where the list grows by one
            have app : ∀ (nq : Nat), ∃ g' c' w1, (Builtin.append_ #[50, 50] 50 #[.slice (some ⟨gb, 0, none⟩) n cap, .slice (some ⟨wc.heap.size, 0, none⟩) 1 1]).run Tryd.prog ((wc.drewN nq).alloc (.cells #[.int .i64 (size : Int), .int .i64 (k : Int), .int .i64 0, .int .u32 0] 54)) = .ok (.slice (some ⟨g', 0, none⟩) (n + 1) c') w1 ∧
                w1.ownsRow w.heap.size 54 4 (.slice (some ⟨g', 0, none⟩) (n + 1) c') (n + 1) (flatC (grown pre o) ++ flatC [rc (rawOf page size)]) ∧ Below w.heap.size w w1 := by
              intro nq
              obtain ⟨i0, hi, hz0, hz1, hz2⟩ := info_parts infoC
              have ho : (wc.drewN nq).ownsRow w.heap.size 54 4 (.slice (some ⟨gb, 0, none⟩) n cap) n (flatC (grown pre o)) := HO.out
              have hb := below_drewN HB.out nq
              have hbs := hb.size
              have ec : flatC [rc (rawOf page size)] = [.int .i64 (size : Int), .int .i64 (k : Int), .int .i64 0, .int .u32 0] := by rw [flatC_one]; simp [rc, rawOf, kk.out]
              obtain ⟨v', w1, hrun, r1, r2, r3⟩ := run_append_own (P := Tryd.prog) ((wc.drewN nq).alloc (.cells #[.int .i64 (size : Int), .int .i64 (k : Int), .int .i64 0, .int .u32 0] 54)) w.heap.size 50 50 54 i0 _ 4 32 Tryd.underlying50 hi hz0 hz1 hz2 rfl (by decide) _ n _ (ho.alloc _) ⟨wc.heap.size, 0, none⟩ 1 1 (flatC [rc (rawOf page size)]) (flatC_len _)
                (by rw [ec]; exact World.news_of_block (World.alloc_heap_new (wc.drewN nq) _)) (flatC_one' _) (by unfold maxLen; omega) (by omega) (by rw [World.size_alloc]; omega)
              obtain ⟨g', c', rfl⟩ := ownsRow_succ r1
              exact ⟨g', c', w1, hrun, r1, (hb.alloc hbs _).grown r2 (by rw [World.size_alloc]; omega) (fun j e => by rw [← own_eq e]; exact (ho.lt gb rfl).1)⟩
            have APP := hide app
            clear app
            cases o with
            | none =>
              obtain ⟨s8, rfl⟩ := i6 rfl
              have S8 := hide s8
              obtain rfl : n = 1 := by simpa using hn.symm
              clear s8 i6 i7 hn
              go_wp2_with fail
              go_quiet (fail)
              obtain ⟨g', c', w1, r1, o1, bb1⟩ := APP.out nq
              have R1 := hide r1
              have O1 := hide o1
              have BB1 := hide bb1
              clear r1 o1 bb1 APP
              go_wp2_with (first | (at_builtin; refine list_append_run (by rfl) (.tmp 105) (.tmp 111) 50 (by rfl) (by rfl) (by rfl) R1.out ?_))
              refine ⟨⟨g, size + st, st, some (rawOf page size), [], rfl, by rw [Int.natCast_add], by omega, st1, st2, by omega, by omega, (fun h => by cases h), (fun c e => by cases e; exact ⟨by omega, good_raw i1 hlt⟩), hide ?_, hide ?_, BB1⟩, ?_⟩
              · have hr := HR.out
                rw [rest_first hlt, ← HST.out] at hr
                exact hr
              · have e : grown [] (some (rawOf page size)) = grown [] none ++ [rc (rawOf page size)] := by simp [grown]
                rw [e, flatC_append, List.length_append, List.length_singleton, show (grown [] none).length = 1 from rfl]
                exact O1.out
              · simp [intOf]; omega
            | some c =>
              obtain ⟨c8, cg⟩ := i7 c rfl
              have hn2 : n = pre.length + 2 := by simp at hn; omega
              have HN2 := hide hn2
              have CG := hide cg
              obtain ⟨fk1, fk2, fkr, fs1, fs2⟩ := cg.facts (show 1 ≤ page by omega)
              obtain ⟨f8, fm, _⟩ := cg
              have L1 := list_at HO.out HN.out.symm
              have gc : (grown pre (some c))[n - 1]? = some (rc c) := by rw [HN2.out]; simp [grown]
              obtain ⟨x0, x1, _, _⟩ := L1 (n - 1) (rc c) gc
              have hlast : ((n : Int) - 1).toNat = n - 1 := by omega
              have l0 : (0 : Int) ≤ (n : Int) - 1 := by omega
              have l1 : (n : Int) - 1 < (n : Int) := by omega
              have l2 : decide ((0 : Int) < (n : Int) - 1) = true := decide_eq_true (by omega)
              have l3 : decide ((1 : Int) < (n : Int)) = true := decide_eq_true (by omega)
              have l4 : decide (1 < n) = true := decide_eq_true (by omega)
              have lg : gb < wc.heap.size := World.block_lt_of_cell? wc ⟨gb, (n - 1) * 4, none⟩ x0
              have ck : (rc c).pages = c.k := rfl
              have cs : (rc c).size = c.size := rfl
              rw [ck] at x1
              rw [cs] at x0
              obtain ⟨K, hK⟩ : ∃ K : Int, K = (k : Int) := ⟨_, rfl⟩
              obtain ⟨CK, hCK⟩ : ∃ K : Int, K = (c.k : Int) := ⟨_, rfl⟩
              obtain ⟨CS, hCS⟩ : ∃ K : Int, K = (c.size : Int) := ⟨_, rfl⟩
              rw [← hCK] at x1
              rw [← hCS] at x0
              clear L1 gc i6 i7 hn hn2 ck cs
              have zc : (CS == 0) = false := by rw [hCS]; simp; omega
              have cs0 : 0 < CS := by omega
              have q0 : 0 ≤ BB / CS := Int.ediv_nonneg (by omega) (by omega)
              have q1 : BB / CS ≤ BB := Int.ediv_le_self _ (by omega)
              have q2 : 0 ≤ BB / (size : Int) := Int.ediv_nonneg (by omega) (by omega)
              have q3 : BB / (size : Int) ≤ BB := Int.ediv_le_self _ (by omega)
              have dc : BB / CS = ((k * page / c.size : Nat) : Int) := by rw [HBB.out, hCS, Int.natCast_ediv]
              by_cases e1 : c.k = k
              · have u1 : (CK == (k : Int)) = true := by rw [hCK]; simp; omega
                by_cases e2 : k * page / c.size = k * page / size
                · have al : alikeB page c (rawOf page size) = true := by
                    simp [alikeB, rawOf, Raw.slots, ← kk.out, e1, e2]
                  have u2 : (BB / CS == BB / (size : Int)) = true := by rw [dc, D2.out, e2]; simp
                  have AL := hide al
                  have E1 := hide e1
                  have ST := HO.out.stored ((n - 1) * 4) (.int .i64 (size : Int))
                  have fz := HO.out.frozenAt ((n - 1) * 4)
                  have SST := hide ST
                  have gc : (grown pre (some c))[n - 1]? = some (rc c) := by rw [HN2.out]; simp [grown]
                  have fs := flatC_size gc size
                  have gs : (grown pre (some c)).set (n - 1) ⟨size, (rc c).pages, (rc c).slots, (rc c).magic⟩ = grown pre (some (rawOf page size)) := by
                    rw [HN2.out, show pre.length + 2 - 1 = pre.length + 1 by omega]
                    have ek : (rc (rawOf page size)) = ⟨size, (rc c).pages, (rc c).slots, (rc c).magic⟩ := by simp [rc, rawOf, ← kk.out, E1.out]
                    simp only [grown, List.set_cons_succ, Option.toList_some, List.map_append, List.map_cons, List.map_nil, ek]
                    rw [set_last (by simp)]
                  rw [gs] at fs
                  have FS := hide fs
                  clear al e1 e2 hCK hCS hK dc ST gc fs gs
                  go_wp2_with fail
                  go_quiet (fail)
                  go_wp2_with fail
                  refine ⟨⟨g, size + st, st, some (rawOf page size), pre, rfl, by rw [Int.natCast_add], by omega, st1, st2, by omega, by omega, (fun h => by cases h), (fun c e => by cases e; exact ⟨by omega, good_raw i1 hlt⟩), hide ?_, hide ?_, hide ?_⟩, ?_⟩
                  · have hr := HR.out
                    rw [rest_alike hlt AL.out, ← HST.out] at hr
                    exact hr
                  · have hln : (grown pre (some (rawOf page size))).length = n := by rw [grown_len, HN2.out]; simp
                    rw [hln, ← FS.out]
                    exact SST.out.1
                  · exact (below_drewN HB.out nq).setCell (p := ⟨gb, (n - 1) * 4, none⟩) ((HO.out.lt gb rfl).1) _
                  · simp [intOf]; omega
                · have al : alikeB page c (rawOf page size) = false := by
                    simp [alikeB, rawOf, Raw.slots, ← kk.out, e1, e2]
                  have u2 : (BB / CS == BB / (size : Int)) = false := by rw [dc, D2.out]; exact beq_eq_false_iff_ne.2 (fun z => e2 (Int.ofNat.inj z))
                  have AL := hide al
                  clear al e1 e2 hCK hCS hK dc
                  go_wp2_with fail
                  go_quiet (fail)
                  obtain ⟨g', c', w1, r1, o1, bb1⟩ := APP.out nq
                  have R1 := hide r1
                  have O1 := hide o1
                  have BB1 := hide bb1
                  clear r1 o1 bb1 APP
                  go_wp2_with (first | (at_builtin; refine list_append_run (by rfl) (.tmp 105) (.tmp 111) 50 (by rfl) (by rfl) (by rfl) R1.out ?_))
                  refine ⟨⟨g, size + st, st, some (rawOf page size), pre ++ [c], rfl, by rw [Int.natCast_add], by omega, st1, st2, by omega, by omega, (fun h => by cases h), (fun c e => by cases e; exact ⟨by omega, good_raw i1 hlt⟩), hide ?_, hide ?_, BB1⟩, ?_⟩
                  · have hr := HR.out
                    rw [rest_new hlt AL.out, ← HST.out] at hr
                    rw [List.append_assoc]
                    exact hr
                  · have e : grown (pre ++ [c]) (some (rawOf page size)) = grown pre (some c) ++ [rc (rawOf page size)] := by simp [grown]
                    rw [e, flatC_append, List.length_append, List.length_singleton, HN.out]
                    exact O1.out
                  · simp [intOf]; omega
              · have al : alikeB page c (rawOf page size) = false := by
                  have : ¬ c.k = cutK page size := by rw [← kk.out]; exact e1
                  simp [alikeB, rawOf, this]
                have AL := hide al
                have u1 : (CK == (k : Int)) = false := by rw [hCK]; simp; omega
                clear al e1 hCK hCS hK dc
                go_wp2_with fail
                go_quiet (fail)
                obtain ⟨g', c', w1, r1, o1, bb1⟩ := APP.out nq
                have R1 := hide r1
                have O1 := hide o1
                have BB1 := hide bb1
                clear r1 o1 bb1 APP
                go_wp2_with (first | (at_builtin; refine list_append_run (by rfl) (.tmp 105) (.tmp 111) 50 (by rfl) (by rfl) (by rfl) R1.out ?_))
                refine ⟨⟨g, size + st, st, some (rawOf page size), pre ++ [c], rfl, by rw [Int.natCast_add], by omega, st1, st2, by omega, by omega, (fun h => by cases h), (fun c e => by cases e; exact ⟨by omega, good_raw i1 hlt⟩), hide ?_, hide ?_, BB1⟩, ?_⟩
                · have hr := HR.out
                  rw [rest_new hlt AL.out, ← HST.out] at hr
                  rw [List.append_assoc]
                  exact hr
                · have e : grown (pre ++ [c]) (some (rawOf page size)) = grown pre (some c) ++ [rc (rawOf page size)] := by simp [grown]
                  rw [e, flatC_append, List.length_append, List.length_singleton, HN.out]
                  exact O1.out
                · simp [intOf]; omega
    · have i9 : (most : Int) < (size : Int) := by omega
      have d9 : decide ((size : Int) ≤ (most : Int)) = false := decide_eq_false (by omega)
      have d9' : decide (size ≤ most) = false := decide_eq_false (by omega)
      cases o with
      | none => have := (i6 rfl).1; omega
      | some c =>
        have hr := HR.out
        rw [rest_stop (by omega)] at hr
        have eg : grown pre (some c) = mid page (raws page most) 0 := by rw [mid_start, ← hr]; simp [grown]
        have hlen : (grown pre (some c)).length = (raws page most).length + 1 := by rw [eg, mid_len]
        rw [eg] at HO
        rw [hlen]
        rw [mid_len] at HO
        have hgood : ∀ r ∈ raws page most, Cl.Good page most r := fun r hr => raws_good hr
        have hrl := raws_len page most
        have hmk : make page most = mid page (raws page most) (raws page most).length := by rw [mid_end]; rfl
        have HMK := hide hmk
        clear hmk
        generalize raws page most = R at *
        have HG := hide hgood
        clear eg hlen hr HR i6 i7 hgood i5 i4 i1 i2 i3 hlt
        obtain ⟨n, hn⟩ : ∃ n, R.length + 1 = n := ⟨_, rfl⟩
        rw [hn] at HO ⊢
        have HN := hide hn
        have n1 : 1 ≤ n := by omega
        have n2 : n ≤ 40000 := by omega
        clear hn
        go_wp2_with fail
        go_loopw [11] (fun iv wr => ∃ i : Nat, iv = .int .i64 (i : Int) ∧ 1 ≤ i ∧ i ≤ n ∧ Hid (wr.ownsRow w.heap.size 54 4 (.slice (some ⟨gb, 0, none⟩) n cap) n (flatC (mid page R (i - 1)))) ∧ Hid (Below w.heap.size w wr)) (fun iv _ => n - (intOf iv).toNat)
        case atStart => exact ⟨1, rfl, Nat.le_refl _, n1, HO, HB⟩
        case round =>
          obtain ⟨i, rfl, i1, i2, HOi, HBi⟩ := hrel
          clear HO HB
          by_cases hlt : i < n
          · have hj : i - 1 < R.length := by have := HN.out; omega
            obtain ⟨r, hr⟩ : ∃ r, R[i - 1]? = some r := ⟨_, List.getElem?_eq_getElem hj⟩
            obtain ⟨ma, ms⟩ := mid_at (page := page) hr
            rw [show i - 1 + 1 = i by omega] at ma ms
            have good := HG.out r (List.mem_of_getElem? hr)
            obtain ⟨fk1, fk2, fkr, fs1, fs2⟩ := good.facts (show 1 ≤ page by omega)
            have sw := slots_wide good (show 1 ≤ page by omega)
            obtain ⟨wf1, wf2, wf3⟩ := wide_fits good (show 1 ≤ page by omega)
            have hb : r.k * page ≤ 17179869184 := Nat.le_trans (Nat.mul_le_mul (Nat.le_trans fk2 (Nat.le_trans good.2.1 m2)) p2) (by omega)
            have g8 := good.1
            have L1 := list_at HOi.out (by rw [mid_len]; exact HN.out.symm)
            obtain ⟨y0, y1, _, _⟩ := L1 i (rc r) ma
            have fz0 := HOi.out.frozenAt (i * 4)
            have lg : gb < wr.heap.size := World.block_lt_of_cell? wr ⟨gb, i * 4, none⟩ y0
            have j1 : (1 : Int) ≤ (i : Int) := by omega
            have j2 : (i : Int) < (n : Int) := by omega
            obtain ⟨ws1, ws2⟩ := wide_small good (show 1 ≤ page by omega)
            obtain ⟨y0', y1', y2, y3⟩ := L1 i (rc r) ma
            have fz2 := HOi.out.frozenAt (i * 4 + 2)
            have fz3 := HOi.out.frozenAt (i * 4 + 3)
            have gm := good.2.1
            have hM := fun w => magicRef_nat (wideN page r) (by omega) w
            have MM := hide hM
            have yy0 : wr.cell? ⟨gb, i * 4, none⟩ = some (.int .i64 (r.size : Nat)) := y0
            have yy1 : wr.cell? ⟨gb, i * 4 + 1, none⟩ = some (.int .i64 (r.k : Nat)) := y1
            have MA := hide ma
            have MS := hide ms
            -- the numbers of the walk
            obtain ⟨S, hS⟩ : ∃ S : Int, S = (r.size : Int) := ⟨_, rfl⟩
            obtain ⟨K, hK⟩ : ∃ K : Int, K = (r.k : Int) := ⟨_, rfl⟩
            obtain ⟨BT, hBT⟩ : ∃ B : Int, B = ((r.k * page : Nat) : Int) := ⟨_, rfl⟩
            obtain ⟨SL, hSL⟩ : ∃ B : Int, B = (r.slots page : Int) := ⟨_, rfl⟩
            obtain ⟨RM, hRM⟩ : ∃ B : Int, B = ((r.k * page / r.slots page : Nat) : Int) := ⟨_, rfl⟩
            obtain ⟨X, hX⟩ : ∃ B : Int, B = (wideN page r : Int) := ⟨_, rfl⟩
            obtain ⟨Y, hY⟩ : ∃ B : Int, B = (magicN (wideN page r) : Int) := ⟨_, rfl⟩
            have r1 : K * (page : Int) = BT := by rw [hK, hBT, Int.natCast_mul]
            have r2 : BT / S = SL := by rw [hBT, hS, hSL]; unfold Raw.slots; rw [Int.natCast_ediv]
            have r3 : BT / SL = RM := by rw [hBT, hSL, hRM, Int.natCast_ediv]
            have r4 : BT / X = SL := by rw [hBT, hX, hSL, ← Int.natCast_ediv, sw]
            have v1 : (0 : Int) < S := by omega
            have v2 : S ≤ 262144 := by omega
            have v3 : (0 : Int) < BT := by omega
            have v4 : BT ≤ 17179869184 := by omega
            have v5 : (0 : Int) < SL := by omega
            have v6 : SL ≤ BT := by omega
            have v7 : (0 : Int) ≤ RM := by rw [hRM]; exact Int.natCast_nonneg _
            have v8 : RM ≤ 1000000 := by omega
            have v9 : (0 : Int) < X := by omega
            have v10 : X ≤ 1000000 := by omega
            have z1 : (S == 0) = false := by simp; omega
            have z2 : (SL == 0) = false := by simp; omega
            have z3 : (X == 0) = false := by simp; omega
            have hwx : (RM / 128 * 128 ≤ S ∧ X = S) ∨ (S < RM / 128 * 128 ∧ X = RM / 128 * 128) := by
              have e : wideN page r = max r.size (r.k * page / r.slots page - r.k * page / r.slots page % 128) := rfl
              omega
            rw [← hS] at yy0
            rw [← hK] at yy1
            rw [← hX, ← hY] at MM
            have FW := hide (flat_wide ma ms)
            have FSm := hide (fun hw => flat_same ma ms hw)
            have HS := hide hS
            have HX := hide hX
            have HY := hide hY
            have HSL := hide hSL
            clear y0 y1 y0' y1' hM hS hK hBT hSL hRM hX hY L1 good fk1 fk2 fkr fs1 fs2 sw wf1 wf2 wf3 hb g8 ws1 ws2 gm hr ma ms hj
            rcases hwx with ⟨t1, t2⟩ | ⟨t1, t2⟩
            · have T2 := hide t2
              rw [t2] at MM
              have A2 := (HOi.out.stored (i * 4 + 2) (.int .i64 SL)).1
              have A3 := (A2.stored (i * 4 + 3) (.int .u32 Y)).1
              have AA := hide A3
              have BB := hide ((HBi.out.setCell (p := ⟨gb, i * 4 + 2, none⟩) ((HOi.out.lt gb rfl).1) (.int .i64 SL)).setCell (p := ⟨gb, i * 4 + 3, none⟩) ((HOi.out.lt gb rfl).1) (.int .u32 Y))
              clear t2 A2 A3 r4
              go_wp2_with (go_at_call 54; refine (MM.out _).mono ?_; rintro e w' ⟨rfl, hw'⟩; rw [hw']; clear hw' w')
              go_roundw
              case rel =>
                refine ⟨i + 1, by go_num, by omega, by omega, hide ?_, BB⟩
                have hw : wideN page r = r.size := by have a := HX.out; have b := HS.out; have c := T2.out; omega
                have e := FSm.out hw
                rw [← HSL.out, ← HY.out] at e
                rw [show i + 1 - 1 = i by omega, ← e]
                exact AA.out
              case measure => simp [intOf]; omega
            · have t3 : RM / 128 * 128 = X := t2.symm
              rw [t3] at t1
              have A1 := (HOi.out.stored (i * 4) (.int .i64 X)).1
              have A2 := (A1.stored (i * 4 + 2) (.int .i64 SL)).1
              have A3 := (A2.stored (i * 4 + 3) (.int .u32 Y)).1
              have AA := hide A3
              have BB := hide (((HBi.out.setCell (p := ⟨gb, i * 4, none⟩) ((HOi.out.lt gb rfl).1) (.int .i64 X)).setCell (p := ⟨gb, i * 4 + 2, none⟩) ((HOi.out.lt gb rfl).1) (.int .i64 SL)).setCell (p := ⟨gb, i * 4 + 3, none⟩) ((HOi.out.lt gb rfl).1) (.int .u32 Y))
              clear t2 A1 A2 A3
              go_wp2_with (go_at_call 54; refine (MM.out _).mono ?_; rintro e w' ⟨rfl, hw'⟩; rw [hw']; clear hw' w')
              go_roundw
              case rel =>
                refine ⟨i + 1, by go_num, by omega, by omega, hide ?_, BB⟩
                have e := FW.out
                rw [← HX.out, ← HSL.out, ← HY.out] at e
                rw [show i + 1 - 1 = i by omega, ← e]
                exact AA.out
              case measure => simp [intOf]; omega
          · obtain rfl : i = n := by omega
            go_wp2_with fail
            go_ret2
            refine ⟨_, rfl, ?_, HBi.out⟩
            rw [HMK.out, mid_len, HN.out]
            have := HOi.out
            rw [show i - 1 = R.length by have := HN.out; omega] at this
            exact this
end Go.Proofs.YtblfefibgoiaaaaDoor
