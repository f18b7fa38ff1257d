/- SpanCycle, walked. -/
import Derived.Test.YtblfefibgoiaaaaDoorZo
import Derived.Test.YtblfefibgoiaaaaDoorBo
import Derived.Test.YtblfefibgoiaaaaDoorAr
namespace Go.Proofs.YtblfefibgoiaaaaDoor
open Go.ChangeShapes Go.WideShapes Go.ChangeAt Go.RowKit Go.Proofs.Sn Go.Shelf
set_option linter.unusedVariables false
set_option linter.unusedSimpArgs false

/-- All slots are used, some are marked. -/
def fl (n : Nat) (m : Nat → Bool) (lk : Nat) : St := ⟨1, fun j => decide (j < n), m, lk⟩
theorem ls_full_at {n : Nat} {m : Nat → Bool} {i : Nat} (hi : i < n) (hm : m i = false) : (lsF (fun j => decide (j < n)) m n)[(lsF (fun j => decide (j < n)) m i).length]? = some i ∧ lsF (fun j => decide (j < n)) m (i + 1) = lsF (fun j => decide (j < n)) m i ++ [i] := by
  have s1 : lsF (fun j => decide (j < n)) m (i + 1) = lsF (fun j => decide (j < n)) m i ++ [i] := by
    unfold lsF
    rw [List.range_succ, List.filter_append]
    congr 1
    simp [hi, hm]
  refine ⟨?_, s1⟩
  obtain ⟨d, hd⟩ : ∃ d, n = i + 1 + d := ⟨n - (i + 1), by omega⟩
  have s2 : lsF (fun j => decide (j < n)) m n = lsF (fun j => decide (j < n)) m (i + 1) ++ ((List.range d).map (fun x => i + 1 + x)).filter (fun j => decide (j < n) && !m j) := by
    unfold lsF
    conv => lhs; rw [show List.range n = List.range (i + 1 + d) by rw [← hd]]
    rw [List.range_add, List.filter_append]
  rw [s2, s1, List.append_assoc, List.getElem?_append_right (Nat.le_refl _), Nat.sub_self]
  rfl
theorem ls_full_skip {n : Nat} {m : Nat → Bool} {i : Nat} (hm : m i = true) : lsF (fun j => decide (j < n)) m (i + 1) = lsF (fun j => decide (j < n)) m i := by
  unfold lsF
  rw [List.range_succ, List.filter_append]
  simp [hm]
theorem fl_cnt {n : Nat} {m : Nat → Bool} (hm : ∀ i, m i = true → i < n) : Bt.cnt m 0 n + (lsF (fun j => decide (j < n)) m n).length = n := by
  have h1 := cnt_less (u := fun j => decide (j < n)) (m := m) (fun i hi => decide_eq_true (hm i hi)) n
  have h2 : Bt.cnt (fun j => decide (j < n)) 0 n = n := Bt.cnt_full.2 (fun k hk => decide_eq_true (by omega))
  omega
set_option maxRecDepth 100000 in
set_option maxHeartbeats 4000000 in
theorem cycle_in (k : Int) (o0 : Option Addr) (l0 c0 : Nat) (w : World) (hT : TabW w) (Y : Nat → RowV) (hY : RowsAt w o0 l0 c0 Y) :
    Calls Tryd.prog 6 #[.int .i64 k, .slice o0 l0 c0] w fun e w' => e = .returned (.bool true) ∧ Below w.heap.size w w' := by
  obtain ⟨R, hR⟩ : ∃ R : Ending → World → Prop, R = fun e w' => e = .returned (.bool true) ∧ Below w.heap.size w w' := ⟨_, rfl⟩
  rw [← hR]
  have FIN := hide (show ∀ W, Below w.heap.size w W → R (.returned (.bool true)) W from fun W h => by rw [hR]; exact ⟨rfl, h⟩)
  clear hR
  have HT := hide hT
  have HY := hide hY
  clear hT hY
  by_cases c1 : k < 10
  · have dc1 : decide (k < 10) = true := decide_eq_true c1
    go_enter Tryd.func6, Tryd.ntmps6
    go_wp2_with fail
    refine (table_any _).mono ?_
    rintro e W1 ⟨g, cap, rfl, o1, b1⟩
    have CW := hide (awake13 W1 (HT.out.below HT.out.lt b1))
    have B1 := hide b1
    clear o1 b1
    go_wp2_with fail
    refine CW.out.mono ?_
    rintro e W2 ⟨rfl, b2⟩
    have FF := hide (FIN.out W2 (B1.out.trans (b2.mono B1.out.size)))
    clear CW b2
    go_wp2_with fail
    first | exact FF.out | (go_ret; exact FF.out)
  have dc1 : decide (k < 10) = false := decide_eq_false c1
  by_cases c2 : 68 ≤ k
  · have dc2 : decide (68 ≤ k) = true := decide_eq_true c2
    go_enter Tryd.func6, Tryd.ntmps6
    go_wp2_with fail
    refine (table_any _).mono ?_
    rintro e W1 ⟨g, cap, rfl, o1, b1⟩
    have CW := hide (awake13 W1 (HT.out.below HT.out.lt b1))
    have B1 := hide b1
    clear o1 b1
    go_wp2_with fail
    refine CW.out.mono ?_
    rintro e W2 ⟨rfl, b2⟩
    have FF := hide (FIN.out W2 (B1.out.trans (b2.mono B1.out.size)))
    clear CW b2
    go_wp2_with fail
    first | exact FF.out | (go_ret; exact FF.out)
  have dc2 : decide (68 ≤ k) = false := decide_eq_false c2
  obtain ⟨K, rfl⟩ : ∃ K : Nat, k = K := ⟨k.toNat, by omega⟩
  obtain ⟨cl, hcl⟩ := table_some (k := K) (by omega)
  have HC := hide hcl
  have TF := hide (table_at (by omega) hcl)
  have K1 : (K : Int) < 68 := by omega
  have K0 : (0 : Int) ≤ (K : Int) := by omega
  have K2 : 1 ≤ K := by omega
  clear hcl
  by_cases c3 : 20 < l0
  · have dc3 : decide ((20 : Int) < (l0 : Int)) = true := decide_eq_true (by omega)
    go_enter Tryd.func6, Tryd.ntmps6
    go_wp2_with fail
    refine (table_any _).mono ?_
    rintro e W1 ⟨g, cap, rfl, o1, b1⟩
    have CW := hide (awake13 W1 (HT.out.below HT.out.lt b1))
    have B1 := hide b1
    clear o1 b1
    go_wp2_with fail
    refine CW.out.mono ?_
    rintro e W2 ⟨rfl, b2⟩
    have FF := hide (FIN.out W2 (B1.out.trans (b2.mono B1.out.size)))
    clear CW b2
    go_wp2_with fail
    first | exact FF.out | (go_ret; exact FF.out)
  have dc3 : decide ((20 : Int) < (l0 : Int)) = false := decide_eq_false (by omega)
  have tf := TF.out
  have wq : IntKind.u64.wrap (cl.pages : Int) = (cl.pages : Int) := by rw [IntKind.wrap_u64]; omega
  have C0 := hide (fun W (b : Below w.heap.size w W) => ls_new (N := w.heap.size) (w := w) (W := W) (fun _ => False) (fun _ f => f.elim) b b.size (HT.out.below HT.out.lt b) HT.out.lt 7 cl.pages (K : Int) false cl.size (rp_class K2 HC.out (by omega)) (elem_class K2 (by omega) HC.out))
  rw [show ((7 : Nat) : Int) = 7 from rfl, Int.toNat_natCast] at C0
  have GS := slots_class (page := 7) (cls := K) (noptr := false) K2 HC.out
  obtain ⟨G, hG⟩ : ∃ G : Geo, geo 7 cl.pages K false cl.size = G := ⟨_, rfl⟩
  rw [hG] at C0 GS
  obtain ⟨n, hn⟩ : ∃ n : Nat, cl.slots = n := ⟨_, rfl⟩
  have GN : G.slots = n := by omega
  have n1 : n ≤ 1024 := by omega
  have hl : l0 ≤ 20 := by omega
  clear hG tf GS
  go_enter Tryd.func6, Tryd.ntmps6
  go_wp2_with fail
  refine (table_any _).mono ?_
  rintro e W1 ⟨g, cap, rfl, o1, b1⟩
  obtain ⟨x0, x1, x2, x3⟩ := list_at o1 (by rw [List.length_cons, Cl.table_len]) K cl HC.out
  have C1 := hide (C0.out W1 b1)
  have O1 := hide (And.intro o1 b1)
  clear o1 b1 C0
  go_wp2_with fail
  refine C1.out.mono ?_
  rintro e W2 ⟨sb, rfl, l2, b2⟩
  have o2 := owns_kept O1.out.1 (Kept.of_below (F := fun _ => False) b2) (fun _ _ f => f)
  obtain ⟨z0, z1, z2, z3⟩ := list_at o2 (by rw [List.length_cons, Cl.table_len]) K cl HC.out
  obtain ⟨W3, hrun, hb3, bb3, sz3⟩ := make_bools W2 n (by omega)
  have P1 := hide (show LS w.heap.size w W3 sb (fun z => z = W2.heap.size) G (St.new 1) ∧ BoR W3 W2.heap.size n (St.new 1).u ∧ (St.new 1).st = 1 ∧ (St.new 1).look = 0 ∧ (St.new 1).m = (fun _ => false) from ⟨l2.made bb3 (fun z hz => .inr (by rw [hz, sz3]; omega)), hb3, rfl, rfl, rfl⟩)
  obtain ⟨ub, hub⟩ : ∃ ub : Nat, W2.heap.size = ub := ⟨_, rfl⟩
  rw [hub] at hrun P1
  rw [hn] at z2
  clear C1 l2 b2 o2 O1 hb3 bb3 sz3 dc1 dc2 dc3 c1 c2 c3 hub x0 x1 x2 x3 wq z0 z1 z3 hn
  go_wp2_with fail
  clear hrun z2
  go_loopw [10] (fun vi wr => ∃ (ci : Nat) (S : St), vi = .int .i64 (ci : Nat) ∧ ci ≤ l0 ∧ Hid (LS w.heap.size w wr sb (fun z => z = ub) G S ∧ BoR wr ub n S.u ∧ S.st = 1 ∧ S.look = 0 ∧ S.m = (fun _ => false))) (fun vi _ => l0 - (zi vi).toNat)
  case atStart => exact ⟨0, _, rfl, by omega, P1⟩
  case round =>
    clear P1
    obtain ⟨ci, S, rfl, hi, HP⟩ := hrel
    have pc : IntKind.i64.wrap ((ci : Int) + 1) = (ci : Int) + 1 := by rw [IntKind.wrap_i64]; omega
    by_cases c : ci < l0
    · have d : decide ((ci : Int) < (l0 : Int)) = true := decide_eq_true (by omega)
      obtain ⟨b0, f0, rfl, hb0, hc0⟩ := HY.out.at c
      have CEL := hide (show ∀ W, Below w.heap.size w W → W.cell? ⟨b0, f0 + ci, none⟩ = some (.slice (Y ci).o (Y ci).l (Y ci).c) from fun W h => (h.cell (p := ⟨b0, f0 + ci, none⟩) hb0).trans (hc0 ci c))
      have HR := hide (And.intro (HY.out.rows ci) (HY.out.lm ci))
      have i0 : 0 ≤ (ci : Int) := by omega
      have i1 : (ci : Int) < (l0 : Int) := by omega
      generalize Y ci = y at CEL HR
      obtain ⟨yo, yl, yc, yX⟩ := y
      dsimp only at CEL HR
      clear hb0 hc0
      go_wp2_with fail
      go_loopw [11] (fun vl wr => ∃ S : St, vl = .int .i64 ((S.look : Int) - 1) ∧ Hid (LS w.heap.size w wr sb (fun z => z = ub) G S ∧ BoR wr ub n S.u ∧ S.st = 1 ∧ S.m = (fun _ => false) ∧ ∀ j, j < S.look → S.u j = true)) (fun vl _ => n - (zi vl + 1).toNat)
      case atStart => exact ⟨S, by rw [HP.out.2.2.2.1]; rfl, hide ⟨HP.out.1, HP.out.2.1, HP.out.2.2.1, HP.out.2.2.2.2, fun j hj => by rw [HP.out.2.2.2.1] at hj; omega⟩⟩
      case round =>
        clear HP S
        obtain ⟨S, rfl, HP⟩ := hrel
        have lkn := HP.out.1.ok.lk
        rw [GN] at lkn
        obtain ⟨k, hf⟩ := HP.out.1.first
        have fk := hf.1
        by_cases ck : k < n
        · have CN := hide (ls_next HP.out.1 (by rw [HP.out.2.2.1]; decide) hf (by rw [GN]; exact ck))
          have BB := hide HP.out.2.1
          have uk := hf.2.1
          have NX := hide (show (S.next k).st = 1 ∧ (S.next k).m = (fun _ => false) ∧ ∀ j, j < (S.next k).look → (S.next k).u j = true from ⟨HP.out.2.2.1, HP.out.2.2.2.1, fun j hj => by
            have h9 : j < k + 1 := hj
            show upd S.u k true j = true
            by_cases e : j = k
            · rw [e, upd_self]
            · rw [upd_ne _ _ e]
              by_cases y : j < S.look
              · exact HP.out.2.2.2.2 j y
              · exact hf.2.2 j (by omega) (by omega)⟩)
          obtain ⟨LK, hLK⟩ : ∃ LK : Int, (S.look : Int) - 1 = LK := ⟨_, rfl⟩
          have dk1 : decide ((k : Int) ≤ LK) = false := decide_eq_false (by omega)
          have dk2 : decide (n ≤ k) = false := decide_eq_false (by omega)
          have kn : (k : Int) < (n : Int) := by omega
          have k0 : 0 ≤ (k : Int) := by omega
          have MS := hide (show n - (((k : Nat) : Int) + 1).toNat < n - (LK + 1).toNat from by omega)
          rw [hLK]
          clear HP hf hLK lkn fk
          go_wp2_with fail
          refine CN.out.mono ?_
          rintro e W5 ⟨rfl, p5, lf5⟩
          have b5 := BB.out.left lf5 rfl
          have y2 := b5.cell k ck
          have f1 := b5.fz k
          rw [uk] at y2
          have Q5 := hide (show LS w.heap.size w (W5.setCell ⟨ub, k, none⟩ (.bool true)) sb (fun z => z = ub) G (S.next k) ∧ BoR (W5.setCell ⟨ub, k, none⟩ (.bool true)) ub n (S.next k).u ∧ (S.next k).st = 1 ∧ (S.next k).m = (fun _ => false) ∧ ∀ j, j < (S.next k).look → (S.next k).u j = true from ⟨p5.put rfl _, b5.put k ck true, NX.out⟩)
          clear CN p5 lf5 b5 BB NX uk
          go_wp2_with fail
          exact ⟨⟨S.next k, by show Value.int .i64 (k : Int) = .int .i64 (((k + 1 : Nat) : Int) - 1); congr 1; omega, Q5⟩, MS.out⟩
        · have CN := hide (ls_next_full HP.out.1 (by rw [HP.out.2.2.1]; decide) hf (by rw [GN]; omega))
          have su := HP.out.1.ok.su
          rw [GN] at su
          have UF : S.u = (fun j => decide (j < n)) := by
            funext j
            by_cases y : j < n
            · rw [decide_eq_true y]
              by_cases y2 : j < S.look
              · exact HP.out.2.2.2.2 j y2
              · exact hf.2.2 j (by omega) (by omega)
            · rw [decide_eq_false y]
              cases q : S.u j with
              | false => rfl
              | true => exact absurd (su j q) y
          obtain ⟨lk, SF⟩ : ∃ lk, S = fl n (fun _ => false) lk := ⟨S.look, by
            have h1 := HP.out.2.2.1
            have h2 := HP.out.2.2.2.1
            cases S
            simp only [fl] at *
            rw [h1, h2, UF]⟩
          have BB := hide HP.out.2.1
          have SFH := hide SF
          have UFH := hide UF
          clear HP hf su UF SF lkn fk
          go_wp2_with fail
          refine CN.out.mono ?_
          rintro e W5 ⟨rfl, p5, lf5⟩
          have b5 := BB.out.left lf5 rfl
          rw [UFH.out] at b5
          rw [SFH.out] at p5
          have P5 := hide (And.intro p5 b5)
          clear CN p5 lf5 b5 BB SFH UFH
          go_wp2_with fail
          go_loopw [14] (fun vi wr => ∃ i : Nat, vi = .int .i64 (i : Nat) ∧ i ≤ n ∧ wr = W5) (fun vi _ => n - (zi vi).toNat)
          case atStart => exact ⟨0, rfl, by omega, rfl⟩
          case round =>
            obtain ⟨i, rfl, hi3, hw⟩ := hrel
            rw [hw]
            clear hw
            have pi3 : IntKind.i64.wrap ((i : Int) + 1) = (i : Int) + 1 := by rw [IntKind.wrap_i64]; omega
            by_cases ci3 : i < n
            · have di3 : decide ((i : Int) < (n : Int)) = true := decide_eq_true (by omega)
              have y1 := P5.out.2.cell i ci3
              rw [decide_eq_true ci3] at y1
              have j0 : 0 ≤ (i : Int) := by omega
              have j1 : (i : Int) < (n : Int) := by omega
              have CU := hide (ls_used P5.out.1 (i : Int) (by omega) (by omega))
              rw [uat_nat, show (fl n (fun _ => false) lk).u i = true from decide_eq_true ci3] at CU
              go_wp2_with fail
              refine CU.out.mono ?_
              rintro e W6 ⟨rfl, hw⟩
              rw [hw]
              clear hw CU
              go_wp2_with fail
              exact ⟨⟨i + 1, by push_cast; rfl, by omega, trivial⟩, by simp only [zi]; omega⟩
            · have di3 : decide ((i : Int) < (n : Int)) = false := decide_eq_false (by omega)
              obtain ⟨W6, hrun, hb6, bb6, sz6⟩ := make_bools W5 n (by omega)
              have P6 := hide (show LS w.heap.size w W6 sb (fun z => z = ub ∨ z = W5.heap.size) G (fl n (fun _ => false) lk) ∧ BoR W6 ub n (fun j => decide (j < n)) ∧ BoR W6 W5.heap.size n (fun _ => false) ∧ ub ≠ W5.heap.size from
                ⟨P5.out.1.made bb6 (fun z hz => hz.imp id (fun e => by rw [e, sz6]; omega)), P5.out.2.below bb6, hb6, by have := P5.out.2.lt; omega⟩)
              obtain ⟨kb, hkb⟩ : ∃ kb : Nat, W5.heap.size = kb := ⟨_, rfl⟩
              rw [hkb] at hrun P6
              clear hb6 bb6 sz6 hkb P5
              go_wp2_with fail
              clear hrun
              go_loopw [16] (fun vx wr => ∃ (x : Nat) (m : Nat → Bool), vx = .int .i64 (x : Nat) ∧ x ≤ 500 ∧ Hid (LS w.heap.size w wr sb (fun z => z = ub ∨ z = kb) G (fl n m lk) ∧ BoR wr ub n (fun j => decide (j < n)) ∧ BoR wr kb n m ∧ ub ≠ kb)) (fun vx _ => 500 - (zi vx).toNat)
              case atStart => exact ⟨0, _, rfl, by omega, P6⟩
              case round =>
                clear P6
                obtain ⟨x, m, rfl, hx5, HM⟩ := hrel
                have e0 := CEL.out wr HM.out.1.be
                have px : IntKind.i64.wrap ((x : Int) + 1) = (x : Int) + 1 := by rw [IntKind.wrap_i64]; omega
                by_cases cx : x < yl ∧ x < 500
                · have dx1 : decide ((x : Int) < (yl : Int)) = true := decide_eq_true (by omega)
                  have dx2 : decide ((x : Int) < 500) = true := decide_eq_true (by omega)
                  obtain ⟨b7, f7, rfl, hb7, hc7⟩ := HR.out.1.at cx.1
                  have e1 := (HM.out.1.be.cell (p := ⟨b7, f7 + x, none⟩) hb7).trans (hc7 x cx.1)
                  have xl := HR.out.1.lo x
                  have xh := HR.out.1.hi x
                  have xx0 : 0 ≤ (x : Int) := by omega
                  have xx1 : (x : Int) < (yl : Int) := by omega
                  have xx2 : (x : Int) < 500 := by omega
                  have CX := hide cx
                  clear cx hb7 hc7
                  generalize yX x = q at *
                  by_cases cq : 0 ≤ q ∧ q < (n : Int)
                  · obtain ⟨t, ht⟩ : ∃ t : Nat, q = t := ⟨q.toNat, by omega⟩
                    have tn : t < n := by omega
                    have tq : q.toNat = t := by omega
                    have CM := hide (ls_mark HM.out.1 rfl t (by rw [GN]; exact tn))
                    rw [← ht, show (fl n m lk).mark t = fl n (upd m t true) lk from rfl] at CM
                    have dq1 : decide (0 ≤ q) = true := decide_eq_true cq.1
                    have dq2 : decide (q < (n : Int)) = true := decide_eq_true cq.2
                    have cq1 := cq.1
                    have cq2 := cq.2
                    clear cq ht
                    go_wp2_with fail
                    refine CM.out.mono ?_
                    rintro e W8 ⟨rfl, p8, lf8⟩
                    have bu := HM.out.2.1.left lf8 (.inl rfl)
                    have bk := HM.out.2.2.1.left lf8 (.inr rfl)
                    have y1 := bk.cell t tn
                    have f1 := bk.fz t
                    have Q8 := hide (show LS w.heap.size w (W8.setCell ⟨kb, t, none⟩ (.bool true)) sb (fun z => z = ub ∨ z = kb) G (fl n (upd m t true) lk) ∧ BoR (W8.setCell ⟨kb, t, none⟩ (.bool true)) ub n (fun j => decide (j < n)) ∧ BoR (W8.setCell ⟨kb, t, none⟩ (.bool true)) kb n (upd m t true) ∧ ub ≠ kb from
                      ⟨p8.put (.inr rfl) _, bu.kept (kept_set (F := fun z => z = kb) W8 kb t _ rfl) HM.out.2.2.2, bk.put t tn true, HM.out.2.2.2⟩)
                    clear CM p8 lf8 bu bk HM e0 e1
                    go_wp2_with fail
                    exact ⟨⟨x + 1, _, by push_cast; rfl, by have := CX.out; omega, Q8⟩, by simp only [zi]; have := CX.out; omega⟩
                  · have CM := hide (ls_mark_arg HM.out.1 rfl q (inB_false.2 (by omega)))
                    by_cases cq1 : 0 ≤ q
                    · have dq1 : decide (0 ≤ q) = true := decide_eq_true cq1
                      have dq2 : decide (q < (n : Int)) = false := decide_eq_false (by omega)
                      go_wp2_with fail
                      refine CM.out.mono ?_
                      rintro e W8 ⟨rfl, hw⟩
                      rw [hw]
                      clear hw CM
                      go_wp2_with fail
                      exact ⟨⟨x + 1, _, by push_cast; rfl, by have := CX.out; omega, HM⟩, by simp only [zi]; have := CX.out; omega⟩
                    · have dq1 : decide (0 ≤ q) = false := decide_eq_false cq1
                      go_wp2_with fail
                      refine CM.out.mono ?_
                      rintro e W8 ⟨rfl, hw⟩
                      rw [hw]
                      clear hw CM
                      go_wp2_with fail
                      exact ⟨⟨x + 1, _, by push_cast; rfl, by have := CX.out; omega, HM⟩, by simp only [zi]; have := CX.out; omega⟩
                · have sm := HM.out.1.ok.sm
                  rw [GN] at sm
                  have SM := hide (show ∀ i, m i = true → i < n from sm)
                  have CS := hide (ls_sweep HM.out.1 rfl ((lsF_nil HM.out.1.ok.sm).2 (fun i hi => decide_eq_true (sm i hi))))
                  rw [GN, show (fl n m lk).sweep = ⟨1, m, fun _ => false, 0⟩ from rfl, show (fl n m lk).u = (fun j => decide (j < n)) from rfl, show (fl n m lk).m = m from rfl] at CS
                  have dx : (x < yl ∧ x < 500) = False := by simp only [cx]
                  clear sm
                  by_cases cx1 : x < yl
                  · have dx1 : decide ((x : Int) < (yl : Int)) = true := decide_eq_true (by omega)
                    have dx2 : decide ((x : Int) < 500) = false := decide_eq_false (by omega)
                    have x5 : ¬ x < 500 := by omega
                    clear dx cx
                    go_wp2_with fail
                    refine CS.out.mono ?_
                    rintro e W8 ⟨vr, rfl, o8, p8, lf8⟩
                    have bu := HM.out.2.1.left lf8 (.inl rfl)
                    have bk := HM.out.2.2.1.left lf8 (.inr rfl)
                    have nv : ∀ g, vr.ownBlock = some g → g ≠ ub := fun g hg e => by
                      have h1 := (own_ge o8 hg).1
                      have h2 := HM.out.2.1.lt
                      omega
                    obtain ⟨ro, rcap, er⟩ := row_form o8
                    have Q8 := hide (show LS w.heap.size w W8 sb (fun z => (z = ub ∨ z = kb) ∨ vr.ownBlock = some z) G ⟨1, m, fun _ => false, 0⟩ ∧ W8.ownsRow wr.heap.size 3 1 vr (lsF (fun j => decide (j < n)) m n).length ((lsF (fun j => decide (j < n)) m n).map encI) ∧ BoR W8 kb n m ∧ ub ≠ kb ∧ ∀ g, vr.ownBlock = some g → g ≠ ub from ⟨p8, o8, bk, HM.out.2.2.2, nv⟩)
                    have BU := hide bu
                    have LN := hide (fl_cnt SM.out)
                    clear CS p8 lf8 bu bk o8 nv HM e0
                    subst er
                    obtain ⟨ll, hll⟩ : ∃ ll : Nat, (lsF (fun j => decide (j < n)) m n).length = ll := ⟨_, rfl⟩
                    have HLL := hide hll
                    rw [hll]
                    have lle : ll ≤ n := by have := LN.out; omega
                    clear hll
                    go_wp2_with fail
                    go_loopw [21, 22] (fun va vi wr => ∃ i : Nat, vi = .int .i64 (i : Nat) ∧ va = .int .i64 ((lsF (fun j => decide (j < n)) m i).length : Nat) ∧ i ≤ n ∧ Hid (Kept (fun z => z = ub) W8 wr ∧ BoR wr ub n (fun j => if j < i then m j else decide (j < n)))) (fun _ vi _ => n - (zi vi).toNat)
                    case atStart => exact ⟨0, rfl, rfl, by omega, hide ⟨Kept.refl _ _, BU.out.congr (fun k hk => by rw [if_neg (by omega)])⟩⟩
                    case round =>
                      clear BU
                      obtain ⟨i, rfl, rfl, hi5, HK⟩ := hrel
                      have pi5 : IntKind.i64.wrap ((i : Int) + 1) = (i : Int) + 1 := by rw [IntKind.wrap_i64]; omega
                      by_cases ci5 : i < n
                      · have di5 : decide ((i : Int) < (n : Int)) = true := decide_eq_true (by omega)
                        have j0 : 0 ≤ (i : Int) := by omega
                        have j1 : (i : Int) < (n : Int) := by omega
                        have y1 := (Q8.out.2.2.1.kept HK.out.1 (fun e => Q8.out.2.2.2.1 e.symm)).cell i ci5
                        cases hm : m i with
                        | true =>
                          rw [hm] at y1
                          have LE := hide (ls_full_skip (n := n) hm)
                          go_wp2_with fail
                          refine ⟨⟨i + 1, by push_cast; rfl, by rw [LE.out], by omega, hide ⟨HK.out.1, HK.out.2.congr (fun k hk => ?_)⟩⟩, by simp only [zi]; omega⟩
                          by_cases z : k < i
                          · rw [if_pos z, if_pos (by omega)]
                          · rw [if_neg z]
                            by_cases z2 : k = i
                            · rw [if_pos (by omega), z2, hm, decide_eq_true ci5]
                            · rw [if_neg (by omega)]
                        | false =>
                          rw [hm] at y1
                          obtain ⟨la, ls⟩ := ls_full_at ci5 hm
                          have LS1 := hide ls
                          have al := (List.getElem?_eq_some_iff.1 la).1
                          rw [HLL.out] at al
                          obtain ⟨a, ha⟩ : ∃ a : Nat, (lsF (fun j => decide (j < n)) m i).length = a := ⟨_, rfl⟩
                          have HA := hide ha
                          rw [ha] at la al
                          rw [ha]
                          have row := owns_kept Q8.out.2.1 HK.out.1 (fun g hg e => Q8.out.2.2.2.2 g hg e)
                          obtain ⟨g9, cap9, e9, _, _⟩ := row.form (by rw [HLL.out]; omega)
                          have eg : ro = some ⟨g9, 0, none⟩ ∧ rcap = cap9 := by simp at e9; exact ⟨e9.1, e9.2⟩
                          obtain ⟨rfl, rfl⟩ := eg
                          have y2 : wr.cell? ⟨g9, a, none⟩ = some (.int .i64 (i : Nat)) := by
                            rw [row.cellAt a (by rw [HLL.out]; omega), List.getElem?_map, la]
                            rfl
                          have y3 := HK.out.2.cell i ci5
                          have f3 := HK.out.2.fz i
                          have da : decide (ll ≤ a) = false := decide_eq_false (by omega)
                          have a0 : 0 ≤ (a : Int) := by omega
                          have a1 : (a : Int) < (ll : Int) := by omega
                          have pa5 : IntKind.i64.wrap ((a : Int) + 1) = (a : Int) + 1 := by rw [IntKind.wrap_i64]; omega
                          have NK := hide (show Kept (fun z => z = ub) W8 (wr.setCell ⟨ub, i, none⟩ (.bool false)) ∧ BoR (wr.setCell ⟨ub, i, none⟩ (.bool false)) ub n (fun j => if j < i + 1 then m j else decide (j < n)) from
                            ⟨HK.out.1.trans (kept_set (F := fun z => z = ub) wr ub i _ rfl) (fun _ _ f => f), (HK.out.2.put i ci5 false).congr (fun k hk => by
                              show (if k = i then false else (if k < i then m k else decide (k < n))) = (if k < i + 1 then m k else decide (k < n))
                              by_cases z : k = i
                              · rw [if_pos z, if_pos (by omega), z, hm]
                              · rw [if_neg z]
                                by_cases z2 : k < i
                                · rw [if_pos z2, if_pos (by omega)]
                                · rw [if_neg z2, if_neg (by omega)])⟩)
                          clear la ls ha row e9 HK
                          go_wp2_with fail
                          refine ⟨⟨i + 1, by push_cast; rfl, ?_, by omega, NK⟩, by simp only [zi]; omega⟩
                          rw [LS1.out, List.length_append, List.length_singleton, HA.out]
                          push_cast
                          rfl
                      · have di5 : decide ((i : Int) < (n : Int)) = false := decide_eq_false (by omega)
                        obtain rfl : i = n := by omega
                        rw [HLL.out]
                        have l9 := Q8.out.1.own (HK.out.1.mono (fun z hz => .inl (.inl hz)))
                        have CI := hide (ls_info l9)
                        obtain ⟨u9, hu9⟩ : ∃ u9 : Nat, Bt.cnt m 0 i = u9 := ⟨_, rfl⟩
                        have LL := LN.out
                        rw [HLL.out, hu9] at LL
                        rw [GN, show Bt.cnt (⟨1, m, fun _ => false, 0⟩ : St).u 0 i = u9 from hu9] at CI
                        unfold infoV at CI
                        have fb := fld7
                        have ws9 : IntKind.i64.wrap ((i : Int) - (ll : Int)) = (u9 : Int) := by rw [IntKind.wrap_i64]; omega
                        have Q9 := hide (show LS w.heap.size w wr sb (fun z => z = ub) G ⟨1, m, fun _ => false, 0⟩ ∧ BoR wr ub i m from ⟨l9.less (fun z hz => .inl (.inl hz)), HK.out.2.congr (fun k hk => if_pos hk)⟩)
                        clear l9 HK hu9 LL
                        go_wp2_with fail
                        refine CI.out.mono ?_
                        rintro e W9 ⟨rfl, b9⟩
                        have QA := hide (show LS w.heap.size w W9 sb (fun z => z = ub) G ⟨1, m, fun _ => false, 0⟩ ∧ BoR W9 ub i m from ⟨Q9.out.1.read b9, Q9.out.2.below b9⟩)
                        clear CI b9
                        go_wp2_with fail
                        exact ⟨⟨ci + 1, ⟨1, m, fun _ => false, 0⟩, by push_cast; rfl, by omega, hide ⟨QA.out.1, QA.out.2, rfl, rfl, rfl⟩⟩, by simp only [zi]; omega⟩
                  · have dx1 : decide ((x : Int) < (yl : Int)) = false := decide_eq_false (by omega)
                    clear dx cx
                    go_wp2_with fail
                    refine CS.out.mono ?_
                    rintro e W8 ⟨vr, rfl, o8, p8, lf8⟩
                    have bu := HM.out.2.1.left lf8 (.inl rfl)
                    have bk := HM.out.2.2.1.left lf8 (.inr rfl)
                    have nv : ∀ g, vr.ownBlock = some g → g ≠ ub := fun g hg e => by
                      have h1 := (own_ge o8 hg).1
                      have h2 := HM.out.2.1.lt
                      omega
                    obtain ⟨ro, rcap, er⟩ := row_form o8
                    have Q8 := hide (show LS w.heap.size w W8 sb (fun z => (z = ub ∨ z = kb) ∨ vr.ownBlock = some z) G ⟨1, m, fun _ => false, 0⟩ ∧ W8.ownsRow wr.heap.size 3 1 vr (lsF (fun j => decide (j < n)) m n).length ((lsF (fun j => decide (j < n)) m n).map encI) ∧ BoR W8 kb n m ∧ ub ≠ kb ∧ ∀ g, vr.ownBlock = some g → g ≠ ub from ⟨p8, o8, bk, HM.out.2.2.2, nv⟩)
                    have BU := hide bu
                    have LN := hide (fl_cnt SM.out)
                    clear CS p8 lf8 bu bk o8 nv HM e0
                    subst er
                    obtain ⟨ll, hll⟩ : ∃ ll : Nat, (lsF (fun j => decide (j < n)) m n).length = ll := ⟨_, rfl⟩
                    have HLL := hide hll
                    rw [hll]
                    have lle : ll ≤ n := by have := LN.out; omega
                    clear hll
                    go_wp2_with fail
                    go_loopw [21, 22] (fun va vi wr => ∃ i : Nat, vi = .int .i64 (i : Nat) ∧ va = .int .i64 ((lsF (fun j => decide (j < n)) m i).length : Nat) ∧ i ≤ n ∧ Hid (Kept (fun z => z = ub) W8 wr ∧ BoR wr ub n (fun j => if j < i then m j else decide (j < n)))) (fun _ vi _ => n - (zi vi).toNat)
                    case atStart => exact ⟨0, rfl, rfl, by omega, hide ⟨Kept.refl _ _, BU.out.congr (fun k hk => by rw [if_neg (by omega)])⟩⟩
                    case round =>
                      clear BU
                      obtain ⟨i, rfl, rfl, hi5, HK⟩ := hrel
                      have pi5 : IntKind.i64.wrap ((i : Int) + 1) = (i : Int) + 1 := by rw [IntKind.wrap_i64]; omega
                      by_cases ci5 : i < n
                      · have di5 : decide ((i : Int) < (n : Int)) = true := decide_eq_true (by omega)
                        have j0 : 0 ≤ (i : Int) := by omega
                        have j1 : (i : Int) < (n : Int) := by omega
                        have y1 := (Q8.out.2.2.1.kept HK.out.1 (fun e => Q8.out.2.2.2.1 e.symm)).cell i ci5
                        cases hm : m i with
                        | true =>
                          rw [hm] at y1
                          have LE := hide (ls_full_skip (n := n) hm)
                          go_wp2_with fail
                          refine ⟨⟨i + 1, by push_cast; rfl, by rw [LE.out], by omega, hide ⟨HK.out.1, HK.out.2.congr (fun k hk => ?_)⟩⟩, by simp only [zi]; omega⟩
                          by_cases z : k < i
                          · rw [if_pos z, if_pos (by omega)]
                          · rw [if_neg z]
                            by_cases z2 : k = i
                            · rw [if_pos (by omega), z2, hm, decide_eq_true ci5]
                            · rw [if_neg (by omega)]
                        | false =>
                          rw [hm] at y1
                          obtain ⟨la, ls⟩ := ls_full_at ci5 hm
                          have LS1 := hide ls
                          have al := (List.getElem?_eq_some_iff.1 la).1
                          rw [HLL.out] at al
                          obtain ⟨a, ha⟩ : ∃ a : Nat, (lsF (fun j => decide (j < n)) m i).length = a := ⟨_, rfl⟩
                          have HA := hide ha
                          rw [ha] at la al
                          rw [ha]
                          have row := owns_kept Q8.out.2.1 HK.out.1 (fun g hg e => Q8.out.2.2.2.2 g hg e)
                          obtain ⟨g9, cap9, e9, _, _⟩ := row.form (by rw [HLL.out]; omega)
                          have eg : ro = some ⟨g9, 0, none⟩ ∧ rcap = cap9 := by simp at e9; exact ⟨e9.1, e9.2⟩
                          obtain ⟨rfl, rfl⟩ := eg
                          have y2 : wr.cell? ⟨g9, a, none⟩ = some (.int .i64 (i : Nat)) := by
                            rw [row.cellAt a (by rw [HLL.out]; omega), List.getElem?_map, la]
                            rfl
                          have y3 := HK.out.2.cell i ci5
                          have f3 := HK.out.2.fz i
                          have da : decide (ll ≤ a) = false := decide_eq_false (by omega)
                          have a0 : 0 ≤ (a : Int) := by omega
                          have a1 : (a : Int) < (ll : Int) := by omega
                          have pa5 : IntKind.i64.wrap ((a : Int) + 1) = (a : Int) + 1 := by rw [IntKind.wrap_i64]; omega
                          have NK := hide (show Kept (fun z => z = ub) W8 (wr.setCell ⟨ub, i, none⟩ (.bool false)) ∧ BoR (wr.setCell ⟨ub, i, none⟩ (.bool false)) ub n (fun j => if j < i + 1 then m j else decide (j < n)) from
                            ⟨HK.out.1.trans (kept_set (F := fun z => z = ub) wr ub i _ rfl) (fun _ _ f => f), (HK.out.2.put i ci5 false).congr (fun k hk => by
                              show (if k = i then false else (if k < i then m k else decide (k < n))) = (if k < i + 1 then m k else decide (k < n))
                              by_cases z : k = i
                              · rw [if_pos z, if_pos (by omega), z, hm]
                              · rw [if_neg z]
                                by_cases z2 : k < i
                                · rw [if_pos z2, if_pos (by omega)]
                                · rw [if_neg z2, if_neg (by omega)])⟩)
                          clear la ls ha row e9 HK
                          go_wp2_with fail
                          refine ⟨⟨i + 1, by push_cast; rfl, ?_, by omega, NK⟩, by simp only [zi]; omega⟩
                          rw [LS1.out, List.length_append, List.length_singleton, HA.out]
                          push_cast
                          rfl
                      · have di5 : decide ((i : Int) < (n : Int)) = false := decide_eq_false (by omega)
                        obtain rfl : i = n := by omega
                        rw [HLL.out]
                        have l9 := Q8.out.1.own (HK.out.1.mono (fun z hz => .inl (.inl hz)))
                        have CI := hide (ls_info l9)
                        obtain ⟨u9, hu9⟩ : ∃ u9 : Nat, Bt.cnt m 0 i = u9 := ⟨_, rfl⟩
                        have LL := LN.out
                        rw [HLL.out, hu9] at LL
                        rw [GN, show Bt.cnt (⟨1, m, fun _ => false, 0⟩ : St).u 0 i = u9 from hu9] at CI
                        unfold infoV at CI
                        have fb := fld7
                        have ws9 : IntKind.i64.wrap ((i : Int) - (ll : Int)) = (u9 : Int) := by rw [IntKind.wrap_i64]; omega
                        have Q9 := hide (show LS w.heap.size w wr sb (fun z => z = ub) G ⟨1, m, fun _ => false, 0⟩ ∧ BoR wr ub i m from ⟨l9.less (fun z hz => .inl (.inl hz)), HK.out.2.congr (fun k hk => if_pos hk)⟩)
                        clear l9 HK hu9 LL
                        go_wp2_with fail
                        refine CI.out.mono ?_
                        rintro e W9 ⟨rfl, b9⟩
                        have QA := hide (show LS w.heap.size w W9 sb (fun z => z = ub) G ⟨1, m, fun _ => false, 0⟩ ∧ BoR W9 ub i m from ⟨Q9.out.1.read b9, Q9.out.2.below b9⟩)
                        clear CI b9
                        go_wp2_with fail
                        exact ⟨⟨ci + 1, ⟨1, m, fun _ => false, 0⟩, by push_cast; rfl, by omega, hide ⟨QA.out.1, QA.out.2, rfl, rfl, rfl⟩⟩, by simp only [zi]; omega⟩
    · have d : decide ((ci : Int) < (l0 : Int)) = false := decide_eq_false (by omega)
      have CW := hide (awake13 wr HP.out.1.tab)
      go_wp2_with fail
      refine CW.out.mono ?_
      rintro e W8 ⟨rfl, b8⟩
      have FF := hide (FIN.out W8 (HP.out.1.read b8).be)
      clear CW b8
      go_wp2_with fail
      first | exact FF.out | (go_ret; exact FF.out)
end Go.Proofs.YtblfefibgoiaaaaDoor
