/- SpanZombies, walked. -/
import Derived.Test.YtblfefibgoiaaaaDoorEn
namespace Go.Proofs.YtblfefibgoiaaaaDoor
open Go.ChangeShapes Go.WideShapes Go.ChangeAt Go.RowKit Go.Proofs.Sn Go.Shelf
set_option linter.unusedVariables false
set_option linter.unusedSimpArgs false

theorem elem_class {k : Nat} {c : Cl.Cls} (h1 : 1 ≤ k) (h2 : k < 68) (h : (Cl.zeroC :: Cl.table)[k]? = some c) : elemOf c.pages (k : Int) = some c.size := by
  unfold elemOf
  rw [if_neg (by omega), if_neg (by omega), Int.toNat_natCast, h]
  exact if_pos rfl
theorem rp_class {page : Nat} {k : Nat} {c : Cl.Cls} (h1 : 1 ≤ k) (h : (Cl.zeroC :: Cl.table)[k]? = some c) (hp : page + 16 ≤ 34359738368) : rpB page c.pages = true := by
  have tf := table_at h1 h
  unfold rpB
  exact decide_eq_true (by omega)
theorem slots_class {page cls : Nat} {noptr : Bool} {k : Nat} {c : Cl.Cls} (h1 : 1 ≤ k) (h : (Cl.zeroC :: Cl.table)[k]? = some c) : (geo page c.pages cls noptr c.size).slots = c.slots := (table_at h1 h).1.symm
set_option maxRecDepth 100000 in
set_option maxHeartbeats 4000000 in
theorem zombies_in (k n at_ : Int) (w : World) (hT : TabW w) :
    Calls Tryd.prog 7 #[.int .i64 k, .int .i64 n, .int .i64 at_] w fun e w' => e = .returned (.bool true) ∧ Below w.heap.size w w' := by
  obtain ⟨R, hR⟩ : ∃ R : Ending → World → Prop, R = fun e w' => e = .returned (.bool true) ∧ Below w.heap.size w w' := ⟨_, rfl⟩
  rw [← hR]
  have FIN := hide (show ∀ W, Below w.heap.size w W → R (.returned (.bool true)) W from fun W h => by rw [hR]; exact ⟨rfl, h⟩)
  clear hR
  have HT := hide hT
  clear hT
  by_cases c1 : k < 1
  · have dc1 : decide (k < 1) = true := decide_eq_true c1
    go_enter Tryd.func7, Tryd.ntmps7
    go_wp2_with fail
    refine (table_any _).mono ?_
    rintro e W1 ⟨g, cap, rfl, o1, b1⟩
    have CW := hide (awake13 W1 (HT.out.below HT.out.lt b1))
    have B1 := hide b1
    clear o1 b1
    go_wp2_with fail
    refine CW.out.mono ?_
    rintro e W2 ⟨rfl, b2⟩
    have FF := hide (FIN.out W2 (B1.out.trans (b2.mono B1.out.size)))
    clear CW b2
    go_wp2_with fail
    first | exact FF.out | (go_ret; exact FF.out)
  have dc1 : decide (k < 1) = false := decide_eq_false c1
  by_cases c2 : 68 ≤ k
  · have dc2 : decide (68 ≤ k) = true := decide_eq_true c2
    go_enter Tryd.func7, Tryd.ntmps7
    go_wp2_with fail
    refine (table_any _).mono ?_
    rintro e W1 ⟨g, cap, rfl, o1, b1⟩
    have CW := hide (awake13 W1 (HT.out.below HT.out.lt b1))
    have B1 := hide b1
    clear o1 b1
    go_wp2_with fail
    refine CW.out.mono ?_
    rintro e W2 ⟨rfl, b2⟩
    have FF := hide (FIN.out W2 (B1.out.trans (b2.mono B1.out.size)))
    clear CW b2
    go_wp2_with fail
    first | exact FF.out | (go_ret; exact FF.out)
  have dc2 : decide (68 ≤ k) = false := decide_eq_false c2
  obtain ⟨K, rfl⟩ : ∃ K : Nat, k = K := ⟨k.toNat, by omega⟩
  obtain ⟨cl, hcl⟩ := table_some (k := K) (by omega)
  have HC := hide hcl
  have TF := hide (table_at (by omega) hcl)
  have K1 : (K : Int) < 68 := by omega
  have K0 : (0 : Int) ≤ (K : Int) := by omega
  have K2 : 1 ≤ K := by omega
  clear hcl
  by_cases c3 : n < 0
  · have dc3 : decide (n < 0) = true := decide_eq_true c3
    go_enter Tryd.func7, Tryd.ntmps7
    go_wp2_with fail
    refine (table_any _).mono ?_
    rintro e W1 ⟨g, cap, rfl, o1, b1⟩
    have CW := hide (awake13 W1 (HT.out.below HT.out.lt b1))
    have B1 := hide b1
    clear o1 b1
    go_wp2_with fail
    refine CW.out.mono ?_
    rintro e W2 ⟨rfl, b2⟩
    have FF := hide (FIN.out W2 (B1.out.trans (b2.mono B1.out.size)))
    clear CW b2
    go_wp2_with fail
    first | exact FF.out | (go_ret; exact FF.out)
  have dc3 : decide (n < 0) = false := decide_eq_false c3
  by_cases c4 : (cl.slots : Int) ≤ n
  · have dc4 : decide ((cl.slots : Int) ≤ n) = true := decide_eq_true c4
    go_enter Tryd.func7, Tryd.ntmps7
    go_wp2_with fail
    refine (table_any _).mono ?_
    rintro e W1 ⟨g, cap, rfl, o1, b1⟩
    obtain ⟨x0, x1, x2, x3⟩ := list_at o1 (by rw [List.length_cons, Cl.table_len]) K cl HC.out
    have CW := hide (awake13 W1 (HT.out.below HT.out.lt b1))
    have B1 := hide b1
    clear o1 b1
    go_wp2_with fail
    refine CW.out.mono ?_
    rintro e W2 ⟨rfl, b2⟩
    have FF := hide (FIN.out W2 (B1.out.trans (b2.mono B1.out.size)))
    clear CW b2
    go_wp2_with fail
    first | exact FF.out | (go_ret; exact FF.out)
  have dc4 : decide ((cl.slots : Int) ≤ n) = false := decide_eq_false c4
  by_cases c5 : at_ < n
  · have dc5 : decide (at_ < n) = true := decide_eq_true c5
    go_enter Tryd.func7, Tryd.ntmps7
    go_wp2_with fail
    refine (table_any _).mono ?_
    rintro e W1 ⟨g, cap, rfl, o1, b1⟩
    obtain ⟨x0, x1, x2, x3⟩ := list_at o1 (by rw [List.length_cons, Cl.table_len]) K cl HC.out
    have CW := hide (awake13 W1 (HT.out.below HT.out.lt b1))
    have B1 := hide b1
    clear o1 b1
    go_wp2_with fail
    refine CW.out.mono ?_
    rintro e W2 ⟨rfl, b2⟩
    have FF := hide (FIN.out W2 (B1.out.trans (b2.mono B1.out.size)))
    clear CW b2
    go_wp2_with fail
    first | exact FF.out | (go_ret; exact FF.out)
  have dc5 : decide (at_ < n) = false := decide_eq_false c5
  by_cases c6 : (cl.slots : Int) ≤ at_
  · have dc6 : decide ((cl.slots : Int) ≤ at_) = true := decide_eq_true c6
    go_enter Tryd.func7, Tryd.ntmps7
    go_wp2_with fail
    refine (table_any _).mono ?_
    rintro e W1 ⟨g, cap, rfl, o1, b1⟩
    obtain ⟨x0, x1, x2, x3⟩ := list_at o1 (by rw [List.length_cons, Cl.table_len]) K cl HC.out
    have CW := hide (awake13 W1 (HT.out.below HT.out.lt b1))
    have B1 := hide b1
    clear o1 b1
    go_wp2_with fail
    refine CW.out.mono ?_
    rintro e W2 ⟨rfl, b2⟩
    have FF := hide (FIN.out W2 (B1.out.trans (b2.mono B1.out.size)))
    clear CW b2
    go_wp2_with fail
    first | exact FF.out | (go_ret; exact FF.out)
  have dc6 : decide ((cl.slots : Int) ≤ at_) = false := decide_eq_false c6
  by_cases c7 : 500 < n
  · have dc7 : decide (500 < n) = true := decide_eq_true c7
    go_enter Tryd.func7, Tryd.ntmps7
    go_wp2_with fail
    refine (table_any _).mono ?_
    rintro e W1 ⟨g, cap, rfl, o1, b1⟩
    obtain ⟨x0, x1, x2, x3⟩ := list_at o1 (by rw [List.length_cons, Cl.table_len]) K cl HC.out
    have CW := hide (awake13 W1 (HT.out.below HT.out.lt b1))
    have B1 := hide b1
    clear o1 b1
    go_wp2_with fail
    refine CW.out.mono ?_
    rintro e W2 ⟨rfl, b2⟩
    have FF := hide (FIN.out W2 (B1.out.trans (b2.mono B1.out.size)))
    clear CW b2
    go_wp2_with fail
    first | exact FF.out | (go_ret; exact FF.out)
  have dc7 : decide (500 < n) = false := decide_eq_false c7
  have tf := TF.out
  have wq : IntKind.u64.wrap (cl.pages : Int) = (cl.pages : Int) := by rw [IntKind.wrap_u64]; omega
  have C0 := hide (fun W (b : Below w.heap.size w W) => ls_new (N := w.heap.size) (w := w) (W := W) (fun _ => False) (fun _ f => f.elim) b b.size (HT.out.below HT.out.lt b) HT.out.lt 9 cl.pages (K : Int) false cl.size (rp_class K2 HC.out (by omega)) (elem_class K2 (by omega) HC.out))
  rw [show ((9 : Nat) : Int) = 9 from rfl, Int.toNat_natCast, up_zero] at C0
  have GS := slots_class (page := 9) (cls := K) (noptr := false) K2 HC.out
  obtain ⟨G, hG⟩ : ∃ G : Geo, geo 9 cl.pages K false cl.size = G := ⟨_, rfl⟩
  rw [hG] at C0 GS
  obtain ⟨m, hm⟩ : ∃ m : Nat, n = m := ⟨n.toNat, by omega⟩
  obtain ⟨a, ha⟩ : ∃ a : Nat, at_ = a := ⟨at_.toNat, by omega⟩
  have hm9 : m ≤ 500 := by omega
  have hms : m < G.slots := by omega
  have has : a < G.slots := by omega
  have ham : m ≤ a := by omega
  clear hG tf GS
  go_enter Tryd.func7, Tryd.ntmps7
  go_wp2_with fail
  refine (table_any _).mono ?_
  rintro e W1 ⟨g, cap, rfl, o1, b1⟩
  obtain ⟨x0, x1, x2, x3⟩ := list_at o1 (by rw [List.length_cons, Cl.table_len]) K cl HC.out
  have C1 := hide (C0.out W1 b1)
  clear o1 b1 C0
  go_wp2_with fail
  refine C1.out.mono ?_
  rintro e w1 ⟨sb, rfl, l1, -⟩
  have P1 := hide l1
  subst hm
  subst ha
  clear C1 l1 x0 x1 x2 x3 dc1 dc2 dc3 dc4 dc5 dc6 dc7 c1 c2 c3 c4 c5 c6 c7 wq
  go_wp2_with fail
  go_loopw [10] (fun vi wr => ∃ k : Nat, vi = .int .i64 (k : Nat) ∧ k ≤ m ∧ Hid (LS w.heap.size w wr sb (fun _ => False) G (upS 1 k))) (fun vi _ => m - (zi vi).toNat)
  case atStart => exact ⟨0, rfl, by omega, P1⟩
  case round =>
    clear P1
    obtain ⟨k, rfl, hk, HP⟩ := hrel
    by_cases c : k < m
    · have d : decide ((k : Int) < (m : Int)) = true := decide_eq_true (by omega)
      have CT := hide (ls_next HP.out (by show (1 : Nat) ≠ 0; decide) (up_first 1 k) (by omega))
      rw [up_next] at CT
      have pw : IntKind.i64.wrap ((k : Int) + 1) = (k : Int) + 1 := by rw [IntKind.wrap_i64]; omega
      clear HP
      go_wp2_with fail
      refine CT.out.mono ?_
      rintro e W5 ⟨rfl, p5, -⟩
      have P5 := hide p5
      clear p5 CT
      go_wp2_with fail
      exact ⟨⟨k + 1, by push_cast; rfl, by omega, P5⟩, by simp only [zi]; omega⟩
    · have d : decide ((k : Int) < (m : Int)) = false := decide_eq_false (by omega)
      obtain rfl : k = m := by omega
      have CM := hide (ls_mark HP.out rfl a has)
      clear hk c HP
      go_wp2_with fail
      refine CM.out.mono ?_
      rintro e W5 ⟨rfl, p5, -⟩
      have CS := hide (ls_sweep_zombie p5 rfl (fun z => by
        have := (lsF_nil p5.ok.sm).1 z a (upd_self _ _ _)
        have h2 : ((upS 1 k).mark a).u a = false := decide_eq_false (by omega)
        rw [h2] at this
        cases this))
      clear CM p5
      go_wp2_with fail
      refine CS.out.mono ?_
      rintro e W6 ⟨rfl, p6, -⟩
      have P6 := hide p6
      have CK := hide (ls_marked p6 (a : Int) (by omega) (by have := p6.g.s1; omega))
      rw [uat_nat, show ((upS 1 k).mark a).m a = true from upd_self _ _ _] at CK
      have CI := hide (ls_info p6)
      rw [show Bt.cnt ((upS 1 k).mark a).u 0 G.slots = k from up_cnt 1 k (by omega)] at CI
      unfold infoV at CI
      have fb := fld7
      clear CS p6
      go_wp2_with fail
      refine CK.out.mono ?_
      rintro e W7 ⟨rfl, hw⟩
      rw [hw]
      clear hw CK
      go_wp2_with fail
      refine CI.out.mono ?_
      rintro e W7 ⟨rfl, b7⟩
      have CT := hide (ls_next (P6.out.read b7) (by show (1 : Nat) ≠ 0; decide) (show First ((upS 1 k).mark a).u ((upS 1 k).mark a).look k from up_first 1 k) (by omega))
      clear CI b7
      go_wp2_with fail
      refine CT.out.mono ?_
      rintro e W8 ⟨rfl, p8, -⟩
      have P8 := hide p8
      have CU := hide (ls_used p8 (k : Int) (by omega) (by omega))
      rw [uat_nat, show (((upS 1 k).mark a).next k).u k = true from upd_self _ _ _] at CU
      have CW := hide (awake13 W8 p8.tab)
      clear CT p8
      go_wp2_with fail
      refine CU.out.mono ?_
      rintro e W9 ⟨rfl, hw⟩
      rw [hw]
      clear hw CU
      go_wp2_with fail
      refine CW.out.mono ?_
      rintro e W9 ⟨rfl, b9⟩
      have FF := hide (FIN.out W9 (P8.out.read b9).be)
      clear CW b9
      go_wp2_with fail
      first | exact FF.out | (go_ret; exact FF.out)
end Go.Proofs.YtblfefibgoiaaaaDoor
