/- Package masks: Read: contract. -/
import Derived.Test.YtnhllnepnpmegaaMl
namespace Go.Proofs.Ytnhllnepnpmegaa
open Go.ChangeShapes Go.WideShapes Go.ChangeAt Go.RowKit Go.Shelf Go.Proofs.Rx Go.Maps Go.Proofs.Bt
set_option linter.unusedVariables false
set_option linter.unusedSimpArgs false

attribute [local go_sem] Oper.semAt_some

/-- A row is made, its length a uint64. -/
theorem make_boolsU (W : World) (L : Nat) (hL : L ≤ 1000000) : ∃ W', (Instr.makeSlice 32 (.int .u64 (L : Nat)) (.int .u64 (L : Nat))).run Try.prog W = .ok (.slice (some ⟨W.heap.size, 0, none⟩) L L) W' ∧ Vec W' W.heap.size L 4 (fun _ => .bool false) ∧ Below W.heap.size W W' ∧ W'.heap.size = W.heap.size + 1 := by
  obtain ⟨i0, hi0, hz0, hz1, hz2⟩ := info_parts infoB
  have hr := run_make (P := Try.prog) W 32 4 i0 _ Try.underlying32 hi0 hz0 .u64 .u64 (L : Nat) (L : Nat) (by omega) (by omega) (by rw [hz2]; omega) (by omega)
  rw [Int.toNat_natCast, hz1, Nat.mul_one] at hr
  refine ⟨_, hr, ⟨_, World.alloc_heap_new W _, ?_, fun k hk => ?_⟩, below_alloc W _, by simp⟩
  · simp [madeCells, Value.cells]
  · simp [madeCells, Value.cells, hk, Nat.mod_one]
def readE (a b : Nat) : Int := if Right a b then (if 1048576 < b then 2 else 0) else 1
/-- The list that Read answers. -/
def ReadV (f : Nat → Bool) (a b : Nat) (W W' : World) (v : Value) : Prop := if readE a b = 0 then ∃ U, v = .slice (some ⟨U, 0, none⟩) (b / 8) (b / 8) ∧ W.heap.size ≤ U ∧ Vec W' U (b / 8) 4 (fun k => .bool (f (a / 8 + k))) else v = .slice none 0 0
/-- The list so far. -/
structure RdS (W wr : World) (U p L : Nat) (f : Nat → Bool) (y : Nat) : Prop where
  row : Vec wr U L 4 (fun k => .bool (decide (p + k < y) && f (p + k)))
  be : Below W.heap.size W wr
theorem RdS.same {W wr : World} {U p L : Nat} {f : Nat → Bool} {y z : Nat} (h : RdS W wr U p L f y) (e : ∀ k, k < L → (p + k < y ↔ p + k < z)) : RdS W wr U p L f z := ⟨h.row.congr fun k hk => by rw [show decide (p + k < y) = decide (p + k < z) from by rw [decide_eq_decide]; exact e k hk], h.be⟩
theorem RdS.below {W wr w1 : World} {U p L : Nat} {f : Nat → Bool} {y : Nat} (h : RdS W wr U p L f y) (k : Below wr.heap.size wr w1) : RdS W w1 U p L f y := ⟨h.row.below k, h.be.trans (k.mono h.be.size)⟩
theorem RdS.next {W wr : World} {U p L : Nat} {f : Nat → Bool} {y : Nat} (h : RdS W wr U p L f y) (hp : p ≤ y) (hy : y < p + L) (hU : W.heap.size ≤ U) : RdS W (wr.setCell ⟨U, y - p, none⟩ (.bool (f y))) U p L f (y + 1) := by
  refine ⟨(h.row.set (y - p) (by omega) _).congr fun k hk => ?_, h.be.trans ((kept_set (F := fun z => z = U) wr U _ _ rfl).below h.be.size (fun z hz => by rw [hz]; exact hU))⟩
  by_cases e : k = y - p
  · rw [if_pos e, show p + k = y by omega, decide_eq_true (by omega)]; rfl
  · rw [if_neg e, show decide (p + k < y) = decide (p + k < y + 1) from by rw [decide_eq_decide]; omega]
set_option maxRecDepth 100000 in
set_option maxHeartbeats 2000000 in
theorem read_any {W : World} {m : Nat} {f : Nat → Bool} {F : Nat → Prop} (h : (tMk m f).P W F) (a b : Nat) (ha : a < 18446744073709551616) (hb : b < 18446744073709551616) :
    Calls Try.prog 12 #[.pointer (some ⟨m, 0, none⟩), .int .u64 (a : Nat), .int .u64 (b : Nat)] W fun e W' => (∃ v, e = .returned (.tuple #[v, .int .i64 (readE a b)]) ∧ ReadV f a b W W' v) ∧ Below W.heap.size W W' := by
  obtain ⟨R, hR⟩ : ∃ R : Ending → World → Prop, R = fun e W' => (∃ v, e = .returned (.tuple #[v, .int .i64 (readE a b)]) ∧ ReadV f a b W W' v) ∧ Below W.heap.size W W' := ⟨_, rfl⟩
  rw [← hR]
  have CB := hide (rightBlock_any a b ha hb W)
  by_cases cr : Right a b
  · rw [decide_eq_true cr] at CB
    by_cases cl : 1048576 < b
    · have FF := hide (show R (.returned (.tuple #[.slice none 0 0, .int .i64 2])) W from by
        rw [hR]
        have e : readE a b = 2 := by unfold readE; rw [if_pos cr, if_pos cl]
        refine ⟨⟨_, by rw [e], ?_⟩, Below.refl _ _⟩
        unfold ReadV
        rw [if_neg (by rw [e]; decide)])
      obtain ⟨B, hB⟩ : ∃ X : Int, (b : Int) = X := ⟨_, rfl⟩
      have d : decide (1048576 < B) = true := decide_eq_true (by omega)
      rw [hB] at CB ⊢
      clear hR h cr ha hb hB cl
      go_enter Try.func12, Try.ntmps12
      go_wp2_with fail
      refine CB.out.mono ?_
      rintro e w' ⟨rfl, hw'⟩; rw [hw']; clear hw' w' CB
      go_wp2_with fail
      first | exact FF.out | (go_ret2; exact FF.out)
    · have CO := hide (wordsOf_any a b cr W)
      obtain ⟨t, hm, hft, hF⟩ := h
      obtain ⟨r1, r2, r3, r4, r5⟩ := id cr
      have ef : fnOf t.list = f := funext hft
      obtain ⟨p, hp⟩ : ∃ p, a / 8 = p := ⟨_, rfl⟩
      obtain ⟨en, hen⟩ : ∃ p, (a + b) / 8 = p := ⟨_, rfl⟩
      obtain ⟨L, hL⟩ : ∃ p, b / 8 = p := ⟨_, rfl⟩
      rw [hp, hen] at CO
      have g0 : en = p + L := by omega
      have g1 : en ≤ 35184372088832 := by omega
      have g2 : L ≤ 131072 := by omega
      have g3 : 1 ≤ L := by omega
      have FF := hide (show ∀ U W', W.heap.size ≤ U → RdS W W' U p L f en → R (.returned (.tuple #[.slice (some ⟨U, 0, none⟩) L L, .int .i64 0])) W' from fun U W' hU hs => by
        rw [hR]
        have e : readE a b = 0 := by unfold readE; rw [if_pos cr, if_neg cl]
        refine ⟨⟨_, by rw [e], ?_⟩, hs.be⟩
        unfold ReadV
        rw [if_pos e, hL, hp]
        exact ⟨U, rfl, hU, hs.row.congr fun k hk => by rw [decide_eq_true (by omega), Bool.true_and]⟩)
      obtain ⟨WL, rl, vl, bl, sl⟩ := make_boolsU W L (by omega)
      have RL := hide rl
      have S0 := hide (show ∀ y, y ≤ p → RdS W WL W.heap.size p L f y from fun y hy => ⟨vl.congr fun k hk => by rw [decide_eq_false (by omega)]; rfl, bl⟩)
      obtain ⟨qt, hqt⟩ := t.ptr_form
      have CF := hide (show ∀ (k : Nat) (W1 : World), Below W.heap.size W W1 → 64 * k < en → ∀ AT : Int, ((64 * k : Nat) : Int) = AT → Calls Try.prog 26 #[.pointer qt, .int .u64 AT] W1 fun e W2 => ∃ T u, e = .returned (.iface T u) ∧ W2 = W1 ∧ (∀ w, (method 212 T u "mallow/masks.strip").run Try.prog w = .ok (ks T, u) w) ∧ (∀ args w, (callFunc (ks T) args).run Try.prog w = .ok (.enter (ks T) args) w) ∧
          Calls Try.prog (ks T) #[u, .int .u64 AT] W1 fun e W2 => e = .returned (.int .u64 (wd (fun j => f (64 * k + j)) 64 : Nat)) ∧ Below W1.heap.size W1 W2 from fun k W1 hb hk AT hAT => by
        have := formAt_any (hm.below hb).ok (64 * k) (by omega)
        rw [hqt, hAT] at this
        refine this.mono ?_
        rintro e W2 ⟨⟨T, u, g, fb, rfl, hf, hs, -⟩, rfl⟩
        obtain ⟨-, hm1, he1⟩ := form_meth hf
        refine ⟨T, u, rfl, rfl, hm1, he1, ?_⟩
        have C := form_strip hf k (by omega)
        have e : wd (fun j => g (64 * k + j)) 64 = wd (fun j => f (64 * k + j)) 64 := wd_congr fun j hj => by rw [hs _ (by omega), ef]
        rw [e, hAT] at C
        exact C)
      have CM := hide (show ∀ W1, Below W.heap.size W W1 → W1.cell? ⟨m, 0, none⟩ = some (.pointer qt) from fun W1 hb => by rw [← hqt]; exact (hm.below hb).bk.cell 0 _ rfl)
      have CS := hide (fun w => stripOf_any p (by omega) w)
      obtain ⟨B, hB⟩ : ∃ X : Int, (b : Int) = X := ⟨_, rfl⟩
      have d : decide (1048576 < B) = false := decide_eq_false (by omega)
      rw [hB] at CB CO ⊢
      obtain ⟨P, hP⟩ : ∃ X : Int, (p : Int) = X := ⟨_, rfl⟩
      obtain ⟨EN, hEN⟩ : ∃ X : Int, (en : Int) = X := ⟨_, rfl⟩
      rw [hP, hEN] at CO
      simp only [hP] at CS
      have e1 : EN - P = (L : Int) := by omega
      have p0 : 0 ≤ P := by omega
      have p1 : P ≤ EN := by omega
      have p2 : EN ≤ 35184372088832 := by omega
      have HI := hide (And.intro hP (And.intro hEN (And.intro g0 (And.intro g2 g3))))
      have l0 : (0 : Int) ≤ (L : Int) := by omega
      have l1 : (L : Int) ≤ 131072 := by omega
      clear hR cr ha hb hB cl hm hft hF r1 r2 r3 r4 r5 ef hp hen hL hqt vl bl sl g0 g1 g2 g3 hP hEN
      go_enter Try.func12, Try.ntmps12
      go_wp2_with fail
      refine CB.out.mono ?_
      rintro e w' ⟨rfl, hw'⟩; rw [hw']; clear hw' w' CB
      go_wp2_with fail
      refine CO.out.mono ?_
      rintro e w' ⟨rfl, hw'⟩; rw [hw']; clear hw' w' CO
      go_wp2_with fail
      refine (CS.out _).mono ?_
      rintro e w' ⟨rfl, hw'⟩; rw [hw']; clear hw' w' CS
      obtain ⟨U, hU⟩ : ∃ U, W.heap.size = U := ⟨_, rfl⟩
      have HU := hide (show W.heap.size ≤ U by omega)
      rw [hU] at S0 ⊢
      clear rl RL hU
      go_wp2_with fail
      go_loopw [11, 12, 13] (fun va vs vw wr => ∃ k : Nat, va = .int .u64 ((64 * k : Nat) : Int) ∧ 64 * k < en + 64 ∧ p / 64 ≤ k ∧ Hid (RdS W wr U p L f (64 * k))) (fun va _ _ _ => en + 64 - (zi va).toNat)
      case atStart => exact ⟨p / 64, rfl, by have := HI.out; omega, Nat.le_refl _, hide (S0.out _ (by omega))⟩
      case round =>
        clear S0
        obtain ⟨k, rfl, hk, hk2, HS⟩ := hrel
        by_cases c : 64 * k < en
        · obtain ⟨AT, hA⟩ : ∃ C : Int, ((64 * k : Nat) : Int) = C := ⟨_, rfl⟩
          have d1 : decide (AT < EN) = true := decide_eq_true (by have := HI.out; omega)
          have c0 := CM.out wr HS.out.be
          have CF1 := hide (CF.out k wr HS.out.be c AT hA)
          have a0 : 0 ≤ AT := by omega
          have a1 : AT < 35184372088832 := by have := HI.out; omega
          have HA := hide hA
          have HK := hide (And.intro hk2 c)
          rw [hA]
          clear hA hk hk2 c
          go_wp2_with fail
          refine CF1.out.mono ?_
          rintro e w' ⟨T, u, rfl, hw', hm1, he1, CK⟩; rw [hw']; clear hw' w' CF1
          have HCK := hide CK
          obtain ⟨K, hK⟩ : ∃ K, ks T = K := ⟨_, rfl⟩
          rw [hK] at HCK hm1 he1
          clear CK hK
          go_wp2_with fail
          refine HCK.out.mono ?_
          rintro e w2 ⟨rfl, k2⟩
          have HS2 := hide (HS.out.below k2)
          have lt := wd_lt (fun j => f (64 * k + j)) (Nat.le_refl 64)
          have BV := hide (show ∀ r, r < 64 → (bits .and .u64 ((wd (fun j => f (64 * k + j)) 64 : Nat) / 2 ^ r : Int) 1 == 1) = f (64 * k + r) from fun r hr => by
            rw [bit_val _ _ lt, wd_bit, decide_eq_true hr]; rfl)
          generalize wd (fun j => f (64 * k + j)) 64 = N at *
          obtain ⟨NV, hNV⟩ : ∃ C : Int, (N : Int) = C := ⟨_, rfl⟩
          rw [hNV] at BV ⊢
          have n0 : 0 ≤ NV := by omega
          have n1 : NV < 18446744073709551616 := by omega
          clear hNV
          clear k2 HCK HS c0 lt hm1 he1
          by_cases c64 : 64 * k + 64 ≤ en
          · have u0 : AT + 64 ≤ EN := by have := HI.out; have := HA.out; omega
            by_cases cm : 64 * k < p
            · have u1 : AT < P := by have := HI.out; have := HA.out; omega
              have HC64 := hide c64
              have HCM := hide cm
              clear c64 cm
              go_wp2_with fail
              clear u1
              go_loopw [13] (fun vy wr => ∃ y : Nat, vy = .int .u64 (y : Nat) ∧ p ≤ y ∧ 64 * k ≤ y ∧ y ≤ 64 * k + 64 ∧ Hid (RdS W wr U p L f y)) (fun vy _ => 64 * k + 64 - (zi vy).toNat)
              case atStart => exact ⟨p, by rw [HI.out.1], by have := HCM.out; omega, by have := HCM.out; omega, by have := HI.out; have := HK.out; have := HC64.out; have := HCM.out; omega, hide (HS2.out.same fun j hj => by have := HCM.out; omega)⟩
              case round =>
                obtain ⟨y, rfl, y1, y2, y3, HQ⟩ := hrel
                obtain ⟨Y, hY⟩ : ∃ Y : Int, (y : Int) = Y := ⟨_, rfl⟩
                rw [hY]
                by_cases cy : y < 64 * k + 64
                · have dy : decide (Y < AT + 64) = true := decide_eq_true (by have := HI.out; have := HA.out; omega)
                  obtain ⟨r, hr⟩ : ∃ r, y - 64 * k = r := ⟨_, rfl⟩
                  obtain ⟨q, hq⟩ : ∃ r, y - p = r := ⟨_, rfl⟩
                  have r64 : r < 64 := by have := HK.out; have := HC64.out; omega
                  have tn : (Y - AT).toNat = r := by have := HA.out; omega
                  have tq : Y - P = (q : Int) := by have := HI.out; omega
                  have q0 : (0 : Int) ≤ (q : Int) := by omega
                  have q1 : (q : Int) < (L : Int) := by have := HI.out; omega
                  have q2 : q < L := by omega
                  have y4 : AT ≤ Y := by have := HA.out; omega
                  have y5 : P ≤ Y := by have := HI.out; omega
                  have y6 : Y < 35184372088832 := by have := HI.out; omega
                  have bv := BV.out r r64
                  rw [show 64 * k + r = y by omega] at bv
                  have z1 := HQ.out.row.cell q q2
                  have z2 := HQ.out.row.fz q
                  have NX := hide (HQ.out.next y1 (by have := HI.out; omega) HU.out)
                  rw [hq] at NX
                  have HY := hide hY
                  have yb := y3
                  have HYB := hide (And.intro y1 (And.intro y2 cy))
                  clear hY hr hq y1 y2 y3 cy HQ yb
                  generalize f y = fy at *
                  go_wp2_with fail
                  exact ⟨⟨y + 1, by rw [Int.natCast_add, HY.out]; rfl, by have := HYB.out; omega, by have := HYB.out; omega, by have := HYB.out; omega, NX⟩, by have := HY.out; have := HYB.out; simp [zi]; omega⟩
                · have dy : decide (Y < AT + 64) = false := decide_eq_false (by have := HI.out; have := HA.out; omega)
                  have NX := hide (show RdS W wr U p L f (64 * (k + 1)) from HQ.out.same fun j hj => by have := HI.out; have := HC64.out; omega)
                  have yl : Y ≤ 35184372088896 := by have := HI.out; have := HA.out; omega
                  clear hY y1 y2 y3 cy HQ
                  go_wp2_with fail
                  exact ⟨⟨k + 1, by rw [show 64 * (k + 1) = 64 * k + 64 by omega, Int.natCast_add, HA.out]; rfl, by have := HK.out; omega, by have := HK.out; omega, NX⟩, by have := HA.out; have := HK.out; simp [zi]; omega⟩
            · have u1 : P ≤ AT := by have := HI.out; have := HA.out; omega
              have HC64 := hide c64
              have HCM := hide cm
              clear c64 cm
              go_wp2_with fail
              clear u1
              go_loopw [13] (fun vy wr => ∃ y : Nat, vy = .int .u64 (y : Nat) ∧ p ≤ y ∧ 64 * k ≤ y ∧ y ≤ 64 * k + 64 ∧ Hid (RdS W wr U p L f y)) (fun vy _ => 64 * k + 64 - (zi vy).toNat)
              case atStart => exact ⟨64 * k, by rw [HA.out], by have := HCM.out; omega, by have := HCM.out; omega, by have := HI.out; have := HK.out; have := HC64.out; have := HCM.out; omega, hide (HS2.out.same fun j hj => by have := HCM.out; omega)⟩
              case round =>
                obtain ⟨y, rfl, y1, y2, y3, HQ⟩ := hrel
                obtain ⟨Y, hY⟩ : ∃ Y : Int, (y : Int) = Y := ⟨_, rfl⟩
                rw [hY]
                by_cases cy : y < 64 * k + 64
                · have dy : decide (Y < AT + 64) = true := decide_eq_true (by have := HI.out; have := HA.out; omega)
                  obtain ⟨r, hr⟩ : ∃ r, y - 64 * k = r := ⟨_, rfl⟩
                  obtain ⟨q, hq⟩ : ∃ r, y - p = r := ⟨_, rfl⟩
                  have r64 : r < 64 := by have := HK.out; have := HC64.out; omega
                  have tn : (Y - AT).toNat = r := by have := HA.out; omega
                  have tq : Y - P = (q : Int) := by have := HI.out; omega
                  have q0 : (0 : Int) ≤ (q : Int) := by omega
                  have q1 : (q : Int) < (L : Int) := by have := HI.out; omega
                  have q2 : q < L := by omega
                  have y4 : AT ≤ Y := by have := HA.out; omega
                  have y5 : P ≤ Y := by have := HI.out; omega
                  have y6 : Y < 35184372088832 := by have := HI.out; omega
                  have bv := BV.out r r64
                  rw [show 64 * k + r = y by omega] at bv
                  have z1 := HQ.out.row.cell q q2
                  have z2 := HQ.out.row.fz q
                  have NX := hide (HQ.out.next y1 (by have := HI.out; omega) HU.out)
                  rw [hq] at NX
                  have HY := hide hY
                  have yb := y3
                  have HYB := hide (And.intro y1 (And.intro y2 cy))
                  clear hY hr hq y1 y2 y3 cy HQ yb
                  generalize f y = fy at *
                  go_wp2_with fail
                  exact ⟨⟨y + 1, by rw [Int.natCast_add, HY.out]; rfl, by have := HYB.out; omega, by have := HYB.out; omega, by have := HYB.out; omega, NX⟩, by have := HY.out; have := HYB.out; simp [zi]; omega⟩
                · have dy : decide (Y < AT + 64) = false := decide_eq_false (by have := HI.out; have := HA.out; omega)
                  have NX := hide (show RdS W wr U p L f (64 * (k + 1)) from HQ.out.same fun j hj => by have := HI.out; have := HC64.out; omega)
                  have yl : Y ≤ 35184372088896 := by have := HI.out; have := HA.out; omega
                  clear hY y1 y2 y3 cy HQ
                  go_wp2_with fail
                  exact ⟨⟨k + 1, by rw [show 64 * (k + 1) = 64 * k + 64 by omega, Int.natCast_add, HA.out]; rfl, by have := HK.out; omega, by have := HK.out; omega, NX⟩, by have := HA.out; have := HK.out; simp [zi]; omega⟩
          · have u0 : EN < AT + 64 := by have := HI.out; have := HA.out; omega
            by_cases cm : 64 * k < p
            · have u1 : AT < P := by have := HI.out; have := HA.out; omega
              have HC64 := hide c64
              have HCM := hide cm
              clear c64 cm
              go_wp2_with fail
              clear u1
              go_loopw [13] (fun vy wr => ∃ y : Nat, vy = .int .u64 (y : Nat) ∧ p ≤ y ∧ 64 * k ≤ y ∧ y ≤ en ∧ Hid (RdS W wr U p L f y)) (fun vy _ => en - (zi vy).toNat)
              case atStart => exact ⟨p, by rw [HI.out.1], by have := HCM.out; omega, by have := HCM.out; omega, by have := HI.out; have := HK.out; have := HC64.out; have := HCM.out; omega, hide (HS2.out.same fun j hj => by have := HCM.out; omega)⟩
              case round =>
                obtain ⟨y, rfl, y1, y2, y3, HQ⟩ := hrel
                obtain ⟨Y, hY⟩ : ∃ Y : Int, (y : Int) = Y := ⟨_, rfl⟩
                rw [hY]
                by_cases cy : y < en
                · have dy : decide (Y < EN) = true := decide_eq_true (by have := HI.out; have := HA.out; omega)
                  obtain ⟨r, hr⟩ : ∃ r, y - 64 * k = r := ⟨_, rfl⟩
                  obtain ⟨q, hq⟩ : ∃ r, y - p = r := ⟨_, rfl⟩
                  have r64 : r < 64 := by have := HK.out; have := HC64.out; omega
                  have tn : (Y - AT).toNat = r := by have := HA.out; omega
                  have tq : Y - P = (q : Int) := by have := HI.out; omega
                  have q0 : (0 : Int) ≤ (q : Int) := by omega
                  have q1 : (q : Int) < (L : Int) := by have := HI.out; omega
                  have q2 : q < L := by omega
                  have y4 : AT ≤ Y := by have := HA.out; omega
                  have y5 : P ≤ Y := by have := HI.out; omega
                  have y6 : Y < 35184372088832 := by have := HI.out; omega
                  have bv := BV.out r r64
                  rw [show 64 * k + r = y by omega] at bv
                  have z1 := HQ.out.row.cell q q2
                  have z2 := HQ.out.row.fz q
                  have NX := hide (HQ.out.next y1 (by have := HI.out; omega) HU.out)
                  rw [hq] at NX
                  have HY := hide hY
                  have yb := y3
                  have HYB := hide (And.intro y1 (And.intro y2 cy))
                  clear hY hr hq y1 y2 y3 cy HQ yb
                  generalize f y = fy at *
                  go_wp2_with fail
                  exact ⟨⟨y + 1, by rw [Int.natCast_add, HY.out]; rfl, by have := HYB.out; omega, by have := HYB.out; omega, by have := HYB.out; omega, NX⟩, by have := HY.out; have := HYB.out; simp [zi]; omega⟩
                · have dy : decide (Y < EN) = false := decide_eq_false (by have := HI.out; have := HA.out; omega)
                  have NX := hide (show RdS W wr U p L f (64 * (k + 1)) from HQ.out.same fun j hj => by have := HI.out; have := HC64.out; omega)
                  have yl : Y ≤ 35184372088896 := by have := HI.out; have := HA.out; omega
                  clear hY y1 y2 y3 cy HQ
                  go_wp2_with fail
                  exact ⟨⟨k + 1, by rw [show 64 * (k + 1) = 64 * k + 64 by omega, Int.natCast_add, HA.out]; rfl, by have := HK.out; omega, by have := HK.out; omega, NX⟩, by have := HA.out; have := HK.out; simp [zi]; omega⟩
            · have u1 : P ≤ AT := by have := HI.out; have := HA.out; omega
              have HC64 := hide c64
              have HCM := hide cm
              clear c64 cm
              go_wp2_with fail
              clear u1
              go_loopw [13] (fun vy wr => ∃ y : Nat, vy = .int .u64 (y : Nat) ∧ p ≤ y ∧ 64 * k ≤ y ∧ y ≤ en ∧ Hid (RdS W wr U p L f y)) (fun vy _ => en - (zi vy).toNat)
              case atStart => exact ⟨64 * k, by rw [HA.out], by have := HCM.out; omega, by have := HCM.out; omega, by have := HI.out; have := HK.out; have := HC64.out; have := HCM.out; omega, hide (HS2.out.same fun j hj => by have := HCM.out; omega)⟩
              case round =>
                obtain ⟨y, rfl, y1, y2, y3, HQ⟩ := hrel
                obtain ⟨Y, hY⟩ : ∃ Y : Int, (y : Int) = Y := ⟨_, rfl⟩
                rw [hY]
                by_cases cy : y < en
                · have dy : decide (Y < EN) = true := decide_eq_true (by have := HI.out; have := HA.out; omega)
                  obtain ⟨r, hr⟩ : ∃ r, y - 64 * k = r := ⟨_, rfl⟩
                  obtain ⟨q, hq⟩ : ∃ r, y - p = r := ⟨_, rfl⟩
                  have r64 : r < 64 := by have := HK.out; have := HC64.out; omega
                  have tn : (Y - AT).toNat = r := by have := HA.out; omega
                  have tq : Y - P = (q : Int) := by have := HI.out; omega
                  have q0 : (0 : Int) ≤ (q : Int) := by omega
                  have q1 : (q : Int) < (L : Int) := by have := HI.out; omega
                  have q2 : q < L := by omega
                  have y4 : AT ≤ Y := by have := HA.out; omega
                  have y5 : P ≤ Y := by have := HI.out; omega
                  have y6 : Y < 35184372088832 := by have := HI.out; omega
                  have bv := BV.out r r64
                  rw [show 64 * k + r = y by omega] at bv
                  have z1 := HQ.out.row.cell q q2
                  have z2 := HQ.out.row.fz q
                  have NX := hide (HQ.out.next y1 (by have := HI.out; omega) HU.out)
                  rw [hq] at NX
                  have HY := hide hY
                  have yb := y3
                  have HYB := hide (And.intro y1 (And.intro y2 cy))
                  clear hY hr hq y1 y2 y3 cy HQ yb
                  generalize f y = fy at *
                  go_wp2_with fail
                  exact ⟨⟨y + 1, by rw [Int.natCast_add, HY.out]; rfl, by have := HYB.out; omega, by have := HYB.out; omega, by have := HYB.out; omega, NX⟩, by have := HY.out; have := HYB.out; simp [zi]; omega⟩
                · have dy : decide (Y < EN) = false := decide_eq_false (by have := HI.out; have := HA.out; omega)
                  have NX := hide (show RdS W wr U p L f (64 * (k + 1)) from HQ.out.same fun j hj => by have := HI.out; have := HC64.out; omega)
                  have yl : Y ≤ 35184372088896 := by have := HI.out; have := HA.out; omega
                  clear hY y1 y2 y3 cy HQ
                  go_wp2_with fail
                  exact ⟨⟨k + 1, by rw [show 64 * (k + 1) = 64 * k + 64 by omega, Int.natCast_add, HA.out]; rfl, by have := HK.out; omega, by have := HK.out; omega, NX⟩, by have := HA.out; have := HK.out; simp [zi]; omega⟩
        · have FQ := hide (FF.out U wr HU.out (HS.out.same fun j hj => by have := HI.out; omega))
          obtain ⟨AT, hA⟩ : ∃ C : Int, ((64 * k : Nat) : Int) = C := ⟨_, rfl⟩
          have d1 : decide (AT < EN) = false := decide_eq_false (by have := HI.out; omega)
          rw [hA]
          clear hA HS FF hk hk2 c
          go_wp2_with fail
          first | exact FQ.out | (go_ret2; exact FQ.out)
  · rw [decide_eq_false cr] at CB
    have FF := hide (show R (.returned (.tuple #[.slice none 0 0, .int .i64 1])) W from by
      rw [hR]
      have e : readE a b = 1 := by unfold readE; rw [if_neg cr]
      refine ⟨⟨_, by rw [e], ?_⟩, Below.refl _ _⟩
      unfold ReadV
      rw [if_neg (by rw [e]; decide)])
    clear hR h cr ha hb
    go_enter Try.func12, Try.ntmps12
    go_wp2_with fail
    refine CB.out.mono ?_
    rintro e w' ⟨rfl, hw'⟩; rw [hw']; clear hw' w' CB
    go_wp2_with fail
    first | exact FF.out | (go_ret2; exact FF.out)
end Go.Proofs.Ytnhllnepnpmegaa
