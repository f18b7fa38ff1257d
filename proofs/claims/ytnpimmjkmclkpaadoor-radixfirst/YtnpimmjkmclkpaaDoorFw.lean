/- RadixFirst: what is allocated is the first row of so many free pages. -/
import Derived.Test.YtnpimmjkmclkpaaDoorFl
import Derived.BigQuiet
import Derived.Deep.CutRange
import Derived.Deep.DeepCutAuto
import Derived.Deep.CutBlock
namespace Go.Proofs.YtnpimmjkmclkpaaDoor
open Go.ChangeShapes Go.WideShapes Go.ChangeAt Go.RowKit Go.Proofs.Bt Go.Shelf Go.Proofs.Rx Go.Maps Go.Proofs.Pk
set_option linter.unusedVariables false
set_option linter.unusedSimpArgs false

theorem norm0 {P : Program} {c : Code} {Q : Exit → Act → World → Prop} {a : Act} {w : World} (h : c.wp P (fun e a w => e = .normal ∧ Q .normal a w) a w) : c.wp P Q a w :=
  Code.wp_mono (fun e a w ⟨he, hq⟩ => by rw [he]; exact hq) h
/-- What stands between two rounds. -/
structure FrI (N U tb : Nat) (w : World) (va vn : Value) (k : Nat) (st : Nat → Nat) (u : Nat → Bool) (la ln : List Nat) (c : Nat) (W : World) : Prop where
  ls : Ls N U tb w st u va vn c c la ln W
  fs : FsSt st u
  os : Outst u la ln
  ck : c ≤ k
theorem cnt_succ (f : Nat → Bool) (j : Nat) : cnt f 0 (j + 1) = cnt f 0 j + (f j).toNat := by
  rw [cnt_add]
  simp [cnt]
/-- A row that was handed out lies in the tree, and is used. -/
theorem out_used {st : Nat → Nat} {u : Nat → Bool} {la ln : List Nat} (h : FsSt st u) (ho : Outst u la ln) {x : Nat} (hx : x < la.length) (h0 : 0 < ln.getD x 0) : ∃ p, la.getD x 0 = 1536 + p ∧ p + ln.getD x 0 ≤ 1536 ∧ InT st (1536 + p) (ln.getD x 0) ∧ (tl st (1536 + p) (ln.getD x 0)).f = 0 := by
  obtain ⟨a1, a2, a3⟩ := ho.at' x hx h0
  obtain ⟨p, hp⟩ : ∃ p, la.getD x 0 = 1536 + p := ⟨la.getD x 0 - 1536, by omega⟩
  rw [hp] at a2 a3
  have e : tl st (1536 + p) (ln.getD x 0) = tlOf 1 (ln.getD x 0) := tl_all fun q q1 q2 => by
    have := h.used (q - 1536) (by omega) (a3 _ (by omega) (by omega))
    rwa [show 1536 + (q - 1536) = q by omega] at this
  refine ⟨p, hp, by omega, ?_, by rw [e]; rfl⟩
  unfold InT
  rw [e]
  exact ⟨by omega, by omega, rfl⟩
structure Boxed (p : Prop) : Prop where
  out : p
/-- What is shown from two parts that are left. -/
structure Parts (M : Prop) where
  G : Prop
  H : Prop
  pf : Boxed G → Boxed H → M
/-- .. from one. -/
structure Part (M : Prop) where
  G : Prop
  pf : Boxed G → M
set_option maxRecDepth 100000 in
set_option maxHeartbeats 4000000 in
def first_part : Parts (∀ (w : World) (ht : TabW w) (o0 : Option Addr) (l0 c0 : Nat) (hA0 : l0 ≤ maxLen ∧ l0 ≤ c0 ∧ ∃ X, U64At w o0 l0 c0 X) (o1 : Option Addr) (l1 c1 : Nat) (hA1 : l1 ≤ maxLen ∧ l1 ≤ c1 ∧ ∃ X, IntsAt w o1 l1 c1 X),
    Calls Tryd.prog 5 #[.slice o0 l0 c0, .slice o1 l1 c1] w fun e w' => e = .returned (.bool true) ∧ Below w.heap.size w w') := by
  apply Parts.mk
  case pf =>
    intro HREST HEND w ht o0 l0 c0 hA0 o1 l1 c1 hA1
    obtain ⟨_, hc0, X, hX⟩ := hA0
    obtain ⟨_, hc1, Y, hY⟩ := hA1
    obtain ⟨N, hN⟩ : ∃ N, w.heap.size = N := ⟨_, rfl⟩
    have CN := hide (t9_new ht hN)
    obtain ⟨R, hR⟩ : ∃ R : Ending → World → Prop, R = fun e w' => e = .returned (.bool true) ∧ Below w.heap.size w w' := ⟨_, rfl⟩
    rw [← hR]
    have FIN := hide (show ∀ W, Below N w W → R (.returned (.bool true)) W from fun W hW => by rw [hR]; exact ⟨rfl, by rw [hN]; exact hW⟩)
    have HX := hide hX
    have HY := hide hY
    have HN := hide hN
    clear hX hY hN hR ht
    by_cases z0 : 60 < l0
    · have d0 : (60 : Int) < (l0 : Int) := by omega
      have F := hide (FIN.out w (Below.refl _ _))
      clear CN FIN hc0 hc1 z0
      go_enter Tryd.func5, Tryd.ntmps5
      go_wp2_with fail
      try go_ret
      exact F.out
    have e0 : (l0 : Int) ≤ 60 := by omega
    by_cases z1 : 60 < l1
    · have d1 : (60 : Int) < (l1 : Int) := by omega
      have F := hide (FIN.out w (Below.refl _ _))
      clear CN FIN hc0 hc1 z0 z1
      go_enter Tryd.func5, Tryd.ntmps5
      go_wp2_with fail
      try go_ret
      exact F.out
    have e1 : (l1 : Int) ≤ 60 := by omega
    have e2 : (0 : Int) ≤ l0 := by omega
    have e3 : (0 : Int) ≤ l1 := by omega
    clear z0 z1 hc0 hc1
    go_enter Tryd.func5, Tryd.ntmps5
    go_wp2_with fail
    refine CN.out.mono ?_
    rintro e w1 ⟨tb, rfl, t1⟩
    have CG := hide (t9_grow t1 3 3 (by unfold GrowBad; omega) (by rw [tl_all (s := 0) fun q _ _ => rfl]; rfl))
    simp only [Int.cast_ofNat_Int] at CG
    clear CN t1
    go_wp2_with fail
    refine CG.out.mono ?_
    rintro e w2 ⟨rfl, t2, -⟩
    obtain ⟨W0, hrun, hB, hbel, hsz⟩ := make_bools w2 1536 (by omega)
    simp only [Int.cast_ofNat_Int] at hrun
    obtain ⟨U, hU⟩ : ∃ U, w2.heap.size = U := ⟨_, rfl⟩
    have I0 := hide (show FrI N U tb w (.slice none 0 0) (.slice none 0 0) 0 _ (fun _ => false) [] [] 0 W0 from by
      rw [hU] at hB hsz
      refine ⟨⟨t2.more hbel (fun x hx => ?_), hB, World.ownsRow_nil _ _ _ _, World.ownsRow_nil _ _ _ _, fun x hx => (by cases hx), by have := t2.tr.lt.2.2; omega⟩, fs_zero, Outst.nil _, Nat.le_refl _⟩
      rcases hx with z | z | z
      · exact .inr ⟨by omega, by omega⟩
      · cases z
      · cases z)
    clear CG t2 hB hbel hsz
    go_wp2_with fail
    go_loopw [7, 8, 9] (fun av nv iv wr => ∃ (k : Int) (va vn : Value), va = av ∧ vn = nv ∧ iv = .int .i64 k ∧ 0 ≤ k ∧ k ≤ l0 ∧ Hid (∃ st u la ln c, FrI N U tb w va vn k.toNat st u la ln c wr)) (fun _ _ iv _ => ((l0 : Int) - intOf iv).toNat)
    case atStart => exact ⟨0, .slice none 0 0, .slice none 0 0, rfl, rfl, rfl, by omega, by omega, hide ⟨_, _, _, _, _, I0.out⟩⟩
    case round =>
      clear I0 hrun
      obtain ⟨k, va, vn, rfl, rfl, rfl, k0, k1, HI⟩ := hrel
      obtain ⟨st, u, la, ln, c, hI⟩ := HI.out
      have II := hide hI
      clear HI hI
      by_cases hk : k < l0
      · obtain ⟨b0, off0, rfl, hb0, hcl0⟩ := HX.out.at (i := k.toNat) (by omega)
        have x0 := (cell_block (II.out.ls.t.be.block b0 (by rw [← HN.out]; exact hb0)) _).trans (hcl0 k.toNat (by omega))
        have y0 := HX.out.lo k.toNat
        have y1 := HX.out.hi k.toNat
        obtain ⟨A, hA⟩ : ∃ A : Nat, X k.toNat = A := ⟨(X k.toNat).toNat, by omega⟩
        rw [hA] at x0 y0 y1
        have XS := hide (show ∀ Z, Below N w Z → Z.cell? ⟨b0, off0 + k.toNat, none⟩ = some (.int .u64 (A : Nat)) from fun Z hZ => (cell_block (hZ.block b0 (by rw [← HN.out]; exact hb0)) _).trans (by rw [← hA]; exact hcl0 k.toNat (by omega)))
        clear hcl0 hA
        by_cases a1 : (A : Int) < 1
        · have F := hide (FIN.out wr II.out.ls.t.be)
          go_wp2_with fail
          try go_ret
          exact F.out
        have a1' : 1 ≤ (A : Int) := by omega
        by_cases a2 : 1600 < (A : Int)
        · have F := hide (FIN.out wr II.out.ls.t.be)
          clear a1
          go_wp2_with fail
          try go_ret
          exact F.out
        have a2' : (A : Int) ≤ 1600 := by omega
        have a3 : 1 ≤ A := by omega
        clear a1 a2
        have LZ := hide (L2.zero u a3)
        go_upto_block 2 with fail
        go_cut [11] (fun wv wx => ∃ want : Int, wv = .int .i64 want ∧ -1 ≤ want ∧ want ≤ 1536 ∧ Hid ((want = -1 ∧ ∀ q, ¬ Run st q A) ∨ (0 ≤ want ∧ FirstU u A want.toNat)) ∧ Hid (FrI N U tb w va vn k.toNat st u la ln c wx))
        case first =>
          go_wp2_with fail
          go_loopw [10, 11, 12] (fun rv wv kv wr2 => ∃ (run want j : Int), rv = .int .u64 run ∧ wv = .int .i64 want ∧ kv = .int .i64 j ∧ 0 ≤ j ∧ j ≤ 1536 ∧ 0 ≤ run ∧ run ≤ 1536 ∧ -1 ≤ want ∧ want ≤ 1536 ∧ Hid ((want = -1 ∧ L2 u A j.toNat run.toNat) ∨ (0 ≤ want ∧ FirstU u A want.toNat)) ∧ Hid (FrI N U tb w va vn k.toNat st u la ln c wr2)) (fun _ _ kv _ => (1536 - intOf kv).toNat)
          case atStart => exact ⟨0, -1, 0, rfl, rfl, rfl, by omega, by omega, by omega, by omega, by omega, by omega, hide (.inl ⟨rfl, LZ.out⟩), II⟩
          case round =>
            clear II LZ x0
            obtain ⟨run, want, j, rfl, rfl, rfl, j0, j1, r0, r1, q0, q1, HL, II⟩ := hrel
            have x0 := XS.out _ II.out.ls.t.be
            rcases HL.out with ⟨rfl, h2⟩ | ⟨qn, hf⟩
            · have L2H := hide h2
              clear h2
              by_cases hj : j < 1536
              · have x6 := II.out.ls.b.cell j.toNat (by omega)
                obtain ⟨y, hy⟩ : ∃ y, u j.toNat = y := ⟨_, rfl⟩
                rw [hy] at x6
                have HYY := hide hy
                have jr : run ≤ j := by have := L2H.out.le; omega
                have jl : run < (A : Int) := by have := L2H.out.lt; omega
                clear hy HL
                cases y with
                | true =>
                  have d1 : ((0 : Int) == (A : Int)) = false := beq_eq_false_iff_ne.2 (by omega)
                  have NX := hide (L2H.out.used HYY.out)
                  rw [show j.toNat + 1 = (j + 1).toNat by omega] at NX
                  go_wp2_with fail
                  refine ⟨⟨0, -1, j + 1, rfl, rfl, rfl, by omega, by omega, by omega, by omega, by omega, by omega, hide (.inl ⟨rfl, NX.out⟩), II⟩, ?_⟩
                  simp [intOf]; omega
                | false =>
                  by_cases hr : run + 1 = (A : Int)
                  · have d1 : (run + 1 == (A : Int)) = true := beq_iff_eq.2 hr
                    have NX := hide (show FirstU u A (j - run).toNat from by
                      have h := L2H.out.hit (by omega) HYY.out (by omega)
                      rwa [show j.toNat + 1 - A = (j - run).toNat by omega] at h)
                    have D1 := hide d1
                    clear hr d1
                    have d1 := D1.out
                    go_wp2_with fail
                    refine ⟨⟨run + 1, j - run, j + 1, rfl, by go_num, rfl, by omega, by omega, by omega, by omega, by omega, by omega, hide (.inr ⟨by omega, NX.out⟩), II⟩, ?_⟩
                    simp [intOf]; omega
                  · have d1 : (run + 1 == (A : Int)) = false := beq_eq_false_iff_ne.2 hr
                    have NX := hide (L2H.out.free HYY.out (by omega))
                    rw [show j.toNat + 1 = (j + 1).toNat by omega, show run.toNat + 1 = (run + 1).toNat by omega] at NX
                    clear hr
                    go_wp2_with fail
                    refine ⟨⟨run + 1, -1, j + 1, rfl, rfl, rfl, by omega, by omega, by omega, by omega, by omega, by omega, hide (.inl ⟨rfl, NX.out⟩), II⟩, ?_⟩
                    simp [intOf]; omega
              · have hj' : j = 1536 := by omega
                subst hj'
                have NO := hide (none_of II.out.fs a3 (show ∀ p, p + A ≤ 1536 → ¬ FreeU u p A from L2H.out.none))
                clear hj HL L2H
                go_wp2_with fail
                go_meet
                exact ⟨-1, rfl, by omega, by omega, hide (.inl ⟨rfl, NO.out⟩), II⟩
            · have HFU := hide (And.intro qn hf)
              clear hf
              by_cases hj : j < 1536
              · go_wp2_with fail
                go_meet
                exact ⟨want, rfl, by omega, by omega, hide (.inr HFU.out), II⟩
              have hj' : 1536 ≤ j := by omega
              clear hj
              go_wp2_with fail
              go_meet
              exact ⟨want, rfl, by omega, by omega, hide (.inr HFU.out), II⟩
        case rest =>
          clear II LZ x0
          obtain ⟨want, rfl, q0, q1, HL, II⟩ := hcut
          have x0 := XS.out _ II.out.ls.t.be
          go_upto_region 22 with fail
          go_cut [13, 15] (fun pv ev wx => ∃ (y x : Int), pv = .int .u64 y ∧ ev = .int .i64 x ∧ 0 ≤ y ∧ y ≤ 4000 ∧ 0 ≤ x ∧ x ≤ 30 ∧ Hid ((want = -1 ∧ y = 0 ∧ x = 30 ∧ FrI N U tb w va vn k.toNat st u la ln c wx) ∨ (∃ p : Nat, want = (p : Int) ∧ y = 1536 + (p : Int) ∧ x = 0 ∧ FirstU u A p ∧ Ls N U tb w (setSt st (1536 + p) (1536 + p + A) 1) u va vn c c la ln wx)))
          case first =>
            rcases HL.out with ⟨rfl, hno⟩ | ⟨qn, hf⟩
            · have CA := hide (t9_alloc_no II.out.ls.t A (by omega) a3 hno)
              clear HL hno
              go_wp2_with fail
              refine CA.out.mono ?_
              rintro e W3 ⟨rfl, t3, l3⟩
              have I3 := hide (show FrI N U tb w va vn k.toNat st u la ln c W3 from ⟨II.out.ls.left t3 l3, II.out.fs, II.out.os, II.out.ck⟩)
              clear CA t3 l3
              go_wp2_with fail
              go_meet
              exact ⟨0, 30, rfl, rfl, by omega, by omega, by omega, by omega, hide (.inl ⟨(by first | rfl | trivial), rfl, rfl, I3.out⟩)⟩
            · obtain ⟨p, hp⟩ : ∃ p : Nat, want = (p : Nat) := ⟨want.toNat, by omega⟩
              subst hp
              rw [Int.toNat_natCast] at hf
              have HFU := hide hf
              have CA := hide (t9_alloc II.out.ls.t A (1536 + p) (by omega) a3 (first_of II.out.fs a3 hf))
              have pI : (p : Int) + (A : Int) ≤ 1536 := by have := hf.le; omega
              obtain ⟨r, hr⟩ : ∃ r, (tl st (1536 + p) A).r = r := ⟨_, rfl⟩
              rw [hr, show ((1536 + p : Nat) : Int) = 1536 + (p : Int) from rfl] at CA
              clear HL hf hr qn
              go_wp2_with fail
              refine CA.out.mono ?_
              rintro e W3 ⟨rfl, t3, l3⟩
              have L3 := hide (II.out.ls.left t3 l3)
              clear CA t3 l3
              go_wp2_with fail
              go_meet
              exact ⟨1536 + (p : Int), 0, rfl, rfl, by omega, by omega, by omega, by omega, hide (.inr ⟨p, rfl, rfl, rfl, HFU.out, L3.out⟩)⟩
          case rest =>
            have FS0 := hide (And.intro II.out.fs (And.intro II.out.os II.out.ck))
            clear II HL x0
            obtain ⟨y, x, rfl, rfl, s0, s1, s2, s3, HD⟩ := hcut
            rename_i n8_left n10_left n21_h n28_K n29_a n32_u n34_u n36_u n41_u n42_u n43_u n44_u n45_u n46_u n47_u n48_u n49_u n50_u n51_u n52_u n53_u n54_u n55_u n56_u n57_u n58_u n59_u n60_u n61_u n62_u n63_u n64_u n65_u n66_u n67_u n68_u n69_u n70_u n71_u n72_u n73_u n74_u n75_u n76_u n77_u n78_u n79_u n80_u n81_u n82_u n83_u n84_u n85_u n86_u n87_u n88_u n89_u n90_u n91_u n92_u n93_u n94_u n95_u n96_u n97_u n98_u n99_u n100_u n101_u n102_u n103_u n104_u n105_u n106_u n107_u n108_u n109_u n110_u n111_u n112_u n113_u n114_u n115_u n116_u n117_u n118_u n119_u n120_u n121_u n122_u n123_u n124_u n125_u n126_u n127_u n128_u n129_u n130_u n131_u n132_u n133_u n134_u n135_u n136_u n137_u n138_u n139_u n140_u n141_u n142_u n143_u n144_u n145_u n146_u n147_u n148_u n149_u n150_u n151_u n152_u n153_u n154_u n155_u n156_u n157_u n158_u n159_u n160_u n161_u n162_u n163_u n164_u n165_u n166_u n167_u n168_u n169_u n170_u n171_u n172_u n173_u n174_u n175_u n176_u n177_u n178_u n179_u n180_u n181_u n182_u n183_u n184_u n185_u n186_u n187_u n188_u n189_u n190_u n191_u n192_u n193_u n194_u n195_u n196_u n197_u n198_u n199_u n200_u n201_u n202_u n203_u n204_u n205_u n206_u n207_u n208_u n209_u n210_u n211_u n212_u n213_u n214_u n215_u n216_u n239_Q n240_K n241_a n242_h n243_wc n246_u n247_u n248_u n249_u n250_u n251_u n252_u n253_u n254_u n255_u n256_u n257_u n258_u n259_u n260_u n261_u n262_u n263_u n264_u n265_u n266_u n267_u n268_u n269_u n270_u n271_u n272_u n276_K n277_a
            revert w l0 c0 o1 l1 c1 n8_left X n10_left Y N R FIN HY HN e0 e1 e2 e3 n21_h w1 tb w2 W0 U hU n28_K n29_a wr u4 n32_u u11 n34_u u13 n36_u u15 u16 u17 u18 n41_u n42_u n43_u n44_u n45_u n46_u n47_u n48_u n49_u n50_u n51_u n52_u n53_u n54_u n55_u n56_u n57_u n58_u n59_u n60_u n61_u n62_u n63_u n64_u n65_u n66_u n67_u n68_u n69_u n70_u n71_u n72_u n73_u n74_u n75_u n76_u n77_u n78_u n79_u n80_u n81_u n82_u n83_u n84_u n85_u n86_u n87_u n88_u n89_u n90_u n91_u n92_u n93_u n94_u n95_u n96_u n97_u n98_u n99_u n100_u n101_u n102_u n103_u n104_u n105_u n106_u n107_u n108_u n109_u n110_u n111_u n112_u n113_u n114_u n115_u n116_u n117_u n118_u n119_u n120_u n121_u n122_u n123_u n124_u n125_u n126_u n127_u n128_u n129_u n130_u n131_u n132_u n133_u n134_u n135_u n136_u n137_u n138_u n139_u n140_u n141_u n142_u n143_u n144_u n145_u n146_u n147_u n148_u n149_u n150_u n151_u n152_u n153_u n154_u n155_u n156_u n157_u n158_u n159_u n160_u n161_u n162_u n163_u n164_u n165_u n166_u n167_u n168_u n169_u n170_u n171_u n172_u n173_u n174_u n175_u n176_u n177_u n178_u n179_u n180_u n181_u n182_u n183_u n184_u n185_u n186_u n187_u n188_u n189_u n190_u n191_u n192_u n193_u n194_u n195_u n196_u n197_u n198_u n199_u n200_u n201_u n202_u n203_u n204_u n205_u n206_u n207_u n208_u n209_u n210_u n211_u n212_u n213_u n214_u n215_u n216_u k va vn k0 k1 st u la ln c hk b0 off0 HX hb0 A y1 y0 XS a1' a2' a3 n239_Q n240_K n241_a n242_h n243_wc u10 u12 n246_u n247_u n248_u n249_u n250_u n251_u n252_u n253_u n254_u n255_u n256_u n257_u n258_u n259_u n260_u n261_u n262_u n263_u n264_u n265_u n266_u n267_u n268_u n269_u n270_u n271_u n272_u want q0 q1 n276_K n277_a wc u14 u38 u39 u40 u41 u42 u43 u44 u45 u46 u47 u48 u49 u50 u51 u52 u53 u54 u55 u56 u57 u58 u59 u60 u61 u62 u63 u64 u65 u66 u67 u68 u69 u70 u71 u72 u73 u74 u75 u76 u77 u78 u79 u80 u81 u82 u83 u84 u85 u86 u87 u88 u89 u90 u91 u92 u93 u94 u95 u96 u97 u98 u99 u100 u101 u102 u103 u104 u105 u106 u107 u108 u109 u110 u111 u112 u113 u114 u115 u116 u117 u118 u119 u120 u121 u122 u123 u124 u125 u126 u127 u128 u129 u130 u131 u132 u133 u134 u135 u136 u137 u138 u139 u140 u141 u142 u143 u144 u145 u146 u147 u148 u149 u150 u151 u152 u153 u154 u155 u156 u157 u158 u159 u160 u161 u162 u163 u164 u165 u166 u167 u168 u169 u170 u171 u172 u173 u174 u175 u176 u177 u178 u179 u180 u181 u182 u183 u184 u185 u186 u187 u188 u189 u190 u191 u192 u193 u194 u195 u196 u197 u198 u199 u200 u201 u202 u203 u204 u205 u206 u207 u208 u209 u210 u211 u212 u213 FS0 y x s0 s1 s2 s3 HD
            exact HREST.out
      have hk' : (l0 : Int) ≤ k := by omega
      clear hk
      rename_i n9_left n11_left n23_h n30_K n31_a
      revert w o0 l0 c0 o1 l1 c1 n9_left X n11_left Y N R FIN HX HY HN e0 e1 e2 e3 n23_h w1 tb w2 W0 U hU n30_K n31_a wr u4 u10 u11 u12 u13 u14 u15 u16 u17 u18 u38 u39 u40 u41 u42 u43 u44 u45 u46 u47 u48 u49 u50 u51 u52 u53 u54 u55 u56 u57 u58 u59 u60 u61 u62 u63 u64 u65 u66 u67 u68 u69 u70 u71 u72 u73 u74 u75 u76 u77 u78 u79 u80 u81 u82 u83 u84 u85 u86 u87 u88 u89 u90 u91 u92 u93 u94 u95 u96 u97 u98 u99 u100 u101 u102 u103 u104 u105 u106 u107 u108 u109 u110 u111 u112 u113 u114 u115 u116 u117 u118 u119 u120 u121 u122 u123 u124 u125 u126 u127 u128 u129 u130 u131 u132 u133 u134 u135 u136 u137 u138 u139 u140 u141 u142 u143 u144 u145 u146 u147 u148 u149 u150 u151 u152 u153 u154 u155 u156 u157 u158 u159 u160 u161 u162 u163 u164 u165 u166 u167 u168 u169 u170 u171 u172 u173 u174 u175 u176 u177 u178 u179 u180 u181 u182 u183 u184 u185 u186 u187 u188 u189 u190 u191 u192 u193 u194 u195 u196 u197 u198 u199 u200 u201 u202 u203 u204 u205 u206 u207 u208 u209 u210 u211 u212 u213 k va vn k0 k1 st u la ln c II hk'
      exact HEND.out
end Go.Proofs.YtnpimmjkmclkpaaDoor
