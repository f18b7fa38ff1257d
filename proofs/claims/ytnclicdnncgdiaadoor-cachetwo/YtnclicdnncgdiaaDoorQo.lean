/- CacheTwo: its walk. -/
import Derived.Test.YtnclicdnncgdiaaDoorQn
namespace Go.Proofs.YtnclicdnncgdiaaDoor
open Go.ChangeShapes Go.WideShapes Go.ChangeAt Go.RowKit Go.Proofs.Bt Go.Shelf Go.Proofs.Rx Go.Maps Go.Proofs.Pk
set_option linter.unusedVariables false
set_option linter.unusedSimpArgs false

theorem i64_and1 (n : Int) : bits .and .i64 n 1 = n % 2 := by
  have h1 : (BitVec.ofInt 64 1).toNat = 2 ^ 1 - 1 := by decide
  have key : (BitVec.ofInt 64 n &&& BitVec.ofInt 64 1).toNat = (n % ((2 ^ 64 : Nat) : Int)).toNat % 2 ^ 1 := by
    rw [BitVec.toNat_and, BitVec.toNat_ofInt, h1, Nat.and_two_pow_sub_one_eq_mod]
  show IntKind.i64.wrap ((BitVec.ofInt 64 n &&& BitVec.ofInt 64 1).toNat : Nat) = n % 2
  rw [key, IntKind.wrap_i64]
  omega
/-- What is given besides: pages of a row. -/
def SU (S : Nat → Bool) (p k q : Nat) : Bool := S q || decide (p ≤ q ∧ q < k)
theorem SU_start (S : Nat → Bool) (p : Nat) : SU S p p = S := by
  funext q
  unfold SU
  rw [decide_eq_false (by omega), Bool.or_false]
theorem SU_next {S : Nat → Bool} {p k : Nat} (h : p ≤ k) : (fun q => if q = k then true else SU S p k q) = SU S p (k + 1) := by
  funext q
  unfold SU
  by_cases e : q = k
  · rw [if_pos e, decide_eq_true (by omega), Bool.or_true]
  · rw [if_neg e]
    congr 1
    rw [decide_eq_decide]
    omega
theorem bit_val {H : Nat} (hH : H < 18446744073709551616) (m : Nat) : bits .and .u64 ((H : Int) / 2 ^ m) 1 = if H.testBit m then 1 else 0 := by
  rw [show ((H : Int) / 2 ^ m) = ((H / 2 ^ m : Nat) : Int) by simp, show (1 : Int) = ((1 : Nat) : Int) from rfl, w_and _ _ (down_lt m hH) (by decide), Nat.and_one_is_mod, Nat.testBit_eq_decide_div_mod_eq]
  by_cases z : H / 2 ^ m % 2 = 1
  · rw [z, decide_eq_true rfl, if_pos rfl]
  · rw [decide_eq_false z, if_neg (by decide), show H / 2 ^ m % 2 = 0 by omega]; rfl
theorem tell_at (B H G : Nat) : ∃ a g : Int, tellV B H G = .tuple #[.int .u64 a, .int .u64 (H : Nat), .int .u64 g] ∧ 0 ≤ a ∧ a ≤ (B : Int) ∧ (H ≠ 0 → a = (B : Int)) := by
  unfold tellV
  by_cases z : H = 0
  · rw [if_pos z, z]; exact ⟨0, 0, rfl, by omega, by omega, fun h => absurd rfl h⟩
  · rw [if_neg z]; exact ⟨_, _, rfl, by omega, by omega, fun _ => rfl⟩
/-- Some state of it all. -/
def TwE (N : Nat) (w W : World) (b : Bw) : Prop := ∃ st x y S c, Tw N w W b b.L0 b.L1 st x y S c
/-- What is made first. -/
theorem tw_four {N : Nat} {w w1 w2 w3 w4 : World} {tb L0 L1 lb : Nat} (t : T9 N (fun _ => False) w w1 tb (fun _ => 0)) (h2 : w2 = w1.alloc (.cells #[.int .u64 0, .int .u64 0, .int .u64 0] 58)) (h0 : w1.heap.size = L0) (h3 : w3 = w2.alloc (.cells #[.int .u64 0, .int .u64 0, .int .u64 0] 58)) (h1 : w2.heap.size = L1)
    (h4 : w4 = w3.alloc (.cells #[.pointer (some ⟨L0, 0, none⟩), .pointer (some ⟨L1, 0, none⟩)] 26)) (hl : w3.heap.size = lb) : T9 N (fun z => z = L0 ∨ z = L1 ∨ z = lb) w w4 tb (fun _ => 0) ∧ CcAt w4 L0 0 0 0 ∧ CcAt w4 L1 0 0 0 ∧ L0 < L1 ∧ L1 < lb := by
  have b2 : Below w1.heap.size w1 w2 := by rw [h2]; exact grown1 w1 _
  have b3 : Below w2.heap.size w2 w3 := by rw [h3]; exact grown1 w2 _
  have b4 : Below w3.heap.size w3 w4 := by rw [h4]; exact grown1 w3 _
  have s2 : w2.heap.size = L0 + 1 := by rw [h2, ← h0]; simp
  have s3 : w3.heap.size = L1 + 1 := by rw [h3, ← h1]; simp
  have s4 : w4.heap.size = lb + 1 := by rw [h4, ← hl]; simp
  have ball : Below w1.heap.size w1 w4 := (b2.trans (b3.mono (by omega))).trans (b4.mono (by omega))
  exact ⟨t.more ball (fun z hz => .inr ⟨by omega, by omega⟩), ((CcAt.new h2 h0.symm).below b3).below b4, (CcAt.new h3 h1.symm).below b4, by omega, by omega⟩
theorem tw_start {N : Nat} {w w4 w5 w6 : World} {tb L0 L1 lb gm : Nat} (h : T9 N (fun z => z = L0 ∨ z = L1 ∨ z = lb) w w4 tb (fun _ => 0) ∧ CcAt w4 L0 0 0 0 ∧ CcAt w4 L1 0 0 0 ∧ L0 < L1 ∧ L1 < lb) (bk : Bk w4 lb 26 #[.pointer (some ⟨L0, 0, none⟩), .pointer (some ⟨L1, 0, none⟩)])
    (t5 : T9 N (fun z => z = L0 ∨ z = L1 ∨ z = lb) w w5 tb (setSt (fun _ => 0) (6 * 512) (6 * 512 + 1 * 512) 3)) (l5 : Left9 N (fun z => z = L0 ∨ z = L1 ∨ z = lb) w4 w5) (h6 : w6 = w5.alloc (.map #[] 0)) (hg : w5.heap.size = gm) : TwE N w w6 ⟨tb, lb, gm, L0, L1⟩ := by
  obtain ⟨t4, k0, k1, n1, n2⟩ := h
  have b6 : Below w5.heap.size w5 w6 := by rw [h6]; exact grown1 w5 _
  have s6 : w6.heap.size = gm + 1 := by rw [h6, ← hg]; simp
  have k0' := (k0.kept l5 (fun z => z.2 (.inl rfl))).below b6
  have k1' := (k1.kept l5 (fun z => z.2 (.inr (.inl rfl)))).below b6
  have bk' := (bk.kept l5 (fun z => z.2 (.inr (.inr rfl)))).below b6
  have lg : lb < gm := by rw [← hg]; exact (t5.inOb (.inr (.inr rfl))).2
  have z0 : ∀ (st : Nat → Nat), Cg st (fun _ => false) ⟨0, 0, 0⟩ := fun st => ⟨(show 0 + 64 ≤ 34359738368 by decide), fun j hj => hj, fun j hj => by
    have hj' : (0 : Nat).testBit j = true := hj
    rw [Nat.zero_testBit] at hj'; cases hj'⟩
  refine ⟨_, ⟨0, 0, 0⟩, ⟨0, 0, 0⟩, fun _ => false, 0, ⟨t5.more b6 (fun z hz => ?_), k0', k1', bk', ?_, z0 _, z0 _, fun i j hi => ?_, (fun q hq => by cases hq), fun q hq => ?_, ?_, ?_⟩⟩
  · rcases hz with u | u | u | u
    · exact .inl (.inl u)
    · exact .inl (.inr (.inl u))
    · exact .inl (.inr (.inr u))
    · have u' : z = gm := u
      exact .inr ⟨by omega, by omega⟩
  · show SetM w6 gm (fun _ => false) 0
    rw [h6, ← hg]; exact SetM.made w5
  · have hi' : (0 : Nat).testBit i = true := hi
    rw [Nat.zero_testBit] at hi'; cases hi'
  · unfold setSt at hq
    split at hq
    · omega
    · exact absurd rfl hq
  · exact (cnt_none fun k hk => rfl).symm
  · refine ⟨?_, ?_, ?_, ?_, ?_, ?_⟩
    · show L0 ≠ L1; omega
    · show L0 ≠ lb; omega
    · show L0 ≠ gm; omega
    · show L1 ≠ lb; omega
    · show L1 ≠ gm; omega
    · show lb ≠ gm; omega
set_option maxRecDepth 100000 in
set_option maxHeartbeats 4000000 in
theorem two_any (w : World) (ht : TabW w) (o : Option Addr) (len cap : Nat) (hA : len ≤ maxLen ∧ len ≤ cap ∧ ∃ X, IntsAt w o len cap X) :
    Calls Tryd.prog 5 #[.slice o len cap] w fun e w' => e = .returned (.bool true) ∧ Below w.heap.size w w' := by
  obtain ⟨hm, hc, X, hX⟩ := hA
  obtain ⟨N, hN⟩ : ∃ N, w.heap.size = N := ⟨_, rfl⟩
  obtain ⟨R, hR⟩ : ∃ R : Ending → World → Prop, R = fun e w' => e = .returned (.bool true) ∧ Below w.heap.size w w' := ⟨_, rfl⟩
  rw [← hR]
  have FIN := hide (show ∀ W, Below N w W → R (.returned (.bool true)) W from fun W hW => by rw [hR]; exact ⟨rfl, by rw [hN]; exact hW⟩)
  have l0 : 0 ≤ (len : Int) := by omega
  have lm : (len : Int) ≤ 9223372036854775807 := by unfold maxLen at hm; omega
  by_cases hl : 60 < len
  · have F0 := hide (FIN.out w (Below.refl _ _))
    have dl : decide (60 < (len : Int)) = true := decide_eq_true (by omega)
    clear hR hX hN ht FIN hm hc
    go_enter Tryd.func5, Tryd.ntmps5
    go_wp2_with fail
    first | exact F0.out | (go_ret; exact F0.out)
  have dl : decide (60 < (len : Int)) = false := decide_eq_false (by omega)
  have l1 : (len : Int) ≤ 60 := by omega
  have CN := hide (t9_new ht hN)
  have HX := hide hX
  have HN := hide hN
  clear hR hX hm hc hN ht hl
  go_enter Tryd.func5, Tryd.ntmps5
  go_wp2_with fail
  refine CN.out.mono ?_
  rintro e w1 ⟨tb, rfl, t1⟩
  have T1 := hide t1
  clear CN t1 dl
  go_wp2_with fail
  refine (ccNew w1).mono ?_
  rintro e w2 ⟨rfl, hw2⟩
  obtain ⟨L0, hL0⟩ : ∃ L0, w1.heap.size = L0 := ⟨_, rfl⟩
  have HW2 := hide hw2
  have HL0 := hide hL0
  rw [hL0]
  clear hw2 hL0
  go_wp2_with fail
  refine (ccNew w2).mono ?_
  rintro e w3 ⟨rfl, hw3⟩
  obtain ⟨L1, hL1⟩ : ∃ L1, w2.heap.size = L1 := ⟨_, rfl⟩
  have HW3 := hide hw3
  have HL1 := hide hL1
  rw [hL1]
  obtain ⟨w4, hw4⟩ : ∃ w4, w4 = w3.alloc (.cells #[.pointer (some ⟨L0, 0, none⟩), .pointer (some ⟨L1, 0, none⟩)] 26) := ⟨_, rfl⟩
  obtain ⟨lb, hlb⟩ : ∃ lb, w3.heap.size = lb := ⟨_, rfl⟩
  have HW4 := hide hw4
  have HLB := hide hlb
  have bk : Bk w4 lb 26 #[.pointer (some ⟨L0, 0, none⟩), .pointer (some ⟨L1, 0, none⟩)] := by unfold Bk; rw [hw4, ← hlb]; exact World.alloc_heap_new w3 _
  have c0 := bk.cell 0 _ rfl
  have c1 := bk.cell 1 _ rfl
  have HBK := hide bk
  clear hw3 hL1 hw4 hlb bk
  go_wp2_with fail
  rw [← HW4.out, HLB.out]
  have T4 := hide (tw_four T1.out HW2.out HL0.out HW3.out HL1.out HW4.out HLB.out)
  have CG := hide (t9_grow T4.out.1 6 1 (by unfold GrowBad; omega) (by rw [tl_all (s := 0) fun q _ _ => rfl]; rfl))
  simp only [Int.cast_ofNat_Int] at CG
  clear c0 c1 HW2 HL0 HW3 HL1 HW4 HLB T1
  refine CG.out.mono ?_
  rintro e w5 ⟨rfl, t5, l5⟩
  obtain ⟨w6, hw6⟩ : ∃ w6, w6 = w5.alloc (.map #[] 0) := ⟨_, rfl⟩
  obtain ⟨gm, hgm⟩ : ∃ gm, w5.heap.size = gm := ⟨_, rfl⟩
  obtain ⟨b, hb⟩ : ∃ b : Bw, b = ⟨tb, lb, gm, L0, L1⟩ := ⟨_, rfl⟩
  have I0 := hide (show TwE N w w6 b from by rw [hb]; exact tw_start T4.out HBK.out t5 l5 hw6 hgm)
  have e5 : b.tb = tb ∧ b.lb = lb ∧ b.gm = gm ∧ b.L0 = L0 ∧ b.L1 = L1 := by rw [hb]; exact ⟨rfl, rfl, rfl, rfl, rfl⟩
  have HW6 := hide hw6
  have HGM := hide hgm
  obtain ⟨rfl, rfl, rfl, rfl, rfl⟩ := e5
  clear CG t5 l5 T4 HBK hw6 hgm hb
  have mk : ∀ (t : TypeId) (w : World), (Instr.makeMap t none).run Tryd.prog w = .ok (.map (some w.heap.size)) (w.alloc (.map #[] 0)) := fun t w => run_makeMap t w
  go_wp2_with fail
  rw [← HW6.out, HGM.out]
  clear HW6 HGM mk
  go_loopw [6] (fun iv wr => ∃ i : Int, iv = .int .i64 i ∧ 0 ≤ i ∧ i ≤ len ∧ Hid (TwE N w wr b)) (fun iv _ => (len - intOf iv).toNat)
  case atStart => exact ⟨0, rfl, by omega, by omega, I0⟩
  case round =>
    clear I0
    obtain ⟨i, rfl, i0, i1, HE⟩ := hrel
    by_cases hi : i < len
    · obtain ⟨st, x, y, S, c, h⟩ := HE.out
      obtain ⟨bl, off, rfl, hbl, hcl⟩ := HX.out.at (i := i.toNat) (by omega)
      have z0 := hcl i.toNat (by omega)
      have nlo := HX.out.lo i.toNat
      have nhi := HX.out.hi i.toNat
      obtain ⟨n, hn⟩ : ∃ n, X i.toNat = n := ⟨_, rfl⟩
      rw [hn] at nlo nhi
      have hbN : bl < N := by rw [← HN.out]; exact hbl
      have CEL := hide (show ∀ Z : World, Below N w Z → Z.cell? ⟨bl, off + i.toNat, none⟩ = some (.int .i64 n) from fun Z hZ => (cell_block (hZ.block bl hbN) _).trans (by rw [z0, hn]))
      have m0 := i64_and1 i
      obtain ⟨r, hr⟩ : ∃ r, i % 2 = r := ⟨_, rfl⟩
      rw [hr] at m0
      have r0 : 0 ≤ r := by omega
      have r1 : r < 2 := by omega
      obtain ⟨ca, co, xa, xo, ha, hcell, hback⟩ : ∃ (ca co : Nat) (xa xo : Cx), Tw N w wr b ca co st xa xo S c ∧ wr.cell? ⟨b.lb, r.toNat, none⟩ = some (.pointer (some ⟨ca, 0, none⟩)) ∧ (∀ (W : World) (st : Nat → Nat) (xa xo : Cx) (S : Nat → Bool) (c : Nat), Tw N w W b ca co st xa xo S c → TwE N w W b) := by
        by_cases e : r = 0
        · subst e
          exact ⟨b.L0, b.L1, x, y, h, h.l.cell 0 _ rfl, fun W st xa xo S c hh => ⟨_, _, _, _, _, hh⟩⟩
        · obtain rfl : r = 1 := by omega
          exact ⟨b.L1, b.L0, y, x, h.swap, h.l.cell 1 _ rfl, fun W st xa xo S c hh => ⟨_, _, _, _, _, hh.swap⟩⟩
      have BACK := hide hback
      have GA := hide ha
      have CE := hide (ccEmpty ha.k0)
      clear hcl hbl z0 hn hbN h HE hr ha hback
      by_cases hz : xa.H = 0
      · have CF := hide (tw_fill GA.out hz)
        rw [decide_eq_true hz] at CE
        clear hz
        go_wp2_with fail
        refine CE.out.mono ?_
        rintro e u0 ⟨rfl, hu0⟩
        rw [hu0]
        clear hu0 CE
        go_wp2_with fail
        refine CF.out.mono ?_
        rintro e u1 ⟨v1, ste, xe, rfl, tw1⟩
        have GW := hide tw1
        clear CF tw1 GA hcell
        have d0 := CEL.out u1 GW.out.t.be
        have CA := hide (tw_alloc GW.out n)
        go_wp2_with fail
        refine CA.out.mono ?_
        rintro e u2 (⟨v, hv, rfl, hu2⟩ | ⟨p, m, v, x1, rfl, m1, m2, rfl, tw2, hpg, hpm⟩)
        · rw [hu2]
          have dv : (v != 0) = true := by rcases hv with rfl | rfl <;> rfl
          clear hu2 CA hv
          by_cases h5 : i % 5 = 4
          · have q5 : (i % 5 == 4) = true := beq_iff_eq.2 h5
            have CFl := hide (tw_flush GW.out)
            clear h5
            go_wp2_with fail
            refine CFl.out.mono ?_
            rintro e u3 ⟨rfl, st3, x3, tw3⟩
            have H9 := hide (show TwE N w u3 b from BACK.out _ _ _ _ _ _ tw3)
            clear CFl tw3 GW d0 CEL
            go_wp2_with fail
            go_roundw
            case rel => exact ⟨i + 1, by go_num, by omega, by omega, H9⟩
            case measure => simp [intOf]; omega
          · have q5 : (i % 5 == 4) = false := beq_eq_false_iff_ne.2 h5
            have H9 := hide (show TwE N w u1 b from BACK.out _ _ _ _ _ _ GW.out)
            clear h5 GW d0 CEL
            go_wp2_with fail
            go_roundw
            case rel => exact ⟨i + 1, by go_num, by omega, by omega, H9⟩
            case measure => simp [intOf]; omega
        · have PG := hide hpg
          have J0 := hide (show Tw N w u2 b ca co ste x1 xo (SU S p p) (c + 0) from by rw [SU_start]; exact tw2)
          have c64 := PG.out
          obtain ⟨P, hP⟩ : ∃ P : Int, (p : Int) = P := ⟨_, rfl⟩
          have HP := hide hP
          have P0 : 0 ≤ P := by omega
          have P1 : P + (m : Int) ≤ 34359738368 := by omega
          have M1 : (1 : Int) ≤ m := by omega
          have M2 : (m : Int) ≤ 64 := by omega
          rw [hP]
          have eM : IntKind.u64.wrap (m : Int) = m := by rw [IntKind.wrap_u64]; omega
          clear c64 hpg tw2 CA hP GW CEL d0 hpm m1 m2
          go_wp2_with fail
          go_loopw [12] (fun kv wr2 => ∃ K : Int, kv = .int .u64 K ∧ P ≤ K ∧ K ≤ P + (m : Int) ∧ Hid (Tw N w wr2 b ca co ste x1 xo (SU S p K.toNat) (c + (K - P).toNat))) (fun kv _ => (P + (m : Int) - intOf kv).toNat)
          case atStart => exact ⟨P, rfl, by omega, by omega, by rw [show P.toNat = p by have := HP.out; omega, show (P - P).toNat = 0 by omega]; exact J0⟩
          case round =>
            clear J0
            obtain ⟨K, rfl, k0, k1, HK⟩ := hrel
            by_cases hk : K < P + (m : Int)
            · obtain ⟨s1, s2, s3, s4⟩ := PG.out K.toNat (by have := HP.out; omega) (by have := HP.out; omega)
              have sf : SU S p K.toNat K.toNat = false := by unfold SU; rw [s1, decide_eq_false (by omega)]; rfl
              have lk := HK.out.m.look K.toNat (by omega)
              rw [sf, show ((K.toNat : Nat) : Int) = K by omega] at lk
              have cb : c + (K - P).toNat < 100000 := by have h1 := HK.out.cn; have h2 := cnt_le (SU S p K.toNat) 3072 512; omega
              obtain ⟨Z, hrun, hset, hkept⟩ := HK.out.m.put cb K.toNat (by omega) sf
              rw [show ((K.toNat : Nat) : Int) = K by omega] at hrun
              have H2 := hide (show Tw N w Z b ca co ste x1 xo (SU S p (K + 1).toNat) (c + (K + 1 - P).toNat) from by
                have e0 : (fun q => if q = K.toNat then true else SU S p K.toNat q) = SU S p (K + 1).toNat := by
                  rw [show (K + 1).toNat = K.toNat + 1 by omega]
                  exact SU_next (by have := HP.out; omega)
                rw [e0] at hset
                rw [show c + (K + 1 - P).toNat = c + (K - P).toNat + 1 by omega]
                have own : ∀ z : Cx, Cg ste (SU S p K.toNat) z → (∀ j, z.H.testBit j = true → z.B + j ≠ K.toNat) → Cg ste (SU S p (K + 1).toNat) z := fun z gz hz => ⟨gz.b, gz.sub, fun j hj => ⟨(gz.own j hj).1, by
                  rw [← e0]
                  show (if z.B + j = K.toNat then true else SU S p K.toNat (z.B + j)) = false
                  rw [if_neg (hz j hj)]
                  exact (gz.own j hj).2⟩⟩
                have inch := HK.out.ch K.toNat (by rw [s2]; decide)
                refine HK.out.map (x' := x1) hkept hset (own x1 HK.out.g0 s3) (own xo HK.out.g1 s4) (fun q hq => ?_) ?_
                · rw [← e0] at hq
                  have hq' : (if q = K.toNat then true else SU S p K.toNat q) = true := hq
                  split at hq'
                  · rename_i z; rw [z]; exact s2
                  · exact HK.out.sg q hq'
                · rw [← e0, cnt_plus (f := SU S p K.toNat) (p := K.toNat) (by omega) (by omega) sf, ← HK.out.cn])
              clear s1 s2 s3 s4 sf hset hkept cb HK
              go_wp2_with fail
              go_roundw
              case rel => exact ⟨K + 1, by go_num, by omega, by omega, H2⟩
              case measure => simp [intOf]; omega
            · have dk : decide (K < P + (m : Int)) = false := decide_eq_false hk
              obtain ⟨st5, y0, y1, S5, c5, tw5⟩ := (show TwE N w wr b from BACK.out _ _ _ _ _ _ HK.out)
              have T5 := hide tw5
              have f0 := tw5.l.cell 0 _ rfl
              have f1 := tw5.l.cell 1 _ rfl
              obtain ⟨ta, tg, hta, a0, a1, aB⟩ := tell_at y0.B y0.H y0.G
              obtain ⟨tb', tg', htb, b0, b1, bB⟩ := tell_at y1.B y1.H y1.G
              have CT0 := hide (ccTell tw5.k0)
              have CT1 := hide (fun Z (hZ : Tw N w Z b b.L0 b.L1 st5 y0 y1 S5 c5) => ccTell hZ.k1)
              rw [hta] at CT0
              rw [htb] at CT1
              have h64 := tw5.k0.h
              have h64' := tw5.k1.h
              have bB5 := tw5.g0.b
              have AB := hide aB
              have ANDZ := hide (show ta = tb' → bits .and .u64 (y0.H : Int) (y1.H : Int) = 0 from fun e => by
                rw [w_and _ _ h64 h64']
                have z : y0.H &&& y1.H = 0 := zero_of_bits fun j => by
                  rw [Nat.testBit_and]
                  cases u1 : y0.H.testBit j with
                  | false => rfl
                  | true =>
                    cases u2 : y1.H.testBit j with
                    | false => rfl
                    | true =>
                      have n0 : y0.H ≠ 0 := fun z => by rw [z, Nat.zero_testBit] at u1; cases u1
                      have n1 : y1.H ≠ 0 := fun z => by rw [z, Nat.zero_testBit] at u2; cases u2
                      exact absurd (by have := aB n0; have := bB n1; omega) (tw5.ap j j u1 u2)
                rw [z]; rfl)
              clear hk HK tw5 hta htb aB bB
              go_wp2_with fail
              refine CT0.out.mono ?_
              rintro e u5 ⟨rfl, j5, hj5⟩
              have b5 : Below wr.heap.size wr u5 := by rw [hj5]; exact ⟨rfl, rfl, rfl, Nat.le_refl _, fun _ _ => rfl⟩
              have T6 := hide (T5.out.read b5)
              have f2 := T6.out.l.cell 1 _ rfl
              have C6 := hide (CT1.out u5 T6.out)
              clear CT0 CT1 hj5 b5 T5 f0 f1
              go_wp2_with fail
              refine C6.out.mono ?_
              rintro e u6 ⟨rfl, j6, hj6⟩
              have b6 : Below u5.heap.size u5 u6 := by rw [hj6]; exact ⟨rfl, rfl, rfl, Nat.le_refl _, fun _ _ => rfl⟩
              have T7 := hide (T6.out.read b6)
              clear C6 hj6 b6 T6 f2
              by_cases hab : ta = tb'
              · have az := ANDZ.out hab
                have qab : (ta == tb') = true := beq_iff_eq.2 hab
                clear hab ANDZ
                go_wp2_with fail
                go_loopw [19] (fun kv wr3 => ∃ K : Int, kv = .int .u64 K ∧ 0 ≤ K ∧ K ≤ 64 ∧ Hid (Tw N w wr3 b b.L0 b.L1 st5 y0 y1 S5 c5)) (fun kv _ => (64 - intOf kv).toNat)
                case atStart => exact ⟨0, rfl, by omega, by omega, T7⟩
                case round =>
                  clear T7
                  obtain ⟨K, rfl, k0, k1, HK⟩ := hrel
                  by_cases hk : K < 64
                  · cases hbt : y0.H.testBit K.toNat with
                    | true =>
                      have e1 := bit_val h64 K.toNat
                      rw [hbt, if_pos rfl] at e1
                      have n0 : y0.H ≠ 0 := fun z => by rw [z, Nat.zero_testBit] at hbt; cases hbt
                      have eA : ta = (y0.B : Int) := AB.out n0
                      obtain ⟨o1, o2⟩ := HK.out.g0.own _ hbt
                      have CS := hide (t9_state HK.out.t (y0.B + K.toNat) (by omega))
                      rw [show fre st5 (y0.B + K.toNat) = false by unfold fre; rw [o1]; rfl, show ((y0.B + K.toNat : Nat) : Int) = ta + K by omega] at CS
                      generalize inU st5 (y0.B + K.toNat) = s1 at CS
                      generalize rel st5 (y0.B + K.toNat) = s2 at CS
                      have LKS := hide (show ∀ Z, SetM Z b.gm S5 c5 → (Instr.lookup 50 (.map (some b.gm)) (.int .u64 (ta + K)) false).run Tryd.prog Z = .ok (.bool false) Z from fun Z hZ => by
                        have l := hZ.look (y0.B + K.toNat) (by omega)
                        rwa [o2, show ((y0.B + K.toNat : Nat) : Int) = ta + K by omega] at l)
                      have aW : IntKind.u64.wrap (ta + K) = ta + K := by rw [IntKind.wrap_u64]; omega
                      clear hbt n0 eA o1 o2
                      go_wp2_with fail
                      refine CS.out.mono ?_
                      rintro e u7 ⟨rfl, t7, l7⟩
                      have T8 := hide (show Tw N w u7 b b.L0 b.L1 st5 y0 y1 S5 c5 from HK.out.step (x' := y0) (HK.out.tc.tree t7 l7) (left_c l7) HK.out.g0 HK.out.g1 HK.out.ap HK.out.sg HK.out.ch)
                      have lk2 := LKS.out u7 T8.out.m
                      clear CS t7 l7 LKS HK
                      go_wp2_with fail
                      go_roundw
                      case rel => exact ⟨K + 1, by go_num, by omega, by omega, T8⟩
                      case measure => simp [intOf]; omega
                    | false =>
                      have e1 := bit_val h64 K.toNat
                      rw [hbt, if_neg (by decide)] at e1
                      clear hbt
                      go_wp2_with fail
                      go_roundw
                      case rel => exact ⟨K + 1, by go_num, by omega, by omega, HK⟩
                      case measure => simp [intOf]; omega
                  · have dk2 : decide (K < 64) = false := decide_eq_false hk
                    have H9 := hide (show TwE N w wr b from ⟨_, _, _, _, _, HK.out⟩)
                    clear hk HK
                    go_wp2_with fail
                    go_roundw
                    case rel => exact ⟨i + 1, by go_num, by omega, by omega, H9⟩
                    case measure => simp [intOf]; omega
              · have qab : (ta == tb') = false := beq_eq_false_iff_ne.2 hab
                clear hab ANDZ
                go_wp2_with fail
                go_loopw [19] (fun kv wr3 => ∃ K : Int, kv = .int .u64 K ∧ 0 ≤ K ∧ K ≤ 64 ∧ Hid (Tw N w wr3 b b.L0 b.L1 st5 y0 y1 S5 c5)) (fun kv _ => (64 - intOf kv).toNat)
                case atStart => exact ⟨0, rfl, by omega, by omega, T7⟩
                case round =>
                  clear T7
                  obtain ⟨K, rfl, k0, k1, HK⟩ := hrel
                  by_cases hk : K < 64
                  · cases hbt : y0.H.testBit K.toNat with
                    | true =>
                      have e1 := bit_val h64 K.toNat
                      rw [hbt, if_pos rfl] at e1
                      have n0 : y0.H ≠ 0 := fun z => by rw [z, Nat.zero_testBit] at hbt; cases hbt
                      have eA : ta = (y0.B : Int) := AB.out n0
                      obtain ⟨o1, o2⟩ := HK.out.g0.own _ hbt
                      have CS := hide (t9_state HK.out.t (y0.B + K.toNat) (by omega))
                      rw [show fre st5 (y0.B + K.toNat) = false by unfold fre; rw [o1]; rfl, show ((y0.B + K.toNat : Nat) : Int) = ta + K by omega] at CS
                      generalize inU st5 (y0.B + K.toNat) = s1 at CS
                      generalize rel st5 (y0.B + K.toNat) = s2 at CS
                      have LKS := hide (show ∀ Z, SetM Z b.gm S5 c5 → (Instr.lookup 50 (.map (some b.gm)) (.int .u64 (ta + K)) false).run Tryd.prog Z = .ok (.bool false) Z from fun Z hZ => by
                        have l := hZ.look (y0.B + K.toNat) (by omega)
                        rwa [o2, show ((y0.B + K.toNat : Nat) : Int) = ta + K by omega] at l)
                      have aW : IntKind.u64.wrap (ta + K) = ta + K := by rw [IntKind.wrap_u64]; omega
                      clear hbt n0 eA o1 o2
                      go_wp2_with fail
                      refine CS.out.mono ?_
                      rintro e u7 ⟨rfl, t7, l7⟩
                      have T8 := hide (show Tw N w u7 b b.L0 b.L1 st5 y0 y1 S5 c5 from HK.out.step (x' := y0) (HK.out.tc.tree t7 l7) (left_c l7) HK.out.g0 HK.out.g1 HK.out.ap HK.out.sg HK.out.ch)
                      have lk2 := LKS.out u7 T8.out.m
                      clear CS t7 l7 LKS HK
                      go_wp2_with fail
                      go_roundw
                      case rel => exact ⟨K + 1, by go_num, by omega, by omega, T8⟩
                      case measure => simp [intOf]; omega
                    | false =>
                      have e1 := bit_val h64 K.toNat
                      rw [hbt, if_neg (by decide)] at e1
                      clear hbt
                      go_wp2_with fail
                      go_roundw
                      case rel => exact ⟨K + 1, by go_num, by omega, by omega, HK⟩
                      case measure => simp [intOf]; omega
                  · have dk2 : decide (K < 64) = false := decide_eq_false hk
                    have H9 := hide (show TwE N w wr b from ⟨_, _, _, _, _, HK.out⟩)
                    clear hk HK
                    go_wp2_with fail
                    go_roundw
                    case rel => exact ⟨i + 1, by go_num, by omega, by omega, H9⟩
                    case measure => simp [intOf]; omega
      · rw [decide_eq_false hz] at CE
        have GW := GA
        go_wp2_with fail
        refine CE.out.mono ?_
        rintro e u0 ⟨rfl, hu0⟩
        rw [hu0]
        clear hu0 CE hz GA hcell
        have d0 := CEL.out wr GW.out.t.be
        have CA := hide (tw_alloc GW.out n)
        go_wp2_with fail
        refine CA.out.mono ?_
        rintro e u2 (⟨v, hv, rfl, hu2⟩ | ⟨p, m, v, x1, rfl, m1, m2, rfl, tw2, hpg, hpm⟩)
        · rw [hu2]
          have dv : (v != 0) = true := by rcases hv with rfl | rfl <;> rfl
          clear hu2 CA hv
          by_cases h5 : i % 5 = 4
          · have q5 : (i % 5 == 4) = true := beq_iff_eq.2 h5
            have CFl := hide (tw_flush GW.out)
            clear h5
            go_wp2_with fail
            refine CFl.out.mono ?_
            rintro e u3 ⟨rfl, st3, x3, tw3⟩
            have H9 := hide (show TwE N w u3 b from BACK.out _ _ _ _ _ _ tw3)
            clear CFl tw3 GW d0 CEL
            go_wp2_with fail
            go_roundw
            case rel => exact ⟨i + 1, by go_num, by omega, by omega, H9⟩
            case measure => simp [intOf]; omega
          · have q5 : (i % 5 == 4) = false := beq_eq_false_iff_ne.2 h5
            have H9 := hide (show TwE N w wr b from BACK.out _ _ _ _ _ _ GW.out)
            clear h5 GW d0 CEL
            go_wp2_with fail
            go_roundw
            case rel => exact ⟨i + 1, by go_num, by omega, by omega, H9⟩
            case measure => simp [intOf]; omega
        · have PG := hide hpg
          have J0 := hide (show Tw N w u2 b ca co st x1 xo (SU S p p) (c + 0) from by rw [SU_start]; exact tw2)
          have c64 := PG.out
          obtain ⟨P, hP⟩ : ∃ P : Int, (p : Int) = P := ⟨_, rfl⟩
          have HP := hide hP
          have P0 : 0 ≤ P := by omega
          have P1 : P + (m : Int) ≤ 34359738368 := by omega
          have M1 : (1 : Int) ≤ m := by omega
          have M2 : (m : Int) ≤ 64 := by omega
          rw [hP]
          have eM : IntKind.u64.wrap (m : Int) = m := by rw [IntKind.wrap_u64]; omega
          clear c64 hpg tw2 CA hP GW CEL d0 hpm m1 m2
          go_wp2_with fail
          go_loopw [12] (fun kv wr2 => ∃ K : Int, kv = .int .u64 K ∧ P ≤ K ∧ K ≤ P + (m : Int) ∧ Hid (Tw N w wr2 b ca co st x1 xo (SU S p K.toNat) (c + (K - P).toNat))) (fun kv _ => (P + (m : Int) - intOf kv).toNat)
          case atStart => exact ⟨P, rfl, by omega, by omega, by rw [show P.toNat = p by have := HP.out; omega, show (P - P).toNat = 0 by omega]; exact J0⟩
          case round =>
            clear J0
            obtain ⟨K, rfl, k0, k1, HK⟩ := hrel
            by_cases hk : K < P + (m : Int)
            · obtain ⟨s1, s2, s3, s4⟩ := PG.out K.toNat (by have := HP.out; omega) (by have := HP.out; omega)
              have sf : SU S p K.toNat K.toNat = false := by unfold SU; rw [s1, decide_eq_false (by omega)]; rfl
              have lk := HK.out.m.look K.toNat (by omega)
              rw [sf, show ((K.toNat : Nat) : Int) = K by omega] at lk
              have cb : c + (K - P).toNat < 100000 := by have h1 := HK.out.cn; have h2 := cnt_le (SU S p K.toNat) 3072 512; omega
              obtain ⟨Z, hrun, hset, hkept⟩ := HK.out.m.put cb K.toNat (by omega) sf
              rw [show ((K.toNat : Nat) : Int) = K by omega] at hrun
              have H2 := hide (show Tw N w Z b ca co st x1 xo (SU S p (K + 1).toNat) (c + (K + 1 - P).toNat) from by
                have e0 : (fun q => if q = K.toNat then true else SU S p K.toNat q) = SU S p (K + 1).toNat := by
                  rw [show (K + 1).toNat = K.toNat + 1 by omega]
                  exact SU_next (by have := HP.out; omega)
                rw [e0] at hset
                rw [show c + (K + 1 - P).toNat = c + (K - P).toNat + 1 by omega]
                have own : ∀ z : Cx, Cg st (SU S p K.toNat) z → (∀ j, z.H.testBit j = true → z.B + j ≠ K.toNat) → Cg st (SU S p (K + 1).toNat) z := fun z gz hz => ⟨gz.b, gz.sub, fun j hj => ⟨(gz.own j hj).1, by
                  rw [← e0]
                  show (if z.B + j = K.toNat then true else SU S p K.toNat (z.B + j)) = false
                  rw [if_neg (hz j hj)]
                  exact (gz.own j hj).2⟩⟩
                have inch := HK.out.ch K.toNat (by rw [s2]; decide)
                refine HK.out.map (x' := x1) hkept hset (own x1 HK.out.g0 s3) (own xo HK.out.g1 s4) (fun q hq => ?_) ?_
                · rw [← e0] at hq
                  have hq' : (if q = K.toNat then true else SU S p K.toNat q) = true := hq
                  split at hq'
                  · rename_i z; rw [z]; exact s2
                  · exact HK.out.sg q hq'
                · rw [← e0, cnt_plus (f := SU S p K.toNat) (p := K.toNat) (by omega) (by omega) sf, ← HK.out.cn])
              clear s1 s2 s3 s4 sf hset hkept cb HK
              go_wp2_with fail
              go_roundw
              case rel => exact ⟨K + 1, by go_num, by omega, by omega, H2⟩
              case measure => simp [intOf]; omega
            · have dk : decide (K < P + (m : Int)) = false := decide_eq_false hk
              obtain ⟨st5, y0, y1, S5, c5, tw5⟩ := (show TwE N w wr b from BACK.out _ _ _ _ _ _ HK.out)
              have T5 := hide tw5
              have f0 := tw5.l.cell 0 _ rfl
              have f1 := tw5.l.cell 1 _ rfl
              obtain ⟨ta, tg, hta, a0, a1, aB⟩ := tell_at y0.B y0.H y0.G
              obtain ⟨tb', tg', htb, b0, b1, bB⟩ := tell_at y1.B y1.H y1.G
              have CT0 := hide (ccTell tw5.k0)
              have CT1 := hide (fun Z (hZ : Tw N w Z b b.L0 b.L1 st5 y0 y1 S5 c5) => ccTell hZ.k1)
              rw [hta] at CT0
              rw [htb] at CT1
              have h64 := tw5.k0.h
              have h64' := tw5.k1.h
              have bB5 := tw5.g0.b
              have AB := hide aB
              have ANDZ := hide (show ta = tb' → bits .and .u64 (y0.H : Int) (y1.H : Int) = 0 from fun e => by
                rw [w_and _ _ h64 h64']
                have z : y0.H &&& y1.H = 0 := zero_of_bits fun j => by
                  rw [Nat.testBit_and]
                  cases u1 : y0.H.testBit j with
                  | false => rfl
                  | true =>
                    cases u2 : y1.H.testBit j with
                    | false => rfl
                    | true =>
                      have n0 : y0.H ≠ 0 := fun z => by rw [z, Nat.zero_testBit] at u1; cases u1
                      have n1 : y1.H ≠ 0 := fun z => by rw [z, Nat.zero_testBit] at u2; cases u2
                      exact absurd (by have := aB n0; have := bB n1; omega) (tw5.ap j j u1 u2)
                rw [z]; rfl)
              clear hk HK tw5 hta htb aB bB
              go_wp2_with fail
              refine CT0.out.mono ?_
              rintro e u5 ⟨rfl, j5, hj5⟩
              have b5 : Below wr.heap.size wr u5 := by rw [hj5]; exact ⟨rfl, rfl, rfl, Nat.le_refl _, fun _ _ => rfl⟩
              have T6 := hide (T5.out.read b5)
              have f2 := T6.out.l.cell 1 _ rfl
              have C6 := hide (CT1.out u5 T6.out)
              clear CT0 CT1 hj5 b5 T5 f0 f1
              go_wp2_with fail
              refine C6.out.mono ?_
              rintro e u6 ⟨rfl, j6, hj6⟩
              have b6 : Below u5.heap.size u5 u6 := by rw [hj6]; exact ⟨rfl, rfl, rfl, Nat.le_refl _, fun _ _ => rfl⟩
              have T7 := hide (T6.out.read b6)
              clear C6 hj6 b6 T6 f2
              by_cases hab : ta = tb'
              · have az := ANDZ.out hab
                have qab : (ta == tb') = true := beq_iff_eq.2 hab
                clear hab ANDZ
                go_wp2_with fail
                go_loopw [19] (fun kv wr3 => ∃ K : Int, kv = .int .u64 K ∧ 0 ≤ K ∧ K ≤ 64 ∧ Hid (Tw N w wr3 b b.L0 b.L1 st5 y0 y1 S5 c5)) (fun kv _ => (64 - intOf kv).toNat)
                case atStart => exact ⟨0, rfl, by omega, by omega, T7⟩
                case round =>
                  clear T7
                  obtain ⟨K, rfl, k0, k1, HK⟩ := hrel
                  by_cases hk : K < 64
                  · cases hbt : y0.H.testBit K.toNat with
                    | true =>
                      have e1 := bit_val h64 K.toNat
                      rw [hbt, if_pos rfl] at e1
                      have n0 : y0.H ≠ 0 := fun z => by rw [z, Nat.zero_testBit] at hbt; cases hbt
                      have eA : ta = (y0.B : Int) := AB.out n0
                      obtain ⟨o1, o2⟩ := HK.out.g0.own _ hbt
                      have CS := hide (t9_state HK.out.t (y0.B + K.toNat) (by omega))
                      rw [show fre st5 (y0.B + K.toNat) = false by unfold fre; rw [o1]; rfl, show ((y0.B + K.toNat : Nat) : Int) = ta + K by omega] at CS
                      generalize inU st5 (y0.B + K.toNat) = s1 at CS
                      generalize rel st5 (y0.B + K.toNat) = s2 at CS
                      have LKS := hide (show ∀ Z, SetM Z b.gm S5 c5 → (Instr.lookup 50 (.map (some b.gm)) (.int .u64 (ta + K)) false).run Tryd.prog Z = .ok (.bool false) Z from fun Z hZ => by
                        have l := hZ.look (y0.B + K.toNat) (by omega)
                        rwa [o2, show ((y0.B + K.toNat : Nat) : Int) = ta + K by omega] at l)
                      have aW : IntKind.u64.wrap (ta + K) = ta + K := by rw [IntKind.wrap_u64]; omega
                      clear hbt n0 eA o1 o2
                      go_wp2_with fail
                      refine CS.out.mono ?_
                      rintro e u7 ⟨rfl, t7, l7⟩
                      have T8 := hide (show Tw N w u7 b b.L0 b.L1 st5 y0 y1 S5 c5 from HK.out.step (x' := y0) (HK.out.tc.tree t7 l7) (left_c l7) HK.out.g0 HK.out.g1 HK.out.ap HK.out.sg HK.out.ch)
                      have lk2 := LKS.out u7 T8.out.m
                      clear CS t7 l7 LKS HK
                      go_wp2_with fail
                      go_roundw
                      case rel => exact ⟨K + 1, by go_num, by omega, by omega, T8⟩
                      case measure => simp [intOf]; omega
                    | false =>
                      have e1 := bit_val h64 K.toNat
                      rw [hbt, if_neg (by decide)] at e1
                      clear hbt
                      go_wp2_with fail
                      go_roundw
                      case rel => exact ⟨K + 1, by go_num, by omega, by omega, HK⟩
                      case measure => simp [intOf]; omega
                  · have dk2 : decide (K < 64) = false := decide_eq_false hk
                    have H9 := hide (show TwE N w wr b from ⟨_, _, _, _, _, HK.out⟩)
                    clear hk HK
                    go_wp2_with fail
                    go_roundw
                    case rel => exact ⟨i + 1, by go_num, by omega, by omega, H9⟩
                    case measure => simp [intOf]; omega
              · have qab : (ta == tb') = false := beq_eq_false_iff_ne.2 hab
                clear hab ANDZ
                go_wp2_with fail
                go_loopw [19] (fun kv wr3 => ∃ K : Int, kv = .int .u64 K ∧ 0 ≤ K ∧ K ≤ 64 ∧ Hid (Tw N w wr3 b b.L0 b.L1 st5 y0 y1 S5 c5)) (fun kv _ => (64 - intOf kv).toNat)
                case atStart => exact ⟨0, rfl, by omega, by omega, T7⟩
                case round =>
                  clear T7
                  obtain ⟨K, rfl, k0, k1, HK⟩ := hrel
                  by_cases hk : K < 64
                  · cases hbt : y0.H.testBit K.toNat with
                    | true =>
                      have e1 := bit_val h64 K.toNat
                      rw [hbt, if_pos rfl] at e1
                      have n0 : y0.H ≠ 0 := fun z => by rw [z, Nat.zero_testBit] at hbt; cases hbt
                      have eA : ta = (y0.B : Int) := AB.out n0
                      obtain ⟨o1, o2⟩ := HK.out.g0.own _ hbt
                      have CS := hide (t9_state HK.out.t (y0.B + K.toNat) (by omega))
                      rw [show fre st5 (y0.B + K.toNat) = false by unfold fre; rw [o1]; rfl, show ((y0.B + K.toNat : Nat) : Int) = ta + K by omega] at CS
                      generalize inU st5 (y0.B + K.toNat) = s1 at CS
                      generalize rel st5 (y0.B + K.toNat) = s2 at CS
                      have LKS := hide (show ∀ Z, SetM Z b.gm S5 c5 → (Instr.lookup 50 (.map (some b.gm)) (.int .u64 (ta + K)) false).run Tryd.prog Z = .ok (.bool false) Z from fun Z hZ => by
                        have l := hZ.look (y0.B + K.toNat) (by omega)
                        rwa [o2, show ((y0.B + K.toNat : Nat) : Int) = ta + K by omega] at l)
                      have aW : IntKind.u64.wrap (ta + K) = ta + K := by rw [IntKind.wrap_u64]; omega
                      clear hbt n0 eA o1 o2
                      go_wp2_with fail
                      refine CS.out.mono ?_
                      rintro e u7 ⟨rfl, t7, l7⟩
                      have T8 := hide (show Tw N w u7 b b.L0 b.L1 st5 y0 y1 S5 c5 from HK.out.step (x' := y0) (HK.out.tc.tree t7 l7) (left_c l7) HK.out.g0 HK.out.g1 HK.out.ap HK.out.sg HK.out.ch)
                      have lk2 := LKS.out u7 T8.out.m
                      clear CS t7 l7 LKS HK
                      go_wp2_with fail
                      go_roundw
                      case rel => exact ⟨K + 1, by go_num, by omega, by omega, T8⟩
                      case measure => simp [intOf]; omega
                    | false =>
                      have e1 := bit_val h64 K.toNat
                      rw [hbt, if_neg (by decide)] at e1
                      clear hbt
                      go_wp2_with fail
                      go_roundw
                      case rel => exact ⟨K + 1, by go_num, by omega, by omega, HK⟩
                      case measure => simp [intOf]; omega
                  · have dk2 : decide (K < 64) = false := decide_eq_false hk
                    have H9 := hide (show TwE N w wr b from ⟨_, _, _, _, _, HK.out⟩)
                    clear hk HK
                    go_wp2_with fail
                    go_roundw
                    case rel => exact ⟨i + 1, by go_num, by omega, by omega, H9⟩
                    case measure => simp [intOf]; omega
    · have hd : decide (i < (len : Int)) = false := decide_eq_false hi
      obtain ⟨st, x, y, S, c, h⟩ := HE.out
      have HI := hide h
      have CR := hide (show Calls Tryd.prog 16 #[.pointer (some ⟨b.tb, 0, none⟩)] wr (fun e w' => e = .returned (.int .u64 (frT st : Nat)) ∧ Below wr.heap.size wr w') from free9_any h.t.tr)
      have c512 : c ≤ 512 := by rw [h.cn]; exact cnt_le _ _ _
      have fle : frT st + c ≤ 512 := by
        rw [frT_chunk (a := 3072) (by decide) h.ch, h.cn]
        exact cnt_both (fun q hq => by unfold fre; rw [h.sg q hq]; rfl)
      obtain ⟨fr, hfr⟩ : ∃ fr : Int, ((frT st : Nat) : Int) = fr := ⟨_, rfl⟩
      have f0 : 0 ≤ fr := by omega
      have f1 : fr ≤ 512 - (c : Int) := by omega
      rw [hfr] at CR
      have LN := hide (fun Z (hZ : SetM Z b.gm S c) => hZ.len 3)
      have c5 : (c : Int) ≤ 512 := by omega
      have df : decide (fr ≤ 512 - (c : Int)) = true := decide_eq_true f1
      clear hi HE h hfr fle c512
      go_wp2_with fail
      refine CR.out.mono ?_
      rintro e u1 ⟨rfl, b1⟩
      have T1 := hide (HI.out.read b1)
      have ln := LN.out u1 T1.out.m
      have CW := hide (awake10 T1.out.t.tab)
      have B3 := hide (And.intro T1.out.t.be T1.out.t.tr.lt.2.2)
      have cw : IntKind.u64.wrap (c : Int) = c := by rw [IntKind.wrap_u64]; omega
      clear CR b1 LN HI
      go_wp2_with fail
      refine CW.out.mono ?_
      rintro e u4 ⟨rfl, b4⟩
      have F0 := hide (FIN.out _ (B3.out.1.trans (b4.mono B3.out.2)))
      clear CW b4 FIN
      go_wp2_with fail
      first | exact F0.out | (go_ret; exact F0.out)
end Go.Proofs.YtnclicdnncgdiaaDoor
