/- ChunkRelease: released again and again, all free pages come to be released, each once, and no used one. -/
import Derived.Test.YtgjgcdbhppaigaaDoorSa
namespace Go.Proofs.YtgjgcdbhppaigaaDoor
open Go.ChangeShapes Go.WideShapes Go.ChangeAt Go.RowKit Go.Proofs.Bt Go.Shelf
set_option linter.unusedVariables false
set_option linter.unusedSimpArgs false

theorem cnt_more (g : Nat → Bool) (a m : Nat) (h : Clr g a m) (hm : a + m ≤ 512) : cnt (setF g a m) 0 512 = cnt g 0 512 + m := by
  have e1 : (512 : Nat) = a + (m + (512 - a - m)) := by omega
  have sp3 : ∀ f : Nat → Bool, cnt f 0 512 = cnt f 0 a + (cnt f a m + cnt f (a + m) (512 - a - m)) := fun f => by
    rw [show cnt f 0 512 = cnt f 0 (a + (m + (512 - a - m))) by rw [← e1], cnt_add, cnt_add, Nat.zero_add]
  rw [sp3, sp3 g]
  have h1 : cnt (setF g a m) 0 a = cnt g 0 a := cnt_congr fun k hk => by rw [setF_at]; unfold sp; simp; omega
  have h2 : cnt (setF g a m) a m = m := cnt_full.2 fun k hk => by rw [setF_at]; unfold sp; simp; omega
  have h3 : cnt g a m = 0 := cnt_none h
  have h4 : cnt (setF g a m) (a + m) (512 - a - m) = cnt g (a + m) (512 - a - m) := cnt_congr fun k hk => by rw [setF_at]; unfold sp; simp; omega
  omega
/-- While the acts are done. -/
def RlI (w : World) (N : Nat) (W : World) : Prop := ∃ u g, S1 w W N u g ∧ Apart u g
/-- While pages are released: L is where the last ones began. -/
structure RlS (w : World) (N U : Nat) (u : Nat → Bool) (gu : Nat → Nat) (L : Int) (W : World) : Prop where
  s : ∃ g, S1 w W N u g ∧ Apart u g ∧ ∀ c : Nat, L ≤ c → c < 512 → busy u g c = true
  us : RowAt W U 0 gu
  bits : ∀ i, i < 512 → bitW gu i = u i
  new : w.heap.size ≤ U
  ne : U ≠ N
theorem RlS.next {w W W' : World} {N U : Nat} {u : Nat → Bool} {gu : Nat → Nat} {L : Int} (h : RlS w N U u gu L W) (k : Below W.heap.size W W') : RlS w N U u gu L W' := by
  obtain ⟨⟨g, s, a, f⟩, us, bi, nw, ne⟩ := h
  exact ⟨⟨g, s.next k, a, f⟩, us.below k, bi, nw, ne⟩
/-- What one more Scavenge tells. -/
theorem scav_more {u g : Nat → Bool} {each L I M : Int} (hL : L ≤ 512) (f : ∀ c : Nat, L ≤ c → c < 512 → busy u g c = true) (p : LastP (busy u g) each 512 I M) (h1 : 1 ≤ M) :
    0 ≤ I ∧ M ≤ each ∧ I + M ≤ L ∧ cnt u I.toNat M.toNat = 0 ∧ cnt (setF g I.toNat M.toNat) 0 512 = cnt g 0 512 + M.toNat ∧ (∀ c : Nat, I ≤ c → c < 512 → busy u (setF g I.toNat M.toNat) c = true) := by
  rcases p with ⟨rfl, rfl, _⟩ | ⟨_, a, m, rfl, rfl, h2, h3, h4, h5, h6, h7⟩
  · omega
  · have hm : a + m ≤ 512 := by simpa using h4
    have hLm : (a : Int) + m ≤ L := by
      by_cases z : (a : Int) + m ≤ L
      · exact z
      · have := f (a + m - 1) (by omega) (by omega)
        rw [show a + m - 1 = a + (m - 1) by omega, h5 (m - 1) (by omega)] at this
        cases this
    refine ⟨by omega, h3, hLm, ?_, ?_, fun c c1 c2 => ?_⟩
    · refine cnt_none fun k hk => ?_
      have := h5 k (by simpa using hk)
      unfold busy at this
      simp only [Bool.or_eq_false_iff] at this
      simpa using this.1
    · have := cnt_more g a m (fun k hk => by
        have := h5 k hk
        unfold busy at this
        simp only [Bool.or_eq_false_iff] at this
        exact this.2) hm
      simpa using this
    · unfold busy
      rw [setF_at]
      by_cases e : c < a + m
      · have : sp (a : Int).toNat ((a : Int).toNat + (m : Int).toNat) c = true := (sp_iff _ _ _).2 (by simp; omega)
        rw [this]; simp
      · have := h6 c (by omega) (by simpa using c2)
        unfold busy at this
        cases hu : u c with
        | true => rfl
        | false => rw [hu] at this; simp at this; rw [this]; rfl
theorem scav_done {u g : Nat → Bool} {each I M : Int} (he : 1 ≤ each) (a : Apart u g) (p : LastP (busy u g) each 512 I M) (h : M < 1) :
    I = 0 ∧ M = 0 ∧ ∀ c, c < 512 → setF g I.toNat M.toNat c = !u c := by
  rcases p with ⟨rfl, rfl, h1⟩ | ⟨_, b, m, rfl, rfl, h2, _⟩
  · refine ⟨rfl, rfl, fun c hc => ?_⟩
    rcases h1 with h1 | h1
    · omega
    · have := h1 c (by simpa using hc)
      unfold busy at this
      rw [setF_at]
      have hs : sp (0 : Int).toNat ((0 : Int).toNat + (0 : Int).toNat) c = false := by unfold sp; simp
      rw [hs, Bool.or_false]
      cases hu : u c with
      | true => rw [a c hc hu]; rfl
      | false => rw [hu] at this; simpa using this
  · omega
set_option maxRecDepth 100000 in
set_option maxHeartbeats 4000000 in
theorem release_any (o : Option Addr) (len cap : Nat) (each : Int) (e0 : -9223372036854775808 ≤ each) (e1 : each ≤ 9223372036854775807) (w : World) (hA : len ≤ maxLen ∧ len ≤ cap ∧ ∃ X, ActsAt w o len cap X) (ht : TabW w) :
    Calls Tryd.prog 5 #[.slice o len cap, .int .i64 each] w fun e w' => e = .returned (.bool true) ∧ Below w.heap.size w w' := by
  obtain ⟨hm, hc, X, hX⟩ := hA
  have cN := s1_new w ht
  have HT := hide ht
  have fin := Below.refl w.heap.size w
  by_cases hl : 300 < len
  · have hl' : (300 : Int) < (len : Int) := by omega
    clear cN hc hX hl hm ht
    go_enter Tryd.func5, Tryd.ntmps5
    go_wp2
    go_ret
    exact ⟨rfl, fin⟩
  have hl' : (len : Int) ≤ 300 := by omega
  have hl2 : 0 ≤ (len : Int) := by omega
  by_cases he : each < 1
  · clear cN hc hX hl hm ht
    go_enter Tryd.func5, Tryd.ntmps5
    go_wp2
    go_ret
    exact ⟨rfl, fin⟩
  have he' : 1 ≤ each := by omega
  by_cases hf : 600 < each
  · clear cN hc hX hl hm ht he
    go_enter Tryd.func5, Tryd.ntmps5
    go_wp2
    go_ret
    exact ⟨rfl, fin⟩
  have hf' : each ≤ 600 := by omega
  obtain ⟨N, hN⟩ : ∃ N, w.heap.size = N := ⟨_, rfl⟩
  rw [hN] at cN
  have HN := hide hN
  have HX := hide hX
  obtain ⟨R, hR⟩ : ∃ R : Ending → World → Prop, R = fun e w' => e = .returned (.bool true) ∧ Below w.heap.size w w' := ⟨_, rfl⟩
  rw [← hR]
  have HR := hide hR
  clear hN ht hX hl hc hm hR he hf fin e0 e1
  go_enter Tryd.func5, Tryd.ntmps5
  go_wp2_with fail
  go_at_call 8
  refine cN.mono ?_
  rintro e w1 ⟨rfl, s1⟩
  have H1 := hide (show RlI w N w1 from ⟨_, _, s1, apart_new⟩)
  clear s1 cN
  go_wp2_with fail
  go_loopw [6] (fun iv wr => ∃ k : Int, iv = .int .i64 k ∧ 0 ≤ k ∧ k ≤ len ∧ Hid (RlI w N wr)) (fun iv _ => (len - intOf iv).toNat)
  case atStart => exact ⟨0, rfl, by omega, by omega, H1⟩
  case round =>
    obtain ⟨k, rfl, k0, k1, HS⟩ := hrel
    by_cases hk : k < len
    · obtain ⟨b, off, rfl, hb, hcl⟩ := HX.out.at (i := k.toNat) (by omega)
      obtain ⟨c0, c1, c2⟩ := hcl k.toNat (by omega)
      obtain ⟨u, g, s, ap⟩ := HS.out
      have be := s.be.block b hb
      have d0 := (cell_block be _).trans c0
      have d1 := (cell_block be _).trans c1
      have d2 := (cell_block be _).trans c2
      have ok := HX.out.ok k.toNat
      obtain ⟨A, hA⟩ : ∃ A, X k.toNat = A := ⟨_, rfl⟩
      rw [hA] at d0 d1 d2 ok
      have OK := hide ok
      have S := hide s
      have AP := hide ap
      have BE := hide (And.intro hb be)
      have CC0 := And.intro c1 c2
      rw [hA] at CC0
      obtain ⟨aw, ai, an⟩ := A
      simp only at d0 d1 d2 CC0
      have CC := hide CC0
      clear CC0
      clear hcl hb c0 c1 c2 be hA ok s ap
      by_cases a1 : aw = 1
      · subst a1
        clear HS
        go_wp2_with fail
        have SD := hide (S.out.next (drew_below wr))
        go_region_held3 (fun w' => w'.cell? ⟨b, off + k.toNat * 3 + 1, none⟩ = some (.int .i64 ai) ∧ w'.cell? ⟨b, off + k.toNat * 3 + 2, none⟩ = some (.int .i64 an)) (go_keep) (first
          | (go_at_call 13; refine (s1_take SD.out ai an OK.out.b1).mono ?_; rintro e w3 ⟨rfl, s3⟩; have m1 := (cell_block (s3.be.block b BE.out.1) (off + k.toNat * 3 + 1)).trans CC.out.1; have m2 := (cell_block (s3.be.block b BE.out.1) (off + k.toNat * 3 + 2)).trans CC.out.2; have H3 := hide (show RlI w N w3 from ⟨_, _, s3, apart_take AP.out ai an⟩); clear s3))
        clear d0 d1 d2
        go_wp2_with fail
        refine ⟨⟨k + 1, rfl, by omega, by omega, H3⟩, ?_⟩
        simp [intOf]; omega
      by_cases a2 : aw = 2
      · subst a2
        clear HS a1
        go_wp2_with fail
        have SD := hide (S.out.next (drew_below wr))
        go_region_held3 (fun w' => w'.cell? ⟨b, off + k.toNat * 3 + 1, none⟩ = some (.int .i64 ai) ∧ w'.cell? ⟨b, off + k.toNat * 3 + 2, none⟩ = some (.int .i64 an)) (go_keep) (first
          | (go_at_call 14; refine (s1_give SD.out ai an OK.out.b1).mono ?_; rintro e w3 ⟨rfl, s3⟩; have m1 := (cell_block (s3.be.block b BE.out.1) (off + k.toNat * 3 + 1)).trans CC.out.1; have m2 := (cell_block (s3.be.block b BE.out.1) (off + k.toNat * 3 + 2)).trans CC.out.2; have H3 := hide (show RlI w N w3 from ⟨_, _, s3, apart_give AP.out ai an false⟩); clear s3))
        clear d0 d1 d2
        go_wp2_with fail
        refine ⟨⟨k + 1, rfl, by omega, by omega, H3⟩, ?_⟩
        simp [intOf]; omega
      by_cases a3 : aw = 3
      · subst a3
        clear HS a1 a2
        go_wp2_with fail
        have SD := hide (S.out.next (drew_below wr))
        go_region_held3 (fun w' => w'.cell? ⟨b, off + k.toNat * 3 + 1, none⟩ = some (.int .i64 ai) ∧ w'.cell? ⟨b, off + k.toNat * 3 + 2, none⟩ = some (.int .i64 an)) (go_keep) (first
          | (go_at_call 15; refine (s1_back SD.out ai an OK.out.b1).mono ?_; rintro e w3 ⟨rfl, s3⟩; have m1 := (cell_block (s3.be.block b BE.out.1) (off + k.toNat * 3 + 1)).trans CC.out.1; have m2 := (cell_block (s3.be.block b BE.out.1) (off + k.toNat * 3 + 2)).trans CC.out.2; have H3 := hide (show RlI w N w3 from ⟨_, _, s3, apart_give AP.out ai an true⟩); clear s3))
        clear d0 d1 d2
        go_wp2_with fail
        refine ⟨⟨k + 1, rfl, by omega, by omega, H3⟩, ?_⟩
        simp [intOf]; omega
      have q1 : (aw == 1) = false := by simpa using a1
      have q2 : (aw == 2) = false := by simpa using a2
      have q3 : (aw == 3) = false := by simpa using a3
      clear a1 a2 a3
      go_wp2_with fail
      refine ⟨⟨k + 1, rfl, by omega, by omega, HS⟩, ?_⟩
      simp [intOf]; omega
    · have hk' : (len : Int) ≤ k := by omega
      clear hk
      obtain ⟨u, g, s, ap⟩ := HS.out
      have S := hide s
      have AP := hide ap
      clear s ap
      go_wp2_with fail
      go_at_call 16
      refine (s1_rows S.out).mono ?_
      rintro e w3 ⟨gu, gg, rfl, fu, fg, bu, bg, s3⟩
      have FU := hide fu
      have BU := hide bu
      have S3 := hide s3
      clear fu fg bu bg s3 S HS
      obtain ⟨w4, hw4⟩ : ∃ w4, w4 = (w3.alloc (.cells (cells8 gu) 41)).alloc (.cells (cells8 gg) 41) := ⟨_, rfl⟩
      have k4 : Below w3.heap.size w3 w4 := by rw [hw4]; exact ((Below.refl _ w3).alloc (Nat.le_refl _) _).alloc (by simp) _
      have z4 : w4.heap[w3.heap.size]? = some (.cells (cells8 gu) 41 (0, 0)) := by rw [hw4, alloc_at, if_neg (by simp), alloc_at, if_pos rfl]
      have h4 : RlS w N w3.heap.size u gu 512 w4 := ⟨⟨g, S3.out.next k4, AP.out, fun c h1 h2 => by omega⟩, new8 z4 FU.out, BU.out, S3.out.be.size, by have := S3.out.ch.lt; omega⟩
      have H4 := hide h4
      unfold cells8 at hw4
      have W4 := hide hw4
      clear k4 z4 h4 hw4 AP S3
      unfold words cells8
      go_wp2_with fail
      rw [← W4.out]
      clear W4
      obtain ⟨U, hU⟩ : ∃ U, w3.heap.size = U := ⟨_, rfl⟩
      simp only [hU] at H4 ⊢
      clear hU
      go_loopw [9] (fun lv wq => ∃ L : Int, lv = .int .i64 L ∧ 0 ≤ L ∧ L ≤ 512 ∧ Hid (RlS w N U u gu L wq)) (fun lv _ => (intOf lv).toNat)
      case atStart => exact ⟨512, rfl, by omega, by omega, H4⟩
      case round =>
        obtain ⟨L, rfl, L0, L1, HL⟩ := hrel
        obtain ⟨g1, s1, ap1, full⟩ := HL.out.s
        have S1 := hide s1
        have A1 := hide ap1
        have FL := hide full
        clear s1 ap1 full
        go_wp2_with fail
        go_at_call 17
        refine (released_any N u g1 _ S1.out.ch).mono ?_
        rintro e w5 ⟨rfl, k5⟩
        have hcl := cnt_le g1 0 512
        obtain ⟨C, hC⟩ : ∃ C : Int, ((cnt g1 0 512 : Nat) : Int) = C := ⟨_, rfl⟩
        rw [hC]
        have C0 : 0 ≤ C := by omega
        have C1 : C ≤ 512 := by omega
        have HC := hide hC
        have S5 := hide (S1.out.next k5)
        have U5 := hide (HL.out.us.below k5)
        clear k5 hC hcl
        go_wp2_with fail
        go_at_call 18
        refine (scav_any N u g1 w5 S5.out.ch S5.out.tab S5.out.ne each (by omega)).mono ?_
        rintro e w6 ⟨I, M, rfl, p6, c6, k6⟩
        have S6 := hide (S5.out.put k6 c6)
        have A6 := hide (apart_scav A1.out p6)
        have U6 := hide (U5.out.kept k6 HL.out.ne)
        by_cases hM : 1 ≤ M
        · obtain ⟨m1, m2, m3, m4, m5, m6⟩ := scav_more L1 FL.out p6 hM
          have M0 : (M == 0) = false := by simp; omega
          have cU := count_int U 0 u w6 ⟨gu, U6.out, HL.out.bits⟩ I M m1 (by omega) (by omega)
          rw [m4] at cU
          have CU := hide cU
          have M5 := hide m5
          have M6 := hide m6
          clear p6 c6 k6 m4 m5 m6 cU FL
          go_wp2_with fail
          go_at_call 19
          refine CU.out.mono ?_
          rintro e w7 ⟨rfl, k7⟩
          have S7 := hide (S6.out.next k7)
          have U7 := hide (U6.out.below k7)
          clear k7 CU
          go_wp2_with fail
          go_at_call 17
          refine (released_any N u _ w7 S7.out.ch).mono ?_
          rw [M5.out, show ((cnt g1 0 512 + M.toNat : Nat) : Int) = C + M by have := HC.out; omega]
          rintro e w8 ⟨rfl, k8⟩
          have H8 := hide (show RlS w N U u gu I w8 from ⟨⟨_, S7.out.next k8, A6.out, M6.out⟩, U7.out.below k8, HL.out.bits, HL.out.new, HL.out.ne⟩)
          clear k8
          go_wp2_with fail
          refine ⟨⟨I, rfl, by omega, by omega, H8⟩, ?_⟩
          simp [intOf]; omega
        · obtain ⟨rfl, rfl, hfull⟩ := scav_done he' A1.out p6 (by omega)
          have S7 := hide (S6.out.congr (u' := u) (g' := fun c => !u c) (fun _ _ => rfl) hfull)
          have HUU := hide HL.out
          clear p6 c6 k6 hM hfull FL A6 S6
          go_wp2_with fail
          go_at_call 16
          refine (rows_any N u _ w6 S7.out.ch).mono ?_
          rintro e w8 ⟨gn, gz, rfl, fn, fz, bn, bz, k8⟩
          have eN : cells8 gn = cells8 gu := words_eq fn FU.out bn HUU.out.bits
          have FZ := hide fz
          have BZ := hide bz
          have S8 := hide (S7.out.next k8)
          have U8 := hide (U6.out.below k8)
          unfold words
          rw [eN]
          clear fn fz bn bz k8 eN gn
          obtain ⟨u0, u1, u2, u3, u4, u5, u6, u7⟩ := U8.out.all0
          have lU := U8.out.lt
          obtain ⟨w9, hw9⟩ : ∃ w9, w9 = (w8.alloc (.cells (cells8 gu) 41)).alloc (.cells (cells8 gz) 41) := ⟨_, rfl⟩
          have k9 : Below w8.heap.size w8 w9 := by rw [hw9]; exact ((Below.refl _ w8).alloc (Nat.le_refl _) _).alloc (by simp) _
          have z9 : w9.heap[w8.heap.size + 1]? = some (.cells (cells8 gz) 41 (0, 0)) := by rw [hw9, alloc_at, if_pos (by simp)]
          have G9 := hide (new8 z9 FZ.out)
          have S9 := hide (S8.out.next k9)
          have U9 := hide (U8.out.below k9)
          have q0 := fun w => eqRow (gu 0) (gu 1) (gu 2) (gu 3) (gu 4) (gu 5) (gu 6) (gu 7) w
          unfold cells8 at hw9
          have W9 := hide hw9
          clear k9 z9 hw9
          unfold cells8
          go_wp2_with (simp only [q0])
          go_at_call 17
          rw [← W9.out]
          clear W9 q0 u0 u1 u2 u3 u4 u5 u6 u7 lU S8 U8 S7
          obtain ⟨G, hG⟩ : ∃ G, w8.heap.size + 1 = G := ⟨_, rfl⟩
          simp only [hG] at G9 ⊢
          clear hG
          refine (released_any N u _ w9 S9.out.ch).mono ?_
          have hcn := cnt_not u 0 512
          have hcl := cnt_le u 0 512
          rw [show ((cnt (fun k => !u k) 0 512 : Nat) : Int) = 512 - ((cnt u 0 512 : Nat) : Int) by omega]
          rintro e wa ⟨rfl, ka⟩
          have Sa := hide (S9.out.next ka)
          have Ua := hide (U9.out.below ka)
          have Ga := hide (G9.out.below ka)
          clear ka hcn hcl
          go_wp2_with fail
          go_at_call 20
          refine (free_any N u _ wa Sa.out.ch).mono ?_
          rintro e wb ⟨rfl, kb⟩
          have Sb := hide (Sa.out.next kb)
          have Ub := hide (Ua.out.below kb)
          have Gb := hide (Ga.out.below kb)
          clear kb
          go_wp2_with fail
          go_loop [15] (fun jv => ∃ j : Int, jv = .int .i64 j ∧ 0 ≤ j ∧ j ≤ 512) (fun jv => (512 - intOf jv).toNat)
          case atStart => exact ⟨0, rfl, by omega, by omega⟩
          case round =>
            obtain ⟨j, rfl, j0, j1⟩ := hrel
            by_cases hj : j < 512
            · have cG := get_in G 0 gz wb Gb.out j j0 hj
              have cU := get_in U 0 gu wb Ub.out j j0 hj
              rw [BZ.out j.toNat (by omega)] at cG
              rw [HUU.out.bits j.toNat (by omega)] at cU
              have CG := hide cG
              have CU := hide cU
              clear cG cU
              go_wp2_with fail
              go_at_call 21
              refine CG.out.mono ?_
              rintro e w' ⟨rfl, hw'⟩; rw [hw']; clear hw' w'
              go_wp2_with fail
              go_at_call 21
              refine CU.out.mono ?_
              rintro e w' ⟨rfl, hw'⟩; rw [hw']; clear hw' w'
              cases hu : u j.toNat with
              | true =>
                clear hu
                go_wp2_with fail
                refine ⟨⟨j + 1, rfl, by omega, by omega⟩, ?_⟩
                simp [intOf]; omega
              | false =>
                clear hu
                go_wp2_with fail
                refine ⟨⟨j + 1, rfl, by omega, by omega⟩, ?_⟩
                simp [intOf]; omega
            · have hj' : 512 ≤ j := by omega
              clear hj
              go_wp2_with fail
              go_at_call 12
              refine (awake_any wb Sb.out.tab).mono ?_
              rintro e wd ⟨rfl, kd⟩
              have HD := hide (Sb.out.be.trans (kd.mono Sb.out.be.size))
              clear kd
              go_wp2_with fail
              rw [HR.out]
              exact ⟨rfl, HD.out⟩
end Go.Proofs.YtgjgcdbhppaigaaDoor
