/- VmemPlays: its walk. -/
import Derived.Test.YtlfcnaalkjpgnaaJ31
import Derived.StillTailTactics
namespace Go.Proofs.Ytlfcnaalkjpgnaa
open Go.ChangeShapes Go.WideShapes Go.ChangeAt Go.RowKit Go.Proofs.Sp Go.Maps
set_option linter.unusedVariables false
set_option linter.unusedSimpArgs false

/-- A pair behind i acts. -/
def PI3 (w : World) (m r : Addr) (X : Nat → ActV) (i : Nat) (W : World) : Prop :=
  ∃ S F G, T W m r S F G (i * 1000000000) ∧ S.pgs.length ≤ sumR X i ∧ (∀ b, F b ∨ G b → w.heap.size ≤ b) ∧ Below w.heap.size w W
theorem PI3.below {w W : World} {m r : Addr} {X : Nat → ActV} {i : Nat} (h : PI3 w m r X i W) : Below w.heap.size w W := by obtain ⟨_, _, _, _, _, _, h⟩ := h; exact h
theorem PI3.act {w W : World} {m r : Addr} {X : Nat → ActV} {i len : Nat} (h : PI3 w m r X i W) (hl : Light X len) (hi : i < len) (h120 : len ≤ 120) (ok : (X i).Ok) :
    Calls Try.prog 9 #[.pointer (some m), .pointer (some r), .agg #[.int .i64 (X i).what, .int .u64 ((X i).page : Int), .int .u64 ((X i).n : Int), .int .u64 ((X i).x : Int)]] W fun e W' => e = .returned (.bool true) ∧ PI3 w m r X (i + 1) W' := by
  obtain ⟨S, F, G, t, hp, hf, hb⟩ := h
  refine (act_next t hp hl hi h120 ok).mono ?_
  rintro e W' ⟨rfl, S', F', G', t', hp', kp, hf'⟩
  have hz := hb.size
  exact ⟨rfl, S', F', G', t', hp', fun b hb' => (hf' b hb').elim (hf b) (fun z => by omega), hb.trans (kp.below hz hf)⟩
theorem PI3.same {w W : World} {m r : Addr} {X : Nat → ActV} {i len : Nat} (h : PI3 w m r X i W) (hl : Light X len) (hi : i ≤ len) (h120 : len ≤ 120) :
    Calls Try.prog 10 #[.pointer (some m), .pointer (some r)] W fun e W' => e = .returned (.bool true) ∧ PI3 w m r X i W' := by
  obtain ⟨S, F, G, t, hp, hf, hb⟩ := h
  have hs := sum_le hl hi
  refine (same3 W m r S F G _ t (by unfold K9; omega) (by omega)).mono ?_
  rintro e W' ⟨rfl, F', G', t', kp, hf'⟩
  have hz := hb.size
  exact ⟨rfl, S, F', G', t', hp, fun b hb' => (hf' b hb').elim (hf b) (fun z => by omega), hb.trans (kp.below hz hf)⟩
theorem cell_low {w w' : World} {a : Addr} {v : Value} (h : w.cell? a = some v) (k : Below w.heap.size w w') : w'.cell? a = some v := (World.cell?_of_block (k.block a.block (World.block_lt_of_cell? w a h))).trans h
theorem ActsAt.below {w w' : World} {o : Option Addr} {len cap : Nat} {X : Nat → ActV} (h : ActsAt w o len cap X) (k : Below w.heap.size w w') : ActsAt w' o len cap X :=
  ⟨h.nil, fun ad e i hi => by
    obtain ⟨c0, c1, c2, c3⟩ := h.cells ad e i hi
    exact ⟨cell_low c0 k, cell_low c1 k, cell_low c2 k, cell_low c3 k⟩, h.ok⟩
theorem still_tail3 {P : Program} {id : Nat} {Q : Exit → Act → World → Prop} {a : Act} {w : World} {l : List Oper} (n : Nat) (hm : P.follows .mixedOrders = true) (hB : Region.lexTailB .any l.toArray n = true)
    (h : wpStill P l.toArray w.drew (fun a' => wpList P l.toArray Q (l.drop n) a' w.drew) (l.take n) a) : (Code.region id l.toArray true).wp P Q a w := wp_region_still_tail n hm hB h
set_option maxRecDepth 100000 in
set_option maxHeartbeats 8000000 in
theorem plays3 (p0 r0 f0 o : Option Addr) (lp cp lr cr lf cf len cap : Nat) (X : Nat → ActV) (pl : List Nat) (re : List Bool) (fi : List Nat) (w : World) (hA : ActsAt w o len cap X) (m1 : lp ≤ 9223372036854775807) (m2 : lr ≤ 9223372036854775807) (m3 : lf ≤ 9223372036854775807) (m4 : len ≤ 9223372036854775807)
    (h0 : Sl w (.slice p0 lp cp) (u64s pl)) (h1 : Sl w (.slice r0 lr cr) (bools re)) (h2 : Sl w (.slice f0 lf cf) (u64s fi)) (b0 : ∀ x ∈ pl, x < 18446744073709551616) (b2 : ∀ x ∈ fi, x < 18446744073709551616) (e0 : pl.length = lp) (e1 : re.length = lr) (e2 : fi.length = lf) :
    Calls Try.prog 3 #[.agg #[.slice p0 lp cp, .slice r0 lr cr, .slice f0 lf cf], .slice o len cap] w fun e w' => e = .returned (.bool true) ∧ Below w.heap.size w w' := by
  obtain ⟨w0, hw0⟩ : ∃ w0, w0 = w.alloc (.cells #[.slice p0 lp cp, .slice r0 lr cr, .slice f0 lf cf] 25) := ⟨_, rfl⟩
  have k0 : Below w.heap.size w w0 := by rw [hw0]; exact (Below.refl _ w).alloc (Nat.le_refl _) _
  have hz0 : w0.heap[w.heap.size]? = some (.cells #[.slice p0 lp cp, .slice r0 lr cr, .slice f0 lf cf] 25 (0, 0)) := by rw [hw0]; exact heap_alloc_new _ _
  have hA0 := hA.below k0
  have cH := heavy_core p0 r0 f0 o lp cp lr cr lf cf len cap X w0 hA0 m1 m2 m3 m4
  have HA := hide hA0
  have S0 := hide (h0.low k0)
  have S1 := hide (h1.low k0)
  have S2 := hide (h2.low k0)
  have B0 := hide b0
  have B2 := hide b2
  have EE := hide (And.intro e0 (And.intro e1 e2))
  have l4 : (len : Int) ≤ 9223372036854775807 := by omega
  have AC := hide (show ∀ Y : World, Below w0.heap.size w0 Y → (Y.cell? ⟨w.heap.size, 0, none⟩ = some (.slice p0 lp cp) ∧ Y.cell? ⟨w.heap.size, 1, none⟩ = some (.slice r0 lr cr) ∧ Y.cell? ⟨w.heap.size, 2, none⟩ = some (.slice f0 lf cf)) from fun Y hY => by
    have e : Y.heap[w.heap.size]? = some (.cells #[.slice p0 lp cp, .slice r0 lr cr, .slice f0 lf cf] 25 (0, 0)) := (hY.block _ (Array.getElem?_eq_some_iff.1 hz0).1).trans hz0
    simp [World.cell?, e])
  obtain ⟨R, hR⟩ : ∃ R : Ending → World → Prop, R = fun e w' => e = .returned (.bool true) ∧ Below w.heap.size w w' := ⟨_, rfl⟩
  rw [← hR]
  have FIN := hide (show ∀ Y : World, Below w0.heap.size w0 Y → R (.returned (.bool true)) Y from fun Y hY => by rw [hR]; exact ⟨rfl, k0.trans (hY.mono k0.size)⟩)
  have W0 := hide hw0
  clear hA h0 h1 h2 b0 b2 e0 e1 e2 m1 m2 m3 m4 hR hw0 k0 hz0 hA0
  go_enter Try.func3, Try.ntmps3
  go_wp2_with fail
  go_at_call 5
  rw [← W0.out]
  clear W0
  refine cH.mono ?_
  rintro e w1 ⟨hv, rfl, hq, k1⟩
  have K1 := hide k1
  have HQ := hide hq
  clear cH k1 hq
  cases hv with
  | true =>
    go_wp2_with fail
    exact FIN.out _ K1.out
  | false =>
    have qq := HQ.out rfl
    have QQ := hide qq
    obtain ⟨a0, a1, a2⟩ := AC.out _ K1.out
    clear qq HQ
    go_wp2_with fail
    go_at_call 6
    refine (given_any w1 _ _ _ pl re fi (S0.out.low K1.out) (S1.out.low K1.out) (S2.out.low K1.out) (by have := EE.out; have := QQ.out; omega) (by have := EE.out; have := QQ.out; omega) (by have := EE.out; have := QQ.out; omega)).mono ?_
    rintro e w2 ⟨g0, k0, g1, k1, g2, k2, rfl, gv⟩
    have GV := hide gv
    have K2 := hide (K1.out.trans (gv.be.mono K1.out.size))
    clear gv a0 a1 a2
    go_wp2_with fail
    go_at_call 7
    obtain ⟨w3, hw3⟩ : ∃ w3, w3 = w2.alloc (.cells #[.slice g0 pl.length k0, .slice g1 re.length k1, .slice g2 fi.length k2] 25) := ⟨_, rfl⟩
    have b3 : Below w2.heap.size w2 w3 := by rw [hw3]; exact (Below.refl _ w2).alloc (Nat.le_refl _) _
    have z3 : w3.heap[w2.heap.size]? = some (.cells #[.slice g0 pl.length k0, .slice g1 re.length k1, .slice g2 fi.length k2] 25 (0, 0)) := by rw [hw3]; exact heap_alloc_new _ _
    rw [← hw3]
    have Z3 := hide z3
    have BL3 := hide b3
    clear hw3 b3 z3
    refine (vface.new w3 _ _ _ pl re fi ((sl_of_owns GV.out.o0).low BL3.out) ((sl_of_owns GV.out.o1).low BL3.out) ((sl_of_owns GV.out.o2).low BL3.out) B0.out B2.out (by have := EE.out; have := QQ.out; omega) (by have := EE.out; have := QQ.out; omega) (by have := EE.out; have := QQ.out; omega)).mono ?_
    rintro e w4 ⟨m, F, rfl, v4, kp4, hF4⟩
    have b4 : Below w3.heap.size w3 w4 := kp4.below (Nat.le_refl _) (fun _ f => f.elim)
    have K4 := hide (K2.out.trans ((BL3.out.trans (b4.mono BL3.out.size)).mono K2.out.size))
    have V4 := hide v4
    have KP4 := hide kp4
    have HF4 := hide hF4
    have BL4 := hide b4
    obtain ⟨a0, a1, a2⟩ := AC.out _ K4.out
    clear v4 kp4 hF4 b4
    go_wp2_with fail
    go_at_call 8
    refine (rnew w4 _ _ _ pl re fi (S0.out.low K4.out) (S1.out.low K4.out) (S2.out.low K4.out) B0.out B2.out (by have := EE.out; have := QQ.out; omega) (by have := EE.out; have := QQ.out; omega) (by have := EE.out; have := QQ.out; omega)).mono ?_
    rintro e w5 ⟨r, G, rfl, q5, kp5, hG5⟩
    have b5 : Below w4.heap.size w4 w5 := kp5.below (Nat.le_refl _) (fun _ f => f.elim)
    have kp24 : Kept (fun _ => False) w2 w4 := ⟨KP4.out.os.trans BL3.out.os, KP4.out.tape.trans BL3.out.tape, KP4.out.output.trans BL3.out.output, Nat.le_trans BL3.out.size KP4.out.size, fun b hb _ => (BL4.out.block b (Nat.lt_of_lt_of_le hb BL3.out.size)).trans (BL3.out.block b hb)⟩
    have g5 := Gl.start GV.out V4.out kp24 (fun b hb => Nat.le_trans BL3.out.size (HF4.out b hb)) q5 kp5 hG5
    obtain ⟨BG, hBG⟩ : ∃ BG, w2.heap.size = BG := ⟨_, rfl⟩
    have z5 : w5.heap[BG]? = some (.cells #[.slice g0 pl.length k0, .slice g1 re.length k1, .slice g2 fi.length k2] 25 (0, 0)) := by
      have l3 : w2.heap.size < w3.heap.size := (Array.getElem?_eq_some_iff.1 Z3.out).1
      rw [← hBG]
      exact ((b5.block _ (Nat.lt_of_lt_of_le l3 BL4.out.size)).trans (BL4.out.block _ l3)).trans Z3.out
    have H5 := hide (show Gl w1 w5 w2.heap.size g0 pl.length g1 re.length g2 fi.length m r (Sp.new pl re fi) F G ∧ w5.heap[BG]? = some (.cells #[.slice g0 pl.length k0, .slice g1 re.length k1, .slice g2 fi.length k2] 25 (0, 0)) from ⟨g5, z5⟩)
    have NB := hide hBG
    have n0 : 0 ≤ (pl.length : Int) ∧ (pl.length : Int) ≤ 2000 := by have := EE.out; have := QQ.out; omega
    have n1 : 0 ≤ (re.length : Int) ∧ (re.length : Int) ≤ 2000 := by have := EE.out; have := QQ.out; omega
    have n2 : 0 ≤ (fi.length : Int) ∧ (fi.length : Int) ≤ 2000 := by have := EE.out; have := QQ.out; omega
    obtain ⟨n00, n01⟩ := n0
    obtain ⟨n10, n11⟩ := n1
    obtain ⟨n20, n21⟩ := n2
    simp only [hBG]
    clear q5 kp5 hG5 b5 kp24 g5 z5 a0 a1 a2 hBG
    go_wp2_with fail
    go_loopw [8] (fun v wr => ∃ i : Int, v = .int .i64 i ∧ 0 ≤ i ∧ i ≤ pl.length ∧ Hid (Gl w1 wr w2.heap.size g0 pl.length g1 re.length g2 fi.length m r (Sp.new pl re fi) F G ∧ wr.heap[BG]? = some (.cells #[.slice g0 pl.length k0, .slice g1 re.length k1, .slice g2 fi.length k2] 25 (0, 0)))) (fun v _ => (pl.length - intOf v).toNat)
    case atStart => exact ⟨0, rfl, by omega, by omega, H5⟩
    case round =>
      obtain ⟨i, rfl, i0, i1, HS⟩ := hrel
      have y0 : wr.cell? ⟨BG, 0, none⟩ = some (.slice g0 pl.length k0) := by have e := HS.out.2; simp [World.cell?, e]
      have y1 : wr.cell? ⟨BG, 1, none⟩ = some (.slice g1 re.length k1) := by have e := HS.out.2; simp [World.cell?, e]
      have y2 : wr.cell? ⟨BG, 2, none⟩ = some (.slice g2 fi.length k2) := by have e := HS.out.2; simp [World.cell?, e]
      by_cases hi : i < pl.length
      · obtain ⟨b, v, rfl, c1, c2, pv, c3, c4⟩ := HS.out.1.r0.at (i := i.toNat) (by omega)
        have nb : BG ≠ b := by have := NB.out; omega
        have S6 := hide (show ∀ x : Int, (Gl w1 (wr.setCell ⟨b, i.toNat, none⟩ (.int .u64 x)) w2.heap.size (some ⟨b, 0, none⟩) pl.length g1 re.length g2 fi.length m r (Sp.new pl re fi) F G ∧ (wr.setCell ⟨b, i.toNat, none⟩ (.int .u64 x)).heap[BG]? = some (.cells #[.slice (some ⟨b, 0, none⟩) pl.length k0, .slice g1 re.length k1, .slice g2 fi.length k2] 25 (0, 0))) from fun x => ⟨HS.out.1.set0 i.toNat (.int .u64 x) ⟨x, rfl⟩ c1 c2, (far_set wr b i.toNat BG _ nb).trans HS.out.2⟩)
        clear pv c1 c2
        go_wp2_with fail
        refine ⟨⟨i + 1, rfl, by omega, by omega, hide (S6.out 0)⟩, ?_⟩
        simp [intOf]; omega
      · have hi' : (pl.length : Int) ≤ i := by omega
        have H6 := HS
        clear hi
        go_wp2_with fail
        clear y0 y1 y2 HS
        go_loopw [9] (fun v wr => ∃ i : Int, v = .int .i64 i ∧ 0 ≤ i ∧ i ≤ re.length ∧ Hid (Gl w1 wr w2.heap.size g0 pl.length g1 re.length g2 fi.length m r (Sp.new pl re fi) F G ∧ wr.heap[BG]? = some (.cells #[.slice g0 pl.length k0, .slice g1 re.length k1, .slice g2 fi.length k2] 25 (0, 0)))) (fun v _ => (re.length - intOf v).toNat)
        case atStart => exact ⟨0, rfl, by omega, by omega, H6⟩
        case round =>
          obtain ⟨i, rfl, i0, i1, HS⟩ := hrel
          have y0 : wr.cell? ⟨BG, 0, none⟩ = some (.slice g0 pl.length k0) := by have e := HS.out.2; simp [World.cell?, e]
          have y1 : wr.cell? ⟨BG, 1, none⟩ = some (.slice g1 re.length k1) := by have e := HS.out.2; simp [World.cell?, e]
          have y2 : wr.cell? ⟨BG, 2, none⟩ = some (.slice g2 fi.length k2) := by have e := HS.out.2; simp [World.cell?, e]
          by_cases hi : i < re.length
          · obtain ⟨b, v, rfl, c1, c2, ⟨x0, rfl⟩, c3, c4⟩ := HS.out.1.r1.at (i := i.toNat) (by omega)
            have nb : BG ≠ b := by have := NB.out; omega
            have S6 := hide (show ∀ x : Bool, (Gl w1 (wr.setCell ⟨b, i.toNat, none⟩ (.bool x)) w2.heap.size g0 pl.length (some ⟨b, 0, none⟩) re.length g2 fi.length m r (Sp.new pl re fi) F G ∧ (wr.setCell ⟨b, i.toNat, none⟩ (.bool x)).heap[BG]? = some (.cells #[.slice g0 pl.length k0, .slice (some ⟨b, 0, none⟩) re.length k1, .slice g2 fi.length k2] 25 (0, 0))) from fun x => ⟨HS.out.1.set1 i.toNat (.bool x) ⟨x, rfl⟩ c1 c2, (far_set wr b i.toNat BG _ nb).trans HS.out.2⟩)
            have S7 := hide (show ∀ x : Bool, (Gl w1 (wr.drew.setCell ⟨b, i.toNat, none⟩ (.bool x)) w2.heap.size g0 pl.length (some ⟨b, 0, none⟩) re.length g2 fi.length m r (Sp.new pl re fi) F G ∧ (wr.drew.setCell ⟨b, i.toNat, none⟩ (.bool x)).heap[BG]? = some (.cells #[.slice g0 pl.length k0, .slice (some ⟨b, 0, none⟩) re.length k1, .slice g2 fi.length k2] 25 (0, 0))) from fun x => ⟨HS.out.1.drew.set1 i.toNat (.bool x) ⟨x, rfl⟩ c1 c2, (far_set wr.drew b i.toNat BG _ nb).trans HS.out.2⟩)
            clear c1 c2 S6
            go_wp2_with fail
            refine still_tail3 10 (by kernel_rfl) (by kernel_rfl) ?_
            simp only [List.take_succ_cons, List.take_zero, List.drop_succ_cons, List.drop_zero]
            repeat still_step
            refine wpStill_nil ?_
            go_wp2_with fail
            refine ⟨⟨i + 1, rfl, by omega, by omega, hide (S7.out _)⟩, ?_⟩
            simp [intOf]; omega
          · have hi' : (re.length : Int) ≤ i := by omega
            have H7 := HS
            clear hi
            go_wp2_with fail
            clear y0 y1 y2 HS
            go_loopw [10] (fun v wr => ∃ i : Int, v = .int .i64 i ∧ 0 ≤ i ∧ i ≤ fi.length ∧ Hid (Gl w1 wr w2.heap.size g0 pl.length g1 re.length g2 fi.length m r (Sp.new pl re fi) F G ∧ wr.heap[BG]? = some (.cells #[.slice g0 pl.length k0, .slice g1 re.length k1, .slice g2 fi.length k2] 25 (0, 0)))) (fun v _ => (fi.length - intOf v).toNat)
            case atStart => exact ⟨0, rfl, by omega, by omega, H7⟩
            case round =>
              obtain ⟨i, rfl, i0, i1, HS⟩ := hrel
              have y0 : wr.cell? ⟨BG, 0, none⟩ = some (.slice g0 pl.length k0) := by have e := HS.out.2; simp [World.cell?, e]
              have y1 : wr.cell? ⟨BG, 1, none⟩ = some (.slice g1 re.length k1) := by have e := HS.out.2; simp [World.cell?, e]
              have y2 : wr.cell? ⟨BG, 2, none⟩ = some (.slice g2 fi.length k2) := by have e := HS.out.2; simp [World.cell?, e]
              by_cases hi : i < fi.length
              · obtain ⟨b, v, rfl, c1, c2, ⟨x0, rfl⟩, c3, c4⟩ := HS.out.1.r2.at (i := i.toNat) (by omega)
                have nb : BG ≠ b := by have := NB.out; omega
                have S6 := hide (show ∀ x : Int, (Gl w1 (wr.setCell ⟨b, i.toNat, none⟩ (.int .u64 x)) w2.heap.size g0 pl.length g1 re.length (some ⟨b, 0, none⟩) fi.length m r (Sp.new pl re fi) F G ∧ (wr.setCell ⟨b, i.toNat, none⟩ (.int .u64 x)).heap[BG]? = some (.cells #[.slice g0 pl.length k0, .slice g1 re.length k1, .slice (some ⟨b, 0, none⟩) fi.length k2] 25 (0, 0))) from fun x => ⟨HS.out.1.set2 i.toNat (.int .u64 x) ⟨x, rfl⟩ c1 c2, (far_set wr b i.toNat BG _ nb).trans HS.out.2⟩)
                have S7 := hide (show ∀ x : Int, (Gl w1 (wr.drew.setCell ⟨b, i.toNat, none⟩ (.int .u64 x)) w2.heap.size g0 pl.length g1 re.length (some ⟨b, 0, none⟩) fi.length m r (Sp.new pl re fi) F G ∧ (wr.drew.setCell ⟨b, i.toNat, none⟩ (.int .u64 x)).heap[BG]? = some (.cells #[.slice g0 pl.length k0, .slice g1 re.length k1, .slice (some ⟨b, 0, none⟩) fi.length k2] 25 (0, 0))) from fun x => ⟨HS.out.1.drew.set2 i.toNat (.int .u64 x) ⟨x, rfl⟩ c1 c2, (far_set wr.drew b i.toNat BG _ nb).trans HS.out.2⟩)
                clear c1 c2 S6
                go_wp2_with fail
                refine still_tail3 10 (by kernel_rfl) (by kernel_rfl) ?_
                simp only [List.take_succ_cons, List.take_zero, List.drop_succ_cons, List.drop_zero]
                repeat still_step
                refine wpStill_nil ?_
                go_wp2_with fail
                refine ⟨⟨i + 1, rfl, by omega, by omega, hide (S7.out _)⟩, ?_⟩
                simp [intOf]; omega
              · have hi' : (fi.length : Int) ≤ i := by omega
                have H8 := HS
                clear hi
                go_wp2_with fail
                clear y0 y1 y2 HS
                have P9 := hide (show PI3 w0 m r X 0 wr from ⟨_, F, G, by rw [Nat.zero_mul]; exact H8.out.1.t, Nat.zero_le _, fun b hb => by have h1 := H8.out.1.fg b hb; have h2 := K2.out.size; omega, K1.out.trans (H8.out.1.be.mono K1.out.size)⟩)
                have ql : len ≤ 120 := QQ.out.1
                have ql' : (len : Int) ≤ 120 := by omega
                have QL := hide QQ.out.2.2.2.2
                clear H8
                go_loopw [11] (fun v wr => ∃ i : Int, v = .int .i64 i ∧ 0 ≤ i ∧ i ≤ len ∧ Hid (PI3 w0 m r X i.toNat wr)) (fun v _ => (len - intOf v).toNat)
                case atStart => exact ⟨0, rfl, by omega, by omega, P9⟩
                case round =>
                  obtain ⟨i, rfl, i0, i1, HS⟩ := hrel
                  by_cases hi : i < len
                  · obtain ⟨b, off, rfl, hb, hcl⟩ := HA.out.at (i := i.toNat) (by omega)
                    obtain ⟨c0, c1, c2, c3⟩ := hcl i.toNat (by omega)
                    have d0 := cell_low c0 HS.out.below
                    have d1 := cell_low c1 HS.out.below
                    have d2 := cell_low c2 HS.out.below
                    have d3 := cell_low c3 HS.out.below
                    have OK := hide (HA.out.ok i.toNat)
                    have cA := HS.out.act QL.out (by omega) ql OK.out
                    have CA := hide cA
                    clear hcl hb c0 c1 c2 c3 cA
                    go_wp2_with fail
                    go_at_call 9
                    refine CA.out.mono ?_
                    rintro e w9 ⟨rfl, h9⟩
                    have H9 := hide (show PI3 w0 m r X (i + 1).toNat w9 by rw [show (i + 1).toNat = i.toNat + 1 by omega]; exact h9)
                    clear h9 d0 d1 d2 d3
                    go_wp2_with fail
                    refine ⟨⟨i + 1, rfl, by omega, by omega, H9⟩, ?_⟩
                    simp [intOf]; omega
                  · have hi' : (len : Int) ≤ i := by omega
                    clear hi
                    go_wp2_with fail
                    go_at_call 10
                    refine (HS.out.same QL.out (by omega) ql).mono ?_
                    rintro e w9 ⟨rfl, h9⟩
                    have H9 := hide h9
                    clear h9
                    go_wp2_with fail
                    go_at_call 11
                    refine (awake_core vface w9).mono ?_
                    rintro e wd ⟨rfl, kd⟩
                    have HD := hide (H9.out.below.trans (kd.mono H9.out.below.size))
                    clear kd
                    go_wp2_with fail
                    exact FIN.out _ HD.out
end Go.Proofs.Ytlfcnaalkjpgnaa
