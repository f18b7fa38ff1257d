/- VmemApart: its walk. -/
import Derived.Test.YtlfcnaalkjpgnaaKArg
namespace Go.Proofs.Ytlfcnaalkjpgnaa
open Go.ChangeShapes Go.WideShapes Go.ChangeAt Go.RowKit Go.Proofs.Sp Go.Maps
set_option linter.unusedVariables false
set_option linter.unusedSimpArgs false

/-- Truths that come in. -/
structure BoolsAt (w : World) (o : Option Addr) (len cap : Nat) (X : Nat → Bool) : Prop where
  nil : o = none → len = 0
  cells : ∀ ad, o = some ad → ∀ i, i < len → w.cell? (ad.add i) = some (.bool (X i))
theorem BoolsAt.at {w : World} {o : Option Addr} {len cap : Nat} {X : Nat → Bool} (h : BoolsAt w o len cap X) {i : Nat} (hi : i < len) : ∃ b off, o = some ⟨b, off, none⟩ ∧ w.cell? ⟨b, off + i, none⟩ = some (.bool (X i)) := by
  cases ho : o with
  | none => have := h.nil ho; omega
  | some a =>
    obtain ⟨b, off, sp⟩ := a
    have c0 := h.cells _ ho 0 (by omega)
    have hs : sp = none := act_spot (by simpa [Addr.add] using c0)
    subst hs
    refine ⟨b, off, rfl, ?_⟩
    have := h.cells _ ho i hi
    rwa [addr_add0] at this
theorem BoolsAt.below {w w' : World} {o : Option Addr} {len cap : Nat} {X : Nat → Bool} (h : BoolsAt w o len cap X) (k : Below w.heap.size w w') : BoolsAt w' o len cap X := ⟨h.nil, fun ad e i hi => cell_low (h.cells ad e i hi) k⟩
theorem bools_of {H : Type} {enc : TypeId × Value → H} {W : World} {o : Option Addr} {len cap : Nat} {d : DataW H} {p : List MemPlace} (h : DataW.Trod enc Try.prog W 0 (fun _ => true) true 23 (.slice o len cap) d p) : len ≤ maxLen ∧ ∃ X, BoolsAt W o len cap X := by
  obtain ⟨fuel, hf⟩ := h
  rcases Go.Deep.open_slice1 Try.underlying23 cells1 hf with ⟨hcs, hx⟩ | ⟨a, len', cap', m, n, V, D, Pl, hcs, _, hl, hm, hme, hx, hc⟩
  · simp [Value.cells] at hcs
    obtain ⟨rfl, rfl, rfl⟩ := hcs
    exact ⟨by decide, fun _ => false, ⟨fun _ => rfl, fun _ z => by (cases z)⟩⟩
  · simp [Value.cells] at hcs
    obtain ⟨rfl, rfl, rfl⟩ := hcs
    have hmc : m = cap := by simpa using hme
    have ex : ∀ i, ∃ X : Bool, (i < len → W.cell? (a.add i) = some (.bool X)) := fun i => by
      by_cases z : i < len
      · obtain ⟨k1, k2⟩ := hc i (by omega)
        obtain ⟨n0, e0, _⟩ := DataW.trod_bool Try.underlying4 k2
        have e1 : V i = .bool n0 := by injection e0
        exact ⟨n0, fun _ => by rw [k1, e1]⟩
      · exact ⟨false, fun y => absurd y z⟩
    refine ⟨by omega, fun i => Classical.choose (ex i), ⟨fun z => by (cases z), fun ad e i hi => ?_⟩⟩
    obtain rfl : a = ad := by injection e
    exact Classical.choose_spec (ex i) hi
/-- Two pairs behind i acts, apart from one another. -/
def PX (w : World) (m r n q : Addr) (X : Nat → ActV) (i : Nat) (W : World) : Prop :=
  ∃ S1 F1 G1 S2 F2 G2, T W m r S1 F1 G1 (i * 1000000000) ∧ T W n q S2 F2 G2 (i * 1000000000) ∧ S1.pgs.length ≤ sumR X i ∧ S2.pgs.length ≤ sumR X i ∧
    (∀ b, F1 b ∨ G1 b → w.heap.size ≤ b) ∧ (∀ b, F2 b ∨ G2 b → w.heap.size ≤ b) ∧ (∀ b, F1 b ∨ G1 b → ¬ (F2 b ∨ G2 b)) ∧ Below w.heap.size w W
theorem PX.swap {w W : World} {m r n q : Addr} {X : Nat → ActV} {i : Nat} (h : PX w m r n q X i W) : PX w n q m r X i W := by
  obtain ⟨S1, F1, G1, S2, F2, G2, t1, t2, p1, p2, a1, a2, d, hb⟩ := h
  exact ⟨S2, F2, G2, S1, F1, G1, t2, t1, p2, p1, a2, a1, fun b h2 h1 => d b h1 h2, hb⟩
theorem PX.below {w W : World} {m r n q : Addr} {X : Nat → ActV} {i : Nat} (h : PX w m r n q X i W) : Below w.heap.size w W := by obtain ⟨_, _, _, _, _, _, _, _, _, _, _, _, _, hb⟩ := h; exact hb
theorem PX.act {w W : World} {m r n q : Addr} {X : Nat → ActV} {i len : Nat} (h : PX w m r n q X i W) (hl : Light X len) (hi : i < len) (h120 : len ≤ 120) (ok : (X i).Ok) :
    Calls Try.prog 9 #[.pointer (some m), .pointer (some r), .agg #[.int .i64 (X i).what, .int .u64 ((X i).page : Int), .int .u64 ((X i).n : Int), .int .u64 ((X i).x : Int)]] W fun e W' => e = .returned (.bool true) ∧ PX w m r n q X (i + 1) W' := by
  obtain ⟨S1, F1, G1, S2, F2, G2, t1, t2, p1, p2, a1, a2, d, hb⟩ := h
  refine (act_next t1 p1 hl hi h120 ok).mono ?_
  rintro e W' ⟨rfl, S', F', G', t', hp', kp, hf'⟩
  have hz := hb.size
  have lt2 : ∀ b, F2 b ∨ G2 b → b < W.heap.size := fun b hb => hb.elim (fun z => t2.ltF z) (fun z => t2.ltG z)
  refine ⟨rfl, S', F', G', S2, F2, G2, t', (t2.kept kp.size (fun b hb => kp.block b (lt2 b hb) (fun z => d b z hb))).mono (by omega), hp', Nat.le_trans p2 (sum_mono X i 1), fun b hb' => (hf' b hb').elim (a1 b) (fun z => by omega), a2, fun b hb' h2 => ?_, hb.trans (kp.below hz a1)⟩
  rcases hf' b hb' with z | z
  · exact d b z h2
  · have := lt2 b h2; omega
theorem PX.same {w W : World} {m r n q : Addr} {X : Nat → ActV} {i len : Nat} (h : PX w m r n q X i W) (hl : Light X len) (hi : i ≤ len) (h120 : len ≤ 120) :
    Calls Try.prog 10 #[.pointer (some m), .pointer (some r)] W fun e W' => e = .returned (.bool true) ∧ PX w m r n q X i W' := by
  obtain ⟨S1, F1, G1, S2, F2, G2, t1, t2, p1, p2, a1, a2, d, hb⟩ := h
  have hs := sum_le hl hi
  refine (same3 W m r S1 F1 G1 _ t1 (by unfold K9; omega) (by omega)).mono ?_
  rintro e W' ⟨rfl, F', G', t', kp, hf'⟩
  have hz := hb.size
  have lt2 : ∀ b, F2 b ∨ G2 b → b < W.heap.size := fun b hb => hb.elim (fun z => t2.ltF z) (fun z => t2.ltG z)
  refine ⟨rfl, S1, F', G', S2, F2, G2, t', t2.kept kp.size (fun b hb => kp.block b (lt2 b hb) (fun z => d b z hb)), p1, p2, fun b hb' => (hf' b hb').elim (a1 b) (fun z => by omega), a2, fun b hb' h2 => ?_, hb.trans (kp.below hz a1)⟩
  rcases hf' b hb' with z | z
  · exact d b z h2
  · have := lt2 b h2; omega
theorem px_start {w0 x1 x2 x3 x4 x5 x6 : World} {m r n q : Addr} {X : Nat → ActV} {pl : List Nat} {re : List Bool} {fi : List Nat} {F1 F2 G1 G2 : Nat → Prop} (b01 : Below w0.heap.size w0 x1) (b12 : Below x1.heap.size x1 x2) (b23 : Below x2.heap.size x2 x3) (b34 : Below x3.heap.size x3 x4) (b45 : Below x4.heap.size x4 x5) (b56 : Below x5.heap.size x5 x6)
    (v1 : VI x2 m (Sp.new pl re fi) F1 0) (f1 : ∀ b, F1 b → x1.heap.size ≤ b) (v2 : VI x4 n (Sp.new pl re fi) F2 0) (f2 : ∀ b, F2 b → x3.heap.size ≤ b) (q1 : RI x5 r (Sp.new pl re fi) G1 0) (g1 : ∀ b, G1 b → x4.heap.size ≤ b) (q2 : RI x6 q (Sp.new pl re fi) G2 0) (g2 : ∀ b, G2 b → x5.heap.size ≤ b) :
    PX w0 m r n q X 0 x6 := by
  have z1 := b01.size
  have z2 := b12.size
  have z3 := b23.size
  have z4 := b34.size
  have z5 := b45.size
  have z6 := b56.size
  have b46 : Below x4.heap.size x4 x6 := b45.trans (b56.mono z5)
  have b26 : Below x2.heap.size x2 x6 := b23.trans ((b34.trans (b46.mono z4)).mono z3)
  have l1 : ∀ b, F1 b → b < x2.heap.size := fun b hb => vface.lt v1 b hb
  have l2 : ∀ b, F2 b → b < x4.heap.size := fun b hb => vface.lt v2 b hb
  have l3 : ∀ b, G1 b → b < x5.heap.size := fun b hb => RI.lt q1 b hb
  refine ⟨_, F1, G1, _, F2, G2, ⟨0, 0, Nat.zero_le _, Nat.zero_le _, vface.kept v1 b26.size (fun b hb => b26.block b (l1 b hb)), RI.kept q1 z6 (fun b hb => b56.block b (l3 b hb)), fun b h1 h2 => ?_⟩,
    ⟨0, 0, Nat.zero_le _, Nat.zero_le _, vface.kept v2 b46.size (fun b hb => b46.block b (l2 b hb)), q2, fun b h1 h2 => ?_⟩, Nat.zero_le _, Nat.zero_le _, fun b hb => ?_, fun b hb => ?_, fun b h1 h2 => ?_, b01.trans ((b12.trans (b26.mono z2)).mono z1)⟩
  · have := l1 b h1; have := g1 b h2; omega
  · have := l2 b h1; have := g2 b h2; omega
  · rcases hb with z | z
    · have := f1 b z; omega
    · have := g1 b z; omega
  · rcases hb with z | z
    · have := f2 b z; omega
    · have := g2 b z; omega
  · rcases h1 with a | a <;> rcases h2 with c | c
    · have := l1 b a; have := f2 b c; omega
    · have := l1 b a; have := g2 b c; omega
    · have := g1 b a; have := l2 b c; omega
    · have := l3 b a; have := g2 b c; omega
set_option maxRecDepth 100000 in
set_option maxHeartbeats 8000000 in
theorem apart3 (p0 r0 f0 o o2 : Option Addr) (lp cp lr cr lf cf len cap len2 cap2 : Nat) (X : Nat → ActV) (Y : Nat → Bool) (pl : List Nat) (re : List Bool) (fi : List Nat) (w : World) (hA : ActsAt w o len cap X) (hB : BoolsAt w o2 len2 cap2 Y) (hN : AnsAt w p0 r0 f0 lp cp lr cr lf cf pl re fi) (m4 : len ≤ 9223372036854775807) (m5 : len2 ≤ 9223372036854775807) :
    Calls Try.prog 4 #[.agg #[.slice p0 lp cp, .slice r0 lr cr, .slice f0 lf cf], .slice o len cap, .slice o2 len2 cap2] w fun e w' => e = .returned (.bool true) ∧ Below w.heap.size w w' := by
  obtain ⟨h0, h1, h2, b0, b2, e0, e1, e2, m1, m2, m3⟩ := hN
  unfold maxLen at m1 m2 m3
  obtain ⟨w0, hw0⟩ : ∃ w0, w0 = w.alloc (.cells #[.slice p0 lp cp, .slice r0 lr cr, .slice f0 lf cf] 25) := ⟨_, rfl⟩
  have k0 : Below w.heap.size w w0 := by rw [hw0]; exact (Below.refl _ w).alloc (Nat.le_refl _) _
  have hz0 : w0.heap[w.heap.size]? = some (.cells #[.slice p0 lp cp, .slice r0 lr cr, .slice f0 lf cf] 25 (0, 0)) := by rw [hw0]; exact heap_alloc_new _ _
  have hA0 := hA.below k0
  have cH := heavy_core p0 r0 f0 o lp cp lr cr lf cf len cap X w0 hA0 (by omega) (by omega) (by omega) m4
  have HA := hide hA0
  have HB := hide (hB.below k0)
  have l5 : (len2 : Int) ≤ 9223372036854775807 := by omega
  have l6 : 0 ≤ (len2 : Int) := by omega
  have S0 := hide (h0.low k0)
  have S1 := hide (h1.low k0)
  have S2 := hide (h2.low k0)
  have B0 := hide b0
  have B2 := hide b2
  have EE := hide (And.intro e0 (And.intro e1 e2))
  have l4 : (len : Int) ≤ 9223372036854775807 := by omega
  have AC := hide (show ∀ Y : World, Below w0.heap.size w0 Y → (Y.cell? ⟨w.heap.size, 0, none⟩ = some (.slice p0 lp cp) ∧ Y.cell? ⟨w.heap.size, 1, none⟩ = some (.slice r0 lr cr) ∧ Y.cell? ⟨w.heap.size, 2, none⟩ = some (.slice f0 lf cf)) from fun Y hY => by
    have e : Y.heap[w.heap.size]? = some (.cells #[.slice p0 lp cp, .slice r0 lr cr, .slice f0 lf cf] 25 (0, 0)) := (hY.block _ (Array.getElem?_eq_some_iff.1 hz0).1).trans hz0
    simp [World.cell?, e])
  obtain ⟨R, hR⟩ : ∃ R : Ending → World → Prop, R = fun e w' => e = .returned (.bool true) ∧ Below w.heap.size w w' := ⟨_, rfl⟩
  rw [← hR]
  have FIN := hide (show ∀ Y : World, Below w0.heap.size w0 Y → R (.returned (.bool true)) Y from fun Y hY => by rw [hR]; exact ⟨rfl, k0.trans (hY.mono k0.size)⟩)
  have W0 := hide hw0
  clear hA hB m5 h0 h1 h2 b0 b2 e0 e1 e2 m1 m2 m3 m4 hR hw0 k0 hz0 hA0
  go_enter Try.func4, Try.ntmps4
  go_wp2_with fail
  go_at_call 5
  rw [← W0.out]
  clear W0
  refine cH.mono ?_
  rintro e w1 ⟨hv, rfl, hq, k1⟩
  have K1 := hide k1
  have HQ := hide hq
  clear cH k1 hq
  cases hv with
  | true =>
    go_wp2_with fail
    exact FIN.out _ K1.out
  | false =>
    have QQ := hide (HQ.out rfl)
    obtain ⟨a0, a1, a2⟩ := AC.out _ K1.out
    clear HQ
    go_wp2_with fail
    have V := hide (K1.out.trans ((drew_b w1).mono K1.out.size))
    have T1 := hide True.intro
    have T2 := hide True.intro
    clear a0 a1 a2
    go_region_held3 (fun w' => w'.cell? ⟨w.heap.size, 0, none⟩ = some (.slice p0 lp cp) ∧ w'.cell? ⟨w.heap.size, 1, none⟩ = some (.slice r0 lr cr) ∧ w'.cell? ⟨w.heap.size, 2, none⟩ = some (.slice f0 lf cf)) (exact AC.out _ V.out) (first
      | (go_at_call 6; clear T1; refine (given_any _ _ _ _ pl re fi (S0.out.low V.out) (S1.out.low V.out) (S2.out.low V.out) (by have := EE.out; have := QQ.out; omega) (by have := EE.out; have := QQ.out; omega) (by have := EE.out; have := QQ.out; omega)).mono ?_; rintro e x1 ⟨g0, k0, g1, k1, g2, k2, rfl, gv⟩; have GV1 := hide gv; have V := hide (V.out.trans (gv.be.mono V.out.size)); have E1 := hide V.out; clear gv)
      | (go_at_call 6; refine (given_any _ _ _ _ pl re fi (S0.out.low V.out) (S1.out.low V.out) (S2.out.low V.out) (by have := EE.out; have := QQ.out; omega) (by have := EE.out; have := QQ.out; omega) (by have := EE.out; have := QQ.out; omega)).mono ?_; rintro e x3 ⟨h0, i0, h1, i1, h2, i2, rfl, gv⟩; have GV2 := hide gv; have V := hide (V.out.trans (gv.be.mono V.out.size)); clear gv)
      | (go_at_call 7; clear T2; refine (vface.new x1 _ _ _ pl re fi (sl_of_owns GV1.out.o0) (sl_of_owns GV1.out.o1) (sl_of_owns GV1.out.o2) B0.out B2.out (by have := EE.out; have := QQ.out; omega) (by have := EE.out; have := QQ.out; omega) (by have := EE.out; have := QQ.out; omega)).mono ?_; rintro e x2 ⟨m, F1, rfl, vv, kp, hf⟩; have V1 := hide vv; have F11 := hide hf; have BB1 := hide (kp.below (Nat.le_refl _) (fun _ f => f.elim)); have V := hide (V.out.trans (BB1.out.mono V.out.size)); clear vv kp hf)
      | (go_at_call 7; refine (vface.new x3 _ _ _ pl re fi (sl_of_owns GV2.out.o0) (sl_of_owns GV2.out.o1) (sl_of_owns GV2.out.o2) B0.out B2.out (by have := EE.out; have := QQ.out; omega) (by have := EE.out; have := QQ.out; omega) (by have := EE.out; have := QQ.out; omega)).mono ?_; rintro e x4 ⟨n, F2, rfl, vv, kp, hf⟩; have V2 := hide vv; have F22 := hide hf; have BB2 := hide (kp.below (Nat.le_refl _) (fun _ f => f.elim)); have V := hide (V.out.trans (BB2.out.mono V.out.size)); clear vv kp hf))
    have a0 := (AC.out _ V.out).1
    have a1 := (AC.out _ V.out).2.1
    have a2 := (AC.out _ V.out).2.2
    go_wp2_with fail
    have E4 := hide V.out
    have V := hide (V.out.trans ((drew_b x4).mono V.out.size))
    have T3 := hide True.intro
    clear a0 a1 a2
    go_region_held3 (fun w' => w'.cell? ⟨w.heap.size, 0, none⟩ = some (.slice p0 lp cp) ∧ w'.cell? ⟨w.heap.size, 1, none⟩ = some (.slice r0 lr cr) ∧ w'.cell? ⟨w.heap.size, 2, none⟩ = some (.slice f0 lf cf)) (exact AC.out _ V.out) (first
      | (go_at_call 8; clear T3; refine (rnew _ _ _ _ pl re fi (S0.out.low V.out) (S1.out.low V.out) (S2.out.low V.out) B0.out B2.out (by have := EE.out; have := QQ.out; omega) (by have := EE.out; have := QQ.out; omega) (by have := EE.out; have := QQ.out; omega)).mono ?_; rintro e x5 ⟨r, G1, rfl, vv, kp, hg⟩; have Q1 := hide vv; have G11 := hide hg; have BB3 := hide ((drew_b x4).trans (kp.below (Nat.le_refl _) (fun _ f => f.elim))); have V := hide (E4.out.trans (BB3.out.mono E4.out.size)); clear vv kp hg)
      | (go_at_call 8; refine (rnew _ _ _ _ pl re fi (S0.out.low V.out) (S1.out.low V.out) (S2.out.low V.out) B0.out B2.out (by have := EE.out; have := QQ.out; omega) (by have := EE.out; have := QQ.out; omega) (by have := EE.out; have := QQ.out; omega)).mono ?_; rintro e x6 ⟨q, G2, rfl, vv, kp, hg⟩; have Q2 := hide vv; have G22 := hide hg; have BB4 := hide (kp.below (Nat.le_refl _) (fun _ f => f.elim)); have V := hide (V.out.trans (BB4.out.mono V.out.size)); clear vv kp hg))
    have P0 := hide (px_start (X := X) E1.out BB1.out GV2.out.be BB2.out BB3.out BB4.out V1.out F11.out V2.out F22.out Q1.out G11.out Q2.out G22.out)
    have ql : len ≤ 120 := QQ.out.1
    have ql' : (len : Int) ≤ 120 := by omega
    have ql0 : 0 ≤ (len : Int) := by omega
    have QL := hide QQ.out.2.2.2.2
    clear E1 BB1 GV1 GV2 BB2 BB3 BB4 V1 F11 V2 F22 Q1 G11 Q2 G22 V E4 K1
    go_wp2_with fail
    go_loopw [11] (fun v wr => ∃ i : Int, v = .int .i64 i ∧ 0 ≤ i ∧ i ≤ len ∧ Hid (PX w0 m r n q X i.toNat wr)) (fun v _ => (len - intOf v).toNat)
    case atStart => exact ⟨0, rfl, by omega, by omega, P0⟩
    case round =>
      obtain ⟨i, rfl, i0, i1, HS⟩ := hrel
      by_cases hi : i < len
      · obtain ⟨b, off, rfl, hb, hcl⟩ := HA.out.at (i := i.toNat) (by omega)
        obtain ⟨c0, c1, c2, c3⟩ := hcl i.toNat (by omega)
        have d0 := cell_low c0 HS.out.below
        have d1 := cell_low c1 HS.out.below
        have d2 := cell_low c2 HS.out.below
        have d3 := cell_low c3 HS.out.below
        have OK := hide (HA.out.ok i.toNat)
        have CA := hide (HS.out.act QL.out (by omega) ql OK.out)
        have CB := hide (HS.out.swap.act QL.out (by omega) ql OK.out)
        clear hcl hb c0 c1 c2 c3
        by_cases ht : i < len2
        · obtain ⟨b1, off1, rfl, hc1⟩ := HB.out.at (i := i.toNat) (by omega)
          have t0 := cell_low hc1 HS.out.below
          clear hc1
          cases hx : Y i.toNat with
          | true =>
            rw [hx] at t0
            clear hx
            go_wp2_with fail
            go_at_call 9
            refine CB.out.mono ?_
            rintro e w9 ⟨rfl, h9⟩
            have H9 := hide (show PX w0 m r n q X (i + 1).toNat w9 by rw [show (i + 1).toNat = i.toNat + 1 by omega]; exact h9.swap)
            clear h9 d0 d1 d2 d3 t0
            go_wp2_with fail
            refine ⟨⟨i + 1, rfl, by omega, by omega, H9⟩, ?_⟩
            simp [intOf]; omega
          | false =>
            rw [hx] at t0
            clear hx
            go_wp2_with fail
            go_at_call 9
            refine CA.out.mono ?_
            rintro e w9 ⟨rfl, h9⟩
            have H9 := hide (show PX w0 m r n q X (i + 1).toNat w9 by rw [show (i + 1).toNat = i.toNat + 1 by omega]; exact h9)
            clear h9 d0 d1 d2 d3 t0
            go_wp2_with fail
            refine ⟨⟨i + 1, rfl, by omega, by omega, H9⟩, ?_⟩
            simp [intOf]; omega
        · have ht' : (len2 : Int) ≤ i := by omega
          clear ht
          go_wp2_with fail
          go_at_call 9
          refine CA.out.mono ?_
          rintro e w9 ⟨rfl, h9⟩
          have H9 := hide (show PX w0 m r n q X (i + 1).toNat w9 by rw [show (i + 1).toNat = i.toNat + 1 by omega]; exact h9)
          clear h9 d0 d1 d2 d3
          go_wp2_with fail
          refine ⟨⟨i + 1, rfl, by omega, by omega, H9⟩, ?_⟩
          simp [intOf]; omega
      · have hi' : (len : Int) ≤ i := by omega
        clear hi
        go_wp2_with fail
        go_at_call 10
        refine (HS.out.same QL.out (by omega) ql).mono ?_
        rintro e w8 ⟨rfl, h8⟩
        have H8 := hide h8.swap
        clear h8
        go_wp2_with fail
        go_at_call 10
        refine (H8.out.same QL.out (by omega) ql).mono ?_
        rintro e w9 ⟨rfl, h9⟩
        have H9 := hide h9
        clear h9
        go_wp2_with fail
        go_at_call 11
        refine (awake_core vface w9).mono ?_
        rintro e wd ⟨rfl, kd⟩
        have HD := hide (H9.out.below.trans (kd.mono H9.out.below.size))
        clear kd
        go_wp2_with fail
        exact FIN.out _ HD.out
end Go.Proofs.Ytlfcnaalkjpgnaa
