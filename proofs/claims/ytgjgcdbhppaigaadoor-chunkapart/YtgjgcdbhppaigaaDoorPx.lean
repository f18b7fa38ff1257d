/- ChunkApart: two chunks, used in turns, don't see one another. -/
import Derived.Test.YtgjgcdbhppaigaaDoorPm
namespace Go.Proofs.YtgjgcdbhppaigaaDoor
open Go.ChangeShapes Go.WideShapes Go.ChangeAt Go.RowKit Go.Proofs.Bt Go.Shelf
set_option linter.unusedVariables false
set_option linter.unusedSimpArgs false

theorem PlI.keep {F : Nat → Prop} {w W W' : World} {c r : Nat} (h : PlI w c r W) (k : Kept F W W') (hc : ¬ F c) (hr : ¬ F r) (hF : ∀ x, F x → w.heap.size ≤ x) : PlI w c r W' := by
  obtain ⟨⟨u, g, p⟩, t, b, n1, n2, z⟩ := h
  exact ⟨⟨u, g, p.kept k hc hr⟩, t.kept k (fun e => by have := hF _ e; omega), below_kept b k hF b.size, n1, n2, z⟩
/-- Two pairs, apart from one another. -/
structure P2 (w : World) (c d r q : Nat) (W : World) : Prop where
  a : PlI w c r W
  b : PlI w d q W
  cd : c ≠ d
  cq : c ≠ q
  rd : r ≠ d
  rq : r ≠ q
theorem P2.next {w W W' : World} {c d r q : Nat} (h : P2 w c d r q W) (k : Below W.heap.size W W') : P2 w c d r q W' := ⟨h.a.next k, h.b.next k, h.cd, h.cq, h.rd, h.rq⟩
theorem p2_actA {w W : World} {c d r q : Nat} (h : P2 w c d r q W) (X : ActV) (ok : X.Ok) :
    Calls Tryd.prog 10 #[.pointer (some ⟨c, 0, none⟩), .pointer (some ⟨r, 0, none⟩), .agg #[.int .i64 X.what, .int .i64 X.i, .int .i64 X.n]] W fun e W' => e = .returned (.bool true) ∧ P2 w c d r q W' :=
  (pl_act h.a X ok).mono fun e W' ⟨he, p, k⟩ => ⟨he, p, h.b.keep k (by have := h.cd; have := h.rd; omega) (by have := h.cq; have := h.rq; omega) (fun x hx => by have := h.a.nc; have := h.a.nr; omega), h.cd, h.cq, h.rd, h.rq⟩
theorem p2_actB {w W : World} {c d r q : Nat} (h : P2 w c d r q W) (X : ActV) (ok : X.Ok) :
    Calls Tryd.prog 10 #[.pointer (some ⟨d, 0, none⟩), .pointer (some ⟨q, 0, none⟩), .agg #[.int .i64 X.what, .int .i64 X.i, .int .i64 X.n]] W fun e W' => e = .returned (.bool true) ∧ P2 w c d r q W' :=
  (pl_act h.b X ok).mono fun e W' ⟨he, p, k⟩ => ⟨he, h.a.keep k (by have := h.cd; have := h.cq; omega) (by have := h.rd; have := h.rq; omega) (fun x hx => by have := h.b.nc; have := h.b.nr; omega), p, h.cd, h.cq, h.rd, h.rq⟩
theorem p2_new {w w1 w2 w3 w4 : World} {c : Nat} {u g : Nat → Bool} (s : S1 w w1 c u g) (a : Apart u g) (cd : ChF w2 w1.heap.size u g) (k2 : Below w1.heap.size w1 w2) (cr : RcF w3 w2.heap.size u g) (k3 : Below w2.heap.size w2 w3) (cq : RcF w4 w3.heap.size u g) (k4 : Below w3.heap.size w3 w4) :
    P2 w c w1.heap.size w2.heap.size w3.heap.size w4 := by
  have l1 := s.ch.lt
  have l2 := cd.lt
  have l3 := cr.lt
  have m1 := s.be.size
  have n1 := s.new
  have b4 : Below w.heap.size w w4 := s.be.trans ((k2.trans ((k3.trans (k4.mono k3.size)).mono k2.size)).mono m1)
  have t4 : TabW w4 := ((s.tab.below k2).below k3).below k4
  exact ⟨⟨⟨u, g, ((s.ch.below k2).below k3).below k4, cr.below k4, a, by omega, s.ne, by omega⟩, t4, b4, n1, by omega, s.pos⟩, ⟨⟨u, g, (cd.below k3).below k4, cq, a, by omega, by omega, by omega⟩, t4, b4, by omega, by omega, s.pos⟩, by omega, by omega, by omega, by omega⟩
set_option maxRecDepth 100000 in
set_option maxHeartbeats 4000000 in
theorem apart_any (o : Option Addr) (len cap : Nat) (o1 : Option Addr) (len1 cap1 : Nat) (w : World) (hA : len ≤ maxLen ∧ len ≤ cap ∧ ∃ X, ActsAt w o len cap X) (hA1 : len1 ≤ maxLen ∧ len1 ≤ cap1 ∧ ∃ X, BoolsAt w o1 len1 cap1 X) (ht : TabW w) :
    Calls Tryd.prog 4 #[.slice o len cap, .slice o1 len1 cap1] w fun e w' => e = .returned (.bool true) ∧ Below w.heap.size w w' := by
  obtain ⟨hm, hc, X, hX⟩ := hA
  obtain ⟨hm1, hc1, T, hT⟩ := hA1
  have cN := s1_new w ht
  have HT := hide ht
  have fin := Below.refl w.heap.size w
  by_cases hl : 300 < len
  · have hl' : (300 : Int) < (len : Int) := by omega
    clear cN hc hX hl hm ht hm1 hc1 hT
    go_enter Tryd.func4, Tryd.ntmps4
    go_wp2
    go_ret
    exact ⟨rfl, fin⟩
  have hl' : (len : Int) ≤ 300 := by omega
  have hl2 : 0 ≤ (len : Int) := by omega
  have hl3 : 0 ≤ (len1 : Int) := by omega
  have hl4 : (len1 : Int) ≤ 9223372036854775807 := by unfold maxLen at hm1; omega
  obtain ⟨N, hN⟩ : ∃ N, w.heap.size = N := ⟨_, rfl⟩
  rw [hN] at cN
  have HN := hide hN
  have HX := hide hX
  have HB := hide hT
  obtain ⟨R, hR⟩ : ∃ R : Ending → World → Prop, R = fun e w' => e = .returned (.bool true) ∧ Below w.heap.size w w' := ⟨_, rfl⟩
  rw [← hR]
  have HR := hide hR
  clear hN ht hX hl hc hm hR fin hm1 hc1 hT
  go_enter Tryd.func4, Tryd.ntmps4
  go_wp2_with fail
  go_at_call 8
  refine cN.mono ?_
  rintro e w1 ⟨rfl, s1⟩
  have H1 := hide s1
  clear s1 cN
  go_wp2_with fail
  go_at_call 8
  refine (newC_any w1).mono ?_
  rintro e w2 ⟨rfl, c2, k2⟩
  have C2 := hide c2
  have K2 := hide k2
  clear c2 k2
  go_wp2_with fail
  go_at_call 9
  refine (newR_any w2).mono ?_
  rintro e w3 ⟨rfl, c3, k3⟩
  have C3 := hide c3
  have K3 := hide k3
  clear c3 k3
  go_wp2_with fail
  go_at_call 9
  refine (newR_any w3).mono ?_
  rintro e w4 ⟨rfl, c4, k4⟩
  have H4 := hide (p2_new H1.out apart_new C2.out K2.out C3.out K3.out c4 k4)
  clear c4 k4 H1 C2 K2 C3 K3
  obtain ⟨d, hd⟩ : ∃ d, w1.heap.size = d := ⟨_, rfl⟩
  obtain ⟨r, hr⟩ : ∃ r, w2.heap.size = r := ⟨_, rfl⟩
  obtain ⟨q, hq⟩ : ∃ q, w3.heap.size = q := ⟨_, rfl⟩
  simp only [hd, hr, hq] at H4 ⊢
  clear hd hr hq
  go_wp2_with fail
  go_loopw [9] (fun iv wr => ∃ k : Int, iv = .int .i64 k ∧ 0 ≤ k ∧ k ≤ len ∧ Hid (P2 w N d r q wr)) (fun iv _ => (len - intOf iv).toNat)
  case atStart => exact ⟨0, rfl, by omega, by omega, H4⟩
  case round =>
    obtain ⟨k, rfl, k0, k1, HS⟩ := hrel
    by_cases hk : k < len
    · obtain ⟨b, off, rfl, hb, hcl⟩ := HX.out.at (i := k.toNat) (by omega)
      obtain ⟨c0, c1, c2⟩ := hcl k.toNat (by omega)
      have be := HS.out.a.be.block b hb
      have d0 := (cell_block be _).trans c0
      have d1 := (cell_block be _).trans c1
      have d2 := (cell_block be _).trans c2
      have ok := HX.out.ok k.toNat
      obtain ⟨A, hA⟩ : ∃ A, X k.toNat = A := ⟨_, rfl⟩
      rw [hA] at d0 d1 d2 ok
      have OK := hide ok
      clear hcl hb c0 c1 c2 be hA ok
      by_cases ht : k < len1
      · obtain ⟨b1, off1, rfl, hb1, hcl1⟩ := HB.out.at (i := k.toNat) (by omega)
        have t0 := (cell_block (HS.out.a.be.block b1 hb1) _).trans (hcl1 k.toNat (by omega))
        clear hcl1 hb1
        cases hx : T k.toNat with
        | true =>
          rw [hx] at t0
          clear hx
          go_wp2_with fail
          go_at_call 10
          refine (p2_actB HS.out A OK.out).mono ?_
          rintro e w5 ⟨rfl, s5⟩
          have H5 := hide s5
          clear s5 d0 d1 d2 t0
          go_wp2_with fail
          refine ⟨⟨k + 1, rfl, by omega, by omega, H5⟩, ?_⟩
          simp [intOf]; omega
        | false =>
          rw [hx] at t0
          clear hx
          go_wp2_with fail
          go_at_call 10
          refine (p2_actA HS.out A OK.out).mono ?_
          rintro e w5 ⟨rfl, s5⟩
          have H5 := hide s5
          clear s5 d0 d1 d2 t0
          go_wp2_with fail
          refine ⟨⟨k + 1, rfl, by omega, by omega, H5⟩, ?_⟩
          simp [intOf]; omega
      · have ht' : (len1 : Int) ≤ k := by omega
        clear ht
        go_wp2_with fail
        go_at_call 10
        refine (p2_actA HS.out A OK.out).mono ?_
        rintro e w5 ⟨rfl, s5⟩
        have H5 := hide s5
        clear s5 d0 d1 d2
        go_wp2_with fail
        refine ⟨⟨k + 1, rfl, by omega, by omega, H5⟩, ?_⟩
        simp [intOf]; omega
    · have hk' : (len : Int) ≤ k := by omega
      clear hk
      go_wp2_with fail
      go_at_call 11
      refine (pl_same HS.out.a).mono ?_
      rintro e w5 ⟨rfl, s5, k5⟩
      have H5 := hide (HS.out.next k5)
      clear s5 k5
      go_wp2_with fail
      go_at_call 11
      refine (pl_same H5.out.b).mono ?_
      rintro e w6 ⟨rfl, s6, k6⟩
      have H6 := hide (H5.out.next k6)
      clear s6 k6
      go_wp2_with fail
      go_at_call 12
      refine (awake_any w6 H6.out.a.tab).mono ?_
      rintro e wd ⟨rfl, kd⟩
      have HD := hide (H6.out.a.be.trans (kd.mono H6.out.a.be.size))
      clear kd
      go_wp2_with fail
      rw [HR.out]
      exact ⟨rfl, HD.out⟩
end Go.Proofs.YtgjgcdbhppaigaaDoor
