/- ChunkPlays: whatever is done to a chunk and to the reference's: each answer, and all pages behind it. -/
import Derived.Test.YtgjgcdbhppaigaaDoorSa
namespace Go.Proofs.YtgjgcdbhppaigaaDoor
open Go.ChangeShapes Go.WideShapes Go.ChangeAt Go.RowKit Go.Proofs.Bt Go.Shelf
set_option linter.unusedVariables false
set_option linter.unusedSimpArgs false

/-- A pair that the law has made, while the law runs. -/
structure PlI (w : World) (c r : Nat) (W : World) : Prop where
  pr : ∃ u g, Pr W c r u g
  tab : TabW W
  be : Below w.heap.size w W
  nc : w.heap.size ≤ c
  nr : w.heap.size ≤ r
  pos : 0 < w.heap.size
theorem PlI.next {w W W' : World} {c r : Nat} (h : PlI w c r W) (k : Below W.heap.size W W') : PlI w c r W' := by
  obtain ⟨⟨u, g, p⟩, t, b, n1, n2, z⟩ := h
  exact ⟨⟨u, g, p.below k⟩, t.below k, b.trans (k.mono b.size), n1, n2, z⟩
theorem PlI.act {w W W' : World} {c r : Nat} {e : Ending} (h : PlI w c r W) (k : ActR W c r e W') : PlI w c r W' :=
  ⟨k.2.1, h.tab.kept k.2.2 (by have := h.nc; have := h.nr; have := h.pos; omega), below_kept h.be k.2.2 (fun x hx => by have := h.nc; have := h.nr; omega) h.be.size, h.nc, h.nr, h.pos⟩
theorem pl_act {w W : World} {c r : Nat} (h : PlI w c r W) (X : ActV) (ok : X.Ok) :
    Calls Tryd.prog 10 #[.pointer (some ⟨c, 0, none⟩), .pointer (some ⟨r, 0, none⟩), .agg #[.int .i64 X.what, .int .i64 X.i, .int .i64 X.n]] W fun e W' => e = .returned (.bool true) ∧ PlI w c r W' ∧ Kept (fun x => x = c ∨ x = r) W W' := by
  obtain ⟨u, g, p⟩ := h.pr
  exact (act_any W c r u g p h.tab X.what X.i X.n ok.b0 ok.b1 ok.c1).mono fun e W' hk => ⟨hk.1, h.act hk, hk.2.2⟩
theorem pl_same {w W : World} {c r : Nat} (h : PlI w c r W) :
    Calls Tryd.prog 11 #[.pointer (some ⟨c, 0, none⟩), .pointer (some ⟨r, 0, none⟩)] W fun e W' => e = .returned (.bool true) ∧ PlI w c r W' ∧ Below W.heap.size W W' := by
  obtain ⟨u, g, p⟩ := h.pr
  exact (same_any W c r u g p h.tab).mono fun e W' hk => ⟨hk.1, h.next hk.2, hk.2⟩
theorem pl_new {w W W' : World} {c r : Nat} {u g : Nat → Bool} (s : S1 w W c u g) (a : Apart u g) (hr : r = W.heap.size) (q : RcF W' r u g) (k : Below W.heap.size W W') : PlI w c r W' :=
  ⟨⟨u, g, s.ch.below k, q, a, by have := s.ch.lt; omega, s.ne, by have := s.ch.lt; omega⟩, s.tab.below k, s.be.trans (k.mono s.be.size), s.new, by have := s.be.size; omega, s.pos⟩
set_option maxRecDepth 100000 in
set_option maxHeartbeats 4000000 in
theorem plays_any (o : Option Addr) (len cap : Nat) (w : World) (hA : len ≤ maxLen ∧ len ≤ cap ∧ ∃ X, ActsAt w o len cap X) (ht : TabW w) :
    Calls Tryd.prog 3 #[.slice o len cap] w fun e w' => e = .returned (.bool true) ∧ Below w.heap.size w w' := by
  obtain ⟨hm, hc, X, hX⟩ := hA
  have cN := s1_new w ht
  have HT := hide ht
  have fin := Below.refl w.heap.size w
  by_cases hl : 300 < len
  · have hl' : (300 : Int) < (len : Int) := by omega
    clear cN hc hX hl hm ht
    go_enter Tryd.func3, Tryd.ntmps3
    go_wp2
    go_ret
    exact ⟨rfl, fin⟩
  have hl' : (len : Int) ≤ 300 := by omega
  have hl2 : 0 ≤ (len : Int) := by omega
  obtain ⟨N, hN⟩ : ∃ N, w.heap.size = N := ⟨_, rfl⟩
  rw [hN] at cN
  have HN := hide hN
  have HX := hide hX
  obtain ⟨R, hR⟩ : ∃ R : Ending → World → Prop, R = fun e w' => e = .returned (.bool true) ∧ Below w.heap.size w w' := ⟨_, rfl⟩
  rw [← hR]
  have HR := hide hR
  clear hN ht hX hl hc hm hR fin
  go_enter Tryd.func3, Tryd.ntmps3
  go_wp2_with fail
  go_at_call 8
  refine cN.mono ?_
  rintro e w1 ⟨rfl, s1⟩
  have H1 := hide s1
  clear s1 cN
  go_wp2_with fail
  go_at_call 9
  refine (newR_any w1).mono ?_
  rintro e w2 ⟨rfl, q2, k2⟩
  obtain ⟨r, hr⟩ : ∃ r, r = w1.heap.size := ⟨_, rfl⟩
  rw [← hr] at q2 ⊢
  have H2 := hide (pl_new H1.out apart_new hr q2 k2)
  clear q2 k2 H1 hr
  go_wp2_with fail
  go_loopw [5] (fun iv wr => ∃ k : Int, iv = .int .i64 k ∧ 0 ≤ k ∧ k ≤ len ∧ Hid (PlI w N r wr)) (fun iv _ => (len - intOf iv).toNat)
  case atStart => exact ⟨0, rfl, by omega, by omega, H2⟩
  case round =>
    obtain ⟨k, rfl, k0, k1, HS⟩ := hrel
    by_cases hk : k < len
    · obtain ⟨b, off, rfl, hb, hcl⟩ := HX.out.at (i := k.toNat) (by omega)
      obtain ⟨c0, c1, c2⟩ := hcl k.toNat (by omega)
      have be := HS.out.be.block b hb
      have d0 := (cell_block be _).trans c0
      have d1 := (cell_block be _).trans c1
      have d2 := (cell_block be _).trans c2
      have ok := HX.out.ok k.toNat
      obtain ⟨A, hA⟩ : ∃ A, X k.toNat = A := ⟨_, rfl⟩
      rw [hA] at d0 d1 d2 ok
      have OK := hide ok
      clear hcl hb c0 c1 c2 be hA ok
      by_cases h4 : k % 4 = 0
      · have q4 : (k % 4 == 0) = true := by simpa using h4
        clear h4
        go_wp2_with fail
        go_at_call 10
        refine (pl_act HS.out A OK.out).mono ?_
        rintro e w3 ⟨rfl, s3, k3⟩
        have H3 := hide s3
        clear s3 k3 d0 d1 d2
        go_wp2_with fail
        go_at_call 11
        refine (pl_same H3.out).mono ?_
        rintro e w4 ⟨rfl, s4, k4⟩
        have H4 := hide s4
        clear s4 k4
        go_wp2_with fail
        refine ⟨⟨k + 1, rfl, by omega, by omega, H4⟩, ?_⟩
        simp [intOf]; omega
      · have q4 : (k % 4 == 0) = false := by simpa using h4
        clear h4
        go_wp2_with fail
        go_at_call 10
        refine (pl_act HS.out A OK.out).mono ?_
        rintro e w3 ⟨rfl, s3, k3⟩
        have H3 := hide s3
        clear s3 k3 d0 d1 d2
        go_wp2_with fail
        refine ⟨⟨k + 1, rfl, by omega, by omega, H3⟩, ?_⟩
        simp [intOf]; omega
    · have hk' : (len : Int) ≤ k := by omega
      clear hk
      go_wp2_with fail
      go_at_call 11
      refine (pl_same HS.out).mono ?_
      rintro e w3 ⟨rfl, s3, k3⟩
      have H3 := hide s3
      clear s3 k3
      go_wp2_with fail
      go_at_call 12
      refine (awake_any w3 H3.out.tab).mono ?_
      rintro e wd ⟨rfl, kd⟩
      have HD := hide (H3.out.be.trans (kd.mono H3.out.be.size))
      clear kd
      go_wp2_with fail
      rw [HR.out]
      exact ⟨rfl, HD.out⟩
end Go.Proofs.YtgjgcdbhppaigaaDoor
