/- ChunkFirst: what is found is free, and the first that would do. -/
import Derived.Test.YtgjgcdbhppaigaaDoorCo
namespace Go.Proofs.YtgjgcdbhppaigaaDoor
open Go.ChangeShapes Go.WideShapes Go.ChangeAt Go.RowKit Go.Proofs.Bt Go.Shelf
set_option linter.unusedVariables false
set_option linter.unusedSimpArgs false

theorem find_sp (a n : Nat) (hn : 1 ≤ n) (h : a + n ≤ 512) : FindP (sp 0 a) (n : Nat) 0 (a : Nat) true := by
  refine .inl ⟨rfl, by omega, a, rfl, by simp, by simpa using h, fun k hk => ?_, fun c _ hc hcl => ?_⟩
  · unfold sp; simp
  · have := hcl 0 (by omega)
    unfold sp at this
    simp at this
    omega
theorem find_no (a n : Nat) (hn : 1 ≤ n) (ha : a ≤ 512) (h : 512 < a + n) : FindP (sp 0 a) (n : Nat) 0 0 false := by
  refine .inr ⟨rfl, rfl, .inr fun c _ hc hcl => ?_⟩
  have := hcl 0 (by omega)
  unfold sp at this
  simp at this
  omega
theorem find_past {a : Nat} {k m : Int} {is : Bool} (h : FindP (sp 0 a) 1 k m is) : is = true → (a : Int) ≤ m := by
  intro he
  rcases h with ⟨rfl, _, b, rfl, h1, h2, h3, _⟩ | ⟨rfl, _⟩
  · have := h3 0 (by decide)
    unfold sp at this
    simp at this
    omega
  · cases he
theorem u_next (a n j : Nat) : setF (sp 0 a) a n j = sp 0 (a + n) j := by
  rw [setF_at, Bool.eq_iff_iff]; simp only [Bool.or_eq_true, sp]; simp; omega
theorem g_next (a n j : Nat) : clrF (fun j => !sp 0 a j) a n j = !sp 0 (a + n) j := by
  rw [clrF_at, Bool.eq_iff_iff]; simp only [Bool.and_eq_true, Bool.not_eq_true', sp]; simp; omega
theorem cnt_free (a n : Nat) (h : a + n ≤ 512) : cnt (fun j => !sp 0 a j) a n = n := cnt_full.2 fun j hj => by unfold sp; simp
/-- What the loop holds. -/
structure FsI (w W : World) (N a : Nat) : Prop where
  s : S1 w W N (sp 0 a) (fun j => !sp 0 a j)
  le : a ≤ 512
set_option maxRecDepth 100000 in
set_option maxHeartbeats 4000000 in
theorem first_any (o : Option Addr) (len cap : Nat) (w : World) (hA : len ≤ maxLen ∧ len ≤ cap ∧ ∃ X, IntsAt w o len cap X) (ht : TabW w) :
    Calls Tryd.prog 7 #[.slice o len cap] w fun e w' => e = .returned (.bool true) ∧ Below w.heap.size w w' := by
  obtain ⟨hm, hc, X, hX⟩ := hA
  have cN := s1_new w ht
  have HT := hide ht
  by_cases hl : 100 < len
  · have hl' : (100 : Int) < (len : Int) := by omega
    have fin := Below.refl w.heap.size w
    clear cN hc hX hl hm ht
    go_enter Tryd.func7, Tryd.ntmps7
    go_wp2
    go_ret
    exact ⟨rfl, fin⟩
  have hl' : (len : Int) ≤ 100 := by omega
  have hl2 : 0 ≤ (len : Int) := by omega
  obtain ⟨N, hN⟩ : ∃ N, w.heap.size = N := ⟨_, rfl⟩
  rw [hN] at cN
  have HN := hide hN
  have HX := hide hX
  obtain ⟨R, hR⟩ : ∃ R : Ending → World → Prop, R = fun e w' => e = .returned (.bool true) ∧ Below w.heap.size w w' := ⟨_, rfl⟩
  rw [← hR]
  have HR := hide hR
  clear hN ht hX hl hc hm hR
  go_enter Tryd.func7, Tryd.ntmps7
  go_wp2_with fail
  go_at_call 8
  refine cN.mono ?_
  rintro e w1 ⟨rfl, s1⟩
  have H1 := hide (FsI.mk (a := 0) (s1.congr (fun j hj => by unfold sp nil512; simp) (fun j hj => by rw [all512_at j hj]; unfold sp; simp)) (by omega))
  clear s1 cN
  go_wp2_with fail
  go_loopw [4, 5] (fun nv iv wr => ∃ (a : Int) (k : Int), nv = .int .i64 a ∧ iv = .int .i64 k ∧ 0 ≤ k ∧ k ≤ len ∧ 0 ≤ a ∧ a ≤ 512 ∧ Hid (FsI w wr N a.toNat)) (fun _ iv _ => (len - intOf iv).toNat)
  case atStart => exact ⟨0, 0, rfl, rfl, by omega, by omega, by omega, by omega, H1⟩
  case round =>
    obtain ⟨a, k, rfl, rfl, k0, k1, a0, a1, HS⟩ := hrel
    by_cases hk : k < len
    · obtain ⟨b, off, rfl, hb, hcl⟩ := HX.out.at (i := k.toNat) (by omega)
      have c1 := (cell_block (HS.out.s.be.block b hb) _).trans (hcl k.toNat (by omega))
      have l0 := HX.out.lo k.toNat
      have l1 := HX.out.hi k.toNat
      clear hcl hb
      obtain ⟨n, hn⟩ : ∃ n, X k.toNat = n := ⟨_, rfl⟩
      rw [hn] at c1 l0 l1
      clear hn
      by_cases n1 : n < 1
      · have fin := hide HS.out.s.be
        go_wp2_with fail
        try go_ret
        rw [HR.out]
        exact ⟨rfl, fin.out⟩
      have n1' : 1 ≤ n := by omega
      by_cases n2 : 100 < n
      · have fin := hide HS.out.s.be
        clear n1
        go_wp2_with fail
        try go_ret
        rw [HR.out]
        exact ⟨rfl, fin.out⟩
      have n2' : n ≤ 100 := by omega
      clear n1 n2
      by_cases hf : a + n ≤ 512
      · go_wp2_with fail
        go_at_call 23
        refine (s1_find HS.out.s n 0 (by omega) (by omega)).mono ?_
        rintro e w2 ⟨i, ok, rfl, p2, s2⟩
        have pf := find_sp a.toNat n.toNat (by omega) (by omega)
        rw [show ((n.toNat : Nat) : Int) = n by omega, show ((a.toNat : Nat) : Int) = a by omega] at pf
        obtain ⟨rfl, rfl⟩ := p2.one pf
        have H2 := hide s2
        clear s2 p2 pf HS
        go_wp2_with fail
        go_at_call 13
        refine (s1_take H2.out i n (by omega)).mono ?_
        rw [take_ok (by unfold RightC; omega) (cnt_none fun j hj => by unfold sp; simp; omega), cnt_free _ _ (by omega), show ((n.toNat : Nat) : Int) = n by omega]
        rintro e w3 ⟨rfl, s3⟩
        have H3 := hide (FsI.mk (a := (i + n).toNat) (s3.congr (fun j hj => by rw [show (i + n).toNat = i.toNat + n.toNat by omega]; exact u_next _ _ j) (fun j hj => by rw [show (i + n).toNat = i.toNat + n.toNat by omega]; exact g_next _ _ j)) (by omega))
        clear s3
        go_wp2_with fail
        go_at_call 23
        refine (s1_find H3.out.s 1 i (by omega) (by omega)).mono ?_
        rintro e w4 ⟨m, is, rfl, p4, s4⟩
        have hp := find_past p4
        have H4 := hide (FsI.mk s4 H3.out.le)
        clear s4 p4
        cases is with
        | true =>
          have hp2 : i + n ≤ m := by have := hp rfl; omega
          clear hp
          go_wp2_with fail
          refine ⟨⟨i + n, k + 1, rfl, rfl, by omega, by omega, by omega, by omega, H4⟩, ?_⟩
          simp [intOf]; omega
        | false =>
          clear hp
          go_wp2_with fail
          refine ⟨⟨i + n, k + 1, rfl, rfl, by omega, by omega, by omega, by omega, H4⟩, ?_⟩
          simp [intOf]; omega
      · have hf' : 512 < a + n := by omega
        clear hf
        go_wp2_with fail
        go_at_call 23
        refine (s1_find HS.out.s n 0 (by omega) (by omega)).mono ?_
        rintro e w2 ⟨i, ok, rfl, p2, s2⟩
        have pf := find_no a.toNat n.toNat (by omega) (by omega) (by omega)
        rw [show ((n.toNat : Nat) : Int) = n by omega] at pf
        obtain ⟨rfl, rfl⟩ := p2.one pf
        have H2 := hide (FsI.mk s2 HS.out.le)
        clear s2 p2 pf HS
        go_wp2_with fail
        refine ⟨⟨a, k + 1, rfl, rfl, by omega, by omega, by omega, by omega, H2⟩, ?_⟩
        simp [intOf]; omega
    · have hk' : (len : Int) ≤ k := by omega
      clear hk
      go_wp2_with fail
      go_at_call 20
      refine (s1_free HS.out.s).mono ?_
      rw [cnt_sp _ _ (by omega) (by omega), show (512 - ((a.toNat - 0 : Nat) : Int)) = 512 - a by omega]
      rintro e w3 ⟨rfl, s3⟩
      have H3 := hide s3
      clear s3
      go_wp2_with fail
      go_at_call 12
      refine (awake_any w3 H3.out.tab).mono ?_
      rintro e wd ⟨rfl, kd⟩
      have HD := hide (H3.out.be.trans (kd.mono H3.out.be.size))
      clear kd
      go_wp2_with fail
      try go_ret
      rw [HR.out]
      exact ⟨rfl, HD.out⟩
end Go.Proofs.YtgjgcdbhppaigaaDoor
