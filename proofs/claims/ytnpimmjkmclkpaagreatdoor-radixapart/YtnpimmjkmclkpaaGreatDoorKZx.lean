/- RadixApart: two trees, used in turns, don't see one another. -/
import Derived.Test.YtnpimmjkmclkpaaGreatDoorKZw
namespace Go.Proofs.YtnpimmjkmclkpaaGreatDoor
open Go.ChangeShapes Go.WideShapes Go.ChangeAt Go.RowKit Go.Proofs.Bt Go.Shelf Go.Proofs.Rx Go.Maps Go.Proofs.Pk
set_option linter.unusedVariables false
set_option linter.unusedSimpArgs false

/-- Two pairs that have no block in common. -/
def Ap (N : Nat) (w W : World) (tb rb ub qb M1 M2 : Nat) : Prop :=
  ∃ T L C st Q F o k, Tree W T L C st ∧ T.tb = ub ∧ T.B = N ∧ RefAt F W qb st Q o k ∧ Q.length ≤ M2 ∧ (∀ x, F x → ¬ Foot T C x ∧ N ≤ x ∧ x < W.heap.size) ∧ BothE N (fun x => Foot T C x ∨ F x) w W tb rb M1
section
variable {N : Nat} {w W W' : World} {tb rb ub qb M1 M2 M : Nat}
theorem Ap.swap (h : Ap N w W tb rb ub qb M1 M2) : Ap N w W ub qb tb rb M2 M1 := by
  obtain ⟨T', L', C', st', Q', F', o', k', tr', e1', e2', r', q', f', st, Q, F, o, k, hb, hq⟩ := h
  obtain ⟨T, L, C, e1, e2, tr, h2⟩ := hb.t.tr
  refine ⟨T, L, C, st, Q, F, o, k, tr, e1, e2, hb.r, hq, fun x hx => h2 x (.inl hx), st', Q', F', o', k', ⟨⟨⟨T', L', C', e1', e2', tr', fun x hx => ?_⟩, hb.t.be⟩, r', fun x hx z => ?_⟩, q'⟩
  · rcases hx with z | z | z
    · exact f' x z
    · exact ⟨fun y => (h2 x (.inr (.inl y))).1 z, by rw [← e2]; exact tr.rad.base x z, tr.rad.lt z⟩
    · exact ⟨fun y => hb.ap x z (.inl y), (h2 x (.inl z)).2⟩
  · rcases z with z | z
    · exact (h2 x (.inr (.inr hx))).1 z
    · exact hb.ap x z (.inr hx)
theorem Ap.of (T : Tid) (L : Lv) (C : Ch) {st : Nat → Nat} {Q : List (Nat × Nat)} {F : Nat → Prop} {o : Option Addr} {k : Nat} (tr : Tree W T L C st) (e1 : T.tb = ub) (e2 : T.B = N) (r : RefAt F W qb st Q o k) (q : Q.length ≤ M2) (f : ∀ x, F x → ¬ Foot T C x ∧ N ≤ x ∧ x < W.heap.size)
    (b : BothE N (fun x => Foot T C x ∨ F x) w W' tb rb M) (l : Left9 N (fun x => Foot T C x ∨ F x) W W') : Ap N w W' tb rb ub qb M M2 :=
  ⟨T, L, C, st, Q, F, o, k, ⟨tr.rad.kept l (fun x hx => ⟨fun z => hx.2 (.inl z), by rw [e2]; exact hx.1⟩), tr.good, tr.four, tr.out⟩, e1, e2, r.kept l (fun x hx z => z.2 (.inr hx)), q, fun x hx => ⟨(f x hx).1, (f x hx).2.1, by have := (f x hx).2.2; have := l.size; omega⟩, b⟩
theorem Ap.act (h : Ap N w W tb rb ub qb M1 M2) (hM : M1 ≤ 40) (a : Int) (x y : Nat) (hx : x < 18446744073709551616) (hy : y < 18446744073709551616) (M : Nat) (hM' : M1 + more9 a y ≤ M) :
    Calls Tryz.prog 7 #[.pointer (some ⟨tb, 0, none⟩), .pointer (some ⟨rb, 0, none⟩), .agg #[.int .i64 a, .int .u64 (x : Nat), .int .u64 (y : Nat)]] W fun e W' => e = .returned (.bool true) ∧ Ap N w W' tb rb ub qb M M2 := by
  obtain ⟨T, L, C, st, Q, F, o, k, tr, e1, e2, r, q, f, b⟩ := h
  exact (b.act hM a x y hx hy M hM').mono fun e W' ⟨h1, h2, h3⟩ => ⟨h1, Ap.of T L C tr e1 e2 r q f h2 h3⟩
theorem Ap.same (h : Ap N w W tb rb ub qb M1 M2) (hM : M1 ≤ 40) (step : Int) (s1 : 1 ≤ step) (s2 : step ≤ 512) :
    Calls Tryz.prog 8 #[.pointer (some ⟨tb, 0, none⟩), .pointer (some ⟨rb, 0, none⟩), .int .i64 step] W fun e W' => e = .returned (.bool true) ∧ Ap N w W' tb rb ub qb M1 M2 := by
  obtain ⟨T, L, C, st, Q, F, o, k, tr, e1, e2, r, q, f, b⟩ := h
  exact (b.same hM step s1 s2).mono fun e W' ⟨h1, h2, h3⟩ => ⟨h1, Ap.of T L C tr e1 e2 r q f h2 h3⟩
theorem Ap.tab (h : Ap N w W tb rb ub qb M1 M2) : TabW W := by
  obtain ⟨T, L, C, st, Q, F, o, k, tr, e1, e2, r, q, f, b⟩ := h
  exact b.tab
theorem Ap.be (h : Ap N w W tb rb ub qb M1 M2) : Below N w W ∧ N ≤ W.heap.size := by
  obtain ⟨T, L, C, st, Q, F, o, k, tr, e1, e2, r, q, f, b⟩ := h
  exact b.be
theorem BothE.mono (h : BothE N (fun _ => False) w W tb rb M1) (hM : M1 ≤ M) : BothE N (fun _ => False) w W tb rb M := by
  obtain ⟨st, Q, F, o, k, h, hq⟩ := h
  exact ⟨st, Q, F, o, k, h, by omega⟩
end
theorem Ap.mono {N : Nat} {w W : World} {tb rb ub qb M1 M2 M M' : Nat} (h : Ap N w W tb rb ub qb M1 M2) (h1 : M1 ≤ M) (h2 : M2 ≤ M') : Ap N w W tb rb ub qb M M' := by
  obtain ⟨T, L, C, st, Q, F, o, k, tr, e1, e2, r, q, f, st', Q', F', o', k', hb, hq⟩ := h
  exact ⟨T, L, C, st, Q, F, o, k, tr, e1, e2, r, by omega, f, st', Q', F', o', k', hb, by omega⟩
theorem ref_new {W : World} {rb : Nat} (f : W.heap[rb]? = some (.cells #[.slice none 0 0] 29 (0, 0))) : RefAt (fun x => x = rb) W rb (fun _ => 0) [] none 0 := by
  refine ⟨⟨?_, ?_, World.ownsRow_nil _ _ _ _, fun i hi => ?_, List.Pairwise.nil, fun p hp => absurd hp (by simp [pts])⟩, mt_nil, fun x hx => ?_⟩
  · show W.cell? ⟨rb, 0, none⟩ = _
    simp [World.cell?, f, pts]
  · simp [World.frozen?, f]
  · simp [pts] at hi
  · rcases hx with z | z | ⟨y, hy, _⟩
    · exact z
    · cases z
    · cases hy
theorem Tree.rebase {w : World} {T : Tid} {L : Lv} {C : Ch} {st : Nat → Nat} (h : Tree w T L C st) {B : Nat} (hB : B ≤ T.B) (h2 : 2 ≤ B) : Tree w { T with B := B } L C st :=
  ⟨⟨h.rad.tab, h.rad.c0, h.rad.c1, h.rad.lv, h.rad.mp, h.rad.cm, h.rad.ch, h.rad.apM, h.rad.apC, h.rad.apT, h.rad.apB, h.rad.inj, fun x hx => Nat.le_trans hB (h.rad.base x hx), h2⟩, h.good, h.four, h.out⟩
theorem ap_new {N : Nat} {w W1 W2 W4 : World} {tb rb ub qb : Nat} (t : T9 N (fun _ => False) w W1 tb (fun _ => 0)) (u : TreeE W1.heap.size (fun _ => False) W2 ub (fun _ => 0)) (b2 : Below W1.heap.size W1 W2) (b4 : Below W2.heap.size W2 W4) (s4 : W4.heap.size = W2.heap.size + 2)
    (hr : W2.heap.size ≤ rb ∧ rb < W2.heap.size + 2) (hq : W2.heap.size ≤ qb ∧ qb < W2.heap.size + 2) (ne : rb ≠ qb) (fr : W4.heap[rb]? = some (.cells #[.slice none 0 0] 29 (0, 0))) (fq : W4.heap[qb]? = some (.cells #[.slice none 0 0] 29 (0, 0))) : Ap N w W4 tb rb ub qb 0 0 := by
  obtain ⟨T, L, C, e1, e2, tr, -⟩ := u
  have n2 : 2 ≤ N := by
    obtain ⟨T', L', C', _, e2', tr', _⟩ := t.tr
    rw [← e2']; exact tr'.rad.two
  have nN := t.tr.lt.2.2
  have s2 := b2.size
  have fl : ∀ x, Foot T C x → W1.heap.size ≤ x ∧ x < W2.heap.size := fun x hx => ⟨by rw [← e2]; exact tr.rad.base x hx, tr.rad.lt hx⟩
  have tr4 := (tr.below b4).rebase (B := N) (by omega) n2
  refine ⟨{ T with B := N }, L, C, _, [], fun x => x = qb, none, 0, tr4, e1, rfl, ref_new fq, Nat.le_refl _, fun x hx => ⟨fun z => ?_, by omega, by omega⟩, _, [], fun x => x = rb, none, 0, ⟨t.more (b2.trans (b4.mono s2)) (fun x hx => ?_), ref_new fr, fun x hx z => ?_⟩, Nat.le_refl _⟩
  · have := fl x z; omega
  · refine .inr ?_
    rcases hx with z | z | z
    · omega
    · have := fl x z; omega
    · omega
  · rcases z with z | z
    · have := fl x z; omega
    · omega
set_option maxRecDepth 100000 in
set_option maxHeartbeats 4000000 in
theorem apart_any (w : World) (ht : TabW w) (o : Option Addr) (len cap : Nat) (hA : len ≤ maxLen ∧ len ≤ cap ∧ ∃ X, ActsAt w o len cap X) (o1 : Option Addr) (len1 cap1 : Nat) (hA1 : len1 ≤ maxLen ∧ len1 ≤ cap1 ∧ ∃ X, BoolsAt w o1 len1 cap1 X) :
    Calls Tryz.prog 4 #[.slice o len cap, .slice o1 len1 cap1] w fun e w' => e = .returned (.bool true) ∧ Below w.heap.size w w' := by
  obtain ⟨hm, hc, X, hX⟩ := hA
  obtain ⟨hm1, hc1, Y, hY⟩ := hA1
  obtain ⟨N, hN⟩ : ∃ N, w.heap.size = N := ⟨_, rfl⟩
  obtain ⟨R, hR⟩ : ∃ R : Ending → World → Prop, R = fun e w' => e = .returned (.bool true) ∧ Below w.heap.size w w' := ⟨_, rfl⟩
  rw [← hR]
  have FIN := hide (show ∀ W, Below N w W → R (.returned (.bool true)) W from fun W hW => by rw [hR]; exact ⟨rfl, by rw [hN]; exact hW⟩)
  have CH := hide (heavy_any w o len cap X hX hm)
  have CN := hide (t9_new ht hN)
  have HX := hide hX
  have HY := hide hY
  have HN := hide hN
  have m1 : (len1 : Int) ≤ 9223372036854775807 := by unfold maxLen at hm1; omega
  have m0 : 0 ≤ (len1 : Int) := by omega
  clear hR hX hm hc hN ht hY hm1 hc1
  go_enter Tryz.func4, Tryz.ntmps4
  go_wp2_with fail
  refine CH.out.mono ?_
  rintro e w0 ⟨(rfl | ⟨rfl, hl, hg⟩), hw0⟩
  · rw [hw0]
    have F0 := hide (FIN.out w (Below.refl _ _))
    clear hw0 CH CN FIN
    go_wp2_with fail
    first | exact F0.out | (go_ret; exact F0.out)
  rw [hw0]
  have HG := hide (show ∀ i, i ≤ len → gsum X i ≤ 40 from fun i hi => Nat.le_trans (gsum_mono X hi) hg)
  have l1 : (len : Int) ≤ 150 := by omega
  have l0 : 0 ≤ (len : Int) := by omega
  clear hw0 CH hg hl w0
  go_wp2_with fail
  refine CN.out.mono ?_
  rintro e w1 ⟨tb, rfl, t1⟩
  have C1 := hide (new9_any t1.tab)
  have T1 := hide t1
  clear t1 CN
  go_wp2_with fail
  refine C1.out.mono ?_
  rintro e w2 ⟨⟨ub, rfl, u2⟩, b2⟩
  have AN := hide (fun W4 rb qb => ap_new (W4 := W4) (rb := rb) (qb := qb) T1.out u2 b2)
  clear C1 T1 u2 b2
  obtain ⟨w4, hw4⟩ : ∃ w4, (w2.alloc (.cells #[.slice none 0 0] 29)).alloc (.cells #[.slice none 0 0] 29) = w4 := ⟨_, rfl⟩
  obtain ⟨rb, hrb⟩ : ∃ rb, w2.heap.size = rb := ⟨_, rfl⟩
  have I0 := hide (show Ap N w w4 tb rb ub (rb + 1) (gsum X 0) (gsum X 0) from AN.out w4 rb (rb + 1) (by rw [← hw4]; exact ((Below.refl _ w2).alloc (Nat.le_refl _) _).alloc (by simp) _) (by rw [← hw4]; simp) (by omega) (by omega) (by omega) (by rw [← hw4, ← hrb, alloc_at, if_neg (by simp), alloc_at, if_pos rfl]) (by rw [← hw4, ← hrb, alloc_at, if_pos (by simp)]))
  have W4 := hide hw4
  have HRB := hide hrb
  clear AN hw4 hrb
  go_wp2_with fail
  simp only [W4.out, HRB.out]
  clear W4 HRB
  go_loopw [9] (fun iv wr => ∃ i : Int, iv = .int .i64 i ∧ 0 ≤ i ∧ i ≤ len ∧ Hid (Ap N w wr tb rb ub (rb + 1) (gsum X i.toNat) (gsum X i.toNat))) (fun iv _ => (len - intOf iv).toNat)
  case atStart => exact ⟨0, rfl, by omega, by omega, I0⟩
  case round =>
    clear I0
    obtain ⟨i, rfl, i0, i1, HI⟩ := hrel
    by_cases hi : i < len
    · obtain ⟨b, off, rfl, hb, hcl⟩ := HX.out.at (i := i.toNat) (by omega)
      obtain ⟨c0, c1, c2⟩ := hcl i.toNat (by omega)
      have be := HI.out.be.1.block b (by rw [← HN.out]; exact hb)
      have d0 := (cell_block be _).trans c0
      have d1 := (cell_block be _).trans c1
      have d2 := (cell_block be _).trans c2
      have ok := HX.out.ok i.toNat
      have G0 := HG.out i.toNat (by omega)
      have ge : gsum X i.toNat + more9 (X i.toNat).what (X i.toNat).n ≤ gsum X (i + 1).toNat := by rw [show (i + 1).toNat = i.toNat + 1 by omega]; exact Nat.le_refl _
      have le : gsum X i.toNat ≤ gsum X (i + 1).toNat := gsum_mono X (by omega)
      have CA := hide (HI.out.act G0 (X i.toNat).what (X i.toNat).i (X i.toNat).n ok.b1 ok.c1 (gsum X (i + 1).toNat) ge)
      have CB := hide (HI.out.swap.act G0 (X i.toNat).what (X i.toNat).i (X i.toNat).n ok.b1 ok.c1 (gsum X (i + 1).toNat) ge)
      have LE := hide le
      have BE := hide HI.out.be.1
      generalize X i.toNat = A at d0 d1 d2 CA CB
      clear hcl hb c0 c1 c2 be ok G0 HI ge le
      by_cases h1 : i < len1
      · obtain ⟨b1, off1, rfl, hb1, hcl1⟩ := HY.out.at (i := i.toNat) (by omega)
        have y0 := (cell_block (BE.out.block b1 (by rw [← HN.out]; exact hb1)) _).trans (hcl1 i.toNat (by omega))
        generalize Y i.toNat = v at y0
        clear hcl1 hb1 BE
        cases v with
        | true =>
          clear CA
          go_wp2_with fail
          refine CB.out.mono ?_
          rintro e w5 ⟨rfl, h5⟩
          have H5 := hide (h5.swap.mono LE.out (Nat.le_refl _))
          clear CB h5 d0 d1 d2 y0
          go_wp2_with fail
          refine ⟨⟨i + 1, by go_num, by omega, by omega, H5⟩, ?_⟩
          simp [intOf]; omega
        | false =>
          clear CB
          go_wp2_with fail
          refine CA.out.mono ?_
          rintro e w5 ⟨rfl, h5⟩
          have H5 := hide (h5.mono (Nat.le_refl _) LE.out)
          clear CA h5 d0 d1 d2 y0
          go_wp2_with fail
          refine ⟨⟨i + 1, by go_num, by omega, by omega, H5⟩, ?_⟩
          simp [intOf]; omega
      · have h1' : (len1 : Int) ≤ i := by omega
        have dh : decide (i < (len1 : Int)) = false := decide_eq_false h1
        clear CB h1 BE
        go_wp2_with fail
        refine CA.out.mono ?_
        rintro e w5 ⟨rfl, h5⟩
        have H5 := hide (h5.mono (Nat.le_refl _) LE.out)
        clear CA h5 d0 d1 d2
        go_wp2_with fail
        refine ⟨⟨i + 1, by go_num, by omega, by omega, H5⟩, ?_⟩
        simp [intOf]; omega
    · have hi' : (len : Int) ≤ i := by omega
      have GI := HG.out i.toNat (by omega)
      have CS := hide (HI.out.same GI 11 (by omega) (by omega))
      have CT := hide (fun Z (hZ : Ap N w Z tb rb ub (rb + 1) (gsum X i.toNat) (gsum X i.toNat)) => hZ.swap.same GI 11 (by omega) (by omega))
      have hd : decide (i < (len : Int)) = false := decide_eq_false hi
      clear hi HI GI
      go_wp2_with fail
      refine CS.out.mono ?_
      rintro e w5 ⟨rfl, h5⟩
      have C5 := hide (CT.out w5 h5)
      clear h5 CS CT
      go_wp2_with fail
      refine C5.out.mono ?_
      rintro e w6 ⟨rfl, h6⟩
      have CW := hide (awake_any h6.tab)
      have B6 := hide h6.be
      clear h6 C5
      go_wp2_with fail
      refine CW.out.mono ?_
      rintro e w7 ⟨rfl, b7⟩
      have F0 := hide (FIN.out _ (B6.out.1.trans (b7.mono B6.out.2)))
      clear CW b7 FIN
      go_wp2_with fail
      first | exact F0.out | (go_ret; exact F0.out)
end Go.Proofs.YtnpimmjkmclkpaaGreatDoor
