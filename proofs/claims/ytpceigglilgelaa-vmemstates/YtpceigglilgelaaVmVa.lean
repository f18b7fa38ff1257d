/- Release at the face. -/
import Derived.Test.YtpceigglilgelaaVmV
namespace Go.Proofs.Ytpceigglilgelaa
open Go.ChangeShapes Go.WideShapes Go.ChangeAt Go.RowKit Go.Proofs.Sp

theorem row_all {f : Nat → Nat} {a c : Nat} {P : Nat → Prop} : (∀ i, i < c → P (f (a + i))) ↔ ∀ p, a ≤ p → p < a + c → P (f p) :=
  ⟨fun h p h1 h2 => by have := h (p - a) (by omega); rwa [show a + (p - a) = p by omega] at this, fun h i hi => h _ (by omega) (by omega)⟩
/-- What 'release' leaves. -/
theorem release_fits {S : Sp} {K K' n n' p c : Nat} {R R' : List (Nat × Nat)} {MP MF : Nat → Nat} {A : Nat → Nat → Nat} (h : Fits S K R n MP MF A) (hr : ∀ q, p ≤ q → q < p + c → S.st q = 2) (hR : R'.length ≤ R.length + 2) (hn : n' ≤ n) (hK : K + 2 ≤ K') :
    Fits { S with st := fun q => if p ≤ q ∧ q < p + c then 3 else S.st q } K' R' n' (cutM MP p (p + c)) (cutM MF p (p + c)) A := by
  have e0 : ∀ q, (if p ≤ q ∧ q < p + c then 3 else S.st q) = 0 ↔ S.st q = 0 := fun q => by
    by_cases z : p ≤ q ∧ q < p + c
    · rw [if_pos z, hr q z.1 z.2]; omega
    · rw [if_neg z]
  have rl := h.rl
  have nl := h.nl
  refine ⟨h.wf.turn rfl (fun q => not_congr (e0 q)) (fun q => ?_), fun q => ?_, ?_, fun q j hj hq => ?_, fun q hq => ?_, h.pl, h.fi, by omega, by omega⟩
  · show (if p ≤ q ∧ q < p + c then 3 else S.st q) ≤ 3
    have := h.wf.le3 q
    split <;> omega
  · show (if p ≤ q ∧ q < p + c then 3 else S.st q) = 0 ↔ (if p ≤ q / 512 * 512 ∧ q / 512 * 512 < p + c then 3 else S.st (q / 512 * 512)) = 0
    rw [e0, e0]; exact h.chunk q
  · show (if p ≤ 0 ∧ 0 < p + c then 3 else S.st 0) = 0
    rw [e0]; exact h.zero
  · have hq : (if p ≤ q ∧ q < p + c then 3 else S.st q) = 2 := hq
    by_cases z : p ≤ q ∧ q < p + c
    · rw [if_pos z] at hq; cases hq
    · rw [if_neg z] at hq
      show S.wd (q * 8192 + j * 8) = wordAt (cutM MP p (p + c)) (cutM MF p (p + c)) A q j
      rw [h.at_ q j hj hq]
      simp [wordAt, cutM, z]
  · have hq : (if p ≤ q ∧ q < p + c then 3 else S.st q) ≠ 2 := hq
    by_cases z : p ≤ q ∧ q < p + c
    · simp [cutM, z]
    · rw [if_neg z] at hq
      simpa [cutM, z] using h.non q hq
theorem put_eq (f : Nat → Nat) (p c s : Nat) : putSt f p (p + c) s = fun q => if p ≤ q ∧ q < p + c then s else f q := rfl
set_option maxRecDepth 100000 in
theorem vrelease {w : World} {m : Addr} {S : Sp} {F : Nat → Prop} {K : Nat} (a c : Int) (ha : two64 a) (hc : two64 c) (h : VI w m S F K) (hK : K ≤ lim) :
    Calls Try.prog vm.release #[.pointer (some m), .int .u64 a, .int .u64 c] w fun e w' => e = .returned (.int .i64 ((releaseS S a.toNat c.toNat).1 : Nat)) ∧ Step VI F w w' m (releaseS S a.toNat c.toNat).2 (K + cost (releaseS S a.toNat c.toNat).1 c.toNat) := by
  have V := hide h
  obtain ⟨b, g0, g1, g2, g, cap, R, bp, bf, n, MP, MF, A, rfl, e, l, k⟩ := h
  have h0 := ha.1
  have h1 := ha.2
  have c0 := hc.1
  have c1 := hc.2
  have rl := k.rl
  have nl := k.nl
  have hn : R.length ≤ 1099511627777 := by unfold lim at hK; omega
  have hn2 : n ≤ 4398046511104 := by unfold lim at hK; omega
  have L := hide l
  have KF := hide k
  have EF := hide e
  clear l k e rl nl ha hc
  show Calls Try.prog 13 _ w _
  by_cases r : right a.toNat c.toNat
  · have r' := r
    unfold right at r'
    have ac : a + c ≤ 34359738368 := by omega
    have cp : 0 < c := by omega
    have DR := hide (decide_eq_true r)
    by_cases q : ∀ i, i < c.toNat → S.st (a.toNat + i) = 2
    · have hl : releaseS S a.toNat c.toNat = (0, { S with st := fun p => if a.toNat ≤ p ∧ p < a.toNat + c.toNat then 3 else S.st p }) := by
        unfold releaseS
        rw [if_neg (fun z => z r), if_neg (fun z => z q)]
      rw [hl]
      have q2 := (row_all (P := fun x => x = 2)).1 q
      have a0 : 0 < a := by
        have z := KF.out.zero
        by_cases y : a.toNat = 0
        · have := q2 0 (by omega) (by omega); omega
        · omega
      have FIN : Hid (∀ w1 w2 w3, Below w.heap.size w w1 → WNow w1 w2 b bp bf n MP MF (fun _ => True) (fun q j => if a.toNat ≤ q ∧ q < (a + c).toNat then 0 else wordAt MP MF A q j) (cutM MP a.toNat (a + c).toNat) (cutM MF a.toNat (a + c).toNat) A → SetPost b 3 g R (putSt S.st a.toNat (a + c).toNat 3) w2 w3 → Step VI F w w3 ⟨b, 0, none⟩ { S with st := fun p => if a.toNat ≤ p ∧ p < a.toNat + c.toNat then 3 else S.st p } (K + cost 0 c.toNat)) := hide (by
        intro w1 w2 w3 k1 k2 k3
        rw [show (a + c).toNat = a.toNat + c.toNat by omega] at k2 k3
        obtain ⟨l2, m2⟩ := (L.out.below k1).turn k2
        obtain ⟨g', c', R', l3, hR, m3⟩ := l2.rowed k3
        rw [EF.out]
        refine VI.step ((Moves.below k1).trans (m2.trans m3)) ⟨b, g0, g1, g2, g', c', R', bp, bf, n, _, _, A, rfl, rfl, l3, ?_⟩
        exact release_fits KF.out q2 hR (Nat.le_refl _) (by simp [cost]; omega))
      have AR := hide q2
      obtain ⟨PO, hPO⟩ : ∃ PO : World → Prop, PO = fun w' => Step VI F w w' ⟨b, 0, none⟩ { S with st := fun p => if a.toNat ≤ p ∧ p < a.toNat + c.toNat then 3 else S.st p } (K + cost 0 c.toNat) := ⟨_, rfl⟩
      suffices Calls Try.prog 13 #[.pointer (some ⟨b, 0, none⟩), .int .u64 a, .int .u64 c] w fun e w' => e = .returned (.int .i64 0) ∧ PO w' by rw [hPO] at this; exact this
      have PE := hide hPO
      clear q q2 hl hPO r r'
      go_enter Try.func13, Try.ntmps13
      go_wp2_with (first
        | (go_at_call 31; refine (right_core a c h0 c0 h1 _).mono ?_; rintro e w' ⟨rfl, hw'⟩; rw [hw', DR.out]; clear hw' w'))
      refine (parts_core b 3 g cap R S.st a (a + c) h0 (by omega) ac (by omega) w L.out.rows.listAt L.out.rows.seg).mono ?_
      rintro e w1 ⟨v, Ps, rfl, hP, hC, hl, _, B1⟩
      have E := hide ((cover_ready hC).2 (fun p p1 p2 => AR.out p p1 (by omega)))
      have HP := hide hP
      have HB := hide B1
      clear hP hC B1
      go_wp2_with fail
      refine (allReady_core v Ps (by omega) w1 HP.out).mono ?_
      rintro e w2 ⟨rfl, B2⟩
      rw [E.out]
      have HB2 := hide (HB.out.trans (B2.mono HB.out.size))
      clear E HP B2 HB
      go_wp2_with fail
      refine (forget_cut b bp bf n MP MF A w2 (L.out.words.below HB2.out) hn2 a (a + c) h0 (by omega) (by omega)).mono ?_
      rintro e w3 ⟨rfl, hW⟩
      have L3 := hide ((L.out.below HB2.out).turn hW.out).1
      go_wp2_with fail
      refine (set_core b 3 g cap R S.st a (a + c) 3 a0 (by omega) ac (by omega) hn w3 L3.out.rows).mono ?_
      rintro e w4 ⟨rfl, hS⟩
      have HS := hide hS
      clear hS
      go_wp2_with fail
      go_ret
      refine ⟨rfl, ?_⟩
      rw [PE.out]
      exact FIN.out _ _ _ HB2.out hW.out HS.out
    · have hl : releaseS S a.toNat c.toNat = (33, S) := by
        unfold releaseS
        rw [if_neg (fun z => z r), if_pos q]
      rw [hl]
      have AR := hide (fun z => q ((row_all (P := fun x => x = 2)).2 z))
      have FIN : Hid (∀ w1, Below w.heap.size w w1 → Step VI F w w1 ⟨b, 0, none⟩ S (K + cost 33 c.toNat)) := hide (fun w1 k1 => (V.out.more (by omega)).below k1)
      obtain ⟨PO, hPO⟩ : ∃ PO : World → Prop, PO = fun w' => Step VI F w w' ⟨b, 0, none⟩ S (K + cost 33 c.toNat) := ⟨_, rfl⟩
      suffices Calls Try.prog 13 #[.pointer (some ⟨b, 0, none⟩), .int .u64 a, .int .u64 c] w fun e w' => e = .returned (.int .i64 33) ∧ PO w' by rw [hPO] at this; exact this
      have PE := hide hPO
      clear q hl hPO r r'
      go_enter Try.func13, Try.ntmps13
      go_wp2_with (first
        | (go_at_call 31; refine (right_core a c h0 c0 h1 _).mono ?_; rintro e w' ⟨rfl, hw'⟩; rw [hw', DR.out]; clear hw' w'))
      refine (parts_core b 3 g cap R S.st a (a + c) h0 (by omega) ac (by omega) w L.out.rows.listAt L.out.rows.seg).mono ?_
      rintro e w1 ⟨v, Ps, rfl, hP, hC, hl, _, B1⟩
      have E : Hid ((!(Ps.any fun x => ((x.2.2 : Int) != 2))) = false) := hide (by
        cases z : (!(Ps.any fun x => ((x.2.2 : Int) != 2)))
        · rfl
        · exact absurd (fun p p1 p2 => (cover_ready hC).1 z p p1 (by omega)) AR.out)
      have HP := hide hP
      have HB := hide B1
      clear hP hC B1
      go_wp2_with fail
      refine (allReady_core v Ps (by omega) w1 HP.out).mono ?_
      rintro e w2 ⟨rfl, B2⟩
      rw [E.out]
      have HB2 := hide (HB.out.trans (B2.mono HB.out.size))
      clear E HP B2 HB
      go_wp2_with fail
      go_ret
      refine ⟨rfl, ?_⟩
      rw [PE.out]
      exact FIN.out _ HB2.out
  · have hl : releaseS S a.toNat c.toNat = (1, S) := by
      unfold releaseS
      rw [if_pos r]
    rw [hl]
    have DR := hide (decide_eq_false r)
    have T := hide ((V.out.more (K' := K + cost 1 c.toNat) (by omega)).below (Below.refl _ _))
    clear r hl
    go_enter Try.func13, Try.ntmps13
    go_wp2_with (first
      | (go_at_call 31; refine (right_core a c h0 c0 h1 _).mono ?_; rintro e w' ⟨rfl, hw'⟩; rw [hw', DR.out]; clear hw' w'))
    go_ret
    exact ⟨rfl, T.out⟩
end Go.Proofs.Ytpceigglilgelaa
