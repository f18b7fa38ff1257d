/- J14 of the proof of both laws: texts VmV, VmVa, VmVb, one behind the other. -/
import Derived.Test.YtlfcnaalkjpgnaaJ13
/- Count and Release at the face. -/
namespace Go.Proofs.Ytlfcnaalkjpgnaa
open Go.ChangeShapes Go.WideShapes Go.ChangeAt Go.RowKit Go.Proofs.Sp

theorem cnt_list (f : Nat → Nat) (k : Nat) : ∀ (n a : Nat) (l : List Nat), l.Pairwise (· < ·) → (∀ p ∈ l, a ≤ p ∧ p < a + n) → (∀ p, a ≤ p → p < a + n → f p = k → p ∈ l) → cntI f a n k = l.countP fun p => decide (f p = k)
  | 0, a, l, _, h2, _ => by
    cases l with
    | nil => rfl
    | cons x r => have := h2 x (List.mem_cons_self); omega
  | n + 1, a, l, h1, h2, h3 => by
    have e : cntI f a (n + 1) k = (if f a = k then 1 else 0) + cntI f (a + 1) n k := by
      unfold cntI
      rw [List.range'_succ, List.countP_cons]
      by_cases z : f a = k <;> simp [z]; omega
    rw [e]
    cases l with
    | nil =>
      rw [if_neg (fun z => by have := h3 a (by omega) (by omega) z; cases this), cnt_list f k n (a + 1) [] List.Pairwise.nil (fun p h => by cases h) (fun p p1 p2 p3 => h3 p (by omega) (by omega) p3)]
      rfl
    | cons x r =>
      obtain ⟨q1, q2⟩ := List.pairwise_cons.1 h1
      have hx := h2 x List.mem_cons_self
      by_cases z : x = a
      · subst z
        rw [cnt_list f k n (x + 1) r q2 (fun p hp => ⟨q1 p hp, by have := h2 p (List.mem_cons_of_mem _ hp); omega⟩) (fun p p1 p2 p3 => by
          rcases List.mem_cons.1 (h3 p (by omega) (by omega) p3) with e | e
          · omega
          · exact e), List.countP_cons]
        by_cases y : f x = k <;> simp [y]; omega
      · rw [if_neg (fun y => by
          rcases List.mem_cons.1 (h3 a (by omega) (by omega) y) with e | e
          · exact z e.symm
          · have := q1 a e; omega), Nat.zero_add]
        exact cnt_list f k n (a + 1) (x :: r) h1 (fun p hp => ⟨by
          rcases List.mem_cons.1 hp with e | e
          · omega
          · have := q1 p e; omega, by have := h2 p hp; omega⟩) (fun p p1 p2 p3 => h3 p (by omega) (by omega) p3)
theorem count_rows {S : Sp} (h : WF S) (k : Nat) (hk : k ≠ 0) : countS S (k : Int) = cntI S.st 0 34359738368 k := by
  rw [cnt_list S.st k 34359738368 0 S.pgs h.rising (fun p hp => ⟨by omega, by have := h.below p hp; omega⟩) (fun p _ _ e => (h.mem p).1 (by omega))]
  unfold countS
  congr 1
  funext p
  congr 1
  exact propext ⟨fun z => by omega, fun z => by omega⟩
theorem count_other {S : Sp} (h : WF S) (k : Int) (hk : k ≠ 1 ∧ k ≠ 2 ∧ k ≠ 3) : countS S k = 0 := by
  unfold countS
  rw [List.countP_eq_zero]
  intro p hp z
  have z := of_decide_eq_true z
  have a := (h.mem p).2 hp
  have b := h.le3 p
  omega
theorem vcount {w : World} {m : Addr} {S : Sp} {F : Nat → Prop} {K : Nat} (k : Int) (k1 : -9223372036854775808 ≤ k) (k2 : k ≤ 9223372036854775807) (h : VI w m S F K) :
    Calls Try.prog vm.count #[.pointer (some m), .int .i64 k] w fun e w' => e = .returned (.int .u64 (countS S k : Nat)) ∧ Step VI F w w' m S K := by
  have V := hide h
  obtain ⟨b, g0, g1, g2, g, cap, R, bp, bf, n, MP, MF, A, rfl, e, l, kf⟩ := h
  have c1 := l.rows.cnt 1 (by omega)
  have c2 := l.rows.cnt 2 (by omega)
  have c3 := l.rows.cnt 3 (by omega)
  rw [← count_rows kf.wf 1 (by omega)] at c1
  rw [← count_rows kf.wf 2 (by omega)] at c2
  rw [← count_rows kf.wf 3 (by omega)] at c3
  obtain ⟨x, hx⟩ : ∃ x : Nat, x = countS S k := ⟨_, rfl⟩
  rw [← hx]
  have T := hide (V.out.below (Below.refl _ _))
  by_cases z1 : k = 1
  · subst z1
    rw [show ((1 : Nat) : Int) = 1 by rfl, ← hx] at c1
    clear e l kf c2 c3 hx V
    show Calls Try.prog 28 _ w _
    go_enter Try.func28, Try.ntmps28
    go_wp2_with fail
    go_ret
    exact ⟨rfl, T.out⟩
  · by_cases z2 : k = 2
    · subst z2
      rw [show ((2 : Nat) : Int) = 2 by rfl, ← hx] at c2
      clear e l kf c1 c3 hx V
      show Calls Try.prog 28 _ w _
      go_enter Try.func28, Try.ntmps28
      go_wp2_with fail
      go_ret
      exact ⟨rfl, T.out⟩
    · by_cases z3 : k = 3
      · subst z3
        rw [show ((3 : Nat) : Int) = 3 by rfl, ← hx] at c3
        clear e l kf c1 c2 hx V
        show Calls Try.prog 28 _ w _
        go_enter Try.func28, Try.ntmps28
        go_wp2_with fail
        go_ret
        exact ⟨rfl, T.out⟩
      · have hx0 : x = 0 := hx.trans (count_other kf.wf k ⟨z1, z2, z3⟩)
        subst hx0
        have y1 : (k == 1) = false := beq_eq_false_iff_ne.2 z1
        have y2 : (k == 2) = false := beq_eq_false_iff_ne.2 z2
        have y3 : (k == 3) = false := beq_eq_false_iff_ne.2 z3
        clear e l kf c1 c2 c3 hx V z1 z2 z3
        show Calls Try.prog 28 _ w _
        go_enter Try.func28, Try.ntmps28
        go_wp2_with fail
        go_ret
        exact ⟨rfl, T.out⟩
end Go.Proofs.Ytlfcnaalkjpgnaa

/- Release at the face. -/
namespace Go.Proofs.Ytlfcnaalkjpgnaa
open Go.ChangeShapes Go.WideShapes Go.ChangeAt Go.RowKit Go.Proofs.Sp

theorem row_all {f : Nat → Nat} {a c : Nat} {P : Nat → Prop} : (∀ i, i < c → P (f (a + i))) ↔ ∀ p, a ≤ p → p < a + c → P (f p) :=
  ⟨fun h p h1 h2 => by have := h (p - a) (by omega); rwa [show a + (p - a) = p by omega] at this, fun h i hi => h _ (by omega) (by omega)⟩
/-- What 'release' leaves. -/
theorem release_fits {S : Sp} {K K' n n' p c : Nat} {R R' : List (Nat × Nat)} {MP MF : Nat → Nat} {A : Nat → Nat → Nat} (h : Fits S K R n MP MF A) (hr : ∀ q, p ≤ q → q < p + c → S.st q = 2) (hR : R'.length ≤ R.length + 2) (hn : n' ≤ n) (hK : K + 2 ≤ K') :
    Fits { S with st := fun q => if p ≤ q ∧ q < p + c then 3 else S.st q } K' R' n' (cutM MP p (p + c)) (cutM MF p (p + c)) A := by
  have e0 : ∀ q, (if p ≤ q ∧ q < p + c then 3 else S.st q) = 0 ↔ S.st q = 0 := fun q => by
    by_cases z : p ≤ q ∧ q < p + c
    · rw [if_pos z, hr q z.1 z.2]; omega
    · rw [if_neg z]
  have rl := h.rl
  have nl := h.nl
  refine ⟨h.wf.turn rfl (fun q => not_congr (e0 q)) (fun q => ?_), fun q => ?_, ?_, fun q j hj hq => ?_, fun q hq => ?_, h.pl, h.fi, by omega, by omega⟩
  · show (if p ≤ q ∧ q < p + c then 3 else S.st q) ≤ 3
    have := h.wf.le3 q
    split <;> omega
  · show (if p ≤ q ∧ q < p + c then 3 else S.st q) = 0 ↔ (if p ≤ q / 512 * 512 ∧ q / 512 * 512 < p + c then 3 else S.st (q / 512 * 512)) = 0
    rw [e0, e0]; exact h.chunk q
  · show (if p ≤ 0 ∧ 0 < p + c then 3 else S.st 0) = 0
    rw [e0]; exact h.zero
  · have hq : (if p ≤ q ∧ q < p + c then 3 else S.st q) = 2 := hq
    by_cases z : p ≤ q ∧ q < p + c
    · rw [if_pos z] at hq; cases hq
    · rw [if_neg z] at hq
      show S.wd (q * 8192 + j * 8) = wordAt (cutM MP p (p + c)) (cutM MF p (p + c)) A q j
      rw [h.at_ q j hj hq]
      simp [wordAt, cutM, z]
  · have hq : (if p ≤ q ∧ q < p + c then 3 else S.st q) ≠ 2 := hq
    by_cases z : p ≤ q ∧ q < p + c
    · simp [cutM, z]
    · rw [if_neg z] at hq
      simpa [cutM, z] using h.non q hq
theorem put_eq (f : Nat → Nat) (p c s : Nat) : putSt f p (p + c) s = fun q => if p ≤ q ∧ q < p + c then s else f q := rfl
set_option maxRecDepth 100000 in
theorem vrelease {w : World} {m : Addr} {S : Sp} {F : Nat → Prop} {K : Nat} (a c : Int) (ha : two64 a) (hc : two64 c) (h : VI w m S F K) (hK : K ≤ lim) :
    Calls Try.prog vm.release #[.pointer (some m), .int .u64 a, .int .u64 c] w fun e w' => e = .returned (.int .i64 ((releaseS S a.toNat c.toNat).1 : Nat)) ∧ Step VI F w w' m (releaseS S a.toNat c.toNat).2 (K + cost (releaseS S a.toNat c.toNat).1 c.toNat) := by
  have V := hide h
  obtain ⟨b, g0, g1, g2, g, cap, R, bp, bf, n, MP, MF, A, rfl, e, l, k⟩ := h
  have h0 := ha.1
  have h1 := ha.2
  have c0 := hc.1
  have c1 := hc.2
  have rl := k.rl
  have nl := k.nl
  have hn : R.length ≤ 1099511627777 := by unfold lim at hK; omega
  have hn2 : n ≤ 4398046511104 := by unfold lim at hK; omega
  have L := hide l
  have KF := hide k
  have EF := hide e
  clear l k e rl nl ha hc
  show Calls Try.prog 20 _ w _
  by_cases r : right a.toNat c.toNat
  · have r' := r
    unfold right at r'
    have ac : a + c ≤ 34359738368 := by omega
    have cp : 0 < c := by omega
    have DR := hide (decide_eq_true r)
    by_cases q : ∀ i, i < c.toNat → S.st (a.toNat + i) = 2
    · have hl : releaseS S a.toNat c.toNat = (0, { S with st := fun p => if a.toNat ≤ p ∧ p < a.toNat + c.toNat then 3 else S.st p }) := by
        unfold releaseS
        rw [if_neg (fun z => z r), if_neg (fun z => z q)]
      rw [hl]
      have q2 := (row_all (P := fun x => x = 2)).1 q
      have a0 : 0 < a := by
        have z := KF.out.zero
        by_cases y : a.toNat = 0
        · have := q2 0 (by omega) (by omega); omega
        · omega
      have FIN : Hid (∀ w1 w2 w3, Below w.heap.size w w1 → WNow w1 w2 b bp bf n MP MF (fun _ => True) (fun q j => if a.toNat ≤ q ∧ q < (a + c).toNat then 0 else wordAt MP MF A q j) (cutM MP a.toNat (a + c).toNat) (cutM MF a.toNat (a + c).toNat) A → SetPost b 3 g R (putSt S.st a.toNat (a + c).toNat 3) w2 w3 → Step VI F w w3 ⟨b, 0, none⟩ { S with st := fun p => if a.toNat ≤ p ∧ p < a.toNat + c.toNat then 3 else S.st p } (K + cost 0 c.toNat)) := hide (by
        intro w1 w2 w3 k1 k2 k3
        rw [show (a + c).toNat = a.toNat + c.toNat by omega] at k2 k3
        obtain ⟨l2, m2⟩ := (L.out.below k1).turn k2
        obtain ⟨g', c', R', l3, hR, m3⟩ := l2.rowed k3
        rw [EF.out]
        refine VI.step ((Moves.below k1).trans (m2.trans m3)) ⟨b, g0, g1, g2, g', c', R', bp, bf, n, _, _, A, rfl, rfl, l3, ?_⟩
        exact release_fits KF.out q2 hR (Nat.le_refl _) (by simp [cost]; omega))
      have AR := hide q2
      obtain ⟨PO, hPO⟩ : ∃ PO : World → Prop, PO = fun w' => Step VI F w w' ⟨b, 0, none⟩ { S with st := fun p => if a.toNat ≤ p ∧ p < a.toNat + c.toNat then 3 else S.st p } (K + cost 0 c.toNat) := ⟨_, rfl⟩
      suffices Calls Try.prog 20 #[.pointer (some ⟨b, 0, none⟩), .int .u64 a, .int .u64 c] w fun e w' => e = .returned (.int .i64 0) ∧ PO w' by rw [hPO] at this; exact this
      have PE := hide hPO
      clear q q2 hl hPO r r'
      go_enter Try.func20, Try.ntmps20
      go_wp2_with (first
        | (go_at_call 40; refine (right_core a c h0 c0 h1 _).mono ?_; rintro e w' ⟨rfl, hw'⟩; rw [hw', DR.out]; clear hw' w'))
      refine (parts_core b 3 g cap R S.st a (a + c) h0 (by omega) ac (by omega) w L.out.rows.listAt L.out.rows.seg).mono ?_
      rintro e w1 ⟨v, Ps, rfl, hP, hC, hl, _, B1⟩
      have E := hide ((cover_ready hC).2 (fun p p1 p2 => AR.out p p1 (by omega)))
      have HP := hide hP
      have HB := hide B1
      clear hP hC B1
      go_wp2_with fail
      refine (allReady_core v Ps (by omega) w1 HP.out).mono ?_
      rintro e w2 ⟨rfl, B2⟩
      rw [E.out]
      have HB2 := hide (HB.out.trans (B2.mono HB.out.size))
      clear E HP B2 HB
      go_wp2_with fail
      refine (forget_cut b bp bf n MP MF A w2 (L.out.words.below HB2.out) hn2 a (a + c) h0 (by omega) (by omega)).mono ?_
      rintro e w3 ⟨rfl, hW⟩
      have L3 := hide ((L.out.below HB2.out).turn hW.out).1
      go_wp2_with fail
      refine (set_core b 3 g cap R S.st a (a + c) 3 a0 (by omega) ac (by omega) hn w3 L3.out.rows).mono ?_
      rintro e w4 ⟨rfl, hS⟩
      have HS := hide hS
      clear hS
      go_wp2_with fail
      go_ret
      refine ⟨rfl, ?_⟩
      rw [PE.out]
      exact FIN.out _ _ _ HB2.out hW.out HS.out
    · have hl : releaseS S a.toNat c.toNat = (33, S) := by
        unfold releaseS
        rw [if_neg (fun z => z r), if_pos q]
      rw [hl]
      have AR := hide (fun z => q ((row_all (P := fun x => x = 2)).2 z))
      have FIN : Hid (∀ w1, Below w.heap.size w w1 → Step VI F w w1 ⟨b, 0, none⟩ S (K + cost 33 c.toNat)) := hide (fun w1 k1 => (V.out.more (by omega)).below k1)
      obtain ⟨PO, hPO⟩ : ∃ PO : World → Prop, PO = fun w' => Step VI F w w' ⟨b, 0, none⟩ S (K + cost 33 c.toNat) := ⟨_, rfl⟩
      suffices Calls Try.prog 20 #[.pointer (some ⟨b, 0, none⟩), .int .u64 a, .int .u64 c] w fun e w' => e = .returned (.int .i64 33) ∧ PO w' by rw [hPO] at this; exact this
      have PE := hide hPO
      clear q hl hPO r r'
      go_enter Try.func20, Try.ntmps20
      go_wp2_with (first
        | (go_at_call 40; refine (right_core a c h0 c0 h1 _).mono ?_; rintro e w' ⟨rfl, hw'⟩; rw [hw', DR.out]; clear hw' w'))
      refine (parts_core b 3 g cap R S.st a (a + c) h0 (by omega) ac (by omega) w L.out.rows.listAt L.out.rows.seg).mono ?_
      rintro e w1 ⟨v, Ps, rfl, hP, hC, hl, _, B1⟩
      have E : Hid ((!(Ps.any fun x => ((x.2.2 : Int) != 2))) = false) := hide (by
        cases z : (!(Ps.any fun x => ((x.2.2 : Int) != 2)))
        · rfl
        · exact absurd (fun p p1 p2 => (cover_ready hC).1 z p p1 (by omega)) AR.out)
      have HP := hide hP
      have HB := hide B1
      clear hP hC B1
      go_wp2_with fail
      refine (allReady_core v Ps (by omega) w1 HP.out).mono ?_
      rintro e w2 ⟨rfl, B2⟩
      rw [E.out]
      have HB2 := hide (HB.out.trans (B2.mono HB.out.size))
      clear E HP B2 HB
      go_wp2_with fail
      go_ret
      refine ⟨rfl, ?_⟩
      rw [PE.out]
      exact FIN.out _ HB2.out
  · have hl : releaseS S a.toNat c.toNat = (1, S) := by
      unfold releaseS
      rw [if_pos r]
    rw [hl]
    have DR := hide (decide_eq_false r)
    have T := hide ((V.out.more (K' := K + cost 1 c.toNat) (by omega)).below (Below.refl _ _))
    clear r hl
    go_enter Try.func20, Try.ntmps20
    go_wp2_with (first
      | (go_at_call 40; refine (right_core a c h0 c0 h1 _).mono ?_; rintro e w' ⟨rfl, hw'⟩; rw [hw', DR.out]; clear hw' w'))
    go_ret
    exact ⟨rfl, T.out⟩
end Go.Proofs.Ytlfcnaalkjpgnaa

/- Reserve at the face. -/
namespace Go.Proofs.Ytlfcnaalkjpgnaa
open Go.ChangeShapes Go.WideShapes Go.ChangeAt Go.RowKit Go.Proofs.Sp

theorem Fits.asked {S : Sp} {K n : Nat} {R : List (Nat × Nat)} {MP MF : Nat → Nat} {A : Nat → Nat → Nat} (h : Fits S K R n MP MF A) : Fits (takeRefuse S) K R n MP MF A := ⟨h.wf.refuse, h.chunk, h.zero, h.at_, h.non, h.pl, h.fi, h.rl, h.nl⟩
theorem Fits.placed {S : Sp} {K n : Nat} {R : List (Nat × Nat)} {MP MF : Nat → Nat} {A : Nat → Nat → Nat} (h : Fits S K R n MP MF A) : Fits (takePlace S) K R n MP MF A := ⟨h.wf.place, h.chunk, h.zero, h.at_, h.non, fun x hx => h.pl x (List.mem_of_mem_tail hx), h.fi, h.rl, h.nl⟩
theorem lay_fits {S : Sp} {K K' n q c : Nat} {R R' : List (Nat × Nat)} {MP MF : Nat → Nat} {A : Nat → Nat → Nat} (h : Fits S K R n MP MF A) (hf : free S c q) (hc : c % 512 = 0) (hR : R'.length ≤ R.length + 2) (hK : K + 2 ≤ K') : Fits (lay S q c) K' R' n MP MF A := by
  obtain ⟨f1, f2, f3, f4⟩ := hf
  have f5 := (row_all (P := fun x => x = 0)).1 f4
  have rl := h.rl
  have nl := h.nl
  refine ⟨h.wf.lay ⟨f1, f2, f3, f4⟩, fun p => ?_, ?_, fun p j hj hp => ?_, fun p hp => ?_, h.pl, h.fi, by omega, by omega⟩
  · show (if q ≤ p ∧ p < q + c then 1 else S.st p) = 0 ↔ (if q ≤ p / 512 * 512 ∧ p / 512 * 512 < q + c then 1 else S.st (p / 512 * 512)) = 0
    by_cases z : q ≤ p ∧ p < q + c
    · rw [if_pos z, if_pos (by omega)]
    · rw [if_neg z, if_neg (by omega)]; exact h.chunk p
  · show (if q ≤ 0 ∧ 0 < q + c then 1 else S.st 0) = 0
    rw [if_neg (by omega)]; exact h.zero
  · have hp : (if q ≤ p ∧ p < q + c then 1 else S.st p) = 2 := hp
    by_cases z : q ≤ p ∧ p < q + c
    · rw [if_pos z] at hp; cases hp
    · rw [if_neg z] at hp; exact h.at_ p j hj hp
  · have hp : (if q ≤ p ∧ p < q + c then 1 else S.st p) ≠ 2 := hp
    by_cases z : q ≤ p ∧ p < q + c
    · exact h.non p (by rw [f5 p z.1 z.2]; decide)
    · rw [if_neg z] at hp; exact h.non p hp
set_option maxRecDepth 100000 in
set_option maxHeartbeats 1000000 in
theorem vreserve {w : World} {m : Addr} {S : Sp} {F : Nat → Prop} {K : Nat} (a c : Int) (ha : two64 a) (hc : two64 c) (h : VI w m S F K) (hK : K ≤ lim) :
    Calls Try.prog vm.reserve #[.pointer (some m), .int .u64 a, .int .u64 c] w fun e w' => e = .returned (.tuple #[.int .u64 ((reserveS S a.toNat c.toNat).1 : Nat), .int .i64 ((reserveS S a.toNat c.toNat).2.1 : Nat)]) ∧ Step VI F w w' m (reserveS S a.toNat c.toNat).2.2 (K + cost (reserveS S a.toNat c.toNat).2.1 c.toNat) := by
  have V := hide h
  obtain ⟨b, g0, g1, g2, g, cap, R, bp, bf, n, MP, MF, A, rfl, e, l, k⟩ := h
  have h0 := ha.1
  have h1 := ha.2
  have c0 := hc.1
  have c1 := hc.2
  have rl := k.rl
  have nl := k.nl
  have hn : R.length ≤ 1099511627777 := by unfold lim at hK; omega
  have L := hide l
  have KF := hide k
  have EF := hide e
  obtain ⟨v1, v1c, v1s⟩ := l.s1
  have v1f := l.rows.fz 1
  have S1 := hide v1s
  clear l k e rl nl ha hc v1s
  show Calls Try.prog 16 _ w _
  by_cases r : c.toNat = 0 ∨ c.toNat % 512 ≠ 0 ∨ 134217728 < c.toNat
  · have hl : reserveS S a.toNat c.toNat = (0, 1, S) := by
      unfold reserveS
      rw [if_pos r]
    rw [hl]
    have T := hide ((V.out.more (K' := K + cost 1 c.toNat) (by omega)).below (Below.refl _ _))
    by_cases z0 : c = 0
    · subst z0
      clear r hl
      go_enter Try.func16, Try.ntmps16
      go_wp2_with fail
      go_ret2
      exact ⟨rfl, T.out⟩
    · have y0 : (c == 0) = false := beq_eq_false_iff_ne.2 z0
      by_cases z1 : c % 512 = 0
      · have y2 : c > 134217728 := by omega
        clear r hl
        go_enter Try.func16, Try.ntmps16
        go_wp2_with fail
        go_ret2
        exact ⟨rfl, T.out⟩
      · have y1 : (c % 512 != 0) = true := by rw [bne_iff_ne]; exact z1
        clear r hl
        go_enter Try.func16, Try.ntmps16
        go_wp2_with fail
        go_ret2
        exact ⟨rfl, T.out⟩
  · have cz : c ≠ 0 := by omega
    have y0 : (c == 0) = false := beq_eq_false_iff_ne.2 cz
    have z1 : c % 512 = 0 := by omega
    have y2 : ¬ c > 134217728 := by omega
    have cp : 0 < c := by omega
    by_cases q : S.refuse.headD false = true
    · have hl : reserveS S a.toNat c.toNat = (0, 13, takeRefuse S) := by
        unfold reserveS
        rw [if_neg r, if_pos q]
      rw [hl]
      have Q := hide (show S.refuse.head?.getD false = true by rw [← List.headD_eq_head?_getD]; exact q)
      have FIN : Hid (∀ w1 v', Cell1 b 1 w w1 v' → SlB w1 v' (bools S.refuse.tail) g1 → Step VI F w w1 ⟨b, 0, none⟩ (takeRefuse S) (K + cost 13 c.toNat)) := hide (by
        intro w1 v' k1 k2
        obtain ⟨l1, m1⟩ := L.out.refuse k1 k2
        rw [EF.out]
        exact VI.step m1 ⟨b, g0, g1, g2, g, cap, R, bp, bf, n, MP, MF, A, rfl, rfl, l1, KF.out.asked.more (by omega)⟩)
      obtain ⟨PO, hPO⟩ : ∃ PO : World → Prop, PO = fun w' => Step VI F w w' ⟨b, 0, none⟩ (takeRefuse S) (K + cost 13 c.toNat) := ⟨_, rfl⟩
      suffices Calls Try.prog 16 #[.pointer (some ⟨b, 0, none⟩), .int .u64 a, .int .u64 c] w fun e w' => e = .returned (.tuple #[.int .u64 0, .int .i64 13]) ∧ PO w' by rw [hPO] at this; exact this
      have PE := hide hPO
      clear q hl hPO r cz
      go_enter Try.func16, Try.ntmps16
      go_wp2_with fail
      refine (refused_core b g1 v1 S.refuse w v1c v1f S1.out).mono ?_
      rintro e w1 ⟨rfl, hT⟩
      rw [Q.out]
      have T := hide hT
      clear hT
      go_wp2_with fail
      go_ret2
      refine ⟨rfl, ?_⟩
      rw [PE.out]
      obtain ⟨v', k1, k2⟩ := took_bool v1c T.out S1.out L.out.n1
      exact FIN.out _ v' k1 k2
    · have Q := hide (show S.refuse.head?.getD false = false by rw [← List.headD_eq_head?_getD]; simpa using q)
      cases z : placeA S a.toNat c.toNat with
      | none =>
        have hl : reserveS S a.toNat c.toNat = (0, 13, takePlace (takeRefuse S)) := by
          unfold reserveS
          unfold placeA at z
          rw [if_neg r, if_neg q, z]
        rw [hl]
        have Z := hide z
        have FIN : Hid (∀ w1 v', Cell1 b 1 w w1 v' → SlB w1 v' (bools S.refuse.tail) g1 → Lies w1 b S.places S.refuse.tail S.fills S.st g0 g1 g2 g cap R bp bf n MP MF A ∧ ∀ w2 v', Cell1 b 0 w1 w2 v' → SlB w2 v' (u64s S.places.tail) g0 → Step VI F w w2 ⟨b, 0, none⟩ (takePlace (takeRefuse S)) (K + cost 13 c.toNat)) := hide (by
          intro w1 v' k1 k2
          obtain ⟨l1, m1⟩ := L.out.refuse k1 k2
          refine ⟨l1, fun w2 v2 k3 k4 => ?_⟩
          obtain ⟨l2, m2⟩ := l1.place k3 k4
          rw [EF.out]
          exact VI.step (m1.trans m2) ⟨b, g0, g1, g2, g, cap, R, bp, bf, n, MP, MF, A, rfl, rfl, l2, KF.out.asked.placed.more (by omega)⟩)
        obtain ⟨PO, hPO⟩ : ∃ PO : World → Prop, PO = fun w' => Step VI F w w' ⟨b, 0, none⟩ (takePlace (takeRefuse S)) (K + cost 13 c.toNat) := ⟨_, rfl⟩
        suffices Calls Try.prog 16 #[.pointer (some ⟨b, 0, none⟩), .int .u64 a, .int .u64 c] w fun e w' => e = .returned (.tuple #[.int .u64 0, .int .i64 13]) ∧ PO w' by rw [hPO] at this; exact this
        have PE := hide hPO
        clear q hl hPO r cz z
        go_enter Try.func16, Try.ntmps16
        go_wp2_with fail
        refine (refused_core b g1 v1 S.refuse w v1c v1f S1.out).mono ?_
        rintro e w1 ⟨rfl, hT⟩
        rw [Q.out]
        obtain ⟨v', k1, k2⟩ := took_bool v1c hT S1.out L.out.n1
        have FI := hide (FIN.out w1 v' k1 k2)
        clear hT k1 k2 v'
        go_wp2_with fail
        obtain ⟨v0, v0c, v0s⟩ := FI.out.1.s0
        refine (place_core b g g0 cap v0 R S a c h0 h1 cp (by omega) z1 (by omega) w1 FI.out.1.rows.listAt FI.out.1.rows.seg FI.out.1.rows.alt KF.out.chunk v0c (FI.out.1.rows.fz 0) v0s KF.out.pl FI.out.1.rows.ne L.out.n0).mono ?_
        rintro e w2 ⟨rfl, v', k1, k2⟩
        have FJ := hide (FI.out.2 w2 v' k1 k2)
        rw [Z.out, opt2_none]
        clear k1 k2 v0c v0s
        go_wp2_with fail
        go_ret2
        refine ⟨rfl, ?_⟩
        rw [PE.out]
        exact FJ.out
      | some x =>
        have hl : reserveS S a.toNat c.toNat = (x, 0, lay (takePlace (takeRefuse S)) x c.toNat) := by
          unfold reserveS
          unfold placeA at z
          rw [if_neg r, if_neg q, z]
        rw [hl]
        have Z := hide z
        have hf : free S c.toNat x := or_free z
        have hf2 : free (takePlace (takeRefuse S)) c.toNat x := hf
        have x0 : (0 : Int) < (x : Int) := by have := hf.2.1; omega
        have x1 : (x : Int) + c ≤ 34359738368 := by have := hf.2.2.1; omega
        have FIN : Hid (∀ w1 v', Cell1 b 1 w w1 v' → SlB w1 v' (bools S.refuse.tail) g1 → Lies w1 b S.places S.refuse.tail S.fills S.st g0 g1 g2 g cap R bp bf n MP MF A ∧ ∀ w2 v', Cell1 b 0 w1 w2 v' → SlB w2 v' (u64s S.places.tail) g0 → Lies w2 b S.places.tail S.refuse.tail S.fills S.st g0 g1 g2 g cap R bp bf n MP MF A ∧
            ∀ w3, SetPost b 3 g R (putSt S.st x (x + c.toNat) 1) w2 w3 → Step VI F w w3 ⟨b, 0, none⟩ (lay (takePlace (takeRefuse S)) x c.toNat) (K + cost 0 c.toNat)) := hide (by
          intro w1 v' k1 k2
          obtain ⟨l1, m1⟩ := L.out.refuse k1 k2
          refine ⟨l1, fun w2 v2 k3 k4 => ?_⟩
          obtain ⟨l2, m2⟩ := l1.place k3 k4
          refine ⟨l2, fun w3 k5 => ?_⟩
          obtain ⟨g', c', R', l3, hR, m3⟩ := l2.rowed k5
          rw [EF.out]
          exact VI.step ((m1.trans m2).trans m3) ⟨b, g0, g1, g2, g', c', R', bp, bf, n, MP, MF, A, rfl, rfl, l3, lay_fits KF.out.asked.placed hf2 (by omega) hR (by simp [cost]; omega)⟩)
        obtain ⟨PO, hPO⟩ : ∃ PO : World → Prop, PO = fun w' => Step VI F w w' ⟨b, 0, none⟩ (lay (takePlace (takeRefuse S)) x c.toNat) (K + cost 0 c.toNat) := ⟨_, rfl⟩
        suffices Calls Try.prog 16 #[.pointer (some ⟨b, 0, none⟩), .int .u64 a, .int .u64 c] w fun e w' => e = .returned (.tuple #[.int .u64 (x : Int), .int .i64 0]) ∧ PO w' by rw [hPO] at this; exact this
        have PE := hide hPO
        clear q hl hPO r cz z hf hf2
        go_enter Try.func16, Try.ntmps16
        go_wp2_with fail
        refine (refused_core b g1 v1 S.refuse w v1c v1f S1.out).mono ?_
        rintro e w1 ⟨rfl, hT⟩
        rw [Q.out]
        obtain ⟨v', k1, k2⟩ := took_bool v1c hT S1.out L.out.n1
        have FI := hide (FIN.out w1 v' k1 k2)
        clear hT k1 k2 v'
        go_wp2_with fail
        obtain ⟨v0, v0c, v0s⟩ := FI.out.1.s0
        refine (place_core b g g0 cap v0 R S a c h0 h1 cp (by omega) z1 (by omega) w1 FI.out.1.rows.listAt FI.out.1.rows.seg FI.out.1.rows.alt KF.out.chunk v0c (FI.out.1.rows.fz 0) v0s KF.out.pl FI.out.1.rows.ne L.out.n0).mono ?_
        rintro e w2 ⟨rfl, v', k1, k2⟩
        have FJ := hide (FI.out.2 w2 v' k1 k2)
        rw [Z.out, opt2_some]
        clear k1 k2 v0c v0s
        go_wp2_with fail
        refine (set_core b 3 g cap R S.st (x : Int) ((x : Int) + c) 1 x0 (by omega) x1 (by omega) hn w2 FJ.out.1.rows).mono ?_
        rintro e w3 ⟨rfl, hS⟩
        rw [Int.toNat_natCast, show ((x : Int) + c).toNat = x + c.toNat by omega] at hS
        have FK := hide (FJ.out.2 w3 hS)
        clear hS
        go_wp2_with fail
        go_ret2
        refine ⟨rfl, ?_⟩
        rw [PE.out]
        exact FK.out
end Go.Proofs.Ytlfcnaalkjpgnaa
