/- Reserve at the face. -/
import Derived.Test.YtpceigglilgelaaVmVa
namespace Go.Proofs.Ytpceigglilgelaa
open Go.ChangeShapes Go.WideShapes Go.ChangeAt Go.RowKit Go.Proofs.Sp

theorem Fits.asked {S : Sp} {K n : Nat} {R : List (Nat × Nat)} {MP MF : Nat → Nat} {A : Nat → Nat → Nat} (h : Fits S K R n MP MF A) : Fits (takeRefuse S) K R n MP MF A := ⟨h.wf.refuse, h.chunk, h.zero, h.at_, h.non, h.pl, h.fi, h.rl, h.nl⟩
theorem Fits.placed {S : Sp} {K n : Nat} {R : List (Nat × Nat)} {MP MF : Nat → Nat} {A : Nat → Nat → Nat} (h : Fits S K R n MP MF A) : Fits (takePlace S) K R n MP MF A := ⟨h.wf.place, h.chunk, h.zero, h.at_, h.non, fun x hx => h.pl x (List.mem_of_mem_tail hx), h.fi, h.rl, h.nl⟩
theorem lay_fits {S : Sp} {K K' n q c : Nat} {R R' : List (Nat × Nat)} {MP MF : Nat → Nat} {A : Nat → Nat → Nat} (h : Fits S K R n MP MF A) (hf : free S c q) (hc : c % 512 = 0) (hR : R'.length ≤ R.length + 2) (hK : K + 2 ≤ K') : Fits (lay S q c) K' R' n MP MF A := by
  obtain ⟨f1, f2, f3, f4⟩ := hf
  have f5 := (row_all (P := fun x => x = 0)).1 f4
  have rl := h.rl
  have nl := h.nl
  refine ⟨h.wf.lay ⟨f1, f2, f3, f4⟩, fun p => ?_, ?_, fun p j hj hp => ?_, fun p hp => ?_, h.pl, h.fi, by omega, by omega⟩
  · show (if q ≤ p ∧ p < q + c then 1 else S.st p) = 0 ↔ (if q ≤ p / 512 * 512 ∧ p / 512 * 512 < q + c then 1 else S.st (p / 512 * 512)) = 0
    by_cases z : q ≤ p ∧ p < q + c
    · rw [if_pos z, if_pos (by omega)]
    · rw [if_neg z, if_neg (by omega)]; exact h.chunk p
  · show (if q ≤ 0 ∧ 0 < q + c then 1 else S.st 0) = 0
    rw [if_neg (by omega)]; exact h.zero
  · have hp : (if q ≤ p ∧ p < q + c then 1 else S.st p) = 2 := hp
    by_cases z : q ≤ p ∧ p < q + c
    · rw [if_pos z] at hp; cases hp
    · rw [if_neg z] at hp; exact h.at_ p j hj hp
  · have hp : (if q ≤ p ∧ p < q + c then 1 else S.st p) ≠ 2 := hp
    by_cases z : q ≤ p ∧ p < q + c
    · exact h.non p (by rw [f5 p z.1 z.2]; decide)
    · rw [if_neg z] at hp; exact h.non p hp
set_option maxRecDepth 100000 in
set_option maxHeartbeats 1000000 in
theorem vreserve {w : World} {m : Addr} {S : Sp} {F : Nat → Prop} {K : Nat} (a c : Int) (ha : two64 a) (hc : two64 c) (h : VI w m S F K) (hK : K ≤ lim) :
    Calls Try.prog vm.reserve #[.pointer (some m), .int .u64 a, .int .u64 c] w fun e w' => e = .returned (.tuple #[.int .u64 ((reserveS S a.toNat c.toNat).1 : Nat), .int .i64 ((reserveS S a.toNat c.toNat).2.1 : Nat)]) ∧ Step VI F w w' m (reserveS S a.toNat c.toNat).2.2 (K + cost (reserveS S a.toNat c.toNat).2.1 c.toNat) := by
  have V := hide h
  obtain ⟨b, g0, g1, g2, g, cap, R, bp, bf, n, MP, MF, A, rfl, e, l, k⟩ := h
  have h0 := ha.1
  have h1 := ha.2
  have c0 := hc.1
  have c1 := hc.2
  have rl := k.rl
  have nl := k.nl
  have hn : R.length ≤ 1099511627777 := by unfold lim at hK; omega
  have L := hide l
  have KF := hide k
  have EF := hide e
  obtain ⟨v1, v1c, v1s⟩ := l.s1
  have v1f := l.rows.fz 1
  have S1 := hide v1s
  clear l k e rl nl ha hc v1s
  show Calls Try.prog 10 _ w _
  by_cases r : c.toNat = 0 ∨ c.toNat % 512 ≠ 0 ∨ 134217728 < c.toNat
  · have hl : reserveS S a.toNat c.toNat = (0, 1, S) := by
      unfold reserveS
      rw [if_pos r]
    rw [hl]
    have T := hide ((V.out.more (K' := K + cost 1 c.toNat) (by omega)).below (Below.refl _ _))
    by_cases z0 : c = 0
    · subst z0
      clear r hl
      go_enter Try.func10, Try.ntmps10
      go_wp2_with fail
      go_ret2
      exact ⟨rfl, T.out⟩
    · have y0 : (c == 0) = false := beq_eq_false_iff_ne.2 z0
      by_cases z1 : c % 512 = 0
      · have y2 : c > 134217728 := by omega
        clear r hl
        go_enter Try.func10, Try.ntmps10
        go_wp2_with fail
        go_ret2
        exact ⟨rfl, T.out⟩
      · have y1 : (c % 512 != 0) = true := by rw [bne_iff_ne]; exact z1
        clear r hl
        go_enter Try.func10, Try.ntmps10
        go_wp2_with fail
        go_ret2
        exact ⟨rfl, T.out⟩
  · have cz : c ≠ 0 := by omega
    have y0 : (c == 0) = false := beq_eq_false_iff_ne.2 cz
    have z1 : c % 512 = 0 := by omega
    have y2 : ¬ c > 134217728 := by omega
    have cp : 0 < c := by omega
    by_cases q : S.refuse.headD false = true
    · have hl : reserveS S a.toNat c.toNat = (0, 13, takeRefuse S) := by
        unfold reserveS
        rw [if_neg r, if_pos q]
      rw [hl]
      have Q := hide (show S.refuse.head?.getD false = true by rw [← List.headD_eq_head?_getD]; exact q)
      have FIN : Hid (∀ w1 v', Cell1 b 1 w w1 v' → SlB w1 v' (bools S.refuse.tail) g1 → Step VI F w w1 ⟨b, 0, none⟩ (takeRefuse S) (K + cost 13 c.toNat)) := hide (by
        intro w1 v' k1 k2
        obtain ⟨l1, m1⟩ := L.out.refuse k1 k2
        rw [EF.out]
        exact VI.step m1 ⟨b, g0, g1, g2, g, cap, R, bp, bf, n, MP, MF, A, rfl, rfl, l1, KF.out.asked.more (by omega)⟩)
      obtain ⟨PO, hPO⟩ : ∃ PO : World → Prop, PO = fun w' => Step VI F w w' ⟨b, 0, none⟩ (takeRefuse S) (K + cost 13 c.toNat) := ⟨_, rfl⟩
      suffices Calls Try.prog 10 #[.pointer (some ⟨b, 0, none⟩), .int .u64 a, .int .u64 c] w fun e w' => e = .returned (.tuple #[.int .u64 0, .int .i64 13]) ∧ PO w' by rw [hPO] at this; exact this
      have PE := hide hPO
      clear q hl hPO r cz
      go_enter Try.func10, Try.ntmps10
      go_wp2_with fail
      refine (refused_core b g1 v1 S.refuse w v1c v1f S1.out).mono ?_
      rintro e w1 ⟨rfl, hT⟩
      rw [Q.out]
      have T := hide hT
      clear hT
      go_wp2_with fail
      go_ret2
      refine ⟨rfl, ?_⟩
      rw [PE.out]
      obtain ⟨v', k1, k2⟩ := took_bool v1c T.out S1.out L.out.n1
      exact FIN.out _ v' k1 k2
    · have Q := hide (show S.refuse.head?.getD false = false by rw [← List.headD_eq_head?_getD]; simpa using q)
      cases z : placeA S a.toNat c.toNat with
      | none =>
        have hl : reserveS S a.toNat c.toNat = (0, 13, takePlace (takeRefuse S)) := by
          unfold reserveS
          unfold placeA at z
          rw [if_neg r, if_neg q, z]
        rw [hl]
        have Z := hide z
        have FIN : Hid (∀ w1 v', Cell1 b 1 w w1 v' → SlB w1 v' (bools S.refuse.tail) g1 → Lies w1 b S.places S.refuse.tail S.fills S.st g0 g1 g2 g cap R bp bf n MP MF A ∧ ∀ w2 v', Cell1 b 0 w1 w2 v' → SlB w2 v' (u64s S.places.tail) g0 → Step VI F w w2 ⟨b, 0, none⟩ (takePlace (takeRefuse S)) (K + cost 13 c.toNat)) := hide (by
          intro w1 v' k1 k2
          obtain ⟨l1, m1⟩ := L.out.refuse k1 k2
          refine ⟨l1, fun w2 v2 k3 k4 => ?_⟩
          obtain ⟨l2, m2⟩ := l1.place k3 k4
          rw [EF.out]
          exact VI.step (m1.trans m2) ⟨b, g0, g1, g2, g, cap, R, bp, bf, n, MP, MF, A, rfl, rfl, l2, KF.out.asked.placed.more (by omega)⟩)
        obtain ⟨PO, hPO⟩ : ∃ PO : World → Prop, PO = fun w' => Step VI F w w' ⟨b, 0, none⟩ (takePlace (takeRefuse S)) (K + cost 13 c.toNat) := ⟨_, rfl⟩
        suffices Calls Try.prog 10 #[.pointer (some ⟨b, 0, none⟩), .int .u64 a, .int .u64 c] w fun e w' => e = .returned (.tuple #[.int .u64 0, .int .i64 13]) ∧ PO w' by rw [hPO] at this; exact this
        have PE := hide hPO
        clear q hl hPO r cz z
        go_enter Try.func10, Try.ntmps10
        go_wp2_with fail
        refine (refused_core b g1 v1 S.refuse w v1c v1f S1.out).mono ?_
        rintro e w1 ⟨rfl, hT⟩
        rw [Q.out]
        obtain ⟨v', k1, k2⟩ := took_bool v1c hT S1.out L.out.n1
        have FI := hide (FIN.out w1 v' k1 k2)
        clear hT k1 k2 v'
        go_wp2_with fail
        obtain ⟨v0, v0c, v0s⟩ := FI.out.1.s0
        refine (place_core b g g0 cap v0 R S a c h0 h1 cp (by omega) z1 (by omega) w1 FI.out.1.rows.listAt FI.out.1.rows.seg FI.out.1.rows.alt KF.out.chunk v0c (FI.out.1.rows.fz 0) v0s KF.out.pl FI.out.1.rows.ne L.out.n0).mono ?_
        rintro e w2 ⟨rfl, v', k1, k2⟩
        have FJ := hide (FI.out.2 w2 v' k1 k2)
        rw [Z.out, opt2_none]
        clear k1 k2 v0c v0s
        go_wp2_with fail
        go_ret2
        refine ⟨rfl, ?_⟩
        rw [PE.out]
        exact FJ.out
      | some x =>
        have hl : reserveS S a.toNat c.toNat = (x, 0, lay (takePlace (takeRefuse S)) x c.toNat) := by
          unfold reserveS
          unfold placeA at z
          rw [if_neg r, if_neg q, z]
        rw [hl]
        have Z := hide z
        have hf : free S c.toNat x := or_free z
        have hf2 : free (takePlace (takeRefuse S)) c.toNat x := hf
        have x0 : (0 : Int) < (x : Int) := by have := hf.2.1; omega
        have x1 : (x : Int) + c ≤ 34359738368 := by have := hf.2.2.1; omega
        have FIN : Hid (∀ w1 v', Cell1 b 1 w w1 v' → SlB w1 v' (bools S.refuse.tail) g1 → Lies w1 b S.places S.refuse.tail S.fills S.st g0 g1 g2 g cap R bp bf n MP MF A ∧ ∀ w2 v', Cell1 b 0 w1 w2 v' → SlB w2 v' (u64s S.places.tail) g0 → Lies w2 b S.places.tail S.refuse.tail S.fills S.st g0 g1 g2 g cap R bp bf n MP MF A ∧
            ∀ w3, SetPost b 3 g R (putSt S.st x (x + c.toNat) 1) w2 w3 → Step VI F w w3 ⟨b, 0, none⟩ (lay (takePlace (takeRefuse S)) x c.toNat) (K + cost 0 c.toNat)) := hide (by
          intro w1 v' k1 k2
          obtain ⟨l1, m1⟩ := L.out.refuse k1 k2
          refine ⟨l1, fun w2 v2 k3 k4 => ?_⟩
          obtain ⟨l2, m2⟩ := l1.place k3 k4
          refine ⟨l2, fun w3 k5 => ?_⟩
          obtain ⟨g', c', R', l3, hR, m3⟩ := l2.rowed k5
          rw [EF.out]
          exact VI.step ((m1.trans m2).trans m3) ⟨b, g0, g1, g2, g', c', R', bp, bf, n, MP, MF, A, rfl, rfl, l3, lay_fits KF.out.asked.placed hf2 (by omega) hR (by simp [cost]; omega)⟩)
        obtain ⟨PO, hPO⟩ : ∃ PO : World → Prop, PO = fun w' => Step VI F w w' ⟨b, 0, none⟩ (lay (takePlace (takeRefuse S)) x c.toNat) (K + cost 0 c.toNat) := ⟨_, rfl⟩
        suffices Calls Try.prog 10 #[.pointer (some ⟨b, 0, none⟩), .int .u64 a, .int .u64 c] w fun e w' => e = .returned (.tuple #[.int .u64 (x : Int), .int .i64 0]) ∧ PO w' by rw [hPO] at this; exact this
        have PE := hide hPO
        clear q hl hPO r cz z hf hf2
        go_enter Try.func10, Try.ntmps10
        go_wp2_with fail
        refine (refused_core b g1 v1 S.refuse w v1c v1f S1.out).mono ?_
        rintro e w1 ⟨rfl, hT⟩
        rw [Q.out]
        obtain ⟨v', k1, k2⟩ := took_bool v1c hT S1.out L.out.n1
        have FI := hide (FIN.out w1 v' k1 k2)
        clear hT k1 k2 v'
        go_wp2_with fail
        obtain ⟨v0, v0c, v0s⟩ := FI.out.1.s0
        refine (place_core b g g0 cap v0 R S a c h0 h1 cp (by omega) z1 (by omega) w1 FI.out.1.rows.listAt FI.out.1.rows.seg FI.out.1.rows.alt KF.out.chunk v0c (FI.out.1.rows.fz 0) v0s KF.out.pl FI.out.1.rows.ne L.out.n0).mono ?_
        rintro e w2 ⟨rfl, v', k1, k2⟩
        have FJ := hide (FI.out.2 w2 v' k1 k2)
        rw [Z.out, opt2_some]
        clear k1 k2 v0c v0s
        go_wp2_with fail
        refine (set_core b 3 g cap R S.st (x : Int) ((x : Int) + c) 1 x0 (by omega) x1 (by omega) hn w2 FJ.out.1.rows).mono ?_
        rintro e w3 ⟨rfl, hS⟩
        rw [Int.toNat_natCast, show ((x : Int) + c).toNat = x + c.toNat by omega] at hS
        have FK := hide (FJ.out.2 w3 hS)
        clear hS
        go_wp2_with fail
        go_ret2
        refine ⟨rfl, ?_⟩
        rw [PE.out]
        exact FK.out
end Go.Proofs.Ytpceigglilgelaa
