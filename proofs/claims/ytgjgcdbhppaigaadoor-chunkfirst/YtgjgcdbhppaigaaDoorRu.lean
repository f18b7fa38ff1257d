/- The reference's Sum: its contract. -/
import Derived.Test.YtgjgcdbhppaigaaDoorRl
namespace Go.Proofs.YtgjgcdbhppaigaaDoor
open Go.ChangeShapes Go.WideShapes Go.ChangeAt Go.RowKit Go.Proofs.Bt Go.Shelf
set_option linter.unusedVariables false
set_option linter.unusedSimpArgs false

/-- How the reference's Sum lies: what it answers, what it reckons, the row. -/
structure RS (N : Nat) (w : World) (b ro : Nat) (f : Nat → Bool) (S M E : Int) (W : World) : Prop where
  s0 : SumAt W N 0 0 0
  s1 : SumAt W (N + 1) S M E
  row : BoolAt W b ro f
  be : Below N w W
  lb : b < N
theorem RS.of {N : Nat} {w : World} {b ro : Nat} {f : Nat → Bool} {S M E S' M' E' : Int} {W W' : World} (h : RS N w b ro f S M E W) (k : Kept (fun x => x = N + 1) W W') (s : SumAt W' (N + 1) S' M' E') : RS N w b ro f S' M' E' W' :=
  ⟨h.s0.kept k (by omega), s, h.row.kept k (by have := h.lb; omega), below_kept h.be k (fun x hx => by omega) (by have := h.s0.lt; omega), h.lb⟩
theorem RS.drew {N : Nat} {w : World} {b ro : Nat} {f : Nat → Bool} {S M E : Int} {W : World} (h : RS N w b ro f S M E W) : RS N w b ro f S M E W.drew :=
  ⟨h.s0.below (drew_below W), h.s1.below (drew_below W), h.row.below (drew_below W), h.be.drew, h.lb⟩
theorem RS.set0 {N : Nat} {w : World} {b ro : Nat} {f : Nat → Bool} {S M E : Int} {W : World} (h : RS N w b ro f S M E W) (v : Int) : RS N w b ro f v M E (W.setCell ⟨N + 1, 0, none⟩ (.int .i64 v)) := h.of (kept_set W (N + 1) 0 _ rfl) (h.s1.set0 v)
theorem RS.set1 {N : Nat} {w : World} {b ro : Nat} {f : Nat → Bool} {S M E : Int} {W : World} (h : RS N w b ro f S M E W) (v : Int) : RS N w b ro f S v E (W.setCell ⟨N + 1, 1, none⟩ (.int .i64 v)) := h.of (kept_set W (N + 1) 1 _ rfl) (h.s1.set1 v)
theorem RS.set2 {N : Nat} {w : World} {b ro : Nat} {f : Nat → Bool} {S M E : Int} {W : World} (h : RS N w b ro f S M E W) (v : Int) : RS N w b ro f S M v (W.setCell ⟨N + 1, 2, none⟩ (.int .i64 v)) := h.of (kept_set W (N + 1) 2 _ rfl) (h.s1.set2 v)
theorem RS.drewN {N : Nat} {w : World} {b ro : Nat} {f : Nat → Bool} {S M E : Int} {W : World} (h : RS N w b ro f S M E W) (k : Nat) : RS N w b ro f S M E (W.drewN k) :=
  ⟨h.s0, h.s1, ⟨h.row.cell, h.row.fz⟩, ⟨h.be.os, h.be.tape, h.be.output, h.be.size, h.be.block⟩, h.lb⟩
theorem RS.to_drewN {N : Nat} {w : World} {b ro : Nat} {f : Nat → Bool} {S M E : Int} {W : World} {k : Nat} (h : RS N w b ro f S M E (W.drewN k)) : RS N w b ro f S M E W :=
  ⟨h.s0, h.s1, ⟨h.row.cell, h.row.fz⟩, ⟨h.be.os, h.be.tape, h.be.output, h.be.size, h.be.block⟩, h.lb⟩
/-- What a cell of the summary holds. -/
def held (N k : Nat) (W : World) : Nat := (intOf ((W.cell? ⟨N + 1, k, none⟩).getD undef)).toNat
theorem held0 {N : Nat} {w : World} {b ro : Nat} {f : Nat → Bool} {S M E : Int} {W : World} (h : RS N w b ro f S M E W) : held N 0 W = S.toNat := by unfold held; rw [h.s1.c0]; rfl
theorem held2 {N : Nat} {w : World} {b ro : Nat} {f : Nat → Bool} {S M E : Int} {W : World} (h : RS N w b ro f S M E W) : held N 2 W = E.toNat := by unfold held; rw [h.s1.c2]; rfl
/-- What the third loop knows at i. -/
structure MR (f : Nat → Bool) (i r m : Nat) : Prop where
  le : r ≤ i
  cl : Clr f (i - r) r
  st : i - r = 0 ∨ f (i - r - 1) = true
  rm : r ≤ m
  mx : ∃ c, c + m ≤ i ∧ Clr f c m
  mn : ∀ c, c + (m + 1) ≤ i → ¬ Clr f c (m + 1)
theorem MR.zero (f : Nat → Bool) : MR f 0 0 0 := ⟨by omega, (fun k hk => by omega), .inl rfl, by omega, ⟨0, by omega, fun k hk => by omega⟩, fun c hc => by omega⟩
theorem MR.set {f : Nat → Bool} {i r m : Nat} (h : MR f i r m) (hf : f i = true) : MR f (i + 1) 0 m := by
  obtain ⟨c, c1, c2⟩ := h.mx
  refine ⟨by omega, (fun k hk => by omega), .inr (by simpa using hf), by omega, ⟨c, by omega, c2⟩, fun d d1 hd => ?_⟩
  by_cases l : d + (m + 1) ≤ i
  · exact h.mn d l hd
  · have := hd (i - d) (by omega)
    rw [show d + (i - d) = i by omega, hf] at this
    cases this
theorem MR.more {f : Nat → Bool} {i r m : Nat} (h : MR f i r m) (hf : f i = false) : Clr f (i + 1 - (r + 1)) (r + 1) := fun k hk => by
  have := h.le
  by_cases l : k < r
  · rw [show i + 1 - (r + 1) + k = i - r + k by omega]; exact h.cl k l
  · rw [show i + 1 - (r + 1) + k = i by omega]; exact hf
theorem MR.clr {f : Nat → Bool} {i r m : Nat} (h : MR f i r m) (hf : f i = false) (hr : r + 1 ≤ m) : MR f (i + 1) (r + 1) m := by
  obtain ⟨c, c1, c2⟩ := h.mx
  have hl := h.le
  refine ⟨by omega, h.more hf, by rw [show i + 1 - (r + 1) = i - r by omega]; exact h.st, hr, ⟨c, by omega, c2⟩, fun d d1 hd => ?_⟩
  by_cases l : d + (m + 1) ≤ i
  · exact h.mn d l hd
  · rcases h.st with hs | hs
    · omega
    · have := hd (i - r - 1 - d) (by omega)
      rw [show d + (i - r - 1 - d) = i - r - 1 by omega, hs] at this
      cases this
theorem MR.grow {f : Nat → Bool} {i r m : Nat} (h : MR f i r m) (hf : f i = false) (hr : r + 1 = m + 1) : MR f (i + 1) (r + 1) (r + 1) := by
  have hl := h.le
  refine ⟨by omega, h.more hf, by rw [show i + 1 - (r + 1) = i - r by omega]; exact h.st, by omega, ⟨i + 1 - (r + 1), by omega, h.more hf⟩, fun d d1 hd => ?_⟩
  by_cases l : d + (m + 1) ≤ i
  · exact h.mn d l (fun k hk => hd k (by omega))
  · omega

def SumR0 (w : World) (f : Nat → Bool) (r : Ending) (w' : World) : Prop := ∃ s m e : Nat, r = .returned (sumV (s : Nat) (m : Nat) (e : Nat)) ∧ SumP f s m e ∧ Below w.heap.size w w'

set_option maxRecDepth 100000 in
set_option maxHeartbeats 4000000 in
theorem sumRef_any (b ro : Nat) (f : Nat → Bool) (w : World) (h : BoolAt w b ro f) :
    Calls Tryd.prog 31 #[.pointer (some ⟨b, ro, none⟩)] w (SumR0 w f) := by
  obtain ⟨N, hN⟩ : ∃ N, w.heap.size = N := ⟨_, rfl⟩
  have hb := h.lt
  rw [hN] at hb
  obtain ⟨w2, hw2⟩ : ∃ w2, w2 = (w.alloc (.cells #[.int .i64 0, .int .i64 0, .int .i64 0] 51)).alloc (.cells #[.int .i64 0, .int .i64 0, .int .i64 0] 51) := ⟨_, rfl⟩
  have hbe : Below N w w2 := by rw [hw2, ← hN]; exact ((Below.refl _ w).alloc (Nat.le_refl _) _).alloc (by simp) _
  have R2 : Hid (RS N w b ro f 0 0 0 w2) := hide ⟨by show w2.heap[N]? = _; rw [hw2, alloc_at, if_neg (by simp; omega), alloc_at, if_pos hN.symm], by show w2.heap[N + 1]? = _; rw [hw2, alloc_at, if_pos (by simp; omega)], h.below (by rw [hN]; exact hbe), hbe, hb⟩
  have HW := hide hw2
  obtain ⟨R, hR⟩ : ∃ R, R = SumR0 w f := ⟨_, rfl⟩
  rw [← hR]
  have HR := hide hR
  have HB := hide hb
  clear h hR hw2 hbe hb
  go_enter Tryd.func31, Tryd.ntmps31
  go_wp2_with fail
  rw [← HW.out]
  clear HW
  go_loopw [6] (fun _ wr => ∃ S : Int, 0 ≤ S ∧ S ≤ 512 ∧ Hid (RS N w b ro f S 0 0 wr) ∧ Hid (Clr f 0 S.toNat)) (fun _ wr => 512 - held N 0 wr)
  case atStart => exact ⟨0, by omega, by omega, R2, hide (fun k hk => by simp at hk)⟩
  case round =>
    obtain ⟨S, S0, S1, HR1, SC⟩ := hrel
    have m0 := HR1.out.s1.c0
    have m1 := HR1.out.s1.c1
    have m2 := HR1.out.s1.c2
    have g0 := HR1.out.s1.fz 0
    have hh := held0 HR1.out
    by_cases hl : S < 512
    · have ci := HR1.out.row.cell S.toNat (by omega)
      cases hx : f S.toNat with
      | false =>
        have SC2 : Hid (Clr f 0 (S + 1).toNat) := hide (fun k hk => by
          by_cases l : k < S.toNat
          · exact SC.out k l
          · rw [show 0 + k = S.toNat by omega]; exact hx)
        rw [hx] at ci
        have H1 := hide hh
        clear hx hh
        go_wp2_with fail
        go_quiet (fail)
        go_wp2_with fail
        have HS := hide ((HR1.out.drewN nq).set0 (S + 1))
        refine ⟨⟨S + 1, by omega, by omega, HS, SC2⟩, ?_⟩
        have h2 := held0 HS.out
        rw [H1.out, h2]; omega
      | true =>
        rw [hx] at ci
        clear hh
        have SS : Hid (S.toNat < 512 → f S.toNat = true) := hide (fun _ => hx)
        clear hx
        go_wp2_with fail
        go_quiet (fail)
        have RX := hide (HR1.out.drewN nq)
        clear HR1 m0 m1 m2 g0
        go_wp2_with fail
        go_loopw [22] (fun _ wr => ∃ E : Int, 0 ≤ E ∧ E ≤ 512 ∧ Hid (RS N w b ro f S 0 E wr) ∧ Hid (Clr f (512 - E.toNat) E.toNat)) (fun _ wr => 512 - held N 2 wr)
        case atStart => exact ⟨0, by omega, by omega, RX, hide (fun k hk => by simp at hk)⟩
        case round =>
          obtain ⟨E, E0, E1, HR2, EC⟩ := hrel
          have m0 := HR2.out.s1.c0
          have m1 := HR2.out.s1.c1
          have m2 := HR2.out.s1.c2
          have g2 := HR2.out.s1.fz 2
          obtain ⟨V, hV⟩ : ∃ V : Int, 511 - E = V := ⟨_, rfl⟩
          have w1 : IntKind.i64.wrap (511 - E) = V := (wrap_in (511 - E) (by omega) (by omega)).trans hV
          have HV := hide hV
          have hh := held2 HR2.out
          by_cases hl : E < 512
          · have ci := HR2.out.row.cell V.toNat (by omega)
            have q0 : 0 ≤ V := by omega
            have q1 : V < 512 := by omega
            clear hV
            cases hx : f V.toNat with
            | false =>
              have EC2 : Hid (Clr f (512 - (E + 1).toNat) (E + 1).toNat) := hide (fun k hk => by
                by_cases l : k = 0
                · subst l; have := HV.out; rw [show 512 - (E + 1).toNat + 0 = V.toNat by omega]; exact hx
                · have := EC.out (k - 1) (by omega)
                  rw [show 512 - E.toNat + (k - 1) = 512 - (E + 1).toNat + k by omega] at this
                  exact this)
              rw [hx] at ci
              have H1 := hide hh
              clear hx hh
              go_wp2_with fail
              go_quiet (fail)
              go_wp2_with fail
              have HS := hide ((HR2.out.drewN nq).set2 (E + 1))
              refine ⟨⟨E + 1, by omega, by omega, HS, EC2⟩, ?_⟩
              have h2 := held2 HS.out
              rw [H1.out, h2]; omega
            | true =>
              rw [hx] at ci
              rw [show V.toNat = 511 - E.toNat by have := HV.out; omega] at hx
              clear hh
              have ES : Hid (E.toNat < 512 → f (511 - E.toNat) = true) := hide (fun _ => hx)
              clear hx
              go_wp2_with fail
              go_quiet (fail)
              have RXX := hide (HR2.out.drewN nq)
              clear HR2 m0 m1 m2 g2
              go_wp2_with fail
              go_loopw [4, 5] (fun rv iv wr => ∃ r i M : Int, rv = .int .i64 r ∧ iv = .int .i64 i ∧ 0 ≤ r ∧ r ≤ i ∧ 0 ≤ i ∧ i ≤ 512 ∧ 0 ≤ M ∧ M ≤ 512 ∧ r ≤ M ∧ Hid (RS N w b ro f S M E wr) ∧ Hid (MR f i.toNat r.toNat M.toNat)) (fun _ iv _ => (512 - intOf iv).toNat)
              case atStart => exact ⟨0, 0, 0, rfl, rfl, by omega, by omega, by omega, by omega, by omega, by omega, by omega, RXX, hide (MR.zero f)⟩
              case round =>
                obtain ⟨r, i, M, rfl, rfl, r0, ri, i0, i1, M0, M1, rM, HR3, HM⟩ := hrel
                by_cases hlt : i < 512
                · have ci := HR3.out.row.cell i.toNat (by omega)
                  have m0 := HR3.out.s1.c0
                  have m1 := HR3.out.s1.c1
                  have m2 := HR3.out.s1.c2
                  have g1 := HR3.out.s1.fz 1
                  have e1 : (i + 1).toNat = i.toNat + 1 := by omega
                  have e2 : (r + 1).toNat = r.toNat + 1 := by omega
                  have E1 := hide e1
                  have E2 := hide e2
                  clear e1 e2
                  cases hx : f i.toNat with
                  | true =>
                    have HM2 := hide (HM.out.set hx)
                    rw [hx] at ci
                    clear hx HM
                    go_wp2_with fail
                    refine ⟨⟨0, i + 1, M, rfl, rfl, by omega, by omega, by omega, by omega, by omega, by omega, by omega, HR3, hide (by rw [E1.out]; exact HM2.out)⟩, ?_⟩
                    simp [intOf]; omega
                  | false =>
                    rw [hx] at ci
                    by_cases hr : r + 1 ≤ M
                    · have HM2 := hide (HM.out.clr hx (by omega))
                      clear hx HM
                      go_wp2_with fail
                      refine ⟨⟨r + 1, i + 1, M, rfl, rfl, by omega, by omega, by omega, by omega, by omega, by omega, by omega, HR3, hide (by rw [E1.out, E2.out]; exact HM2.out)⟩, ?_⟩
                      simp [intOf]; omega
                    · have HM2 := hide (HM.out.grow hx (by omega))
                      have hr' : M < r + 1 := by omega
                      clear hx HM hr
                      go_wp2_with fail
                      refine ⟨⟨r + 1, i + 1, r + 1, rfl, rfl, by omega, by omega, by omega, by omega, by omega, by omega, by omega, hide (HR3.out.set1 (r + 1)), hide (by rw [E1.out, E2.out]; exact HM2.out)⟩, ?_⟩
                      simp [intOf]; omega
                · have hge : 512 ≤ i := by omega
                  have hP : SumP f S.toNat M.toNat E.toNat := by
                    have hm := HM.out
                    rw [show i.toNat = 512 by omega] at hm
                    exact ⟨by omega, by omega, SC.out, SS.out, EC.out, ES.out, hm.mx, hm.mn⟩
                  have HP := hide hP
                  have m0 := HR3.out.s1.c0
                  have m1 := HR3.out.s1.c1
                  have m2 := HR3.out.s1.c2
                  have n0 := HR3.out.s0.c0
                  have n1 := HR3.out.s0.c1
                  have n2 := HR3.out.s0.c2
                  have g0 := HR3.out.s0.fz 0
                  have g1 := HR3.out.s0.fz 1
                  have g2 := HR3.out.s0.fz 2
                  clear hlt hP HM
                  go_wp2_with fail
                  have hlN := HR3.out.s0.lt
                  have ks := fun (w : World) (k : Nat) (v : Value) => kept_set (F := fun b => b = N) w N k v rfl
                  have k5 := ((ks wr 0 (.int .i64 S)).trans (ks _ 1 (.int .i64 M)) (fun _ _ h => h)).trans (ks _ 2 (.int .i64 E)) (fun _ _ h => h)
                  have o4 := ((HR3.out.s0.set0 S).set1 M).set2 E
                  have B4 := below_kept HR3.out.be k5 (fun x hx => by omega) (by omega)
                  have d0 := o4.c0
                  have d1 := o4.c1
                  have d2 := o4.c2
                  refine bodyPost_ret (v := sumV S M E) ?_ rfl ?_
                  · simp [results, Tryd.results31, go_sem, sumV, Nat.add_assoc, d0, d1, d2, Result.andThen]
                  · rw [HR.out]
                    refine ⟨S.toNat, M.toNat, E.toNat, ?_, HP.out, by rw [hN]; exact B4⟩
                    rw [show ((S.toNat : Nat) : Int) = S by omega, show ((M.toNat : Nat) : Int) = M by omega, show ((E.toNat : Nat) : Int) = E by omega]
          · have hl' : decide (E < 512) = false := decide_eq_false hl
            clear hh
            have ES : Hid (E.toNat < 512 → f (511 - E.toNat) = true) := hide (fun h => by omega)
            clear hl
            go_wp2_with fail
            go_quiet (fail)
            have RXX := hide (HR2.out.drewN nq)
            clear HR2 m0 m1 m2 g2
            go_wp2_with fail
            go_loopw [4, 5] (fun rv iv wr => ∃ r i M : Int, rv = .int .i64 r ∧ iv = .int .i64 i ∧ 0 ≤ r ∧ r ≤ i ∧ 0 ≤ i ∧ i ≤ 512 ∧ 0 ≤ M ∧ M ≤ 512 ∧ r ≤ M ∧ Hid (RS N w b ro f S M E wr) ∧ Hid (MR f i.toNat r.toNat M.toNat)) (fun _ iv _ => (512 - intOf iv).toNat)
            case atStart => exact ⟨0, 0, 0, rfl, rfl, by omega, by omega, by omega, by omega, by omega, by omega, by omega, RXX, hide (MR.zero f)⟩
            case round =>
              obtain ⟨r, i, M, rfl, rfl, r0, ri, i0, i1, M0, M1, rM, HR3, HM⟩ := hrel
              by_cases hlt : i < 512
              · have ci := HR3.out.row.cell i.toNat (by omega)
                have m0 := HR3.out.s1.c0
                have m1 := HR3.out.s1.c1
                have m2 := HR3.out.s1.c2
                have g1 := HR3.out.s1.fz 1
                have e1 : (i + 1).toNat = i.toNat + 1 := by omega
                have e2 : (r + 1).toNat = r.toNat + 1 := by omega
                have E1 := hide e1
                have E2 := hide e2
                clear e1 e2
                cases hx : f i.toNat with
                | true =>
                  have HM2 := hide (HM.out.set hx)
                  rw [hx] at ci
                  clear hx HM
                  go_wp2_with fail
                  refine ⟨⟨0, i + 1, M, rfl, rfl, by omega, by omega, by omega, by omega, by omega, by omega, by omega, HR3, hide (by rw [E1.out]; exact HM2.out)⟩, ?_⟩
                  simp [intOf]; omega
                | false =>
                  rw [hx] at ci
                  by_cases hr : r + 1 ≤ M
                  · have HM2 := hide (HM.out.clr hx (by omega))
                    clear hx HM
                    go_wp2_with fail
                    refine ⟨⟨r + 1, i + 1, M, rfl, rfl, by omega, by omega, by omega, by omega, by omega, by omega, by omega, HR3, hide (by rw [E1.out, E2.out]; exact HM2.out)⟩, ?_⟩
                    simp [intOf]; omega
                  · have HM2 := hide (HM.out.grow hx (by omega))
                    have hr' : M < r + 1 := by omega
                    clear hx HM hr
                    go_wp2_with fail
                    refine ⟨⟨r + 1, i + 1, r + 1, rfl, rfl, by omega, by omega, by omega, by omega, by omega, by omega, by omega, hide (HR3.out.set1 (r + 1)), hide (by rw [E1.out, E2.out]; exact HM2.out)⟩, ?_⟩
                    simp [intOf]; omega
              · have hge : 512 ≤ i := by omega
                have hP : SumP f S.toNat M.toNat E.toNat := by
                  have hm := HM.out
                  rw [show i.toNat = 512 by omega] at hm
                  exact ⟨by omega, by omega, SC.out, SS.out, EC.out, ES.out, hm.mx, hm.mn⟩
                have HP := hide hP
                have m0 := HR3.out.s1.c0
                have m1 := HR3.out.s1.c1
                have m2 := HR3.out.s1.c2
                have n0 := HR3.out.s0.c0
                have n1 := HR3.out.s0.c1
                have n2 := HR3.out.s0.c2
                have g0 := HR3.out.s0.fz 0
                have g1 := HR3.out.s0.fz 1
                have g2 := HR3.out.s0.fz 2
                clear hlt hP HM
                go_wp2_with fail
                have hlN := HR3.out.s0.lt
                have ks := fun (w : World) (k : Nat) (v : Value) => kept_set (F := fun b => b = N) w N k v rfl
                have k5 := ((ks wr 0 (.int .i64 S)).trans (ks _ 1 (.int .i64 M)) (fun _ _ h => h)).trans (ks _ 2 (.int .i64 E)) (fun _ _ h => h)
                have o4 := ((HR3.out.s0.set0 S).set1 M).set2 E
                have B4 := below_kept HR3.out.be k5 (fun x hx => by omega) (by omega)
                have d0 := o4.c0
                have d1 := o4.c1
                have d2 := o4.c2
                refine bodyPost_ret (v := sumV S M E) ?_ rfl ?_
                · simp [results, Tryd.results31, go_sem, sumV, Nat.add_assoc, d0, d1, d2, Result.andThen]
                · rw [HR.out]
                  refine ⟨S.toNat, M.toNat, E.toNat, ?_, HP.out, by rw [hN]; exact B4⟩
                  rw [show ((S.toNat : Nat) : Int) = S by omega, show ((M.toNat : Nat) : Int) = M by omega, show ((E.toNat : Nat) : Int) = E by omega]
    · have hl' : decide (S < 512) = false := decide_eq_false hl
      clear hh
      have SS : Hid (S.toNat < 512 → f S.toNat = true) := hide (fun h => by omega)
      clear hl
      go_wp2_with fail
      go_quiet (fail)
      have RX := hide (HR1.out.drewN nq)
      clear HR1 m0 m1 m2 g0
      go_wp2_with fail
      go_loopw [22] (fun _ wr => ∃ E : Int, 0 ≤ E ∧ E ≤ 512 ∧ Hid (RS N w b ro f S 0 E wr) ∧ Hid (Clr f (512 - E.toNat) E.toNat)) (fun _ wr => 512 - held N 2 wr)
      case atStart => exact ⟨0, by omega, by omega, RX, hide (fun k hk => by simp at hk)⟩
      case round =>
        obtain ⟨E, E0, E1, HR2, EC⟩ := hrel
        have m0 := HR2.out.s1.c0
        have m1 := HR2.out.s1.c1
        have m2 := HR2.out.s1.c2
        have g2 := HR2.out.s1.fz 2
        obtain ⟨V, hV⟩ : ∃ V : Int, 511 - E = V := ⟨_, rfl⟩
        have w1 : IntKind.i64.wrap (511 - E) = V := (wrap_in (511 - E) (by omega) (by omega)).trans hV
        have HV := hide hV
        have hh := held2 HR2.out
        by_cases hl : E < 512
        · have ci := HR2.out.row.cell V.toNat (by omega)
          have q0 : 0 ≤ V := by omega
          have q1 : V < 512 := by omega
          clear hV
          cases hx : f V.toNat with
          | false =>
            have EC2 : Hid (Clr f (512 - (E + 1).toNat) (E + 1).toNat) := hide (fun k hk => by
              by_cases l : k = 0
              · subst l; have := HV.out; rw [show 512 - (E + 1).toNat + 0 = V.toNat by omega]; exact hx
              · have := EC.out (k - 1) (by omega)
                rw [show 512 - E.toNat + (k - 1) = 512 - (E + 1).toNat + k by omega] at this
                exact this)
            rw [hx] at ci
            have H1 := hide hh
            clear hx hh
            go_wp2_with fail
            go_quiet (fail)
            go_wp2_with fail
            have HS := hide ((HR2.out.drewN nq).set2 (E + 1))
            refine ⟨⟨E + 1, by omega, by omega, HS, EC2⟩, ?_⟩
            have h2 := held2 HS.out
            rw [H1.out, h2]; omega
          | true =>
            rw [hx] at ci
            rw [show V.toNat = 511 - E.toNat by have := HV.out; omega] at hx
            clear hh
            have ES : Hid (E.toNat < 512 → f (511 - E.toNat) = true) := hide (fun _ => hx)
            clear hx
            go_wp2_with fail
            go_quiet (fail)
            have RXX := hide (HR2.out.drewN nq)
            clear HR2 m0 m1 m2 g2
            go_wp2_with fail
            go_loopw [4, 5] (fun rv iv wr => ∃ r i M : Int, rv = .int .i64 r ∧ iv = .int .i64 i ∧ 0 ≤ r ∧ r ≤ i ∧ 0 ≤ i ∧ i ≤ 512 ∧ 0 ≤ M ∧ M ≤ 512 ∧ r ≤ M ∧ Hid (RS N w b ro f S M E wr) ∧ Hid (MR f i.toNat r.toNat M.toNat)) (fun _ iv _ => (512 - intOf iv).toNat)
            case atStart => exact ⟨0, 0, 0, rfl, rfl, by omega, by omega, by omega, by omega, by omega, by omega, by omega, RXX, hide (MR.zero f)⟩
            case round =>
              obtain ⟨r, i, M, rfl, rfl, r0, ri, i0, i1, M0, M1, rM, HR3, HM⟩ := hrel
              by_cases hlt : i < 512
              · have ci := HR3.out.row.cell i.toNat (by omega)
                have m0 := HR3.out.s1.c0
                have m1 := HR3.out.s1.c1
                have m2 := HR3.out.s1.c2
                have g1 := HR3.out.s1.fz 1
                have e1 : (i + 1).toNat = i.toNat + 1 := by omega
                have e2 : (r + 1).toNat = r.toNat + 1 := by omega
                have E1 := hide e1
                have E2 := hide e2
                clear e1 e2
                cases hx : f i.toNat with
                | true =>
                  have HM2 := hide (HM.out.set hx)
                  rw [hx] at ci
                  clear hx HM
                  go_wp2_with fail
                  refine ⟨⟨0, i + 1, M, rfl, rfl, by omega, by omega, by omega, by omega, by omega, by omega, by omega, HR3, hide (by rw [E1.out]; exact HM2.out)⟩, ?_⟩
                  simp [intOf]; omega
                | false =>
                  rw [hx] at ci
                  by_cases hr : r + 1 ≤ M
                  · have HM2 := hide (HM.out.clr hx (by omega))
                    clear hx HM
                    go_wp2_with fail
                    refine ⟨⟨r + 1, i + 1, M, rfl, rfl, by omega, by omega, by omega, by omega, by omega, by omega, by omega, HR3, hide (by rw [E1.out, E2.out]; exact HM2.out)⟩, ?_⟩
                    simp [intOf]; omega
                  · have HM2 := hide (HM.out.grow hx (by omega))
                    have hr' : M < r + 1 := by omega
                    clear hx HM hr
                    go_wp2_with fail
                    refine ⟨⟨r + 1, i + 1, r + 1, rfl, rfl, by omega, by omega, by omega, by omega, by omega, by omega, by omega, hide (HR3.out.set1 (r + 1)), hide (by rw [E1.out, E2.out]; exact HM2.out)⟩, ?_⟩
                    simp [intOf]; omega
              · have hge : 512 ≤ i := by omega
                have hP : SumP f S.toNat M.toNat E.toNat := by
                  have hm := HM.out
                  rw [show i.toNat = 512 by omega] at hm
                  exact ⟨by omega, by omega, SC.out, SS.out, EC.out, ES.out, hm.mx, hm.mn⟩
                have HP := hide hP
                have m0 := HR3.out.s1.c0
                have m1 := HR3.out.s1.c1
                have m2 := HR3.out.s1.c2
                have n0 := HR3.out.s0.c0
                have n1 := HR3.out.s0.c1
                have n2 := HR3.out.s0.c2
                have g0 := HR3.out.s0.fz 0
                have g1 := HR3.out.s0.fz 1
                have g2 := HR3.out.s0.fz 2
                clear hlt hP HM
                go_wp2_with fail
                have hlN := HR3.out.s0.lt
                have ks := fun (w : World) (k : Nat) (v : Value) => kept_set (F := fun b => b = N) w N k v rfl
                have k5 := ((ks wr 0 (.int .i64 S)).trans (ks _ 1 (.int .i64 M)) (fun _ _ h => h)).trans (ks _ 2 (.int .i64 E)) (fun _ _ h => h)
                have o4 := ((HR3.out.s0.set0 S).set1 M).set2 E
                have B4 := below_kept HR3.out.be k5 (fun x hx => by omega) (by omega)
                have d0 := o4.c0
                have d1 := o4.c1
                have d2 := o4.c2
                refine bodyPost_ret (v := sumV S M E) ?_ rfl ?_
                · simp [results, Tryd.results31, go_sem, sumV, Nat.add_assoc, d0, d1, d2, Result.andThen]
                · rw [HR.out]
                  refine ⟨S.toNat, M.toNat, E.toNat, ?_, HP.out, by rw [hN]; exact B4⟩
                  rw [show ((S.toNat : Nat) : Int) = S by omega, show ((M.toNat : Nat) : Int) = M by omega, show ((E.toNat : Nat) : Int) = E by omega]
        · have hl' : decide (E < 512) = false := decide_eq_false hl
          clear hh
          have ES : Hid (E.toNat < 512 → f (511 - E.toNat) = true) := hide (fun h => by omega)
          clear hl
          go_wp2_with fail
          go_quiet (fail)
          have RXX := hide (HR2.out.drewN nq)
          clear HR2 m0 m1 m2 g2
          go_wp2_with fail
          go_loopw [4, 5] (fun rv iv wr => ∃ r i M : Int, rv = .int .i64 r ∧ iv = .int .i64 i ∧ 0 ≤ r ∧ r ≤ i ∧ 0 ≤ i ∧ i ≤ 512 ∧ 0 ≤ M ∧ M ≤ 512 ∧ r ≤ M ∧ Hid (RS N w b ro f S M E wr) ∧ Hid (MR f i.toNat r.toNat M.toNat)) (fun _ iv _ => (512 - intOf iv).toNat)
          case atStart => exact ⟨0, 0, 0, rfl, rfl, by omega, by omega, by omega, by omega, by omega, by omega, by omega, RXX, hide (MR.zero f)⟩
          case round =>
            obtain ⟨r, i, M, rfl, rfl, r0, ri, i0, i1, M0, M1, rM, HR3, HM⟩ := hrel
            by_cases hlt : i < 512
            · have ci := HR3.out.row.cell i.toNat (by omega)
              have m0 := HR3.out.s1.c0
              have m1 := HR3.out.s1.c1
              have m2 := HR3.out.s1.c2
              have g1 := HR3.out.s1.fz 1
              have e1 : (i + 1).toNat = i.toNat + 1 := by omega
              have e2 : (r + 1).toNat = r.toNat + 1 := by omega
              have E1 := hide e1
              have E2 := hide e2
              clear e1 e2
              cases hx : f i.toNat with
              | true =>
                have HM2 := hide (HM.out.set hx)
                rw [hx] at ci
                clear hx HM
                go_wp2_with fail
                refine ⟨⟨0, i + 1, M, rfl, rfl, by omega, by omega, by omega, by omega, by omega, by omega, by omega, HR3, hide (by rw [E1.out]; exact HM2.out)⟩, ?_⟩
                simp [intOf]; omega
              | false =>
                rw [hx] at ci
                by_cases hr : r + 1 ≤ M
                · have HM2 := hide (HM.out.clr hx (by omega))
                  clear hx HM
                  go_wp2_with fail
                  refine ⟨⟨r + 1, i + 1, M, rfl, rfl, by omega, by omega, by omega, by omega, by omega, by omega, by omega, HR3, hide (by rw [E1.out, E2.out]; exact HM2.out)⟩, ?_⟩
                  simp [intOf]; omega
                · have HM2 := hide (HM.out.grow hx (by omega))
                  have hr' : M < r + 1 := by omega
                  clear hx HM hr
                  go_wp2_with fail
                  refine ⟨⟨r + 1, i + 1, r + 1, rfl, rfl, by omega, by omega, by omega, by omega, by omega, by omega, by omega, hide (HR3.out.set1 (r + 1)), hide (by rw [E1.out, E2.out]; exact HM2.out)⟩, ?_⟩
                  simp [intOf]; omega
            · have hge : 512 ≤ i := by omega
              have hP : SumP f S.toNat M.toNat E.toNat := by
                have hm := HM.out
                rw [show i.toNat = 512 by omega] at hm
                exact ⟨by omega, by omega, SC.out, SS.out, EC.out, ES.out, hm.mx, hm.mn⟩
              have HP := hide hP
              have m0 := HR3.out.s1.c0
              have m1 := HR3.out.s1.c1
              have m2 := HR3.out.s1.c2
              have n0 := HR3.out.s0.c0
              have n1 := HR3.out.s0.c1
              have n2 := HR3.out.s0.c2
              have g0 := HR3.out.s0.fz 0
              have g1 := HR3.out.s0.fz 1
              have g2 := HR3.out.s0.fz 2
              clear hlt hP HM
              go_wp2_with fail
              have hlN := HR3.out.s0.lt
              have ks := fun (w : World) (k : Nat) (v : Value) => kept_set (F := fun b => b = N) w N k v rfl
              have k5 := ((ks wr 0 (.int .i64 S)).trans (ks _ 1 (.int .i64 M)) (fun _ _ h => h)).trans (ks _ 2 (.int .i64 E)) (fun _ _ h => h)
              have o4 := ((HR3.out.s0.set0 S).set1 M).set2 E
              have B4 := below_kept HR3.out.be k5 (fun x hx => by omega) (by omega)
              have d0 := o4.c0
              have d1 := o4.c1
              have d2 := o4.c2
              refine bodyPost_ret (v := sumV S M E) ?_ rfl ?_
              · simp [results, Tryd.results31, go_sem, sumV, Nat.add_assoc, d0, d1, d2, Result.andThen]
              · rw [HR.out]
                refine ⟨S.toNat, M.toNat, E.toNat, ?_, HP.out, by rw [hN]; exact B4⟩
                rw [show ((S.toNat : Nat) : Int) = S by omega, show ((M.toNat : Nat) : Int) = M by omega, show ((E.toNat : Nat) : Int) = E by omega]
end Go.Proofs.YtgjgcdbhppaigaaDoor
