/- SchedGoes: its walk. -/
import Derived.Test.YtlcbegmhmbegjaaTw
import Derived.Test.YtlcbegmhmbegjaaOx
import Derived.Test.YtlcbegmhmbegjaaHv
namespace Go.Proofs.Ytlcbegmhmbegjaa
open Go.ChangeShapes Go.WideShapes Go.ChangeAt Go.RowKit Go.Proofs.Sc Go.Maps
set_option linter.unusedVariables false
set_option linter.unusedSimpArgs false

/-- The law's own tasks, whatever is written over them. -/
structure Gv (lo0 lo : Nat) (W : World) (og : Nat) (L : List (List Stp)) : Prop where
  row : ∀ (i : Nat) (t : List Stp), L[i]? = some t → ∃ o c, W.cell? ⟨og, i, none⟩ = some (.slice o t.length c) ∧ t.length ≤ c ∧ c ≤ 9223372036854775807 ∧
    (0 < t.length → ∃ g, o = some ⟨g, 0, none⟩ ∧ lo0 ≤ g ∧ g < lo ∧ g ≠ og ∧ ∀ k, k < t.length * 3 → (∃ x, W.cell? ⟨g, k, none⟩ = some x) ∧ W.frozen? ⟨g, k, none⟩ = false)
  lt : og < W.heap.size
theorem Gv.set {lo0 lo : Nat} {W : World} {og : Nat} {L : List (List Stp)} (h : Gv lo0 lo W og L) {g k : Nat} {v : Value} (hg : g ≠ og) : Gv lo0 lo (W.setCell ⟨g, k, none⟩ v) og L := by
  refine ⟨fun i t hi => ?_, by simpa using h.lt⟩
  obtain ⟨o, c, h1, h2, h3, h4⟩ := h.row i t hi
  refine ⟨o, c, ?_, h2, h3, fun z => ?_⟩
  · rw [World.cell?_of_block (a := ⟨og, i, none⟩) (set_far' (Ne.symm hg))]; exact h1
  · obtain ⟨g', e, a1, a2, a3, a4⟩ := h4 z
    refine ⟨g', e, a1, a2, a3, fun j hj => ?_⟩
    obtain ⟨⟨x, hx⟩, hf⟩ := a4 j hj
    refine ⟨?_, by rw [World.frozen?_setCell]; exact hf⟩
    by_cases e1 : g' = g
    · subst e1
      by_cases e2 : j = k
      · subst e2; exact ⟨v, World.cell?_setCell_same _ _ _ hx⟩
      · exact ⟨x, by rw [World.cell?_setCell_other _ _ _ _ (by intro z; have := congrArg Addr.off z; simp at this; omega)]; exact hx⟩
    · exact ⟨x, by rw [World.cell?_of_block (a := ⟨g', j, none⟩) (set_far' e1)]; exact hx⟩
theorem Gv.next {lo0 lo : Nat} {W W' : World} {og : Nat} {L : List (List Stp)} (h : Gv lo0 lo W og L) (hlo : lo ≤ W.heap.size) (hb : Below W.heap.size W W') : Gv lo0 lo W' og L := by
  refine ⟨fun i t hi => ?_, Nat.lt_of_lt_of_le h.lt hb.size⟩
  obtain ⟨o, c, h1, h2, h3, h4⟩ := h.row i t hi
  refine ⟨o, c, (hb.cell (p := ⟨og, i, none⟩) h.lt).trans h1, h2, h3, fun z => ?_⟩
  obtain ⟨g', e, a1, a2, a3, a4⟩ := h4 z
  refine ⟨g', e, a1, a2, a3, fun j hj => ?_⟩
  obtain ⟨⟨x, hx⟩, hf⟩ := a4 j hj
  have hg' : g' < W.heap.size := Nat.lt_of_lt_of_le a2 hlo
  exact ⟨⟨x, (hb.cell (p := ⟨g', j, none⟩) hg').trans hx⟩, (hb.frozen (p := ⟨g', j, none⟩) hg').trans hf⟩
theorem fz_any {W : World} {base m size : Nat} {e : TypeId} {g cap : Nat} {xs : List Value} (h : W.ownsRow base e size (.slice (some ⟨g, 0, none⟩) m cap) m xs) (j : Nat) : W.frozen? ⟨g, j, none⟩ = false := by
  obtain ⟨_, ⟨e1, _⟩ | ⟨g', cap', cur, e1, _, hh, _⟩⟩ := h
  · cases e1
  · injection e1 with e1
    injection e1 with e1
    injection e1 with e1
    subst e1
    unfold World.frozen?; rw [hh]; rfl
theorem Ox.gv {w0 w : World} {g cap : Nat} {L : List (List Stp)} (h : Ox w0 w (.slice (some ⟨g, 0, none⟩) L.length cap) L) : Gv w0.heap.size w.heap.size w g L := by
  obtain ⟨⟨vs, h1, h2⟩, h3⟩ := h
  refine ⟨fun i t hi => ?_, (h1.lt g rfl).2⟩
  obtain ⟨u, e1, e2, e3⟩ := h2 i t hi
  obtain ⟨k, o, c, rfl⟩ := steps_of_owns e2
  obtain ⟨o', c', e, k1, k2, _⟩ := k
  injection e with ea eb ec
  subst ea ec
  refine ⟨o, c, ?_, k1, k2, fun z => ?_⟩
  · rw [h1.cellAt i (by have := (List.getElem?_eq_some_iff.1 hi).1; omega)]; exact e1
  · obtain ⟨g', cap', e, hb, hlt⟩ := e2.form (by omega)
    injection e with ea eb ec
    subst ea
    refine ⟨g', rfl, (e2.lt g' rfl).1, (e2.lt g' rfl).2, fun z => e3 g' rfl (by rw [z]; rfl), fun k hk => ⟨?_, fz_any e2 k⟩⟩
    have := e2.cellAt k (by omega)
    rw [List.getElem?_eq_getElem (by rw [flat_len]; omega)] at this
    exact ⟨_, this⟩
set_option maxRecDepth 100000 in
set_option maxHeartbeats 8000000 in
theorem goes_core {w : World} {v pv nv : Value} {L : List (List Stp)} {picks names : List Int} (hL : TasksAt w v L) (hok : ∀ t ∈ L, ∀ s ∈ t, s.Ok) (hP : IntsAt w pv picks) (hNm : IntsAt w nv names) (hm : L.length + lens L ≤ 400) (hp : picks.length ≤ 400) (hh : Calls Try.prog 5 #[v] w (HeavyP L w)) :
    Calls Try.prog 3 #[v, pv, nv] w fun e w' => e = .returned (.bool true) ∧ Below w.heap.size w w' := by
  obtain ⟨o, cap, rfl, k1, k2⟩ := hL.shape
  obtain ⟨po, pcap, rfl, pl⟩ := hP.shape
  obtain ⟨no, ncap, rfl, nl⟩ := hNm.shape
  have HL := hide hL
  have OK := hide hok
  have HP := hide hP
  have HNM := hide hNm
  have HM := hide hm
  have HH := hide hh
  obtain ⟨n, hn⟩ : ∃ n, L.length = n := ⟨_, rfl⟩
  obtain ⟨P, hPl⟩ : ∃ P, picks.length = P := ⟨_, rfl⟩
  obtain ⟨N, hNl⟩ : ∃ N, names.length = N := ⟨_, rfl⟩
  have HN := hide hn
  have HPL := hide hPl
  rw [hn] at HL k1 HH ⊢
  rw [hPl] at HP hp pl ⊢
  rw [hNl] at HNM nl ⊢
  have dp : decide (400 < (P : Int)) = false := decide_eq_false (by omega)
  clear hL hok hP hNm hm hh hn hPl hNl
  go_enter Try.func3, Try.ntmps3
  go_wp2_with fail
  refine HH.out.mono ?_
  rintro e w1 ⟨he, hw1⟩
  rw [decide_eq_false (by have := HM.out; omega)] at he
  subst he
  rw [hw1]
  clear hw1 w1 HH
  go_wp2_with fail
  refine (ownx_core _ L HL.out (by have := HM.out; omega)).mono ?_
  rintro e w1 ⟨gv, rfl, hO⟩
  obtain ⟨og, gcap, rfl, g1, g2⟩ := hO.shape
  have HO := hide hO
  have B1 := hide hO.below
  have LM : Hid (lens L ≤ 1000000) := hide (by have := HM.out; omega)
  clear hO
  rw [HN.out] at HO g1 ⊢
  go_wp2_with fail
  refine (new_core _ L (by have := HO.out.tasks; exact this) LM.out OK.out).mono ?_
  intro e w2 hN1
  rcases hN1 with ⟨z, rfl, b2⟩ | ⟨z, m, F, rfl, hSI, b2, hF⟩
  · -- refused
    have B2 := hide (B1.out.trans (b2.mono B1.out.size))
    have C2 := hide (newR_core (w := w2) _ L (HL.out.below B2.out) LM.out OK.out)
    have ZZ := hide z
    obtain ⟨c, hc⟩ : ∃ c : Int, ((newS L : Nat) : Int) = c := ⟨_, rfl⟩
    have cc : (c != c) = false := by simp
    clear z b2
    rw [hc]
    go_wp2_with fail
    refine C2.out.mono ?_
    intro e w3 hN2
    rcases hN2 with ⟨_, rfl, b3⟩ | ⟨y, _⟩
    · have B3 := hide (B2.out.trans (b3.mono B2.out.size))
      clear b3
      rw [hc]
      clear hc
      go_wp2_with fail
      refine (awake_core _).mono ?_
      rintro _ w4 ⟨rfl, b4⟩
      have B4 := hide (B3.out.trans (b4.mono B3.out.size))
      clear b4
      go_wp2_with fail
      go_ret
      exact ⟨rfl, B4.out⟩
    · exact absurd y ZZ.out
  · have B2 := hide (B1.out.trans (b2.mono B1.out.size))
    have C2 := hide (newR_core (w := w2) _ L (HL.out.below B2.out) LM.out OK.out)
    have HSI := hide hSI
    have BB2 := hide b2
    have HF := hide hF
    have ZZ := hide z
    clear hSI b2 hF z
    go_wp2_with fail
    refine C2.out.mono ?_
    intro e w3 hN2
    rcases hN2 with ⟨y, _⟩ | ⟨_, mr, G, r, rfl, hab, hRI, b3, hG⟩
    · exact absurd ZZ.out y
    · have hmr : ∃ rb, mr = ⟨rb, 0, none⟩ := by
        obtain ⟨b, _, _, _, _, _, _, _, _, e, _⟩ := hRI
        exact ⟨b, e⟩
      obtain ⟨rb, rfl⟩ := hmr
      have hTW := TW.new B1.out HSI.out BB2.out HF.out hab hRI b3 hG
      have hG1 : 0 < n → ∃ g, og = some ⟨g, 0, none⟩ ∧ Gv w.heap.size w1.heap.size w3 g L := fun z => by
        have hO := HO.out
        have hO2 := hO
        obtain ⟨⟨vs, h1, h2⟩, h3⟩ := hO
        rw [HN.out] at h1
        obtain ⟨g, cap', e, _, _⟩ := h1.form z
        injection e with ea eb ec
        subst ea
        refine ⟨g, rfl, ?_⟩
        have hgv : Gv w.heap.size w1.heap.size w1 g L := by
          have := hO2
          rw [← HN.out] at this
          exact Ox.gv this
        have s2 := BB2.out.size
        exact (hgv.next (Nat.le_refl _) BB2.out).next s2 b3
      have HG1 := hide hG1
      have HTW := hide hTW
      clear hG1 hTW hab hRI b3 hG HSI BB2 HF C2 B2 HO ZZ
      go_wp2_with fail
      go_loopw [12] (fun iv wr => ∃ (i : Nat), iv = .int .i64 (i : Int) ∧ i ≤ n ∧ Hid (TW w w1.heap.size wr m rb (initS L) (initS L) ∧ (0 < n → ∃ g, og = some ⟨g, 0, none⟩ ∧ Gv w.heap.size w1.heap.size wr g L))) (fun iv _ => n - (intOf iv).toNat)
      case atStart => exact ⟨0, rfl, Nat.zero_le _, hide ⟨HTW.out, HG1.out⟩⟩
      case round =>
        clear HG1 HTW
        obtain ⟨i, rfl, hi, HI⟩ := hrel
        by_cases hlt : i < n
        · have hil : i < L.length := by rw [HN.out]; exact hlt
          obtain ⟨g, rfl, _⟩ := HI.out.2 (by omega)
          have HI2 : Hid (TW w w1.heap.size wr m rb (initS L) (initS L) ∧ Gv w.heap.size w1.heap.size wr g L) := hide ⟨HI.out.1, by
            obtain ⟨g', e, h⟩ := HI.out.2 (by omega)
            obtain rfl : g = g' := by injection e with e; injection e
            exact h⟩
          obtain ⟨t, ht⟩ : ∃ t, L[i]? = some t := ⟨_, List.getElem?_eq_getElem hil⟩
          have HT := hide ht
          have tl : t.length ≤ 400 := by
            have := lens_part hil
            have h5 := HM.out
            rw [List.getElem?_eq_getElem hil] at ht
            injection ht with ht
            rw [ht] at this
            omega
          obtain ⟨T, hT⟩ : ∃ T, t.length = T := ⟨_, rfl⟩
          have HTT := hide hT
          rw [hT] at tl
          have i1 : (i : Int) < (n : Int) := by omega
          have i2 : (0 : Int) ≤ (i : Int) := by omega
          clear HI ht hT hil
          go_wp2_with fail
          go_loopw [13] (fun kv wr => ∃ (k : Nat), kv = .int .i64 (k : Int) ∧ k ≤ T ∧ Hid (TW w w1.heap.size wr m rb (initS L) (initS L) ∧ Gv w.heap.size w1.heap.size wr g L)) (fun kv _ => T - (intOf kv).toNat)
          case atStart => exact ⟨0, rfl, Nat.zero_le _, HI2⟩
          case round =>
            clear HI2
            obtain ⟨k, rfl, hk, HI⟩ := hrel
            obtain ⟨oi, ci, q1, q2, q3, q4⟩ := HI.out.2.row i t HT.out
            rw [HTT.out] at q1 q2 q4
            by_cases hkl : k < T
            · obtain ⟨gi, rfl, r1, r2, r3, r4⟩ := q4 (by omega)
              obtain ⟨⟨x0, c0⟩, f0⟩ := r4 (k * 3) (by omega)
              obtain ⟨⟨x1, c1⟩, f1⟩ := r4 (k * 3 + 1) (by omega)
              obtain ⟨⟨x2, c2⟩, f2⟩ := r4 (k * 3 + 2) (by omega)
              have NX : Hid (TW w w1.heap.size (((wr.setCell ⟨gi, k * 3, none⟩ (.int .i64 5)).setCell ⟨gi, k * 3 + 1, none⟩ (.int .i64 7)).setCell ⟨gi, k * 3 + 2, none⟩ (.int .i64 0)) m rb (initS L) (initS L) ∧ Gv w.heap.size w1.heap.size (((wr.setCell ⟨gi, k * 3, none⟩ (.int .i64 5)).setCell ⟨gi, k * 3 + 1, none⟩ (.int .i64 7)).setCell ⟨gi, k * 3 + 2, none⟩ (.int .i64 0)) g L) := hide ⟨((HI.out.1.set r1 r2).set r1 r2).set r1 r2, ((HI.out.2.set r3).set r3).set r3⟩
              have j1 : (k : Int) < (T : Int) := by omega
              have j2 : (0 : Int) ≤ (k : Int) := by omega
              have hgg : gi ≠ g := r3
              clear HI q4 r4
              go_wp2_with fail
              go_roundw
              case rel => exact ⟨k + 1, by go_num, by omega, NX⟩
              case measure => simp [intOf]; omega
            · obtain rfl : k = T := by omega
              have d1 : ¬ (k : Int) < (k : Int) := by omega
              have HI3 : Hid (TW w w1.heap.size wr m rb (initS L) (initS L) ∧ (0 < n → ∃ g', some (⟨g, 0, none⟩ : Addr) = some ⟨g', 0, none⟩ ∧ Gv w.heap.size w1.heap.size wr g' L)) := hide ⟨HI.out.1, fun _ => ⟨g, rfl, HI.out.2⟩⟩
              clear HI q4
              go_wp2_with fail
              go_roundw
              case rel => exact ⟨i + 1, by go_num, by omega, HI3⟩
              case measure => simp [intOf]; omega
        · obtain rfl : i = n := by omega
          have d0 : ¬ (i : Int) < (i : Int) := by omega
          have HTW := hide HI.out.1
          clear HI
          obtain ⟨S0, hS0⟩ : ∃ S0, S0 = initS L := ⟨_, rfl⟩
          rw [← hS0] at HTW
          clear hS0
          go_wp2_with fail
          go_loopw [14] (fun iv wr => ∃ (q : Nat) (S : Sc), iv = .int .i64 (q : Int) ∧ q ≤ P ∧ Hid (TW w w1.heap.size wr m rb S S)) (fun iv _ => P - (intOf iv).toNat)
          case atStart => exact ⟨0, S0, rfl, Nat.zero_le _, HTW⟩
          case round =>
            clear HTW
            obtain ⟨q, S, rfl, hq, HTW⟩ := hrel
            by_cases hql : q < P
            · obtain ⟨gp, offp, x, rfl, hx, x64, cx⟩ := HP.out.at HTW.out.be hql
              have gpl : Hid (∀ W, Below w.heap.size w W → W.cell? ⟨gp, offp + q, none⟩ = some (.int .i64 x)) := hide (fun W hW => by
                obtain ⟨g', off', x', e, hx', _, c⟩ := HP.out.at hW hql
                injection e with e
                injection e with e1 e2
                subst e1 e2
                rw [hx] at hx'
                injection hx' with hx'
                subst hx'
                exact c)
              have bcp : P ≤ pcap := by obtain ⟨_, _, z, h2, _⟩ := HP.out; injection z with z1 z2 z3; rw [HPL.out] at h2; omega
              have C1 := hide (HTW.out.landGo x x64)
              have C2 : Hid (∀ W, TW w w1.heap.size W m rb (goS S x).2.2 S → Calls Try.prog 11 #[.pointer (some ⟨rb, 0, none⟩), .int .i64 x] W fun e w' => e = .returned (.tuple #[.int .i64 ((goS S x).1 : Nat), .int .i64 ((goS S x).2.1 : Nat)]) ∧ TW w w1.heap.size w' m rb (goS S x).2.2 (goS S x).2.2) := hide (fun W hW => hW.refGo x x64)
              obtain ⟨A, hA⟩ : ∃ A : Int, (((goS S x).1 : Nat) : Int) = A := ⟨_, rfl⟩
              obtain ⟨B, hB⟩ : ∃ B : Int, (((goS S x).2.1 : Nat) : Int) = B := ⟨_, rfl⟩
              obtain ⟨S', hS'⟩ : ∃ S', (goS S x).2.2 = S' := ⟨_, rfl⟩
              rw [hA, hB, hS'] at C1 C2
              have aa : (A != A) = false := by simp
              have bb : (B != B) = false := by simp
              have j1 : (q : Int) < (P : Int) := by omega
              have j2 : (0 : Int) ≤ (q : Int) := by omega
              have q4 : ((q : Int) % 4 == 0) = true ∨ ((q : Int) % 4 == 0) = false := by cases ((q : Int) % 4 == 0) <;> simp
              clear hA hB hS' HTW hx x64
              go_wp2_with fail
              refine C1.out.mono ?_
              rintro _ w5 ⟨rfl, t5⟩
              have T5 := hide t5
              have cx5 := gpl.out _ t5.be
              clear t5 cx C1
              go_wp2_with fail
              refine (C2.out _ T5.out).mono ?_
              rintro _ w6 ⟨rfl, t6⟩
              have T6 := hide t6
              have CA := hide (t6.alike (HNM.out.below t6.be))
              clear t6 T5 cx5 C2
              rcases q4 with q4 | q4
              · go_wp2_with fail
                refine CA.out.mono ?_
                rintro _ w7 ⟨rfl, b7⟩
                have T7 := hide (T6.out.next b7)
                clear b7 T6 CA
                go_wp2_with fail
                go_roundw
                case rel => exact ⟨q + 1, S', by go_num, by omega, T7⟩
                case measure => simp [intOf]; omega
              · go_wp2_with fail
                go_roundw
                case rel => exact ⟨q + 1, S', by go_num, by omega, T6⟩
                case measure => simp [intOf]; omega
            · obtain rfl : q = P := by omega
              have d1 : ¬ (q : Int) < (q : Int) := by omega
              have CA := hide (HTW.out.alike (HNM.out.below HTW.out.be))
              go_wp2_with fail
              refine CA.out.mono ?_
              rintro _ w5 ⟨rfl, b5⟩
              have B5 := hide (HTW.out.be.trans (b5.mono HTW.out.be.size))
              clear b5 CA HTW
              go_wp2_with fail
              refine (awake_core _).mono ?_
              rintro _ w6 ⟨rfl, b6⟩
              have B6 := hide (B5.out.trans (b6.mono B5.out.size))
              clear b6
              go_wp2_with fail
              go_ret
              exact ⟨rfl, B6.out⟩
theorem goes_any {w : World} {v pv nv : Value} {L : List (List Stp)} {picks names : List Int} (hL : TasksAt w v L) (hok : ∀ t ∈ L, ∀ s ∈ t, s.Ok) (hl1 : L.length ≤ 140737488355328) (hl2 : ∀ t ∈ L, t.length ≤ 140737488355328) (hP : IntsAt w pv picks) (hNm : IntsAt w nv names) :
    Calls Try.prog 3 #[v, pv, nv] w fun e w' => e = .returned (.bool true) ∧ Below w.heap.size w w' := by
  have hh := heavy_core v L hL (by omega) (fun t ht => by have := hl2 t ht; omega)
  by_cases hm : 400 < L.length + lens L
  · obtain ⟨po, pcap, rfl, pl⟩ := hP.shape
    obtain ⟨no, ncap, rfl, nl⟩ := hNm.shape
    have HH := hide hh
    have HM := hide hm
    clear hh hL hP hNm hok hl1 hl2 hm
    go_enter Try.func3, Try.ntmps3
    go_wp2_with fail
    refine HH.out.mono ?_
    rintro e w1 ⟨he, hw1⟩
    rw [decide_eq_true HM.out] at he
    subst he
    rw [hw1]
    clear hw1 w1 HH
    go_wp2_with fail
    go_ret
    exact ⟨rfl, Below.refl _ _⟩
  · by_cases hp : picks.length ≤ 400
    · exact goes_core hL hok hP hNm (by omega) hp hh
    · obtain ⟨po, pcap, rfl, pl⟩ := hP.shape
      obtain ⟨no, ncap, rfl, nl⟩ := hNm.shape
      have HH := hide hh
      have HM := hide hm
      obtain ⟨P, hPl⟩ : ∃ P, picks.length = P := ⟨_, rfl⟩
      rw [hPl] at pl hp ⊢
      have dp : decide (400 < (P : Int)) = true := decide_eq_true (by omega)
      clear hh hL hP hNm hok hl1 hl2 hm hp hPl
      go_enter Try.func3, Try.ntmps3
      go_wp2_with fail
      refine HH.out.mono ?_
      rintro e w1 ⟨he, hw1⟩
      rw [decide_eq_false HM.out] at he
      subst he
      rw [hw1]
      clear hw1 w1 HH
      go_wp2_with fail
      go_ret
      exact ⟨rfl, Below.refl _ _⟩
end Go.Proofs.Ytlcbegmhmbegjaa
