/- VmemPlaces, over the face. -/
import Derived.Test.YtpceigglilgelabPl
import Derived.Test.YtpceigglilgelabPlA
import Derived.Test.YtpceigglilgelabAwake
namespace Go.Proofs.Ytpceigglilgelab
open Go.ChangeShapes Go.WideShapes Go.ChangeAt Go.RowKit Go.Proofs.Sp Go.Maps

theorem places_early (o0 o1 : Option Addr) (l0 c0 l1 c1 : Nat) (h0 : l0 ≤ 9223372036854775807) (h1 : l1 ≤ 9223372036854775807) (h : 20 < l0 ∨ 20 < l1) (w : World) :
    Calls Try.prog 4 #[.slice o0 l0 c0, .slice o1 l1 c1] w fun e w' => e = .returned (.bool true) ∧ Below w.heap.size w w' := by
  by_cases e1 : (20 : Int) < (l0 : Int)
  · have d1 : decide ((20 : Int) < (l0 : Int)) = true := by simpa using e1
    clear h
    go_enter Try.func4, Try.ntmps4
    go_wp2_with fail
    go_ret
    exact ⟨rfl, Below.refl _ _⟩
  · have d1 : decide ((20 : Int) < (l0 : Int)) = false := by simpa using e1
    have e2 : (20 : Int) < (l1 : Int) := by omega
    have d2 : decide ((20 : Int) < (l1 : Int)) = true := by simpa using e2
    clear h
    go_enter Try.func4, Try.ntmps4
    go_wp2_with fail
    go_ret
    exact ⟨rfl, Below.refl _ _⟩
set_option maxRecDepth 100000 in
set_option maxHeartbeats 4000000 in
theorem places_core {I : Inv} (Fc : Face vm I) (hcnt : ∀ T : Sp, WF T → countS T 1 = cntI T.st 0 34359738368 1) (o0 o1 : Option Addr) (l0 c0 l1 c1 : Nat) (X0 X1 : Nat → Nat) (w : World) (h0 : ArgAt w o0 l0 c0 X0) (h1 : ArgAt w o1 l1 c1 X1) (hl0 : l0 ≤ 20) (hl1 : l1 ≤ 20) :
    Calls Try.prog 4 #[.slice o0 l0 c0, .slice o1 l1 c1] w fun e w' => e = .returned (.bool true) ∧ Below w.heap.size w w' := by
  obtain ⟨i0, hi, hz0, hz1, hz2⟩ := info_parts infoU
  have hmk : ∀ w : World, (Instr.makeMap 36 none).run Try.prog w = .ok (.map (some w.heap.size)) (w.alloc (.map #[] 0)) := fun _ => rfl
  have hnews : ∀ ad, o0 = some ad → ∀ j u, (u64s ((List.range l0).map X0))[j]? = some u → (w.alloc (.cells #[] 22)).cell? (ad.add j) = some u := by
    intro ad ho j u hu
    obtain ⟨hj, rfl⟩ := u64s_get X0 l0 j u hu
    have := h0.cells ad ho j hj
    rw [World.cell?_alloc_lt _ _ _ (World.block_lt_of_cell? w _ this)]
    exact this
  have hll : (u64s ((List.range l0).map X0)).length = l0 := by simp [u64s]
  have hone := u64s_one ((List.range l0).map X0)
  have hget : ∀ i, i < l0 → ((List.range l0).map X0)[i]? = some (X0 i) := fun i hi => by simp [hi]
  obtain ⟨L, hL⟩ : ∃ L, L = (List.range l0).map X0 := ⟨_, rfl⟩
  rw [← hL] at hnews hll hone hget
  have HL := hide hL
  have H0 := hide h0
  have H1 := hide h1
  have HN := hide hnews
  have HLL := hide hll
  have HO := hide hone
  have HG := hide hget
  have HNO := hide h0.nil
  have HC := hide hcnt
  clear hL hnews hll hone h0 h1 hget hcnt
  have d1 : ¬ (20 : Int) < (l0 : Int) := by omega
  have d2 : ¬ (20 : Int) < (l1 : Int) := by omega
  go_enter Try.func4, Try.ntmps4
  go_wp2_with (first | (at_builtin; refine append_src rfl (.tmp 18) (.tmp 19) 26 rfl w.heap.size 22 i0 (.int .u64 0) 8 Try.underlying26 hi hz0 hz1 hz2 rfl (.slice (some ⟨w.heap.size, 0, none⟩) 0 0) 0 [] rfl (own_empty w 22 1) (by simp) o0 l0 c0 (u64s L) rfl HLL.out HNO.out HN.out HO.out (by unfold maxLen; omega) (by omega) (by simp) ?_; intro v' w1 hown hgrow hnil; obtain ⟨g, cp, rfl⟩ := own_shape hown hnil; have HGR := hide hgrow; clear hgrow hnil))
  rw [Nat.zero_add] at hown
  have bel : Below w.heap.size w w1 := ((Below.refl _ _).alloc (Nat.le_refl _) _).grown HGR.out (by simp) (by intro k hk; simp [Value.ownBlock] at hk; omega)
  have hsl : Sl w1 _ (u64s L) := Sl.of_owns hown
  go_at_call 5
  refine (Fc.new w1 _ _ _ L [] [] hsl (Sl.nil _) (Sl.nil _) (by rw [HL.out]; intro x hx; obtain ⟨i, _, rfl⟩ := List.mem_map.1 hx; exact H0.out.small i) (by simp) (by rw [HL.out]; simp; omega) (by decide) (by decide)).mono ?_
  rintro e w2 ⟨m, F, rfl, k1, k2, k3⟩
  have b2 : Below w.heap.size w w2 := bel.trans (k2.below bel.size (fun _ h => h.elim))
  have jm : JM I w m w2.heap.size (w2.alloc (.map #[] 0)) (Sp.new L [] []) 0 0 (fun _ => 0) := ⟨F, Fc.kept k1 (by simp) (fun b hb => Below.heap_alloc _ _ _ (Fc.lt k1 b hb)), fun b hb => by have := k3 b hb; have := bel.size; omega, b2.alloc b2.size _, fun z => by have := Fc.lt k1 _ z; omega, b2.size, MapIs.made w2 boolElem⟩
  have J0 := hide jm
  have P0 := hide (PlAt.start L)
  obtain ⟨bm, hbm⟩ : ∃ bm, bm = w2.heap.size := ⟨_, rfl⟩
  rw [← hbm] at J0
  have HB := hide hbm
  clear hsl hown HGR bel k1 k2 k3 b2 jm hbm
  go_wp2_with fail
  rw [← HB.out]
  go_loopw [7] (fun iv wr => ∃ (i : Nat) (Q : List Nat) (T : Sp) (K : Nat), iv = .int .i64 (i : Int) ∧ i ≤ l1 ∧ K ≤ 600 * i ∧ Hid (PlAt L i Q T) ∧ Hid (JM I w m bm wr T K i (fun q => if q ∈ Q then 1 else 0))) (fun iv _ => l1 - (intOf iv).toNat)
  case atStart => exact ⟨0, [], _, 0, rfl, Nat.zero_le _, by omega, P0, hide (J0.out.more (fun q => by simp))⟩
  case round =>
    obtain ⟨i, Q, T, K, rfl, hi1, hK, hP, hJ⟩ := hrel
    clear J0 P0
    by_cases hlt : i < l1
    · have d3 : (i : Int) < (l1 : Int) := by omega
      obtain ⟨b1, f1, rfl, hb1, hx1⟩ := H1.out.at hlt
      have cx : wr.cell? ⟨b1, f1 + i, none⟩ = some (.int .u64 (X1 i : Int)) := by rw [hJ.out.below.cell (by exact hb1)]; exact hx1 i hlt
      have sx := H1.out.small i
      obtain ⟨q, T', hres, nx, q1, q2, q3, q4, s1, s2, hx⟩ := hP.out.next (by omega) (X1 i)
      obtain ⟨x1, hx1e⟩ : ∃ x1, x1 = X1 i := ⟨_, rfl⟩
      rw [← hx1e] at cx sx hres
      have HR := hide hres
      have NX := hide nx
      have ST1 := hide s1
      have ST2 := hide s2
      have HX := hide hx
      have HQ := hide q4
      clear hx1 hx1e hres nx s1 s2 hx q4
      have e1 : ((q : Int) == 0) = false := beq_eq_false_iff_ne.2 (by omega)
      have e2 : (q : Int) % 512 = 0 := by omega
      have e3 : (q : Int) < 34359738368 := by omega
      have e3' : decide ((34359738368 : Int) ≤ (q : Int)) = false := decide_eq_false (by omega)
      have e2' : ((q : Int) % 512 != 0) = false := by rw [e2]; rfl
      go_wp2_with fail
      go_at_call 6
      refine (JM.reserve Fc (a := (x1 : Int)) (b := 512) (by exact HR.out) hJ.out (by unfold two64; omega) (by unfold two64; omega) (by unfold lim; omega)).mono ?_
      rintro e w3 ⟨rfl, j3⟩
      have j3 : JM I w m bm w3 T' (K + 513) i (fun q => if q ∈ Q then 1 else 0) := j3
      have lk := look_bool j3.map q (by omega)
      rw [if_neg HQ.out, show decide ((0 : Nat) = 1) = false by rfl] at lk
      obtain ⟨w4, hup, j4⟩ := j3.put Fc (by omega) q (by omega)
      have J4 := hide j4
      have NM : Hid (∀ y, (if y = q then 1 else if y ∈ Q then 1 else 0) = if y ∈ q :: Q then 1 else 0) := hide (fun y => by
        by_cases z : y = q
        · rw [if_pos z, if_pos (by rw [z]; exact List.mem_cons_self)]
        · rw [if_neg z]
          by_cases u : y ∈ Q
          · rw [if_pos u, if_pos (List.mem_cons_of_mem _ u)]
          · rw [if_neg u, if_neg (fun v => (List.mem_cons.1 v).elim z u)])
      clear j3 j4
      by_cases g0 : i < l0
      · have d4 : decide ((i : Int) < (l0 : Int)) = true := decide_eq_true (by omega)
        have d5 : (i : Int) < (l0 : Int) := by omega
        obtain ⟨b0, f0, rfl, hb0, hx0⟩ := H0.out.at g0
        have cy : w4.cell? ⟨b0, f0 + i, none⟩ = some (.int .u64 (X0 i : Int)) := by rw [J4.out.below.cell (by exact hb0)]; exact hx0 i g0
        have sy := H0.out.small i
        have hxx := HX.out (X0 i) (HG.out i g0)
        obtain ⟨y, hy⟩ : ∃ y, y = X0 i := ⟨_, rfl⟩
        rw [← hy] at cy sy hxx
        obtain ⟨z, hz⟩ : ∃ z : Int, z = (y : Int) := ⟨_, rfl⟩
        rw [← hz] at cy
        have HXX := hide hxx
        have HZ := hide hz
        have zp : 0 ≤ z := by omega
        have zl : z < 18446744073709551616 := by omega
        clear hx0 hy hxx sy hz
        by_cases y1 : z = 0
        · subst y1
          have z1 : decide ((0 : Int) < (0 : Int)) = false := by decide
          go_wp2_with fail
          go_at_call 10
          refine (JM.state Fc (a := (q : Int)) (x := 1) (by rw [Int.toNat_natCast]; exact ST1.out) J4.out (by unfold two64; omega) (by unfold lim; omega)).mono ?_
          rintro e w5 ⟨rfl, j5⟩
          have J5 := hide j5
          clear j5
          go_wp2_with fail
          go_at_call 10
          refine (JM.state Fc (a := (q : Int) + 511) (x := 1) (by rw [show ((q : Int) + 511).toNat = q + 511 by omega]; exact ST2.out) J5.out (by unfold two64; omega) (by unfold lim; omega)).mono ?_
          rintro e w6 ⟨rfl, j6⟩
          have J6 := hide j6
          clear j6
          go_wp2_with fail
          exact ⟨⟨i + 1, q :: Q, T', K + 513, by go_num, by omega, by omega, NX, hide (J6.out.more NM.out)⟩, by simp [intOf]; omega⟩
        · have z1 : decide ((0 : Int) < z) = true := decide_eq_true (by omega)
          by_cases y2 : z % 512 = 0
          · have z2 : (z % 512 == 0) = true := beq_iff_eq.2 y2
            by_cases y3 : z < 34359738368
            · have z3 : decide (z < 34359738368) = true := decide_eq_true (by omega)
              by_cases y4 : z = (q : Int)
              · have z4 : ((q : Int) != z) = false := by rw [y4]; simp
                clear y4
                go_wp2_with fail
                go_at_call 10
                refine (JM.state Fc (a := (q : Int)) (x := 1) (by rw [Int.toNat_natCast]; exact ST1.out) J4.out (by unfold two64; omega) (by unfold lim; omega)).mono ?_
                rintro e w5 ⟨rfl, j5⟩
                have J5 := hide j5
                clear j5
                go_wp2_with fail
                go_at_call 10
                refine (JM.state Fc (a := (q : Int) + 511) (x := 1) (by rw [show ((q : Int) + 511).toNat = q + 511 by omega]; exact ST2.out) J5.out (by unfold two64; omega) (by unfold lim; omega)).mono ?_
                rintro e w6 ⟨rfl, j6⟩
                have J6 := hide j6
                clear j6
                go_wp2_with fail
                exact ⟨⟨i + 1, q :: Q, T', K + 513, by go_num, by omega, by omega, NX, hide (J6.out.more NM.out)⟩, by simp [intOf]; omega⟩
              · have z4 : ((q : Int) != z) = true := by rw [bne_iff_ne]; omega
                have hz := HZ.out
                have lk2 := look_bool J4.out.map y (by omega)
                have mem : y ∈ Q := (HXX.out (by omega) (by omega) (by omega)).resolve_left (by omega)
                rw [if_neg (show ¬ y = q by omega), if_pos mem, show decide ((1 : Nat) = 1) = true by rfl, ← hz] at lk2
                clear mem y4 hz
                go_wp2_with fail
                go_at_call 10
                refine (JM.state Fc (a := (q : Int)) (x := 1) (by rw [Int.toNat_natCast]; exact ST1.out) J4.out (by unfold two64; omega) (by unfold lim; omega)).mono ?_
                rintro e w5 ⟨rfl, j5⟩
                have J5 := hide j5
                clear j5
                go_wp2_with fail
                go_at_call 10
                refine (JM.state Fc (a := (q : Int) + 511) (x := 1) (by rw [show ((q : Int) + 511).toNat = q + 511 by omega]; exact ST2.out) J5.out (by unfold two64; omega) (by unfold lim; omega)).mono ?_
                rintro e w6 ⟨rfl, j6⟩
                have J6 := hide j6
                clear j6
                go_wp2_with fail
                exact ⟨⟨i + 1, q :: Q, T', K + 513, by go_num, by omega, by omega, NX, hide (J6.out.more NM.out)⟩, by simp [intOf]; omega⟩
            · have z3 : decide (z < 34359738368) = false := decide_eq_false (by omega)
              go_wp2_with fail
              go_at_call 10
              refine (JM.state Fc (a := (q : Int)) (x := 1) (by rw [Int.toNat_natCast]; exact ST1.out) J4.out (by unfold two64; omega) (by unfold lim; omega)).mono ?_
              rintro e w5 ⟨rfl, j5⟩
              have J5 := hide j5
              clear j5
              go_wp2_with fail
              go_at_call 10
              refine (JM.state Fc (a := (q : Int) + 511) (x := 1) (by rw [show ((q : Int) + 511).toNat = q + 511 by omega]; exact ST2.out) J5.out (by unfold two64; omega) (by unfold lim; omega)).mono ?_
              rintro e w6 ⟨rfl, j6⟩
              have J6 := hide j6
              clear j6
              go_wp2_with fail
              exact ⟨⟨i + 1, q :: Q, T', K + 513, by go_num, by omega, by omega, NX, hide (J6.out.more NM.out)⟩, by simp [intOf]; omega⟩
          · have z2 : (z % 512 == 0) = false := beq_eq_false_iff_ne.2 y2
            go_wp2_with fail
            go_at_call 10
            refine (JM.state Fc (a := (q : Int)) (x := 1) (by rw [Int.toNat_natCast]; exact ST1.out) J4.out (by unfold two64; omega) (by unfold lim; omega)).mono ?_
            rintro e w5 ⟨rfl, j5⟩
            have J5 := hide j5
            clear j5
            go_wp2_with fail
            go_at_call 10
            refine (JM.state Fc (a := (q : Int) + 511) (x := 1) (by rw [show ((q : Int) + 511).toNat = q + 511 by omega]; exact ST2.out) J5.out (by unfold two64; omega) (by unfold lim; omega)).mono ?_
            rintro e w6 ⟨rfl, j6⟩
            have J6 := hide j6
            clear j6
            go_wp2_with fail
            exact ⟨⟨i + 1, q :: Q, T', K + 513, by go_num, by omega, by omega, NX, hide (J6.out.more NM.out)⟩, by simp [intOf]; omega⟩
      · have d4 : decide ((i : Int) < (l0 : Int)) = false := decide_eq_false (by omega)
        go_wp2_with fail
        go_at_call 10
        refine (JM.state Fc (a := (q : Int)) (x := 1) (by rw [Int.toNat_natCast]; exact ST1.out) J4.out (by unfold two64; omega) (by unfold lim; omega)).mono ?_
        rintro e w5 ⟨rfl, j5⟩
        have J5 := hide j5
        clear j5
        go_wp2_with fail
        go_at_call 10
        refine (JM.state Fc (a := (q : Int) + 511) (x := 1) (by rw [show ((q : Int) + 511).toNat = q + 511 by omega]; exact ST2.out) J5.out (by unfold two64; omega) (by unfold lim; omega)).mono ?_
        rintro e w6 ⟨rfl, j6⟩
        have J6 := hide j6
        clear j6
        go_wp2_with fail
        exact ⟨⟨i + 1, q :: Q, T', K + 513, by go_num, by omega, by omega, NX, hide (J6.out.more NM.out)⟩, by simp [intOf]; omega⟩
    · obtain rfl : i = l1 := by omega
      have hc := HC.out T (hJ.out.wf Fc)
      rw [hP.out.cnt] at hc
      have HCC := hide hc
      clear hc
      go_wp2_with fail
      go_at_call 8
      refine (JM.count Fc (k := 1) HCC.out hJ.out (by decide) (by decide) (by unfold lim; omega)).mono ?_
      rintro e w3 ⟨rfl, j3⟩
      have J3 := hide j3
      clear j3
      go_wp2_with fail
      go_at_call 9
      refine (awake_core Fc _).mono ?_
      rintro e w9 ⟨rfl, b9⟩
      go_wp2_with fail
      go_ret
      exact ⟨rfl, J3.out.below.trans (b9.mono J3.out.below.size)⟩
end Go.Proofs.Ytpceigglilgelab
