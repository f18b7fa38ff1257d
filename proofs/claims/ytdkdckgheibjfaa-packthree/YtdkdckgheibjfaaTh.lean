/- PackThree: its walk. -/
import Derived.Test.YtdkdckgheibjfaaPg
import Derived.Test.YtdkdckgheibjfaaPl
namespace Go.Proofs.Ytdkdckgheibjfaa
open Go.ChangeShapes Go.WideShapes Go.ChangeAt Go.RowKit Go.Proofs.Pk Go.Maps
set_option linter.unusedVariables false
set_option linter.unusedSimpArgs false

/-- A part of a list. -/
theorem SumsAt.part {w : World} {o : Option Addr} {len cap : Nat} {t : List Sm} {T : Nat → Prop} (h : SumsAt w (.slice o len cap) t T) (i k : Nat) (hk : i + k ≤ len) (h0 : 0 < k) : ∃ b off, o = some ⟨b, off, none⟩ ∧ SumsAt w (.slice (some ⟨b, off + i * 3, none⟩) k (cap - i)) ((t.drop i).take k) T := by
  obtain ⟨o', cap', e, h2, h3, h4, h5⟩ := h
  injection e with e1 e2 e3
  subst e1 e2 e3
  obtain ⟨g, off, rfl, hT, hg, hc⟩ := h5 (fun z => by rw [z] at hk; simp at hk; omega)
  have hl : ((t.drop i).take k).length = k := by rw [List.length_take, List.length_drop]; omega
  refine ⟨g, off, rfl, _, cap - i, by rw [hl], by rw [hl]; omega, by omega, fun z => (by cases z), fun _ => ⟨g, off + i * 3, rfl, hT, hg, fun j s hj => ?_⟩⟩
  have hj' : t[i + j]? = some s := by
    have := (List.getElem?_eq_some_iff.1 hj).1
    rw [hl] at this
    rw [List.getElem?_take_of_lt this, List.getElem?_drop] at hj
    exact hj
  have := hc (i + j) s hj'
  rwa [show off + (i + j) * 3 = off + i * 3 + j * 3 by omega] at this
theorem nth_part (t : List Sm) (i k j : Nat) (hj : j < k) : nth ((t.drop i).take k) j = nth t (i + j) := by
  unfold nth
  rw [List.getElem?_take_of_lt hj, List.getElem?_drop]
theorem RR.part {t : List Sm} {p : Int} (h : RR t p) (i k : Nat) (hk : i + k ≤ t.length) : RR ((t.drop i).take k) p := by
  have hl : ((t.drop i).take k).length = k := by rw [List.length_take, List.length_drop]; omega
  exact ⟨h.p1, h.p2, by rw [hl]; have := h.len; omega, fun j hj => by
    rw [hl] at hj
    rw [nth_part t i k j hj]
    exact h.all (i + j) (by omega)⟩
theorem mg_one {p : Int} {X : Nat → Sm} (h : Rgt (X 0) p) : mg p X 1 = X 0 := by
  obtain ⟨⟨r1, r2, r3, r4, r5, r6⟩, r7⟩ := h
  have z : mg p X 0 = ⟨0, 0, 0⟩ := rfl
  rw [mg, z]
  generalize X 0 = x at *
  obtain ⟨s, m, e⟩ := x
  dsimp only at *
  rw [if_pos (by simp)]
  congr 1
  · omega
  · omega
  · split <;> omega
/-- The pairs of a list. -/
def prl (p : Int) (t : List Sm) (k : Nat) : List Sm := (List.range k).map (prs p (nth t))
theorem prl_len (p : Int) (t : List Sm) (k : Nat) : (prl p t k).length = k := by simp [prl]
theorem prl_nth (p : Int) (t : List Sm) (k j : Nat) (h : j < k) : nth (prl p t k) j = prs p (nth t) j := nth_at (by unfold prl; rw [List.getElem?_map, List.getElem?_range h]; rfl)
theorem prl_snoc (p : Int) (t : List Sm) (k : Nat) : prl p t k ++ [prs p (nth t) k] = prl p t (k + 1) := by unfold prl; rw [List.range_succ, List.map_append]; rfl
theorem prl_rr {p : Int} {t : List Sm} (h : RR t p) (hp : p ≤ 524288) {k : Nat} (hk : 2 * k ≤ t.length) : RR (prl p t k) (2 * p) :=
  ⟨by have := h.p1; omega, by omega, by rw [prl_len]; have := h.len; omega, fun j hj => by
    rw [prl_len] at hj
    rw [prl_nth p t k j hj]
    exact prs_rgt h.p1 (h.all _ (by omega)) (h.all _ (by omega))⟩
theorem prl_mg {p : Int} {t : List Sm} (h : RR t p) {k : Nat} (hk : 2 * k = t.length) : mg (2 * p) (nth (prl p t k)) k = mg p (nth t) t.length := by
  rw [mg_congr (Y := prs p (nth t)) k (fun j hj => prl_nth p t k j hj), mg_pairs h.p1 k (fun j hj => h.all j (by omega)), hk]
theorem prs_part {p : Int} (t : List Sm) (k : Nat) (h : 2 * k + 2 ≤ t.length) : mg p (nth ((t.drop (2 * k)).take 2)) ((t.drop (2 * k)).take 2).length = prs p (nth t) k := by
  have hl : ((t.drop (2 * k)).take 2).length = 2 := by rw [List.length_take, List.length_drop]; omega
  rw [hl]
  exact mg_congr 2 (fun j hj => nth_part t (2 * k) 2 j hj)
set_option maxRecDepth 100000 in
set_option maxHeartbeats 2000000 in
theorem three_core {w : World} {v : Value} {t : List Sm} {T : Nat → Prop} (h : SumsAt w v t T) (p cut : Int) (k : Nat) (hk : t.length = 2 * k) (hl : k ≤ 16) (hp : p ≤ 524288) :
    Calls Try.prog 6 #[v, .int .i64 p, .int .i64 cut] w fun e w' => e = .returned (.bool true) ∧ Below w.heap.size w w' := by
  obtain ⟨o, cap, rfl, k1, k2⟩ := h.shape
  have H := hide h
  have HK := hide hk
  rw [hk] at H k1 ⊢
  obtain ⟨n, hn⟩ : ∃ n, 2 * k = n := ⟨_, rfl⟩
  rw [hn] at H k1 HK ⊢
  have HN := hide hn
  have d1 : decide (32 < (n : Int)) = false := decide_eq_false (by omega)
  have d2 : ((n : Int) % 2 == 1) = false := beq_eq_false_iff_ne.2 (by omega)
  have d2' : ((n : Int).tmod 2 == 1) = false := beq_eq_false_iff_ne.2 (by rw [Int.tmod_eq_emod_of_nonneg (by omega)]; omega)
  have d3 : decide (524288 < p) = false := decide_eq_false (by omega)
  have n64 : n ≤ 64 := by omega
  clear h hk hn
  go_enter Try.func6, Try.ntmps6
  go_wp2_with fail
  refine (merge_core H.out p).mono ?_
  intro e w1 h1
  by_cases r : RR t p
  · obtain ⟨rfl, b1⟩ := h1.at r
    have A1 := hide (H.out.below b1)
    have B1 := hide b1
    have RH := hide r
    have p1 := r.p1
    obtain ⟨a, ha⟩ : ∃ a, a = mg p (nth t) t.length := ⟨_, rfl⟩
    rw [← ha]
    have HA := hide ha
    obtain ⟨S, M, E⟩ := a
    clear h1 b1 r H ha
    unfold sumV
    dsimp only
    obtain ⟨w2, hw2⟩ : ∃ w2, w2 = w1.alloc (.cells #[.int .i64 S, .int .i64 M, .int .i64 E] 23) := ⟨_, rfl⟩
    have X2 : Hid (Bx w.heap.size w1.heap.size w w2 S M E) := hide (by rw [hw2]; exact Bx.new B1.out B1.out.size)
    have A2 := hide (A1.out.below (show Below w1.heap.size w1 w2 by rw [hw2]; exact alloc1 _ _))
    have HW := hide hw2
    clear hw2 A1 B1
    go_wp2_with fail
    rw [← HW.out]
    go_loopw [9, 10] (fun lv iv wr => ∃ (j : Nat), iv = .int .i64 ((2 * j : Nat) : Int) ∧ j ≤ k ∧ Hid (Os w2 wr lv (prl p t j))) (fun _ iv _ => n - (intOf iv).toNat)
    case atStart => exact ⟨0, rfl, Nat.zero_le _, hide (Os.start w2)⟩
    case round =>
      clear HW
      obtain ⟨j, rfl, hj, hO⟩ := hrel
      obtain ⟨o2, c2, hv⟩ := hO.out.shape
      subst hv
      rw [prl_len]
      by_cases hlt : j < k
      · have hjn : 2 * j + 2 ≤ n := by have := HN.out; omega
        obtain ⟨b, off, rfl, hP⟩ := (A2.out.below hO.out.be).part (2 * j) 2 hjn (by omega)
        have PP := hide hP
        have hln : t.length = n := HK.out
        have RP := hide (RH.out.part (2 * j) 2 (by omega))
        have EP := hide (prs_part (p := p) t j (by omega))
        have ES := hide (prl_snoc p t j)
        obtain ⟨a, ha⟩ : ∃ a, prs p (nth t) j = a := ⟨_, rfl⟩
        rw [ha] at EP ES
        obtain ⟨i, hi⟩ : ∃ i, 2 * j = i := ⟨_, rfl⟩
        rw [hi] at PP RP EP hjn ⊢
        have HI := hide hi
        obtain ⟨x, y, z⟩ := a
        have i1 : (i : Int) + 1 < (n : Int) := by omega
        have i2 : (0 : Int) ≤ (i : Int) := by omega
        have i3 : (i : Int) + 2 ≤ (n : Int) := by omega
        have i4 : i ≤ n := by omega
        have i5 : i + 2 ≤ cap := by omega
        clear hP hln ha hi RH HA X2 A2
        go_wp2_with fail
        refine (merge_core PP.out p).mono ?_
        intro e w3 h3
        obtain ⟨rfl, b3⟩ := h3.at RP.out
        rw [EP.out]
        unfold sumV
        dsimp only
        have O3 := hO.out.next b3
        obtain ⟨w4, hw4⟩ : ∃ w4, w4 = w3.alloc (.cells #[.int .i64 x, .int .i64 y, .int .i64 z] 23) := ⟨_, rfl⟩
        have O4 := O3.next (show Below w3.heap.size w3 w4 by rw [hw4]; exact alloc1 _ _)
        have hz : w4.heap.size = w3.heap.size + 1 := by rw [hw4]; simp
        obtain ⟨g5, c5, w5, r5, O5⟩ := O4.push (by rw [prl_len]; omega) ⟨x, y, z⟩ 32
        rw [ES.out] at O5
        dsimp only at r5
        rw [hz, hw4] at r5
        rw [prl_len] at r5 O5
        have R5 := hide r5
        have OO := hide O5
        clear r5 O5 O4 O3 hw4 hz h3 b3 PP RP EP ES hO
        go_wp2_with (at_builtin; refine list_append_run (by rfl) (.tmp 62) (.tmp 64) 32 (by rfl) (by rfl) (by rfl) R5.out ?_)
        go_roundw
        case rel => exact ⟨j + 1, by have := HI.out; go_num, by omega, OO⟩
        case measure => simp [intOf]; omega
      · obtain rfl : j = k := by omega
        have hln : 2 * j = t.length := by rw [HK.out]; exact HN.out
        have RP := hide (prl_rr RH.out hp (k := j) (by omega))
        have EM : Hid (mg (2 * p) (nth (prl p t j)) (prl p t j).length = ⟨S, M, E⟩) := hide (by rw [prl_len, prl_mg RH.out hln]; exact HA.out.symm)
        have P0 := hide hO.out.sums
        rw [prl_len] at P0
        have A3 := hide (A2.out.below hO.out.be)
        have X3 := hide (X2.out.next hO.out.be)
        have hjn := HN.out
        rw [hjn]
        have i1 : ¬ (n : Int) + 1 < (n : Int) := by omega
        clear hO A2 X2
        go_wp2_with fail
        refine (merge_core P0.out _).mono ?_
        intro e w3 h3
        obtain ⟨rfl, b3⟩ := h3.at RP.out
        rw [EM.out]
        unfold sumV
        dsimp only
        have X4 := X3.out.next b3
        have A4 := A3.out.below b3
        obtain ⟨w5, hw5⟩ : ∃ w5, w5 = w3.alloc (.cells #[.int .i64 S, .int .i64 M, .int .i64 E] 23) := ⟨_, rfl⟩
        have Y5 : Bx w.heap.size w3.heap.size w w5 S M E := by rw [hw5]; exact Bx.new X4.be (by have := X4.lt; have := X4.le; omega)
        have X5 := X4.next (show Below w3.heap.size w3 w5 by rw [hw5]; exact alloc1 _ _)
        have A5 := A4.below (show Below w3.heap.size w3 w5 by rw [hw5]; exact alloc1 _ _)
        obtain ⟨w6, hw6⟩ : ∃ w6, w6 = w5.alloc (.cells #[.int .i64 0, .int .i64 0, .int .i64 0] 23) := ⟨_, rfl⟩
        have hz : w5.heap.size = w3.heap.size + 1 := by rw [hw5]; simp
        have Z6 : Hid (Bx w.heap.size w5.heap.size w w6 0 0 0) := hide (by rw [hw6]; exact Bx.new X5.be (by have := X5.lt; have := X5.le; omega))
        have X6 := hide (X5.next (show Below w5.heap.size w5 w6 by rw [hw6]; exact alloc1 _ _))
        have Y6 := hide (Y5.next (show Below w5.heap.size w5 w6 by rw [hw6]; exact alloc1 _ _))
        have A6 := hide (A5.below (show Below w5.heap.size w5 w6 by rw [hw6]; exact alloc1 _ _))
        rw [hz] at Z6
        have HW : Hid (w6 = (w3.alloc (.cells #[.int .i64 S, .int .i64 M, .int .i64 E] 23)).alloc (.cells #[.int .i64 0, .int .i64 0, .int .i64 0] 23)) := hide (by rw [hw6, hw5])
        have A4' := hide A4
        have X4' := hide X4
        have X4lt := hide X4.lt
        clear X4 A4 X5 Y5 A5 hw5 hw6 hz h3 b3 P0 RP EM X3 A3
        by_cases n0 : n = 0
        · subst n0
          have xl := X4'.out.lt
          have x0 := X4'.out.c0
          have x1 := X4'.out.c1
          have x2 := X4'.out.c2
          go_wp2_with fail
          rw [← HW.out]
          refine (awake_any _).mono ?_
          rintro _ w7 ⟨rfl, b7⟩
          have F := hide (X6.out.next b7)
          clear b7
          go_wp2_with fail
          go_ret
          exact ⟨rfl, F.out.be⟩
        · have n1 : 0 < n := by omega
          have n2 : (0 : Int) < (n : Int) := by omega
          have n3 : (1 : Int) ≤ (n : Int) := by omega
          have n4 : 1 ≤ n := n1
          have n5 : 1 ≤ cap := by omega
          obtain ⟨b, off, rfl, hP⟩ := A6.out.part 0 1 (by omega) (by omega)
          have PP := hide hP
          have RP := hide (RH.out.part 0 1 (by have := HK.out; omega))
          have hl1 : ((t.drop 0).take 1).length = 1 := by rw [List.length_take, List.length_drop]; have := HK.out; omega
          have hr0 := RP.out.all 0 (by rw [hl1]; decide)
          obtain ⟨gx, offx, s0, e0, hs0, hg0, c0, c1, c2⟩ := A6.out.at (Below.refl _ _) n1
          injection e0 with e0
          injection e0 with e0 e1
          subst e0 e1
          have hn0 := nth_part t 0 1 0 (by decide)
          rw [Nat.zero_add, nth_at hs0] at hn0
          have EP : Hid (mg p (nth ((t.drop 0).take 1)) ((t.drop 0).take 1).length = s0) := hide (by rw [hl1, mg_one hr0]; exact hn0)
          obtain ⟨x, y, z⟩ := s0
          dsimp only at c0 c1 c2
          rw [Nat.zero_mul, Nat.add_zero] at c0 c1 c2 PP
          rw [Nat.sub_zero] at PP
          clear hP hl1 hr0 hs0 hn0 RH HA n0 X4'
          have C0 := hide c0
          have C1 := hide c1
          have C2 := hide c2
          have G0 := hide hg0
          have G9 : Hid (b < w3.heap.size) := hide (by
            obtain ⟨gz, oz, sz, ez, _, hz, _⟩ := A4'.out.at (Below.refl _ _) n1
            injection ez with ez
            injection ez with ez _
            rw [ez]; exact hz)
          clear c0 c1 c2 hg0
          go_wp2_with fail
          rw [← HW.out]
          refine (merge_core PP.out p).mono ?_
          intro e w7 h7
          obtain ⟨rfl, b7⟩ := h7.at RP.out
          rw [EP.out]
          unfold sumV
          dsimp only
          have Z7 := Z6.out.next b7
          have X7 := X6.out.next b7
          have Y7 := Y6.out.next b7
          have e0 := (b7.cell (p := ⟨b, off, none⟩) G0.out).trans C0.out
          have e1 := (b7.cell (p := ⟨b, off + 1, none⟩) G0.out).trans C1.out
          have e2 := (b7.cell (p := ⟨b, off + 2, none⟩) G0.out).trans C2.out
          have z0 := Z7.c0
          have z1 := Z7.c1
          have z2 := Z7.c2
          have zf0 := Z7.fz 0
          have zf1 := Z7.fz 1
          have zf2 := Z7.fz 2
          have Z8 := ((Z7.set0 x).set1 y).set2 z
          have hq1 : w3.heap.size + 1 ≠ w1.heap.size := by have := X4lt.out; omega
          have hq2 : w3.heap.size + 1 ≠ w3.heap.size := by omega
          have X8 := hide (((X7.far hq1.symm (Z7.put 0 (.int .i64 x))).far hq1.symm ((Z7.set0 x).put 1 (.int .i64 y))).far hq1.symm (((Z7.set0 x).set1 y).put 2 (.int .i64 z)))
          have Y8 := hide (((Y7.far hq2.symm (Z7.put 0 (.int .i64 x))).far hq2.symm ((Z7.set0 x).put 1 (.int .i64 y))).far hq2.symm (((Z7.set0 x).set1 y).put 2 (.int .i64 z)))
          have hbz : b ≠ w3.heap.size + 1 := by have := G9.out; omega
          have far := fun (k : Nat) => World.cell?_of_block (a := ⟨b, k, none⟩) (((set_far (w := (w7.setCell ⟨w3.heap.size + 1, 0, none⟩ (.int .i64 x)).setCell ⟨w3.heap.size + 1, 1, none⟩ (.int .i64 y)) (k := 2) (u := .int .i64 z) hbz).trans (set_far (k := 1) (u := .int .i64 y) hbz)).trans (set_far (k := 0) (u := .int .i64 x) hbz))
          obtain ⟨w8, hw8⟩ : ∃ w8, w8 = ((w7.setCell ⟨w3.heap.size + 1, 0, none⟩ (.int .i64 x)).setCell ⟨w3.heap.size + 1, 1, none⟩ (.int .i64 y)).setCell ⟨w3.heap.size + 1, 2, none⟩ (.int .i64 z) := ⟨_, rfl⟩
          rw [← hw8] at Z8 X8 Y8 far
          have e0' := (far _).trans e0
          have e1' := (far _).trans e1
          have e2' := (far _).trans e2
          have ZZ := hide Z8
          have HW8 := hide hw8
          clear z0 z1 z2 zf0 zf1 zf2
          have z0 := Z7.c0
          have z1 := Z7.c1
          have z2 := Z7.c2
          have zf0 := Z7.fz 0
          have zf1 := Z7.fz 1
          have zf2 := Z7.fz 2
          clear far e0 e1 e2 Z8 hw8 Z7 X7 Y7 h7 b7 C0 C1 C2 PP RP EP HW Z6
          go_wp2_with fail
          rw [← HW8.out]
          clear z0 z1 z2 zf0 zf1 zf2
          have z0 := ZZ.out.c0
          have z1 := ZZ.out.c1
          have z2 := ZZ.out.c2
          have x0 := X8.out.c0
          have x1 := X8.out.c1
          have x2 := X8.out.c2
          have y0 := Y8.out.c0
          have y1 := Y8.out.c1
          have y2 := Y8.out.c2
          have BD := hide ZZ.out.be.drew
          clear HW8
          refine still_all (by kernel_rfl) (by kernel_rfl) ?_
          repeat still_step
          refine wpStill_nil ?_
          go_wp2_with fail
          refine (awake_any _).mono ?_
          rintro _ w9 ⟨rfl, b9⟩
          have F := hide (BD.out.trans (b9.mono BD.out.size))
          clear b9
          go_wp2_with fail
          go_ret
          exact ⟨rfl, F.out⟩
  · obtain rfl := h1.2.1 r
    have B1 := hide h1.2.2
    clear h1 r H
    unfold sumV
    dsimp only
    go_wp2_with fail
    refine (awake_any _).mono ?_
    rintro _ w2 ⟨rfl, b2⟩
    have B2 := hide (B1.out.trans ((box_cells b2).1.mono B1.out.size))
    clear b2
    go_wp2_with fail
    go_ret
    exact ⟨rfl, B2.out⟩
theorem three_out {w : World} {v : Value} {t : List Sm} {T : Nat → Prop} (h : SumsAt w v t T) (p cut : Int) (hq : 32 < t.length ∨ t.length % 2 = 1 ∨ 524288 < p) :
    Calls Try.prog 6 #[v, .int .i64 p, .int .i64 cut] w fun e w' => e = .returned (.bool true) ∧ Below w.heap.size w w' := by
  obtain ⟨o, cap, rfl, k1, k2⟩ := h.shape
  clear h
  obtain ⟨n, hn⟩ : ∃ n, t.length = n := ⟨_, rfl⟩
  rw [hn] at k1 hq ⊢
  clear hn
  have q : decide (32 < (n : Int)) = true ∨ decide (32 < (n : Int)) = false ∧ (((n : Int) % 2 == 1) = true ∨ ((n : Int) % 2 == 1) = false ∧ decide (524288 < p) = true) := by
    simp only [decide_eq_true_eq, decide_eq_false_iff_not, beq_eq_false_iff_ne, beq_iff_eq, ne_eq]
    omega
  clear hq
  rcases q with e1 | ⟨e1, e2 | ⟨e2, e3⟩⟩
  all_goals
    go_enter Try.func6, Try.ntmps6
    go_wp2_with fail
    go_ret
    exact ⟨rfl, Below.refl _ _⟩
theorem three_any {w : World} {v : Value} {t : List Sm} {T : Nat → Prop} (h : SumsAt w v t T) (p cut : Int) :
    Calls Try.prog 6 #[v, .int .i64 p, .int .i64 cut] w fun e w' => e = .returned (.bool true) ∧ Below w.heap.size w w' := by
  by_cases hq : 32 < t.length ∨ t.length % 2 = 1 ∨ 524288 < p
  · exact three_out h p cut hq
  · exact three_core h p cut (t.length / 2) (by omega) (by omega) (by omega)
end Go.Proofs.Ytdkdckgheibjfaa
