/- BumpApart: all of it. -/
import Derived.Test.YtmpddppjkfflnaaAw
import Derived.Test.YtmpddppjkfflnaaArg
namespace Go.Proofs.Ytmpddppjkfflnaa
open Go.ChangeShapes Go.WideShapes Go.ChangeAt Go.RowKit Go.Shelf Go.Proofs.Rx Go.Maps
set_option linter.unusedVariables false
set_option linter.unusedSimpArgs false

attribute [local go_sem] Oper.semAt_some

/-- A law's store of blocks. -/
structure BL (N : Nat) (w W : World) (bb : Nat) (K M E : Int) : Prop where
  bu : BuAt W bb K M E
  ok : BuOk K M E
  x : N ≤ bb
  be : Below N w W
  nw : N ≤ W.heap.size
section
variable {N : Nat} {w W W' : World} {bb : Nat} {K M E : Int}
theorem BL.read (h : BL N w W bb K M E) (k : Below W.heap.size W W') : BL N w W' bb K M E := ⟨Bk.below h.bu k, h.ok, h.x, h.be.trans (k.mono h.nw), Nat.le_trans h.nw k.size⟩
theorem BL.to {M' E' : Int} (h : BL N w W bb K M E) (t : BuTo W W' bb K M' E') (ok : BuOk K M' E') : BL N w W' bb K M' E' := ⟨t.1, ok, h.x, h.be.trans (t.2.below h.nw (fun z hz => by rw [hz]; exact h.x)), Nat.le_trans h.nw t.2.size⟩
end
set_option maxRecDepth 100000 in
set_option maxHeartbeats 4000000 in
theorem apart_in (k : Int) (o0 : Option Addr) (l0 c0 : Nat) (o1 : Option Addr) (l1 c1 : Nat) (w : World) (X Y : Nat → Int) (hk : k ≤ 9223372036854775807) (hX : IntsAt w o0 l0 c0 X) (hY : IntsAt w o1 l1 c1 Y) (m0 : l0 ≤ maxLen) (m1 : l1 ≤ maxLen) :
    Calls Try.prog 5 #[.int .i64 k, .slice o0 l0 c0, .slice o1 l1 c1] w fun e w' => e = .returned (.bool true) ∧ Below w.heap.size w w' := by
  obtain ⟨R, hR⟩ : ∃ R : Ending → World → Prop, R = fun e w' => e = .returned (.bool true) ∧ Below w.heap.size w w' := ⟨_, rfl⟩
  rw [← hR]
  have FIN := hide (show ∀ W, Below w.heap.size w W → R (.returned (.bool true)) W from fun W h => by rw [hR]; exact ⟨rfl, h⟩)
  clear hR
  have ML := hide (And.intro m0 m1)
  clear m0 m1
  by_cases c1 : 200 < l0
  · have d1 : decide ((200 : Int) < (l0 : Int)) = true := decide_eq_true (by omega)
    go_enter Try.func5, Try.ntmps5
    go_wp2_with fail
    have F := FIN.out w (Below.refl _ w)
    first | exact F | (go_ret; exact F)
  have d1 : decide ((200 : Int) < (l0 : Int)) = false := decide_eq_false (by omega)
  by_cases c2 : 200 < l1
  · have d2 : decide ((200 : Int) < (l1 : Int)) = true := decide_eq_true (by omega)
    go_enter Try.func5, Try.ntmps5
    go_wp2_with fail
    have F := FIN.out w (Below.refl _ w)
    first | exact F | (go_ret; exact F)
  have d2 : decide ((200 : Int) < (l1 : Int)) = false := decide_eq_false (by omega)
  by_cases c3 : powIn k 64 1048576 = true
  · obtain ⟨k0, k1, -⟩ := powIn_le c3
    have CN := hide (newBump_ok k c3 hk w)
    clear c3
    go_enter Try.func5, Try.ntmps5
    go_wp2_with fail
    refine CN.out.mono ?_
    rintro e w1 ⟨rfl, hw⟩
    have B1 := hide (show BL w.heap.size w w1 w.heap.size k 0 0 from by
      rw [hw]
      exact ⟨World.alloc_heap_new w _, ⟨k0, k1, by omega, by omega, by omega, by omega, fun _ => rfl⟩, Nat.le_refl _, below_alloc _ _, by simp⟩)
    clear hw CN
    obtain ⟨bb, hbb, B1⟩ : ∃ bb, w.heap.size = bb ∧ Hid (BL w.heap.size w w1 bb k 0 0) := ⟨_, rfl, B1⟩
    simp only [hbb]
    clear hbb
    go_wp2_with fail
    clear d1 d2
    go_loopw [9, 10, 11] (fun vn ve vi wr => ∃ (i : Nat) (M E : Int), vn = .int .i64 M ∧ ve = .int .i64 E ∧ vi = .int .i64 (i : Nat) ∧ i ≤ l0 ∧ i ≤ l1 ∧ M ≤ i ∧ Hid (BL w.heap.size w wr bb k M E)) (fun vn ve vi _ => l0 - (zi vi).toNat)
    case atStart => exact ⟨0, 0, 0, rfl, rfl, rfl, by omega, by omega, by omega, B1⟩
    case round =>
      clear B1
      obtain ⟨i, M, E, rfl, rfl, rfl, hi0, hi1, hMi, HP⟩ := hrel
      by_cases c : i < l0
      · by_cases c' : i < l1
        · have d : decide ((i : Int) < (l0 : Int)) = true := decide_eq_true (by omega)
          have d' : decide ((i : Int) < (l1 : Int)) = true := decide_eq_true (by omega)
          obtain ⟨b0, f0, rfl, hb0, hc0⟩ := hX.at c
          obtain ⟨b1, f1, rfl, hb1, hc1⟩ := hY.at c'
          have CEL := hide (show ∀ W, Below w.heap.size w W → W.cell? ⟨b0, f0 + i, none⟩ = some (.int .i64 (X i)) ∧ W.cell? ⟨b1, f1 + i, none⟩ = some (.int .i64 (Y i)) from fun W h => ⟨(h.cell (p := ⟨b0, f0 + i, none⟩) hb0).trans (hc0 i c), (h.cell (p := ⟨b1, f1 + i, none⟩) hb1).trans (hc1 i c')⟩)
          have sx0 := hX.lo i
          have sx1 := hX.hi i
          have ay0 := hY.lo i
          have ay1 := hY.hi i
          generalize X i = s at *
          generalize Y i = a at *
          obtain ⟨e0, e1⟩ := CEL.out wr HP.out.be
          have ok := HP.out.ok
          obtain ⟨-, -, M0, M1, E0, E1, EZ⟩ := ok
          have i9 : (i : Int) < 200 := by omega
          have i0 : 0 ≤ (i : Int) := by omega
          have pw : IntKind.i64.wrap ((i : Int) + 1) = (i : Int) + 1 := by rw [IntKind.wrap_i64]; omega
          clear hc0 hc1 hb0 hb1 hX hY
          replace HP := hide (HP.out.read (drew_below wr))
          by_cases q1 : s < 1 ∨ powIn a 1 k = false
          · have CT := hide (bt_arg HP.out.bu s a ay1 q1)
            clear q1
            go_wp2_with fail
            go_region_held3 (fun w' => w'.cell? ⟨b0, f0 + i, none⟩ = some (.int .i64 s) ∧ w'.cell? ⟨b1, f1 + i, none⟩ = some (.int .i64 a)) (first | (go_keep; done)) (first
            | (go_at_call 11; refine CT.out.mono ?_; rintro e W5 ⟨rfl, hw⟩; rw [hw]; clear hw))
            have CBL := hide (blocks_any HP.out.bu)
            go_wp2_with fail
            refine CBL.out.mono ?_
            rintro e W6 ⟨rfl, hw⟩
            rw [hw]
            clear hw CBL
            go_wp2_with fail
            exact ⟨⟨i + 1, M, E, rfl, rfl, by push_cast; rfl, by omega, by omega, by omega, HP⟩, by simp [zi]; omega⟩
          have qs : 1 ≤ s := by omega
          have qa : powIn a 1 k = true := by
            cases z : powIn a 1 k with
            | true => rfl
            | false => exact absurd (.inr z) q1
          clear q1
          by_cases q2 : k < s
          · have CT := hide (bt_long HP.out.bu k0 s a ay1 qa q2)
            go_wp2_with fail
            go_region_held3 (fun w' => w'.cell? ⟨b0, f0 + i, none⟩ = some (.int .i64 s) ∧ w'.cell? ⟨b1, f1 + i, none⟩ = some (.int .i64 a)) (first | (go_keep; done)) (first
            | (go_at_call 11; refine CT.out.mono ?_; rintro e W5 ⟨rfl, hw⟩; rw [hw]; clear hw))
            have CBL := hide (blocks_any HP.out.bu)
            go_wp2_with fail
            refine CBL.out.mono ?_
            rintro e W6 ⟨rfl, hw⟩
            rw [hw]
            clear hw CBL
            go_wp2_with fail
            exact ⟨⟨i + 1, M, E, rfl, rfl, by push_cast; rfl, by omega, by omega, by omega, HP⟩, by simp [zi]; omega⟩
          obtain ⟨a1, a2, -⟩ := powIn_le qa
          obtain ⟨u1, u2, u3⟩ := upB_facts E a E0 a1
          by_cases q3 : M ≠ 0 ∧ upB E a + s ≤ k
          · have CT := hide (bt_old HP.out.bu HP.out.ok s a qa qs q3.1 q3.2)
            have OK := hide (show BuOk k M (upB E a + s) from ⟨k0, k1, M0, M1, by omega, q3.2, fun z => absurd z q3.1⟩)
            have q4 := q3.2
            have q5 := q3.1
            generalize upB E a = U at *
            have t1 : decide (s < 1) = false := decide_eq_false (by omega)
            have t2 : (U % a == 0) = true := by simpa using u3
            have t3 : U.tmod a = 0 := by rw [Int.tmod_eq_emod_of_nonneg (by omega)]; exact u3
            have t4 : decide (k < U + s) = false := decide_eq_false (by omega)
            have t5 : IntKind.i64.wrap (U + s) = U + s := by rw [IntKind.wrap_i64]; omega
            have t6 : (M - 1 == M) = false := by simp; omega
            have t7 : IntKind.i64.wrap (M - 1) = M - 1 := by rw [IntKind.wrap_i64]; omega
            have t8 : decide (U < E) = false := decide_eq_false (by omega)
            have t9 : IntKind.i64.wrap (U - E) = U - E := by rw [IntKind.wrap_i64]; omega
            have t10 : decide (a ≤ U - E) = false := decide_eq_false (by omega)
            have az : (a == 0) = false := by simp; omega
            clear q3 qa
            go_wp2_with fail
            go_region_held3 (fun w' => w'.cell? ⟨b0, f0 + i, none⟩ = some (.int .i64 s) ∧ w'.cell? ⟨b1, f1 + i, none⟩ = some (.int .i64 a)) (first | (go_keep; done)) (first
            | (go_at_call 11; refine CT.out.mono ?_; rintro e W5 ⟨rfl, t5'⟩; have P5 := hide (HP.out.to t5' OK.out); obtain ⟨g0, g1⟩ := CEL.out W5 P5.out.be; have CBL := hide (blocks_any P5.out.bu); clear t5' CT HP e0 e1))
            go_wp2_with fail
            refine CBL.out.mono ?_
            rintro e W6 ⟨rfl, hw⟩
            rw [hw]
            clear hw CBL
            go_wp2_with fail
            exact ⟨⟨i + 1, M, U + s, rfl, rfl, by push_cast; rfl, by omega, by omega, by omega, P5⟩, by simp [zi]; omega⟩
          · have hf : M ≠ 0 → k < upB E a + s := fun z => by
              by_cases y : upB E a + s ≤ k
              · exact absurd ⟨z, y⟩ q3
              · omega
            have CT := hide (bt_new HP.out.bu HP.out.ok s a qa qs (by omega) hf)
            have OK := hide (show BuOk k (M + 1) s from ⟨k0, k1, by omega, by omega, by omega, by omega, fun z => by omega⟩)
            have eU : upB E a = (E + a - 1) / a * a := rfl
            have r1 : IntKind.i64.wrap (E + a) = E + a := by rw [IntKind.wrap_i64]; omega
            have r2 : IntKind.i64.wrap (E + a - 1) = E + a - 1 := by rw [IntKind.wrap_i64]; omega
            have r0 : (E + a - 1).tdiv a = (E + a - 1) / a := Int.tdiv_eq_ediv_of_nonneg (by omega)
            have r9 : 0 ≤ (E + a - 1) / a := Int.ediv_nonneg (by omega) (by omega)
            have r8 : (E + a - 1) / a ≤ E + a - 1 := Int.ediv_le_self _ (by omega)
            have r3 : IntKind.i64.wrap ((E + a - 1) / a) = (E + a - 1) / a := by rw [IntKind.wrap_i64]; omega
            have r4 : IntKind.i64.wrap ((E + a - 1) / a * a) = upB E a := by rw [← eU, IntKind.wrap_i64]; omega
            have r5 : IntKind.i64.wrap (upB E a + s) = upB E a + s := by rw [IntKind.wrap_i64]; omega
            clear eU r8 q3
            generalize upB E a = U at *
            have t1 : decide (s < 1) = false := decide_eq_false (by omega)
            have t2 : ((0 : Int) % a == 0) = true := by simp
            have t3 : (0 : Int).tmod a = 0 := by simp
            have t4 : decide (k < s) = false := decide_eq_false (by omega)
            have t5 : IntKind.i64.wrap s = s := by rw [IntKind.wrap_i64]; omega
            have t6 : IntKind.i64.wrap (M + 1) = M + 1 := by rw [IntKind.wrap_i64]; omega
            have az : (a == 0) = false := by simp; omega
            have NX := hide (show ∀ W5, BuTo wr.drew W5 bb k (M + 1) s → BL w.heap.size w W5 bb k (M + 1) s from fun W5 h => HP.out.to h OK.out)
            clear qa HP
            go_wp2_with fail
            go_region_held3 (fun w' => w'.cell? ⟨b0, f0 + i, none⟩ = some (.int .i64 s) ∧ w'.cell? ⟨b1, f1 + i, none⟩ = some (.int .i64 a)) (first | (go_keep; done)) (first
            | (go_at_call 11; refine CT.out.mono ?_; rintro e W5 ⟨rfl, t5'⟩; have P5 := hide (NX.out W5 t5'); obtain ⟨g0, g1⟩ := CEL.out W5 P5.out.be; have P6 := hide (show ∀ j, BL w.heap.size w (W5.drewN j) bb k (M + 1) s from fun j => P5.out.read (below_drewN W5 j)); clear t5' CT NX e0 e1))
            by_cases z : 0 < M
            · have v1 : decide (0 < M) = true := decide_eq_true z
              have v2 : decide (U + s ≤ k) = false := decide_eq_false (by have := hf (by omega); omega)
              clear hf
              go_wp2_with fail
              go_quiet (fail)
              have CBL := hide (blocks_any (P6.out nq).bu)
              go_wp2_with fail
              refine CBL.out.mono ?_
              rintro e W6 ⟨rfl, hw⟩
              rw [hw]
              clear hw CBL
              go_wp2_with fail
              exact ⟨⟨i + 1, M + 1, s, rfl, rfl, by push_cast; rfl, by omega, by omega, by omega, hide (P6.out nq)⟩, by simp [zi]; omega⟩
            · have v1 : decide (0 < M) = false := decide_eq_false z
              clear hf
              go_wp2_with fail
              go_quiet (fail)
              have CBL := hide (blocks_any (P6.out nq).bu)
              go_wp2_with fail
              refine CBL.out.mono ?_
              rintro e W6 ⟨rfl, hw⟩
              rw [hw]
              clear hw CBL
              go_wp2_with fail
              exact ⟨⟨i + 1, M + 1, s, rfl, rfl, by push_cast; rfl, by omega, by omega, by omega, hide (P6.out nq)⟩, by simp [zi]; omega⟩
        · have d : decide ((i : Int) < (l0 : Int)) = true := decide_eq_true (by omega)
          have d' : decide ((i : Int) < (l1 : Int)) = false := decide_eq_false (by omega)
          have CW := hide (awake_any wr)
          go_wp2_with fail
          refine CW.out.mono ?_
          rintro e W7 ⟨rfl, k7⟩
          have FF := hide (FIN.out W7 (HP.out.read k7).be)
          clear CW k7
          go_wp2_with fail
          first | exact FF.out | (go_ret; exact FF.out)
      · have d : decide ((i : Int) < (l0 : Int)) = false := decide_eq_false (by omega)
        have CW := hide (awake_any wr)
        go_wp2_with fail
        refine CW.out.mono ?_
        rintro e W7 ⟨rfl, k7⟩
        have FF := hide (FIN.out W7 (HP.out.read k7).be)
        clear CW k7
        go_wp2_with fail
        first | exact FF.out | (go_ret; exact FF.out)
  · have CN := hide (newBump_no k (by simpa using c3) hk w)
    have CW := hide (awake_any w)
    clear c3
    go_enter Try.func5, Try.ntmps5
    go_wp2_with fail
    refine CN.out.mono ?_
    rintro e w1 ⟨rfl, hw⟩
    rw [hw]
    clear hw CN
    go_wp2_with fail
    refine CW.out.mono ?_
    rintro e W7 ⟨rfl, k7⟩
    have FF := hide (FIN.out W7 k7)
    clear CW k7
    go_wp2_with fail
    first | exact FF.out | (go_ret; exact FF.out)
end Go.Proofs.Ytmpddppjkfflnaa
