/- SchedLong, walked. -/
import Derived.Test.YthbohbhjegjniaaLo
namespace Go.Proofs.Ythbohbhjegjniaa
open Go.ChangeShapes Go.WideShapes Go.ChangeAt Go.RowKit Go.Proofs.Sc Go.Maps
set_option linter.unusedVariables false
set_option linter.unusedSimpArgs false

set_option maxRecDepth 100000 in
set_option maxHeartbeats 4000000 in
theorem long_walk (n m : Nat) (h1 : 1 ≤ n) (h2 : n ≤ 70) (h3 : m ≤ 10010) (w : World) :
    Calls Try.prog 5 #[.int .i64 n, .int .i64 m] w fun e w' => e = .returned (.bool true) ∧ Below w.heap.size w w' := by
  have a1 : (1 : Int) ≤ (n : Int) := by omega
  have a2 : (n : Int) ≤ 70 := by omega
  have a3 : (0 : Int) ≤ (m : Int) := by omega
  have a4 : (m : Int) ≤ 10010 := by omega
  have MK := run_make_row' (P := Try.prog) 22 34 (.slice none 0 0) 24 Try.underlying22 infoT rfl .i64 .i64 n (by omega) (by omega) w
  have L0 := hide (Lt.start w n)
  go_enter Try.func5, Try.ntmps5
  go_wp2_with fail
  clear MK
  go_loopw [6] (fun iv wr => ∃ i : Nat, iv = .int .i64 (i : Int) ∧ i ≤ m ∧ Hid (Lt w wr w.heap.size n (rowsAt n i))) (fun iv _ => m - (intOf iv).toNat)
  case atStart => exact ⟨0, rfl, Nat.zero_le _, L0⟩
  case round =>
    obtain ⟨i, rfl, i2, HL⟩ := hrel
    clear L0
    by_cases hlt : i < m
    · have j1 : (i : Int) < (m : Int) := by omega
      obtain ⟨K, hK⟩ : ∃ K, K = i % n := ⟨_, rfl⟩
      have k1 : K < n := by rw [hK]; exact Nat.mod_lt i (by omega)
      have r1 : (i : Int) % (n : Int) = (K : Int) := by rw [hK, Int.natCast_emod]
      have r2 : Int.tmod (i : Int) (n : Int) = (K : Int) := by rw [Int.tmod_eq_emod_of_nonneg (by omega), r1]
      have r3 : IntKind.i64.wrap (Int.tmod (i : Int) (n : Int)) = (K : Int) := by rw [r2, wrap_small (by unfold i64; omega)]
      have z1 : ((n : Int) == 0) = false := by simp; omega
      have z2 : ¬ (n : Int) = 0 := by omega
      have z3 : ¬ n = 0 := by omega
      have k2 : (0 : Int) ≤ (K : Int) := by omega
      have k3 : (K : Int) < (n : Int) := by omega
      obtain ⟨t, t1, t2⟩ := rows_get (i := i) k1
      have tl : t.length ≤ 1000000 := by
        have e := rows_lens (n := n) (by omega) i
        have hm := List.mem_of_getElem? t1
        have : t.length ≤ lens (rowsAt n i) := len_le_lens hm
        omega
      obtain ⟨o, c, c1, c2, c3, g', c', w', ra, d1, d2, LT⟩ := HL.out.at t1 ⟨5, i, 0⟩ tl 34
      have hrow : (rowsAt n i).set K (t ++ [⟨5, i, 0⟩]) = rowsAt n (i + 1) := by rw [rowsAt, ← hK, t2]
      rw [hrow] at LT
      have LL := hide LT
      have RR := hide ra
      clear LT hrow t1 t2 hK ra HL
      go_wp2_with fail
      go_region_law (first | (refine step_append_run (by rfl) (.tmp 39) (.tmp 42) 34 (by rfl) (by rfl) (by rfl) RR.out ?_))
      all_goals
        go_wp2_with fail
        go_roundw
        case rel => exact ⟨i + 1, by go_num, by omega, LL⟩
        case measure => simp [intOf]; omega
    · obtain rfl : i = m := by omega
      have hlen := rows_len n i
      have hlens := rows_lens (n := n) (by omega) i
      have hkn := rows_known (n := n) (i := i) (by omega)
      have ta := HL.out.tasks (by omega)
      have bl := HL.out.below
      by_cases hb : 64 < n ∨ 10000 < i
      · have e2 : newS (rowsAt n i) = 2 := by unfold newS; rw [if_pos (by omega)]
        have N := hide (new_core _ _ ta (by omega) hkn.1)
        have B := hide bl
        have E2 := hide e2
        clear hlen hlens hkn ta bl HL e2 i2 hlt
        rcases hb with hb | hb
        · have d1 : (64 : Int) < (n : Int) := by omega
          go_wp2_with fail
          refine N.out.mono ?_
          rintro e w1 hP
          rcases hP with ⟨z, rfl, b1⟩ | ⟨z, _⟩
          · rw [E2.out]
            have B1 := hide (B.out.trans (b1.mono B.out.size))
            clear N z b1
            go_wp2_with fail
            refine (awake_core _).mono ?_
            rintro e w9 ⟨rfl, b9⟩
            have B9 := hide (B1.out.trans (b9.mono B1.out.size))
            clear b9 B1
            go_wp2_with fail
            go_ret
            exact ⟨rfl, B9.out⟩
          · rw [E2.out] at z; cases z
        · by_cases hb' : 64 < n
          · have d1 : (64 : Int) < (n : Int) := by omega
            go_wp2_with fail
            refine N.out.mono ?_
            rintro e w1 hP
            rcases hP with ⟨z, rfl, b1⟩ | ⟨z, _⟩
            · rw [E2.out]
              have B1 := hide (B.out.trans (b1.mono B.out.size))
              clear N z b1
              go_wp2_with fail
              refine (awake_core _).mono ?_
              rintro e w9 ⟨rfl, b9⟩
              have B9 := hide (B1.out.trans (b9.mono B1.out.size))
              clear b9 B1
              go_wp2_with fail
              go_ret
              exact ⟨rfl, B9.out⟩
            · rw [E2.out] at z; cases z
          · have d1 : (n : Int) ≤ 64 := by omega
            have d2 : (10000 : Int) < (i : Int) := by omega
            go_wp2_with fail
            refine N.out.mono ?_
            rintro e w1 hP
            rcases hP with ⟨z, rfl, b1⟩ | ⟨z, _⟩
            · rw [E2.out]
              have B1 := hide (B.out.trans (b1.mono B.out.size))
              clear N z b1
              go_wp2_with fail
              refine (awake_core _).mono ?_
              rintro e w9 ⟨rfl, b9⟩
              have B9 := hide (B1.out.trans (b9.mono B1.out.size))
              clear b9 B1
              go_wp2_with fail
              go_ret
              exact ⟨rfl, B9.out⟩
            · rw [E2.out] at z; cases z
      · have d1 : (n : Int) ≤ 64 := by omega
        have d2 : (i : Int) ≤ 10000 := by omega
        have N := hide (J.new _ _ ta (by omega) hkn.1 (new_ok (by omega) (by omega) hkn.2) bl)
        have A := rows_able (n := n) (by omega) i
        obtain ⟨l, hl⟩ : ∃ l, ableS (initS (rowsAt n i)) = l := ⟨_, rfl⟩
        rw [hl] at A
        have HLL := hide hl
        have AA := hide A
        clear hlen hlens hkn ta bl HL hb hl A i2 hlt
        by_cases hnm : n ≤ i
        · have d3 : (n : Int) ≤ (i : Int) := by omega
          go_wp2_with fail
          refine N.out.mono ?_
          rintro e w1 ⟨mm, rfl, jj⟩
          clear N
          go_wp2_with fail
          refine (jj.enabled HLL.out).mono ?_
          rintro e w2 ⟨o6, cap6, rfl, _, _, _, j6, _⟩
          rw [AA.out, Nat.min_eq_left hnm]
          have J6 := hide j6.below
          clear jj j6
          go_wp2_with fail
          refine (awake_core _).mono ?_
          rintro e w9 ⟨rfl, b9⟩
          have B9 := hide (J6.out.trans (b9.mono J6.out.size))
          clear b9 J6
          go_wp2_with fail
          go_ret
          exact ⟨rfl, B9.out⟩
        · have d3 : (i : Int) < (n : Int) := by omega
          go_wp2_with fail
          refine N.out.mono ?_
          rintro e w1 ⟨mm, rfl, jj⟩
          clear N
          go_wp2_with fail
          refine (jj.enabled HLL.out).mono ?_
          rintro e w2 ⟨o6, cap6, rfl, _, _, _, j6, _⟩
          rw [AA.out, Nat.min_eq_right (by omega)]
          have J6 := hide j6.below
          clear jj j6
          go_wp2_with fail
          refine (awake_core _).mono ?_
          rintro e w9 ⟨rfl, b9⟩
          have B9 := hide (J6.out.trans (b9.mono J6.out.size))
          clear b9 J6
          go_wp2_with fail
          go_ret
          exact ⟨rfl, B9.out⟩
set_option maxRecDepth 100000 in
theorem long_all (n m : Int) (w : World) :
    Calls Try.prog 5 #[.int .i64 n, .int .i64 m] w fun e w' => e = .returned (.bool true) ∧ Below w.heap.size w w' := by
  by_cases h1 : n < 1
  · go_enter Try.func5, Try.ntmps5
    go_wp2_with fail
    go_ret
    exact ⟨rfl, Below.refl _ _⟩
  have g1 : (1 : Int) ≤ n := by omega
  by_cases h2 : 70 < n
  · go_enter Try.func5, Try.ntmps5
    go_wp2_with fail
    go_ret
    exact ⟨rfl, Below.refl _ _⟩
  have g2 : n ≤ 70 := by omega
  by_cases h3 : m < 0
  · go_enter Try.func5, Try.ntmps5
    go_wp2_with fail
    go_ret
    exact ⟨rfl, Below.refl _ _⟩
  have g3 : (0 : Int) ≤ m := by omega
  by_cases h4 : 10010 < m
  · go_enter Try.func5, Try.ntmps5
    go_wp2_with fail
    go_ret
    exact ⟨rfl, Below.refl _ _⟩
  obtain ⟨n, rfl⟩ : ∃ k : Nat, n = (k : Int) := ⟨n.toNat, by omega⟩
  obtain ⟨m, rfl⟩ : ∃ k : Nat, m = (k : Int) := ⟨m.toNat, by omega⟩
  exact long_walk n m (by omega) (by omega) (by omega) w
end Go.Proofs.Ythbohbhjegjniaa
