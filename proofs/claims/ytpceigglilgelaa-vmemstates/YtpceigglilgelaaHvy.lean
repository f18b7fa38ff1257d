/- Which lists of acts a law turns away. -/
import Derived.Test.YtpceigglilgelaaAct
namespace Go.Proofs.Ytpceigglilgelaa
open Go.ChangeShapes Go.WideShapes Go.ChangeAt Go.RowKit Go.Proofs.Sp

/-- How many pages are asked for. -/
def sumR (X : Nat → ActV) : Nat → Nat
  | 0 => 0
  | i + 1 => sumR X i + if (X i).what = 1 ∧ (X i).n ≤ 134217728 then (X i).n else 0
structure Light (X : Nat → ActV) (i : Nat) : Prop where
  sum : sumR X i ≤ 12000
  one : ∀ j, j < i → (X j).what = 1 → (X j).n ≤ 134217728 → (X j).n ≤ 4096
  six : ∀ j, j < i → (X j).what = 6 → ¬ (131072 < (X j).n ∧ (X j).n < 140737488355328)
theorem Light.start (X : Nat → ActV) : Light X 0 := ⟨by simp [sumR], fun j h => by omega, fun j h => by omega⟩
theorem Light.next {X : Nat → ActV} {i : Nat} (h : Light X i) (hs : sumR X (i + 1) ≤ 12000) (h1 : (X i).what = 1 → (X i).n ≤ 134217728 → (X i).n ≤ 4096) (h6 : (X i).what = 6 → ¬ (131072 < (X i).n ∧ (X i).n < 140737488355328)) : Light X (i + 1) :=
  ⟨hs, fun j hj => by
    by_cases e : j = i
    · rw [e]; exact h1
    · exact h.one j (by omega), fun j hj => by
    by_cases e : j = i
    · rw [e]; exact h6
    · exact h.six j (by omega)⟩
theorem sum_same {X : Nat → ActV} {i : Nat} (h : ¬ ((X i).what = 1 ∧ (X i).n ≤ 134217728)) : sumR X (i + 1) = sumR X i := by simp only [sumR]; rw [if_neg h]; rfl
theorem sum_more {X : Nat → ActV} {i : Nat} (h1 : (X i).what = 1) (h2 : (X i).n ≤ 134217728) : sumR X (i + 1) = sumR X i + (X i).n := by simp only [sumR]; rw [if_pos ⟨h1, h2⟩]
theorem sum_mono (X : Nat → ActV) (i j : Nat) : sumR X i ≤ sumR X (i + j) := by
  induction j with
  | zero => exact Nat.le_refl _
  | succ j ih => exact Nat.le_trans ih (Nat.le_add_right _ _)
theorem sum_le {X : Nat → ActV} {len i : Nat} (h : Light X len) (hi : i ≤ len) : sumR X i ≤ 12000 := by
  have := sum_mono X i (len - i)
  rw [show i + (len - i) = len by omega] at this
  exact Nat.le_trans this h.sum
/-- What 'heavy' answers. -/
def HvyP (X : Nat → ActV) (len lp lr lf : Nat) (w : World) (e : Ending) (w' : World) : Prop := ∃ hv, e = .returned (.bool hv) ∧ (hv = false → len ≤ 120 ∧ lp ≤ 120 ∧ lr ≤ 120 ∧ lf ≤ 2000 ∧ Light X len) ∧ Below w.heap.size w w'
theorem HvyP.yes {X : Nat → ActV} {len lp lr lf : Nat} {w w' : World} {e : Ending} (he : e = .returned (.bool true)) (h : Below w.heap.size w w') : HvyP X len lp lr lf w e w' := ⟨true, he, fun z => by (cases z), h⟩
theorem HvyP.no {X : Nat → ActV} {len lp lr lf : Nat} {w w' : World} {e : Ending} (he : e = .returned (.bool false)) (k : false = false → len ≤ 120 ∧ lp ≤ 120 ∧ lr ≤ 120 ∧ lf ≤ 2000 ∧ Light X len) (h : Below w.heap.size w w') : HvyP X len lp lr lf w e w' := ⟨false, he, k, h⟩
set_option maxRecDepth 100000 in
set_option maxHeartbeats 2000000 in
theorem heavy_core (p0 r0 f0 o : Option Addr) (lp cp lr cr lf cf len cap : Nat) (X : Nat → ActV) (w : World) (hA : ActsAt w o len cap X) (m1 : lp ≤ 9223372036854775807) (m2 : lr ≤ 9223372036854775807) (m3 : lf ≤ 9223372036854775807) (m4 : len ≤ 9223372036854775807) :
    Calls Try.prog 16 #[.agg #[.slice p0 lp cp, .slice r0 lr cr, .slice f0 lf cf], .slice o len cap] w (HvyP X len lp lr lf w) := by
  have HA := hide hA
  clear hA
  by_cases h1 : (120 : Int) < (len : Int)
  · have d1 : decide ((120 : Int) < (len : Int)) = true := decide_eq_true h1
    go_enter Try.func16, Try.ntmps16
    go_wp2_with fail
    go_ret
    exact HvyP.yes rfl ((Below.refl _ _).alloc (Nat.le_refl _) _)
  · have d1 : decide ((120 : Int) < (len : Int)) = false := decide_eq_false h1
    by_cases h2 : (120 : Int) < (lp : Int)
    · have d2 : decide ((120 : Int) < (lp : Int)) = true := decide_eq_true h2
      go_enter Try.func16, Try.ntmps16
      go_wp2_with fail
      go_ret
      exact HvyP.yes rfl ((Below.refl _ _).alloc (Nat.le_refl _) _)
    · have d2 : decide ((120 : Int) < (lp : Int)) = false := decide_eq_false h2
      by_cases h3 : (120 : Int) < (lr : Int)
      · have d3 : decide ((120 : Int) < (lr : Int)) = true := decide_eq_true h3
        go_enter Try.func16, Try.ntmps16
        go_wp2_with fail
        go_ret
        exact HvyP.yes rfl ((Below.refl _ _).alloc (Nat.le_refl _) _)
      · have d3 : decide ((120 : Int) < (lr : Int)) = false := decide_eq_false h3
        by_cases h4 : (2000 : Int) < (lf : Int)
        · have d4 : decide ((2000 : Int) < (lf : Int)) = true := decide_eq_true h4
          go_enter Try.func16, Try.ntmps16
          go_wp2_with fail
          go_ret
          exact HvyP.yes rfl ((Below.refl _ _).alloc (Nat.le_refl _) _)
        · have d4 : decide ((2000 : Int) < (lf : Int)) = false := decide_eq_false h4
          have hl : len ≤ 120 := by omega
          have FN : Hid (Light X len → (false = false → len ≤ 120 ∧ lp ≤ 120 ∧ lr ≤ 120 ∧ lf ≤ 2000 ∧ Light X len)) := hide (fun h _ => ⟨by omega, by omega, by omega, by omega, h⟩)
          go_enter Try.func16, Try.ntmps16
          go_wp2_with fail
          have hB : Below w.heap.size w (w.alloc (.cells #[.slice p0 lp cp, .slice r0 lr cr, .slice f0 lf cf] 28)) := (Below.refl _ _).alloc (Nat.le_refl _) _
          generalize w.alloc (.cells #[.slice p0 lp cp, .slice r0 lr cr, .slice f0 lf cf] 28) = W at *
          have HB := hide hB
          clear hB d1 d2 d3 d4 h1 h2 h3 h4
          go_loopw [5, 6] (fun pv iv wr => ∃ (i s : Nat), pv = .int .u64 (s : Int) ∧ iv = .int .i64 (i : Int) ∧ i ≤ len ∧ s ≤ 12000 ∧ Hid (s = sumR X i) ∧ wr = W ∧ Hid (Light X i)) (fun _ iv _ => len - (intOf iv).toNat)
          case atStart => exact ⟨0, 0, rfl, rfl, Nat.zero_le _, by omega, hide rfl, rfl, hide (Light.start X)⟩
          case round =>
            obtain ⟨i, s, rfl, rfl, hi, hs, hse, hwr, hL⟩ := hrel
            subst hwr
            by_cases hlt : i < len
            · have dl : (i : Int) < (len : Int) := by omega
              obtain ⟨b, off, rfl, hb, hc⟩ := HA.out.at hlt
              obtain ⟨k0, k1, k2, k3⟩ := hc i hlt
              rw [← HB.out.cell (p := ⟨b, off + i * 4, none⟩) hb] at k0
              rw [← HB.out.cell (p := ⟨b, off + i * 4 + 2, none⟩) hb] at k2
              have ok := HA.out.ok i
              have o1 := ok.lo
              have o2 := ok.hi
              have o3 := ok.n
              obtain ⟨a, ha⟩ : ∃ a, a = (X i).what := ⟨_, rfl⟩
              obtain ⟨z, hz⟩ : ∃ z : Int, z = ((X i).n : Int) := ⟨_, rfl⟩
              have z0 : 0 ≤ z := by omega
              have z1 : z < 18446744073709551616 := by omega
              rw [← ha] at k0 o1 o2
              rw [← hz] at k2
              have HAW := hide ha
              have HZ := hide hz
              clear hc k1 k3 ok o3 ha hz
              by_cases c1 : a = 1
              · have e1 : (a == 1) = true := beq_iff_eq.2 c1
                have e6 : (a == 6) = false := beq_eq_false_iff_ne.2 (by omega)
                by_cases c2 : z ≤ 134217728
                · have e2 : decide (z ≤ 134217728) = true := decide_eq_true c2
                  by_cases c3 : 4096 < z
                  · have e3 : decide (4096 < z) = true := decide_eq_true c3
                    clear c1
                    go_wp2_with fail
                    go_ret
                    exact HvyP.yes rfl HB.out
                  · have e3 : decide (4096 < z) = false := decide_eq_false c3
                    by_cases c4 : 12000 < (s : Int) + z
                    · have e4 : decide (12000 < (s : Int) + z) = true := decide_eq_true c4
                      clear c1
                      go_wp2_with fail
                      go_ret
                      exact HvyP.yes rfl HB.out
                    · have e4 : decide (12000 < (s : Int) + z) = false := decide_eq_false c4
                      have NX : Hid (sumR X (i + 1) = s + z.toNat ∧ Light X (i + 1)) := hide (by
                        have a1 := HAW.out
                        have a2 := HZ.out
                        have e := sum_more (X := X) (i := i) (by omega) (by omega)
                        rw [← hse.out] at e
                        exact ⟨by omega, hL.out.next (by omega) (fun _ _ => by omega) (fun q => by omega)⟩)
                      clear c1
                      go_wp2_with fail
                      refine ⟨⟨i + 1, s + z.toNat, ?_, by go_num, by omega, by omega, hide NX.out.1.symm, trivial, hide NX.out.2⟩, by simp [intOf]; omega⟩
                      rw [show ((s + z.toNat : Nat) : Int) = (s : Int) + z by omega]
                · have e2 : decide (z ≤ 134217728) = false := decide_eq_false c2
                  have NX : Hid (sumR X (i + 1) = s ∧ Light X (i + 1)) := hide (by
                    have a1 := HAW.out
                    have a2 := HZ.out
                    have e := sum_same (X := X) (i := i) (by omega)
                    rw [← hse.out] at e
                    exact ⟨e, hL.out.next (by omega) (fun _ _ => by omega) (fun q => by omega)⟩)
                  clear c1
                  go_wp2_with fail
                  exact ⟨⟨i + 1, s, rfl, by go_num, by omega, by omega, hide NX.out.1.symm, trivial, hide NX.out.2⟩, by simp [intOf]; omega⟩
              · have e1 : (a == 1) = false := beq_eq_false_iff_ne.2 c1
                have SM : Hid (sumR X (i + 1) = s) := hide (by
                  have a1 := HAW.out
                  have e := sum_same (X := X) (i := i) (by omega)
                  rw [← hse.out] at e
                  exact e)
                by_cases c6 : a = 6
                · have e6 : (a == 6) = true := beq_iff_eq.2 c6
                  by_cases c7 : 131072 < z
                  · have e7 : decide (131072 < z) = true := decide_eq_true c7
                    by_cases c8 : z < 140737488355328
                    · have e8 : decide (z < 140737488355328) = true := decide_eq_true c8
                      clear c6 c1
                      go_wp2_with fail
                      go_ret
                      exact HvyP.yes rfl HB.out
                    · have e8 : decide (z < 140737488355328) = false := decide_eq_false c8
                      have NX : Hid (Light X (i + 1)) := hide (by
                        have a1 := HAW.out
                        have a2 := HZ.out
                        have e := SM.out
                        exact hL.out.next (by omega) (fun _ _ => by omega) (fun q => by omega))
                      clear c6 c1
                      go_wp2_with fail
                      exact ⟨⟨i + 1, s, rfl, by go_num, by omega, by omega, hide SM.out.symm, trivial, NX⟩, by simp [intOf]; omega⟩
                  · have e7 : decide (131072 < z) = false := decide_eq_false c7
                    have NX : Hid (Light X (i + 1)) := hide (by
                      have a1 := HAW.out
                      have a2 := HZ.out
                      have e := SM.out
                      exact hL.out.next (by omega) (fun _ _ => by omega) (fun q => by omega))
                    clear c6 c1
                    go_wp2_with fail
                    exact ⟨⟨i + 1, s, rfl, by go_num, by omega, by omega, hide SM.out.symm, trivial, NX⟩, by simp [intOf]; omega⟩
                · have e6 : (a == 6) = false := beq_eq_false_iff_ne.2 c6
                  have NX : Hid (Light X (i + 1)) := hide (by
                    have a1 := HAW.out
                    have a2 := HZ.out
                    have e := SM.out
                    exact hL.out.next (by omega) (fun _ _ => by omega) (fun q => by omega))
                  clear c6 c1
                  go_wp2_with fail
                  exact ⟨⟨i + 1, s, rfl, by go_num, by omega, by omega, hide SM.out.symm, trivial, NX⟩, by simp [intOf]; omega⟩
            · obtain rfl : i = len := by omega
              go_wp2_with fail
              go_ret
              exact HvyP.no rfl (fun _ => FN.out hL.out trivial) HB.out
end Go.Proofs.Ytpceigglilgelaa
