/- ClassFits, walked. -/
import Derived.Test.YtamkjodfjdhhmaaSl
namespace Go.Proofs.Ytamkjodfjdhhmaa
open Go.ChangeShapes Go.WideShapes Go.ChangeAt Go.RowKit Go.Proofs.Cl Go.Shelf
set_option linter.unusedVariables false
set_option linter.unusedSimpArgs false

set_option maxRecDepth 100000 in
theorem fits_core (n : Int) (w : World) :
    Calls Try.prog 6 #[.int .i64 n] w fun e w' => e = .returned (.bool true) ∧ Below w.heap.size w w' := by
  by_cases h : n < 0 ∨ 32768 < n
  · have O := hide (of_err n h w)
    rcases h with h | h
    · go_enter Try.func6, Try.ntmps6
      go_wp2_with fail
      refine O.out.mono ?_
      rintro e w' ⟨rfl, hw'⟩; rw [hw']; clear hw' w' O
      go_wp2_with fail
      refine (table_any _).mono ?_
      rintro e w1 ⟨g, cap, rfl, o1, b1⟩
      have B1 := hide b1
      clear o1 b1
      go_wp2_with fail
      refine (awake_core _).mono ?_
      rintro e w3 ⟨rfl, b3⟩
      have B3 := hide (B1.out.trans (b3.mono B1.out.size))
      clear b3
      go_wp2_with fail
      go_ret
      exact ⟨rfl, B3.out⟩
    · have h0 : (0 : Int) ≤ n := by omega
      go_enter Try.func6, Try.ntmps6
      go_wp2_with fail
      refine O.out.mono ?_
      rintro e w' ⟨rfl, hw'⟩; rw [hw']; clear hw' w' O
      go_wp2_with fail
      refine (table_any _).mono ?_
      rintro e w1 ⟨g, cap, rfl, o1, b1⟩
      have B1 := hide b1
      clear o1 b1
      go_wp2_with fail
      refine (awake_core _).mono ?_
      rintro e w3 ⟨rfl, b3⟩
      have B3 := hide (B1.out.trans (b3.mono B1.out.size))
      clear b3
      go_wp2_with fail
      go_ret
      exact ⟨rfl, B3.out⟩
  · obtain ⟨sz, rfl⟩ : ∃ sz : Nat, n = (sz : Int) := ⟨n.toNat, by omega⟩
    have hs : sz ≤ 32768 := by omega
    have hi := idx_lt hs
    have hr := cls_room hs
    have hc := cls_at hs
    have hf := table_facts (cls_mem hs)
    have O := of_ok sz hs w
    have R := fun w => round_ok sz (by omega) w
    have e1 : rndN sz = (clsOf sz).size := if_pos hs
    rw [e1] at R
    obtain ⟨kn, hk⟩ : ∃ kn : Nat, kn = idx sz + 1 := ⟨_, rfl⟩
    rw [show ((idx sz : Int) + 1) = (kn : Int) by omega] at O
    have hc' : (zeroC :: table)[kn]? = some (clsOf sz) := by rw [hk]; simpa using hc
    have hp : ∃ d : Cls, (zeroC :: table)[kn - 1]? = some d ∧ (1 < kn → d.size < sz) := by
      by_cases c : 1 < kn
      · have hl : kn - 2 < table.length := by rw [table_len]; omega
        refine ⟨table[kn - 2], ?_, fun _ => ?_⟩
        · rw [show kn - 1 = (kn - 2) + 1 by omega, List.getElem?_cons_succ, List.getElem?_eq_getElem hl]
        · exact cls_ahead (j := kn - 2) (by omega) (List.getElem?_eq_getElem hl)
      · exact ⟨zeroC, by rw [show kn - 1 = 0 by omega]; rfl, fun z => by omega⟩
    obtain ⟨d, hd, hds⟩ := hp
    have k1 : 1 ≤ kn := by omega
    have k2 : kn ≤ 67 := by omega
    obtain ⟨f1, f2, _, _, _⟩ := hf
    have OO := hide O
    have RR := hide R
    generalize clsOf sz = c at *
    have HD := hide hd
    have HC := hide hc'
    clear hi hk hc O R e1 hd hc' h
    have n0 : (0 : Int) ≤ (sz : Int) := by omega
    have n1 : (sz : Int) ≤ 32768 := by omega
    have n2 : (sz : Int) ≤ (c.size : Int) := by omega
    have n3 : (1 : Int) ≤ (kn : Int) := by omega
    have n4 : (kn : Int) < 68 := by omega
    by_cases c1 : 1 < kn
    · have n5 : (1 : Int) < (kn : Int) := by omega
      have hds := hds c1
      have n6 : (d.size : Int) < (sz : Int) := by omega
      go_enter Try.func6, Try.ntmps6
      go_wp2_with fail
      refine OO.out.mono ?_
      rintro e w0 ⟨rfl, b0⟩
      have B0 := hide b0
      clear OO b0
      go_wp2_with fail
      refine (table_any _).mono ?_
      rintro e w1 ⟨g, cap, rfl, o1, b1⟩
      have L1 := list_at o1 (by rw [List.length_cons, table_len])
      have y0 := (L1 kn c HC.out).1
      have y1 := (L1 (kn - 1) d HD.out).1
      have B1 := hide (B0.out.trans (b1.mono B0.out.size))
      have LL := hide L1
      clear o1 b1 B0 L1
      go_wp2_with fail
      clear y0 y1
      refine (RR.out _).mono ?_
      rintro e w2 ⟨rfl, b2⟩
      have L2 := LL.out.below b2
      have y0 := (L2 kn c HC.out).1
      have B2 := hide (B1.out.trans (b2.mono B1.out.size))
      clear LL b2 B1 L2 RR
      go_wp2_with fail
      refine (awake_core _).mono ?_
      rintro e w3 ⟨rfl, b3⟩
      have B3 := hide (B2.out.trans (b3.mono B2.out.size))
      clear b3 B2
      go_wp2_with fail
      go_ret
      exact ⟨rfl, B3.out⟩
    · have n5 : (kn : Int) ≤ 1 := by omega
      clear hds
      go_enter Try.func6, Try.ntmps6
      go_wp2_with fail
      refine OO.out.mono ?_
      rintro e w0 ⟨rfl, b0⟩
      have B0 := hide b0
      clear OO b0
      go_wp2_with fail
      refine (table_any _).mono ?_
      rintro e w1 ⟨g, cap, rfl, o1, b1⟩
      have L1 := list_at o1 (by rw [List.length_cons, table_len])
      have y0 := (L1 kn c HC.out).1
      have B1 := hide (B0.out.trans (b1.mono B0.out.size))
      have LL := hide L1
      clear o1 b1 B0 L1
      go_wp2_with fail
      clear y0
      refine (RR.out _).mono ?_
      rintro e w2 ⟨rfl, b2⟩
      have L2 := LL.out.below b2
      have y0 := (L2 kn c HC.out).1
      have B2 := hide (B1.out.trans (b2.mono B1.out.size))
      clear LL b2 B1 L2 RR
      go_wp2_with fail
      refine (awake_core _).mono ?_
      rintro e w3 ⟨rfl, b3⟩
      have B3 := hide (B2.out.trans (b3.mono B2.out.size))
      clear b3 B2
      go_wp2_with fail
      go_ret
      exact ⟨rfl, B3.out⟩
end Go.Proofs.Ytamkjodfjdhhmaa
