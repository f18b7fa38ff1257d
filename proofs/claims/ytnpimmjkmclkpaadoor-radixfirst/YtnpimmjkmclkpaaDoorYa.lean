/- Package radix: Sum: its contract. -/
import Derived.Test.YtnpimmjkmclkpaaDoorXz
namespace Go.Proofs.YtnpimmjkmclkpaaDoor
open Go.ChangeShapes Go.WideShapes Go.ChangeAt Go.RowKit Go.Proofs.Bt Go.Shelf Go.Proofs.Rx Go.Maps Go.Proofs.Pk
set_option linter.unusedVariables false
set_option linter.unusedSimpArgs false

theorem TreeE.at {B : Nat} {O : Nat → Prop} {w : World} {tb : Nat} {st : Nat → Nat} (h : TreeE B O w tb st) (D i : Nat) (hD : 3 ≤ D ∧ D ≤ 6) (hi : (i + 1) * sz D ≤ 34359738368) :
    Calls Tryd.prog 27 #[.pointer (some ⟨tb, 0, none⟩), .int .i64 (D : Nat), .int .u64 (i : Nat)] w fun e w' => (∃ r, Fact st D i r ∧ e = .returned (rwV r)) ∧ Below w.heap.size w w' := by
  obtain ⟨T, L, C, rfl, rfl, h1, h2⟩ := h
  exact at_core h1 D i hD hi
theorem TreeE.tab {B : Nat} {O : Nat → Prop} {w : World} {tb : Nat} {st : Nat → Nat} (h : TreeE B O w tb st) : TabW w := by
  obtain ⟨T, L, C, rfl, rfl, h1, h2⟩ := h
  exact h1.rad.tab
theorem ret_ct {fn : Func} {p u : Tmp} (hf : fn.results = #[.cell p 38, .tmp u]) {W : World} {Q : Nat} {x y z e : Int} {tmps : Array Value} (hp : tmps.getD p undef = .pointer (some ⟨Q, 0, none⟩)) (hu : tmps.getD u undef = .int .i64 e) (h : Bk W Q 38 #[.int .i64 x, .int .i64 y, .int .i64 z]) :
    (results fn tmps).run Tryd.prog W = .ok (.tuple #[sumV x y z, .int .i64 e]) W := by
  have hp' : tmps[p]?.getD undef = .pointer (some ⟨Q, 0, none⟩) := by simpa using hp
  have hu' : tmps[u]?.getD undef = .int .i64 e := by simpa using hu
  have := sum3 h
  simp [results, hf, hp', hu', asAddr, this]
/-- What Sum answers. -/
def SumT (st : Nat → Nat) (lv : Int) (i : Nat) (w : World) (e : Ending) (w' : World) : Prop :=
  ((¬ (0 ≤ lv ∧ lv ≤ 3) ∨ ¬ (i + 1) * sz (3 + lv.toNat) ≤ 34359738368 → e = .returned (.tuple #[sumV 0 0 0, .int .i64 1])) ∧
  (0 ≤ lv ∧ lv ≤ 3 → (i + 1) * sz (3 + lv.toNat) ≤ 34359738368 → ∃ s m e' : Nat, e = .returned (.tuple #[sumV (s : Nat) (m : Nat) (e' : Nat), .int .i64 0]) ∧ SumN (bsy st (i * sz (3 + lv.toNat))) (sz (3 + lv.toNat)) s m e')) ∧ Below w.heap.size w w'
set_option maxRecDepth 100000 in
set_option maxHeartbeats 1000000 in
theorem sumT_any {B : Nat} {O : Nat → Prop} {w : World} {tb : Nat} {st : Nat → Nat} (h : TreeE B O w tb st) (lv : Int) (i : Nat) (hi : i < 18446744073709551616) :
    Calls Tryd.prog 16 #[.pointer (some ⟨tb, 0, none⟩), .int .i64 lv, .int .u64 (i : Nat)] w (SumT st lv i w) := by
  obtain ⟨R, hR⟩ : ∃ R, R = SumT st lv i w := ⟨_, rfl⟩
  rw [← hR]
  have HR := hide hR
  obtain ⟨N, hN⟩ : ∃ N, w.heap.size = N := ⟨_, rfl⟩
  have HN := hide hN
  have HH := hide h
  obtain ⟨V, hV⟩ : ∃ V, w.alloc (.cells #[.int .i64 0, .int .i64 0, .int .i64 0] 38) = V := ⟨_, rfl⟩
  have bV : Below N w V := by rw [← hV, ← hN]; exact grown1 w _
  have kV : Bk V N 38 #[.int .i64 0, .int .i64 0, .int .i64 0] := by rw [← hV, ← hN]; exact World.alloc_heap_new w _
  have BV := hide bV
  have KV := hide kV
  have v0 := kV.cell 0 _ rfl
  have v1 := kV.cell 1 _ rfl
  have v2 := kV.cell 2 _ rfl
  have f0 := kV.fz 0
  have f1 := kV.fz 1
  have f2 := kV.fz 2
  have BAD := hide (show (¬ (0 ≤ lv ∧ lv ≤ 3) ∨ ¬ (i + 1) * sz (3 + lv.toNat) ≤ 34359738368) → ∀ W, Below N w W → R (.returned (.tuple #[sumV 0 0 0, .int .i64 1])) W from fun z W hW => by
    rw [HR.out]; exact ⟨⟨fun _ => rfl, fun y y' => (by rcases z with z | z; exact absurd y z; exact absurd y' z)⟩, by rw [HN.out]; exact hW⟩)
  have FB := hide (show Bk (((V.setCell ⟨N, 0, none⟩ (.int .i64 0)).setCell ⟨N, 1, none⟩ (.int .i64 0)).setCell ⟨N, 2, none⟩ (.int .i64 0)) N 38 #[.int .i64 0, .int .i64 0, .int .i64 0] from ((kV.set 0 _).set 1 _).set 2 _)
  have KB := hide (show Below N w (((V.setCell ⟨N, 0, none⟩ (.int .i64 0)).setCell ⟨N, 1, none⟩ (.int .i64 0)).setCell ⟨N, 2, none⟩ (.int .i64 0)) from ((bV.setCell (p := ⟨N, 0, none⟩) (Nat.le_refl _) _).setCell (p := ⟨N, 1, none⟩) (Nat.le_refl _) _).setCell (p := ⟨N, 2, none⟩) (Nat.le_refl _) _)
  clear hR h bV kV
  by_cases c1 : lv < 0
  · have d1 : decide (lv < 0) = true := decide_eq_true c1
    have F := hide (BAD.out (.inl (by omega)) _ KB.out)
    clear BAD c1
    go_enter Tryd.func16, Tryd.ntmps16
    go_wp2_with fail
    exact bodyPost_ret (ret_ct rfl rfl rfl FB.out) rfl F.out
  · have d1 : decide (lv < 0) = false := decide_eq_false c1
    by_cases c2 : 3 < lv
    · have d2 : decide (3 < lv) = true := decide_eq_true c2
      have F := hide (BAD.out (.inl (by omega)) _ KB.out)
      clear BAD c1 c2
      go_enter Tryd.func16, Tryd.ntmps16
      go_wp2_with fail
      exact bodyPost_ret (ret_ct rfl rfl rfl FB.out) rfl F.out
    · have d2 : decide (3 < lv) = false := decide_eq_false c2
      have TV := hide (HH.out.below (show Below w.heap.size w V from by rw [HN.out]; exact BV.out))
      have lvs : lv = 0 ∨ lv = 1 ∨ lv = 2 ∨ lv = 3 := by omega
      rcases lvs with rfl | rfl | rfl | rfl
      · have e3 : sz 3 = 262144 := rfl
        have tt := TV.out.tab.2 3 (by decide)
        simp only [sh, Int.cast_ofNat_Int] at tt
        have hsh := fun W => shr_nat 34359738368 18 (by decide) W
        simp only [Nat.reducePow, Nat.reduceDiv, Int.cast_ofNat_Int] at hsh
        by_cases c3 : 131072 ≤ i
        · have d3 : decide ((131072 : Int) ≤ (i : Int)) = true := decide_eq_true (by omega)
          have F := hide (BAD.out (.inr (by
            show ¬ (i + 1) * sz 3 ≤ 34359738368
            rw [e3]; omega)) _ KB.out)
          clear BAD c1 c2
          go_enter Tryd.func16, Tryd.ntmps16
          go_wp2_with fail
          exact bodyPost_ret (ret_ct rfl rfl rfl FB.out) rfl F.out
        · have d3 : decide ((131072 : Int) ≤ (i : Int)) = false := decide_eq_false (by omega)
          have hi3 : (i + 1) * sz 3 ≤ 34359738368 := by rw [e3]; omega
          have CA := hide (TV.out.at 3 i (by omega) hi3)
          simp only [Int.cast_ofNat_Int] at CA
          have g0 := fld60b
          clear BAD FB KB
          go_enter Tryd.func16, Tryd.ntmps16
          go_wp2_with fail
          refine CA.out.mono ?_
          rintro e w1 ⟨⟨r, hf, rfl⟩, b1⟩
          unfold rwV
          have k1 := KV.out.below b1
          have K1 := hide k1
          have B1 := hide (BV.out.trans (b1.mono (by have := KV.out.lt; omega)))
          have FH := hide hf
          have v0 := k1.cell 0 _ rfl
          have v1 := k1.cell 1 _ rfl
          have v2 := k1.cell 2 _ rfl
          have f0 := k1.fz 0
          have f1 := k1.fz 1
          have f2 := k1.fz 2
          clear k1 b1 CA hf
          go_wp2_with fail
          have fin := ((K1.out.set 0 (.int .i64 (r.s : Nat))).set 1 (.int .i64 (r.m : Nat))).set 2 (.int .i64 (r.e : Nat))
          refine bodyPost_ret (ret_ct rfl rfl rfl fin) rfl ?_
          rw [HR.out]
          refine ⟨⟨fun z => ?_, fun _ _ => ⟨r.s, r.m, r.e, rfl, FH.out.2.1 (by decide)⟩⟩, by rw [HN.out]; exact ((B1.out.setCell (p := ⟨N, 0, none⟩) (Nat.le_refl _) _).setCell (p := ⟨N, 1, none⟩) (Nat.le_refl _) _).setCell (p := ⟨N, 2, none⟩) (Nat.le_refl _) _⟩
          exact absurd z (fun y => y.elim (fun x => x (by decide)) (fun x => x hi3))
      · have e3 : sz 4 = 32768 := rfl
        have tt := TV.out.tab.2 4 (by decide)
        simp only [sh, Int.cast_ofNat_Int] at tt
        have hsh := fun W => shr_nat 34359738368 15 (by decide) W
        simp only [Nat.reducePow, Nat.reduceDiv, Int.cast_ofNat_Int] at hsh
        by_cases c3 : 1048576 ≤ i
        · have d3 : decide ((1048576 : Int) ≤ (i : Int)) = true := decide_eq_true (by omega)
          have F := hide (BAD.out (.inr (by
            show ¬ (i + 1) * sz 4 ≤ 34359738368
            rw [e3]; omega)) _ KB.out)
          clear BAD c1 c2
          go_enter Tryd.func16, Tryd.ntmps16
          go_wp2_with fail
          exact bodyPost_ret (ret_ct rfl rfl rfl FB.out) rfl F.out
        · have d3 : decide ((1048576 : Int) ≤ (i : Int)) = false := decide_eq_false (by omega)
          have hi3 : (i + 1) * sz 4 ≤ 34359738368 := by rw [e3]; omega
          have CA := hide (TV.out.at 4 i (by omega) hi3)
          simp only [Int.cast_ofNat_Int] at CA
          have g0 := fld60b
          clear BAD FB KB
          go_enter Tryd.func16, Tryd.ntmps16
          go_wp2_with fail
          refine CA.out.mono ?_
          rintro e w1 ⟨⟨r, hf, rfl⟩, b1⟩
          unfold rwV
          have k1 := KV.out.below b1
          have K1 := hide k1
          have B1 := hide (BV.out.trans (b1.mono (by have := KV.out.lt; omega)))
          have FH := hide hf
          have v0 := k1.cell 0 _ rfl
          have v1 := k1.cell 1 _ rfl
          have v2 := k1.cell 2 _ rfl
          have f0 := k1.fz 0
          have f1 := k1.fz 1
          have f2 := k1.fz 2
          clear k1 b1 CA hf
          go_wp2_with fail
          have fin := ((K1.out.set 0 (.int .i64 (r.s : Nat))).set 1 (.int .i64 (r.m : Nat))).set 2 (.int .i64 (r.e : Nat))
          refine bodyPost_ret (ret_ct rfl rfl rfl fin) rfl ?_
          rw [HR.out]
          refine ⟨⟨fun z => ?_, fun _ _ => ⟨r.s, r.m, r.e, rfl, FH.out.2.1 (by decide)⟩⟩, by rw [HN.out]; exact ((B1.out.setCell (p := ⟨N, 0, none⟩) (Nat.le_refl _) _).setCell (p := ⟨N, 1, none⟩) (Nat.le_refl _) _).setCell (p := ⟨N, 2, none⟩) (Nat.le_refl _) _⟩
          exact absurd z (fun y => y.elim (fun x => x (by decide)) (fun x => x hi3))
      · have e3 : sz 5 = 4096 := rfl
        have tt := TV.out.tab.2 5 (by decide)
        simp only [sh, Int.cast_ofNat_Int] at tt
        have hsh := fun W => shr_nat 34359738368 12 (by decide) W
        simp only [Nat.reducePow, Nat.reduceDiv, Int.cast_ofNat_Int] at hsh
        by_cases c3 : 8388608 ≤ i
        · have d3 : decide ((8388608 : Int) ≤ (i : Int)) = true := decide_eq_true (by omega)
          have F := hide (BAD.out (.inr (by
            show ¬ (i + 1) * sz 5 ≤ 34359738368
            rw [e3]; omega)) _ KB.out)
          clear BAD c1 c2
          go_enter Tryd.func16, Tryd.ntmps16
          go_wp2_with fail
          exact bodyPost_ret (ret_ct rfl rfl rfl FB.out) rfl F.out
        · have d3 : decide ((8388608 : Int) ≤ (i : Int)) = false := decide_eq_false (by omega)
          have hi3 : (i + 1) * sz 5 ≤ 34359738368 := by rw [e3]; omega
          have CA := hide (TV.out.at 5 i (by omega) hi3)
          simp only [Int.cast_ofNat_Int] at CA
          have g0 := fld60b
          clear BAD FB KB
          go_enter Tryd.func16, Tryd.ntmps16
          go_wp2_with fail
          refine CA.out.mono ?_
          rintro e w1 ⟨⟨r, hf, rfl⟩, b1⟩
          unfold rwV
          have k1 := KV.out.below b1
          have K1 := hide k1
          have B1 := hide (BV.out.trans (b1.mono (by have := KV.out.lt; omega)))
          have FH := hide hf
          have v0 := k1.cell 0 _ rfl
          have v1 := k1.cell 1 _ rfl
          have v2 := k1.cell 2 _ rfl
          have f0 := k1.fz 0
          have f1 := k1.fz 1
          have f2 := k1.fz 2
          clear k1 b1 CA hf
          go_wp2_with fail
          have fin := ((K1.out.set 0 (.int .i64 (r.s : Nat))).set 1 (.int .i64 (r.m : Nat))).set 2 (.int .i64 (r.e : Nat))
          refine bodyPost_ret (ret_ct rfl rfl rfl fin) rfl ?_
          rw [HR.out]
          refine ⟨⟨fun z => ?_, fun _ _ => ⟨r.s, r.m, r.e, rfl, FH.out.2.1 (by decide)⟩⟩, by rw [HN.out]; exact ((B1.out.setCell (p := ⟨N, 0, none⟩) (Nat.le_refl _) _).setCell (p := ⟨N, 1, none⟩) (Nat.le_refl _) _).setCell (p := ⟨N, 2, none⟩) (Nat.le_refl _) _⟩
          exact absurd z (fun y => y.elim (fun x => x (by decide)) (fun x => x hi3))
      · have e3 : sz 6 = 512 := rfl
        have tt := TV.out.tab.2 6 (by decide)
        simp only [sh, Int.cast_ofNat_Int] at tt
        have hsh := fun W => shr_nat 34359738368 9 (by decide) W
        simp only [Nat.reducePow, Nat.reduceDiv, Int.cast_ofNat_Int] at hsh
        by_cases c3 : 67108864 ≤ i
        · have d3 : decide ((67108864 : Int) ≤ (i : Int)) = true := decide_eq_true (by omega)
          have F := hide (BAD.out (.inr (by
            show ¬ (i + 1) * sz 6 ≤ 34359738368
            rw [e3]; omega)) _ KB.out)
          clear BAD c1 c2
          go_enter Tryd.func16, Tryd.ntmps16
          go_wp2_with fail
          exact bodyPost_ret (ret_ct rfl rfl rfl FB.out) rfl F.out
        · have d3 : decide ((67108864 : Int) ≤ (i : Int)) = false := decide_eq_false (by omega)
          have hi3 : (i + 1) * sz 6 ≤ 34359738368 := by rw [e3]; omega
          have CA := hide (TV.out.at 6 i (by omega) hi3)
          simp only [Int.cast_ofNat_Int] at CA
          have g0 := fld60b
          clear BAD FB KB
          go_enter Tryd.func16, Tryd.ntmps16
          go_wp2_with fail
          refine CA.out.mono ?_
          rintro e w1 ⟨⟨r, hf, rfl⟩, b1⟩
          unfold rwV
          have k1 := KV.out.below b1
          have K1 := hide k1
          have B1 := hide (BV.out.trans (b1.mono (by have := KV.out.lt; omega)))
          have FH := hide hf
          have v0 := k1.cell 0 _ rfl
          have v1 := k1.cell 1 _ rfl
          have v2 := k1.cell 2 _ rfl
          have f0 := k1.fz 0
          have f1 := k1.fz 1
          have f2 := k1.fz 2
          clear k1 b1 CA hf
          go_wp2_with fail
          have fin := ((K1.out.set 0 (.int .i64 (r.s : Nat))).set 1 (.int .i64 (r.m : Nat))).set 2 (.int .i64 (r.e : Nat))
          refine bodyPost_ret (ret_ct rfl rfl rfl fin) rfl ?_
          rw [HR.out]
          refine ⟨⟨fun z => ?_, fun _ _ => ⟨r.s, r.m, r.e, rfl, FH.out.2.1 (by decide)⟩⟩, by rw [HN.out]; exact ((B1.out.setCell (p := ⟨N, 0, none⟩) (Nat.le_refl _) _).setCell (p := ⟨N, 1, none⟩) (Nat.le_refl _) _).setCell (p := ⟨N, 2, none⟩) (Nat.le_refl _) _⟩
          exact absurd z (fun y => y.elim (fun x => x (by decide)) (fun x => x hi3))
end Go.Proofs.YtnpimmjkmclkpaaDoor
