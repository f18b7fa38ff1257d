/- The landed chunk: how it lies, and what its methods answer: contracts. -/
import Derived.Test.YtnclicdnncgdiaaDoorSu
namespace Go.Proofs.YtnclicdnncgdiaaDoor
open Go.ChangeShapes Go.WideShapes Go.ChangeAt Go.RowKit Go.Proofs.Bt Go.Shelf
set_option linter.unusedVariables false
set_option linter.unusedSimpArgs false

/-- A chunk in a block: which pages are used, which are released. -/
structure ChF (w : World) (b : Nat) (u g : Nat → Bool) : Prop where
  used : RowF w b 0 u
  gone : RowF w b 8 g
theorem ChF.lt {w : World} {b : Nat} {u g : Nat → Bool} (h : ChF w b u g) : b < w.heap.size := h.used.lt
theorem ChF.kept {F : Nat → Prop} {w w' : World} {b : Nat} {u g : Nat → Bool} (h : ChF w b u g) (k : Kept F w w') (hF : ¬ F b) : ChF w' b u g := ⟨h.used.kept k hF, h.gone.kept k hF⟩
theorem ChF.below {w w' : World} {b : Nat} {u g : Nat → Bool} (h : ChF w b u g) (k : Below w.heap.size w w') : ChF w' b u g := ⟨h.used.below k, h.gone.below k⟩
theorem RowF.other {w w' : World} {b ro r2 n : Nat} {f : Nat → Bool} (h : RowF w b ro f) (k : Only b r2 n w w') (hr : ro + 8 ≤ r2 ∨ r2 + n ≤ ro) : RowF w' b ro f := by
  obtain ⟨g, h1, h2⟩ := h; exact ⟨g, h1.other k hr, h2⟩
theorem RowF.congr {w : World} {b ro : Nat} {f f' : Nat → Bool} (h : RowF w b ro f) (e : ∀ k, k < 512 → f k = f' k) : RowF w b ro f' := by
  obtain ⟨g, h1, h2⟩ := h; exact ⟨g, h1, fun i hi => (h2 i hi).trans (e i hi)⟩
theorem ChF.setU {w w' : World} {b : Nat} {u u' g : Nat → Bool} (h : ChF w b u g) (k : Only b 0 8 w w') (r : RowF w' b 0 u') : ChF w' b u' g := ⟨r, h.gone.other k (by omega)⟩
theorem ChF.setG {w w' : World} {b : Nat} {u g g' : Nat → Bool} (h : ChF w b u g) (k : Only b 8 8 w w') (r : RowF w' b 8 g') : ChF w' b u g' := ⟨h.used.other k (by omega), r⟩
theorem ChF.congr {w : World} {b : Nat} {u g u' g' : Nat → Bool} (h : ChF w b u g) (e : ∀ k, k < 512 → u k = u' k) (e' : ∀ k, k < 512 → g k = g' k) : ChF w b u' g' := ⟨h.used.congr e, h.gone.congr e'⟩

/-- The pages are right: 8.2. -/
def RightC (i n : Int) : Prop := 0 ≤ i ∧ 0 < n ∧ n ≤ 512 - i
abbrev decR (i n : Int) : Decidable (RightC i n) := by unfold RightC; exact inferInstance
theorem rightC_any (i n : Int) (hi : i ≤ 9223372036854775807) (w : World) :
    Calls Tryd.prog 82 #[.int .i64 i, .int .i64 n] w fun e w' => e = .returned (.bool (@decide (RightC i n) (decR i n))) ∧ w' = w := by
  by_cases h0 : 0 ≤ i
  · by_cases h1 : 0 < n
    · have hd : @decide (RightC i n) (decR i n) = decide (n ≤ 512 - i) := by unfold RightC; simp [h0, h1]
      rw [hd]
      go_enter Tryd.func82, Tryd.ntmps82
      go_wp2
      go_ret
      exact ⟨rfl, rfl⟩
    · have hd : @decide (RightC i n) (decR i n) = false := @decide_eq_false _ (decR i n) (fun h => h1 h.2.1)
      have h2 : n ≤ 0 := by omega
      rw [hd]
      clear hd h1
      go_enter Tryd.func82, Tryd.ntmps82
      go_wp2
      go_ret
      exact ⟨rfl, rfl⟩
  · have hd : @decide (RightC i n) (decR i n) = false := @decide_eq_false _ (decR i n) (fun h => h0 h.1)
    have h2 : i < 0 := by omega
    rw [hd]
    clear hd h0
    go_enter Tryd.func82, Tryd.ntmps82
    go_wp2
    go_ret
    exact ⟨rfl, rfl⟩
theorem count_int (b ro : Nat) (f : Nat → Bool) (w : World) (h : RowF w b ro f) (i n : Int) (hi : 0 ≤ i) (hn : 0 ≤ n) (hin : i + n ≤ 512) :
    Calls Tryd.prog 70 #[.pointer (some ⟨b, ro, none⟩), .int .i64 i, .int .i64 n] w fun e w' => e = .returned (.int .i64 (cnt f i.toNat n.toNat : Nat)) ∧ Below w.heap.size w w' := by
  have := count_any b ro f w h i.toNat n.toNat (by omega)
  rw [show ((i.toNat : Nat) : Int) = i by omega, show ((n.toNat : Nat) : Int) = n by omega] at this
  exact this
theorem set_int (b ro : Nat) (f : Nat → Bool) (w : World) (h : RowF w b ro f) (i n : Int) (hi : 0 ≤ i) (hn : 0 ≤ n) (hin : i + n ≤ 512) :
    Calls Tryd.prog 45 #[.pointer (some ⟨b, ro, none⟩), .int .i64 i, .int .i64 n] w fun e w' => e = .returned (.int .i64 0) ∧ RowF w' b ro (setF f i.toNat n.toNat) ∧ Only b ro 8 w w' := by
  have := set_any b ro f w h i.toNat n.toNat (by omega)
  rw [show ((i.toNat : Nat) : Int) = i by omega, show ((n.toNat : Nat) : Int) = n by omega] at this
  exact this
theorem clear_int (b ro : Nat) (f : Nat → Bool) (w : World) (h : RowF w b ro f) (i n : Int) (hi : 0 ≤ i) (hn : 0 ≤ n) (hin : i + n ≤ 512) :
    Calls Tryd.prog 83 #[.pointer (some ⟨b, ro, none⟩), .int .i64 i, .int .i64 n] w fun e w' => e = .returned (.int .i64 0) ∧ RowF w' b ro (clrF f i.toNat n.toNat) ∧ Only b ro 8 w w' := by
  have := clear_any b ro f w h i.toNat n.toNat (by omega)
  rw [show ((i.toNat : Nat) : Int) = i by omega, show ((n.toNat : Nat) : Int) = n by omega] at this
  exact this

/-! ### Take, Give, Back -/
/-- What Take answers and leaves. -/
def takeS (u g : Nat → Bool) (i n : Int) : Int × Int × (Nat → Bool) × (Nat → Bool) :=
  @ite _ (RightC i n) (decR i n) (if cnt u i.toNat n.toNat = 0 then ((cnt g i.toNat n.toNat : Nat), 0, setF u i.toNat n.toNat, clrF g i.toNat n.toNat) else (0, 32, u, g)) (0, 1, u, g)
def giveS (u g : Nat → Bool) (i n : Int) (gone : Bool) : Int × (Nat → Bool) × (Nat → Bool) :=
  @ite _ (RightC i n) (decR i n) (if cnt u i.toNat n.toNat = n.toNat then (0, clrF u i.toNat n.toNat, if gone then setF g i.toNat n.toNat else g) else (31, u, g)) (1, u, g)
theorem take_any (b : Nat) (u g : Nat → Bool) (w : World) (h : ChF w b u g) (i n : Int) (hi : i ≤ 9223372036854775807) :
    Calls Tryd.prog 74 #[.pointer (some ⟨b, 0, none⟩), .int .i64 i, .int .i64 n] w fun e w' =>
      e = .returned (.tuple #[.int .i64 (takeS u g i n).1, .int .i64 (takeS u g i n).2.1]) ∧ ChF w' b (takeS u g i n).2.2.1 (takeS u g i n).2.2.2 ∧ Kept (fun x => x = b) w w' := by
  have cR := rightC_any i n hi w
  by_cases hr : RightC i n
  · rw [@decide_eq_true _ (decR i n) hr] at cR
    obtain ⟨r0, r1, r2⟩ := hr
    have cC := count_int b 0 u w h.used i n r0 (by omega) (by omega)
    have HC := hide h
    by_cases hz : cnt u i.toNat n.toNat = 0
    · have e : takeS u g i n = (((cnt g i.toNat n.toNat : Nat) : Int), 0, setF u i.toNat n.toNat, clrF g i.toNat n.toNat) := by
        unfold takeS; rw [if_pos ⟨r0, r1, r2⟩, if_pos hz]
      rw [e]
      rw [hz] at cC
      have R := hide ((show 0 ≤ i ∧ 0 ≤ n ∧ i + n ≤ 512 by omega))
      clear e hz h
      obtain ⟨C, hC⟩ : ∃ C : Int, ((cnt g i.toNat n.toNat : Nat) : Int) = C := ⟨_, rfl⟩
      rw [hC]
      have HCC := hide hC
      clear hC
      go_enter Tryd.func74, Tryd.ntmps74
      go_wp2_with fail
      go_at_call 82
      refine cR.mono ?_
      rintro e w' ⟨rfl, hw'⟩; rw [hw']; clear hw' w'
      go_wp2_with fail
      go_at_call 70
      refine cC.mono ?_
      rintro e w1 ⟨rfl, k1⟩
      have HC1 := hide (HC.out.below k1)
      have K1 := hide k1
      clear k1
      go_wp2_with fail
      go_at_call 70
      refine (count_int b 8 g w1 HC1.out.gone i n R.out.1 R.out.2.1 R.out.2.2).mono ?_
      rw [HCC.out]
      rintro e w2 ⟨rfl, k2⟩
      have HC2 := hide (HC1.out.below k2)
      have K2 := hide (K1.out.trans (k2.mono K1.out.size))
      clear k2
      go_wp2_with fail
      go_at_call 45
      refine (set_int b 0 u w2 HC2.out.used i n R.out.1 R.out.2.1 R.out.2.2).mono ?_
      rintro e w3 ⟨rfl, r3, k3⟩
      have HC3 := hide (HC2.out.setU k3 r3)
      have K3 := hide ((Kept.of_below K2.out).trans k3.kept (fun _ _ f => f))
      clear r3 k3
      go_wp2_with fail
      go_at_call 83
      refine (clear_int b 8 g w3 HC3.out.gone i n R.out.1 R.out.2.1 R.out.2.2).mono ?_
      rintro e w4 ⟨rfl, r4, k4⟩
      have HC4 := hide (HC3.out.setG k4 r4)
      have K4 := hide (K3.out.trans k4.kept (fun _ _ f => f))
      clear r4 k4
      go_wp2_with fail
      go_ret2
      exact ⟨rfl, HC4.out, K4.out⟩
    · have e : takeS u g i n = (0, 32, u, g) := by unfold takeS; rw [if_pos ⟨r0, r1, r2⟩, if_neg hz]
      rw [e]
      obtain ⟨C, hC⟩ : ∃ C : Int, ((cnt u i.toNat n.toNat : Nat) : Int) = C := ⟨_, rfl⟩
      have hC0 : 0 < C := by omega
      rw [hC] at cC
      clear e hz hC h
      go_enter Tryd.func74, Tryd.ntmps74
      go_wp2_with fail
      go_at_call 82
      refine cR.mono ?_
      rintro e w' ⟨rfl, hw'⟩; rw [hw']; clear hw' w'
      go_wp2_with fail
      go_at_call 70
      refine cC.mono ?_
      rintro e w1 ⟨rfl, k1⟩
      have HC1 := hide (HC.out.below k1)
      have K1 := hide k1
      clear k1
      go_wp2_with fail
      go_ret2
      exact ⟨rfl, HC1.out, Kept.of_below K1.out⟩
  · rw [@decide_eq_false _ (decR i n) hr] at cR
    have e : takeS u g i n = (0, 1, u, g) := by unfold takeS; rw [if_neg hr]
    rw [e]
    have HC := hide h
    clear e hr h
    go_enter Tryd.func74, Tryd.ntmps74
    go_wp2_with fail
    go_at_call 82
    refine cR.mono ?_
    rintro e w' ⟨rfl, hw'⟩; rw [hw']; clear hw' w'
    go_wp2_with fail
    go_ret2
    exact ⟨rfl, HC.out, Kept.refl _ _⟩
theorem give_any (b : Nat) (u g : Nat → Bool) (w : World) (h : ChF w b u g) (i n : Int) (hi : i ≤ 9223372036854775807) :
    Calls Tryd.prog 75 #[.pointer (some ⟨b, 0, none⟩), .int .i64 i, .int .i64 n] w fun e w' =>
      e = .returned (.int .i64 (giveS u g i n false).1) ∧ ChF w' b (giveS u g i n false).2.1 (giveS u g i n false).2.2 ∧ Kept (fun x => x = b) w w' := by
  have cR := rightC_any i n hi w
  by_cases hr : RightC i n
  · rw [@decide_eq_true _ (decR i n) hr] at cR
    obtain ⟨r0, r1, r2⟩ := hr
    have cC := count_int b 0 u w h.used i n r0 (by omega) (by omega)
    have HC := hide h
    by_cases hz : cnt u i.toNat n.toNat = n.toNat
    · have e : giveS u g i n false = (0, clrF u i.toNat n.toNat, g) := by
        unfold giveS; rw [if_pos ⟨r0, r1, r2⟩, if_pos hz]; rfl
      rw [e]
      rw [hz, show ((n.toNat : Nat) : Int) = n by omega] at cC
      have R := hide ((show 0 ≤ i ∧ 0 ≤ n ∧ i + n ≤ 512 by omega))
      clear e hz h
      go_enter Tryd.func75, Tryd.ntmps75
      go_wp2_with fail
      go_at_call 82
      refine cR.mono ?_
      rintro e w' ⟨rfl, hw'⟩; rw [hw']; clear hw' w'
      go_wp2_with fail
      go_at_call 70
      refine cC.mono ?_
      rintro e w1 ⟨rfl, k1⟩
      have HC1 := hide (HC.out.below k1)
      have K1 := hide k1
      clear k1
      go_wp2_with fail
      go_at_call 83
      refine (clear_int b 0 u w1 HC1.out.used i n R.out.1 R.out.2.1 R.out.2.2).mono ?_
      rintro e w4 ⟨rfl, r4, k4⟩
      have HC4 := hide (HC1.out.setU k4 r4)
      have K4 := hide ((Kept.of_below (F := fun x => x = b) K1.out).trans k4.kept (fun _ _ f => f))
      clear r4 k4
      go_wp2_with fail
      go_ret
      exact ⟨rfl, HC4.out, K4.out⟩
    · have e : giveS u g i n false = (31, u, g) := by unfold giveS; rw [if_pos ⟨r0, r1, r2⟩, if_neg hz]
      rw [e]
      obtain ⟨C, hC⟩ : ∃ C : Int, ((cnt u i.toNat n.toNat : Nat) : Int) = C := ⟨_, rfl⟩
      have hC0 : C < n := by have := cnt_le u i.toNat n.toNat; omega
      rw [hC] at cC
      clear e hz hC h
      go_enter Tryd.func75, Tryd.ntmps75
      go_wp2_with fail
      go_at_call 82
      refine cR.mono ?_
      rintro e w' ⟨rfl, hw'⟩; rw [hw']; clear hw' w'
      go_wp2_with fail
      go_at_call 70
      refine cC.mono ?_
      rintro e w1 ⟨rfl, k1⟩
      have HC1 := hide (HC.out.below k1)
      have K1 := hide k1
      clear k1
      go_wp2_with fail
      go_ret
      exact ⟨rfl, HC1.out, Kept.of_below K1.out⟩
  · rw [@decide_eq_false _ (decR i n) hr] at cR
    have e : giveS u g i n false = (1, u, g) := by unfold giveS; rw [if_neg hr]
    rw [e]
    have HC := hide h
    clear e hr h
    go_enter Tryd.func75, Tryd.ntmps75
    go_wp2_with fail
    go_at_call 82
    refine cR.mono ?_
    rintro e w' ⟨rfl, hw'⟩; rw [hw']; clear hw' w'
    go_wp2_with fail
    go_ret
    exact ⟨rfl, HC.out, Kept.refl _ _⟩
theorem back_any (b : Nat) (u g : Nat → Bool) (w : World) (h : ChF w b u g) (i n : Int) (hi : i ≤ 9223372036854775807) :
    Calls Tryd.prog 76 #[.pointer (some ⟨b, 0, none⟩), .int .i64 i, .int .i64 n] w fun e w' =>
      e = .returned (.int .i64 (giveS u g i n true).1) ∧ ChF w' b (giveS u g i n true).2.1 (giveS u g i n true).2.2 ∧ Kept (fun x => x = b) w w' := by
  have cG := give_any b u g w h i n hi
  by_cases hz : RightC i n ∧ cnt u i.toNat n.toNat = n.toNat
  · have e : giveS u g i n true = (0, clrF u i.toNat n.toNat, setF g i.toNat n.toNat) := by unfold giveS; rw [if_pos hz.1, if_pos hz.2]; rfl
    have e' : giveS u g i n false = (0, clrF u i.toNat n.toNat, g) := by unfold giveS; rw [if_pos hz.1, if_pos hz.2]; rfl
    rw [e]
    rw [e'] at cG
    have R := hide (show 0 ≤ i ∧ 0 ≤ n ∧ i + n ≤ 512 by have := hz.1; unfold RightC at this; omega)
    clear e e' hz h
    go_enter Tryd.func76, Tryd.ntmps76
    go_wp2_with fail
    go_at_call 75
    refine cG.mono ?_
    rintro e w1 ⟨rfl, r1, k1⟩
    have R1 := hide r1
    have K1 := hide k1
    clear r1 k1
    go_wp2_with fail
    go_at_call 45
    refine (set_int b 8 g w1 R1.out.gone i n R.out.1 R.out.2.1 R.out.2.2).mono ?_
    rintro e w2 ⟨rfl, r2, k2⟩
    have HC2 := hide (R1.out.setG k2 r2)
    have K2 := hide (K1.out.trans k2.kept (fun _ _ f => f))
    clear r2 k2
    go_wp2_with fail
    go_ret
    exact ⟨rfl, HC2.out, K2.out⟩
  · have e : giveS u g i n true = giveS u g i n false := by
      unfold giveS
      by_cases hr : RightC i n
      · rw [if_pos hr, if_pos hr, if_neg (fun h => hz ⟨hr, h⟩), if_neg (fun h => hz ⟨hr, h⟩)]
      · rw [if_neg hr, if_neg hr]
    have ne : (giveS u g i n false).1 ≠ 0 := by
      unfold giveS
      by_cases hr : RightC i n
      · rw [if_pos hr, if_neg (fun h => hz ⟨hr, h⟩)]; show (31 : Int) ≠ 0; decide
      · rw [if_neg hr]; show (1 : Int) ≠ 0; decide
    rw [e]
    obtain ⟨E, hE⟩ : ∃ E : Int, (giveS u g i n false).1 = E := ⟨_, rfl⟩
    rw [hE] at cG ne ⊢
    have nb : (E == 0) = false := by simpa using ne
    clear e hz h hE ne
    go_enter Tryd.func76, Tryd.ntmps76
    go_wp2_with fail
    go_at_call 75
    refine cG.mono ?_
    rintro e w1 ⟨rfl, r1, k1⟩
    have R1 := hide r1
    have K1 := hide k1
    clear r1 k1
    go_wp2_with fail
    go_ret
    exact ⟨rfl, R1.out, K1.out⟩
end Go.Proofs.YtnclicdnncgdiaaDoor
