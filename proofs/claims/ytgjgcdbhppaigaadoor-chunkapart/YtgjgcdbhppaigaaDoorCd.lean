/- The reference's chunk: how it lies, and what its methods answer: contracts. -/
import Derived.Test.YtgjgcdbhppaigaaDoorCc
namespace Go.Proofs.YtgjgcdbhppaigaaDoor
open Go.ChangeShapes Go.WideShapes Go.ChangeAt Go.RowKit Go.Proofs.Bt Go.Shelf
set_option linter.unusedVariables false
set_option linter.unusedSimpArgs false

/-- The reference's chunk in a block. -/
structure RcF (w : World) (b : Nat) (u g : Nat → Bool) : Prop where
  used : BoolAt w b 0 u
  gone : BoolAt w b 512 g
theorem RcF.lt {w : World} {b : Nat} {u g : Nat → Bool} (h : RcF w b u g) : b < w.heap.size := h.used.lt
theorem RcF.kept {F : Nat → Prop} {w w' : World} {b : Nat} {u g : Nat → Bool} (h : RcF w b u g) (k : Kept F w w') (hF : ¬ F b) : RcF w' b u g := ⟨h.used.kept k hF, h.gone.kept k hF⟩
theorem RcF.below {w w' : World} {b : Nat} {u g : Nat → Bool} (h : RcF w b u g) (k : Below w.heap.size w w') : RcF w' b u g := ⟨h.used.below k, h.gone.below k⟩
theorem RcF.setU {w w' : World} {b : Nat} {u u' g : Nat → Bool} (h : RcF w b u g) (k : Only b 0 512 w w') (r : BoolAt w' b 0 u') : RcF w' b u' g := ⟨r, h.gone.other k (by omega)⟩
theorem RcF.setG {w w' : World} {b : Nat} {u g g' : Nat → Bool} (h : RcF w b u g) (k : Only b 512 512 w w') (r : BoolAt w' b 512 g') : RcF w' b u g' := ⟨h.used.other k (by omega), r⟩
theorem RcF.congr {w : World} {b : Nat} {u g u' g' : Nat → Bool} (h : RcF w b u g) (e : ∀ k, k < 512 → u k = u' k) (e' : ∀ k, k < 512 → g k = g' k) : RcF w b u' g' := ⟨h.used.congr e, h.gone.congr e'⟩
theorem put_true (f : Nat → Bool) (i n : Nat) (k : Nat) : putF f i n true k = setF f i n k := by
  unfold putF setF
  by_cases h : i ≤ k ∧ k < i + n
  · rw [if_pos h, decide_eq_true h, Bool.or_true]
  · rw [if_neg h, decide_eq_false h, Bool.or_false]
theorem put_false (f : Nat → Bool) (i n : Nat) (k : Nat) : putF f i n false k = clrF f i n k := by
  unfold putF clrF
  by_cases h : i ≤ k ∧ k < i + n
  · rw [if_pos h, decide_eq_true h]; simp
  · rw [if_neg h, decide_eq_false h]; simp
theorem put_int (b ro : Nat) (f : Nat → Bool) (x : Bool) (w : World) (h : BoolAt w b ro f) (i n : Int) (hi : 0 ≤ i) (hn : 0 ≤ n) (hin : i + n ≤ 512) :
    Calls Tryd.prog 25 #[.pointer (some ⟨b, ro, none⟩), .int .i64 i, .int .i64 n, .bool x] w fun e w' => e = .returned (.int .i64 0) ∧ BoolAt w' b ro (if x then setF f i.toNat n.toNat else clrF f i.toNat n.toNat) ∧ Only b ro 512 w w' := by
  have := put_core b ro f x w h i.toNat n.toNat (by omega)
  rw [show ((i.toNat : Nat) : Int) = i by omega, show ((n.toNat : Nat) : Int) = n by omega] at this
  refine this.mono ?_
  rintro e w' ⟨rfl, r, k⟩
  refine ⟨rfl, r.congr (fun j _ => ?_), k⟩
  cases x
  · exact put_false _ _ _ _
  · exact put_true _ _ _ _
theorem countR_int (b ro : Nat) (f : Nat → Bool) (w : World) (h : BoolAt w b ro f) (i n : Int) (hi : 0 ≤ i) (hn : 0 ≤ n) (hin : i + n ≤ 512) :
    Calls Tryd.prog 44 #[.pointer (some ⟨b, ro, none⟩), .int .i64 i, .int .i64 n] w fun e w' => e = .returned (.int .i64 (cnt f i.toNat n.toNat : Nat)) ∧ w' = w := by
  have := countRef_core b ro f w h i.toNat n.toNat (by omega)
  rw [show ((i.toNat : Nat) : Int) = i by omega, show ((n.toNat : Nat) : Int) = n by omega] at this
  exact this
theorem right_of (i n : Int) : RightC i n ↔ (Right i n ∧ n ≠ 0) := by unfold RightC Right; omega
theorem takeR_any (b : Nat) (u g : Nat → Bool) (w : World) (h : RcF w b u g) (i n : Int) (hi0 : -9223372036854775808 ≤ i) :
    Calls Tryd.prog 26 #[.pointer (some ⟨b, 0, none⟩), .int .i64 i, .int .i64 n] w fun e w' =>
      e = .returned (.tuple #[.int .i64 (takeS u g i n).1, .int .i64 (takeS u g i n).2.1]) ∧ RcF w' b (takeS u g i n).2.2.1 (takeS u g i n).2.2.2 ∧ Kept (fun x => x = b) w w' := by
  have HC := hide h
  by_cases hr : RightC i n
  · have cR := (rightRef_any i n hi0 w).1 ((right_of i n).1 hr).1
    have hn : (n == 0) = false := by simpa using ((right_of i n).1 hr).2
    obtain ⟨r0, r1, r2⟩ := hr
    have cC := countR_int b 0 u w h.used i n r0 (by omega) (by omega)
    by_cases hz : cnt u i.toNat n.toNat = 0
    · have e : takeS u g i n = (((cnt g i.toNat n.toNat : Nat) : Int), 0, setF u i.toNat n.toNat, clrF g i.toNat n.toNat) := by
        unfold takeS; rw [if_pos ⟨r0, r1, r2⟩, if_pos hz]
      rw [e]
      rw [hz] at cC
      have R := hide ((show 0 ≤ i ∧ 0 ≤ n ∧ i + n ≤ 512 by omega))
      have cG := countR_int b 512 g w h.gone i n r0 (by omega) (by omega)
      clear e hz h
      go_enter Tryd.func26, Tryd.ntmps26
      go_wp2_with fail
      go_at_call 43
      refine cR.mono ?_
      rintro e w' ⟨rfl, hw'⟩; rw [hw']; clear hw' w'
      go_wp2_with fail
      go_at_call 44
      refine cC.mono ?_
      rintro e w' ⟨rfl, hw'⟩; rw [hw']; clear hw' w'
      go_wp2_with fail
      go_at_call 44
      refine cG.mono ?_
      rintro e w' ⟨rfl, hw'⟩; rw [hw']; clear hw' w'
      go_wp2_with fail
      go_at_call 25
      refine (put_int b 0 u true w HC.out.used i n R.out.1 R.out.2.1 R.out.2.2).mono ?_
      rintro e w3 ⟨rfl, r3, k3⟩
      have HC3 := hide (HC.out.setU k3 r3)
      have K3 := hide k3.kept
      clear r3 k3
      go_wp2_with fail
      go_at_call 25
      refine (put_int b 512 g false w3 HC3.out.gone i n R.out.1 R.out.2.1 R.out.2.2).mono ?_
      rintro e w4 ⟨rfl, r4, k4⟩
      have HC4 := hide (HC3.out.setG k4 r4)
      have K4 := hide (K3.out.trans k4.kept (fun _ _ f => f))
      clear r4 k4
      go_wp2_with fail
      go_ret2
      exact ⟨rfl, HC4.out, K4.out⟩
    · have e : takeS u g i n = (0, 32, u, g) := by unfold takeS; rw [if_pos ⟨r0, r1, r2⟩, if_neg hz]
      rw [e]
      obtain ⟨C, hC⟩ : ∃ C : Int, ((cnt u i.toNat n.toNat : Nat) : Int) = C := ⟨_, rfl⟩
      have hC0 : 0 < C := by omega
      rw [hC] at cC
      clear e hz hC h
      go_enter Tryd.func26, Tryd.ntmps26
      go_wp2_with fail
      go_at_call 43
      refine cR.mono ?_
      rintro e w' ⟨rfl, hw'⟩; rw [hw']; clear hw' w'
      go_wp2_with fail
      go_at_call 44
      refine cC.mono ?_
      rintro e w' ⟨rfl, hw'⟩; rw [hw']; clear hw' w'
      go_wp2_with fail
      go_ret2
      exact ⟨rfl, HC.out, Kept.refl _ _⟩
  · have e : takeS u g i n = (0, 1, u, g) := by unfold takeS; rw [if_neg hr]
    rw [e]
    by_cases hr2 : Right i n
    · have cR := (rightRef_any i n hi0 w).1 hr2
      have hn : n = 0 := by
        by_cases z : n = 0
        · exact z
        · exact absurd ((right_of i n).2 ⟨hr2, z⟩) hr
      subst hn
      clear e hr h hr2
      go_enter Tryd.func26, Tryd.ntmps26
      go_wp2_with fail
      go_at_call 43
      refine cR.mono ?_
      rintro e w' ⟨rfl, hw'⟩; rw [hw']; clear hw' w'
      go_wp2_with fail
      go_ret2
      exact ⟨rfl, HC.out, Kept.refl _ _⟩
    · have cR := (rightRef_any i n hi0 w).2 hr2
      clear e hr h hr2
      go_enter Tryd.func26, Tryd.ntmps26
      go_wp2_with fail
      go_at_call 43
      refine cR.mono ?_
      rintro e w' ⟨rfl, hw'⟩; rw [hw']; clear hw' w'
      go_wp2_with fail
      go_ret2
      exact ⟨rfl, HC.out, Kept.refl _ _⟩
end Go.Proofs.YtgjgcdbhppaigaaDoor
