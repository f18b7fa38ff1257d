/- The reference's chunk: Give, New, Free, Released, Scavenge: contracts. -/
import Derived.Test.YtgjgcdbhppaigaaDoorCd
namespace Go.Proofs.YtgjgcdbhppaigaaDoor
open Go.ChangeShapes Go.WideShapes Go.ChangeAt Go.RowKit Go.Proofs.Bt Go.Shelf
set_option linter.unusedVariables false
set_option linter.unusedSimpArgs false

/-- No page is used and released: 8.4. -/
def Apart (u g : Nat → Bool) : Prop := ∀ k, k < 512 → u k = true → g k = false
theorem apart_new : Apart (fun _ => false) (setF (fun _ => false) 0 512) := fun k _ h => by cases h
theorem apart_take {u g : Nat → Bool} (h : Apart u g) (i n : Int) : Apart (takeS u g i n).2.2.1 (takeS u g i n).2.2.2 := by
  unfold takeS
  split
  · split
    · intro k hk hu
      simp only [setF, clrF] at *
      by_cases e : i.toNat ≤ k ∧ k < i.toNat + n.toNat
      · rw [decide_eq_true e]; simp
      · rw [decide_eq_false e] at *; simp only [Bool.or_false, Bool.not_false, Bool.and_true] at *; exact h k hk hu
    · exact h
  · exact h
theorem apart_give {u g : Nat → Bool} (h : Apart u g) (i n : Int) (x : Bool) : Apart (giveS u g i n x).2.1 (giveS u g i n x).2.2 := by
  unfold giveS
  split
  · split
    · intro k hk hu
      simp only [clrF] at hu
      by_cases e : i.toNat ≤ k ∧ k < i.toNat + n.toNat
      · rw [decide_eq_true e] at hu; simp at hu
      · rw [decide_eq_false e] at hu; simp only [Bool.not_false, Bool.and_true] at hu
        cases x
        · exact h k hk hu
        · show setF g _ _ k = false
          unfold setF; rw [decide_eq_false e, Bool.or_false]; exact h k hk hu
    · exact h
  · exact h
theorem apart_scav {u g : Nat → Bool} (h : Apart u g) {most i k : Int} (p : LastP (busy u g) most 512 i k) : Apart u (setF g i.toNat k.toNat) := by
  intro j hj hu
  unfold setF
  rw [h j hj hu, Bool.false_or]
  refine decide_eq_false (fun e => ?_)
  rcases p with ⟨rfl, rfl, h1⟩ | ⟨h1, a, m, rfl, rfl, h2, h3, h4, h5, h6, h7⟩
  · simp at e
  · have := h5 (j - a) (by simp at e; omega)
    rw [show a + (j - a) = j by simp at e; omega] at this
    unfold busy at this
    rw [hu] at this
    cases this

theorem giveR_any (b : Nat) (u g : Nat → Bool) (ha : Apart u g) (w : World) (h : RcF w b u g) (i n : Int) (hi0 : -9223372036854775808 ≤ i) (x : Bool) :
    Calls Tryd.prog 27 #[.pointer (some ⟨b, 0, none⟩), .int .i64 i, .int .i64 n, .bool x] w fun e w' =>
      e = .returned (.int .i64 (giveS u g i n x).1) ∧ RcF w' b (giveS u g i n x).2.1 (giveS u g i n x).2.2 ∧ Kept (fun x => x = b) w w' := by
  have HC := hide h
  by_cases hr : RightC i n
  · have cR := (rightRef_any i n hi0 w).1 ((right_of i n).1 hr).1
    have hn : (n == 0) = false := by simpa using ((right_of i n).1 hr).2
    obtain ⟨r0, r1, r2⟩ := hr
    have cC := countR_int b 0 u w h.used i n r0 (by omega) (by omega)
    by_cases hz : cnt u i.toNat n.toNat = n.toNat
    · have e : giveS u g i n x = (0, clrF u i.toNat n.toNat, if x then setF g i.toNat n.toNat else g) := by
        unfold giveS; rw [if_pos ⟨r0, r1, r2⟩, if_pos hz]
      have hfull := cnt_full.1 hz
      rw [e]
      rw [hz, show ((n.toNat : Nat) : Int) = n by omega] at cC
      have R := hide ((show 0 ≤ i ∧ 0 ≤ n ∧ i + n ≤ 512 by omega))
      have FF := hide (show ∀ k, k < 512 → (if x then setF g i.toNat n.toNat else clrF g i.toNat n.toNat) k = (if x then setF g i.toNat n.toNat else g) k from fun k hk => by
        cases x
        · show clrF g _ _ k = g k
          unfold clrF
          by_cases e : i.toNat ≤ k ∧ k < i.toNat + n.toNat
          · have := hfull (k - i.toNat) (by omega)
            rw [show i.toNat + (k - i.toNat) = k by omega] at this
            rw [ha k hk this]; rfl
          · rw [decide_eq_false e]; simp
        · rfl)
      obtain ⟨G', hG'⟩ : ∃ G', G' = (if x then setF g i.toNat n.toNat else g) := ⟨_, rfl⟩
      rw [← hG'] at FF ⊢
      clear e hz h hfull ha hG'
      go_enter Tryd.func27, Tryd.ntmps27
      go_wp2_with fail
      go_at_call 43
      refine cR.mono ?_
      rintro e w' ⟨rfl, hw'⟩; rw [hw']; clear hw' w'
      go_wp2_with fail
      go_at_call 44
      refine cC.mono ?_
      rintro e w' ⟨rfl, hw'⟩; rw [hw']; clear hw' w'
      go_wp2_with fail
      go_at_call 25
      refine (put_int b 0 u false w HC.out.used i n R.out.1 R.out.2.1 R.out.2.2).mono ?_
      rintro e w3 ⟨rfl, r3, k3⟩
      have HC3 := hide (HC.out.setU k3 r3)
      have K3 := hide k3.kept
      clear r3 k3
      go_wp2_with fail
      go_at_call 25
      refine (put_int b 512 g x w3 HC3.out.gone i n R.out.1 R.out.2.1 R.out.2.2).mono ?_
      rintro e w4 ⟨rfl, r4, k4⟩
      have HC4 := hide (HC3.out.setG k4 (r4.congr FF.out))
      have K4 := hide (K3.out.trans k4.kept (fun _ _ f => f))
      clear r4 k4
      go_wp2_with fail
      go_ret
      exact ⟨rfl, HC4.out, K4.out⟩
    · have e : giveS u g i n x = (31, u, g) := by unfold giveS; rw [if_pos ⟨r0, r1, r2⟩, if_neg hz]
      rw [e]
      obtain ⟨C, hC⟩ : ∃ C : Int, ((cnt u i.toNat n.toNat : Nat) : Int) = C := ⟨_, rfl⟩
      have hC0 : C < n := by have := cnt_le u i.toNat n.toNat; omega
      rw [hC] at cC
      clear e hz hC h ha
      go_enter Tryd.func27, Tryd.ntmps27
      go_wp2_with fail
      go_at_call 43
      refine cR.mono ?_
      rintro e w' ⟨rfl, hw'⟩; rw [hw']; clear hw' w'
      go_wp2_with fail
      go_at_call 44
      refine cC.mono ?_
      rintro e w' ⟨rfl, hw'⟩; rw [hw']; clear hw' w'
      go_wp2_with fail
      go_ret
      exact ⟨rfl, HC.out, Kept.refl _ _⟩
  · have e : giveS u g i n x = (1, u, g) := by unfold giveS; rw [if_neg hr]
    rw [e]
    by_cases hr2 : Right i n
    · have cR := (rightRef_any i n hi0 w).1 hr2
      have hn : n = 0 := by
        by_cases z : n = 0
        · exact z
        · exact absurd ((right_of i n).2 ⟨hr2, z⟩) hr
      subst hn
      clear e hr h hr2 ha
      go_enter Tryd.func27, Tryd.ntmps27
      go_wp2_with fail
      go_at_call 43
      refine cR.mono ?_
      rintro e w' ⟨rfl, hw'⟩; rw [hw']; clear hw' w'
      go_wp2_with fail
      go_ret
      exact ⟨rfl, HC.out, Kept.refl _ _⟩
    · have cR := (rightRef_any i n hi0 w).2 hr2
      clear e hr h hr2 ha
      go_enter Tryd.func27, Tryd.ntmps27
      go_wp2_with fail
      go_at_call 43
      refine cR.mono ?_
      rintro e w' ⟨rfl, hw'⟩; rw [hw']; clear hw' w'
      go_wp2_with fail
      go_ret
      exact ⟨rfl, HC.out, Kept.refl _ _⟩
theorem freeR_any (b : Nat) (u g : Nat → Bool) (w : World) (h : RcF w b u g) :
    Calls Tryd.prog 32 #[.pointer (some ⟨b, 0, none⟩)] w fun e w' => e = .returned (.int .i64 (512 - (cnt u 0 512 : Nat))) ∧ w' = w := by
  have cC := countR_int b 0 u w h.used 0 512 (by omega) (by omega) (by omega)
  have hl := cnt_le u 0 512
  obtain ⟨C, hC⟩ : ∃ C : Int, ((cnt u 0 512 : Nat) : Int) = C := ⟨_, rfl⟩
  rw [show ((0 : Int).toNat) = 0 from rfl, show ((512 : Int).toNat) = 512 from rfl] at cC
  rw [hC] at cC ⊢
  have c0 : 0 ≤ C := by omega
  have c1 : C ≤ 512 := by omega
  clear hC hl h
  go_enter Tryd.func32, Tryd.ntmps32
  go_wp2_with fail
  go_at_call 44
  refine cC.mono ?_
  rintro e w' ⟨rfl, hw'⟩; rw [hw']; clear hw' w'
  go_wp2_with fail
  go_ret
  exact ⟨rfl, rfl⟩
theorem releasedR_any (b : Nat) (u g : Nat → Bool) (w : World) (h : RcF w b u g) :
    Calls Tryd.prog 33 #[.pointer (some ⟨b, 0, none⟩)] w fun e w' => e = .returned (.int .i64 (cnt g 0 512 : Nat)) ∧ w' = w := by
  have cC := countR_int b 512 g w h.gone 0 512 (by omega) (by omega) (by omega)
  rw [show ((0 : Int).toNat) = 0 from rfl, show ((512 : Int).toNat) = 512 from rfl] at cC
  clear h
  go_enter Tryd.func33, Tryd.ntmps33
  go_wp2_with fail
  go_at_call 44
  refine cC.mono ?_
  rintro e w' ⟨rfl, hw'⟩; rw [hw']; clear hw' w'
  go_wp2_with fail
  go_ret
  exact ⟨rfl, rfl⟩

/-! ### New, Scavenge -/
def zs512 : Array Value := Array.replicate 512 (.bool false)
theorem zs_run (w : World) : (zeroValue 61).run Tryd.prog w = .ok (.agg zs512) w := by kernel_rfl
theorem zs_size : zs512.size = 512 := by kernel_rfl
theorem zs_ne : zs512 ≠ #[] := fun h => by have := congrArg Array.size h; rw [zs_size] at this; cases this
def zs1024 : Array Value := Array.replicate 1024 (.bool false)
theorem zt_run (w : World) : (zeroValue 63).run Tryd.prog w = .ok (.agg zs1024) w := by kernel_rfl
theorem zt_size : zs1024.size = 1024 := by kernel_rfl
theorem zt_ne : zs1024 ≠ #[] := fun h => by have := congrArg Array.size h; rw [zt_size] at this; cases this
theorem bool_of {w : World} {b ro : Nat} {t : TypeId} {cs : Array Value} {f : Nat → Bool} (h : w.heap[b]? = some (.cells cs t (0, 0))) (hc : ∀ k, k < 512 → cs[ro + k]? = some (.bool (f k))) : BoolAt w b ro f :=
  ⟨fun k hk => by simp [World.cell?, h, hc k hk], fun k hk => by simp [World.frozen?, h]⟩
set_option maxRecDepth 100000 in
set_option maxHeartbeats 4000000 in
theorem newR_any (w : World) : Calls Tryd.prog 9 #[] w fun e w' => e = .returned (.pointer (some ⟨w.heap.size, 0, none⟩)) ∧ RcF w' w.heap.size (fun _ => false) (setF (fun _ => false) 0 512) ∧ Below w.heap.size w w' := by
  obtain ⟨N, hN⟩ : ∃ N, w.heap.size = N := ⟨_, rfl⟩
  obtain ⟨w0, hw0⟩ : ∃ w0, w0 = w.alloc (.cells zs1024 63) := ⟨_, rfl⟩
  have k0 : Below N w w0 := by rw [hw0, ← hN]; exact (Below.refl _ w).alloc (Nat.le_refl _) _
  have hz : w0.heap[N]? = some (.cells zs1024 63 (0, 0)) := by rw [hw0, ← hN, alloc_at, if_pos rfl]
  have h0 : RcF w0 N (fun _ => false) (fun _ => false) := ⟨bool_of hz (fun k hk => by unfold zs1024; rw [Array.getElem?_replicate, if_pos (by omega)]), bool_of hz (fun k hk => by unfold zs1024; rw [Array.getElem?_replicate, if_pos (by omega)])⟩
  have H0 := hide h0
  have K0 := hide k0
  have W0 := hide hw0
  rw [hN]
  clear hw0 k0 hz h0
  have zr := zt_run
  have zz := zt_size
  have zn := zt_ne
  go_enter Tryd.func9, Tryd.ntmps9
  go_wp2_with fail
  go_at_call 25
  rw [← W0.out]
  clear W0 zr zz zn
  refine (put_int N 512 (fun _ => false) true w0 H0.out.gone 0 512 (by omega) (by omega) (by omega)).mono ?_
  rintro e w1 ⟨rfl, r1, k1⟩
  have HC := hide (H0.out.setG k1 r1)
  have KK := hide (K0.out.trans (k1.kept.below (by have := K0.out.size; omega) (fun x hx => by omega)))
  clear r1 k1
  go_wp2_with fail
  go_ret
  exact ⟨rfl, HC.out, KK.out⟩
set_option maxRecDepth 100000 in
set_option maxHeartbeats 4000000 in
theorem scavR_any (b : Nat) (u g : Nat → Bool) (w : World) (h : RcF w b u g) (most : Int) (hm : most ≤ 9223372036854775807) :
    Calls Tryd.prog 29 #[.pointer (some ⟨b, 0, none⟩), .int .i64 most] w fun e w' =>
      ∃ i k, e = .returned (.tuple #[.int .i64 i, .int .i64 k]) ∧ LastP (busy u g) most 512 i k ∧ RcF w' b u (setF g i.toNat k.toNat) ∧ Kept (fun x => x = b) w w' := by
  have hb := h.lt
  obtain ⟨w0, hw0⟩ : ∃ w0, w0 = w.alloc (.cells zs512 61) := ⟨_, rfl⟩
  have k0 : Below w.heap.size w w0 := by rw [hw0]; exact (Below.refl _ w).alloc (Nat.le_refl _) _
  have hz : w0.heap[w.heap.size]? = some (.cells zs512 61 (0, 0)) := by rw [hw0, alloc_at, if_pos rfl]
  have z0 : BoolAt w0 w.heap.size 0 (fun _ => false) := bool_of hz (fun k hk => by unfold zs512; rw [Array.getElem?_replicate, if_pos (by omega)])
  have HC := hide (h.below k0)
  have Z0 := hide z0
  have K0 := hide k0
  have W0 := hide hw0
  clear hw0 k0 hz z0 h
  have zr := zs_run
  have zz := zs_size
  have zn := zs_ne
  go_enter Tryd.func29, Tryd.ntmps29
  go_wp2_with fail
  rw [← W0.out]
  obtain ⟨N, hN⟩ : ∃ N, w.heap.size = N := ⟨_, rfl⟩
  simp only [hN] at Z0 hb ⊢
  have HN := hide hN
  clear hN W0 zr zz zn
  go_loopw [7] (fun v wr => ∃ I : Int, v = .int .i64 I ∧ 0 ≤ I ∧ I ≤ 512 ∧ Hid (BoolAt wr N 0 (fun j => decide (j < I.toNat) && busy u g j) ∧ RcF wr b u g ∧ Below w.heap.size w wr)) (fun v _ => (512 - intOf v).toNat)
  case atStart => exact ⟨0, rfl, by omega, by omega, hide ⟨Z0.out.congr (fun k hk => by simp), HC.out, K0.out⟩⟩
  case round =>
    obtain ⟨I, rfl, I0, I1, HS⟩ := hrel
    by_cases hlt : I < 512
    · have c1 := HS.out.1.cell I.toNat (by omega)
      have f1 := HS.out.1.fz I.toNat (by omega)
      have c2 := HS.out.2.1.used.cell I.toNat (by omega)
      have c3 := HS.out.2.1.gone.cell I.toNat (by omega)
      rw [Nat.zero_add] at c1 f1 c2
      have fin : ∀ (x : Bool) W, x = busy u g I.toNat → W = wr.setCell ⟨N, I.toNat, none⟩ (.bool x) → Hid (BoolAt W N 0 (fun j => decide (j < (I + 1).toNat) && busy u g j) ∧ RcF W b u g ∧ Below w.heap.size w W) := fun x W hx hW => by
        have s1 := HS.out.1.set I.toNat (by omega) x
        rw [Nat.zero_add, ← hW] at s1
        have k1 : Kept (fun x => x = N) wr W := by rw [hW]; exact kept_set wr N I.toNat _ rfl
        refine hide ⟨s1.congr (fun j hj => ?_), HS.out.2.1.kept k1 (by omega), below_kept HS.out.2.2 k1 (fun x hx => by have := HN.out; omega) HS.out.2.2.size⟩
        by_cases e : j = I.toNat
        · rw [if_pos e, decide_eq_true (by omega), hx, e]; rfl
        · rw [if_neg e]
          congr 1
          rw [Bool.eq_iff_iff]; simp only [decide_eq_true_eq]; omega
      have FIN := hide fin
      clear fin
      cases hu : u I.toNat with
      | true =>
        rw [hu] at c2
        have hB := hide (show true = busy u g I.toNat by unfold busy; rw [hu]; rfl)
        clear hu
        go_wp2_with fail
        refine ⟨⟨I + 1, rfl, by omega, by omega, FIN.out true _ hB.out rfl⟩, ?_⟩
        simp [intOf]; omega
      | false =>
        rw [hu] at c2
        have hB := hide (show g I.toNat = busy u g I.toNat by unfold busy; rw [hu]; rfl)
        clear hu
        go_wp2_with fail
        refine ⟨⟨I + 1, rfl, by omega, by omega, FIN.out (g I.toNat) _ hB.out rfl⟩, ?_⟩
        simp [intOf]; omega
    · have hge : 512 ≤ I := by omega
      have HB := hide (HS.out.1.congr (f' := busy u g) (fun j hj => by rw [decide_eq_true (by omega)]; rfl))
      have H1 := hide HS.out.2.1
      have H2 := hide HS.out.2.2
      clear hlt HS
      go_wp2_with fail
      go_at_call 45
      refine (lastRef_any N 0 (busy u g) wr HB.out most 512 hm).mono ?_
      rintro e w' ⟨i, k, rfl, p3, hw'⟩; rw [hw']; clear hw' w'
      have P3 := hide p3
      obtain ⟨i0, i1, i2⟩ := last_bounds p3
      have R := hide (And.intro i0 (And.intro i1 i2))
      clear p3 i0 i1 i2
      go_wp2_with fail
      go_at_call 25
      refine (put_int b 512 g true wr H1.out.gone i k R.out.1 R.out.2.1 R.out.2.2).mono ?_
      rintro e w4 ⟨rfl, r4, k4⟩
      have HC4 := hide (H1.out.setG k4 r4)
      have K4 := hide ((Kept.of_below (F := fun x => x = b) H2.out).trans k4.kept (fun _ _ f => f))
      clear r4 k4
      go_wp2_with fail
      go_ret2
      exact ⟨i, k, rfl, P3.out, HC4.out, K4.out⟩
end Go.Proofs.YtgjgcdbhppaigaaDoor
