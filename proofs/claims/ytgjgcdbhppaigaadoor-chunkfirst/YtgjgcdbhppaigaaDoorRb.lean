/- The reference's row of truths: how it lies; Put, Count, Find, Last, Sum: contracts. -/
import Derived.Test.YtgjgcdbhppaigaaDoorSu
import Derived.Deep.MidRow
namespace Go.Proofs.YtgjgcdbhppaigaaDoor
open Go.ChangeShapes Go.WideShapes Go.ChangeAt Go.RowKit Go.Proofs.Bt Go.Shelf
set_option linter.unusedVariables false
set_option linter.unusedSimpArgs false

/-- 512 truths that lie from cell ro of a block on, and may be written. -/
structure BoolAt (w : World) (b ro : Nat) (f : Nat → Bool) : Prop where
  cell : ∀ k, k < 512 → w.cell? ⟨b, ro + k, none⟩ = some (.bool (f k))
  fz : ∀ k, k < 512 → w.frozen? ⟨b, ro + k, none⟩ = false
theorem BoolAt.lt {w : World} {b ro : Nat} {f : Nat → Bool} (h : BoolAt w b ro f) : b < w.heap.size := World.block_lt_of_cell? w ⟨b, ro + 0, none⟩ (h.cell 0 (by omega))
theorem BoolAt.block {w w' : World} {b ro : Nat} {f : Nat → Bool} (h : BoolAt w b ro f) (e : w'.heap[b]? = w.heap[b]?) : BoolAt w' b ro f := ⟨fun k hk => (cell_block e _).trans (h.cell k hk), fun k hk => (fz_block e).trans (h.fz k hk)⟩
theorem BoolAt.kept {F : Nat → Prop} {w w' : World} {b ro : Nat} {f : Nat → Bool} (h : BoolAt w b ro f) (k : Kept F w w') (hF : ¬ F b) : BoolAt w' b ro f := h.block (k.block b h.lt hF)
theorem BoolAt.below {w w' : World} {b ro : Nat} {f : Nat → Bool} (h : BoolAt w b ro f) (k : Below w.heap.size w w') : BoolAt w' b ro f := h.block (k.block b h.lt)
theorem BoolAt.other {w w' : World} {b ro r2 n : Nat} {f : Nat → Bool} (h : BoolAt w b ro f) (k : Only b r2 n w w') (hr : ro + 512 ≤ r2 ∨ r2 + n ≤ ro) : BoolAt w' b ro f :=
  ⟨fun j hj => (k.cell _ (by omega)).trans (h.cell j hj), fun j hj => (k.fz _).trans (h.fz j hj)⟩
theorem BoolAt.set {w : World} {b ro : Nat} {f : Nat → Bool} (h : BoolAt w b ro f) (k : Nat) (hk : k < 512) (x : Bool) : BoolAt (w.setCell ⟨b, ro + k, none⟩ (.bool x)) b ro (fun j => if j = k then x else f j) := by
  refine ⟨fun j hj => ?_, fun j hj => by rw [World.frozen?_setCell]; exact h.fz j hj⟩
  by_cases e : j = k
  · subst e; rw [if_pos rfl]; exact World.cell?_setCell_same _ _ _ (h.cell j hj)
  · rw [if_neg e, World.cell?_setCell_other _ _ _ _ (by intro z; have := congrArg Addr.off z; simp at this; omega)]; exact h.cell j hj
theorem BoolAt.congr {w : World} {b ro : Nat} {f f' : Nat → Bool} (h : BoolAt w b ro f) (e : ∀ k, k < 512 → f k = f' k) : BoolAt w b ro f' := ⟨fun k hk => by rw [← e k hk]; exact h.cell k hk, h.fz⟩
/-- What Put makes of a row. -/
def putF (f : Nat → Bool) (i n : Nat) (x : Bool) (j : Nat) : Bool := if i ≤ j ∧ j < i + n then x else f j

set_option maxRecDepth 100000 in
set_option maxHeartbeats 1000000 in
theorem put_core (b ro : Nat) (f : Nat → Bool) (x : Bool) (w : World) (h : BoolAt w b ro f) (i n : Nat) (hin : i + n ≤ 512) :
    Calls Tryd.prog 25 #[.pointer (some ⟨b, ro, none⟩), .int .i64 (i : Nat), .int .i64 (n : Nat), .bool x] w fun e w' => e = .returned (.int .i64 0) ∧ BoolAt w' b ro (putF f i n x) ∧ Only b ro 512 w w' := by
  have cR := (rightRef_any (i : Int) (n : Int) (by omega) w).1 ⟨by omega, by omega, by omega, by omega⟩
  obtain ⟨I, hI⟩ : ∃ I : Int, (i : Int) = I := ⟨_, rfl⟩
  obtain ⟨M, hM⟩ : ∃ M : Int, (n : Int) = M := ⟨_, rfl⟩
  rw [hI, hM] at cR ⊢
  have b1 : 0 ≤ I := by omega
  have b2 : 0 ≤ M := by omega
  have b3 : I + M ≤ 512 := by omega
  have HH := hide h
  have HI := hide hI
  have HM := hide hM
  clear h hI hM
  go_enter Tryd.func25, Tryd.ntmps25
  go_wp2_with fail
  go_at_call 43
  refine cR.mono ?_
  rintro e w' ⟨rfl, hw'⟩; rw [hw']; clear hw' w'
  go_wp2_with fail
  go_loopw [9] (fun v wr => ∃ k : Int, v = .int .i64 k ∧ I ≤ k ∧ k ≤ I + M ∧ Hid (BoolAt wr b ro (putF f i (k - I).toNat x) ∧ Only b ro 512 w wr)) (fun v _ => (I + M - intOf v).toNat)
  case atStart => exact ⟨I, rfl, by omega, by omega, hide ⟨HH.out.congr (fun k hk => by unfold putF; rw [if_neg (by omega)]), Only.refl _ _ _ _⟩⟩
  case round =>
    obtain ⟨k, rfl, k1, k2, HR⟩ := hrel
    by_cases hlt : k < I + M
    · have c1 := HR.out.1.cell k.toNat (by omega)
      have f1 := HR.out.1.fz k.toNat (by omega)
      go_wp2_with fail
      refine ⟨⟨k + 1, rfl, by omega, by omega, hide ⟨?_, HR.out.2.trans (only_set wr (ro + k.toNat) _ (by omega) (by omega))⟩⟩, ?_⟩
      · refine (HR.out.1.set k.toNat (by omega) x).congr (fun j hj => ?_)
        have := HI.out
        unfold putF
        by_cases e : j = k.toNat
        · rw [if_pos e, if_pos (by omega)]
        · rw [if_neg e]
          by_cases l : i ≤ j ∧ j < i + (k - I).toNat
          · rw [if_pos l, if_pos (by omega)]
          · rw [if_neg l, if_neg (by omega)]
      · simp [intOf]; omega
    · have hge : I + M ≤ k := by omega
      have hke : k = I + M := by omega
      clear hlt
      have H2 := HR.out
      rw [hke, show (I + M - I).toNat = n by have := HM.out; omega] at H2
      have H2 := hide H2
      clear hke HR
      go_wp2_with fail
      go_ret
      exact ⟨rfl, H2.out⟩
theorem put_bad (b ro : Nat) (x : Bool) (i n : Int) (hi : -9223372036854775808 ≤ i) (h : ¬ Right i n) (w : World) :
    Calls Tryd.prog 25 #[.pointer (some ⟨b, ro, none⟩), .int .i64 i, .int .i64 n, .bool x] w fun e w' => e = .returned (.int .i64 1) ∧ w' = w := by
  have cR := (rightRef_any i n hi w).2 h
  have H := hide h
  clear h
  go_enter Tryd.func25, Tryd.ntmps25
  go_wp2_with fail
  go_at_call 43
  refine cR.mono ?_
  rintro e w' ⟨rfl, hw'⟩; rw [hw']; clear hw' w'
  go_wp2
  go_ret
  exact ⟨rfl, rfl⟩

set_option maxRecDepth 100000 in
set_option maxHeartbeats 1000000 in
theorem countRef_core (b ro : Nat) (f : Nat → Bool) (w : World) (h : BoolAt w b ro f) (i n : Nat) (hin : i + n ≤ 512) :
    Calls Tryd.prog 44 #[.pointer (some ⟨b, ro, none⟩), .int .i64 (i : Nat), .int .i64 (n : Nat)] w fun e w' => e = .returned (.int .i64 (cnt f i n : Nat)) ∧ w' = w := by
  have cR := (rightRef_any (i : Int) (n : Int) (by omega) w).1 ⟨by omega, by omega, by omega, by omega⟩
  obtain ⟨I, hI⟩ : ∃ I : Int, (i : Int) = I := ⟨_, rfl⟩
  obtain ⟨M, hM⟩ : ∃ M : Int, (n : Int) = M := ⟨_, rfl⟩
  rw [hI, hM] at cR ⊢
  have b1 : 0 ≤ I := by omega
  have b2 : 0 ≤ M := by omega
  have b3 : I + M ≤ 512 := by omega
  have HH := hide h
  have HI := hide hI
  have HM := hide hM
  clear h hI hM
  go_enter Tryd.func44, Tryd.ntmps44
  go_wp2_with fail
  go_at_call 43
  refine cR.mono ?_
  rintro e w' ⟨rfl, hw'⟩; rw [hw']; clear hw' w'
  go_wp2_with fail
  go_loop [7, 8] (fun c v => ∃ k C : Int, v = .int .i64 k ∧ c = .int .i64 C ∧ I ≤ k ∧ k ≤ I + M ∧ 0 ≤ C ∧ C ≤ 512 ∧ Hid (C = (cnt f i (k - I).toNat : Nat))) (fun _ v => (I + M - intOf v).toNat)
  case atStart => exact ⟨I, 0, rfl, rfl, by omega, by omega, by omega, by omega, hide (by rw [show (I - I).toNat = 0 by omega]; rfl)⟩
  case round =>
    obtain ⟨k, C, rfl, rfl, k1, k2, C0, C1, HC⟩ := hrel
    by_cases hlt : k < I + M
    · have c1 := HH.out.cell k.toNat (by omega)
      have hc : ∀ x, f k.toNat = x → (cnt f i (k + 1 - I).toNat : Int) = C + x.toNat := fun x hx => by
        have := HI.out
        rw [show (k + 1 - I).toNat = (k - I).toNat + 1 by omega, cnt, show i + (k - I).toNat = k.toNat by omega, hx, Int.natCast_add, HC.out]
      have hC2 : C < 512 := by
        have h1 := cnt_le f i (k - I).toNat
        have h2 := HC.out
        omega
      cases hx : f k.toNat with
      | true =>
        have HCC := hide (hc true hx)
        rw [hx] at c1
        clear hc hx
        go_wp2_with fail
        refine ⟨⟨k + 1, C + 1, rfl, rfl, by omega, by omega, by omega, by omega, hide (by rw [HCC.out]; rfl)⟩, ?_⟩
        simp [intOf]; omega
      | false =>
        have HCC := hide (hc false hx)
        rw [hx] at c1
        clear hc hx
        go_wp2_with fail
        refine ⟨⟨k + 1, C, rfl, rfl, by omega, by omega, by omega, by omega, hide (by rw [HCC.out]; simp)⟩, ?_⟩
        simp [intOf]; omega
    · have hge : I + M ≤ k := by omega
      have hke : k = I + M := by omega
      clear hlt
      have H2 := HC.out
      rw [hke, show (I + M - I).toNat = n by have := HM.out; omega] at H2
      have H2 := hide H2
      clear hke HC
      go_wp2_with fail
      go_ret
      exact ⟨by rw [← H2.out]; rfl, rfl⟩
theorem countRef_bad (b ro : Nat) (i n : Int) (hi : -9223372036854775808 ≤ i) (h : ¬ Right i n) (w : World) :
    Calls Tryd.prog 44 #[.pointer (some ⟨b, ro, none⟩), .int .i64 i, .int .i64 n] w fun e w' => e = .returned (.int .i64 0) ∧ w' = w := by
  have cR := (rightRef_any i n hi w).2 h
  have H := hide h
  clear h
  go_enter Tryd.func44, Tryd.ntmps44
  go_wp2_with fail
  go_at_call 43
  refine cR.mono ?_
  rintro e w' ⟨rfl, hw'⟩; rw [hw']; clear hw' w'
  go_wp2
  go_ret
  exact ⟨rfl, rfl⟩
end Go.Proofs.YtgjgcdbhppaigaaDoor
