/- J06 of the proof of both laws: texts Cc, Rb, Rf, one behind the other. -/
import Derived.Test.YtnclicdnncgdiaaGreatDoorJ05
import Derived.Deep.MidRow
/- The landed chunk: Scavenge: its contract. -/
namespace Go.Proofs.YtnclicdnncgdiaaGreatDoor
open Go.ChangeShapes Go.WideShapes Go.ChangeAt Go.RowKit Go.Proofs.Bt Go.Shelf
set_option linter.unusedVariables false
set_option linter.unusedSimpArgs false

theorem last_bounds {f : Nat → Bool} {n to i k : Int} (h : LastP f n to i k) : 0 ≤ i ∧ 0 ≤ k ∧ i + k ≤ 512 := by
  rcases h with ⟨rfl, rfl, h1⟩ | ⟨h1, a, m, rfl, rfl, h2, h3, h4, h5, h6, h7⟩
  · omega
  · omega
/-- The pages that are used or released. -/
def busy (u g : Nat → Bool) (j : Nat) : Bool := u j || g j
/-- What Scavenge answers and leaves. -/
def ScavR (w : World) (b : Nat) (u g : Nat → Bool) (most : Int) (e : Ending) (w' : World) : Prop :=
  ∃ i k, e = .returned (.tuple #[.int .i64 i, .int .i64 k]) ∧ LastP (busy u g) most 512 i k ∧ ChF w' b u (setF g i.toNat k.toNat) ∧ Kept (fun x => x = b) w w'
set_option maxRecDepth 100000 in
theorem scav_any (b : Nat) (u g : Nat → Bool) (w : World) (h : ChF w b u g) (ht : TabW w) (hb0 : b ≠ 0) (most : Int) (hm : most ≤ 9223372036854775807) :
    Calls Tryz.prog 61 #[.pointer (some ⟨b, 0, none⟩), .int .i64 most] w (ScavR w b u g most) := by
  have cI := idle_any b u g w h
  have HC := hide h
  have HT := hide ht
  clear h ht
  go_enter Tryz.func61, Tryz.ntmps61
  go_wp2_with fail
  go_at_call 87
  refine cI.mono ?_
  rintro e w1 ⟨gi, rfl, fi, bi, k1⟩
  have FI := hide fi
  have BI := hide bi
  have K1 := hide k1
  have HC1 := hide (HC.out.below k1)
  have HT1 := hide (HT.out.below k1)
  clear fi bi k1
  unfold words cells8
  go_wp2_with fail
  go_at_call 88
  obtain ⟨w2, hw2⟩ : ∃ w2, w2 = w1.alloc (.cells (cells8 gi) 114) := ⟨_, rfl⟩
  have k2 : Below w1.heap.size w1 w2 := by rw [hw2]; exact (Below.refl _ w1).alloc (Nat.le_refl _) _
  have z2 : w2.heap[w1.heap.size]? = some (.cells (cells8 gi) 114 (0, 0)) := by rw [hw2, alloc_at, if_pos rfl]
  have r2 : RowF w2 w1.heap.size 0 (busy u g) := ⟨gi, new8 z2 FI.out, BI.out⟩
  have HC2 := hide (HC1.out.below k2)
  have HT2 := hide (HT1.out.below k2)
  have K2 := hide (K1.out.trans (k2.mono K1.out.size))
  have L := last_any w1.heap.size 0 (busy u g) most 512 hm w2 r2 HT2.out
  unfold cells8 at hw2
  rw [← hw2]
  clear k2 z2 r2 hw2
  refine L.mono ?_
  rintro e w3 ⟨i, k, rfl, p3, k3⟩
  have P3 := hide p3
  have HC3 := hide (HC2.out.below k3)
  have K3 := hide (K2.out.trans (k3.mono K2.out.size))
  obtain ⟨i0, i1, i2⟩ := last_bounds p3
  have R := hide (And.intro i0 (And.intro i1 i2))
  clear p3 k3 L i0 i1 i2
  go_wp2_with fail
  go_at_call 89
  refine (set_int b 8 g w3 HC3.out.gone i k R.out.1 R.out.2.1 R.out.2.2).mono ?_
  rintro e w4 ⟨rfl, r4, k4⟩
  have HC4 := hide (HC3.out.setG k4 r4)
  have K4 := hide ((Kept.of_below (F := fun x => x = b) K3.out).trans k4.kept (fun _ _ f => f))
  clear r4 k4
  go_wp2_with fail
  go_ret2
  exact ⟨i, k, rfl, P3.out, HC4.out, K4.out⟩
end Go.Proofs.YtnclicdnncgdiaaGreatDoor

/- The reference's row of truths: how it lies; Put, Count, Find, Last, Sum: contracts. -/
namespace Go.Proofs.YtnclicdnncgdiaaGreatDoor
open Go.ChangeShapes Go.WideShapes Go.ChangeAt Go.RowKit Go.Proofs.Bt Go.Shelf
set_option linter.unusedVariables false
set_option linter.unusedSimpArgs false

/-- 512 truths that lie from cell ro of a block on, and may be written. -/
structure BoolAt (w : World) (b ro : Nat) (f : Nat → Bool) : Prop where
  cell : ∀ k, k < 512 → w.cell? ⟨b, ro + k, none⟩ = some (.bool (f k))
  fz : ∀ k, k < 512 → w.frozen? ⟨b, ro + k, none⟩ = false
theorem BoolAt.lt {w : World} {b ro : Nat} {f : Nat → Bool} (h : BoolAt w b ro f) : b < w.heap.size := World.block_lt_of_cell? w ⟨b, ro + 0, none⟩ (h.cell 0 (by omega))
theorem BoolAt.block {w w' : World} {b ro : Nat} {f : Nat → Bool} (h : BoolAt w b ro f) (e : w'.heap[b]? = w.heap[b]?) : BoolAt w' b ro f := ⟨fun k hk => (cell_block e _).trans (h.cell k hk), fun k hk => (fz_block e).trans (h.fz k hk)⟩
theorem BoolAt.kept {F : Nat → Prop} {w w' : World} {b ro : Nat} {f : Nat → Bool} (h : BoolAt w b ro f) (k : Kept F w w') (hF : ¬ F b) : BoolAt w' b ro f := h.block (k.block b h.lt hF)
theorem BoolAt.below {w w' : World} {b ro : Nat} {f : Nat → Bool} (h : BoolAt w b ro f) (k : Below w.heap.size w w') : BoolAt w' b ro f := h.block (k.block b h.lt)
theorem BoolAt.other {w w' : World} {b ro r2 n : Nat} {f : Nat → Bool} (h : BoolAt w b ro f) (k : Only b r2 n w w') (hr : ro + 512 ≤ r2 ∨ r2 + n ≤ ro) : BoolAt w' b ro f :=
  ⟨fun j hj => (k.cell _ (by omega)).trans (h.cell j hj), fun j hj => (k.fz _).trans (h.fz j hj)⟩
theorem BoolAt.set {w : World} {b ro : Nat} {f : Nat → Bool} (h : BoolAt w b ro f) (k : Nat) (hk : k < 512) (x : Bool) : BoolAt (w.setCell ⟨b, ro + k, none⟩ (.bool x)) b ro (fun j => if j = k then x else f j) := by
  refine ⟨fun j hj => ?_, fun j hj => by rw [World.frozen?_setCell]; exact h.fz j hj⟩
  by_cases e : j = k
  · subst e; rw [if_pos rfl]; exact World.cell?_setCell_same _ _ _ (h.cell j hj)
  · rw [if_neg e, World.cell?_setCell_other _ _ _ _ (by intro z; have := congrArg Addr.off z; simp at this; omega)]; exact h.cell j hj
theorem BoolAt.congr {w : World} {b ro : Nat} {f f' : Nat → Bool} (h : BoolAt w b ro f) (e : ∀ k, k < 512 → f k = f' k) : BoolAt w b ro f' := ⟨fun k hk => by rw [← e k hk]; exact h.cell k hk, h.fz⟩
/-- What Put makes of a row. -/
def putF (f : Nat → Bool) (i n : Nat) (x : Bool) (j : Nat) : Bool := if i ≤ j ∧ j < i + n then x else f j

set_option maxRecDepth 100000 in
set_option maxHeartbeats 1000000 in
theorem put_core (b ro : Nat) (f : Nat → Bool) (x : Bool) (w : World) (h : BoolAt w b ro f) (i n : Nat) (hin : i + n ≤ 512) :
    Calls Tryz.prog 43 #[.pointer (some ⟨b, ro, none⟩), .int .i64 (i : Nat), .int .i64 (n : Nat), .bool x] w fun e w' => e = .returned (.int .i64 0) ∧ BoolAt w' b ro (putF f i n x) ∧ Only b ro 512 w w' := by
  have cR := (rightRef_any (i : Int) (n : Int) (by omega) w).1 ⟨by omega, by omega, by omega, by omega⟩
  obtain ⟨I, hI⟩ : ∃ I : Int, (i : Int) = I := ⟨_, rfl⟩
  obtain ⟨M, hM⟩ : ∃ M : Int, (n : Int) = M := ⟨_, rfl⟩
  rw [hI, hM] at cR ⊢
  have b1 : 0 ≤ I := by omega
  have b2 : 0 ≤ M := by omega
  have b3 : I + M ≤ 512 := by omega
  have HH := hide h
  have HI := hide hI
  have HM := hide hM
  clear h hI hM
  go_enter Tryz.func43, Tryz.ntmps43
  go_wp2_with fail
  go_at_call 79
  refine cR.mono ?_
  rintro e w' ⟨rfl, hw'⟩; rw [hw']; clear hw' w'
  go_wp2_with fail
  go_loopw [9] (fun v wr => ∃ k : Int, v = .int .i64 k ∧ I ≤ k ∧ k ≤ I + M ∧ Hid (BoolAt wr b ro (putF f i (k - I).toNat x) ∧ Only b ro 512 w wr)) (fun v _ => (I + M - intOf v).toNat)
  case atStart => exact ⟨I, rfl, by omega, by omega, hide ⟨HH.out.congr (fun k hk => by unfold putF; rw [if_neg (by omega)]), Only.refl _ _ _ _⟩⟩
  case round =>
    obtain ⟨k, rfl, k1, k2, HR⟩ := hrel
    by_cases hlt : k < I + M
    · have c1 := HR.out.1.cell k.toNat (by omega)
      have f1 := HR.out.1.fz k.toNat (by omega)
      go_wp2_with fail
      refine ⟨⟨k + 1, rfl, by omega, by omega, hide ⟨?_, HR.out.2.trans (only_set wr (ro + k.toNat) _ (by omega) (by omega))⟩⟩, ?_⟩
      · refine (HR.out.1.set k.toNat (by omega) x).congr (fun j hj => ?_)
        have := HI.out
        unfold putF
        by_cases e : j = k.toNat
        · rw [if_pos e, if_pos (by omega)]
        · rw [if_neg e]
          by_cases l : i ≤ j ∧ j < i + (k - I).toNat
          · rw [if_pos l, if_pos (by omega)]
          · rw [if_neg l, if_neg (by omega)]
      · simp [intOf]; omega
    · have hge : I + M ≤ k := by omega
      have hke : k = I + M := by omega
      clear hlt
      have H2 := HR.out
      rw [hke, show (I + M - I).toNat = n by have := HM.out; omega] at H2
      have H2 := hide H2
      clear hke HR
      go_wp2_with fail
      go_ret
      exact ⟨rfl, H2.out⟩
theorem put_bad (b ro : Nat) (x : Bool) (i n : Int) (hi : -9223372036854775808 ≤ i) (h : ¬ Right i n) (w : World) :
    Calls Tryz.prog 43 #[.pointer (some ⟨b, ro, none⟩), .int .i64 i, .int .i64 n, .bool x] w fun e w' => e = .returned (.int .i64 1) ∧ w' = w := by
  have cR := (rightRef_any i n hi w).2 h
  have H := hide h
  clear h
  go_enter Tryz.func43, Tryz.ntmps43
  go_wp2_with fail
  go_at_call 79
  refine cR.mono ?_
  rintro e w' ⟨rfl, hw'⟩; rw [hw']; clear hw' w'
  go_wp2
  go_ret
  exact ⟨rfl, rfl⟩

set_option maxRecDepth 100000 in
set_option maxHeartbeats 1000000 in
theorem countRef_core (b ro : Nat) (f : Nat → Bool) (w : World) (h : BoolAt w b ro f) (i n : Nat) (hin : i + n ≤ 512) :
    Calls Tryz.prog 91 #[.pointer (some ⟨b, ro, none⟩), .int .i64 (i : Nat), .int .i64 (n : Nat)] w fun e w' => e = .returned (.int .i64 (cnt f i n : Nat)) ∧ w' = w := by
  have cR := (rightRef_any (i : Int) (n : Int) (by omega) w).1 ⟨by omega, by omega, by omega, by omega⟩
  obtain ⟨I, hI⟩ : ∃ I : Int, (i : Int) = I := ⟨_, rfl⟩
  obtain ⟨M, hM⟩ : ∃ M : Int, (n : Int) = M := ⟨_, rfl⟩
  rw [hI, hM] at cR ⊢
  have b1 : 0 ≤ I := by omega
  have b2 : 0 ≤ M := by omega
  have b3 : I + M ≤ 512 := by omega
  have HH := hide h
  have HI := hide hI
  have HM := hide hM
  clear h hI hM
  go_enter Tryz.func91, Tryz.ntmps91
  go_wp2_with fail
  go_at_call 79
  refine cR.mono ?_
  rintro e w' ⟨rfl, hw'⟩; rw [hw']; clear hw' w'
  go_wp2_with fail
  go_loop [7, 8] (fun c v => ∃ k C : Int, v = .int .i64 k ∧ c = .int .i64 C ∧ I ≤ k ∧ k ≤ I + M ∧ 0 ≤ C ∧ C ≤ 512 ∧ Hid (C = (cnt f i (k - I).toNat : Nat))) (fun _ v => (I + M - intOf v).toNat)
  case atStart => exact ⟨I, 0, rfl, rfl, by omega, by omega, by omega, by omega, hide (by rw [show (I - I).toNat = 0 by omega]; rfl)⟩
  case round =>
    obtain ⟨k, C, rfl, rfl, k1, k2, C0, C1, HC⟩ := hrel
    by_cases hlt : k < I + M
    · have c1 := HH.out.cell k.toNat (by omega)
      have hc : ∀ x, f k.toNat = x → (cnt f i (k + 1 - I).toNat : Int) = C + x.toNat := fun x hx => by
        have := HI.out
        rw [show (k + 1 - I).toNat = (k - I).toNat + 1 by omega, cnt, show i + (k - I).toNat = k.toNat by omega, hx, Int.natCast_add, HC.out]
      have hC2 : C < 512 := by
        have h1 := cnt_le f i (k - I).toNat
        have h2 := HC.out
        omega
      cases hx : f k.toNat with
      | true =>
        have HCC := hide (hc true hx)
        rw [hx] at c1
        clear hc hx
        go_wp2_with fail
        refine ⟨⟨k + 1, C + 1, rfl, rfl, by omega, by omega, by omega, by omega, hide (by rw [HCC.out]; rfl)⟩, ?_⟩
        simp [intOf]; omega
      | false =>
        have HCC := hide (hc false hx)
        rw [hx] at c1
        clear hc hx
        go_wp2_with fail
        refine ⟨⟨k + 1, C, rfl, rfl, by omega, by omega, by omega, by omega, hide (by rw [HCC.out]; simp)⟩, ?_⟩
        simp [intOf]; omega
    · have hge : I + M ≤ k := by omega
      have hke : k = I + M := by omega
      clear hlt
      have H2 := HC.out
      rw [hke, show (I + M - I).toNat = n by have := HM.out; omega] at H2
      have H2 := hide H2
      clear hke HC
      go_wp2_with fail
      go_ret
      exact ⟨by rw [← H2.out]; rfl, rfl⟩
theorem countRef_bad (b ro : Nat) (i n : Int) (hi : -9223372036854775808 ≤ i) (h : ¬ Right i n) (w : World) :
    Calls Tryz.prog 91 #[.pointer (some ⟨b, ro, none⟩), .int .i64 i, .int .i64 n] w fun e w' => e = .returned (.int .i64 0) ∧ w' = w := by
  have cR := (rightRef_any i n hi w).2 h
  have H := hide h
  clear h
  go_enter Tryz.func91, Tryz.ntmps91
  go_wp2_with fail
  go_at_call 79
  refine cR.mono ?_
  rintro e w' ⟨rfl, hw'⟩; rw [hw']; clear hw' w'
  go_wp2
  go_ret
  exact ⟨rfl, rfl⟩
end Go.Proofs.YtnclicdnncgdiaaGreatDoor

/- The reference's Find and Last: contracts. -/
namespace Go.Proofs.YtnclicdnncgdiaaGreatDoor
open Go.ChangeShapes Go.WideShapes Go.ChangeAt Go.RowKit Go.Proofs.Bt Go.Shelf
set_option linter.unusedVariables false
set_option linter.unusedSimpArgs false

/-- What the search knows at i: r clear bits stand right ahead of it, and no row of n has ended yet. -/
structure FR (f : Nat → Bool) (n fr i r : Nat) : Prop where
  le : fr + r ≤ i
  cl : Clr f (i - r) r
  st : i - r = fr ∨ f (i - r - 1) = true
  no : ∀ c, fr ≤ c → c + n ≤ i → ¬ Clr f c n
theorem FR.set {f : Nat → Bool} {n fr i r : Nat} (h : FR f n fr i r) (hn : 1 ≤ n) (hf : f i = true) (hi : fr ≤ i) : FR f n fr (i + 1) 0 :=
  ⟨by omega, (fun k hk => by omega), .inr (by simpa using hf), fun c c1 c2 hc => by
    by_cases l : c + n ≤ i
    · exact h.no c c1 l hc
    · have := hc (i - c) (by omega)
      rw [show c + (i - c) = i by omega, hf] at this
      cases this⟩
theorem FR.clr {f : Nat → Bool} {n fr i r : Nat} (h : FR f n fr i r) (hf : f i = false) : Clr f (i + 1 - (r + 1)) (r + 1) := fun k hk => by
  have := h.le
  by_cases l : k < r
  · have := h.cl k l
    rw [show i + 1 - (r + 1) + k = i - r + k by omega]; exact this
  · rw [show i + 1 - (r + 1) + k = i by omega]; exact hf
theorem FR.step {f : Nat → Bool} {n fr i r : Nat} (h : FR f n fr i r) (hf : f i = false) (hr : r + 1 < n) : FR f n fr (i + 1) (r + 1) := by
  have hl := h.le
  refine ⟨by omega, h.clr hf, by rw [show i + 1 - (r + 1) = i - r by omega]; exact h.st, fun c c1 c2 hc => ?_⟩
  by_cases l : c + n ≤ i
  · exact h.no c c1 l hc
  · rcases h.st with hs | hs
    · omega
    · have := hc (i - r - 1 - c) (by omega)
      rw [show c + (i - r - 1 - c) = i - r - 1 by omega, hs] at this
      cases this
def FindR0 (w : World) (f : Nat → Bool) (n from_ : Int) (e : Ending) (w' : World) : Prop := ∃ i ok, e = .returned (.tuple #[.int .i64 i, .bool ok]) ∧ FindP f n from_ i ok ∧ w' = w

end Go.Proofs.YtnclicdnncgdiaaGreatDoor
