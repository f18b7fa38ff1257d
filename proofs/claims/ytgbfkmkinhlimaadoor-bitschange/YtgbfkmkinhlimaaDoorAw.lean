/- awake: four bits of 512. -/
import Derived.Test.YtgbfkmkinhlimaaDoorSu
namespace Go.Proofs.YtgbfkmkinhlimaaDoor
open Go.ChangeShapes Go.WideShapes Go.ChangeAt Go.RowKit Go.Proofs.Bt Go.Shelf
set_option linter.unusedVariables false
set_option linter.unusedSimpArgs false

def aw : Nat → Bool := setF (setF (fun _ => false) 0 3) 10 1
theorem aw_at (j : Nat) : aw j = decide (j < 3 ∨ j = 10) := by
  unfold aw setF
  rw [Bool.eq_iff_iff]
  simp only [Bool.or_eq_true, decide_eq_true_eq]
  constructor
  · rintro ((h | h) | h)
    · cases h
    · omega
    · omega
  · intro h
    rcases h with h | h
    · exact .inl (.inr (by omega))
    · exact .inr (by omega)
theorem aw_find : FindP aw 8 0 11 true := by
  refine .inl ⟨rfl, by omega, 11, rfl, by omega, by decide, fun k hk => ?_, fun c _ c2 h => ?_⟩
  · rw [aw_at]; exact decide_eq_false (by simp at hk; omega)
  · by_cases l : c < 3
    · have := h 0 (by decide); rw [aw_at] at this; simp at this; omega
    · have := h (10 - c) (by show 10 - c < 8; omega); rw [aw_at] at this; simp at this; omega
theorem aw_last : LastP aw 4 10 6 4 := by
  refine .inr ⟨by omega, 6, 4, rfl, rfl, by omega, by omega, by decide, fun k hk => ?_, fun c c1 c2 => ?_, .inl rfl⟩
  · rw [aw_at]; exact decide_eq_false (by omega)
  · exfalso; have : min (10 : Int).toNat 512 = 10 := by decide
    omega
theorem aw_sum : SumP aw 0 501 501 := by
  refine ⟨by omega, by omega, (fun k hk => by omega), (fun _ => by rw [aw_at]; rfl), (fun k hk => ?_), (fun _ => by rw [aw_at]; rfl), ⟨11, by omega, fun k hk => ?_⟩, fun c hc h => ?_⟩
  · rw [aw_at]; exact decide_eq_false (by omega)
  · rw [aw_at]; exact decide_eq_false (by omega)
  · have := h (10 - c) (by omega); rw [aw_at] at this; simp at this; omega
theorem aw_cnt : cnt aw 0 512 = 4 := by decide +kernel
/-- A row without a bit. -/
theorem row_zero {w : World} {b : Nat} (h : w.heap[b]? = some (.cells #[.int .u64 0, .int .u64 0, .int .u64 0, .int .u64 0, .int .u64 0, .int .u64 0, .int .u64 0, .int .u64 0] 25 (0, 0))) : RowF w b (fun _ => false) :=
  ⟨fun _ => 0, ⟨h, fun _ => by omega⟩, fun i hi => by unfold bitW; exact Nat.zero_testBit _⟩

/-- A row of a law's own, with the table in place. -/
structure St (N b : Nat) (w W : World) (f : Nat → Bool) : Prop where
  be : Below N w W
  ro : RowF W b f
  ta : TabW W
  le : N ≤ b
theorem St.next {N b : Nat} {w W W' : World} {f : Nat → Bool} (h : St N b w W f) (k : Below W.heap.size W W') : St N b w W' f :=
  ⟨h.be.trans (k.mono (by have := h.ro.lt; have := h.le; omega)), h.ro.below k, h.ta.below k, h.le⟩
theorem St.put {N b : Nat} {w W W' : World} {f f' : Nat → Bool} (h : St N b w W f) (k : Kept (fun x => x = b) W W') (r : RowF W' b f') (hb : b ≠ 0) : St N b w W' f' :=
  ⟨below_kept h.be k (fun x e => by subst e; exact h.le) (by have := h.ro.lt; have := h.le; omega), r, h.ta.kept k (fun e => hb e.symm), h.le⟩
theorem FindR.at {w w' : World} {f : Nat → Bool} {n from_ i : Int} {ok : Bool} {e : Ending} (h : FindR w f n from_ e w') (k : FindP f n from_ i ok) : e = .returned (.tuple #[.int .i64 i, .bool ok]) ∧ Below w.heap.size w w' := by
  obtain ⟨j, is, rfl, h1, h2⟩ := h
  obtain ⟨rfl, rfl⟩ := h1.one k
  exact ⟨rfl, h2⟩
theorem LastR.at {w w' : World} {f : Nat → Bool} {n to i k : Int} {e : Ending} (h : LastR w f n to e w') (g : LastP f n to i k) : e = .returned (.tuple #[.int .i64 i, .int .i64 k]) ∧ Below w.heap.size w w' := by
  obtain ⟨j, is, rfl, h1, h2⟩ := h
  obtain ⟨rfl, rfl⟩ := h1.one g
  exact ⟨rfl, h2⟩
theorem SumR.at {w w' : World} {f : Nat → Bool} {s m e : Nat} {r : Ending} (h : SumR w f r w') (k : SumP f s m e) : r = .returned (sumV (s : Nat) (m : Nat) (e : Nat)) ∧ Below w.heap.size w w' := by
  obtain ⟨s', m', e', rfl, h1, h2⟩ := h
  obtain ⟨rfl, rfl, rfl⟩ := h1.one k
  exact ⟨rfl, h2⟩

set_option maxRecDepth 100000 in
set_option maxHeartbeats 2000000 in
theorem awake_any (w : World) (ht : TabW w) : Calls Tryd.prog 17 #[] w fun e w' => e = .returned (.bool true) ∧ Below w.heap.size w w' := by
  obtain ⟨N, hN⟩ : ∃ N, w.heap.size = N := ⟨_, rfl⟩
  rw [hN]
  have h0 := ht.lt
  obtain ⟨w1, hw1⟩ : ∃ w1, w1 = w.alloc (.cells #[.int .u64 0, .int .u64 0, .int .u64 0, .int .u64 0, .int .u64 0, .int .u64 0, .int .u64 0, .int .u64 0] 25) := ⟨_, rfl⟩
  have b1 : Below N w w1 := by rw [hw1, ← hN]; exact (Below.refl _ w).alloc (Nat.le_refl _) _
  have r1 : RowF w1 N (fun _ => false) := row_zero (by rw [hw1, ← hN]; exact World.alloc_heap_new w _)
  have t1 : TabW w1 := ht.below (by rw [hN]; exact b1)
  have S1 := hide (⟨b1, r1, t1, Nat.le_refl _⟩ : St N N w w1 (fun _ => false))
  have HW := hide hw1
  have z0 : N ≠ 0 := by omega
  have Z0 := hide z0
  clear b1 r1 t1 ht hw1 z0 h0
  go_enter Tryd.func17, Tryd.ntmps17
  go_wp2_with fail
  rw [← HW.out]
  clear HW
  refine (set_any N _ w1 S1.out.ro 0 3 (by omega)).mono ?_
  rintro e w2 ⟨rfl, r2, k2⟩
  have S2 := hide (S1.out.put k2 r2 Z0.out)
  clear S1 r2 k2
  go_wp2_with fail
  refine (set_any N _ w2 S2.out.ro 10 1 (by omega)).mono ?_
  rintro e w3 ⟨rfl, r3, k3⟩
  have S3 := hide (show St N N w w3 aw from S2.out.put k3 r3 Z0.out)
  clear S2 r3 k3
  go_wp2_with fail
  refine (find_any N aw 8 0 (by omega) (by omega) w3 S3.out.ro S3.out.ta).mono ?_
  intro e w4 h4
  obtain ⟨rfl, b4⟩ := h4.at aw_find
  have S4 := hide (S3.out.next b4)
  clear S3 h4 b4
  go_wp2_with fail
  refine (last_any N aw 4 10 (by omega) w4 S4.out.ro S4.out.ta).mono ?_
  intro e w5 h5
  obtain ⟨rfl, b5⟩ := h5.at aw_last
  have S5 := hide (S4.out.next b5)
  clear S4 h5 b5
  go_wp2_with fail
  refine (get_any N aw w5 S5.out.ro 2 (by omega)).mono ?_
  rintro e w6 ⟨rfl, hw6⟩
  rw [hw6, show aw 2 = true from rfl]
  clear hw6 w6
  go_wp2_with fail
  refine (get_any N aw w5 S5.out.ro 3 (by omega)).mono ?_
  rintro e w6 ⟨rfl, hw6⟩
  rw [hw6, show aw 3 = false from rfl]
  clear hw6 w6
  go_wp2_with fail
  refine (count_any N aw w5 S5.out.ro 0 512 (by omega)).mono ?_
  rintro e w6 ⟨rfl, b6⟩
  rw [aw_cnt]
  have S6 := hide (S5.out.next b6)
  clear S5 b6
  go_wp2_with fail
  refine (sum_any N aw w6 S6.out.ro S6.out.ta).mono ?_
  intro e w7 h7
  obtain ⟨rfl, b7⟩ := h7.at aw_sum
  have S7 := hide (S6.out.next b7)
  clear S6 h7 b7
  simp only [sumV]
  go_wp2_with fail
  go_ret
  exact ⟨rfl, S7.out.be⟩
end Go.Proofs.YtgbfkmkinhlimaaDoor
