/- awake: a word; two rows. -/
import Derived.Test.YtdkdckgheibjfaaDoorPe
import Derived.Test.YtdkdckgheibjfaaDoorPd
namespace Go.Proofs.YtdkdckgheibjfaaDoor
open Go.ChangeShapes Go.WideShapes Go.ChangeAt Go.RowKit Go.Proofs.Pk Go.Maps
set_option linter.unusedVariables false
set_option linter.unusedSimpArgs false

def awA : List Sm := [⟨8, 8, 8⟩, ⟨3, 4, 2⟩]
def awB : List Sm := [⟨0, 2, 1⟩, ⟨2, 3, 0⟩]
theorem awA_rr : RR awA 8 := ⟨by decide, by decide, by decide, fun j hj => by
  match j, hj with
  | 0, _ => exact ⟨⟨by decide, by decide, by decide, by decide, by decide, .inr ⟨rfl, rfl⟩⟩, .inl rfl⟩
  | 1, _ => exact ⟨⟨by decide, by decide, by decide, by decide, by decide, .inl (by decide)⟩, .inr (by decide)⟩⟩
theorem awB_rr : RR awB 8 := ⟨by decide, by decide, by decide, fun j hj => by
  match j, hj with
  | 0, _ => exact ⟨⟨by decide, by decide, by decide, by decide, by decide, .inl (by decide)⟩, .inr (by decide)⟩
  | 1, _ => exact ⟨⟨by decide, by decide, by decide, by decide, by decide, .inl (by decide)⟩, .inr (by decide)⟩⟩
theorem awA_mg : mg 8 (nth awA) awA.length = ⟨11, 11, 2⟩ := by rfl
theorem awB_fit : FitP 8 3 (nth awB) awB.length 7 true :=
  FitP.cross 1 (by decide) (fun j hj => by
    obtain rfl : j = 0 := by omega
    exact ⟨fun z => absurd z (by unfold Aw; decide), fun z => absurd z (by unfold Cw; decide)⟩) (show (3 : Int) ≤ 3 by decide)
theorem aw_pack : PackV ⟨1, 2, 1⟩ 4398050705409 0 := .low ⟨by decide, by decide, by decide, by decide, by decide, .inl (by decide)⟩ (by decide)
/-- A list that was just made. -/
theorem lit_sums {w : World} {g : Nat} {cs : Array Value} {t : List Sm} (h : w.heap[g]? = some (.cells cs 28 (0, 0))) (hc : cs = (flat t).toArray) (hl : t.length ≤ 1000) : SumsAt w (.slice (some ⟨g, 0, none⟩) t.length t.length) t (fun _ => True) := by
  refine ⟨_, t.length, rfl, Nat.le_refl _, by omega, fun z => (by cases z), fun _ => ⟨g, 0, rfl, trivial, (Array.getElem?_eq_some_iff.1 h).1, fun i s hi => ?_⟩⟩
  obtain ⟨a, b, c⟩ := flat_at t i s hi
  have k := fun j => (cells_of h j).trans (show cs[j]? = (flat t)[j]? by rw [hc]; simp)
  rw [Nat.zero_add]
  exact ⟨(k _).trans a, (k _).trans b, (k _).trans c⟩
theorem FitR.at {t : List Sm} {p n a : Int} {b : Bool} {e : Ending} (h : FitR t p n e) (k : FitP p n (nth t) t.length a b) : e = .returned (.tuple #[.int .i64 a, .bool b, .int .i64 0]) := by
  obtain ⟨x, y, rfl, h⟩ := h
  obtain ⟨rfl, rfl⟩ := h.one k
  rfl
theorem MergeP.at {t : List Sm} {p : Int} {w w' : World} {e : Ending} (h : MergeP t p w e w') (r : RR t p) : e = .returned (.tuple #[sumV (mg p (nth t) t.length), .int .i64 0]) ∧ Below w.heap.size w w' := ⟨h.1 r, h.2.2⟩
theorem FitsP.at {t : List Sm} {p n a : Int} {b : Bool} {w w' : World} {e : Ending} (h : FitsP t p n w e w') (hn : 1 ≤ n) (r : RR t p) (k : FitP p n (nth t) t.length a b) : e = .returned (.tuple #[.int .i64 a, .bool b, .int .i64 0]) ∧ Below w.heap.size w w' := ⟨(h.1 hn r).at k, h.2.2⟩
set_option maxRecDepth 100000 in
set_option maxHeartbeats 2000000 in
theorem awake_any (w : World) : Calls Tryd.prog 8 #[] w fun e w' => e = .returned (.bool true) ∧ Below w.heap.size w w' := by
  have CP := fun w => hide (pack_any ⟨1, 2, 1⟩ _ _ aw_pack w)
  unfold sumV at CP
  dsimp only at CP
  go_enter Tryd.func8, Tryd.ntmps8
  go_wp2_with fail
  refine (CP _).out.mono ?_
  rintro e w1 ⟨rfl, b1⟩
  have B1 := hide b1
  clear b1
  go_wp2_with fail
  obtain ⟨w2, hw2⟩ : ∃ w2, w2 = w1.alloc (.cells #[.int .i64 8, .int .i64 8, .int .i64 8, .int .i64 3, .int .i64 4, .int .i64 2] 28) := ⟨_, rfl⟩
  have B2 : Hid (Below w.heap.size w w2) := hide (by rw [hw2]; exact B1.out.alloc B1.out.size _)
  have A2 := hide (lit_sums (t := awA) (show w2.heap[w1.heap.size]? = _ by rw [hw2]; exact heap_alloc_new _ _) rfl (by decide))
  rw [← hw2]
  clear hw2
  refine (merge_core A2.out 8).mono ?_
  rintro e w3 ⟨h3, _, b3⟩
  obtain rfl := h3 awA_rr
  rw [awA_mg]
  have B3 := hide (B2.out.trans (b3.mono B2.out.size))
  clear b3 h3 B2 A2
  unfold sumV
  dsimp only
  go_wp2_with fail
  obtain ⟨w4, hw4⟩ : ∃ w4, w4 = w3.alloc (.cells #[.int .i64 11, .int .i64 11, .int .i64 2] 28) := ⟨_, rfl⟩
  have C4 : Hid (Bx w.heap.size w3.heap.size w w4 11 11 2) := hide (by rw [hw4]; exact Bx.new B3.out B3.out.size)
  obtain ⟨w5, hw5⟩ : ∃ w5, w5 = w4.alloc (.cells #[.int .i64 0, .int .i64 2, .int .i64 1, .int .i64 2, .int .i64 3, .int .i64 0] 28) := ⟨_, rfl⟩
  have hz : w3.heap.size + 1 = w4.heap.size := by rw [hw4]; simp
  rw [← hw4, ← hw5, hz]
  have A5 := hide (lit_sums (t := awB) (show w5.heap[w4.heap.size]? = _ by rw [hw5]; exact heap_alloc_new _ _) rfl (by decide))
  have C5 := hide (C4.out.next (show Below w4.heap.size w4 w5 by rw [hw5]; exact alloc1 _ _))
  clear hw4 hw5 hz C4
  refine (fits_core A5.out 8 3).mono ?_
  rintro e w6 ⟨h6, _, b6⟩
  obtain rfl := (h6 (by decide) awB_rr).at awB_fit
  have C6 := hide (C5.out.next b6)
  clear b6 h6 C5 A5
  have c0 := C6.out.c0
  have c1 := C6.out.c1
  have c2 := C6.out.c2
  go_wp2_with fail
  go_ret
  exact ⟨rfl, C6.out.be⟩
end Go.Proofs.YtdkdckgheibjfaaDoor
