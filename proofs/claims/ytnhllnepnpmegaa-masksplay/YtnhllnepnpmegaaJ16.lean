/- J16 of the proof of both laws: texts Ry, Bk, Ar, one behind the other. -/
import Derived.Test.YtnhllnepnpmegaaJ15
import Derived.Test.YtnhllnepnpmegaaJ13
import Derived.Test.YtnhllnepnpmegaaJ09
/- The reference's Clear: contract. -/
namespace Go.Proofs.Ytnhllnepnpmegaa
open Go.ChangeShapes Go.WideShapes Go.ChangeAt Go.RowKit Go.Shelf Go.Proofs.Rx Go.Maps Go.Proofs.Bt
set_option linter.unusedVariables false
set_option linter.unusedSimpArgs false

attribute [local go_sem] Oper.semAt_some

theorem wg_clear (a b g cap : Nat) (f : Nat → Bool) (cr : Right a b) : (⟨a, b, 1, 0, fun _ => false, g, cap⟩ : Wg).f f = clearF f a b := by
  unfold Wg.f clearF
  rw [if_pos cr]
  congr 1
  funext x
  unfold thF
  rw [decide_eq_false (by dsimp only; omega), Bool.false_and]
set_option maxRecDepth 100000 in
set_option maxHeartbeats 2000000 in
theorem rclear_any {W : World} {r k : Nat} {f : Nat → Bool} {F : Nat → Prop} (h : (tRg r f k).P W F) (hk : k < 1000000) (a b : Nat) (ha : a < 18446744073709551616) (hb : b < 18446744073709551616) :
    Calls Try.prog 17 #[.pointer (some ⟨r, 0, none⟩), .int .u64 (a : Nat), .int .u64 (b : Nat)] W fun e W' => e = .returned (.int .i64 (clearE a b)) ∧ ∃ k', k' ≤ k + 1 ∧ RTurn r (clearF f a b) k' W W' F := by
  have CR := hide (refRight_any a b ha hb W)
  obtain ⟨R, hR⟩ : ∃ R : Ending → World → Prop, R = fun e W' => e = .returned (.int .i64 (clearE a b)) ∧ ∃ k', k' ≤ k + 1 ∧ RTurn r (clearF f a b) k' W W' F := ⟨_, rfl⟩
  rw [← hR]
  obtain ⟨A, hA⟩ : ∃ X : Int, (a : Int) = X := ⟨_, rfl⟩
  obtain ⟨B, hB⟩ : ∃ X : Int, (b : Int) = X := ⟨_, rfl⟩
  rw [hA, hB] at CR ⊢
  have a0 : 0 ≤ A := by omega
  have a1 : A < 18446744073709551616 := by omega
  have b0 : 0 ≤ B := by omega
  have b1 : B < 18446744073709551616 := by omega
  have h' := h
  obtain ⟨v, L, hr, hf, hk2, hF⟩ := h
  by_cases cr : Right a b
  · rw [decide_eq_true cr] at CR
    obtain ⟨W1, hW1⟩ : ∃ W1, W1 = W.alloc (.cells #[.bool false] 4) := ⟨_, rfl⟩
    obtain ⟨x, hx⟩ : ∃ x : Wg, x = ⟨a, b, 1, 0, fun _ => false, W.heap.size, 1⟩ := ⟨_, rfl⟩
    obtain ⟨W2, hW2⟩ : ∃ W2, W2 = W1.alloc (.cells x.arr 67) := ⟨_, rfl⟩
    have bb1 : Below W.heap.size W W1 := by rw [hW1]; exact below_alloc _ _
    have bb2 : Below W1.heap.size W1 W2 := by rw [hW2]; exact below_alloc _ _
    have bb : Below W.heap.size W W2 := bb1.trans (bb2.mono bb1.size)
    have ox : x.Ok := by rw [hx]; exact ⟨cr, Nat.le_refl 1, show 1 ≤ 65536 by decide, Nat.zero_le _⟩
    have c1 : W1.cell? ⟨W.heap.size, 0, none⟩ = some (.bool false) := by
      have k : Bk W1 W.heap.size 4 #[.bool false] := by rw [hW1]; exact World.alloc_heap_new _ _
      exact k.cell 0 _ rfl
    have hX : BoolsAt W2 (some ⟨x.g, 0, none⟩) x.wd x.cap x.X := by
      rw [hx]
      refine ⟨fun z => (by cases z), fun ad e i hi => ?_⟩
      obtain rfl : (⟨W.heap.size, 0, none⟩ : Addr) = ad := by injection e
      have hi : i < 1 := hi
      obtain rfl : i = 0 := by omega
      rw [addr_add0]
      exact (bb2.cell (p := ⟨W.heap.size, 0, none⟩) (cell_lt c1)).trans c1
    have rw2 : W2.ownsRow 0 67 5 v L.length (flatW L) := owns_kept hr.row (Kept.of_below (F := fun _ => False) bb) (fun _ _ q => q)
    obtain ⟨g, cap, Y, r4, o4, kp, hat, hlt⟩ := writings_more rw2 (by omega) x W1.heap.size (by rw [hW2]; exact World.alloc_heap_new _ _) 27
    obtain ⟨s1, s2⟩ := hr.sep
    have rl := hr.bk.lt
    have FF := hide (show R (.returned (.int .i64 0)) (Y.setCell ⟨r, 0, none⟩ (.slice (some ⟨g, 0, none⟩) (L.length + 1) cap)) from by
      rw [hR, show clearE a b = 0 by unfold clearE; rw [if_pos cr]]
      refine ⟨rfl, k + 1, Nat.le_refl _, ?_⟩
      have T := hr.more (x := x) (F := F) hf hk2 hF bb hX ox (by rw [hx]; exact Nat.le_refl _) o4 kp hat s1 (by
        rcases hat with e | e
        · intro z; rw [z] at e; exact s1 e
        · have := bb.size; omega) s2 (fun z hz => (hr.row.lt z hz).2)
      rw [hx, wg_clear _ _ _ _ _ cr] at T
      exact T)
    have y1 : Y.cell? ⟨r, 0, none⟩ = some v := ((hr.bk.below bb).kept kp s1).cell 0 _ rfl
    have y2 := ((hr.bk.below bb).kept kp s1).fz 0
    have x0 : W.cell? ⟨r, 0, none⟩ = some v := hr.bk.cell 0 _ rfl
    have s1' : W1.heap.size = W.heap.size + 1 := by rw [hW1]; simp
    have R4 := hide r4
    rw [s1', hW2, hW1, hx] at R4
    unfold Wg.arr at R4
    dsimp only at R4
    rw [hA, hB] at R4
    clear hR hr h' hk ha hb hA hB cr hf hk2 hF hW1 hW2 hx bb1 bb2 bb ox c1 hX rw2 r4 o4 kp hat hlt s1 s2 rl s1'
    go_enter Try.func17, Try.ntmps17
    go_wp2_with fail
    refine CR.out.mono ?_
    rintro e w' ⟨rfl, hw'⟩; rw [hw']; clear hw' w' CR
    go_wp2_with (first | (at_builtin; refine list_append_run rfl (.tmp 15) (.tmp 21) 27 rfl rfl rfl R4.out ?_))
    first | exact FF.out | (go_ret; exact FF.out)
  · rw [decide_eq_false cr] at CR
    have FF := hide (show R (.returned (.int .i64 1)) W from by
      rw [hR, show clearE a b = 1 by unfold clearE; rw [if_neg cr], show clearF f a b = f by unfold clearF; rw [if_neg cr]]
      exact ⟨rfl, k, by omega, RTurn.same h' (Below.refl _ _)⟩)
    clear hR h' hr hf hF hk2 ha hb hA hB cr hk
    go_enter Try.func17, Try.ntmps17
    go_wp2_with fail
    refine CR.out.mono ?_
    rintro e w' ⟨rfl, hw'⟩; rw [hw']; clear hw' w' CR
    go_wp2_with fail
    first | exact FF.out | (go_ret; exact FF.out)
end Go.Proofs.Ytnhllnepnpmegaa

/- MasksBack: what is written, plain. -/
namespace Go.Proofs.Ytnhllnepnpmegaa
open Go.ChangeShapes Go.WideShapes Go.ChangeAt Go.RowKit Go.Shelf Go.Proofs.Rx Go.Maps Go.Proofs.Bt
set_option linter.unusedVariables false
set_option linter.unusedSimpArgs false

def oneX (_ : Nat) : Bool := true
def bk1 (at_ : Nat) : Nat → Bool := writeF (fun _ => false) (8 * at_) 80 1 1 10 oneX
def bk2 (at_ nw : Nat) : Nat → Bool := writeF (bk1 at_) (8 * (at_ + 10 + nw)) 80 1 1 10 oneX
def bk3 (at_ nw : Nat) : Nat → Bool := writeF (bk2 at_ nw) (8 * (at_ + 10)) (8 * nw) 1 1 nw oneX
def bk4 (at_ nw len n : Nat) (X : Nat → Bool) : Nat → Bool := writeF (bk3 at_ nw) (8 * (at_ + 10)) (8 * nw) (len : Int) len n X
theorem wr_ok {a b : Nat} {wd : Int} {len n : Nat} (h : Right a b) (t : RightT wd len) (l : n ≤ b / 8 / len) : writeE a b wd len n = 0 := by
  unfold writeE
  rw [if_pos ⟨h, t⟩, if_neg (by omega)]
theorem wr_f {f : Nat → Bool} {a b : Nat} {wd : Int} {len n : Nat} {X : Nat → Bool} (h : writeE a b wd len n = 0) (x : Nat) : writeF f a b wd len n X x = if a / 8 ≤ x ∧ x < (a + b) / 8 then thF (a / 8) len n (cutF X len) x else f x := by
  unfold writeF
  rw [if_pos h]; rfl
theorem one_f {a n : Nat} (x : Nat) (h : a ≤ x ∧ x < a + n) : thF a 1 n (cutF oneX 1) x = true := by
  unfold thF cutF oneX
  rw [decide_eq_true (by omega), Nat.mod_one]; rfl
section
variable {at_ nw len n : Nat} {X : Nat → Bool}
theorem bk_e1 (h : at_ ≤ 1073741824) : writeE (8 * at_) 80 1 1 10 = 0 := wr_ok ⟨by omega, by decide, by decide, by decide, by omega⟩ ⟨by decide, by decide, by decide⟩ (by decide)
theorem bk_e2 (h : at_ ≤ 1073741824) (hn : nw ≤ 100000) : writeE (8 * (at_ + 10 + nw)) 80 1 1 10 = 0 := wr_ok ⟨by omega, by decide, by decide, by decide, by omega⟩ ⟨by decide, by decide, by decide⟩ (by decide)
theorem bk_e3 (h : at_ ≤ 1073741824) (hn : nw ≤ 100000) (h1 : 1 ≤ nw) : writeE (8 * (at_ + 10)) (8 * nw) 1 1 nw = 0 := wr_ok ⟨by omega, by omega, by omega, by omega, by omega⟩ ⟨by decide, by decide, by decide⟩ (by rw [Nat.div_one]; omega)
theorem bk_e4 (h : at_ ≤ 1073741824) (hn : nw ≤ 100000) (h1 : 1 ≤ len) (h2 : len ≤ 100) (h3 : len * n < nw) : writeE (8 * (at_ + 10)) (8 * nw) (len : Int) len n = 0 := wr_ok ⟨by omega, by omega, by omega, by omega, by omega⟩ ⟨by omega, by omega, rfl⟩ (by
  rw [show 8 * nw / 8 = nw by omega]
  exact (Nat.le_div_iff_mul_le (by omega)).2 (by rw [Nat.mul_comm]; omega))
/-- What each word of the whole is. -/
def bkG (nw len n : Nat) (X : Nat → Bool) (i : Nat) : Bool := if 10 ≤ i ∧ i < 10 + nw then decide (i - 10 < len * n) && X ((i - 10) % len) else true
theorem bk_G (h : at_ ≤ 1073741824) (hn : nw ≤ 100000) (h1 : 1 ≤ len) (h2 : len ≤ 100) (h3 : len * n < nw) (i : Nat) (hi : i < nw + 20) : bk4 at_ nw len n X (at_ + i) = bkG nw len n X i := by
  unfold bk4
  rw [wr_f (bk_e4 h hn h1 h2 h3), show 8 * (at_ + 10) / 8 = at_ + 10 by omega, show (8 * (at_ + 10) + 8 * nw) / 8 = at_ + 10 + nw by omega]
  unfold bkG
  by_cases c : 10 ≤ i ∧ i < 10 + nw
  · rw [if_pos (by omega), if_pos c]
    unfold thF cutF
    rw [show at_ + i - (at_ + 10) = i - 10 by omega, show decide ((i - 10) % len < len) = true from decide_eq_true (Nat.mod_lt _ (by omega)), Bool.true_and]
    congr 1
    rw [decide_eq_decide, Nat.mul_comm n len]
    omega
  · rw [if_neg (by omega), if_neg c]
    unfold bk3
    rw [wr_f (bk_e3 h hn (by omega)), if_neg (by omega)]
    unfold bk2
    rw [wr_f (bk_e2 h hn)]
    by_cases d : i < 10
    · rw [if_neg (by omega)]
      unfold bk1
      rw [wr_f (bk_e1 h), if_pos (by omega), one_f _ (by omega)]
    · rw [if_pos (by omega), one_f _ (by omega)]
end
end Go.Proofs.Ytnhllnepnpmegaa

/- What comes in: lists of lists of truths. -/
namespace Go.Proofs.Ytnhllnepnpmegaa
open Go.ChangeShapes Go.WideShapes Go.ChangeAt Go.RowKit Go.Shelf Go.WideMaps
set_option linter.unusedVariables false
set_option linter.unusedSimpArgs false

theorem bools_cell {H : Type} {enc : TypeId × Value → H} {W : World} {fuel : Nat} {cs : List Value} {x : DataW H × List MemPlace} (hf : DataW.trod enc Try.prog W 0 (fun _ => true) true fuel 32 cs = some x) : ∃ o len cap X, cs = [.slice o len cap] ∧ len ≤ maxLen ∧ len ≤ cap ∧ BoolsAt W o len cap X := by
  rcases Go.Deep.open_slice1 Try.underlying32 aB hf with ⟨hcs, hx⟩ | ⟨a, len', cap', m, n, V, D, Pl, hcs, _, hl, hm, hme, hx, hc⟩
  · exact ⟨none, 0, 0, fun _ => false, hcs, by decide, Nat.le_refl _, ⟨fun _ => ⟨rfl, rfl⟩, fun _ z => by (cases z)⟩⟩
  · have hmc : m = cap' := by simpa using hme
    have ex : ∀ i, ∃ X : Bool, (i < len' → W.cell? (a.add i) = some (.bool X)) := fun i => by
      by_cases z : i < len'
      · obtain ⟨k1, k2⟩ := hc i (by omega)
        obtain ⟨n0, e0, _⟩ := DataW.trod_bool Try.underlying4 k2
        have e1 : V i = .bool n0 := by injection e0
        exact ⟨n0, fun _ => by rw [k1, e1]⟩
      · exact ⟨false, fun y => absurd y z⟩
    refine ⟨some a, len', cap', fun i => Classical.choose (ex i), hcs, by omega, by omega, ⟨fun z => by (cases z), fun ad e i hi => ?_⟩⟩
    obtain rfl : a = ad := by injection e
    exact Classical.choose_spec (ex i) hi
/-- Lists in a row. -/
structure RowB where
  o : Option Addr
  l : Nat
  c : Nat
  X : Nat → Bool
structure RowsBAt (w : World) (o : Option Addr) (len cap : Nat) (Y : Nat → RowB) : Prop where
  nil : o = none → len = 0 ∧ cap = 0
  cells : ∀ ad, o = some ad → ∀ i, i < len → w.cell? (ad.add i) = some (.slice (Y i).o (Y i).l (Y i).c)
  rows : ∀ i, BoolsAt w (Y i).o (Y i).l (Y i).c (Y i).X
  lm : ∀ i, (Y i).l ≤ maxLen
theorem RowsBAt.at {w : World} {o : Option Addr} {len cap : Nat} {Y : Nat → RowB} (h : RowsBAt w o len cap Y) {i : Nat} (hi : i < len) : ∃ b off, o = some ⟨b, off, none⟩ ∧ b < w.heap.size ∧ ∀ i, i < len → w.cell? ⟨b, off + i, none⟩ = some (.slice (Y i).o (Y i).l (Y i).c) := by
  cases ho : o with
  | none => have := (h.nil ho).1; omega
  | some a =>
    obtain ⟨b, off, sp⟩ := a
    have c0 := h.cells _ ho 0 (by omega)
    have hs : sp = none := act_spot (by simpa [Addr.add] using c0)
    subst hs
    have hb : b < w.heap.size := cell_lt (by simpa [Addr.add] using c0)
    refine ⟨b, off, rfl, hb, fun j hj => ?_⟩
    have := h.cells _ ho j hj
    rwa [addr_add0] at this
theorem cellsLB : Try.prog.cellsOf 32 = 1 := by kernel_rfl
theorem cells1 {w : World} {a : Addr} {cs : List Value} (h : w.cells? 0 a 1 = some cs) : ∃ c0, cs = [c0] ∧ w.cell? a = some c0 := by
  unfold World.cells? at h
  rw [if_pos (Nat.zero_le _)] at h
  have e : a.add 0 = a := by simp [Addr.add]
  simp only [show List.range 1 = [0] from rfl, List.mapM_cons, List.mapM_nil, e] at h
  cases h0 : w.cell? a with
  | none => rw [h0] at h; simp at h
  | some c0 => rw [h0] at h; simp at h; exact ⟨c0, h.symm, rfl⟩
theorem bools_none (W : World) : BoolsAt W none 0 0 (fun _ => false) := ⟨fun _ => ⟨rfl, rfl⟩, fun _ z => by (cases z)⟩
theorem rowsb_of {H : Type} {enc : TypeId × Value → H} {W : World} {o : Option Addr} {len cap : Nat} {d : DataW H} {p : List MemPlace} (h : DataW.Trod enc Try.prog W 0 (fun _ => true) true 47 (.slice o len cap) d p) : len ≤ maxLen ∧ len ≤ cap ∧ ∃ Y, RowsBAt W o len cap Y := by
  obtain ⟨fuel, hf⟩ := h
  rcases Go.Deep.open_slice Try.underlying47 hf with ⟨hcs, hx⟩ | ⟨a, len', cap', m, n, D, Pl, hcs, _, hl, hm, hme, hx, hc⟩
  · simp [Value.cells] at hcs
    obtain ⟨rfl, rfl, rfl⟩ := hcs
    exact ⟨by decide, Nat.le_refl _, fun _ => ⟨none, 0, 0, fun _ => false⟩, ⟨fun _ => ⟨rfl, rfl⟩, fun _ z => by (cases z), fun _ => bools_none W, fun _ => by decide⟩⟩
  · simp [Value.cells] at hcs
    obtain ⟨rfl, rfl, rfl⟩ := hcs
    have hmc : m = cap := by simpa using hme
    rw [cellsLB] at hc
    have ex : ∀ i, ∃ Y : RowB, (BoolsAt W Y.o Y.l Y.c Y.X ∧ Y.l ≤ maxLen) ∧ (i < len → W.cell? (a.add i) = some (.slice Y.o Y.l Y.c)) := fun i => by
      by_cases z : i < len
      · obtain ⟨cs', k1, k2⟩ := hc i (by omega)
        obtain ⟨c0, rfl, e0⟩ := cells1 k1
        obtain ⟨o2, l2, c2, X, e, h1, h2, h3⟩ := bools_cell k2
        rw [Nat.mul_one] at e0
        exact ⟨⟨o2, l2, c2, X⟩, ⟨h3, h1⟩, fun _ => by rw [e0]; exact congrArg some (List.cons.inj e).1⟩
      · exact ⟨⟨none, 0, 0, fun _ => false⟩, ⟨bools_none W, by decide⟩, fun y => absurd y z⟩
    refine ⟨by omega, by omega, fun i => Classical.choose (ex i), ⟨fun z => by (cases z), fun ad e i hi => ?_, fun i => (Classical.choose_spec (ex i)).1.1, fun i => (Classical.choose_spec (ex i)).1.2⟩⟩
    obtain rfl : a = ad := by injection e
    exact (Classical.choose_spec (ex i)).2 hi
end Go.Proofs.Ytnhllnepnpmegaa
