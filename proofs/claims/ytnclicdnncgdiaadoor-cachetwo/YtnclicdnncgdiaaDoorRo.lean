/- A row of bits in memory: how it lies, and Get, Set, Clear, Count: contracts. -/
import Derived.Test.YtnclicdnncgdiaaDoorNm
import Derived.Deep.RegionHeld3
import Derived.StillTailTactics
import Derived.Maps.AppendAt
import Derived.RangeFuncNested
import Derived.RangeFuncBound
import Derived.RangeFuncCalls
import Derived.RangeFuncLeaves
import Derived.Shelf.RegionOpen
import Derived.OwnWalkIn
import Derived.TacticsInMore
import Derived.LoopNIn
import Derived.LoopIn
namespace Go.Proofs.YtnclicdnncgdiaaDoor
open Go.ChangeShapes Go.WideShapes Go.ChangeAt Go.RowKit Go.Proofs.Bt Go.Shelf
set_option linter.unusedVariables false
set_option linter.unusedSimpArgs false

/-- Nothing old has turned but blocks of F. -/
structure Kept (F : Nat → Prop) (w w' : World) : Prop where
  os : w'.os = w.os
  tape : w'.tape = w.tape
  output : w'.output = w.output
  size : w.heap.size ≤ w'.heap.size
  block : ∀ b, b < w.heap.size → ¬ F b → w'.heap[b]? = w.heap[b]?
theorem Kept.refl (F : Nat → Prop) (w : World) : Kept F w w := ⟨rfl, rfl, rfl, Nat.le_refl _, fun _ _ _ => rfl⟩
theorem Kept.of_below {F : Nat → Prop} {w w' : World} (h : Below w.heap.size w w') : Kept F w w' := ⟨h.os, h.tape, h.output, h.size, fun b hb _ => h.block b hb⟩
theorem Kept.of_grown {F : Nat → Prop} {w w' : World} {row : Option Nat} (h : w.grownBy w' row) (hr : ∀ k, row = some k → F k) : Kept F w w' :=
  ⟨h.os, h.tape, h.output, h.size, fun b hb hf => h.block b hb (fun e => hf (hr b e.symm))⟩
theorem Kept.below {F : Nat → Prop} {w w' : World} (h : Kept F w w') {B : Nat} (hB : B ≤ w.heap.size) (hF : ∀ b, F b → B ≤ b) : Below B w w' :=
  ⟨h.os, h.tape, h.output, h.size, fun k hk => h.block k (by omega) fun hf => by have := hF k hf; omega⟩
theorem Kept.trans {F G : Nat → Prop} {a b c : World} (h : Kept F a b) (k : Kept G b c) (hg : ∀ x, x < a.heap.size → G x → F x) : Kept F a c :=
  ⟨k.os.trans h.os, k.tape.trans h.tape, k.output.trans h.output, Nat.le_trans h.size k.size, fun x hx hn => by
    rw [k.block x (Nat.lt_of_lt_of_le hx h.size) (fun z => hn (hg x hx z))]
    exact h.block x hx hn⟩
theorem Kept.mono {F G : Nat → Prop} {a b : World} (h : Kept F a b) (hg : ∀ x, F x → G x) : Kept G a b := ⟨h.os, h.tape, h.output, h.size, fun x hx hf => h.block x hx fun hh => hf (hg x hh)⟩
theorem Kept.put {F : Nat → Prop} (w : World) (l : Nat) (o : Obj) (h : F l) : Kept F w (w.putObj l o) := Kept.of_grown (grownBy_putObj' w l o) (fun k e => by cases e; exact h)
theorem kept_set {F : Nat → Prop} (w : World) (b k : Nat) (v : Value) (h : F b) : Kept F w (w.setCell ⟨b, k, none⟩ v) :=
  ⟨rfl, rfl, rfl, by simp, fun x _ hn => Below.heap_setCell _ _ _ _ (fun e => hn (by simp at e; exact e ▸ h))⟩
theorem kept_at {F : Nat → Prop} {A A' : World} (h : Kept F A A') {k : Nat} {o : Obj} (hk : A.heap[k]? = some o) (hF : ¬ F k) : A'.heap[k]? = some o := (h.block k (Array.getElem?_eq_some_iff.1 hk).1 hF).trans hk
theorem cell_block {w w' : World} {b : Nat} (h : w'.heap[b]? = w.heap[b]?) (k : Nat) : w'.cell? ⟨b, k, none⟩ = w.cell? ⟨b, k, none⟩ := by simp [World.cell?, h]
theorem TabW.lt {w : World} (h : TabW w) : 1 < w.heap.size := by
  have := h.1 0 (by omega)
  cases hs : w.heap[1]? with
  | none => simp [World.cell?, hs] at this
  | some o => exact (Array.getElem?_eq_some_iff.1 hs).1
theorem TabW.kept {F : Nat → Prop} {w w' : World} (h : TabW w) (k : Kept F w w') (hF : ¬ F 0 ∧ ¬ F 1) : TabW w' := ⟨fun j hj => (cell_block (k.block 1 h.lt hF.2) j).trans (h.1 j hj), fun j hj => (cell_block (k.block 0 (by have := h.lt; omega) hF.1) j).trans (h.2 j hj)⟩
theorem TabW.below {w w' : World} (h : TabW w) (k : Below w.heap.size w w') : TabW w' := h.kept (F := fun _ => False) (Kept.of_below k) ⟨fun f => f, fun f => f⟩

theorem still_tail {P : Program} {id : Nat} {Q : Exit → Act → World → Prop} {a : Act} {w : World} {l : List Oper} (n : Nat) (hm : P.follows .mixedOrders = true) (hB : Region.lexTailB .any l.toArray n = true)
    (h : wpStill P l.toArray w.drew (fun a' => wpList P l.toArray Q (l.drop n) a' w.drew) (l.take n) a) : (Code.region id l.toArray true).wp P Q a w := wp_region_still_tail n hm hB h
theorem still_all {P : Program} {id : Nat} {Q : Exit → Act → World → Prop} {a : Act} {w : World} {l : List Oper} (hm : P.follows .mixedOrders = true) (hB : Region.lexB .any l.toArray = true)
    (h : wpStill P l.toArray w.drew (fun a' => Q .normal a' w.drew) l a) : (Code.region id l.toArray true).wp P Q a w := wp_region_still_lit hm hB h
theorem drew_below (w : World) : Below w.heap.size w w.drew := (Below.refl _ _).drew

/-- Eight words that lie from cell ro of a block on, and may be written. -/
structure RowAt (w : World) (b ro : Nat) (g : Nat → Nat) : Prop where
  cell : ∀ k, k < 8 → w.cell? ⟨b, ro + k, none⟩ = some (.int .u64 ((g k : Nat) : Int))
  frozen : ∀ k, k < 8 → w.frozen? ⟨b, ro + k, none⟩ = false
  fit : ∀ k, g k < 18446744073709551616
theorem RowAt.lt {w : World} {b ro : Nat} {g : Nat → Nat} (h : RowAt w b ro g) : b < w.heap.size := World.block_lt_of_cell? w ⟨b, ro + 0, none⟩ (h.cell 0 (by omega))
theorem fz_block {w w' : World} {x k : Nat} (h : w'.heap[x]? = w.heap[x]?) : w'.frozen? ⟨x, k, none⟩ = w.frozen? ⟨x, k, none⟩ := by simp [World.frozen?, h]
theorem RowAt.block {w w' : World} {b ro : Nat} {g : Nat → Nat} (h : RowAt w b ro g) (e : w'.heap[b]? = w.heap[b]?) : RowAt w' b ro g :=
  ⟨fun k hk => (cell_block e _).trans (h.cell k hk), fun k hk => (fz_block e).trans (h.frozen k hk), h.fit⟩
theorem RowAt.kept {F : Nat → Prop} {w w' : World} {b ro : Nat} {g : Nat → Nat} (h : RowAt w b ro g) (k : Kept F w w') (hF : ¬ F b) : RowAt w' b ro g := h.block (k.block b h.lt hF)
theorem RowAt.below {w w' : World} {b ro : Nat} {g : Nat → Nat} (h : RowAt w b ro g) (k : Below w.heap.size w w') : RowAt w' b ro g := h.block (k.block b h.lt)
/-- Of block b nothing has turned outside its n cells from ro on. -/
structure Only (b ro n : Nat) (w w' : World) : Prop where
  kept : Kept (fun x => x = b) w w'
  cell : ∀ k, k < ro ∨ ro + n ≤ k → w'.cell? ⟨b, k, none⟩ = w.cell? ⟨b, k, none⟩
  fz : ∀ k, w'.frozen? ⟨b, k, none⟩ = w.frozen? ⟨b, k, none⟩
theorem Only.refl (b ro n : Nat) (w : World) : Only b ro n w w := ⟨Kept.refl _ _, fun _ _ => rfl, fun _ => rfl⟩
theorem Only.of_below {b ro n : Nat} {w w' : World} (h : Below w.heap.size w w') (hb : b < w.heap.size) : Only b ro n w w' := ⟨Kept.of_below h, fun k _ => cell_block (h.block b hb) k, fun k => fz_block (h.block b hb)⟩
theorem Only.trans {b ro n : Nat} {w1 w2 w3 : World} (h : Only b ro n w1 w2) (k : Only b ro n w2 w3) : Only b ro n w1 w3 :=
  ⟨h.kept.trans k.kept (fun _ _ f => f), fun j hj => (k.cell j hj).trans (h.cell j hj), fun j => (k.fz j).trans (h.fz j)⟩
theorem only_set {b ro n : Nat} (w : World) (k : Nat) (v : Value) (h0 : ro ≤ k) (h1 : k < ro + n) : Only b ro n w (w.setCell ⟨b, k, none⟩ v) :=
  ⟨kept_set w b k v rfl, fun j hj => World.cell?_setCell_other w ⟨b, k, none⟩ ⟨b, j, none⟩ v (by intro z; have := congrArg Addr.off z; simp at this; omega), fun j => World.frozen?_setCell w ⟨b, k, none⟩ ⟨b, j, none⟩ v⟩
theorem RowAt.other {w w' : World} {b ro r2 n : Nat} {g : Nat → Nat} (h : RowAt w b ro g) (k : Only b r2 n w w') (hr : ro + 8 ≤ r2 ∨ r2 + n ≤ ro) : RowAt w' b ro g :=
  ⟨fun j hj => (k.cell _ (by omega)).trans (h.cell j hj), fun j hj => (k.fz _).trans (h.frozen j hj), h.fit⟩
theorem RowAt.set {w : World} {b ro : Nat} {g : Nat → Nat} (h : RowAt w b ro g) (k v : Nat) (hk : k < 8) (hv : v < 18446744073709551616) :
    RowAt (w.setCell ⟨b, ro + k, none⟩ (.int .u64 ((v : Nat) : Int))) b ro (fun j => if j = k then v else g j) := by
  refine ⟨fun j hj => ?_, fun j hj => (World.frozen?_setCell w ⟨b, ro + k, none⟩ ⟨b, ro + j, none⟩ _).trans (h.frozen j hj), fun j => by split; exact hv; exact h.fit j⟩
  by_cases e : j = k
  · subst e
    have := h.cell j hj
    rw [if_pos rfl]
    exact World.cell?_setCell_same w _ _ this
  · rw [if_neg e, World.cell?_setCell_other _ _ _ _ (by intro z; have := congrArg Addr.off z; simp at this; omega)]
    exact h.cell j hj
theorem RowAt.congr {w : World} {b ro : Nat} {g g' : Nat → Nat} (h : RowAt w b ro g) (e : ∀ k, k < 8 → g k = g' k) (hf : ∀ k, g' k < 18446744073709551616) : RowAt w b ro g' :=
  ⟨fun k hk => by rw [← e k hk]; exact h.cell k hk, h.frozen, hf⟩

/-- What Set and Clear make of a row: of each word what up makes of it and of its part of the span. -/
def upd (up : Nat → Nat → Nat) (g : Nat → Nat) (i n : Nat) (k j : Nat) : Nat := if j < k then up (g j) (prt j i (i + n)) else g j
theorem wrap_in (x : Int) (h1 : -9223372036854775808 ≤ x) (h2 : x ≤ 9223372036854775807) : IntKind.i64.wrap x = x := by
  simp [IntKind.wrap, IntKind.bits, IntKind.signed]; omega
theorem upd_lt {up : Nat → Nat → Nat} (hup : ∀ a b, a < 18446744073709551616 → b < 18446744073709551616 → up a b < 18446744073709551616) {g : Nat → Nat} (hg : ∀ k, g k < 18446744073709551616) (i n k j : Nat) : upd up g i n k j < 18446744073709551616 := by
  unfold upd; split
  · exact hup _ _ (hg j) (prt_lt _ _ _)
  · exact hg j
set_option maxRecDepth 100000 in
set_option maxHeartbeats 1000000 in
theorem set_core (b ro : Nat) (g : Nat → Nat) (w : World) (h : RowAt w b ro g) (i n : Nat) (hin : i + n ≤ 512) :
    Calls Tryd.prog 45 #[.pointer (some ⟨b, ro, none⟩), .int .i64 (i : Nat), .int .i64 (n : Nat)] w fun e w' => e = .returned (.int .i64 0) ∧ RowAt w' b ro (upd (· ||| ·) g i n 8) ∧ Only b ro 8 w w' := by
  have cR := (right_any (i : Int) (n : Int) (by omega) w).1 ⟨by omega, by omega, by omega, by omega⟩
  obtain ⟨I, hI⟩ : ∃ I : Int, (i : Int) = I := ⟨_, rfl⟩
  obtain ⟨N, hN⟩ : ∃ N : Int, (n : Int) = N := ⟨_, rfl⟩
  have cP : ∀ (k : Nat) (w : World), k < 8 → Calls Tryd.prog 68 #[.int .i64 (k : Nat), .int .i64 I, .int .i64 (I + N)] w fun e w' => e = .returned (.int .u64 (prt k i (i + n) : Nat)) ∧ w' = w := fun k w hk => by
    rw [← hI, ← hN, ← Int.natCast_add]; exact part_any k i (i + n) hk (by omega) (by omega) w
  have hsum := wrap_in (I + N) (by omega) (by omega)
  rw [hI, hN] at cR ⊢
  have CP := hide cP
  have HH := hide h
  have h0 := h
  clear cP h
  have HI := hide hI
  have HN := hide hN
  clear hI hN
  go_enter Tryd.func45, Tryd.ntmps45
  go_wp2_with fail
  go_at_call 67
  refine cR.mono ?_
  rintro e w' ⟨rfl, hw'⟩; rw [hw']; clear hw' w'
  go_wp2_with fail
  go_loopw [12] (fun v wr => ∃ k : Nat, v = .int .i64 (k : Int) ∧ k ≤ 8 ∧ Hid (RowAt wr b ro (upd (· ||| ·) g i n k) ∧ Only b ro 8 w wr)) (fun v _ => 8 - (intOf v).toNat)
  case atStart => exact ⟨0, rfl, by omega, hide ⟨HH.out.congr (fun k hk => by simp [upd]) (fun k => upd_lt (fun _ _ => or_lt) HH.out.fit _ _ _ _), Only.refl _ _ _ _⟩⟩
  case round =>
    obtain ⟨k, rfl, hk, HR⟩ := hrel
    by_cases hlt : k < 8
    · have hlt' : (k : Int) < 8 := by omega
      have c1 := HR.out.1.cell k hlt
      have f1 := HR.out.1.frozen k hlt
      have e1 : upd (· ||| ·) g i n k k = g k := by simp [upd]
      rw [e1] at c1
      have hb := w_or (g k) (prt k i (i + n)) (HH.out.fit k) (prt_lt _ _ _)
      clear e1
      go_wp2_with fail
      refine still_tail 14 (by kernel_rfl) (by kernel_rfl) ?_
      simp only [List.take_succ_cons, List.take_zero, List.drop_succ_cons, List.drop_zero]
      repeat still_step
      still_call (CP.out k _ hlt)
      repeat still_step
      refine wpStill_nil ?_
      go_wp2_with fail
      refine ⟨⟨k + 1, by rw [Int.natCast_add]; rfl, by omega, hide ⟨?_, ?_⟩⟩, ?_⟩
      · refine ((HR.out.1.below (drew_below _)).set k _ hlt ((fun _ _ => or_lt) _ _ (HH.out.fit k) (prt_lt _ _ _))).congr (fun j hj => ?_) (fun j => upd_lt (fun _ _ => or_lt) HH.out.fit _ _ _ _)
        unfold upd
        by_cases e : j = k
        · subst e; simp
        · rw [if_neg e]
          by_cases l : j < k
          · rw [if_pos l, if_pos (by omega)]
          · rw [if_neg l, if_neg (by omega)]
      · exact (HR.out.2.trans (Only.of_below (drew_below wr) HR.out.1.lt)).trans (only_set wr.drew (ro + k) _ (by omega) (by omega))
      · simp [intOf]; omega
    · have hk8 : k = 8 := by omega
      subst hk8
      go_wp2_with fail
      go_wp2
      go_ret
      exact ⟨rfl, HR.out⟩
theorem set_bad (b ro : Nat) (i n : Int) (hi : -9223372036854775808 ≤ i) (h : ¬ Right i n) (w : World) :
    Calls Tryd.prog 45 #[.pointer (some ⟨b, ro, none⟩), .int .i64 i, .int .i64 n] w fun e w' => e = .returned (.int .i64 1) ∧ w' = w := by
  have cR := (right_any i n hi w).2 h
  have H := hide h
  clear h
  go_enter Tryd.func45, Tryd.ntmps45
  go_wp2_with fail
  go_at_call 67
  refine cR.mono ?_
  rintro e w' ⟨rfl, hw'⟩; rw [hw']; clear hw' w'
  go_wp2
  go_ret
  exact ⟨rfl, rfl⟩
set_option maxRecDepth 100000 in
set_option maxHeartbeats 1000000 in
theorem clear_core (b ro : Nat) (g : Nat → Nat) (w : World) (h : RowAt w b ro g) (i n : Nat) (hin : i + n ≤ 512) :
    Calls Tryd.prog 83 #[.pointer (some ⟨b, ro, none⟩), .int .i64 (i : Nat), .int .i64 (n : Nat)] w fun e w' => e = .returned (.int .i64 0) ∧ RowAt w' b ro (upd andn g i n 8) ∧ Only b ro 8 w w' := by
  have cR := (right_any (i : Int) (n : Int) (by omega) w).1 ⟨by omega, by omega, by omega, by omega⟩
  obtain ⟨I, hI⟩ : ∃ I : Int, (i : Int) = I := ⟨_, rfl⟩
  obtain ⟨N, hN⟩ : ∃ N : Int, (n : Int) = N := ⟨_, rfl⟩
  have cP : ∀ (k : Nat) (w : World), k < 8 → Calls Tryd.prog 68 #[.int .i64 (k : Nat), .int .i64 I, .int .i64 (I + N)] w fun e w' => e = .returned (.int .u64 (prt k i (i + n) : Nat)) ∧ w' = w := fun k w hk => by
    rw [← hI, ← hN, ← Int.natCast_add]; exact part_any k i (i + n) hk (by omega) (by omega) w
  have hsum := wrap_in (I + N) (by omega) (by omega)
  rw [hI, hN] at cR ⊢
  have CP := hide cP
  have HH := hide h
  have h0 := h
  clear cP h
  have HI := hide hI
  have HN := hide hN
  clear hI hN
  go_enter Tryd.func83, Tryd.ntmps83
  go_wp2_with fail
  go_at_call 67
  refine cR.mono ?_
  rintro e w' ⟨rfl, hw'⟩; rw [hw']; clear hw' w'
  go_wp2_with fail
  go_loopw [12] (fun v wr => ∃ k : Nat, v = .int .i64 (k : Int) ∧ k ≤ 8 ∧ Hid (RowAt wr b ro (upd andn g i n k) ∧ Only b ro 8 w wr)) (fun v _ => 8 - (intOf v).toNat)
  case atStart => exact ⟨0, rfl, by omega, hide ⟨HH.out.congr (fun k hk => by simp [upd]) (fun k => upd_lt (fun _ b h _ => andn_lt b h) HH.out.fit _ _ _ _), Only.refl _ _ _ _⟩⟩
  case round =>
    obtain ⟨k, rfl, hk, HR⟩ := hrel
    by_cases hlt : k < 8
    · have hlt' : (k : Int) < 8 := by omega
      have c1 := HR.out.1.cell k hlt
      have f1 := HR.out.1.frozen k hlt
      have e1 : upd andn g i n k k = g k := by simp [upd]
      rw [e1] at c1
      have hb := w_andNot (g k) (prt k i (i + n)) (HH.out.fit k) (prt_lt _ _ _)
      clear e1
      go_wp2_with fail
      refine still_tail 14 (by kernel_rfl) (by kernel_rfl) ?_
      simp only [List.take_succ_cons, List.take_zero, List.drop_succ_cons, List.drop_zero]
      repeat still_step
      still_call (CP.out k _ hlt)
      repeat still_step
      refine wpStill_nil ?_
      go_wp2_with fail
      refine ⟨⟨k + 1, by rw [Int.natCast_add]; rfl, by omega, hide ⟨?_, ?_⟩⟩, ?_⟩
      · refine ((HR.out.1.below (drew_below _)).set k _ hlt (andn_lt _ (HH.out.fit k))).congr (fun j hj => ?_) (fun j => upd_lt (fun _ b h _ => andn_lt b h) HH.out.fit _ _ _ _)
        unfold upd
        by_cases e : j = k
        · subst e; simp
        · rw [if_neg e]
          by_cases l : j < k
          · rw [if_pos l, if_pos (by omega)]
          · rw [if_neg l, if_neg (by omega)]
      · exact (HR.out.2.trans (Only.of_below (drew_below wr) HR.out.1.lt)).trans (only_set wr.drew (ro + k) _ (by omega) (by omega))
      · simp [intOf]; omega
    · have hk8 : k = 8 := by omega
      subst hk8
      go_wp2_with fail
      go_wp2
      go_ret
      exact ⟨rfl, HR.out⟩
theorem clear_bad (b ro : Nat) (i n : Int) (hi : -9223372036854775808 ≤ i) (h : ¬ Right i n) (w : World) :
    Calls Tryd.prog 83 #[.pointer (some ⟨b, ro, none⟩), .int .i64 i, .int .i64 n] w fun e w' => e = .returned (.int .i64 1) ∧ w' = w := by
  have cR := (right_any i n hi w).2 h
  have H := hide h
  clear h
  go_enter Tryd.func83, Tryd.ntmps83
  go_wp2_with fail
  go_at_call 67
  refine cR.mono ?_
  rintro e w' ⟨rfl, hw'⟩; rw [hw']; clear hw' w'
  go_wp2
  go_ret
  exact ⟨rfl, rfl⟩

theorem get_bit (x r : Nat) (hx : x < 18446744073709551616) : (bits BinOp.and IntKind.u64 ((x : Int) / 2 ^ r) 1 == 1) = x.testBit r := by
  have e : ((x : Int) / 2 ^ r) = ((x / 2 ^ r : Nat) : Int) := by rw [Int.natCast_ediv]; simp
  have hl : x / 2 ^ r ≤ x := Nat.div_le_self _ _
  rw [e, show (1 : Int) = ((1 : Nat) : Int) from rfl, w_and _ _ (by omega) (by omega), Nat.testBit_eq_decide_div_mod_eq, Nat.and_one_is_mod]
  rw [Bool.eq_iff_iff]
  simp only [beq_iff_eq, decide_eq_true_eq]
  omega
theorem pc_cnt : ∀ (m x : Nat), x < 2 ^ m → pc x = cnt x.testBit 0 m := by
  intro m
  induction m with
  | zero => intro x h; rw [show x = 0 by simpa using h, pc_zero]; rfl
  | succ m ih =>
    intro x h
    rw [pc_step, ih (x / 2) (by rw [Nat.pow_succ] at h; omega), show m + 1 = 1 + m by omega, cnt_add]
    congr 1
    · simp only [cnt, Nat.zero_add]
      rw [Nat.testBit_zero]
      by_cases h2 : x % 2 = 1
      · simp [h2]
      · rw [decide_eq_false h2]; simp; omega
    · exact cnt_congr fun k hk => by rw [Nat.testBit_div_two, Nat.zero_add]; congr 1; omega
theorem word_cnt (g : Nat → Nat) (hg : ∀ k, g k < 18446744073709551616) (k i e : Nat) : pc (g k &&& prt k i e) = cnt (fun q => bitW g q && decide (i ≤ q ∧ q < e)) (64 * k) 64 := by
  rw [pc_cnt 64 _ (and_lt _ (hg k))]
  exact cnt_congr fun q hq => by
    rw [Nat.zero_add, Nat.testBit_and, prt_bit _ _ _ _ hq, bitW_at g k q hq]

set_option maxRecDepth 100000 in
set_option maxHeartbeats 1000000 in
theorem count_core (b ro : Nat) (g : Nat → Nat) (w : World) (h : RowAt w b ro g) (i n : Nat) (hin : i + n ≤ 512) :
    Calls Tryd.prog 70 #[.pointer (some ⟨b, ro, none⟩), .int .i64 (i : Nat), .int .i64 (n : Nat)] w fun e w' => e = .returned (.int .i64 (cnt (bitW g) i n : Nat)) ∧ Below w.heap.size w w' := by
  have cR := (right_any (i : Int) (n : Int) (by omega) w).1 ⟨by omega, by omega, by omega, by omega⟩
  obtain ⟨I, hI⟩ : ∃ I : Int, (i : Int) = I := ⟨_, rfl⟩
  obtain ⟨N, hN⟩ : ∃ N : Int, (n : Int) = N := ⟨_, rfl⟩
  have cP : ∀ (k : Nat) (w : World), k < 8 → Calls Tryd.prog 68 #[.int .i64 (k : Nat), .int .i64 I, .int .i64 (I + N)] w fun e w' => e = .returned (.int .u64 (prt k i (i + n) : Nat)) ∧ w' = w := fun k w hk => by
    rw [← hI, ← hN, ← Int.natCast_add]; exact part_any k i (i + n) hk (by omega) (by omega) w
  have b1 : 0 ≤ I := by omega
  have b2 : I ≤ 512 := by omega
  have b3 : 0 ≤ N := by omega
  have b4 : N ≤ 512 := by omega
  rw [hI, hN] at cR ⊢
  obtain ⟨F, hF⟩ : ∃ F : Nat → Bool, F = fun q => bitW g q && decide (i ≤ q ∧ q < i + n) := ⟨_, rfl⟩
  have hwc : ∀ k, pc (g k &&& prt k i (i + n)) = cnt F (64 * k) 64 := fun k => by rw [hF]; exact word_cnt g h.fit k i (i + n)
  have hend : cnt F 0 512 = cnt (bitW g) i n := cnt_span F (bitW g) i n hin (fun k _ => by rw [hF])
  rw [← hend]
  have HWC := hide hwc
  have CP := hide cP
  have HH := hide h
  clear cP h hI hN hF hwc hend
  go_enter Tryd.func70, Tryd.ntmps70
  go_wp2_with fail
  go_at_call 67
  refine cR.mono ?_
  rintro e w' ⟨rfl, hw'⟩; rw [hw']; clear hw' w'
  go_wp2_with fail
  go_loopw [7, 15] (fun c v wr => ∃ k : Nat, v = .int .i64 (k : Int) ∧ c = .int .i64 (cnt F 0 (64 * k) : Nat) ∧ k ≤ 8 ∧ Hid (Below w.heap.size w wr)) (fun _ v _ => 8 - (intOf v).toNat)
  case atStart => exact ⟨0, rfl, rfl, by omega, hide (Below.refl _ _)⟩
  case round =>
    obtain ⟨k, rfl, rfl, hk, HR⟩ := hrel
    by_cases hlt : k < 8
    · have hlt' : (k : Int) < 8 := by omega
      have c1 := (HH.out.below HR.out).cell k hlt
      have c2 := cnt_le F 0 (64 * k)
      obtain ⟨C, hC⟩ : ∃ C : Int, ((cnt F 0 (64 * k) : Nat) : Int) = C := ⟨_, rfl⟩
      have hb := w_and (g k) (prt k i (i + n)) (HH.out.fit k) (prt_lt _ _ _)
      have C0 : 0 ≤ C := by omega
      have C1 : C ≤ 512 := by omega
      rw [hC]
      have HC := hide hC
      have cO := fun w => ones_any (g k &&& prt k i (i + n)) (and_lt _ (HH.out.fit k)) w
      have d1 := cnt_le F (64 * k) 64
      rw [HWC.out k] at cO
      obtain ⟨D, hD⟩ : ∃ D : Int, ((cnt F (64 * k) 64 : Nat) : Int) = D := ⟨_, rfl⟩
      have D0 : 0 ≤ D := by omega
      have D1 : D ≤ 64 := by omega
      rw [hD] at cO
      have HD := hide hD
      have CO := hide cO
      clear hD hC cO c2 d1
      go_wp2_with fail
      refine still_all (by kernel_rfl) (by kernel_rfl) ?_
      repeat still_step
      refine wpStill_nil ?_
      go_wp2_with fail
      go_at_call 68
      refine (CP.out k _ hlt).mono ?_
      rintro e w' ⟨rfl, hw'⟩; rw [hw']; clear hw' w'
      go_wp2_with fail
      try rw [hb]
      go_at_call 34
      refine (CO.out _).mono ?_
      rintro e w' ⟨rfl, hw'⟩; rw [hw']; clear hw' w'
      go_wp2_with fail
      refine ⟨⟨k + 1, by rw [Int.natCast_add]; rfl, ?_, by omega, hide (HR.out.trans ((drew_below wr).mono HR.out.size))⟩, ?_⟩
      · rw [show 64 * (k + 1) = 64 * k + 64 by omega, cnt_add, Nat.zero_add, Int.natCast_add, HC.out, HD.out]
      · simp [intOf]; omega
    · have hk8 : k = 8 := by omega
      subst hk8
      go_wp2_with fail
      go_wp2
      go_ret
      exact ⟨rfl, HR.out⟩
theorem count_bad (b ro : Nat) (i n : Int) (hi : -9223372036854775808 ≤ i) (h : ¬ Right i n) (w : World) :
    Calls Tryd.prog 70 #[.pointer (some ⟨b, ro, none⟩), .int .i64 i, .int .i64 n] w fun e w' => e = .returned (.int .i64 0) ∧ w' = w := by
  have cR := (right_any i n hi w).2 h
  have H := hide h
  clear h
  go_enter Tryd.func70, Tryd.ntmps70
  go_wp2_with fail
  go_at_call 67
  refine cR.mono ?_
  rintro e w' ⟨rfl, hw'⟩; rw [hw']; clear hw' w'
  go_wp2
  go_ret
  exact ⟨rfl, rfl⟩
end Go.Proofs.YtnclicdnncgdiaaDoor
