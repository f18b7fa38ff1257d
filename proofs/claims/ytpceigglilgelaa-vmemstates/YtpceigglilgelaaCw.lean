/- The rows in memory, with their counts: what they are, and what a change of the counts leaves. -/
import Derived.Test.YtpceigglilgelaaVmJ
namespace Go.Proofs.Ytpceigglilgelaa
open Go.ChangeShapes Go.WideShapes Go.ChangeAt Go.RowKit Go.Proofs.Sp

/-- The world is as it was but for the counts (and what is new). -/
structure CW (b o : Nat) (w wr : World) (C : Nat → Nat) : Prop where
  os : wr.os = w.os
  tape : wr.tape = w.tape
  output : wr.output = w.output
  size : w.heap.size ≤ wr.heap.size
  block : ∀ x, x < w.heap.size → x ≠ b → wr.heap[x]? = w.heap[x]?
  cell : ∀ k, (k < o + 1 ∨ o + 5 ≤ k) → wr.cell? ⟨b, k, none⟩ = w.cell? ⟨b, k, none⟩
  cnt : ∀ k, k < 4 → wr.cell? ⟨b, o + 1 + k, none⟩ = some (.int .u64 (C k : Int))
  fz : ∀ k, wr.frozen? ⟨b, k, none⟩ = w.frozen? ⟨b, k, none⟩
theorem CW.start {b o : Nat} {w : World} {C : Nat → Nat} (h : ∀ k, k < 4 → w.cell? ⟨b, o + 1 + k, none⟩ = some (.int .u64 (C k : Int))) : CW b o w w C :=
  ⟨rfl, rfl, rfl, Nat.le_refl _, fun _ _ _ => rfl, fun _ _ => rfl, h, fun _ => rfl⟩
theorem CW.below {b o : Nat} {w wr w' : World} {C : Nat → Nat} (h : CW b o w wr C) (hb : b < w.heap.size) (k : Below wr.heap.size wr w') : CW b o w w' C := by
  have hs := h.size
  refine ⟨k.os.trans h.os, k.tape.trans h.tape, k.output.trans h.output, Nat.le_trans hs k.size, fun x hx hne => by rw [k.block x (by omega)]; exact h.block x hx hne, fun j hj => ?_, fun j hj => ?_, fun j => ?_⟩
  · rw [k.cell (p := ⟨b, j, none⟩) (show b < _ by omega)]; exact h.cell j hj
  · rw [k.cell (p := ⟨b, o + 1 + j, none⟩) (show b < _ by omega)]; exact h.cnt j hj
  · rw [k.frozen (p := ⟨b, j, none⟩) (show b < _ by omega)]; exact h.fz j
theorem CW.put {b o : Nat} {w wr : World} {C : Nat → Nat} (h : CW b o w wr C) (k : Nat) (hk : k < 4) (x : Nat) : CW b o w (wr.setCell ⟨b, o + 1 + k, none⟩ (.int .u64 (x : Int))) (fun j => if j = k then x else C j) := by
  refine ⟨h.os, h.tape, h.output, by simpa using h.size, fun y hy hne => ?_, fun j hj => ?_, fun j hj => ?_, fun j => ?_⟩
  · rw [Below.heap_setCell _ _ _ _ (by simpa using hne)]; exact h.block y hy hne
  · rw [World.cell?_setCell_other _ _ _ _ (by intro e; cases e; omega)]; exact h.cell j hj
  · by_cases e : j = k
    · subst e; rw [if_pos rfl]; exact World.cell?_setCell_same _ _ _ (h.cnt j hj)
    · rw [if_neg e, World.cell?_setCell_other _ _ _ _ (by intro e0; have := congrArg Addr.off e0; simp at this; omega)]; exact h.cnt j hj
  · rw [World.frozen?_setCell]; exact h.fz j
/-- A cell of an old block, other than the counts. -/
theorem CW.old {b o : Nat} {w wr : World} {C : Nat → Nat} (h : CW b o w wr C) {x k : Nat} (hx : x < w.heap.size) (hne : x ≠ b ∨ k < o + 1 ∨ o + 5 ≤ k) : wr.cell? ⟨x, k, none⟩ = w.cell? ⟨x, k, none⟩ := by
  by_cases e : x = b
  · subst e; exact h.cell k (hne.resolve_left (fun z => z rfl))
  · exact World.cell?_of_block (h.block x hx e)
theorem CW.listAt {b o g cap : Nat} {w wr : World} {C : Nat → Nat} {R : List (Nat × Nat)} (h : CW b o w wr C) (hL : ListAt w b o g cap R) (hg : g ≠ b) : ListAt wr b o g cap R :=
  ⟨by rw [h.old (cell_lt hL.list) (Or.inr (Or.inl (by omega)))]; exact hL.list, fun i hi => by rw [h.old (cell_lt (hL.first i hi)) (Or.inl hg)]; exact hL.first i hi, fun i hi => by rw [h.old (cell_lt (hL.state i hi)) (Or.inl hg)]; exact hL.state i hi⟩
theorem CW.holds {b o g cap : Nat} {w wr : World} {C : Nat → Nat} {R : List (Nat × Nat)} (h : CW b o w wr C) (hL : HoldsR w g cap R) (hg : g ≠ b) : HoldsR wr g cap R := by
  obtain ⟨⟨cur, hr, ht⟩, hl⟩ := hL
  exact ⟨⟨cur, ⟨by rw [h.block g (Array.getElem?_eq_some_iff.1 hr.heap).1 hg]; exact hr.heap, hr.len, hr.cap⟩, ht⟩, hl⟩

/-- How the rows lie: the list at ⟨b, o⟩, its rows in block g, the four counts behind it. -/
structure RowsM (w : World) (b o g cap : Nat) (R : List (Nat × Nat)) (f : Nat → Nat) : Prop where
  list : w.cell? ⟨b, o, none⟩ = some (.slice (some ⟨g, 0, none⟩) R.length cap)
  holds : HoldsR w g cap R
  cnt : ∀ k, k < 4 → w.cell? ⟨b, o + 1 + k, none⟩ = some (.int .u64 (cntI f 0 34359738368 k : Nat))
  fz : ∀ k, w.frozen? ⟨b, k, none⟩ = false
  seg : Seg f 0 R 34359738368
  alt : Alt R
  le3 : ∀ p, f p ≤ 3
  ne : g ≠ b
theorem RowsM.listAt {w : World} {b o g cap : Nat} {R : List (Nat × Nat)} {f : Nat → Nat} (h : RowsM w b o g cap R f) : ListAt w b o g cap R := by
  obtain ⟨⟨cur, hr, ht⟩, hl⟩ := h.holds
  have hc := src_cells0 hr ht
  refine ⟨h.list, fun i hi => ?_, fun i hi => ?_⟩
  · have := hc _ _ (flat2_get R i hi).1
    rwa [addr_add0, Nat.zero_add] at this
  · have := hc _ _ (flat2_get R i hi).2
    rwa [addr_add0, Nat.zero_add] at this
theorem cnt_set (f : Nat → Nat) (first n s L k : Nat) (h : first + n ≤ L) : cntI (putSt f first (first + n) s) 0 L k + cntI f first n k = cntI f 0 L k + if s = k then n else 0 := by
  obtain ⟨t, rfl⟩ : ∃ t, L = first + n + t := ⟨L - (first + n), by omega⟩
  rw [cntI_add, cntI_add, cntI_add (n := first + n), cntI_add (n := first), Nat.zero_add, Nat.zero_add]
  have e1 : cntI (putSt f first (first + n) s) 0 first k = cntI f 0 first k := by
    unfold cntI
    refine List.countP_congr fun p hp => ?_
    have := List.mem_range'_1.1 hp
    unfold putSt
    rw [if_neg (by omega)]
  have e2 : cntI (putSt f first (first + n) s) first n k = if s = k then n else 0 := cntI_all fun p h1 h2 => by unfold putSt; rw [if_pos ⟨h1, h2⟩]
  have e3 : cntI (putSt f first (first + n) s) (first + n) t k = cntI f (first + n) t k := by
    unfold cntI
    refine List.countP_congr fun p hp => ?_
    have := List.mem_range'_1.1 hp
    unfold putSt
    rw [if_neg (by omega)]
  rw [e1, e2, e3]
  omega
theorem cntI_sub (f : Nat → Nat) (first n L k : Nat) (h : first + n ≤ L) : cntI f first n k ≤ cntI f 0 L k := by
  obtain ⟨t, rfl⟩ : ∃ t, L = first + n + t := ⟨L - (first + n), by omega⟩
  rw [cntI_add, cntI_add, Nat.zero_add]
  omega
end Go.Proofs.Ytpceigglilgelaa
