/- The reference's span is made: New, Manual, where they make one: contracts. -/
import Derived.Test.YtblfefibgoiaaaaDoorRh
namespace Go.Proofs.YtblfefibgoiaaaaDoor
open Go.ChangeShapes Go.WideShapes Go.ChangeAt Go.RowKit Go.Proofs.Sn Go.Shelf
set_option linter.unusedVariables false
set_option linter.unusedSimpArgs false

attribute [local go_sem] Oper.semAt_some

section
variable {N : Nat} {W W' : World} {rb page n : Nat} {G : Geo}
/-- Its two rows are made. -/
theorem fill_rows {X : World} (h : RfAt N X rb (.slice none 0 0) (.slice none 0 0) page G 1 [] [] 0) (hn : G.slots = n) (h1 : n ≤ 1024) (hN : N ≤ X.heap.size) :
    ∃ X2, (Instr.makeSlice 40 (.int .i64 (n : Nat)) (.int .i64 (n : Nat))).run Tryd.prog X = .ok (.slice (some ⟨X.heap.size, 0, none⟩) n n) X2 ∧ X2.cell? ⟨rb, 7, none⟩ = some (.slice none 0 0) ∧ X2.frozen? ⟨rb, 7, none⟩ = false ∧
      (X2.setCell ⟨rb, 7, none⟩ (.slice (some ⟨X.heap.size, 0, none⟩) n n)).cell? ⟨rb, 6, none⟩ = some (.int .i64 (n : Nat)) ∧
      ∃ X3, (Instr.makeSlice 40 (.int .i64 (n : Nat)) (.int .i64 (n : Nat))).run Tryd.prog (X2.setCell ⟨rb, 7, none⟩ (.slice (some ⟨X.heap.size, 0, none⟩) n n)) = .ok (.slice (some ⟨X.heap.size + 1, 0, none⟩) n n) X3 ∧ X3.cell? ⟨rb, 8, none⟩ = some (.slice none 0 0) ∧ X3.frozen? ⟨rb, 8, none⟩ = false ∧
      RfAt N (X3.setCell ⟨rb, 8, none⟩ (.slice (some ⟨X.heap.size + 1, 0, none⟩) n n)) rb (.slice (some ⟨X.heap.size, 0, none⟩) n n) (.slice (some ⟨X.heap.size + 1, 0, none⟩) n n) page G 1 (List.replicate n false) (List.replicate n false) 0 ∧
      Kept (fun z => z = rb) X (X3.setCell ⟨rb, 8, none⟩ (.slice (some ⟨X.heap.size + 1, 0, none⟩) n n)) := by
  obtain ⟨X2, q1, q2, q3, q4⟩ := make_row X n (by omega)
  have q2' := ownsRow_le q2 hN
  have kb : Kept (fun z => (Value.slice none 0 0).ownBlock = some z) X X2 := Kept.of_below q3
  have s1 := h.putU (v' := .slice (some ⟨X.heap.size, 0, none⟩) n n) (L' := List.replicate n false) (by simp; omega) q2' kb (fun z hz => .inr (Nat.le_of_eq (own_eq hz)))
  have h2 := h.below q3
  have sz : (X2.setCell ⟨rb, 7, none⟩ (.slice (some ⟨X.heap.size, 0, none⟩) n n)).heap.size = X.heap.size + 1 := by rw [World.size_setCell]; exact q4
  have y6 := s1.1.c6
  rw [hn] at y6
  refine ⟨X2, q1, h2.c7, h2.bk.fz 7, y6, ?_⟩
  obtain ⟨X3, r1, r2, r3, r4⟩ := make_row (X2.setCell ⟨rb, 7, none⟩ (.slice (some ⟨X.heap.size, 0, none⟩) n n)) n (by omega)
  rw [sz] at r1 r2
  have r2' := ownsRow_le r2 (show N ≤ X.heap.size + 1 by omega)
  have kc : Kept (fun z => (Value.slice none 0 0).ownBlock = some z) _ X3 := Kept.of_below r3
  have s2 := s1.1.putM (v' := .slice (some ⟨X.heap.size + 1, 0, none⟩) n n) (L' := List.replicate n false) (by simp; omega) r2' kc (fun z hz => .inr (by rw [sz]; exact Nat.le_of_eq (own_eq hz)))
  have h3 := s1.1.below r3
  refine ⟨X3, r1, h3.c8, h3.bk.fz 8, s2.1, ?_⟩
  have k1 : Kept (fun z => z = rb) X (X2.setCell ⟨rb, 7, none⟩ (.slice (some ⟨X.heap.size, 0, none⟩) n n)) := (Kept.of_below q3).trans (kept_set (F := fun z => z = rb) X2 rb 7 _ rfl) (fun _ _ f => f)
  exact (k1.trans (Kept.of_below (F := fun z => z = rb) r3) (fun _ _ f => f)).trans (kept_set (F := fun z => z = rb) X3 rb 8 _ rfl) (fun _ _ f => f)
theorem RfAt.bare {X : World} {p st look : Nat} (hb : Bk X rb 70 (cellsR p G st (.slice none 0 0) (.slice none 0 0) look)) (hN : N ≤ rb) : RfAt N X rb (.slice none 0 0) (.slice none 0 0) p G st [] [] look :=
  ⟨hb, World.ownsRow_nil _ _ _ _, World.ownsRow_nil _ _ _ _, hN, own_none _, own_none _, fun g hg => own_none _, by simp, by simp⟩
/-- What is made. -/
def RMade (W W' : World) (rb page : Nat) (G : Geo) (st : Nat) : Prop := ∃ v1 v2 L1 L2, RfAt W.heap.size W' rb v1 v2 page G st L1 L2 0 ∧ bl L1 = (fun _ => false) ∧ bl L2 = (fun _ => false) ∧ Below W.heap.size W W' ∧ (∀ z, ownS rb v1 v2 z → W.heap.size ≤ z)
theorem kept_new {X Y : World} (b : Below W.heap.size W X) (k : Kept (fun z => z = rb) X Y) (h : W.heap.size ≤ rb) : Below W.heap.size W Y := b.trans (k.below b.size (fun z hz => by rw [hz]; exact h))
set_option maxRecDepth 100000 in
theorem rnew_zero (page pages : Nat) (noptr : Bool) (hr : rtB page pages = true) (W : World) :
    Calls Tryd.prog 10 #[.int .u64 (page : Nat), .int .u64 (pages : Nat), .int .i64 0, .bool noptr] W fun e W' => ∃ rb, e = .returned (.tuple #[.pointer (some ⟨rb, 0, none⟩), .int .i64 0]) ∧ RMade W W' rb page (geo page pages 0 noptr (pages * 8192)) 1 := by
  obtain ⟨R, hR⟩ : ∃ R : Ending → World → Prop, R = fun e W' => ∃ rb, e = .returned (.tuple #[.pointer (some ⟨rb, 0, none⟩), .int .i64 0]) ∧ RMade W W' rb page (geo page pages 0 noptr (pages * 8192)) 1 := ⟨_, rfl⟩
  rw [← hR]
  have HR := hide hR
  clear hR
  have le := rt_le hr
  have lp := rp_le le.1
  have C := hide (rt_any page pages (by omega) (by omega) W)
  rw [hr] at C
  have sl : (geo page pages 0 noptr (pages * 8192)).slots = 1 := by show pages * 8192 / (pages * 8192) = 1; exact Nat.div_self (by omega)
  have w1 : IntKind.i64.wrap (pages : Int) = (pages : Int) := by rw [IntKind.wrap_i64]; omega
  have w2 : IntKind.i64.wrap ((pages : Int) * 8192) = (pages : Int) * 8192 := by rw [IntKind.wrap_i64]; omega
  have kb : Bk (W.alloc (.cells #[.int .u64 (page : Nat), .int .u64 (pages : Nat), .int .i64 1, .int .i64 0, .bool noptr, .int .i64 ((pages : Int) * 8192), .int .i64 1, .slice none 0 0, .slice none 0 0, .int .i64 0] 70)) W.heap.size 70 (cellsR page (geo page pages 0 noptr (pages * 8192)) 1 (.slice none 0 0) (.slice none 0 0) 0) := by
    unfold cellsR
    rw [sl, show (((geo page pages 0 noptr (pages * 8192)).elem : Nat) : Int) = (pages : Int) * 8192 from by show ((pages * 8192 : Nat) : Int) = _; push_cast; rfl]
    exact World.alloc_heap_new W _
  have r0 := RfAt.bare (N := W.heap.size) kb (Nat.le_refl _)
  obtain ⟨X2, q1, q2, q3, q4, X3, t1, t2, t3, t4, t5⟩ := fill_rows r0 sl (by omega) (by rw [World.size_alloc]; omega)
  have FF := hide (show R (.returned (.tuple #[.pointer (some ⟨W.heap.size, 0, none⟩), .int .i64 0])) _ from by
    rw [HR.out]
    refine ⟨_, rfl, ⟨_, _, _, _, t4, funext (bl_rep 1), funext (bl_rep 1), kept_new (below_alloc W _) t5 (Nat.le_refl _), fun z hz => (t4.own hz).1⟩⟩)
  simp only [World.size_alloc] at q1 q4 t1 t4 FF
  rw [show ((1 : Nat) : Int) = 1 from rfl] at q1 q4 t1
  clear HR hr le lp sl kb r0 t4 t5
  go_enter Tryd.func10, Tryd.ntmps10
  go_wp2_with fail
  refine C.out.mono ?_
  rintro e W1 ⟨rfl, hw⟩
  rw [hw]
  clear hw C W1
  go_wp2_with fail
  first | exact FF.out | (go_ret2; exact FF.out)
end
end Go.Proofs.YtblfefibgoiaaaaDoor
