/- The reference's span in memory: at, put, Count, Next, Give, SetMark, Die: contracts. -/
import Derived.Test.YtblfefibgoiaaaaDoorGd
namespace Go.Proofs.YtblfefibgoiaaaaDoor
open Go.ChangeShapes Go.WideShapes Go.ChangeAt Go.RowKit Go.Proofs.Sn Go.Shelf
set_option linter.unusedVariables false
set_option linter.unusedSimpArgs false

attribute [local go_sem] Oper.semAt_some

def bl (L : List Bool) (i : Nat) : Bool := L.getD i false
theorem bl_out {L : List Bool} {i : Nat} (h : L.length ≤ i) : bl L i = false := by
  unfold bl
  rw [List.getD_eq_getElem?_getD, List.getElem?_eq_none h]
  rfl
theorem bl_in {L : List Bool} {i : Nat} (h : i < L.length) : L[i]? = some (bl L i) := by
  unfold bl
  rw [List.getD_eq_getElem?_getD, List.getElem?_eq_getElem h]
  rfl
theorem bl_nil (i : Nat) : bl [] i = false := bl_out (by simp)
theorem bl_lt {L : List Bool} {i : Nat} (h : bl L i = true) : i < L.length := by
  apply Classical.byContradiction
  intro z
  rw [bl_out (by omega)] at h
  cases h
theorem bl_more (L : List Bool) : bl (L ++ [false]) = bl L := by
  funext i
  by_cases h : i < L.length
  · unfold bl
    rw [List.getD_eq_getElem?_getD, List.getD_eq_getElem?_getD, List.getElem?_append_left h]
  · rw [bl_out (L := L) (by omega)]
    by_cases e : i = L.length
    · unfold bl
      rw [List.getD_eq_getElem?_getD, List.getElem?_append_right (by omega), e, Nat.sub_self]
      rfl
    · exact bl_out (by simp; omega)
theorem bl_set {L : List Bool} {i : Nat} (h : i < L.length) (x : Bool) : bl (L.set i x) = upd (bl L) i x := by
  funext k
  unfold upd
  by_cases e : k = i
  · subst e
    rw [if_pos rfl]
    unfold bl
    rw [List.getD_eq_getElem?_getD, List.getElem?_set_self h]
    rfl
  · rw [if_neg e]
    unfold bl
    rw [List.getD_eq_getElem?_getD, List.getD_eq_getElem?_getD, List.getElem?_set_ne (by omega)]
theorem bl_rep (n i : Nat) : bl (List.replicate n false) i = false := by
  by_cases h : i < n
  · have := bl_in (L := List.replicate n false) (i := i) (by simpa using h)
    rw [List.getElem?_replicate, if_pos h] at this
    exact (Option.some.inj this).symm
  · exact bl_out (by simp; omega)
section
variable {N : Nat} {W W' : World} {v : Value} {L : List Bool}
theorem bcellAt (h : W.ownsRow N 4 1 v L.length (L.map encB)) {j : Nat} (hj : j < L.length) : ∃ g cap, v = .slice (some ⟨g, 0, none⟩) L.length cap ∧ W.cell? ⟨g, j, none⟩ = some (.bool (bl L j)) ∧ W.frozen? ⟨g, j, none⟩ = false := by
  obtain ⟨g, cap, e, _, _⟩ := h.form (by omega)
  have r := h
  rw [e] at r
  refine ⟨g, cap, e, ?_, r.frozenAt j⟩
  rw [r.cellAt j (by omega), List.getElem?_map, bl_in hj]
  rfl
theorem at_any (h : W.ownsRow N 4 1 v L.length (L.map encB)) (hL : L.length ≤ 100000) (i : Int) :
    Calls Tryd.prog 55 #[v, .int .i64 i] W fun e W' => e = .returned (.bool (uat (bl L) i)) ∧ W' = W := by
  by_cases c1 : 0 ≤ i
  · have d1 : decide (0 ≤ i) = true := decide_eq_true c1
    obtain ⟨k, hk⟩ : ∃ k : Nat, i = k := ⟨i.toNat, by omega⟩
    have tk : i.toNat = k := by omega
    have eu : uat (bl L) i = bl L k := by rw [hk, uat_nat]
    rw [eu]
    obtain ⟨m, hm⟩ : ∃ m : Nat, L.length = m := ⟨_, rfl⟩
    by_cases c2 : k < L.length
    · obtain ⟨g, cap, rfl, x1, -⟩ := bcellAt h c2
      generalize bl L k = x at *
      rw [hm] at c2 hL
      rw [hm]
      have d2 : decide (i < (m : Int)) = true := decide_eq_true (by omega)
      have i2 : i < (m : Int) := by omega
      clear h hm hk eu
      go_enter Tryd.func55, Tryd.ntmps55
      go_wp2_with fail
      go_ret
      exact ⟨rfl, rfl⟩
    · rw [bl_out (by omega)]
      obtain ⟨o, cap, rfl⟩ := row_form h
      rw [hm] at c2 hL
      rw [hm]
      have d2 : decide (i < (m : Int)) = false := decide_eq_false (by omega)
      clear h hm hk eu
      go_enter Tryd.func55, Tryd.ntmps55
      go_wp2_with fail
      go_ret
      exact ⟨rfl, rfl⟩
  · have d1 : decide (0 ≤ i) = false := decide_eq_false c1
    rw [uat_neg _ (by omega)]
    obtain ⟨o, cap, rfl⟩ := row_form h
    clear h
    go_enter Tryd.func55, Tryd.ntmps55
    go_wp2_with fail
    go_ret
    exact ⟨rfl, rfl⟩
/-! ### put -/
structure PutI (N : Nat) (W0 W : World) (v0 : Value) (L0 : List Bool) (k : Nat) (v : Value) (L : List Bool) : Prop where
  row : W.ownsRow N 4 1 v L.length (L.map encB)
  eq : bl L = bl L0
  le : L.length ≤ max L0.length (k + 1)
  ke : Kept (fun z => v0.ownBlock = some z) W0 W
  nw : ∀ z, v.ownBlock = some z → v0.ownBlock = some z ∨ W0.heap.size ≤ z
  hN : N ≤ W.heap.size
theorem PutI.more {W0 : World} {v0 : Value} {L0 : List Bool} {k : Nat} (h : PutI N W0 W v0 L0 k v L) (hk : L.length ≤ k) (hk2 : k < 100000) (ty : TypeId) :
    ∃ g cap Y, (Builtin.append_ #[40, 40] ty #[v, .slice (some ⟨W.heap.size, 0, none⟩) 1 1]).run Tryd.prog (W.alloc (.cells #[.bool false] 4)) = .ok (.slice (some ⟨g, 0, none⟩) (L.length + 1) cap) Y ∧ PutI N W0 Y v0 L0 k (.slice (some ⟨g, 0, none⟩) (L.length + 1) cap) (L ++ [false]) := by
  have b2 := below_alloc W (.cells #[.bool false] 4)
  have n2 := World.alloc_heap_new W (.cells #[.bool false] 4)
  have w2 := owns_kept h.row (Kept.of_below (F := fun _ => False) b2) (fun _ _ f => f)
  obtain ⟨g, cap, Y, r1, r2, r3, r4, r5⟩ := bools_more w2 (by omega) W.heap.size false n2 (by rw [World.size_alloc]; have := h.hN; omega) ty
  rw [World.size_alloc] at r4
  have kk := (Kept.of_below (F := fun z => v.ownBlock = some z) b2).trans r3 (fun _ _ f => f)
  refine ⟨g, cap, Y, r1, ⟨by rw [List.length_append, List.length_singleton]; exact r2, by rw [bl_more]; exact h.eq, by rw [List.length_append, List.length_singleton]; omega, h.ke.trans kk (fun x hx u => ?_), fun z hz => ?_, Nat.le_trans h.hN kk.size⟩⟩
  · rcases h.nw x u with y | y
    · exact y
    · omega
  · rcases r4 with r | r
    · rw [← own_eq hz]; exact h.nw g r
    · exact .inr (by rw [← own_eq hz]; have := h.ke.size; omega)
set_option maxRecDepth 100000 in
theorem put_any (h : W.ownsRow N 4 1 v L.length (L.map encB)) (hN : N ≤ W.heap.size) (k : Nat) (hk : k < 100000) (hL : L.length ≤ 100000) (x : Bool) :
    Calls Tryd.prog 56 #[v, .int .i64 (k : Nat), .bool x] W fun e W' => ∃ v' L', e = .returned v' ∧ L'.length ≤ max L.length (k + 1) ∧ bl L' = upd (bl L) k x ∧ W'.ownsRow N 4 1 v' L'.length (L'.map encB) ∧ Kept (fun z => v.ownBlock = some z) W W' ∧ ∀ z, v'.ownBlock = some z → v.ownBlock = some z ∨ W.heap.size ≤ z := by
  obtain ⟨R, hR⟩ : ∃ R : Ending → World → Prop, R = fun e W' => ∃ v' L', e = .returned v' ∧ L'.length ≤ max L.length (k + 1) ∧ bl L' = upd (bl L) k x ∧ W'.ownsRow N 4 1 v' L'.length (L'.map encB) ∧ Kept (fun z => v.ownBlock = some z) W W' ∧ ∀ z, v'.ownBlock = some z → v.ownBlock = some z ∨ W.heap.size ≤ z := ⟨_, rfl⟩
  rw [← hR]
  have HR := hide hR
  clear hR
  have S0 := hide (show PutI N W W v L k v L from ⟨h, rfl, by omega, Kept.refl _ _, fun z hz => .inl hz, hN⟩)
  clear h hN
  go_enter Tryd.func56, Tryd.ntmps56
  go_wp2_with fail
  go_loopw [0] (fun vl wr => ∃ L', Hid (PutI N W wr v L k vl L')) (fun vl _ => k + 1 - lenC (some vl))
  case atStart => exact ⟨_, S0⟩
  case round =>
    clear S0
    obtain ⟨L', HS⟩ := hrel
    obtain ⟨o, cap0, e0⟩ := row_form HS.out.row
    obtain ⟨m, hm⟩ : ∃ m : Nat, L'.length = m := ⟨_, rfl⟩
    subst e0
    by_cases c : L'.length ≤ k
    · have d : decide ((m : Int) ≤ (k : Int)) = true := decide_eq_true (by omega)
      obtain ⟨g, cap, Y, r1, r3⟩ := HS.out.more c hk 40
      rw [hm] at r1 r3 c
      rw [hm]
      have RUN := hide r1
      have R3 := hide r3
      clear r1 r3 HS hm
      go_wp2_with (at_builtin; refine list_app (by rfl) (.tmp 11) (.tmp 12) 40 (by rfl) (by rfl) (by rfl) RUN.out ?_)
      refine ⟨⟨_, R3⟩, ?_⟩
      simp only [lenC]
      omega
    · have d : decide ((m : Int) ≤ (k : Int)) = false := decide_eq_false (by omega)
      have kl : k < L'.length := by omega
      obtain ⟨g, cap', e', x1, x2⟩ := bcellAt HS.out.row kl
      obtain ⟨rfl, rfl⟩ : o = some ⟨g, 0, none⟩ ∧ cap0 = cap' := by simp at e'; exact e'
      have kz := kept_set (F := fun z => z = g) wr g k (.bool x) rfl
      have FIN := hide (show R (.returned (.slice (some ⟨g, 0, none⟩) m cap0)) (wr.setCell ⟨g, k, none⟩ (.bool x)) from by
        rw [HR.out]
        refine ⟨_, L'.set k x, rfl, ?_, ?_, ?_, HS.out.ke.trans kz (fun z hz e => ?_), fun z hz => HS.out.nw z (by rw [← own_eq hz]; rfl)⟩
        · rw [List.length_set]; exact HS.out.le
        · rw [bl_set kl, HS.out.eq]
        · have := (HS.out.row.stored k (.bool x)).1
          rw [List.length_set, List.map_set, ← hm]
          exact this
        · rcases HS.out.nw g rfl with y | y
          · exact e ▸ y
          · omega)
      have kl' : k < m := by omega
      have kk0 : 0 ≤ (k : Int) := by omega
      have kk1 : (k : Int) < (m : Int) := by omega
      rw [hm]
      clear e' hm HS kz kl
      go_wp2_with fail
      first | exact FIN.out | (go_ret; exact FIN.out)
end
end Go.Proofs.YtblfefibgoiaaaaDoor
