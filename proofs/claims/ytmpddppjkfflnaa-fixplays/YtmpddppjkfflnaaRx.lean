/- The reference's store of records: contracts. -/
import Derived.Test.YtmpddppjkfflnaaFz
import Derived.Test.YtmpddppjkfflnaaRb
import Derived.WalkSmall
namespace Go.Proofs.Ytmpddppjkfflnaa
open Go.ChangeShapes Go.WideShapes Go.ChangeAt Go.RowKit Go.Shelf Go.Proofs.Rx Go.Maps
set_option linter.unusedVariables false
set_option linter.unusedSimpArgs false

attribute [local go_sem] Oper.semAt_some

/-- Those that were given back, as numbers, the last one last. -/
def bkL (B : List Nat) : List Int := B.reverse.map (fun i : Nat => (i : Int))
theorem bkL_len (B : List Nat) : (bkL B).length = B.length := by simp [bkL]
theorem bkL_cons (i : Nat) (B : List Nat) : bkL (i :: B) = bkL B ++ [(i : Int)] := by simp [bkL]
/-- How it lies: the truths v, those given back u. -/
structure RxAt (N : Nat) (W : World) (rb : Nat) (v u : Value) (s : Int) (L : List Bool) (B : List Nat) : Prop where
  bk : Bk W rb 57 #[.int .i64 s, .int .i64 (L.length : Nat), v, u]
  row : W.ownsRow N 4 1 v L.length (L.map encB)
  back : W.ownsRow N 3 1 u B.length ((bkL B).map encI)
  x : N ≤ rb
  n0 : v.ownBlock ≠ some rb
  n1 : u.ownBlock ≠ some rb
  n2 : ∀ g, v.ownBlock = some g → u.ownBlock ≠ some g
def ownR (rb : Nat) (v u : Value) (z : Nat) : Prop := z = rb ∨ v.ownBlock = some z ∨ u.ownBlock = some z
section
variable {N : Nat} {W W' : World} {rb : Nat} {v u : Value} {s : Int} {L : List Bool} {B : List Nat}
theorem RxAt.kept {F : Nat → Prop} (h : RxAt N W rb v u s L B) (k : Kept F W W') (hF : ∀ z, ownR rb v u z → ¬ F z) : RxAt N W' rb v u s L B :=
  ⟨h.bk.kept k (hF _ (.inl rfl)), owns_kept h.row k (fun g hg => hF _ (.inr (.inl hg))), owns_kept h.back k (fun g hg => hF _ (.inr (.inr hg))), h.x, h.n0, h.n1, h.n2⟩
theorem RxAt.below (h : RxAt N W rb v u s L B) (k : Below W.heap.size W W') : RxAt N W' rb v u s L B := h.kept (Kept.of_below (F := fun _ => False) k) (fun _ _ f => f)
theorem RxAt.own (h : RxAt N W rb v u s L B) {z : Nat} (hz : ownR rb v u z) : N ≤ z ∧ z < W.heap.size := by
  rcases hz with rfl | hz | hz
  · exact ⟨h.x, h.bk.lt⟩
  · exact own_ge h.row hz
  · exact own_ge h.back hz
theorem RxAt.cellAt (h : RxAt N W rb v u s L B) {j : Nat} (hj : j < L.length) {x : Bool} (hx : L[j]? = some x) : ∃ g cap, v = .slice (some ⟨g, 0, none⟩) L.length cap ∧ W.cell? ⟨g, j, none⟩ = some (.bool x) ∧ W.frozen? ⟨g, j, none⟩ = false := by
  obtain ⟨g, cap, e, _, _⟩ := h.row.form (by omega)
  have r := h.row
  rw [e] at r
  refine ⟨g, cap, e, ?_, r.frozenAt j⟩
  rw [r.cellAt j (by omega), List.getElem?_map, hx]
  rfl
/-! ### Live, Count, Bytes, New -/
theorem rlive_any (h : RxAt N W rb v u s L B) (hL : L.length ≤ 100000) (i : Int) (h0 : -9223372036854775808 ≤ i) :
    Calls Try.prog 19 #[.pointer (some ⟨rb, 0, none⟩), .int .i64 i] W fun e W' => e = .returned (.bool (lv L i)) ∧ W' = W := by
  have y1 := h.bk.cell 1 _ rfl
  have y2 := h.bk.cell 2 _ rfl
  obtain ⟨m, hm⟩ : ∃ m : Nat, L.length = m := ⟨_, rfl⟩
  by_cases c1 : 1 ≤ i
  · have d1 : decide (1 ≤ i) = true := decide_eq_true c1
    by_cases c2 : i ≤ L.length
    · obtain ⟨g, cap, rfl, x1, -⟩ := h.cellAt (j := i.toNat - 1) (by omega) (lv_in c1 c2 _ rfl)
      rw [hm] at y1 y2 c2 hL
      have d2 : decide (i ≤ (m : Int)) = true := decide_eq_true c2
      have w1 : IntKind.i64.wrap (i - 1) = i - 1 := by rw [IntKind.wrap_i64]; omega
      have e1 : (i - 1).toNat = i.toNat - 1 := by omega
      generalize lv L i = X at *
      clear h hm
      go_enter Try.func19, Try.ntmps19
      go_wp2_with fail
      go_ret
      exact ⟨rfl, rfl⟩
    · rw [lv_out (.inr (by omega))]
      rw [hm] at y1 c2 hL
      have d2 : decide (i ≤ (m : Int)) = false := decide_eq_false c2
      clear h hm y2
      go_enter Try.func19, Try.ntmps19
      go_wp2_with fail
      go_ret
      exact ⟨rfl, rfl⟩
  · rw [lv_out (.inl (by omega))]
    have d1 : decide (1 ≤ i) = false := decide_eq_false c1
    clear h hm
    go_enter Try.func19, Try.ntmps19
    go_wp2_with fail
    go_ret
    exact ⟨rfl, rfl⟩
theorem rcount_any (h : RxAt N W rb v u s L B) (hL : L.length ≤ 100000) (hB : B.length ≤ L.length) : Calls Try.prog 21 #[.pointer (some ⟨rb, 0, none⟩)] W fun e W' => e = .returned (.int .i64 ((L.length : Int) - B.length)) ∧ ∃ j, W' = W.drewN j := by
  have y1 := h.bk.cell 1 _ rfl
  have y3 := h.bk.cell 3 _ rfl
  obtain ⟨o, cap, rfl⟩ := row_form h.back
  obtain ⟨m, hm⟩ : ∃ m : Nat, L.length = m := ⟨_, rfl⟩
  obtain ⟨n, hn⟩ : ∃ n : Nat, B.length = n := ⟨_, rfl⟩
  rw [hm, hn] at hB ⊢
  rw [hm] at y1 hL
  rw [hn] at y3
  have w1 : IntKind.i64.wrap ((m : Int) - (n : Int)) = (m : Int) - (n : Int) := by rw [IntKind.wrap_i64]; omega
  clear h hm hn
  go_enter Try.func21, Try.ntmps21
  go_wp2_with fail
  first | (go_ret; exact ⟨rfl, 0, rfl⟩) | (go_quiet (fail); go_wp2_with fail; go_ret; exact ⟨rfl, _, rfl⟩)
theorem rbytes_any (h : RxAt N W rb v u s L B) (hL : L.length ≤ 100000) (h1 : 1 ≤ s) (h2 : s ≤ 16384) :
    Calls Try.prog 23 #[.pointer (some ⟨rb, 0, none⟩)] W fun e W' => e = .returned (.int .i64 (byV L.length (16384 / s))) ∧ ∃ j, W' = W.drewN j := by
  have y0 := h.bk.cell 0 _ rfl
  have y1 := h.bk.cell 1 _ rfl
  obtain ⟨m, hm⟩ : ∃ m : Nat, L.length = m := ⟨_, rfl⟩
  rw [hm] at y1 hL ⊢
  have z : (s == 0) = false := by simp; omega
  have q0 : (16384 : Int).tdiv s = 16384 / s := Int.tdiv_eq_ediv_of_nonneg (by omega)
  have q9 : 1 ≤ 16384 / s := (Int.le_ediv_iff_mul_le (by omega)).2 (by omega)
  have q8 : 16384 / s ≤ 16384 := Int.ediv_le_self _ (by omega)
  have q3 : IntKind.i64.wrap (16384 / s) = 16384 / s := by rw [IntKind.wrap_i64]; omega
  generalize 16384 / s = a at *
  obtain ⟨s1, s2⟩ := ceil_small (m : Int) a (by omega) (by omega) q9 q8
  have r0 : ((m : Int) + a - 1).tdiv a = ((m : Int) + a - 1) / a := Int.tdiv_eq_ediv_of_nonneg (by omega)
  unfold byV
  have w1 : IntKind.i64.wrap ((m : Int) + a) = (m : Int) + a := by rw [IntKind.wrap_i64]; omega
  have w2 : IntKind.i64.wrap ((m : Int) + a - 1) = (m : Int) + a - 1 := by rw [IntKind.wrap_i64]; omega
  have w3 : IntKind.i64.wrap (((m : Int) + a - 1) / a) = ((m : Int) + a - 1) / a := by rw [IntKind.wrap_i64]; omega
  have w4 : IntKind.i64.wrap (((m : Int) + a - 1) / a * 16384) = ((m : Int) + a - 1) / a * 16384 := by rw [IntKind.wrap_i64]; omega
  have az : (a == 0) = false := by simp; omega
  clear h hm
  go_enter Try.func23, Try.ntmps23
  go_wp2_with fail
  first | (go_ret; exact ⟨rfl, 0, rfl⟩) | (go_quiet (fail); go_wp2_with fail; go_ret; exact ⟨rfl, _, rfl⟩)
theorem rnew_no (s : Int) (h : s < 1 ∨ 16384 < s) (w : World) :
    Calls Try.prog 8 #[.int .i64 s] w fun e w' => e = .returned (.tuple #[.pointer none, .int .i64 1]) ∧ w' = w := by
  by_cases c1 : s < 1
  · have d1 : decide (s < 1) = true := decide_eq_true c1
    go_enter Try.func8, Try.ntmps8
    go_wp2_with fail
    go_ret2
    exact ⟨rfl, rfl⟩
  · have d1 : decide (s < 1) = false := decide_eq_false c1
    have d2 : decide (16384 < s) = true := decide_eq_true (h.resolve_left c1)
    go_enter Try.func8, Try.ntmps8
    go_wp2_with fail
    go_ret2
    exact ⟨rfl, rfl⟩
theorem rnew_ok (s : Int) (h1 : 1 ≤ s) (h2 : s ≤ 16384) (w : World) :
    Calls Try.prog 8 #[.int .i64 s] w fun e w' => e = .returned (.tuple #[.pointer (some ⟨w.heap.size, 0, none⟩), .int .i64 0]) ∧ w' = w.alloc (.cells #[.int .i64 s, .int .i64 0, .slice none 0 0, .slice none 0 0] 57) := by
  have d1 : decide (s < 1) = false := decide_eq_false (by omega)
  have d2 : decide (16384 < s) = false := decide_eq_false (by omega)
  go_enter Try.func8, Try.ntmps8
  go_wp2_with fail
  go_ret2
  exact ⟨rfl, rfl⟩
theorem RxAt.new (hN : N ≤ W.heap.size) (s : Int) : RxAt N (W.alloc (.cells #[.int .i64 s, .int .i64 0, .slice none 0 0, .slice none 0 0] 57)) W.heap.size (.slice none 0 0) (.slice none 0 0) s [] [] :=
  ⟨World.alloc_heap_new W _, World.ownsRow_nil _ _ _ _, World.ownsRow_nil _ _ _ _, hN, by simp [Value.ownBlock], by simp [Value.ownBlock], by simp [Value.ownBlock]⟩
/-! ### What is written -/
/-- One truth is set. -/
theorem RxAt.setOut {g cap : Nat} (h : RxAt N W rb (.slice (some ⟨g, 0, none⟩) L.length cap) u s L B) (j : Nat) (x : Bool) :
    RxAt N (W.setCell ⟨g, j, none⟩ (.bool x)) rb (.slice (some ⟨g, 0, none⟩) L.length cap) u s (L.set j x) B ∧ Kept (fun z => z = g) W (W.setCell ⟨g, j, none⟩ (.bool x)) := by
  have k := kept_set (F := fun z => z = g) W g j (.bool x) rfl
  refine ⟨⟨?_, ?_, owns_kept h.back k (fun z hz e => h.n2 g rfl (e ▸ hz)), h.x, h.n0, h.n1, h.n2⟩, k⟩
  · have := h.bk.kept k (fun e => h.n0 (by rw [e]; rfl))
    rw [List.length_set]
    exact this
  · have := (h.row.stored j (.bool x)).1
    rw [List.length_set, List.map_set]
    exact this
/-- One record more than ever. -/
theorem RxAt.grow (h : RxAt N W rb v u s L B) (hN : N ≤ W.heap.size) (hk : L.length < 100000) (ty : TypeId) :
    ∃ g cap Y, (Builtin.append_ #[52, 52] ty #[v, .slice (some ⟨W.heap.size, 0, none⟩) 1 1]).run Try.prog ((W.setCell ⟨rb, 1, none⟩ (.int .i64 ((L.length : Int) + 1))).alloc (.cells #[.bool true] 4)) = .ok (.slice (some ⟨g, 0, none⟩) (L.length + 1) cap) Y ∧ Bk Y rb 57 #[.int .i64 s, .int .i64 ((L.length : Int) + 1), v, u] ∧
      RxAt N (Y.setCell ⟨rb, 2, none⟩ (.slice (some ⟨g, 0, none⟩) (L.length + 1) cap)) rb (.slice (some ⟨g, 0, none⟩) (L.length + 1) cap) u s (L ++ [true]) B ∧ Kept (ownR rb v u) W (Y.setCell ⟨rb, 2, none⟩ (.slice (some ⟨g, 0, none⟩) (L.length + 1) cap)) ∧ ∀ z, ownR rb (.slice (some ⟨g, 0, none⟩) (L.length + 1) cap) u z → ownR rb v u z ∨ W.heap.size ≤ z := by
  have k0 := kept_set (F := fun z => z = rb) W rb 1 (.int .i64 ((L.length : Int) + 1)) rfl
  have b0 := h.bk.set 1 (.int .i64 ((L.length : Int) + 1))
  have o0 := owns_kept h.row k0 (fun g hg e => h.n0 (e ▸ hg))
  have o1 := owns_kept h.back k0 (fun g hg e => h.n1 (e ▸ hg))
  have xl := h.bk.lt
  generalize hW1 : W.setCell ⟨rb, 1, none⟩ (.int .i64 ((L.length : Int) + 1)) = W1 at *
  have s1 : W1.heap.size = W.heap.size := by rw [← hW1]; simp
  have b2 := below_alloc W1 (.cells #[.bool true] 4)
  have kb : Kept (fun _ => False) W1 (W1.alloc (.cells #[.bool true] 4)) := Kept.of_below b2
  have n2 := World.alloc_heap_new W1 (.cells #[.bool true] 4)
  obtain ⟨g, cap, Y, r1, r2, r3, r4, r5⟩ := bools_more (owns_kept o0 kb (fun _ _ f => f)) hk W1.heap.size true n2 (by rw [World.size_alloc]; omega) ty
  rw [World.size_alloc] at r4
  rw [s1] at r1
  have gx : g ≠ rb := by
    rcases r4 with z | z
    · exact fun e => h.n0 (e ▸ z)
    · omega
  have gu : u.ownBlock ≠ some g := fun e => by
    rcases r4 with z | z
    · exact h.n2 g z e
    · have := (own_ge h.back e).2; omega
  have kz := kept_set (F := fun z => z = rb) Y rb 2 (.slice (some ⟨g, 0, none⟩) (L.length + 1) cap) rfl
  have bkY := (b0.kept kb (fun f => f)).kept r3 h.n0
  refine ⟨g, cap, Y, r1, bkY, ⟨?_, by rw [List.length_append, List.length_singleton]; exact owns_kept r2 kz (fun z hz => by rw [← own_eq hz]; exact gx), owns_kept (owns_kept (owns_kept o1 kb (fun _ _ f => f)) r3 (fun z hz y => h.n2 z y hz)) kz (fun z hz y => h.n1 (y ▸ hz)), h.x, (fun z => gx (own_eq z)), h.n1, (fun z hz y => by rw [← own_eq hz] at y; exact gu y)⟩, ?_, fun z hz => ?_⟩
  · have := bkY.set 2 (.slice (some ⟨g, 0, none⟩) (L.length + 1) cap)
    rw [List.length_append, List.length_singleton]
    exact this
  · refine (((k0.mono (G := ownR rb v u) fun z hz => .inl hz).trans (Kept.of_below (F := ownR rb v u) b2) (fun _ _ f => f)).trans (r3.mono (G := ownR rb v u) fun z hz => .inr (.inl hz)) (fun _ _ f => f)).trans (kz.mono (G := ownR rb v u) fun z hz => .inl hz) (fun _ _ f => f)
  · rcases hz with hz | hz | hz
    · exact .inl (.inl hz)
    · rcases r4 with r | r
      · exact .inl (.inr (.inl (own_eq hz ▸ r)))
      · exact .inr (by rw [← own_eq hz]; omega)
    · exact .inl (.inr (.inr hz))
/-- One more that was given back. -/
theorem RxAt.pushB (h : RxAt N W rb v u s L B) (hN : N ≤ W.heap.size) (hk : B.length < 100000) (i : Nat) (ty : TypeId) :
    ∃ g cap Y, (Builtin.append_ #[47, 47] ty #[u, .slice (some ⟨W.heap.size, 0, none⟩) 1 1]).run Try.prog (W.alloc (.cells #[.int .i64 (i : Nat)] 3)) = .ok (.slice (some ⟨g, 0, none⟩) (B.length + 1) cap) Y ∧ Bk Y rb 57 #[.int .i64 s, .int .i64 (L.length : Nat), v, u] ∧
      RxAt N (Y.setCell ⟨rb, 3, none⟩ (.slice (some ⟨g, 0, none⟩) (B.length + 1) cap)) rb v (.slice (some ⟨g, 0, none⟩) (B.length + 1) cap) s L (i :: B) ∧ Kept (ownR rb v u) W (Y.setCell ⟨rb, 3, none⟩ (.slice (some ⟨g, 0, none⟩) (B.length + 1) cap)) ∧ ∀ z, ownR rb v (.slice (some ⟨g, 0, none⟩) (B.length + 1) cap) z → ownR rb v u z ∨ W.heap.size ≤ z := by
  have xl := h.bk.lt
  have b2 := below_alloc W (.cells #[.int .i64 (i : Nat)] 3)
  have h2 := h.below b2
  have n2 := World.alloc_heap_new W (.cells #[.int .i64 (i : Nat)] 3)
  obtain ⟨g, cap, Y, r1, r2, r3, r4, r5⟩ := ints_more h2.back hk W.heap.size i n2 (by rw [World.size_alloc]; omega) ty
  rw [World.size_alloc] at r4
  have gx : g ≠ rb := by
    rcases r4 with z | z
    · exact fun e => h.n1 (e ▸ z)
    · omega
  have gv : v.ownBlock ≠ some g := fun e => by
    rcases r4 with z | z
    · exact h.n2 g e z
    · have := (own_ge h.row e).2; omega
  have kz := kept_set (F := fun z => z = rb) Y rb 3 (.slice (some ⟨g, 0, none⟩) (B.length + 1) cap) rfl
  have bkY := h2.bk.kept r3 h.n1
  refine ⟨g, cap, Y, r1, bkY, ⟨bkY.set 3 _, owns_kept (owns_kept h2.row r3 (fun z hz y => h.n2 z hz y)) kz (fun z hz y => h.n0 (y ▸ hz)), ?_, h.x, h.n0, (fun z => gx (own_eq z)), (fun z hz y => by rw [← own_eq y] at hz; exact gv hz)⟩, ?_, fun z hz => ?_⟩
  · rw [List.length_cons, bkL_cons]
    exact owns_kept r2 kz (fun z hz => by rw [← own_eq hz]; exact gx)
  · refine ((Kept.of_below b2).trans (r3.mono (G := ownR rb v u) fun z hz => ?_) (fun _ _ f => f)).trans (kz.mono (G := ownR rb v u) fun z hz => .inl hz) (fun _ _ f => f)
    exact .inr (.inr hz)
  · rcases hz with hz | hz | hz
    · exact .inl (.inl hz)
    · exact .inl (.inr (.inl hz))
    · rcases r4 with r | r
      · exact .inl (.inr (.inr (own_eq hz ▸ r)))
      · exact .inr (by rw [← own_eq hz]; omega)
/-- The last one is taken off. -/
theorem RxAt.popB {i : Nat} {g cap : Nat} (h : RxAt N W rb v (.slice (some ⟨g, 0, none⟩) (B.length + 1) cap) s L (i :: B)) :
    RxAt N (W.setCell ⟨rb, 3, none⟩ (.slice (some ⟨g, 0, none⟩) B.length cap)) rb v (.slice (some ⟨g, 0, none⟩) B.length cap) s L B ∧ Kept (fun z => z = rb) W (W.setCell ⟨rb, 3, none⟩ (.slice (some ⟨g, 0, none⟩) B.length cap)) := by
  have k := kept_set (F := fun z => z = rb) W rb 3 (.slice (some ⟨g, 0, none⟩) B.length cap) rfl
  have b := h.back
  rw [List.length_cons, bkL_cons, List.map_append] at b
  have b' := ownsRow_pop (by simp [bkL_len]) b
  refine ⟨⟨h.bk.set 3 _, owns_kept h.row k (fun z hz y => h.n0 (y ▸ hz)), owns_kept b' k (fun z hz y => h.n1 (by rw [← own_eq hz] at y; rw [y]; rfl)), h.x, h.n0, (fun z => h.n1 (by rw [← own_eq z]; rfl)), (fun z hz y => h.n2 z hz (by rw [← own_eq y]; rfl))⟩, k⟩
theorem RxAt.backAt {i : Nat} (h : RxAt N W rb v u s L (i :: B)) : ∃ g cap, u = .slice (some ⟨g, 0, none⟩) (B.length + 1) cap ∧ W.cell? ⟨g, B.length, none⟩ = some (.int .i64 (i : Nat)) ∧ B.length + 1 ≤ cap := by
  obtain ⟨g, cap, e, _, _⟩ := h.back.form (by simp)
  rw [List.length_cons] at e
  refine ⟨g, cap, e, ?_⟩
  have b := h.back
  rw [e, List.length_cons] at b
  refine ⟨?_, ?_⟩
  · rw [b.cellAt B.length (by omega), bkL_cons, List.map_append, List.getElem?_append_right (by simp [bkL_len])]
    simp [bkL_len, encI]
  · rcases b.2 with ⟨z, _⟩ | ⟨g', cap', cur, z, _, _, z2, _⟩
    · cases z
    · cases z; exact z2
/-- What a change leaves. -/
def RxTo (N : Nat) (W W' : World) (rb : Nat) (v u : Value) (s : Int) (L : List Bool) (B : List Nat) : Prop :=
  ∃ v' u', RxAt N W' rb v' u' s L B ∧ Kept (ownR rb v u) W W' ∧ ∀ z, ownR rb v' u' z → ownR rb v u z ∨ W.heap.size ≤ z
set_option maxRecDepth 100000 in
theorem rtake_new (h : RxAt N W rb v u s L []) (hN : N ≤ W.heap.size) (hk : L.length < 100000) :
    Calls Try.prog 15 #[.pointer (some ⟨rb, 0, none⟩)] W fun e W' => e = .returned (.int .i64 ((L.length : Int) + 1)) ∧ RxTo N W W' rb v u s (L ++ [true]) [] := by
  obtain ⟨o, cap0, e0⟩ := row_form h.back
  rw [List.length_nil] at e0
  have y1 := h.bk.cell 1 _ rfl
  have f1 := h.bk.fz 1
  have y2 := (h.bk.set 1 (.int .i64 ((L.length : Int) + 1))).cell 2 _ rfl
  have y3 := h.bk.cell 3 _ rfl
  obtain ⟨g, cap, Y, r1, r2, r3, r4, r5⟩ := h.grow hN hk 52
  rw [e0] at y3
  have z2 := r2.cell 2 _ rfl
  have f2 := r2.fz 2
  have z1 := (r2.set 2 (.slice (some ⟨g, 0, none⟩) (L.length + 1) cap)).cell 1 _ rfl
  obtain ⟨m, hm⟩ : ∃ m : Nat, L.length = m := ⟨_, rfl⟩
  have R := hide (And.intro r3 (And.intro r4 r5))
  rw [hm] at y1 y2 r1 z1 hk R ⊢
  have RUN := hide r1
  have w1 : IntKind.i64.wrap ((m : Int) + 1) = (m : Int) + 1 := by rw [IntKind.wrap_i64]; omega
  clear h r1 r2 r3 r4 r5 e0
  go_enter Try.func15, Try.ntmps15
  go_wp2_with (at_builtin; refine list_append_run (by rfl) (.tmp 50) (.tmp 51) 52 (by rfl) (by rfl) (by rfl) RUN.out ?_)
  go_ret
  exact ⟨rfl, _, _, R.out.1, R.out.2.1, R.out.2.2⟩
set_option maxRecDepth 100000 in
theorem rtake_old {i : Nat} (h : RxAt N W rb v u s L (i :: B)) (h1 : 1 ≤ i) (h2 : i ≤ L.length) (hk : L.length ≤ 100000) (hb : B.length ≤ 100000) :
    Calls Try.prog 15 #[.pointer (some ⟨rb, 0, none⟩)] W fun e W' => e = .returned (.int .i64 (i : Nat)) ∧ RxTo N W W' rb v u s (L.set (i - 1) true) B := by
  obtain ⟨gb, capb, e0, c0, cb⟩ := h.backAt
  subst e0
  have y3 := h.bk.cell 3 _ rfl
  have f3 := h.bk.fz 3
  obtain ⟨s1, k1⟩ := h.popB
  have y2 := s1.bk.cell 2 _ rfl
  obtain ⟨g, cap, e', q1, q2⟩ := s1.cellAt (j := i - 1) (by omega) (List.getElem?_eq_getElem (by omega))
  generalize L[i - 1]'(by omega) = X at q1
  subst e'
  obtain ⟨s2, k2⟩ := s1.setOut (i - 1) true
  have KK := hide (show Kept (ownR rb (.slice (some ⟨g, 0, none⟩) L.length cap) (.slice (some ⟨gb, 0, none⟩) (B.length + 1) capb)) W _ from (k1.mono (G := ownR rb (.slice (some ⟨g, 0, none⟩) L.length cap) (.slice (some ⟨gb, 0, none⟩) (B.length + 1) capb)) fun z hz => .inl hz).trans (k2.mono (G := ownR rb (.slice (some ⟨g, 0, none⟩) L.length cap) (.slice (some ⟨gb, 0, none⟩) (B.length + 1) capb)) fun z hz => .inr (.inl (by rw [hz]; rfl))) (fun _ _ f => f))
  have S2 := hide s2
  obtain ⟨m, hm⟩ : ∃ m : Nat, L.length = m := ⟨_, rfl⟩
  obtain ⟨n, hn⟩ : ∃ n : Nat, B.length = n := ⟨_, rfl⟩
  rw [hm] at y2
  rw [hn] at y3 y2 c0 q1 q2 S2 KK hb cb ⊢
  have cb2 : n ≤ capb := by omega
  have w0 : IntKind.i64.wrap ((i : Int) - 1) = (i : Int) - 1 := by rw [IntKind.wrap_i64]; omega
  have w1 : IntKind.i64.wrap ((n : Int) + 1 - 1) = (n : Int) := by rw [IntKind.wrap_i64]; omega
  have e1 : ((i : Int) - 1).toNat = i - 1 := by omega
  have l0 : 0 ≤ (i : Int) - 1 := by omega
  have l1 : (i : Int) - 1 < (m : Int) := by omega
  have l2 : i - 1 < m := by omega
  have d0 : decide ((0 : Int) < (n : Int) + 1) = true := decide_eq_true (by omega)
  clear h s1 s2 k1 k2 hk
  go_enter Try.func15, Try.ntmps15
  go_wp2_with fail
  go_ret
  refine ⟨rfl, _, _, S2.out, KK.out, fun z hz => .inl ?_⟩
  rcases hz with hz | hz | hz
  · exact .inl hz
  · exact .inr (.inl hz)
  · exact .inr (.inr (by rw [← own_eq hz]; rfl))
/-! ### Give -/
theorem rgive_no (h : RxAt N W rb v u s L B) (hL : L.length ≤ 100000) (i : Int) (h0 : -9223372036854775808 ≤ i) (hi : lv L i = false) :
    Calls Try.prog 17 #[.pointer (some ⟨rb, 0, none⟩), .int .i64 i] W fun e W' => e = .returned (.int .i64 31) ∧ W' = W := by
  have C := hide (rlive_any h hL i h0)
  rw [hi] at C
  clear h
  go_enter Try.func17, Try.ntmps17
  go_wp2_with fail
  refine C.out.mono ?_
  rintro e W1 ⟨rfl, hw⟩
  rw [hw]
  clear hw C W1
  go_wp2_with fail
  go_ret
  exact ⟨rfl, rfl⟩
set_option maxRecDepth 100000 in
theorem rgive_ok (h : RxAt N W rb v u s L B) (hN : N ≤ W.heap.size) (hL : L.length ≤ 100000) (hB : B.length < 100000) (i : Nat) (hi : lv L i = true) :
    Calls Try.prog 17 #[.pointer (some ⟨rb, 0, none⟩), .int .i64 (i : Nat)] W fun e W' => e = .returned (.int .i64 0) ∧ RxTo N W W' rb v u s (L.set (i - 1) false) (i :: B) := by
  have C := hide (rlive_any h hL i (by omega))
  rw [hi] at C
  obtain ⟨i1, i2⟩ := lv_le hi
  obtain ⟨m, hm⟩ : ∃ m : Nat, L.length = m := ⟨_, rfl⟩
  have w0 : IntKind.i64.wrap ((i : Int) - 1) = (i : Int) - 1 := by rw [IntKind.wrap_i64]; omega
  have e1 : ((i : Int) - 1).toNat = i - 1 := by omega
  have l0 : 0 ≤ (i : Int) - 1 := by omega
  have l1 : (i : Int) - 1 < (m : Int) := by omega
  have l2 : i - 1 < m := by omega
  obtain ⟨g, cap, e', q1, q2⟩ := h.cellAt (j := i - 1) (by omega) (List.getElem?_eq_getElem (by omega))
  generalize L[i - 1]'(by omega) = X at q1
  subst e'
  have y2 := h.bk.cell 2 _ rfl
  rw [hm] at y2
  obtain ⟨s1, k1⟩ := h.setOut (i - 1) false
  have x3 := s1.bk.cell 3 _ rfl
  obtain ⟨gb, capb, Y, r1, r2, r3, r4, r5⟩ := s1.pushB (by simpa using hN) hB i 47
  have z3 := r2.cell 3 _ rfl
  have f3 := r2.fz 3
  simp only [World.size_setCell] at r1 r5
  have RUN := hide r1
  have R3 := hide r3
  have KK := hide (show Kept (ownR rb (.slice (some ⟨g, 0, none⟩) L.length cap) u) W _ from (k1.mono (G := ownR rb (.slice (some ⟨g, 0, none⟩) L.length cap) u) fun z hz => .inr (.inl (by rw [hz]; rfl))).trans r4 (fun _ _ f => f))
  have R5 := hide r5
  clear h k1 s1 hi i1 i2 r1 r2 r3 r4 r5
  go_enter Try.func17, Try.ntmps17
  go_wp2_with fail
  refine C.out.mono ?_
  rintro e W1 ⟨rfl, hw⟩
  rw [hw]
  clear hw C W1
  go_wp2_with (at_builtin; refine list_append_run (by rfl) (.tmp 20) (.tmp 22) 47 (by rfl) (by rfl) (by rfl) RUN.out ?_)
  go_ret
  exact ⟨rfl, _, _, R3.out, KK.out, R5.out⟩
end
/-! ### With what holds of it -/
structure Rx12 (N : Nat) (W : World) (rb : Nat) (F : Nat → Prop) (s : Int) (L : List Bool) (B : List Nat) : Prop where
  ex : ∃ v u, RxAt N W rb v u s L B ∧ ∀ z, F z ↔ ownR rb v u z
  ok : Ok L B
  e0 : 1 ≤ s
  e1 : s ≤ 16384
section
variable {N : Nat} {W W' : World} {rb : Nat} {F : Nat → Prop} {s : Int} {L : List Bool} {B : List Nat}
theorem Rx12.lt (h : Rx12 N W rb F s L B) {z : Nat} (hz : F z) : N ≤ z ∧ z < W.heap.size := by
  obtain ⟨v, u, a, hF⟩ := h.ex
  exact a.own ((hF z).1 hz)
theorem Rx12.kept {G : Nat → Prop} (h : Rx12 N W rb F s L B) (k : Kept G W W') (hG : ∀ z, F z → ¬ G z) : Rx12 N W' rb F s L B := by
  obtain ⟨v, u, a, hF⟩ := h.ex
  exact ⟨⟨v, u, a.kept k (fun z hz => hG z ((hF z).2 hz)), hF⟩, h.ok, h.e0, h.e1⟩
theorem Rx12.below (h : Rx12 N W rb F s L B) (k : Below W.heap.size W W') : Rx12 N W' rb F s L B := h.kept (Kept.of_below (F := fun _ => False) k) (fun _ _ f => f)
theorem Rx12.to {v u : Value} {L' : List Bool} {B' : List Nat} (hF : ∀ z, F z ↔ ownR rb v u z) (t : RxTo N W W' rb v u s L' B') (ok : Ok L' B') (e0 : 1 ≤ s) (e1 : s ≤ 16384) :
    ∃ F', Rx12 N W' rb F' s L' B' ∧ To W W' F F' := by
  obtain ⟨v', u', a, k, n⟩ := t
  refine ⟨ownR rb v' u', ⟨⟨v', u', a, fun _ => Iff.rfl⟩, ok, e0, e1⟩, k.mono (fun z hz => (hF z).2 hz), fun z hz => ?_⟩
  rcases n z hz with y | y
  · exact .inl ((hF z).2 y)
  · exact .inr y
theorem rx_take (h : Rx12 N W rb F s L B) (hN : N ≤ W.heap.size) (hL : L.length < 100000) :
    Calls Try.prog 15 #[.pointer (some ⟨rb, 0, none⟩)] W fun e W' => e = .returned (.int .i64 (takeI L B)) ∧ ∃ F', Rx12 N W' rb F' s (takeL L B) B.tail ∧ To W W' F F' := by
  obtain ⟨v, u, a, hF⟩ := h.ex
  have le := h.ok.le
  have ok := h.ok
  cases B with
  | nil =>
    refine (rtake_new a hN hL).mono ?_
    rintro e W' ⟨rfl, t⟩
    exact ⟨rfl, Rx12.to hF t ok.take h.e0 h.e1⟩
  | cons i B =>
    obtain ⟨b1, b2⟩ := ok.bound (i := i) (by simp)
    refine (rtake_old a b1 b2 (by omega) (by simp at le; omega)).mono ?_
    rintro e W' ⟨rfl, t⟩
    exact ⟨rfl, Rx12.to hF t ok.take h.e0 h.e1⟩
theorem rx_give (h : Rx12 N W rb F s L B) (hN : N ≤ W.heap.size) (hL : L.length ≤ 100000) (i : Int) (h0 : -9223372036854775808 ≤ i) :
    Calls Try.prog 17 #[.pointer (some ⟨rb, 0, none⟩), .int .i64 i] W fun e W' => e = .returned (.int .i64 (giveE L i)) ∧ ∃ F', Rx12 N W' rb F' s (giveL L i) (giveB L B i) ∧ To W W' F F' := by
  obtain ⟨v, u, a, hF⟩ := h.ex
  unfold giveE
  by_cases c : lv L i = true
  · have ll := lv_le c
    obtain ⟨k, rfl⟩ : ∃ k : Nat, i = k := ⟨i.toNat, by omega⟩
    have ok := h.ok.give k
    have ls := h.ok.less c
    rw [if_pos c]
    refine (rgive_ok a hN hL (by omega) k c).mono ?_
    rintro e W' ⟨rfl, t⟩
    refine ⟨rfl, ?_⟩
    unfold giveL giveB at ok ⊢
    rw [if_pos c, if_pos c] at ok ⊢
    rw [Int.toNat_natCast] at ok ⊢
    exact Rx12.to hF t ok h.e0 h.e1
  · rw [if_neg c]
    refine (rgive_no a hL i h0 (by simpa using c)).mono ?_
    rintro e W' ⟨rfl, rfl⟩
    refine ⟨rfl, F, ?_, Kept.refl _ _, fun z hz => .inl hz⟩
    unfold giveL giveB
    rw [if_neg c, if_neg c]
    exact h
theorem rx_live (h : Rx12 N W rb F s L B) (hL : L.length ≤ 100000) (i : Int) (h0 : -9223372036854775808 ≤ i) :
    Calls Try.prog 19 #[.pointer (some ⟨rb, 0, none⟩), .int .i64 i] W fun e W' => e = .returned (.bool (lv L i)) ∧ W' = W := by
  obtain ⟨v, u, a, hF⟩ := h.ex
  exact rlive_any a hL i h0
theorem rx_count (h : Rx12 N W rb F s L B) (hL : L.length ≤ 100000) : Calls Try.prog 21 #[.pointer (some ⟨rb, 0, none⟩)] W fun e W' => e = .returned (.int .i64 ((L.length : Int) - B.length)) ∧ ∃ j, W' = W.drewN j := by
  obtain ⟨v, u, a, hF⟩ := h.ex
  exact rcount_any a hL h.ok.le
theorem rx_bytes (h : Rx12 N W rb F s L B) (hL : L.length ≤ 100000) : Calls Try.prog 23 #[.pointer (some ⟨rb, 0, none⟩)] W fun e W' => e = .returned (.int .i64 (byV L.length (16384 / s))) ∧ ∃ j, W' = W.drewN j := by
  obtain ⟨v, u, a, hF⟩ := h.ex
  exact rbytes_any a hL h.e0 h.e1
theorem rx_new (hN : N ≤ W.heap.size) (s : Int) (h1 : 1 ≤ s) (h2 : s ≤ 16384) :
    Calls Try.prog 8 #[.int .i64 s] W fun e W' => ∃ rb, e = .returned (.tuple #[.pointer (some ⟨rb, 0, none⟩), .int .i64 0]) ∧ Below W.heap.size W W' ∧ ∃ F, Rx12 N W' rb F s [] [] ∧ ∀ z, F z → W.heap.size ≤ z := by
  refine (rnew_ok s h1 h2 W).mono ?_
  rintro e W' ⟨rfl, rfl⟩
  refine ⟨W.heap.size, rfl, below_alloc _ _, ownR W.heap.size (.slice none 0 0) (.slice none 0 0), ⟨⟨_, _, RxAt.new hN _, fun _ => Iff.rfl⟩, Ok.nil, h1, h2⟩, fun z hz => ?_⟩
  rcases hz with hz | hz | hz
  · omega
  · simp [Value.ownBlock] at hz
  · simp [Value.ownBlock] at hz
end
end Go.Proofs.Ytmpddppjkfflnaa
