/- J10 of the proof of both laws: texts Xq, Xb, Xc, one behind the other. -/
import Derived.Test.YtnclicdnncgdiaaGreatDoorJ09
import Derived.Test.YtnclicdnncgdiaaGreatDoorJ06
/- The tree of rows: what lies below a row is forgotten; rows that are set: no Go in sight. -/
namespace Go.Proofs.Rx
open Go.Proofs.Bt Go.Proofs.Pk
set_option linter.unusedVariables false
set_option linter.unusedSimpArgs false

theorem sz_dvd {x y : Nat} (hx : x ≤ 6) (hy : y ≤ 6) (hxy : x ≤ y) : ∃ m, sz x = m * sz y := by
  have hx' := sz_pow x hx
  have hy' := sz_pow y hy
  have hsh : sh y ≤ sh x := by
    have : ∀ x, x ≤ 6 → ∀ y, y ≤ 6 → x ≤ y → sh y ≤ sh x := by decide
    exact this x hx y hy hxy
  exact ⟨2 ^ (sh x - sh y), by rw [hx', hy', ← Nat.pow_add]; congr 1; omega⟩
/-- Which child a row below lies in. -/
theorem kid_of {d i d' j : Nat} (hd : d < d') (h6 : d' ≤ 6) (hj : Ins (i * sz d) ((i + 1) * sz d) d' j) : ∃ k, fan d * i ≤ k ∧ k < fan d * (i + 1) ∧ Ins (k * sz (d + 1)) ((k + 1) * sz (d + 1)) d' j := by
  obtain ⟨m, hm⟩ := sz_dvd (x := d + 1) (y := d') (by omega) h6 (by omega)
  have mp : 0 < m := by
    rcases Nat.eq_zero_or_pos m with z | z
    · rw [z, Nat.zero_mul] at hm; have := sz_pos (d + 1); omega
    · exact z
  have zp := sz_pos d'
  have e1 := sz_fan d (by omega)
  unfold Ins at hj ⊢
  rw [e1, hm] at hj
  rw [hm]
  have a1 : i * (fan d * m) ≤ j := by
    have := hj.1
    rw [show i * (fan d * (m * sz d')) = i * (fan d * m) * sz d' by simp only [Nat.mul_assoc]] at this
    exact Nat.le_of_mul_le_mul_right this zp
  have a2 : j + 1 ≤ (i + 1) * (fan d * m) := by
    have := hj.2
    rw [show (i + 1) * (fan d * (m * sz d')) = (i + 1) * (fan d * m) * sz d' by simp only [Nat.mul_assoc]] at this
    exact Nat.le_of_mul_le_mul_right this zp
  refine ⟨j / m, (Nat.le_div_iff_mul_le mp).2 (by rw [show fan d * i * m = i * (fan d * m) by rw [Nat.mul_comm (fan d), Nat.mul_assoc]]; exact a1), ?_, ?_, ?_⟩
  · rw [Nat.div_lt_iff_lt_mul mp, show fan d * (i + 1) * m = (i + 1) * (fan d * m) by rw [Nat.mul_comm (fan d), Nat.mul_assoc]]
    omega
  · rw [← Nat.mul_assoc]; exact Nat.mul_le_mul_right _ (Nat.div_mul_le_self j m)
  · rw [← Nat.mul_assoc]; exact Nat.mul_le_mul_right _ (by
      have := Nat.lt_div_mul_add (a := j) mp
      rw [Nat.succ_mul]; omega)
/-- Two rows of a depth are apart. -/
theorem ins_apart {D j k d' x : Nat} (h1 : Ins (j * sz D) ((j + 1) * sz D) d' x) (h2 : Ins (k * sz D) ((k + 1) * sz D) d' x) : j = k := by
  unfold Ins at h1 h2
  have zp := sz_pos d'
  have e : (x + 1) * sz d' = x * sz d' + sz d' := Nat.succ_mul _ _
  have a1 : j * sz D < (k + 1) * sz D := by omega
  have a2 : k * sz D < (j + 1) * sz D := by omega
  have b1 := Nat.lt_of_mul_lt_mul_right a1
  have b2 := Nat.lt_of_mul_lt_mul_right a2
  omega
theorem ins_self {d j k : Nat} (h : Ins (k * sz d) ((k + 1) * sz d) d j) : j = k := by
  unfold Ins at h
  have zp := sz_pos d
  have b1 := Nat.le_of_mul_le_mul_right h.1 zp
  have b2 := Nat.le_of_mul_le_mul_right h.2 zp
  omega
/-- Nothing but what lies below a depth, within a span, is otherwise. -/
structure Outs (D a b : Nat) (L L' : Lv) (C C' : Ch) : Prop where
  lv : ∀ d i, ¬ (D < d ∧ d ≤ 6 ∧ Ins a b d i) → L' d i = L d i
  ch : ∀ i, ¬ Ins a b 6 i → C' i = C i
theorem Outs.refl (D a b : Nat) (L : Lv) (C : Ch) : Outs D a b L L C C := ⟨fun _ _ _ => rfl, fun _ _ => rfl⟩
theorem Outs.trans {D a b : Nat} {L L' L'' : Lv} {C C' C'' : Ch} (h : Outs D a b L L' C C') (k : Outs D a b L' L'' C' C'') : Outs D a b L L'' C C'' :=
  ⟨fun d i z => (k.lv d i z).trans (h.lv d i z), fun i z => (k.ch i z).trans (h.ch i z)⟩
theorem Outs.wide {D a b D' a' b' : Nat} {L L' : Lv} {C C' : Ch} (h : Outs D a b L L' C C') (hD : D' ≤ D) (ha : a' ≤ a) (hb : b ≤ b') : Outs D' a' b' L L' C C' :=
  ⟨fun d i z => h.lv d i (fun y => z ⟨by omega, y.2.1, Nat.le_trans ha y.2.2.1, Nat.le_trans y.2.2.2 hb⟩), fun i z => h.ch i (fun y => z ⟨Nat.le_trans ha y.1, Nat.le_trans y.2 hb⟩)⟩
/-- Below a row that is not kept nothing is. -/
def Hang (L : Lv) (C : Ch) : Nat → Nat → Nat → Prop
  | 0, _, _ => True
  | n + 1, d, i => ∀ k, fan d * i ≤ k → k < fan d * (i + 1) → (L (d + 1) k = none → Bare (d + 1) (k * sz (d + 1)) ((k + 1) * sz (d + 1)) L C) ∧ Hang L C n (d + 1) k
theorem Good.hang {L : Lv} {C : Ch} {st : Nat → Nat} : ∀ {n d i : Nat} {r : Rw}, n + d = 6 → Good L C st n d i r → Hang L C n d i
  | 0, d, i, r, _, _ => trivial
  | n + 1, d, i, r, hn, h => fun k h0 h1 => by
    have g := h.kid h0 h1
    refine ⟨fun z => ?_, Good.hang (by omega) g⟩
    have e : row L (d + 1) k r.rest = Rx.even (d + 1) r.rest := by unfold row; rw [z]; rfl
    rw [e] at g
    exact Good.bare (by omega) g (al_even h.1.2.2)
theorem Hang.congr {L L' : Lv} {C C' : Ch} : ∀ {n d i : Nat}, n + d = 6 → Hang L C n d i → (∀ d' j, d < d' → Ins (i * sz d) ((i + 1) * sz d) d' j → L' d' j = L d' j) → (∀ j, Ins (i * sz d) ((i + 1) * sz d) 6 j → C' j = C j) → Hang L' C' n d i
  | 0, d, i, _, _, _, _ => trivial
  | n + 1, d, i, hn, h, hl, hc => fun k h0 h1 => by
    obtain ⟨g1, g2⟩ := h k h0 h1
    have hi := kid_ins (by omega) h0 h1
    have sub : ∀ {d' j}, Ins (k * sz (d + 1)) ((k + 1) * sz (d + 1)) d' j → Ins (i * sz d) ((i + 1) * sz d) d' j := fun z => ⟨Nat.le_trans hi.1 z.1, Nat.le_trans z.2 hi.2⟩
    refine ⟨fun z => ?_, Hang.congr (by omega) g2 (fun d' j hd hj => hl d' j (by omega) (sub hj)) (fun j hj => hc j (sub hj))⟩
    rw [hl (d + 1) k (by omega) hi] at z
    exact ⟨fun d' j hd h6 hj => (hl d' j (by omega) (sub hj)).trans ((g1 z).1 d' j hd h6 hj), fun j hj => (hc j (sub hj)).trans ((g1 z).2 j hj)⟩
theorem Bare.congr {D a b : Nat} {L L' : Lv} {C C' : Ch} (h : Bare D a b L C) (hl : ∀ d j, D < d → Ins a b d j → L' d j = L d j) (hc : ∀ j, Ins a b 6 j → C' j = C j) : Bare D a b L' C' :=
  ⟨fun d j hd h6 hj => (hl d j hd hj).trans (h.1 d j hd h6 hj), fun j hj => (hc j hj).trans (h.2 j hj)⟩
/-- All children are bare, and none is kept: the row is bare. -/
theorem bare_of_kids {L : Lv} {C : Ch} {d i : Nat} (hd : d < 6) (h : ∀ k, fan d * i ≤ k → k < fan d * (i + 1) → L (d + 1) k = none ∧ Bare (d + 1) (k * sz (d + 1)) ((k + 1) * sz (d + 1)) L C) : Bare d (i * sz d) ((i + 1) * sz d) L C := by
  refine ⟨fun d' j hd' h6 hj => ?_, fun j hj => ?_⟩
  · obtain ⟨k, k0, k1, k2⟩ := kid_of hd' h6 hj
    by_cases z : d' = d + 1
    · subst z
      rw [ins_self k2]; exact (h k k0 k1).1
    · exact (h k k0 k1).2.1 d' j (by omega) h6 k2
  · obtain ⟨k, k0, k1, k2⟩ := kid_of (d' := 6) (by omega) (by omega) hj
    exact (h k k0 k1).2.2 j k2
end Go.Proofs.Rx

/- Package radix: sizes, spans, counts: contracts. -/
namespace Go.Proofs.YtnclicdnncgdiaaGreatDoor
open Go.ChangeShapes Go.WideShapes Go.ChangeAt Go.RowKit Go.Proofs.Bt Go.Shelf Go.Proofs.Rx
set_option linter.unusedVariables false
set_option linter.unusedSimpArgs false

theorem grown1 (w : World) (o : Obj) : Below w.heap.size w (w.alloc o) := (Below.refl _ w).alloc (Nat.le_refl _) _
theorem cellLt {w : World} {b o : Nat} {v : Value} (h : w.cell? ⟨b, o, none⟩ = some v) : b < w.heap.size := World.block_lt_of_cell? w ⟨b, o, none⟩ h
theorem cases_d {d : Nat} (h : d ≤ 6) : d = 0 ∨ d = 1 ∨ d = 2 ∨ d = 3 ∨ d = 4 ∨ d = 5 ∨ d = 6 := by omega
theorem size_any (d : Nat) (hd : d ≤ 6) (w : World) (ht : TabW w) :
    Calls Tryz.prog 67 #[.int .i64 (d : Nat)] w fun e w' => e = .returned (.int .u64 (sz d : Nat)) ∧ w' = w := by
  have c := ht.2 d (by omega)
  clear ht
  rcases cases_d hd with rfl | rfl | rfl | rfl | rfl | rfl | rfl
  all_goals
    clear hd
    simp only [sh, sz, Int.cast_ofNat_Int] at c ⊢
    go_enter Tryz.func67, Tryz.ntmps67
    go_wp2
    go_ret
    exact ⟨rfl, rfl⟩
def spanV (a b : Int) : Value := .agg #[.int .u64 a, .int .u64 b]
--SLOW
set_option maxRecDepth 20000 in
theorem spanOf_any (d : Nat) (hd : d ≤ 6) (i : Int) (h0 : 0 ≤ i) (h1 : i ≤ 68719476736) (hi : (i + 1) * (sz d : Nat) ≤ 34359738368) (w : World) (ht : TabW w) :
    Calls Tryz.prog 80 #[.int .i64 (d : Nat), .int .u64 i] w fun e w' => e = .returned (spanV (i * (sz d : Nat)) ((i + 1) * (sz d : Nat))) ∧ Below w.heap.size w w' := by
  have c := ht.2 d (by omega)
  clear ht
  rcases cases_d hd with rfl | rfl | rfl | rfl | rfl | rfl | rfl
  all_goals
    clear hd
    simp only [sh, sz, Int.cast_ofNat_Int] at c hi ⊢
    go_enter Tryz.func80, Tryz.ntmps80
    go_wp2_with fail
    have c' : (w.alloc (.cells #[.int .u64 0, .int .u64 0] 92)).drew.cell? ⟨0, _, none⟩ = _ := ((grown1 w _).drew.cell (p := ⟨0, _, none⟩) (cellLt c)).trans c
    refine still_tail 12 (by kernel_rfl) (by kernel_rfl) ?_
    simp only [List.take_succ_cons, List.take_zero, List.drop_succ_cons, List.drop_zero]
    repeat still_step
    refine wpStill_nil ?_
    go_wp2_with fail
    exact bodyPost_ret (v := spanV _ _) (by simp [results, Tryz.results80, go_sem, spanV]) rfl ⟨rfl, (grown1 w _).drew⟩
/-- .. with names for both ends. -/
theorem spanOf_at (d : Nat) (hd : d ≤ 6) (i a b : Int) (h0 : 0 ≤ i) (h1 : i ≤ 68719476736) (ha : a = i * (sz d : Nat)) (hb : b = (i + 1) * (sz d : Nat)) (hi : b ≤ 34359738368) (w : World) (ht : TabW w) :
    Calls Tryz.prog 80 #[.int .i64 (d : Nat), .int .u64 i] w fun e w' => e = .returned (spanV a b) ∧ Below w.heap.size w w' := by
  subst ha hb; exact spanOf_any d hd i h0 h1 hi w ht
theorem pages_any (a b : Int) (h0 : 0 ≤ a) (h1 : a ≤ b) (h2 : b ≤ 34359738368) (w : World) :
    Calls Tryz.prog 66 #[spanV a b] w fun e w' => e = .returned (.int .u64 (b - a)) ∧ Below w.heap.size w w' := by
  unfold spanV
  go_enter Tryz.func66, Tryz.ntmps66
  go_wp2_with fail
  go_ret
  exact ⟨rfl, grown1 _ _⟩
theorem spanRows_any (a b : Int) (d : Nat) (w : World) :
    Calls Tryz.prog 71 #[spanV a b, .int .i64 (d : Nat)] w fun e w' => e = .returned (.func (.func 94) #[] #[.pointer (some ⟨w.heap.size, 0, none⟩), .pointer (some ⟨w.heap.size + 1, 0, none⟩)]) ∧
      w' = (w.alloc (.cells #[.int .u64 a, .int .u64 b] 92)).alloc (.cells #[.int .i64 (d : Nat)] 3) := by
  unfold spanV
  go_enter Tryz.func71, Tryz.ntmps71
  go_wp2_with fail
  go_ret
  exact ⟨rfl, rfl⟩
/-- Two new blocks, and what is behind them. -/
theorem alloc2_at (w : World) (x y z u : Value) (t t' : TypeId) {w1 : World} (b1 : Below ((w.alloc (.cells #[x, y] t)).alloc (.cells #[z, u] t')).heap.size ((w.alloc (.cells #[x, y] t)).alloc (.cells #[z, u] t')) w1) (N : Nat) (hN : w.heap.size = N) :
    Below N w w1 ∧ N + 2 ≤ w1.heap.size ∧ w1.cell? ⟨N, 0, none⟩ = some x ∧ w1.cell? ⟨N, 1, none⟩ = some y ∧ w1.cell? ⟨N + 1, 0, none⟩ = some z ∧ w1.cell? ⟨N + 1, 1, none⟩ = some u ∧ (∀ k, w1.frozen? ⟨N + 1, k, none⟩ = false) := by
  subst hN
  have h1 := World.alloc_heap_new (w.alloc (.cells #[x, y] t)) (.cells #[z, u] t')
  rw [World.size_alloc] at h1
  have h0 : ((w.alloc (.cells #[x, y] t)).alloc (.cells #[z, u] t')).heap[w.heap.size]? = some (.cells #[x, y] t) := (Below.heap_alloc _ _ _ (by simp)).trans (World.alloc_heap_new w _)
  have e0 := (b1.block w.heap.size (by simp; omega)).trans h0
  have e1 := (b1.block (w.heap.size + 1) (by simp)).trans h1
  refine ⟨((((Below.refl _ w).alloc (Nat.le_refl _) _).alloc (by simp) _).trans (b1.mono (by simp; omega))), by have := b1.size; simp at this; omega, ?_, ?_, ?_, ?_, fun k => ?_⟩
  · simp [World.cell?, e0]
  · simp [World.cell?, e0]
  · simp [World.cell?, e1]
  · simp [World.cell?, e1]
  · simp [World.frozen?, e1]
theorem in_any (d : Nat) (hd : d ≤ 6) (i a b A B : Int) (h0 : 0 ≤ i) (h1 : i ≤ 68719476736) (hA : A = i * (sz d : Nat)) (hB : B = (i + 1) * (sz d : Nat)) (hi : B ≤ 34359738368) (w : World) (ht : TabW w) :
    Calls Tryz.prog 65 #[spanV a b, .int .i64 (d : Nat), .int .u64 i] w fun e w' => e = .returned (spanV (max a A) (min b B)) ∧ Below w.heap.size w w' := by
  have CS := fun w ht => hide (spanOf_at d hd i A B h0 h1 hA hB hi w ht)
  have HT := hide ht
  clear hA hB hi ht
  unfold spanV at CS ⊢
  obtain ⟨X, hX⟩ : ∃ X, max a A = X := ⟨_, rfl⟩
  obtain ⟨Y, hY⟩ : ∃ Y, min b B = Y := ⟨_, rfl⟩
  rw [hX, hY]
  have HX := hide hX
  have HY := hide hY
  clear hX hY
  go_enter Tryz.func65, Tryz.ntmps65
  go_wp2_with fail
  refine (CS _ (HT.out.below (((Below.refl _ w).alloc (Nat.le_refl _) _).alloc (by simp) _))).out.mono ?_
  rintro e w1 ⟨rfl, b1⟩
  obtain ⟨N, hN⟩ : ∃ N, w.heap.size = N := ⟨_, rfl⟩
  obtain ⟨B1, s1, c0, c1, c2, c3, f0⟩ := alloc2_at w _ _ _ _ _ _ b1 N hN
  have HB := hide B1
  clear b1 CS HT B1
  have s2 : N < w1.heap.size := by omega
  have s3 : N + 1 < w1.heap.size := by omega
  have FIN := hide (show ∀ x y z, Below N w (((w1.setCell ⟨N + 1, 0, none⟩ x).setCell ⟨N + 1, 1, none⟩ y).alloc z) from fun x y z => ((HB.out.setCell (by simp) _).setCell (by simp) _).alloc (by simp; omega) _)
  have f1 := f0 0
  have f2 := f0 1
  clear f0
  have HNN := hide hN
  rw [hN]
  clear hN
  by_cases m1 : a < A <;> by_cases m2 : B < b
  · have E1 := hide (show X = A by have := HX.out; omega)
    have E2 := hide (show Y = B by have := HY.out; omega)
    go_wp2_with fail
    exact bodyPost_ret (v := .agg #[.int .u64 A, .int .u64 B]) (by simp [results, Tryz.results65, go_sem, s3, c2, c3]) rfl ⟨by rw [E1.out, E2.out], by rw [HNN.out]; exact FIN.out _ _ _⟩
  · have e4 : (if B < b then B else b) = b := if_neg m2
    have E1 := hide (show X = A by have := HX.out; omega)
    have E2 := hide (show Y = b by have := HY.out; omega)
    clear m2
    go_wp2_with fail
    exact bodyPost_ret (v := .agg #[.int .u64 A, .int .u64 b]) (by simp [results, Tryz.results65, go_sem, s3, c2, c3]) rfl ⟨by rw [E1.out, E2.out], by rw [HNN.out]; exact FIN.out _ _ _⟩
  · have e3 : (if a < A then A else a) = a := if_neg m1
    have E1 := hide (show X = a by have := HX.out; omega)
    have E2 := hide (show Y = B by have := HY.out; omega)
    clear m1
    go_wp2_with fail
    exact bodyPost_ret (v := .agg #[.int .u64 a, .int .u64 B]) (by simp [results, Tryz.results65, go_sem, s3, c2, c3]) rfl ⟨by rw [E1.out, E2.out], by rw [HNN.out]; exact FIN.out _ _ _⟩
  · have e3 : (if a < A then A else a) = a := if_neg m1
    have e4 : (if B < b then B else b) = b := if_neg m2
    have E1 := hide (show X = a by have := HX.out; omega)
    have E2 := hide (show Y = b by have := HY.out; omega)
    clear m1
    clear m2
    go_wp2_with fail
    exact bodyPost_ret (v := .agg #[.int .u64 a, .int .u64 b]) (by simp [results, Tryz.results65, go_sem, s3, c2, c3]) rfl ⟨by rw [E1.out, E2.out], by rw [HNN.out]; exact FIN.out _ _ _⟩
end Go.Proofs.YtnclicdnncgdiaaGreatDoor

/- Package radix: counts and summaries: contracts. -/
namespace Go.Proofs.YtnclicdnncgdiaaGreatDoor
open Go.ChangeShapes Go.WideShapes Go.ChangeAt Go.RowKit Go.Proofs.Bt Go.Shelf Go.Proofs.Rx
set_option linter.unusedVariables false
set_option linter.unusedSimpArgs false

/-! ### A region that draws its order, whose callees may make memory, and turn nothing that is old -/
structure Ext (w : World) where
  v : World
  h : Below w.heap.size w v
theorem ext_ne (w : World) : Nonempty (Ext w) := ⟨⟨w, Below.refl _ _⟩⟩
theorem ext_cell {w : World} (n : Ext w) (b o : Nat) (h : b < w.heap.size) : n.v.cell? ⟨b, o, none⟩ = w.cell? ⟨b, o, none⟩ := n.h.cell (p := ⟨b, o, none⟩) h
theorem wp_region_calm {P : Program} {id : Nat} {Q : Exit → Act → World → Prop} {a : Act} {w : World} {l : List Oper} (hm : P.follows .mixedOrders = true) (hB : Region.lexB .any l.toArray = true)
    (h : wpQuiet P l.toArray (fun w' => ∃ n : Ext w, w' = n.v) (fun a' => ∀ w', (∃ n : Ext w, w' = n.v) → Q .normal a' w') l a) : (Code.region id l.toArray true).wp P Q a w :=
  wp_region_quiet (C := fun w' => ∃ n : Ext w, w' = n.v) hm hB ⟨⟨{ w with drawn := w.drawn + 1 }, ⟨rfl, rfl, rfl, Nat.le_refl _, fun _ _ => rfl⟩⟩, rfl⟩ (by simpa using h)
theorem calm_of {P : Program} {f : FuncId} {args : Array Value} {w : World} {n : Ext w} {v : Value} (h : Calls P f args n.v fun e w' => e = .returned v ∧ Below n.v.heap.size n.v w') : Calls P f args n.v fun e w'' => e = .returned v ∧ ∃ m : Ext w, w'' = m.v :=
  h.mono fun _ w' ⟨he, hm⟩ => ⟨he, ⟨w', n.h.trans (hm.mono n.h.size)⟩, rfl⟩
/-- Counts as a value. -/
def tlV (t : Tl) : Value := .agg #[.int .u64 (t.p : Nat), .int .u64 (t.f : Nat), .int .u64 (t.r : Nat)]
theorem tallyOf_any (s n : Nat) (hs : s ≤ 3) (w : World) :
    Calls Tryz.prog 69 #[.int .i64 (s : Nat), .int .u64 (n : Nat)] w fun e w' => e = .returned (tlV (tlOf s n)) ∧ Below w.heap.size w w' := by
  have hc : s = 0 ∨ s = 1 ∨ s = 2 ∨ s = 3 := by omega
  obtain ⟨N, hN⟩ : ∃ N : Int, (n : Int) = N := ⟨_, rfl⟩
  rcases hc with rfl | rfl | rfl | rfl
  all_goals
    clear hs
    unfold tlOf tlV
    simp only [if_true, if_false, Nat.reduceLeDiff, Nat.reduceEqDiff, Int.cast_ofNat_Int, Nat.succ_ne_self, hN]
    clear hN
    go_enter Tryz.func69, Tryz.ntmps69
    go_wp2_with fail
    exact bodyPost_ret (v := .agg #[_, _, _]) (by simp [results, Tryz.results69, go_sem]) rfl ⟨rfl, grown1 _ _⟩
theorem plus_any (a b : Tl) (ha : a.p + b.p < 18446744073709551616 ∧ a.f + b.f < 18446744073709551616 ∧ a.r + b.r < 18446744073709551616) (w : World) :
    Calls Tryz.prog 72 #[tlV a, tlV b] w fun e w' => e = .returned (tlV (a.add b)) ∧ Below w.heap.size w w' := by
  obtain ⟨p, f, r⟩ := a
  obtain ⟨p', f', r'⟩ := b
  unfold Tl.add tlV
  dsimp only at ha ⊢
  have e1 : ((p + p' : Nat) : Int) = (p : Int) + (p' : Int) := by omega
  have e2 : ((f + f' : Nat) : Int) = (f : Int) + (f' : Int) := by omega
  have e3 : ((r + r' : Nat) : Int) = (r : Int) + (r' : Int) := by omega
  rw [e1, e2, e3]
  clear e1 e2 e3
  have k1 : (0 : Int) ≤ p ∧ (0 : Int) ≤ p' ∧ (p : Int) + p' < 18446744073709551616 := by omega
  have k2 : (0 : Int) ≤ f ∧ (0 : Int) ≤ f' ∧ (f : Int) + f' < 18446744073709551616 := by omega
  have k3 : (0 : Int) ≤ r ∧ (0 : Int) ≤ r' ∧ (r : Int) + r' < 18446744073709551616 := by omega
  clear ha
  generalize (p : Int) = P at *
  generalize (p' : Int) = P' at *
  generalize (f : Int) = F at *
  generalize (f' : Int) = F' at *
  generalize (r : Int) = R at *
  generalize (r' : Int) = R' at *
  obtain ⟨k11, k12, k13⟩ := k1
  obtain ⟨k21, k22, k23⟩ := k2
  obtain ⟨k31, k32, k33⟩ := k3
  go_enter Tryz.func72, Tryz.ntmps72
  go_wp2_with fail
  refine bodyPost_ret (v := .agg #[.int .u64 (P + P'), .int .u64 (F + F'), .int .u64 (R + R')]) (by simp [results, Tryz.results72, go_sem]) rfl ⟨rfl, ?_⟩
  exact (((Below.refl _ w).alloc (Nat.le_refl _) _).alloc (by simp) _).alloc (by simp; omega) _
theorem less_any (a b : Tl) (h1 : a.p < 18446744073709551616 ∧ a.f < 18446744073709551616 ∧ a.r < 18446744073709551616) (ha : b.p ≤ a.p ∧ b.f ≤ a.f ∧ b.r ≤ a.r) (w : World) :
    Calls Tryz.prog 76 #[tlV a, tlV b] w fun e w' => e = .returned (tlV (a.sub b)) ∧ Below w.heap.size w w' := by
  obtain ⟨p, f, r⟩ := a
  obtain ⟨p', f', r'⟩ := b
  unfold Tl.sub tlV
  dsimp only at ha h1 ⊢
  have e1 : ((p - p' : Nat) : Int) = (p : Int) - (p' : Int) := by omega
  have e2 : ((f - f' : Nat) : Int) = (f : Int) - (f' : Int) := by omega
  have e3 : ((r - r' : Nat) : Int) = (r : Int) - (r' : Int) := by omega
  rw [e1, e2, e3]
  clear e1 e2 e3
  have k1 : (0 : Int) ≤ p' ∧ (p' : Int) ≤ p ∧ (p : Int) < 18446744073709551616 := by omega
  have k2 : (0 : Int) ≤ f' ∧ (f' : Int) ≤ f ∧ (f : Int) < 18446744073709551616 := by omega
  have k3 : (0 : Int) ≤ r' ∧ (r' : Int) ≤ r ∧ (r : Int) < 18446744073709551616 := by omega
  clear ha h1
  generalize (p : Int) = P at *
  generalize (p' : Int) = P' at *
  generalize (f : Int) = F at *
  generalize (f' : Int) = F' at *
  generalize (r : Int) = R at *
  generalize (r' : Int) = R' at *
  obtain ⟨k11, k12, k13⟩ := k1
  obtain ⟨k21, k22, k23⟩ := k2
  obtain ⟨k31, k32, k33⟩ := k3
  go_enter Tryz.func76, Tryz.ntmps76
  go_wp2_with fail
  refine bodyPost_ret (v := .agg #[.int .u64 (P - P'), .int .u64 (F - F'), .int .u64 (R - R')]) (by simp [results, Tryz.results76, go_sem]) rfl ⟨rfl, ?_⟩
  exact (((Below.refl _ w).alloc (Nat.le_refl _) _).alloc (by simp) _).alloc (by simp; omega) _
theorem eq_tl (d : Nat) (a b c a' b' c' : Int) (w : World) : (Op.equalIn (d + 1 + 1) 56 (.agg #[.int .u64 a, .int .u64 b, .int .u64 c]) (.agg #[.int .u64 a', .int .u64 b', .int .u64 c'])).run Tryz.prog w = .ok (decide (a = a' ∧ b = b' ∧ c = c')) w := by
  have hu : Tryz.prog.underlying 56 = some (.struct (Tryz.prog.fieldsOf 56)) := by kernel_rfl
  have hh : Tryz.prog.stoodInHeld 56 = false := by kernel_rfl
  rw [run_equalIn_agg w (d + 1) _ _ _ hu hh]
  have he := Tryz.underlying22
  have hf : (Tryz.prog.fieldsOf 56).toList.map (fun f => (f.name, f.type, f.offset)) = [("pages", 22, 0), ("free", 22, 1), ("released", 22, 2)] := by kernel_rfl
  have h0 : (#[.int .u64 a, .int .u64 b, .int .u64 c] : Array Value)[0]? = some (.int .u64 a) := rfl
  have hq : ∀ (x y : Int) (w : World), (Op.equalIn (d + 1) 22 (.int .u64 x) (.int .u64 y)).run Tryz.prog w = .ok (x == y) w := fun x y w => run_equalIn_int w d _ _ _ x y he
  generalize (Tryz.prog.fieldsOf 56).toList = l at hf ⊢
  rcases l with _ | ⟨f0, _ | ⟨f1, _ | ⟨f2, _ | ⟨f3, l⟩⟩⟩⟩
  · simp at hf
  · simp at hf
  · simp at hf
  · skip
    simp only [List.map_cons, List.map_nil, List.cons.injEq, Prod.mk.injEq, and_true] at hf
    obtain ⟨⟨n0, t0, o0⟩, ⟨n1, t1, o1⟩, n2, t2, o2⟩ := hf
    have hp : ∀ (xs : Array Value) (i : Nat) (v : Value) (w : World), xs[i]? = some v → (part 22 xs i).run Tryz.prog w = .ok v w := fun xs i v w h => by
      have ha := Tryz.isAgg22
      simp [part, ha, go_sem, h]
    have p0 := fun w => hp #[.int .u64 a, .int .u64 b, .int .u64 c] 0 (.int .u64 a) w rfl
    have p1 := fun w => hp #[.int .u64 a, .int .u64 b, .int .u64 c] 1 (.int .u64 b) w rfl
    have p2 := fun w => hp #[.int .u64 a, .int .u64 b, .int .u64 c] 2 (.int .u64 c) w rfl
    have p3 := fun w => hp #[.int .u64 a', .int .u64 b', .int .u64 c'] 0 (.int .u64 a') w rfl
    have p4 := fun w => hp #[.int .u64 a', .int .u64 b', .int .u64 c'] 1 (.int .u64 b') w rfl
    have p5 := fun w => hp #[.int .u64 a', .int .u64 b', .int .u64 c'] 2 (.int .u64 c') w rfl
    simp only [Op.eqFields, n0, t0, o0, n1, t1, o1, n2, t2, o2, ne_eq, String.reduceEq, not_false_eq_true, if_true, Sem.run_bind, p0, p1, p2, p3, p4, p5, Result.andThen_ok, hq, Sem.run_ite, Sem.run_pure]
    by_cases e0 : a = a' <;> by_cases e1 : b = b' <;> by_cases e2 : c = c' <;> simp [e0, e1, e2, Sem.run_pure]
  · simp at hf
set_option maxHeartbeats 1000000 in
set_option maxRecDepth 20000 in
theorem alike_any (t : Tl) (n : Nat) (w : World) :
    Calls Tryz.prog 68 #[tlV t, .int .u64 (n : Nat)] w fun e w' => e = .returned (.tuple #[.int .i64 ((al t n).getD 0 : Nat), .bool (al t n).isSome]) ∧ Below w.heap.size w w' := by
  have CT := fun s hs w => hide (tallyOf_any s n hs w)
  unfold tlV at CT ⊢
  have hx := @ext_cell
  have YES : ∀ s, t = tlOf s n → ∀ w, (Op.equalIn 10000 56 (.agg #[.int .u64 (t.p : Nat), .int .u64 (t.f : Nat), .int .u64 (t.r : Nat)]) (.agg #[.int .u64 ((tlOf s n).p : Nat), .int .u64 ((tlOf s n).f : Nat), .int .u64 ((tlOf s n).r : Nat)])).run Tryz.prog w = .ok true w := fun s c w => (eq_tl 9998 _ _ _ _ _ _ w).trans (by rw [c]; simp)
  have NO : ∀ s, t ≠ tlOf s n → ∀ w, (Op.equalIn 10000 56 (.agg #[.int .u64 (t.p : Nat), .int .u64 (t.f : Nat), .int .u64 (t.r : Nat)]) (.agg #[.int .u64 ((tlOf s n).p : Nat), .int .u64 ((tlOf s n).f : Nat), .int .u64 ((tlOf s n).r : Nat)])).run Tryz.prog w = .ok false w := fun s c w => (eq_tl 9998 _ _ _ _ _ _ w).trans (by
    rw [decide_eq_false]
    rintro ⟨h1, h2, h3⟩
    apply c
    obtain ⟨p, f, r⟩ := t
    generalize tlOf s n = T at *
    obtain ⟨p', f', r'⟩ := T
    dsimp only at h1 h2 h3
    congr 1 <;> omega)
  have FIN := hide (show ∀ (s : Nat) (b : Bool) (W : World), al t n = (if b then some s else none) → (b = false → s = 0) → Below w.heap.size w W → (fun e w' => e = Ending.returned (.tuple #[.int .i64 ((al t n).getD 0 : Nat), .bool (al t n).isSome]) ∧ Below w.heap.size w w') (.returned (.tuple #[.int .i64 (s : Nat), .bool b])) W from fun s b W h1 h2 hb => by
    rw [h1]
    cases b
    · rw [h2 rfl]; exact ⟨rfl, hb⟩
    · exact ⟨rfl, hb⟩)
  obtain ⟨R, hR⟩ : ∃ R, R = (fun (e : Ending) (w' : World) => e = Ending.returned (.tuple #[.int .i64 ((al t n).getD 0 : Nat), .bool (al t n).isSome]) ∧ Below w.heap.size w w') := ⟨_, rfl⟩
  rw [← hR] at FIN ⊢
  clear hR
  have hne := fun W => ext_ne W
  obtain ⟨N, hN⟩ : ∃ N, w.heap.size = N := ⟨_, rfl⟩
  obtain ⟨W0, hW0⟩ : ∃ W0, w.alloc (.cells #[.int .u64 (t.p : Nat), .int .u64 (t.f : Nat), .int .u64 (t.r : Nat)] 56) = W0 := ⟨_, rfl⟩
  have B0 : Below N w W0 := by rw [← hW0, ← hN]; exact grown1 w _
  have hb0 := World.alloc_heap_new w (.cells #[.int .u64 (t.p : Nat), .int .u64 (t.f : Nat), .int .u64 (t.r : Nat)] 56)
  rw [hW0, hN] at hb0
  have l0 : N < W0.heap.size := (Array.getElem?_eq_some_iff.1 hb0).1
  have x0 : W0.cell? ⟨N, 0, none⟩ = some (.int .u64 (t.p : Nat)) := by simp [World.cell?, hb0]
  have y0 : W0.cell? ⟨N, 1, none⟩ = some (.int .u64 (t.f : Nat)) := by simp [World.cell?, hb0]
  have z0 : W0.cell? ⟨N, 2, none⟩ = some (.int .u64 (t.r : Nat)) := by simp [World.cell?, hb0]
  rw [hN] at FIN
  have HW := hide hW0
  have HN := hide hN
  have HB0 := hide B0
  clear hW0 hb0 hN B0
  by_cases c0 : t = tlOf 0 n
  · have D0 := YES 0 c0
    have FF := hide (fun W => FIN.out 0 true W (by unfold al; rw [if_pos c0]; rfl) (fun z => by cases z))
    clear YES NO FIN c0
    go_enter Tryz.func68, Tryz.ntmps68
    go_wp2_with fail
    rw [HW.out, HN.out]
    refine wp_loop_rounds 5 ?_
    rw [rounds_succ]
    go_wp2_with fail
    refine wp_region_calm (by kernel_rfl) (by kernel_rfl) ?_
    repeat (first | go_big_quiet_step (exact calm_of (CT 0 (by omega) _).out) | (refine wpQuiet_step (fun K hK => ?_); go_simp; refine hK _ ?_; clear hK K))
    refine wpQuiet_nil ?_
    rintro _ ⟨n0, rfl⟩
    have l1 : N < n0.v.heap.size := Nat.lt_of_lt_of_le l0 n0.h.size
    have x1 := (n0.h.cell (p := ⟨N, 0, none⟩) l0).trans x0
    have y1 := (n0.h.cell (p := ⟨N, 1, none⟩) l0).trans y0
    have z1 := (n0.h.cell (p := ⟨N, 2, none⟩) l0).trans z0
    have HB1 := hide (HB0.out.trans (n0.h.mono (Nat.le_of_lt l0)))
    generalize n0.v = W1 at *
    clear n0 x0 y0 z0
    go_wp2_with fail
    first | exact FF.out _ HB1.out | (go_ret2; exact FF.out _ HB1.out)
  have D0 := NO 0 c0
  by_cases c1 : t = tlOf 1 n
  · have D1 := YES 1 c1
    have FF := hide (fun W => FIN.out 1 true W (by unfold al; rw [if_neg c0, if_pos c1]; rfl) (fun z => by cases z))
    clear YES NO FIN c0 c1
    go_enter Tryz.func68, Tryz.ntmps68
    go_wp2_with fail
    rw [HW.out, HN.out]
    refine wp_loop_rounds 5 ?_
    rw [rounds_succ]
    go_wp2_with fail
    refine wp_region_calm (by kernel_rfl) (by kernel_rfl) ?_
    repeat (first | go_big_quiet_step (exact calm_of (CT 0 (by omega) _).out) | (refine wpQuiet_step (fun K hK => ?_); go_simp; refine hK _ ?_; clear hK K))
    refine wpQuiet_nil ?_
    rintro _ ⟨n0, rfl⟩
    have l1 : N < n0.v.heap.size := Nat.lt_of_lt_of_le l0 n0.h.size
    have x1 := (n0.h.cell (p := ⟨N, 0, none⟩) l0).trans x0
    have y1 := (n0.h.cell (p := ⟨N, 1, none⟩) l0).trans y0
    have z1 := (n0.h.cell (p := ⟨N, 2, none⟩) l0).trans z0
    have HB1 := hide (HB0.out.trans (n0.h.mono (Nat.le_of_lt l0)))
    generalize n0.v = W1 at *
    clear n0 x0 y0 z0
    go_wp2_with fail
    rw [rounds_succ]
    go_wp2_with fail
    refine wp_region_calm (by kernel_rfl) (by kernel_rfl) ?_
    repeat (first | go_big_quiet_step (exact calm_of (CT 1 (by omega) _).out) | (refine wpQuiet_step (fun K hK => ?_); go_simp; refine hK _ ?_; clear hK K))
    refine wpQuiet_nil ?_
    rintro _ ⟨n1, rfl⟩
    have l2 : N < n1.v.heap.size := Nat.lt_of_lt_of_le l1 n1.h.size
    have x2 := (n1.h.cell (p := ⟨N, 0, none⟩) l1).trans x1
    have y2 := (n1.h.cell (p := ⟨N, 1, none⟩) l1).trans y1
    have z2 := (n1.h.cell (p := ⟨N, 2, none⟩) l1).trans z1
    have HB2 := hide (HB1.out.trans (n1.h.mono (Nat.le_of_lt l1)))
    generalize n1.v = W2 at *
    clear n1 x1 y1 z1
    go_wp2_with fail
    first | exact FF.out _ HB2.out | (go_ret2; exact FF.out _ HB2.out)
  have D1 := NO 1 c1
  by_cases c2 : t = tlOf 2 n
  · have D2 := YES 2 c2
    have FF := hide (fun W => FIN.out 2 true W (by unfold al; rw [if_neg c0, if_neg c1, if_pos c2]; rfl) (fun z => by cases z))
    clear YES NO FIN c0 c1 c2
    go_enter Tryz.func68, Tryz.ntmps68
    go_wp2_with fail
    rw [HW.out, HN.out]
    refine wp_loop_rounds 5 ?_
    rw [rounds_succ]
    go_wp2_with fail
    refine wp_region_calm (by kernel_rfl) (by kernel_rfl) ?_
    repeat (first | go_big_quiet_step (exact calm_of (CT 0 (by omega) _).out) | (refine wpQuiet_step (fun K hK => ?_); go_simp; refine hK _ ?_; clear hK K))
    refine wpQuiet_nil ?_
    rintro _ ⟨n0, rfl⟩
    have l1 : N < n0.v.heap.size := Nat.lt_of_lt_of_le l0 n0.h.size
    have x1 := (n0.h.cell (p := ⟨N, 0, none⟩) l0).trans x0
    have y1 := (n0.h.cell (p := ⟨N, 1, none⟩) l0).trans y0
    have z1 := (n0.h.cell (p := ⟨N, 2, none⟩) l0).trans z0
    have HB1 := hide (HB0.out.trans (n0.h.mono (Nat.le_of_lt l0)))
    generalize n0.v = W1 at *
    clear n0 x0 y0 z0
    go_wp2_with fail
    rw [rounds_succ]
    go_wp2_with fail
    refine wp_region_calm (by kernel_rfl) (by kernel_rfl) ?_
    repeat (first | go_big_quiet_step (exact calm_of (CT 1 (by omega) _).out) | (refine wpQuiet_step (fun K hK => ?_); go_simp; refine hK _ ?_; clear hK K))
    refine wpQuiet_nil ?_
    rintro _ ⟨n1, rfl⟩
    have l2 : N < n1.v.heap.size := Nat.lt_of_lt_of_le l1 n1.h.size
    have x2 := (n1.h.cell (p := ⟨N, 0, none⟩) l1).trans x1
    have y2 := (n1.h.cell (p := ⟨N, 1, none⟩) l1).trans y1
    have z2 := (n1.h.cell (p := ⟨N, 2, none⟩) l1).trans z1
    have HB2 := hide (HB1.out.trans (n1.h.mono (Nat.le_of_lt l1)))
    generalize n1.v = W2 at *
    clear n1 x1 y1 z1
    go_wp2_with fail
    rw [rounds_succ]
    go_wp2_with fail
    refine wp_region_calm (by kernel_rfl) (by kernel_rfl) ?_
    repeat (first | go_big_quiet_step (exact calm_of (CT 2 (by omega) _).out) | (refine wpQuiet_step (fun K hK => ?_); go_simp; refine hK _ ?_; clear hK K))
    refine wpQuiet_nil ?_
    rintro _ ⟨n2, rfl⟩
    have l3 : N < n2.v.heap.size := Nat.lt_of_lt_of_le l2 n2.h.size
    have x3 := (n2.h.cell (p := ⟨N, 0, none⟩) l2).trans x2
    have y3 := (n2.h.cell (p := ⟨N, 1, none⟩) l2).trans y2
    have z3 := (n2.h.cell (p := ⟨N, 2, none⟩) l2).trans z2
    have HB3 := hide (HB2.out.trans (n2.h.mono (Nat.le_of_lt l2)))
    generalize n2.v = W3 at *
    clear n2 x2 y2 z2
    go_wp2_with fail
    first | exact FF.out _ HB3.out | (go_ret2; exact FF.out _ HB3.out)
  have D2 := NO 2 c2
  by_cases c3 : t = tlOf 3 n
  · have D3 := YES 3 c3
    have FF := hide (fun W => FIN.out 3 true W (by unfold al; rw [if_neg c0, if_neg c1, if_neg c2, if_pos c3]; rfl) (fun z => by cases z))
    clear YES NO FIN c0 c1 c2 c3
    go_enter Tryz.func68, Tryz.ntmps68
    go_wp2_with fail
    rw [HW.out, HN.out]
    refine wp_loop_rounds 5 ?_
    rw [rounds_succ]
    go_wp2_with fail
    refine wp_region_calm (by kernel_rfl) (by kernel_rfl) ?_
    repeat (first | go_big_quiet_step (exact calm_of (CT 0 (by omega) _).out) | (refine wpQuiet_step (fun K hK => ?_); go_simp; refine hK _ ?_; clear hK K))
    refine wpQuiet_nil ?_
    rintro _ ⟨n0, rfl⟩
    have l1 : N < n0.v.heap.size := Nat.lt_of_lt_of_le l0 n0.h.size
    have x1 := (n0.h.cell (p := ⟨N, 0, none⟩) l0).trans x0
    have y1 := (n0.h.cell (p := ⟨N, 1, none⟩) l0).trans y0
    have z1 := (n0.h.cell (p := ⟨N, 2, none⟩) l0).trans z0
    have HB1 := hide (HB0.out.trans (n0.h.mono (Nat.le_of_lt l0)))
    generalize n0.v = W1 at *
    clear n0 x0 y0 z0
    go_wp2_with fail
    rw [rounds_succ]
    go_wp2_with fail
    refine wp_region_calm (by kernel_rfl) (by kernel_rfl) ?_
    repeat (first | go_big_quiet_step (exact calm_of (CT 1 (by omega) _).out) | (refine wpQuiet_step (fun K hK => ?_); go_simp; refine hK _ ?_; clear hK K))
    refine wpQuiet_nil ?_
    rintro _ ⟨n1, rfl⟩
    have l2 : N < n1.v.heap.size := Nat.lt_of_lt_of_le l1 n1.h.size
    have x2 := (n1.h.cell (p := ⟨N, 0, none⟩) l1).trans x1
    have y2 := (n1.h.cell (p := ⟨N, 1, none⟩) l1).trans y1
    have z2 := (n1.h.cell (p := ⟨N, 2, none⟩) l1).trans z1
    have HB2 := hide (HB1.out.trans (n1.h.mono (Nat.le_of_lt l1)))
    generalize n1.v = W2 at *
    clear n1 x1 y1 z1
    go_wp2_with fail
    rw [rounds_succ]
    go_wp2_with fail
    refine wp_region_calm (by kernel_rfl) (by kernel_rfl) ?_
    repeat (first | go_big_quiet_step (exact calm_of (CT 2 (by omega) _).out) | (refine wpQuiet_step (fun K hK => ?_); go_simp; refine hK _ ?_; clear hK K))
    refine wpQuiet_nil ?_
    rintro _ ⟨n2, rfl⟩
    have l3 : N < n2.v.heap.size := Nat.lt_of_lt_of_le l2 n2.h.size
    have x3 := (n2.h.cell (p := ⟨N, 0, none⟩) l2).trans x2
    have y3 := (n2.h.cell (p := ⟨N, 1, none⟩) l2).trans y2
    have z3 := (n2.h.cell (p := ⟨N, 2, none⟩) l2).trans z2
    have HB3 := hide (HB2.out.trans (n2.h.mono (Nat.le_of_lt l2)))
    generalize n2.v = W3 at *
    clear n2 x2 y2 z2
    go_wp2_with fail
    rw [rounds_succ]
    go_wp2_with fail
    refine wp_region_calm (by kernel_rfl) (by kernel_rfl) ?_
    repeat (first | go_big_quiet_step (exact calm_of (CT 3 (by omega) _).out) | (refine wpQuiet_step (fun K hK => ?_); go_simp; refine hK _ ?_; clear hK K))
    refine wpQuiet_nil ?_
    rintro _ ⟨n3, rfl⟩
    have l4 : N < n3.v.heap.size := Nat.lt_of_lt_of_le l3 n3.h.size
    have x4 := (n3.h.cell (p := ⟨N, 0, none⟩) l3).trans x3
    have y4 := (n3.h.cell (p := ⟨N, 1, none⟩) l3).trans y3
    have z4 := (n3.h.cell (p := ⟨N, 2, none⟩) l3).trans z3
    have HB4 := hide (HB3.out.trans (n3.h.mono (Nat.le_of_lt l3)))
    generalize n3.v = W4 at *
    clear n3 x3 y3 z3
    go_wp2_with fail
    first | exact FF.out _ HB4.out | (go_ret2; exact FF.out _ HB4.out)
  have D3 := NO 3 c3
  have FF := hide (fun W => FIN.out 0 false W (by unfold al; rw [if_neg c0, if_neg c1, if_neg c2, if_neg c3]; rfl) (fun z => rfl))
  clear YES NO FIN c0 c1 c2 c3
  go_enter Tryz.func68, Tryz.ntmps68
  go_wp2_with fail
  rw [HW.out, HN.out]
  refine wp_loop_rounds 5 ?_
  rw [rounds_succ]
  go_wp2_with fail
  refine wp_region_calm (by kernel_rfl) (by kernel_rfl) ?_
  repeat (first | go_big_quiet_step (exact calm_of (CT 0 (by omega) _).out) | (refine wpQuiet_step (fun K hK => ?_); go_simp; refine hK _ ?_; clear hK K))
  refine wpQuiet_nil ?_
  rintro _ ⟨n0, rfl⟩
  have l1 : N < n0.v.heap.size := Nat.lt_of_lt_of_le l0 n0.h.size
  have x1 := (n0.h.cell (p := ⟨N, 0, none⟩) l0).trans x0
  have y1 := (n0.h.cell (p := ⟨N, 1, none⟩) l0).trans y0
  have z1 := (n0.h.cell (p := ⟨N, 2, none⟩) l0).trans z0
  have HB1 := hide (HB0.out.trans (n0.h.mono (Nat.le_of_lt l0)))
  generalize n0.v = W1 at *
  clear n0 x0 y0 z0
  go_wp2_with fail
  rw [rounds_succ]
  go_wp2_with fail
  refine wp_region_calm (by kernel_rfl) (by kernel_rfl) ?_
  repeat (first | go_big_quiet_step (exact calm_of (CT 1 (by omega) _).out) | (refine wpQuiet_step (fun K hK => ?_); go_simp; refine hK _ ?_; clear hK K))
  refine wpQuiet_nil ?_
  rintro _ ⟨n1, rfl⟩
  have l2 : N < n1.v.heap.size := Nat.lt_of_lt_of_le l1 n1.h.size
  have x2 := (n1.h.cell (p := ⟨N, 0, none⟩) l1).trans x1
  have y2 := (n1.h.cell (p := ⟨N, 1, none⟩) l1).trans y1
  have z2 := (n1.h.cell (p := ⟨N, 2, none⟩) l1).trans z1
  have HB2 := hide (HB1.out.trans (n1.h.mono (Nat.le_of_lt l1)))
  generalize n1.v = W2 at *
  clear n1 x1 y1 z1
  go_wp2_with fail
  rw [rounds_succ]
  go_wp2_with fail
  refine wp_region_calm (by kernel_rfl) (by kernel_rfl) ?_
  repeat (first | go_big_quiet_step (exact calm_of (CT 2 (by omega) _).out) | (refine wpQuiet_step (fun K hK => ?_); go_simp; refine hK _ ?_; clear hK K))
  refine wpQuiet_nil ?_
  rintro _ ⟨n2, rfl⟩
  have l3 : N < n2.v.heap.size := Nat.lt_of_lt_of_le l2 n2.h.size
  have x3 := (n2.h.cell (p := ⟨N, 0, none⟩) l2).trans x2
  have y3 := (n2.h.cell (p := ⟨N, 1, none⟩) l2).trans y2
  have z3 := (n2.h.cell (p := ⟨N, 2, none⟩) l2).trans z2
  have HB3 := hide (HB2.out.trans (n2.h.mono (Nat.le_of_lt l2)))
  generalize n2.v = W3 at *
  clear n2 x2 y2 z2
  go_wp2_with fail
  rw [rounds_succ]
  go_wp2_with fail
  refine wp_region_calm (by kernel_rfl) (by kernel_rfl) ?_
  repeat (first | go_big_quiet_step (exact calm_of (CT 3 (by omega) _).out) | (refine wpQuiet_step (fun K hK => ?_); go_simp; refine hK _ ?_; clear hK K))
  refine wpQuiet_nil ?_
  rintro _ ⟨n3, rfl⟩
  have l4 : N < n3.v.heap.size := Nat.lt_of_lt_of_le l3 n3.h.size
  have x4 := (n3.h.cell (p := ⟨N, 0, none⟩) l3).trans x3
  have y4 := (n3.h.cell (p := ⟨N, 1, none⟩) l3).trans y3
  have z4 := (n3.h.cell (p := ⟨N, 2, none⟩) l3).trans z3
  have HB4 := hide (HB3.out.trans (n3.h.mono (Nat.le_of_lt l3)))
  generalize n3.v = W4 at *
  clear n3 x3 y3 z3
  go_wp2_with fail
  rw [rounds_succ]
  go_wp2_with fail
  first | exact FF.out _ HB4.out | (go_ret2; exact FF.out _ HB4.out)
end Go.Proofs.YtnclicdnncgdiaaGreatDoor
