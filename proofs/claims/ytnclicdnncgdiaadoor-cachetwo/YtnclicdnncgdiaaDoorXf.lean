/- Package radix: how a tree lies; row, top: contracts. -/
import Derived.Test.YtnclicdnncgdiaaDoorXe
import Derived.Test.YtnclicdnncgdiaaDoorXp
import Derived.Deep.Cut
namespace Go.Proofs.YtnclicdnncgdiaaDoor
open Go.ChangeShapes Go.WideShapes Go.ChangeAt Go.RowKit Go.Proofs.Bt Go.Shelf Go.Proofs.Rx Go.Maps
set_option linter.unusedVariables false
set_option linter.unusedSimpArgs false

/-- Where a tree's blocks are. -/
structure Tid where
  B : Nat
  tb : Nat
  lb : Nat
  cm : Nat
  cap : Nat
  mp : Nat → Nat
/-- What its calls write. -/
def Wr (T : Tid) (C : Ch) (x : Nat) : Prop := x = T.cm ∨ (∃ d, d ≤ 6 ∧ x = T.mp d) ∨ ∃ i b c, C i = some (b, c) ∧ x = b
/-- All its blocks. -/
def Foot (T : Tid) (C : Ch) (x : Nat) : Prop := Wr T C x ∨ x = T.tb ∨ x = T.lb
/-- A tree in memory. -/
structure RadAt (w : World) (T : Tid) (L : Lv) (C : Ch) : Prop where
  tab : TabW w
  c0 : w.cell? ⟨T.tb, 0, none⟩ = some (.slice (some ⟨T.lb, 0, none⟩) 7 T.cap)
  c1 : w.cell? ⟨T.tb, 1, none⟩ = some (.map (some T.cm))
  lv : ∀ d, d ≤ 6 → w.cell? ⟨T.lb, d, none⟩ = some (.map (some (T.mp d)))
  mp : ∀ d, d ≤ 6 → MapG encR w (T.mp d) (L d)
  cm : MapG encC w T.cm (fun i => (C i).map (·.1))
  ch : ∀ i b c, C i = some (b, c) → ChS w b c
  apM : ∀ d d', d ≤ 6 → d' ≤ 6 → T.mp d = T.mp d' → d = d'
  apC : ∀ d, d ≤ 6 → T.mp d ≠ T.cm
  apT : ¬ Wr T C T.tb ∧ ¬ Wr T C T.lb
  apB : ∀ i b c, C i = some (b, c) → b ≠ T.cm ∧ ∀ d, d ≤ 6 → b ≠ T.mp d
  inj : ∀ i i' b c c', C i = some (b, c) → C i' = some (b, c') → i = i'
  base : ∀ x, Foot T C x → T.B ≤ x
  two : 2 ≤ T.B
section
variable {w w' : World} {T : Tid} {L : Lv} {C : Ch}
theorem RadAt.lt (h : RadAt w T L C) {x : Nat} (hx : Foot T C x) : x < w.heap.size := by
  rcases hx with (rfl | ⟨d, hd, rfl⟩ | ⟨i, b, c, hc, rfl⟩) | rfl | rfl
  · exact h.cm.lt
  · exact (h.mp d hd).lt
  · exact (h.ch i _ c hc).lt
  · exact cellLt h.c0
  · exact cellLt (h.lv 0 (by omega))
theorem RadAt.kept {F : Nat → Prop} (h : RadAt w T L C) (k : Kept F w w') (hF : ∀ x, F x → ¬ Foot T C x ∧ T.B ≤ x) : RadAt w' T L C := by
  have nf : ∀ {x}, Foot T C x → ¬ F x := fun hx z => (hF _ z).1 hx
  have bl : ∀ {x}, Foot T C x → w'.heap[x]? = w.heap[x]? := fun hx => k.block _ (h.lt hx) (nf hx)
  have t0 : Foot T C T.tb := .inr (.inl rfl)
  have l0 : Foot T C T.lb := .inr (.inr rfl)
  have h2 := h.two
  exact ⟨h.tab.kept k ⟨fun z => by have := (hF _ z).2; omega, fun z => by have := (hF _ z).2; omega⟩, (cell_block (bl t0) 0).trans h.c0, (cell_block (bl t0) 1).trans h.c1, fun d hd => (cell_block (bl l0) d).trans (h.lv d hd),
    fun d hd => (h.mp d hd).kept (bl (.inl (.inr (.inl ⟨d, hd, rfl⟩)))), h.cm.kept (bl (.inl (.inl rfl))), fun i b c hc => (h.ch i b c hc).kept k (nf (.inl (.inr (.inr ⟨i, b, c, hc, rfl⟩)))), h.apM, h.apC, h.apT, h.apB, h.inj, h.base, h.two⟩
theorem RadAt.below (h : RadAt w T L C) (k : Below w.heap.size w w') : RadAt w' T L C := by
  have bl : ∀ {x}, Foot T C x → w'.heap[x]? = w.heap[x]? := fun hx => k.block _ (h.lt hx)
  have t0 : Foot T C T.tb := .inr (.inl rfl)
  have l0 : Foot T C T.lb := .inr (.inr rfl)
  exact ⟨h.tab.below k, (cell_block (bl t0) 0).trans h.c0, (cell_block (bl t0) 1).trans h.c1, fun d hd => (cell_block (bl l0) d).trans (h.lv d hd),
    fun d hd => (h.mp d hd).kept (bl (.inl (.inr (.inl ⟨d, hd, rfl⟩)))), h.cm.kept (bl (.inl (.inl rfl))), fun i b c hc => (h.ch i b c hc).below k, h.apM, h.apC, h.apT, h.apB, h.inj, h.base, h.two⟩
end
theorem set7 {w w1 : World} {N : Nat} {a0 a1 a2 a3 a4 a5 a6 : Value} (h : Below N w w1) : Below N w (((((((w1.setCell ⟨N, 0, none⟩ a0).setCell ⟨N, 1, none⟩ a1).setCell ⟨N, 2, none⟩ a2).setCell ⟨N, 3, none⟩ a3).setCell ⟨N, 4, none⟩ a4).setCell ⟨N, 5, none⟩ a5).setCell ⟨N, 6, none⟩ a6) :=
  ((((((h.setCell (Nat.le_refl _) _).setCell (Nat.le_refl _) _).setCell (Nat.le_refl _) _).setCell (Nat.le_refl _) _).setCell (Nat.le_refl _) _).setCell (Nat.le_refl _) _).setCell (Nat.le_refl _) _
/-- The tree's own pointer. -/
abbrev tp (T : Tid) : Value := .pointer (some ⟨T.tb, 0, none⟩)
set_option maxRecDepth 20000 in
theorem row_any {w : World} {T : Tid} {L : Lv} {C : Ch} (h : RadAt w T L C) (d i rest : Nat) (hd : d ≤ 6) (hi : i < 18446744073709551616) (hr : rest ≤ 3) :
    Calls Tryd.prog 48 #[tp T, .int .i64 (d : Nat), .int .u64 (i : Nat), .int .i64 (rest : Nat)] w fun e w' => e = .returned (rwV (row L d i rest)) ∧ Below w.heap.size w w' := by
  obtain ⟨N, hN⟩ : ∃ N, w.heap.size = N := ⟨_, rfl⟩
  obtain ⟨W, hW⟩ : ∃ W, w.alloc (.cells #[.int .u64 0, .int .u64 0, .int .u64 0, .int .i64 0, .int .i64 0, .int .i64 0, .int .i64 0] 84) = W := ⟨_, rfl⟩
  have bW : Below N w W := by rw [← hW, ← hN]; exact grown1 w _
  have h' := h.below (w' := W) (by rw [hN]; exact bW)
  have nW : W.heap[N]? = some (.cells #[.int .u64 0, .int .u64 0, .int .u64 0, .int .i64 0, .int .i64 0, .int .i64 0, .int .i64 0] 84) := by rw [← hW, ← hN]; exact World.alloc_heap_new w _
  obtain ⟨x0, x1, x2, x3, x4, x5, x6⟩ := cells7 nW
  obtain ⟨z0, z1, z2, z3, z4, z5, z6⟩ := frozen7 (fun k => (by simp [World.frozen?, nW] : W.frozen? ⟨N, k, none⟩ = false))
  have lW := (Array.getElem?_eq_some_iff.1 nW).1
  have c0 := h'.c0
  have cl := h'.lv d hd
  have hl := (h'.mp d hd).looks tyL (zeroR _) i hi
  have hlb := h'.lt (x := T.lb) (.inr (.inr rfl))
  have htb := h'.lt (x := T.tb) (.inr (.inl rfl))
  have CE := fun W hW => hide (even_any d rest hd hr W hW)
  have HT := hide h'.tab
  have BW := hide bW
  have HW := hide hW
  have HN := hide hN
  have dl : (d : Int) < 7 := by omega
  have d0 : (0 : Int) ≤ d := by omega
  obtain ⟨R, hR⟩ : ∃ R, R = (fun (e : Ending) (w' : World) => e = .returned (rwV (row L d i rest)) ∧ Below w.heap.size w w') := ⟨_, rfl⟩
  rw [← hR]
  have HR := hide hR
  clear hR h bW nW hW h' hN
  unfold tp
  cases hm : L d i with
  | some r =>
    rw [hm] at hl
    have er : row L d i rest = r := by unfold row; rw [hm]; rfl
    have FIN := hide (show ∀ a z, Below N w ((((((((W.setCell ⟨N, 0, none⟩ (.int .u64 (r.t.p : Nat))).setCell ⟨N, 1, none⟩ (.int .u64 (r.t.f : Nat))).setCell ⟨N, 2, none⟩ (.int .u64 (r.t.r : Nat))).setCell ⟨N, 3, none⟩ (.int .i64 (r.s : Nat))).setCell ⟨N, 4, none⟩ (.int .i64 (r.m : Nat))).setCell ⟨N, 5, none⟩ (.int .i64 (r.e : Nat))).setCell ⟨N, 6, none⟩ a).alloc z) from fun a z => below7 BW.out (Nat.le_of_lt lW))
    have HE := hide er
    simp only [valO, encR, rwV, Option.isSome_some] at hl
    clear er hm
    go_enter Tryd.func48, Tryd.ntmps48
    go_upto_region 1 with fail
    rw [HW.out, HN.out]
    go_wp2_with fail
    refine bodyPost_ret (v := rwV r) (by simp [results, Tryd.results48, go_sem, lW, x0, x1, x2, x3, x4, x5, x6, rwV]) rfl ?_
    rw [HR.out, HE.out]
    exact ⟨rfl, by rw [HN.out]; exact FIN.out _ _⟩
  | none =>
    rw [hm] at hl
    have er : row L d i rest = Rx.even d rest := by unfold row; rw [hm]; rfl
    have HE := hide er
    obtain ⟨r, hr'⟩ : ∃ r, Rx.even d rest = r := ⟨_, rfl⟩
    rw [hr'] at HE CE
    simp only [valO, encR, rwV, Option.isSome_none, zeroRw] at hl
    have ZZ := hide (show ∀ X, Below W.heap.size W X → X.heap[N]? = W.heap[N]? from fun X hX => hX.block N lW)
    unfold rwV at CE
    clear er hm hr'
    go_enter Tryd.func48, Tryd.ntmps48
    go_upto_region 1 with fail
    rw [HW.out, HN.out]
    go_wp2_with fail
    refine (CE _ (HT.out.below (grown1 _ _))).out.mono ?_
    rintro e w3 ⟨rfl, b3⟩
    have b4 : Below W.heap.size W w3 := (grown1 W _).trans (b3.mono (by simp))
    have l4 : N < w3.heap.size := Nat.lt_of_lt_of_le lW b4.size
    have y0 := (b4.cell (p := ⟨N, 0, none⟩) lW).trans x0
    have y1 := (b4.cell (p := ⟨N, 1, none⟩) lW).trans x1
    have y2 := (b4.cell (p := ⟨N, 2, none⟩) lW).trans x2
    have y3 := (b4.cell (p := ⟨N, 3, none⟩) lW).trans x3
    have y4 := (b4.cell (p := ⟨N, 4, none⟩) lW).trans x4
    have y5 := (b4.cell (p := ⟨N, 5, none⟩) lW).trans x5
    have y6 := (b4.cell (p := ⟨N, 6, none⟩) lW).trans x6
    have v0 := (b4.frozen (p := ⟨N, 0, none⟩) lW).trans z0
    have v1 := (b4.frozen (p := ⟨N, 1, none⟩) lW).trans z1
    have v2 := (b4.frozen (p := ⟨N, 2, none⟩) lW).trans z2
    have v3 := (b4.frozen (p := ⟨N, 3, none⟩) lW).trans z3
    have v4 := (b4.frozen (p := ⟨N, 4, none⟩) lW).trans z4
    have v5 := (b4.frozen (p := ⟨N, 5, none⟩) lW).trans z5
    have v6 := (b4.frozen (p := ⟨N, 6, none⟩) lW).trans z6
    have FIN := hide (show ∀ a0 a1 a2 a3 a4 a5 a6, Below N w (((((((w3.setCell ⟨N, 0, none⟩ a0).setCell ⟨N, 1, none⟩ a1).setCell ⟨N, 2, none⟩ a2).setCell ⟨N, 3, none⟩ a3).setCell ⟨N, 4, none⟩ a4).setCell ⟨N, 5, none⟩ a5).setCell ⟨N, 6, none⟩ a6) from fun a0 a1 a2 a3 a4 a5 a6 => set7 (BW.out.trans (b4.mono (Nat.le_of_lt lW))))
    clear b3 b4 x0 x1 x2 x3 x4 x5 x6 z0 z1 z2 z3 z4 z5 z6 CE
    go_wp2_with fail
    refine bodyPost_ret (v := rwV r) (by simp [results, Tryd.results48, go_sem, l4, y0, y1, y2, y3, y4, y5, y6, rwV]) rfl ?_
    rw [HR.out, HE.out]
    exact ⟨rfl, by rw [HN.out]; exact FIN.out _ _ _ _ _ _ _⟩
/-- top. -/
theorem top_any {w : World} {T : Tid} {L : Lv} {C : Ch} (h : RadAt w T L C) :
    Calls Tryd.prog 29 #[tp T] w fun e w' => e = .returned (rwV (row L 0 0 0)) ∧ Below w.heap.size w w' := by
  have CR := fun W (hW : RadAt W T L C) => hide (row_any hW 0 0 0 (by omega) (by omega) (by omega))
  obtain ⟨r, hr⟩ : ∃ r, row L 0 0 0 = r := ⟨_, rfl⟩
  rw [hr] at CR ⊢
  have HH := hide h
  obtain ⟨N, hN⟩ : ∃ N, w.heap.size = N := ⟨_, rfl⟩
  obtain ⟨R, hR⟩ : ∃ R, R = (fun (e : Ending) (w' : World) => e = .returned (rwV r) ∧ Below w.heap.size w w') := ⟨_, rfl⟩
  rw [← hR]
  have HR := hide hR
  simp only [Int.cast_ofNat_Int] at CR
  unfold rwV at CR
  unfold tp at CR ⊢
  clear hR h hr
  go_enter Tryd.func29, Tryd.ntmps29
  go_wp2_with fail
  refine (CR _ (HH.out.below (grown1 _ _))).out.mono ?_
  rintro e w1 ⟨rfl, b1⟩
  obtain ⟨B1, l1, c1, fz1⟩ := alloc_at1 w _ _ b1 N hN
  have HB := hide B1
  have HN := hide hN
  obtain ⟨x0, x1, x2, x3, x4, x5, x6⟩ := cells7 c1
  obtain ⟨z0, z1, z2, z3, z4, z5, z6⟩ := frozen7 fz1
  clear b1 B1 hN c1 fz1 CR
  have FIN := hide (show ∀ a0 a1 a2 a3 a4 a5 a6, Below N w (((((((w1.setCell ⟨N, 0, none⟩ a0).setCell ⟨N, 1, none⟩ a1).setCell ⟨N, 2, none⟩ a2).setCell ⟨N, 3, none⟩ a3).setCell ⟨N, 4, none⟩ a4).setCell ⟨N, 5, none⟩ a5).setCell ⟨N, 6, none⟩ a6) from fun a0 a1 a2 a3 a4 a5 a6 => set7 HB.out)
  go_wp2_with fail
  refine bodyPost_ret (v := rwV r) (by simp [results, Tryd.results29, go_sem, l1, x0, x1, x2, x3, x4, x5, x6, rwV]) rfl ?_
  rw [HR.out]
  exact ⟨rfl, by rw [HN.out]; exact FIN.out _ _ _ _ _ _ _⟩
end Go.Proofs.YtnclicdnncgdiaaDoor
