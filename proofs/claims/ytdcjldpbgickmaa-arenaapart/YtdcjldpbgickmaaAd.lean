/- act: at, has: a contract. -/
import Derived.Test.YtdcjldpbgickmaaAc
namespace Go.Proofs.Ytdcjldpbgickmaa
open Go.ChangeShapes Go.WideShapes Go.ChangeAt Go.RowKit Go.Shelf Go.Proofs.Rx Go.Maps
set_option linter.unusedVariables false
set_option linter.unusedSimpArgs false

attribute [local go_sem] Oper.semAt_some

section
variable {N : Nat} {w W : World} {mb xb : Nat} {F : Nat → Prop} {a b : Nat}
set_option maxRecDepth 100000 in
set_option maxHeartbeats 1000000 in
theorem act_3 (h : PX N w mb xb F a b) (hN : N ≤ w.heap.size) (ha : a < 1000) (x : ActV) (hw : x.what = 3) (hx : x.Ok) (hb : b ≤ 90000) :
    Calls Try.prog 10 #[.pointer (some ⟨mb, 0, none⟩), .pointer (some ⟨xb, 0, none⟩), actV x] w fun e W' => e = .returned (.bool true) ∧ ∃ F', PX N W' mb xb F' (a + 1) b ∧ To w W' F F' := by
  obtain ⟨R, hR⟩ : ∃ R : Ending → World → Prop, R = fun e W' => e = .returned (.bool true) ∧ ∃ F', PX N W' mb xb F' (a + 1) b ∧ To w W' F F' := ⟨_, rfl⟩
  rw [← hR]
  obtain ⟨S, hS⟩ : ∃ S, w.heap.size = S := ⟨_, rfl⟩
  obtain ⟨w0, h0⟩ : ∃ w0, ((w.alloc (.cells #[.pointer (some ⟨xb, 0, none⟩)] 26)).alloc (.cells #[.int .i64 x.what, .int .u64 (x.a : Nat), .int .u64 (x.n : Nat), .int .i64 x.id] 37)).alloc (.cells #[.bool false] 4) = w0 := ⟨_, rfl⟩
  obtain ⟨p0, f0, b0, s0, fl⟩ := fr_new h x S hS w0 h0
  have FIN := hide (show ∀ W2 F', PX N W2 mb xb F' (a + 1) b → To w0 W2 F F' → R (.returned (.bool true)) (W2.setCell ⟨S + 2, 0, none⟩ (.bool true)) from fun W2 F' p t => by
    rw [hR]
    exact ⟨rfl, fr_end b0 hS s0 fl p t _⟩)
  have HK := hide (show ∀ W2 : World, Kept F w0 W2 → Fr S xb x W2 from fun W2 k => f0.kept k (fun z h1 h2 u => by have := fl z u; omega))
  obtain ⟨v1, hat⟩ := px_atv p0 hb x.a x.a hx.p1 hx.p1 rfl
  obtain ⟨v2, hhs⟩ := px_hasv p0 (by omega) x.a hx.p1
  have FI2 := hide (show ∀ W2, Below w0.heap.size w0 W2 → R (.returned (.bool true)) (W2.setCell ⟨S + 2, 0, none⟩ (.bool true)) from fun W2 k => by
    obtain ⟨F', p2, t2⟩ := p0.same k (Nat.le_succ a) (Nat.le_refl b)
    exact FIN.out W2 F' p2 t2)
  have FR2 := hide (show ∀ W2, Below w0.heap.size w0 W2 → Fr S xb x W2 from fun W2 k => HK.out W2 (Kept.of_below k))
  have C1 := hide (fun Y (k : Below w0.heap.size w0 Y) => (hat Y k).1)
  have C2 := hide (fun Y (k : Below w0.heap.size w0 Y) => (hat Y k).2)
  have C3 := hide (fun Y (k : Below w0.heap.size w0 Y) => (hhs Y k).1)
  have C4 := hide (fun Y (k : Below w0.heap.size w0 Y) => (hhs Y k).2)
  have CS := hide (fun (Y : World) (f : Fr S xb x Y) => (show Y.cell? ⟨S, 0, none⟩ = some (.pointer (some ⟨xb, 0, none⟩)) ∧ Y.cell? ⟨S + 1, 1, none⟩ = some (.int .u64 (x.a : Nat)) from ⟨f.b0.cell, f.b1.cell 1 _ rfl⟩))
  unfold actV
  rw [hw] at h0 ⊢
  have qA : (x.a : Int) < 18446744073709551616 := by have := hx.p1; omega
  have qB : 0 ≤ (x.a : Int) := by omega
  simp only [show ((x.a / 4194304 : Nat) : Int) = (x.a : Int) / 4194304 by omega] at C4
  obtain ⟨A, hA⟩ : ∃ A : Int, (x.a : Int) = A := ⟨_, rfl⟩
  have c0 := f0.b0.cell
  have c1 := f0.b1.cell 1 (.int .u64 (x.a : Nat)) rfl
  have l0 := box_lt f0.b0
  have l1 := f0.b1.lt
  have cw := f0.b1.cell 0 (.int .i64 x.what) rfl
  rw [hw] at cw
  simp only [hA] at C1 C2 C3 C4 CS h0 qA qB c1 ⊢
  clear h hR f0 b0 s0 fl hx p0 hA hb FIN HK hat hhs
  go_enter Try.func10, Try.ntmps10
  go_wp2_with fail
  refine wp_region_held_drew (S := (fun w' => w'.cell? ⟨S, 0, none⟩ = some (.pointer (some ⟨xb, 0, none⟩)) ∧ w'.cell? ⟨S + 1, 1, none⟩ = some (.int .u64 A))) (by kernel_rfl) ⟨c0, c1⟩ (fun hHeld => ?_)
  refine wpAnyH_take (i := 0) (oi := _) (v := ?_) rfl (by kernel_rfl) (by kernel_rfl) (by kernel_rfl) (fun _ _ _ h => h) (Or.inl ⟨by kernel_rfl, ?_⟩) (by assumption) ?_
  rotate_left
  · (intro Y hSw; obtain ⟨y0, y1⟩ := hSw; go_simp; try with_reducible rfl)
  try simp only [Act.put, List.setIfInBounds_toArray, List.set_cons_zero, List.set_cons_succ]
  refine wpAnyH_take (i := 1) (oi := _) (v := ?_) rfl (by kernel_rfl) (by kernel_rfl) (by kernel_rfl) (fun _ _ _ h => h) (Or.inl ⟨by kernel_rfl, ?_⟩) (by assumption) ?_
  rotate_left
  · (intro Y hSw; obtain ⟨y0, y1⟩ := hSw; go_simp; try with_reducible rfl)
  try simp only [Act.put, List.setIfInBounds_toArray, List.set_cons_zero, List.set_cons_succ]
  refine wpAnyH_take (i := 2) (oi := _) (v := ?_) rfl (by kernel_rfl) (by kernel_rfl) (by kernel_rfl) (fun _ _ _ h => h) (Or.inl ⟨by kernel_rfl, ?_⟩) (by assumption) ?_
  rotate_left
  · (intro Y hSw; obtain ⟨y0, y1⟩ := hSw; go_simp; try with_reducible rfl)
  try simp only [Act.put, List.setIfInBounds_toArray, List.set_cons_zero, List.set_cons_succ]
  refine wpAnyH_take (i := 4) (oi := _) (v := ?_) rfl (by kernel_rfl) (by kernel_rfl) (by kernel_rfl) (fun _ _ _ h => h) (Or.inl ⟨by kernel_rfl, ?_⟩) (by assumption) ?_
  rotate_left
  · (intro Y hSw; obtain ⟨y0, y1⟩ := hSw; go_simp; try with_reducible rfl)
  try simp only [Act.put, List.setIfInBounds_toArray, List.set_cons_zero, List.set_cons_succ]
  refine wpAnyH_take (i := 5) (oi := _) (v := ?_) rfl (by kernel_rfl) (by kernel_rfl) (by kernel_rfl) (fun _ _ _ h => h) (Or.inl ⟨by kernel_rfl, ?_⟩) (by assumption) ?_
  rotate_left
  · (intro Y hSw; obtain ⟨y0, y1⟩ := hSw; go_simp; try with_reducible rfl)
  try simp only [Act.put, List.setIfInBounds_toArray, List.set_cons_zero, List.set_cons_succ]
  refine wpAnyH_take (i := 6) (oi := _) (v := ?_) rfl (by kernel_rfl) (by kernel_rfl) (by kernel_rfl) (fun _ _ _ h => h) (Or.inl ⟨by kernel_rfl, ?_⟩) (by assumption) ?_
  rotate_left
  · (intro Y hSw; obtain ⟨y0, y1⟩ := hSw; go_simp; try with_reducible rfl)
  try simp only [Act.put, List.setIfInBounds_toArray, List.set_cons_zero, List.set_cons_succ]
  refine wpAnyH_ready (rs := [3]) (by kernel_rfl) (by simp) ?_
  refine AllReadyH.cons (o := ⟨some 47, _, _, _, _, _⟩) rfl (fun K hK => ?_) AllReadyH.nil
  go_simp
  refine (C1.out w0.drew (drew_below w0)).mono ?_
  rintro e w1 ⟨rfl, k1⟩
  have B1 := hide ((drew_below w0).trans k1)
  have d01 := CS.out w1 (FR2.out w1 B1.out)
  refine hK.out _ _ d01 (fun hHeld => ?_)
  clear hK K k1
  try simp only [Act.put, List.setIfInBounds_toArray, List.set_cons_zero, List.set_cons_succ]
  refine wpAnyH_ready (rs := [7]) (by kernel_rfl) (by simp) ?_
  refine AllReadyH.cons (o := ⟨some 51, _, _, _, _, _⟩) rfl (fun K hK => ?_) AllReadyH.nil
  go_simp
  refine (C2.out w1 B1.out).mono ?_
  rintro e w2 ⟨rfl, hw2⟩
  rw [hw2]
  refine hK.out _ _ d01 (fun hHeld => ?_)
  clear hK K hw2 w2
  try simp only [Act.put, List.setIfInBounds_toArray, List.set_cons_zero, List.set_cons_succ]
  refine wpAnyH_take (i := 8) (oi := _) (v := ?_) rfl (by kernel_rfl) (by kernel_rfl) (by kernel_rfl) (fun _ _ _ h => h) (Or.inl ⟨by kernel_rfl, ?_⟩) (by assumption) ?_
  rotate_left
  · (intro Y hSw; obtain ⟨y0, y1⟩ := hSw; go_simp; try with_reducible rfl)
  try simp only [Act.put, List.setIfInBounds_toArray, List.set_cons_zero, List.set_cons_succ]
  refine wpAnyH_take (i := 9) (oi := _) (v := ?_) rfl (by kernel_rfl) (by kernel_rfl) (by kernel_rfl) (fun _ _ _ h => h) (Or.inl ⟨by kernel_rfl, ?_⟩) (by assumption) ?_
  rotate_left
  · (intro Y hSw; obtain ⟨y0, y1⟩ := hSw; go_simp; try with_reducible rfl)
  try simp only [Act.put, List.setIfInBounds_toArray, List.set_cons_zero, List.set_cons_succ]
  refine wpAnyH_take (i := 10) (oi := _) (v := ?_) rfl (by kernel_rfl) (by kernel_rfl) (by kernel_rfl) (fun _ _ _ h => h) (Or.inl ⟨by kernel_rfl, ?_⟩) (by assumption) ?_
  rotate_left
  · (intro Y hSw; obtain ⟨y0, y1⟩ := hSw; go_simp; try with_reducible rfl)
  try simp only [Act.put, List.setIfInBounds_toArray, List.set_cons_zero, List.set_cons_succ]
  refine wpAnyH_take (i := 11) (oi := _) (v := ?_) rfl (by kernel_rfl) (by kernel_rfl) (by kernel_rfl) (fun _ _ _ h => h) (Or.inl ⟨by kernel_rfl, ?_⟩) (by assumption) ?_
  rotate_left
  · (intro Y hSw; obtain ⟨y0, y1⟩ := hSw; go_simp; try with_reducible rfl)
  try simp only [Act.put, List.setIfInBounds_toArray, List.set_cons_zero, List.set_cons_succ]
  refine wpAnyH_take (i := 12) (oi := _) (v := ?_) rfl (by kernel_rfl) (by kernel_rfl) (by kernel_rfl) (fun _ _ _ h => h) (Or.inl ⟨by kernel_rfl, ?_⟩) (by assumption) ?_
  rotate_left
  · (intro Y hSw; obtain ⟨y0, y1⟩ := hSw; go_simp; try with_reducible rfl)
  try simp only [Act.put, List.setIfInBounds_toArray, List.set_cons_zero, List.set_cons_succ]
  refine wpAnyH_take (i := 14) (oi := _) (v := ?_) rfl (by kernel_rfl) (by kernel_rfl) (by kernel_rfl) (fun _ _ _ h => h) (Or.inl ⟨by kernel_rfl, ?_⟩) (by assumption) ?_
  rotate_left
  · (intro Y hSw; obtain ⟨y0, y1⟩ := hSw; go_simp; try with_reducible rfl)
  try simp only [Act.put, List.setIfInBounds_toArray, List.set_cons_zero, List.set_cons_succ]
  refine wpAnyH_take (i := 15) (oi := _) (v := ?_) rfl (by kernel_rfl) (by kernel_rfl) (by kernel_rfl) (fun _ _ _ h => h) (Or.inl ⟨by kernel_rfl, ?_⟩) (by assumption) ?_
  rotate_left
  · (intro Y hSw; obtain ⟨y0, y1⟩ := hSw; go_simp; try with_reducible rfl)
  try simp only [Act.put, List.setIfInBounds_toArray, List.set_cons_zero, List.set_cons_succ]
  refine wpAnyH_take (i := 16) (oi := _) (v := ?_) rfl (by kernel_rfl) (by kernel_rfl) (by kernel_rfl) (fun _ _ _ h => h) (Or.inl ⟨by kernel_rfl, ?_⟩) (by assumption) ?_
  rotate_left
  · (intro Y hSw; obtain ⟨y0, y1⟩ := hSw; go_simp; try with_reducible rfl)
  try simp only [Act.put, List.setIfInBounds_toArray, List.set_cons_zero, List.set_cons_succ]
  refine wpAnyH_take (i := 17) (oi := _) (v := ?_) rfl (by kernel_rfl) (by kernel_rfl) (by kernel_rfl) (fun _ _ _ h => h) (Or.inl ⟨by kernel_rfl, ?_⟩) (by assumption) ?_
  rotate_left
  · (intro Y hSw; obtain ⟨y0, y1⟩ := hSw; go_simp; try with_reducible rfl)
  try simp only [Act.put, List.setIfInBounds_toArray, List.set_cons_zero, List.set_cons_succ]
  refine wpAnyH_ready (rs := [13]) (by kernel_rfl) (by simp) ?_
  refine AllReadyH.cons (o := ⟨some 57, _, _, _, _, _⟩) rfl (fun K hK => ?_) AllReadyH.nil
  go_simp
  refine (C3.out w1 B1.out).mono ?_
  rintro e w3 ⟨rfl, k3⟩
  have B3 := hide (B1.out.trans (k3.mono B1.out.size))
  have d03 := CS.out w3 (FR2.out w3 B3.out)
  refine hK.out _ _ d03 (fun hHeld => ?_)
  clear hK K k3
  try simp only [Act.put, List.setIfInBounds_toArray, List.set_cons_zero, List.set_cons_succ]
  refine wpAnyH_ready (rs := [18]) (by kernel_rfl) (by simp) ?_
  refine AllReadyH.cons (o := ⟨some 62, _, _, _, _, _⟩) rfl (fun K hK => ?_) AllReadyH.nil
  go_simp
  have td : IntKind.u64.wrap (A.tdiv 4194304) = A / 4194304 := by
    rw [Int.tdiv_eq_ediv_of_nonneg qB, IntKind.wrap_u64]; omega
  try rw [td]
  refine (C4.out w3 B3.out).mono ?_
  rintro e w4 ⟨rfl, hw4⟩
  rw [hw4]
  refine hK.out _ _ d03 (fun hHeld => ?_)
  clear hK K hw4 w4
  try simp only [Act.put, List.setIfInBounds_toArray, List.set_cons_zero, List.set_cons_succ]
  refine wpAnyH_take (i := 19) (oi := _) (v := ?_) rfl (by kernel_rfl) (by kernel_rfl) (by kernel_rfl) (fun _ _ _ h => h) (Or.inl ⟨by kernel_rfl, ?_⟩) (by assumption) ?_
  rotate_left
  · (intro Y hSw; obtain ⟨y0, y1⟩ := hSw; go_simp; try with_reducible rfl)
  try simp only [Act.put, List.setIfInBounds_toArray, List.set_cons_zero, List.set_cons_succ]
  refine wpAnyH_take (i := 20) (oi := _) (v := ?_) rfl (by kernel_rfl) (by kernel_rfl) (by kernel_rfl) (fun _ _ _ h => h) (Or.inl ⟨by kernel_rfl, ?_⟩) (by assumption) ?_
  rotate_left
  · (intro Y hSw; obtain ⟨y0, y1⟩ := hSw; go_simp; try with_reducible rfl)
  try simp only [Act.put, List.setIfInBounds_toArray, List.set_cons_zero, List.set_cons_succ]
  have f2 := FR2.out w3 B3.out
  have d4 : w3.cell? ⟨S + 1 + 1, 0, none⟩ = _ := f2.b2.cell
  have d5 : w3.frozen? ⟨S + 1 + 1, 0, none⟩ = _ := f2.b2.frozen
  have R2 := hide (f2.b2.set (.bool true))
  have FF := hide (FI2.out w3 B3.out)
  refine wpAnyH_ready (rs := [21]) (by kernel_rfl) (by simp) ?_
  refine AllReadyH.cons (o := ⟨none, _, _, _, _, _⟩) rfl (fun K hK => ?_) AllReadyH.nil
  go_simp
  refine hK.out _ _ ⟨cell_far d03.1 (by omega), cell_far d03.2 (by omega)⟩ (fun hHeld => ?_)
  clear hK K
  try simp only [Act.put, List.setIfInBounds_toArray, List.set_cons_zero, List.set_cons_succ]
  refine wpAnyH_done (by kernel_rfl) ?_ _
  go_wp2_with fail
  first
    | exact FF.out
    | exact bodyPost_ret (results_c Try.results10 _ _ ⟨S + 2, 0, none⟩ _ rfl (loadB R2.out)) rfl FF.out
end
end Go.Proofs.Ytdcjldpbgickmaa
