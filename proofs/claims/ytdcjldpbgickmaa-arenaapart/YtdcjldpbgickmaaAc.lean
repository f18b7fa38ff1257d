/- act: what is done to both, but for the chunks: contracts. -/
import Derived.Test.YtdcjldpbgickmaaPx
namespace Go.Proofs.Ytdcjldpbgickmaa
open Go.ChangeShapes Go.WideShapes Go.ChangeAt Go.RowKit Go.Shelf Go.Proofs.Rx Go.Maps
set_option linter.unusedVariables false
set_option linter.unusedSimpArgs false

attribute [local go_sem] Oper.semAt_some

/-- An act as a value. -/
def actV (x : ActV) : Value := .agg #[.int .i64 x.what, .int .u64 (x.a : Nat), .int .u64 (x.n : Nat), .int .i64 x.id]
theorem cell_far {W : World} {b b' o o' : Nat} {v u : Value} (h : W.cell? ⟨b, o, none⟩ = some u) (hne : b ≠ b') : (W.setCell ⟨b', o', none⟩ v).cell? ⟨b, o, none⟩ = some u :=
  (World.cell?_setCell_other W ⟨b', o', none⟩ ⟨b, o, none⟩ v (by intro z; have := congrArg Addr.block z; simp at this; omega)).trans h
/-- The law's frame: the model, the act, the answer. -/
structure Fr (S xb : Nat) (x : ActV) (W : World) : Prop where
  b0 : Boxed W S 26 (.pointer (some ⟨xb, 0, none⟩))
  b1 : Bk W (S + 1) 37 #[.int .i64 x.what, .int .u64 (x.a : Nat), .int .u64 (x.n : Nat), .int .i64 x.id]
  b2 : Boxed W (S + 2) 4 (.bool false)
theorem Fr.kept {F : Nat → Prop} {S xb : Nat} {x : ActV} {W W' : World} (h : Fr S xb x W) (k : Kept F W W') (hF : ∀ z, S ≤ z → z ≤ S + 2 → ¬ F z) : Fr S xb x W' :=
  ⟨boxed_kept h.b0 k (hF _ (by omega) (by omega)), h.b1.kept k (hF _ (by omega) (by omega)), boxed_kept h.b2 k (hF _ (by omega) (by omega))⟩
section
variable {N : Nat} {w W : World} {mb xb : Nat} {F : Nat → Prop} {a b : Nat}
theorem fr_new (h : PX N w mb xb F a b) (x : ActV) (S : Nat) (hS : w.heap.size = S) (w0 : World) (h0 : ((w.alloc (.cells #[.pointer (some ⟨xb, 0, none⟩)] 26)).alloc (.cells #[.int .i64 x.what, .int .u64 (x.a : Nat), .int .u64 (x.n : Nat), .int .i64 x.id] 37)).alloc (.cells #[.bool false] 4) = w0) :
    PX N w0 mb xb F a b ∧ Fr S xb x w0 ∧ Below S w w0 ∧ w0.heap.size = S + 3 ∧ ∀ z, F z → z < S := by
  have be : Below w.heap.size w w0 := by rw [← h0]; exact (((Below.refl _ w).alloc (Nat.le_refl _) _).alloc (by simp) _).alloc (by simp; omega) _
  refine ⟨h.below be, ⟨?_, ?_, ?_⟩, by rw [← hS]; exact be, by rw [← h0]; simp [hS], fun z hz => by have := (h.lt hz).2; omega⟩
  · show w0.heap[S]? = _
    rw [← h0]; simp only [alloc_at, World.size_alloc, hS]
    (repeat' split) <;> first | rfl | omega | simp_all
  · show w0.heap[S + 1]? = _
    rw [← h0]; simp only [alloc_at, World.size_alloc, hS]
    (repeat' split) <;> first | rfl | omega | simp_all
  · show w0.heap[S + 2]? = _
    rw [← h0]; simp only [alloc_at, World.size_alloc, hS]
    (repeat' split) <;> first | rfl | omega | simp_all
/-- The answer is laid. -/
theorem fr_end {w0 W2 : World} {F' : Nat → Prop} {S a' b' : Nat} (hb : Below S w w0) (hS : w.heap.size = S) (hs : w0.heap.size = S + 3) (hF : ∀ z, F z → z < S) (h : PX N W2 mb xb F' a' b') (t : To w0 W2 F F') (v : Value) :
    ∃ F', PX N (W2.setCell ⟨S + 2, 0, none⟩ v) mb xb F' a' b' ∧ To w (W2.setCell ⟨S + 2, 0, none⟩ v) F F' := by
  have k := kept_set (F := fun z => z = S + 2) W2 (S + 2) 0 v rfl
  have nf : ∀ z, F' z → z ≠ S + 2 := fun z hz => by
    rcases t.2 z hz with u | u
    · have := hF z u; omega
    · omega
  refine ⟨F', h.kept k nf, ?_, fun z hz => ?_⟩
  · have k0 : Kept F w w0 := Kept.of_below (by rw [hS]; exact hb)
    exact (k0.trans t.1 (fun _ _ u => u)).trans k (fun z hz u => by omega)
  · rcases t.2 z hz with u | u
    · exact .inl u
    · exact .inr (by omega)
set_option maxRecDepth 100000 in
set_option maxHeartbeats 1000000 in
theorem act_1 (h : PX N w mb xb F a b) (hN : N ≤ w.heap.size) (ha : a < 1000) (x : ActV) (hw : x.what = 1) (hx : x.Ok) :
    Calls Try.prog 10 #[.pointer (some ⟨mb, 0, none⟩), .pointer (some ⟨xb, 0, none⟩), actV x] w fun e W' => e = .returned (.bool true) ∧ ∃ F', PX N W' mb xb F' (a + 1) b ∧ To w W' F F' := by
  obtain ⟨R, hR⟩ : ∃ R : Ending → World → Prop, R = fun e W' => e = .returned (.bool true) ∧ ∃ F', PX N W' mb xb F' (a + 1) b ∧ To w W' F F' := ⟨_, rfl⟩
  rw [← hR]
  obtain ⟨S, hS⟩ : ∃ S, w.heap.size = S := ⟨_, rfl⟩
  obtain ⟨w0, h0⟩ : ∃ w0, ((w.alloc (.cells #[.pointer (some ⟨xb, 0, none⟩)] 26)).alloc (.cells #[.int .i64 x.what, .int .u64 (x.a : Nat), .int .u64 (x.n : Nat), .int .i64 x.id] 37)).alloc (.cells #[.bool false] 4) = w0 := ⟨_, rfl⟩
  obtain ⟨p0, f0, b0, s0, fl⟩ := fr_new h x S hS w0 h0
  have FIN := hide (show ∀ W2 F', PX N W2 mb xb F' (a + 1) b → To w0 W2 F F' → R (.returned (.bool true)) (W2.setCell ⟨S + 2, 0, none⟩ (.bool true)) from fun W2 F' p t => by
    rw [hR]
    exact ⟨rfl, fr_end b0 hS s0 fl p t _⟩)
  have HK := hide (show ∀ W2 : World, Kept F w0 W2 → Fr S xb x W2 from fun W2 k => f0.kept k (fun z h1 h2 u => by have := fl z u; omega))
  obtain ⟨v, CA⟩ := px_add (p0.below (drew_below w0)) (by rw [World.size_drew, s0]; omega) ha x.a
  have C1 := hide CA
  unfold actV
  rw [hw] at h0 ⊢
  obtain ⟨A, hA⟩ : ∃ A : Int, (x.a : Int) = A := ⟨_, rfl⟩
  have c0 := f0.b0.cell
  have c1 := f0.b1.cell 1 (.int .u64 (x.a : Nat)) rfl
  have cw := f0.b1.cell 0 (.int .i64 x.what) rfl
  rw [hw] at cw
  rw [hA] at C1 c1 h0 ⊢
  have HAA := hide hA
  clear CA h hR f0 b0 s0 fl hx p0 hA
  go_enter Try.func10, Try.ntmps10
  go_wp2_with fail
  go_region_held3 (fun w' => w'.cell? ⟨S, 0, none⟩ = some (.pointer (some ⟨xb, 0, none⟩)) ∧ w'.cell? ⟨S + 1, 1, none⟩ = some (.int .u64 A)) (first | (go_keep; done) | (refine ⟨?_, ?_⟩ <;> refine cell_far (by assumption) (by omega))) (first
    | (go_at_call 15; refine C1.out.mono ?_; rintro e w1 ⟨rfl, k1, D⟩; have C2 := hide D; have f1 := HK.out w1 (Kept.trans (Kept.of_below (drew_below w0)) k1 (fun _ _ u => u)); have d0 := f1.b0.cell; have d1 := f1.b1.cell 1 (.int .u64 (x.a : Nat)) rfl; rw [HAA.out] at d1; clear f1 D k1)
    | (go_at_call 20; refine C2.out.mono ?_; rintro e w2 ⟨rfl, F', p2, t2⟩; have f2 := HK.out w2 (Kept.trans (Kept.of_below (drew_below w0)) t2.1 (fun _ _ u => u)); have d2 := f2.b0.cell; have d3 := f2.b1.cell 1 (.int .u64 (x.a : Nat)) rfl; rw [HAA.out] at d3; have d4 : w2.cell? ⟨S + 1 + 1, 0, none⟩ = _ := f2.b2.cell; have d5 : w2.frozen? ⟨S + 1 + 1, 0, none⟩ = _ := f2.b2.frozen; have R2 := hide (f2.b2.set (.bool true)); have FF := hide (FIN.out w2 F' p2 ⟨Kept.trans (Kept.of_below (drew_below w0)) t2.1 (fun _ _ u => u), t2.2⟩); clear f2 p2 t2))
  go_wp2_with fail
  first
    | exact FF.out
    | exact bodyPost_ret (results_c Try.results10 _ _ ⟨S + 2, 0, none⟩ _ rfl (loadB R2.out)) rfl FF.out
set_option maxRecDepth 100000 in
set_option maxHeartbeats 1000000 in
theorem act_2 (h : PX N w mb xb F a b) (hN : N ≤ w.heap.size) (ha : a < 1000) (x : ActV) (hw : x.what = 2) (hx : x.Ok) (hb : b + cst x.n ≤ 90000) :
    Calls Try.prog 10 #[.pointer (some ⟨mb, 0, none⟩), .pointer (some ⟨xb, 0, none⟩), actV x] w fun e W' => e = .returned (.bool true) ∧ ∃ F', PX N W' mb xb F' (a + 1) (b + cst x.n) ∧ To w W' F F' := by
  obtain ⟨R, hR⟩ : ∃ R : Ending → World → Prop, R = fun e W' => e = .returned (.bool true) ∧ ∃ F', PX N W' mb xb F' (a + 1) (b + cst x.n) ∧ To w W' F F' := ⟨_, rfl⟩
  rw [← hR]
  obtain ⟨S, hS⟩ : ∃ S, w.heap.size = S := ⟨_, rfl⟩
  obtain ⟨w0, h0⟩ : ∃ w0, ((w.alloc (.cells #[.pointer (some ⟨xb, 0, none⟩)] 26)).alloc (.cells #[.int .i64 x.what, .int .u64 (x.a : Nat), .int .u64 (x.n : Nat), .int .i64 x.id] 37)).alloc (.cells #[.bool false] 4) = w0 := ⟨_, rfl⟩
  obtain ⟨p0, f0, b0, s0, fl⟩ := fr_new h x S hS w0 h0
  have FIN := hide (show ∀ W2 F', PX N W2 mb xb F' (a + 1) (b + cst x.n) → To w0 W2 F F' → R (.returned (.bool true)) (W2.setCell ⟨S + 2, 0, none⟩ (.bool true)) from fun W2 F' p t => by
    rw [hR]
    exact ⟨rfl, fr_end b0 hS s0 fl p t _⟩)
  have HK := hide (show ∀ W2 : World, Kept F w0 W2 → Fr S xb x W2 from fun W2 k => f0.kept k (fun z h1 h2 u => by have := fl z u; omega))
  obtain ⟨v, CA⟩ := px_set (p0.below (drew_below w0)) (by rw [World.size_drew, s0]; omega) ha x.a x.n x.id hb
  have C1 := hide CA
  unfold actV
  rw [hw] at h0 ⊢
  obtain ⟨A, hA⟩ : ∃ A : Int, (x.a : Int) = A := ⟨_, rfl⟩
  obtain ⟨M, hM⟩ : ∃ M : Int, (x.n : Int) = M := ⟨_, rfl⟩
  obtain ⟨D, hD⟩ : ∃ D : Int, x.id = D := ⟨_, rfl⟩
  have cs := fun (Y : World) (f : Fr S xb x Y) => (show Y.cell? ⟨S, 0, none⟩ = some (.pointer (some ⟨xb, 0, none⟩)) ∧ Y.cell? ⟨S + 1, 1, none⟩ = some (.int .u64 A) ∧ Y.cell? ⟨S + 1, 2, none⟩ = some (.int .u64 M) ∧ Y.cell? ⟨S + 1, 3, none⟩ = some (.int .i64 D) from by
    rw [← hA, ← hM, ← hD]
    exact ⟨f.b0.cell, f.b1.cell 1 _ rfl, f.b1.cell 2 _ rfl, f.b1.cell 3 _ rfl⟩)
  obtain ⟨c0, c1, c2, c3⟩ := cs w0 f0
  have CS := hide cs
  have cw := f0.b1.cell 0 (.int .i64 x.what) rfl
  rw [hw] at cw
  rw [hA, hM, hD] at C1 h0 ⊢
  clear CA h hR f0 b0 s0 fl hx p0 hA hM hD cs hb
  go_enter Try.func10, Try.ntmps10
  go_wp2_with fail
  go_region_held3 (fun w' => w'.cell? ⟨S, 0, none⟩ = some (.pointer (some ⟨xb, 0, none⟩)) ∧ w'.cell? ⟨S + 1, 1, none⟩ = some (.int .u64 A) ∧ w'.cell? ⟨S + 1, 2, none⟩ = some (.int .u64 M) ∧ w'.cell? ⟨S + 1, 3, none⟩ = some (.int .i64 D)) (first | (go_keep; done) | (refine ⟨?_, ?_, ?_, ?_⟩ <;> refine cell_far (by assumption) (by omega))) (first
    | (go_at_call 14; refine C1.out.mono ?_; rintro e w1 ⟨rfl, k1, D1⟩; have C2 := hide D1; obtain ⟨d0, d1, d2, d3⟩ := CS.out w1 (HK.out w1 (Kept.trans (Kept.of_below (drew_below w0)) k1 (fun _ _ u => u))); clear D1 k1)
    | (go_at_call 21; refine C2.out.mono ?_; rintro e w2 ⟨rfl, F', p2, t2⟩; have f2 := HK.out w2 (Kept.trans (Kept.of_below (drew_below w0)) t2.1 (fun _ _ u => u)); obtain ⟨e0, e1, e2, e3⟩ := CS.out w2 f2; have d4 : w2.cell? ⟨S + 1 + 1, 0, none⟩ = _ := f2.b2.cell; have d5 : w2.frozen? ⟨S + 1 + 1, 0, none⟩ = _ := f2.b2.frozen; have R2 := hide (f2.b2.set (.bool true)); have FF := hide (FIN.out w2 F' (p2.mono (by omega) (Nat.le_refl _)) ⟨Kept.trans (Kept.of_below (drew_below w0)) t2.1 (fun _ _ u => u), t2.2⟩); clear f2 p2 t2))
  go_wp2_with fail
  first
    | exact FF.out
    | exact bodyPost_ret (results_c Try.results10 _ _ ⟨S + 2, 0, none⟩ _ rfl (loadB R2.out)) rfl FF.out
set_option maxRecDepth 100000 in
set_option maxHeartbeats 1000000 in
theorem act_0 (h : PX N w mb xb F a b) (hN : N ≤ w.heap.size) (ha : a < 1000) (x : ActV) (h1 : x.what ≠ 1) (h2 : x.what ≠ 2) (h3 : x.what ≠ 3) (h4 : x.what ≠ 4) (hx : x.Ok) :
    Calls Try.prog 10 #[.pointer (some ⟨mb, 0, none⟩), .pointer (some ⟨xb, 0, none⟩), actV x] w fun e W' => e = .returned (.bool true) ∧ ∃ F', PX N W' mb xb F' (a + 1) b ∧ To w W' F F' := by
  obtain ⟨R, hR⟩ : ∃ R : Ending → World → Prop, R = fun e W' => e = .returned (.bool true) ∧ ∃ F', PX N W' mb xb F' (a + 1) b ∧ To w W' F F' := ⟨_, rfl⟩
  rw [← hR]
  obtain ⟨S, hS⟩ : ∃ S, w.heap.size = S := ⟨_, rfl⟩
  obtain ⟨w0, h0⟩ : ∃ w0, ((w.alloc (.cells #[.pointer (some ⟨xb, 0, none⟩)] 26)).alloc (.cells #[.int .i64 x.what, .int .u64 (x.a : Nat), .int .u64 (x.n : Nat), .int .i64 x.id] 37)).alloc (.cells #[.bool false] 4) = w0 := ⟨_, rfl⟩
  obtain ⟨p0, f0, b0, s0, fl⟩ := fr_new h x S hS w0 h0
  have FIN := hide (show ∀ W2 F', PX N W2 mb xb F' (a + 1) b → To w0 W2 F F' → R (.returned (.bool true)) (W2.setCell ⟨S + 2, 0, none⟩ (.bool true)) from fun W2 F' p t => by
    rw [hR]
    exact ⟨rfl, fr_end b0 hS s0 fl p t _⟩)
  have HK := hide (show ∀ W2 : World, Kept F w0 W2 → Fr S xb x W2 from fun W2 k => f0.kept k (fun z h1 h2 u => by have := fl z u; omega))
  have FF := hide (FIN.out w0 F (p0.mono (Nat.le_succ a) (Nat.le_refl b)) ⟨Kept.refl _ _, fun z hz => .inl hz⟩)
  have R2 := hide (f0.b2.set (.bool true))
  have d4 : w0.cell? ⟨S + 1 + 1, 0, none⟩ = _ := f0.b2.cell
  have d5 : w0.frozen? ⟨S + 1 + 1, 0, none⟩ = _ := f0.b2.frozen
  unfold actV
  have cw := f0.b1.cell 0 (.int .i64 x.what) rfl
  obtain ⟨T, hT⟩ : ∃ T, x.what = T := ⟨_, rfl⟩
  have e1 : (T == 1) = false := beq_eq_false_iff_ne.2 (by omega)
  have e2 : (T == 2) = false := beq_eq_false_iff_ne.2 (by omega)
  have e3 : (T == 3) = false := beq_eq_false_iff_ne.2 (by omega)
  have e4 : (T == 4) = false := beq_eq_false_iff_ne.2 (by omega)
  rw [hT] at h0 cw ⊢
  clear h hR f0 b0 s0 fl hx p0 h1 h2 h3 h4 hT
  go_enter Try.func10, Try.ntmps10
  go_wp2_with fail
  first
    | exact FF.out
    | exact bodyPost_ret (results_c Try.results10 _ _ ⟨S + 2, 0, none⟩ _ rfl (loadB R2.out)) rfl FF.out
end
end Go.Proofs.Ytdcjldpbgickmaa
