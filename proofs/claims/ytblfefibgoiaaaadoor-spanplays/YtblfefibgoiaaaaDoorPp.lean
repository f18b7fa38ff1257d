/- Both spans beside one another: what both answer alike. -/
import Derived.Test.YtblfefibgoiaaaaDoorGj
import Derived.Test.YtblfefibgoiaaaaDoorRj
namespace Go.Proofs.YtblfefibgoiaaaaDoor
open Go.ChangeShapes Go.WideShapes Go.ChangeAt Go.RowKit Go.Proofs.Sn Go.Shelf
set_option linter.unusedVariables false
set_option linter.unusedSimpArgs false

structure Rf (N : Nat) (W : World) (rb : Nat) (F : Nat → Prop) (p : Nat) (G : Geo) (S : St) : Prop where
  ex : ∃ v1 v2 L1 L2, RfAt N W rb v1 v2 p G S.st L1 L2 S.look ∧ bl L1 = S.u ∧ bl L2 = S.m ∧ ∀ z, F z ↔ ownS rb v1 v2 z
  hp : G.base = p * 8192
section
variable {N : Nat} {W W' : World} {rb p : Nat} {F : Nat → Prop} {G : Geo} {S : St}
theorem Rf.lt (h : Rf N W rb F p G S) {z : Nat} (hz : F z) : N ≤ z ∧ z < W.heap.size := by
  obtain ⟨v1, v2, L1, L2, a, _, _, hF⟩ := h.ex
  exact a.own ((hF z).1 hz)
theorem Rf.kept {K : Nat → Prop} (h : Rf N W rb F p G S) (k : Kept K W W') (hK : ∀ z, F z → ¬ K z) : Rf N W' rb F p G S := by
  obtain ⟨v1, v2, L1, L2, a, b, c, hF⟩ := h.ex
  exact ⟨⟨v1, v2, L1, L2, a.kept k (fun z hz => hK z ((hF z).2 hz)), b, c, hF⟩, h.hp⟩
theorem Rf.below (h : Rf N W rb F p G S) (k : Below W.heap.size W W') : Rf N W' rb F p G S := h.kept (Kept.of_below (F := fun _ => False) k) (fun _ _ f => f)
theorem Rf.to {v1 v2 : Value} {S' : St} (hF : ∀ z, F z ↔ ownS rb v1 v2 z) (t : RfTo N W W' rb v1 v2 p G S'.st S'.u S'.m S'.look) (hp : G.base = p * 8192) : ∃ F', Rf N W' rb F' p G S' ∧ To W W' F F' := by
  obtain ⟨v1', v2', L1', L2', a, b, d, k, n⟩ := t
  refine ⟨ownS rb v1' v2', ⟨⟨v1', v2', L1', L2', a, b, d, fun _ => Iff.rfl⟩, hp⟩, k.mono (fun z hz => (hF z).2 hz), fun z hz => ?_⟩
  rcases n z hz with u | u
  · exact .inl ((hF z).2 u)
  · exact .inr u
end
/-- The landed span at S1, the reference's at S2, beside blocks A of the law's own. -/
def PP (N : Nat) (w W : World) (sb rb p : Nat) (G : Geo) (A : Nat → Prop) (S1 S2 : St) : Prop :=
  ∃ F, LS N w W sb (fun z => F z ∨ A z) G S1 ∧ Rf N W rb F p G S2 ∧ ∀ z, A z → ¬ F z
section
variable {N : Nat} {w W W' : World} {sb rb p : Nat} {G : Geo} {A : Nat → Prop} {S1 S2 S1' S2' S : St}
theorem PP.be (h : PP N w W sb rb p G A S1 S2) : Below N w W := h.choose_spec.1.be
theorem PP.tab (h : PP N w W sb rb p G A S1 S2) : TabW W := h.choose_spec.1.tab
theorem PP.nw (h : PP N w W sb rb p G A S1 S2) : N ≤ W.heap.size := h.choose_spec.1.nw
theorem PP.g (h : PP N w W sb rb p G A S1 S2) : GOk G := h.choose_spec.1.g
theorem PP.ok (h : PP N w W sb rb p G A S1 S2) : SOk G.slots S1 := h.choose_spec.1.ok
theorem PP.first (h : PP N w W sb rb p G A S1 S2) : ∃ k, First S1.u S1.look k := h.choose_spec.1.first
theorem PP.read (h : PP N w W sb rb p G A S1 S2) (k : Below W.heap.size W W') : PP N w W' sb rb p G A S1 S2 := by
  obtain ⟨F, l, r, d⟩ := h
  exact ⟨F, l.read k, r.below k, d⟩
theorem PP.less (h : PP N w W sb rb p G A S1 S2) {B : Nat → Prop} (hB : ∀ z, B z → A z) : PP N w W sb rb p G B S1 S2 := by
  obtain ⟨F, l, r, d⟩ := h
  exact ⟨F, l.less (fun z hz => hz.imp id (hB z)), r, fun z hz => d z (hB z hz)⟩
theorem PP.made (h : PP N w W sb rb p G A S1 S2) (k : Below W.heap.size W W') {B : Nat → Prop} (hB : ∀ z, B z → A z ∨ (W.heap.size ≤ z ∧ z < W'.heap.size)) : PP N w W' sb rb p G B S1 S2 := by
  obtain ⟨F, l, r, d⟩ := h
  refine ⟨F, l.made k (fun z hz => ?_), r.below k, fun z hz u => ?_⟩
  · rcases hz with y | y
    · exact .inl (.inl y)
    · rcases hB z y with q | q
      · exact .inl (.inr q)
      · exact .inr q
  · rcases hB z hz with q | q
    · exact d z q u
    · have := (r.lt u).2; omega
/-- The landed one has changed. -/
theorem PP.landed {F : Nat → Prop} (r : Rf N W rb F p G S2) (d : ∀ z, A z → ¬ F z) (l' : LS N w W' sb (fun z => F z ∨ A z) G S1') (left : LeftO (fun z => F z ∨ A z) W W') : PP N w W' sb rb p G A S1' S2 ∧ LeftO A W W' := by
  refine ⟨⟨F, l', ?_, d⟩, left.mono (fun z hz => .inr hz)⟩
  obtain ⟨K, k, hk⟩ := left
  exact r.kept k (fun z hz => hk z (.inl hz))
/-- The reference's has changed. -/
theorem PP.ref {F F' : Nat → Prop} (l : LS N w W sb (fun z => F z ∨ A z) G S1) (r : Rf N W rb F p G S2) (d : ∀ z, A z → ¬ F z) (r' : Rf N W' rb F' p G S2') (t : To W W' F F') : PP N w W' sb rb p G A S1 S2' ∧ LeftO A W W' := by
  obtain ⟨F0, f0, d0⟩ := l.ex
  have bl' : Below N W W' := t.1.below l.nw (fun z hz => (r.lt hz).1)
  have al := fun z (hz : A z) => l.ol z (.inr hz)
  refine ⟨⟨F', ⟨⟨F0, f0.kept t.1 (fun z hz u => d0 z (.inl u) hz), fun z hz u => ?_⟩, fun z hz => ?_, l.be.trans bl', Nat.le_trans l.nw t.1.size, l.tab.below l.n0 bl', l.n0⟩, r', fun z hz u => ?_⟩, F, t.1, d⟩
  · rcases hz with y | y
    · rcases t.2 z y with q | q
      · exact d0 z (.inl q) u
      · have := (f0.lt u).2; omega
    · exact d0 z (.inr y) u
  · rcases hz with y | y
    · exact r'.lt y
    · exact ⟨(al z y).1, Nat.lt_of_lt_of_le (al z y).2 t.1.size⟩
  · rcases t.2 z u with q | q
    · exact d z hz q
    · have := (al z hz).2; omega
/-- Both calls give the same, and both spans are the same behind it. -/
def Both (N : Nat) (w : World) (sb rb p : Nat) (G : Geo) (A : Nat → Prop) (S : St) (f g : FuncId) (xs : List Value) (Q : Value → Prop) (W : World) : Prop :=
  ∃ (ans : Value) (S' : St), Q ans ∧ (Calls Tryd.prog f (#[.pointer (some ⟨sb, 0, none⟩)] ++ xs.toArray) W fun e W' => e = .returned ans ∧ PP N w W' sb rb p G A S' S ∧ LeftO A W W') ∧
    ∀ W', PP N w W' sb rb p G A S' S → Calls Tryd.prog g (#[.pointer (some ⟨rb, 0, none⟩)] ++ xs.toArray) W' fun e W'' => e = .returned ans ∧ PP N w W'' sb rb p G A S' S' ∧ LeftO A W' W''
theorem l_same {f : FuncId} {args : Array Value} {ans : Value} (h : PP N w W sb rb p G A S1 S2) (c : Calls Tryd.prog f args W fun e W' => e = .returned ans ∧ W' = W) : Calls Tryd.prog f args W fun e W' => e = .returned ans ∧ PP N w W' sb rb p G A S1 S2 ∧ LeftO A W W' :=
  c.mono fun e W' ⟨he, hw⟩ => ⟨he, by rw [hw]; exact ⟨h, LeftO.refl _ _⟩⟩
theorem l_below {f : FuncId} {args : Array Value} {ans : Value} (h : PP N w W sb rb p G A S1 S2) (c : Calls Tryd.prog f args W fun e W' => e = .returned ans ∧ ∃ j, W' = W.drewN j) : Calls Tryd.prog f args W fun e W' => e = .returned ans ∧ PP N w W' sb rb p G A S1 S2 ∧ LeftO A W W' :=
  c.mono fun e W' ⟨he, j, hw⟩ => ⟨he, by rw [hw]; exact ⟨h.read (below_dN W j), LeftO.of_below (below_dN W j)⟩⟩
theorem r_to {g : FuncId} {args : Array Value} {ans : Value} (h : PP N w W sb rb p G A S1 S2) (c : ∀ F, Rf N W rb F p G S2 → Calls Tryd.prog g args W fun e W' => e = .returned ans ∧ ∃ F', Rf N W' rb F' p G S2' ∧ To W W' F F') : Calls Tryd.prog g args W fun e W' => e = .returned ans ∧ PP N w W' sb rb p G A S1 S2' ∧ LeftO A W W' := by
  obtain ⟨F, l, r, d⟩ := h
  exact (c F r).mono fun e W' ⟨he, F', r', t⟩ => ⟨he, PP.ref l r d r' t⟩
theorem r_same {g : FuncId} {args : Array Value} {ans : Value} (h : PP N w W sb rb p G A S1 S2) (c : ∀ F, Rf N W rb F p G S2 → Calls Tryd.prog g args W fun e W' => e = .returned ans ∧ W' = W) : Calls Tryd.prog g args W fun e W' => e = .returned ans ∧ PP N w W' sb rb p G A S1 S2 ∧ LeftO A W W' := by
  obtain ⟨F, l, r, d⟩ := h
  exact (c F r).mono fun e W' ⟨he, hw⟩ => ⟨he, by rw [hw]; exact ⟨⟨F, l, r, d⟩, LeftO.refl _ _⟩⟩
theorem r_below {g : FuncId} {args : Array Value} {ans : Value} (h : PP N w W sb rb p G A S1 S2) (c : ∀ F, Rf N W rb F p G S2 → Calls Tryd.prog g args W fun e W' => e = .returned ans ∧ ∃ j, W' = W.drewN j) : Calls Tryd.prog g args W fun e W' => e = .returned ans ∧ PP N w W' sb rb p G A S1 S2 ∧ LeftO A W W' := by
  obtain ⟨F, l, r, d⟩ := h
  exact (c F r).mono fun e W' ⟨he, j, hw⟩ => ⟨he, by rw [hw]; exact ⟨PP.read ⟨F, l, r, d⟩ (below_dN W j), LeftO.of_below (below_dN W j)⟩⟩
theorem both_next (h : PP N w W sb rb p G A S S) : Both N w sb rb p G A S 17 33 [] (fun v => ∃ x y : Int, v = .tuple #[.int .i64 x, .int .i64 y]) W := by
  by_cases c0 : S.st = 0
  · refine ⟨.tuple #[.int .i64 0, .int .i64 33], S, ⟨_, _, rfl⟩, l_same h (ls_next_dead h.choose_spec.1 c0), fun W' h' => r_same h' (fun F r => ?_)⟩
    obtain ⟨v1, v2, L1, L2, a, b, c, hF⟩ := r.ex
    rw [c0] at a
    exact rnext_dead a
  · obtain ⟨k, hf⟩ := h.first
    have g := h.g
    have lk := h.ok.lk
    have s1 := g.s1
    by_cases ck : k < G.slots
    · refine ⟨.tuple #[.int .i64 (k : Nat), .int .i64 0], S.next k, ⟨_, _, rfl⟩, ?_, fun W' h' => r_to h' (fun F r => ?_)⟩
      · obtain ⟨F, l, r, d⟩ := h
        exact (ls_next l c0 hf ck).mono fun e W' ⟨he, l', left⟩ => ⟨he, PP.landed r d l' left⟩
      · obtain ⟨v1, v2, L1, L2, a, b, c, hF⟩ := r.ex
        refine (rnext_any a h'.nw c0 (by omega) (by rw [b]; exact hf) s1).mono fun e W'' hx => ?_
        obtain ⟨he, t⟩ := hx.1 ck
        rw [b, c] at t
        exact ⟨he, Rf.to (S' := S.next k) hF t r.hp⟩
    · refine ⟨.tuple #[.int .i64 0, .int .i64 30], S, ⟨_, _, rfl⟩, ?_, fun W' h' => r_same h' (fun F r => ?_)⟩
      · obtain ⟨F, l, r, d⟩ := h
        exact (ls_next_full l c0 hf (by omega)).mono fun e W' ⟨he, l', left⟩ => ⟨he, PP.landed r d l' left⟩
      · obtain ⟨v1, v2, L1, L2, a, b, c, hF⟩ := r.ex
        exact (rnext_any a h'.nw c0 (by omega) (by rw [b]; exact hf) s1).mono fun e W'' hx => hx.2 (by omega)
theorem both_give (h : PP N w W sb rb p G A S S) (i : Int) : Both N w sb rb p G A S 16 34 [.int .i64 i] (fun v => ∃ x : Int, v = .int .i64 x) W := by
  by_cases c0 : S.st = 2
  · cases ci : inB G.slots i with
    | false =>
      refine ⟨.int .i64 1, S, ⟨_, rfl⟩, l_same h (ls_give_arg h.choose_spec.1 c0 i ci), fun W' h' => r_same h' (fun F r => ?_)⟩
      obtain ⟨v1, v2, L1, L2, a, b, c, hF⟩ := r.ex
      rw [c0] at a
      exact rgive_arg a i ci
    | true =>
      obtain ⟨i0, i1⟩ := inB_true.1 ci
      obtain ⟨k, rfl⟩ : ∃ k : Nat, i = k := ⟨i.toNat, by omega⟩
      have ck : k < G.slots := by omega
      cases hu : S.u k with
      | false =>
        refine ⟨.int .i64 31, S, ⟨_, rfl⟩, l_same h (ls_give_free h.choose_spec.1 c0 k ck hu), fun W' h' => r_same h' (fun F r => ?_)⟩
        obtain ⟨v1, v2, L1, L2, a, b, c, hF⟩ := r.ex
        rw [c0] at a
        exact rgive_free a k ck (by rw [b]; exact hu)
      | true =>
        refine ⟨.int .i64 0, S.give k, ⟨_, rfl⟩, ?_, fun W' h' => r_to h' (fun F r => ?_)⟩
        · obtain ⟨F, l, r, d⟩ := h
          exact (ls_give l c0 k ck hu).mono fun e W' ⟨he, l', left⟩ => ⟨he, PP.landed r d l' left⟩
        · obtain ⟨v1, v2, L1, L2, a, b, c, hF⟩ := r.ex
          rw [c0] at a
          refine (rgive_ok a k ck (by rw [b]; exact hu)).mono fun e W'' ⟨he, t⟩ => ⟨he, Rf.to (S' := S.give k) hF ?_ r.hp⟩
          rw [b, c] at t
          show RfTo N W' W'' rb v1 v2 p G S.st (upd S.u k false) S.m (min S.look k)
          rw [c0]
          exact t
  · refine ⟨.int .i64 33, S, ⟨_, rfl⟩, l_same h (ls_give_state h.choose_spec.1 c0 i), fun W' h' => r_same h' (fun F r => ?_)⟩
    obtain ⟨v1, v2, L1, L2, a, b, c, hF⟩ := r.ex
    exact rgive_state a c0 i
theorem both_mark (h : PP N w W sb rb p G A S S) (i : Int) : Both N w sb rb p G A S 19 35 [.int .i64 i] (fun v => ∃ x : Int, v = .int .i64 x) W := by
  by_cases c0 : S.st = 1
  · cases ci : inB G.slots i with
    | false =>
      refine ⟨.int .i64 1, S, ⟨_, rfl⟩, l_same h (ls_mark_arg h.choose_spec.1 c0 i ci), fun W' h' => r_same h' (fun F r => ?_)⟩
      obtain ⟨v1, v2, L1, L2, a, b, c, hF⟩ := r.ex
      rw [c0] at a
      exact rmark_arg a i ci
    | true =>
      obtain ⟨i0, i1⟩ := inB_true.1 ci
      obtain ⟨k, rfl⟩ : ∃ k : Nat, i = k := ⟨i.toNat, by omega⟩
      have ck : k < G.slots := by omega
      have s1 := h.g.s1
      refine ⟨.int .i64 0, S.mark k, ⟨_, rfl⟩, ?_, fun W' h' => r_to h' (fun F r => ?_)⟩
      · obtain ⟨F, l, r, d⟩ := h
        exact (ls_mark l c0 k ck).mono fun e W' ⟨he, l', left⟩ => ⟨he, PP.landed r d l' left⟩
      · obtain ⟨v1, v2, L1, L2, a, b, c, hF⟩ := r.ex
        rw [c0] at a
        refine (rmark_ok a h'.nw s1 k ck).mono fun e W'' ⟨he, t⟩ => ⟨he, Rf.to (S' := S.mark k) hF ?_ r.hp⟩
        rw [b, c] at t
        show RfTo N W' W'' rb v1 v2 p G S.st S.u (upd S.m k true) S.look
        rw [c0]
        exact t
  · refine ⟨.int .i64 33, S, ⟨_, rfl⟩, l_same h (ls_mark_state h.choose_spec.1 c0 i), fun W' h' => r_same h' (fun F r => ?_)⟩
    obtain ⟨v1, v2, L1, L2, a, b, c, hF⟩ := r.ex
    exact rmark_state a c0 i
theorem both_die (h : PP N w W sb rb p G A S S) : Both N w sb rb p G A S 26 38 [] (fun v => ∃ x : Int, v = .int .i64 x) W := by
  have su := h.ok.su
  by_cases c0 : S.st = 0 ∨ 0 < Bt.cnt S.u 0 G.slots
  · refine ⟨.int .i64 33, S, ⟨_, rfl⟩, l_same h (ls_die_no h.choose_spec.1 c0), fun W' h' => r_same h' (fun F r => ?_)⟩
    obtain ⟨v1, v2, L1, L2, a, b, c, hF⟩ := r.ex
    refine rdie_no a (c0.imp id (fun z => ?_))
    rw [cnt_ext (u := bl L1) (a := L1.length) (b := G.slots) (fun i hi => bl_lt hi) (by rw [b]; exact su), b]
    exact z
  · have z1 : S.st ≠ 0 := fun e => c0 (.inl e)
    have z2 : Bt.cnt S.u 0 G.slots = 0 := by
      have : ¬ 0 < Bt.cnt S.u 0 G.slots := fun e => c0 (.inr e)
      omega
    refine ⟨.int .i64 0, S.die, ⟨_, rfl⟩, ?_, fun W' h' => r_to h' (fun F r => ?_)⟩
    · obtain ⟨F, l, r, d⟩ := h
      exact (ls_die l z1 z2).mono fun e W' ⟨he, l', left⟩ => ⟨he, PP.landed r d l' left⟩
    · obtain ⟨v1, v2, L1, L2, a, b, c, hF⟩ := r.ex
      refine (rdie_ok a z1 ?_).mono fun e W'' ⟨he, t⟩ => ⟨he, Rf.to (S' := S.die) hF t r.hp⟩
      rw [cnt_ext (u := bl L1) (a := L1.length) (b := G.slots) (fun i hi => bl_lt hi) (by rw [b]; exact su), b]
      exact z2
theorem both_slot (h : PP N w W sb rb p G A S S) (i : Int) : Both N w sb rb p G A S 23 39 [.int .i64 i] (fun v => ∃ x y : Int, v = .tuple #[.int .u64 x, .int .i64 y]) W := by
  cases ci : inB G.slots i with
  | false =>
    refine ⟨.tuple #[.int .u64 0, .int .i64 1], S, ⟨_, _, rfl⟩, l_same h (ls_slot_no h.choose_spec.1 i ci), fun W' h' => r_same h' (fun F r => ?_)⟩
    obtain ⟨v1, v2, L1, L2, a, b, c, hF⟩ := r.ex
    exact rslot_no a i ci
  | true =>
    obtain ⟨i0, i1⟩ := inB_true.1 ci
    obtain ⟨k, rfl⟩ : ∃ k : Nat, i = k := ⟨i.toNat, by omega⟩
    have ck : k < G.slots := by omega
    refine ⟨.tuple #[.int .u64 ((G.base + k * G.elem : Nat) : Int), .int .i64 0], S, ⟨_, _, rfl⟩, l_below h (ls_slot h.choose_spec.1 k ck), fun W' h' => r_below h' (fun F r => ?_)⟩
    obtain ⟨v1, v2, L1, L2, a, b, c, hF⟩ := r.ex
    exact rslot_ok a h'.g r.hp k ck
theorem both_index (h : PP N w W sb rb p G A S S) (x : Nat) (hx : x < 18446744073709551616) : Both N w sb rb p G A S 22 42 [.int .u64 (x : Nat)] (fun v => ∃ x y : Int, v = .tuple #[.int .i64 x, .int .i64 y]) W := by
  cases ci : idxV G x with
  | none =>
    refine ⟨.tuple #[.int .i64 0, .int .i64 10], S, ⟨_, _, rfl⟩, l_below h (ls_index_no h.choose_spec.1 x hx ci), fun W' h' => r_below h' (fun F r => ?_)⟩
    obtain ⟨v1, v2, L1, L2, a, b, c, hF⟩ := r.ex
    exact rindex_no a h'.g r.hp x hx ci
  | some k =>
    refine ⟨.tuple #[.int .i64 (k : Nat), .int .i64 0], S, ⟨_, _, rfl⟩, l_below h (ls_index h.choose_spec.1 x k hx ci), fun W' h' => r_below h' (fun F r => ?_)⟩
    obtain ⟨v1, v2, L1, L2, a, b, c, hF⟩ := r.ex
    exact rindex_ok a h'.g r.hp x k hx ci
/-- Sweeps: the same numbers, in lists of their own. -/
theorem both_sweep (h : PP N w W sb rb p G A S S) : ∃ (X : List Nat) (er : Int) (S' : St), X.length ≤ 65536 ∧
    (Calls Tryd.prog 18 #[.pointer (some ⟨sb, 0, none⟩)] W fun e W' => ∃ vr, e = .returned (.tuple #[vr, .int .i64 er]) ∧ W'.ownsRow N 3 1 vr X.length (X.map encI) ∧ PP N w W' sb rb p G (fun z => A z ∨ vr.ownBlock = some z) S' S ∧ LeftO A W W') ∧
    ∀ W' B, PP N w W' sb rb p G B S' S → Calls Tryd.prog 36 #[.pointer (some ⟨rb, 0, none⟩)] W' fun e W'' => ∃ vr, e = .returned (.tuple #[vr, .int .i64 er]) ∧ W''.ownsRow N 3 1 vr X.length (X.map encI) ∧ PP N w W'' sb rb p G B S' S' ∧ LeftO B W' W'' := by
  have su := h.ok.su
  have sm := h.ok.sm
  by_cases c0 : S.st = 1
  · by_cases cz : lsF S.m S.u G.slots = []
    · have sub : ∀ i, S.m i = true → S.u i = true := (lsF_nil sm).1 cz
      refine ⟨lsF S.u S.m G.slots, 0, S.sweep, Nat.le_trans (lsF_len _ _ _) h.g.s1, ?_, fun W' B h' => ?_⟩
      · obtain ⟨F, l, r, d⟩ := h
        refine (ls_sweep l c0 cz).mono ?_
        rintro e W' ⟨vr, rfl, o, l', left⟩
        refine ⟨vr, rfl, ownsRow_le o l.nw, ⟨F, l'.less (fun z hz => ?_), ?_, fun z hz u => ?_⟩, left.mono (fun z hz => .inr hz)⟩
        · rcases hz with y | y | y
          · exact .inl (.inl y)
          · exact .inl (.inr y)
          · exact .inr y
        · obtain ⟨K, k, hk⟩ := left
          exact r.kept k (fun z hz => hk z (.inl hz))
        · rcases hz with y | y
          · exact d z y u
          · have h1 := (own_ge o y).1
            have h2 := (r.lt u).2
            omega
      · obtain ⟨F, l, r, d⟩ := h'
        obtain ⟨v1, v2, L1, L2, a, b, c, hF⟩ := r.ex
        rw [c0] at a
        refine (rsweep_ok a (by rw [b, c]; exact sub)).mono ?_
        rintro e W'' ⟨vr, rfl, o, t, -⟩
        have e1 : lsF (bl L1) (bl L2) L1.length = lsF S.u S.m G.slots := by
          rw [b, c]
          refine filter_ext (fun i hi => ?_) (fun i hi => ?_)
          · have := (Bool.and_eq_true _ _ ▸ hi).1
            rw [← b] at this
            exact bl_lt this
          · exact su i (Bool.and_eq_true _ _ ▸ hi).1
        rw [e1] at o
        rw [c] at t
        obtain ⟨F', r', tt⟩ := Rf.to (S' := S.sweep) hF (by show RfTo N W' W'' rb v1 v2 p G S.st S.m (fun _ => false) 0; rw [c0]; exact t) r.hp
        exact ⟨vr, rfl, ownsRow_le o l.nw, PP.ref l r d r' tt⟩
    · refine ⟨[], 40, S, by simp, ?_, fun W' B h' => ?_⟩
      · obtain ⟨F, l, r, d⟩ := h
        refine (ls_sweep_zombie l c0 cz).mono ?_
        rintro e W' ⟨rfl, l', left⟩
        obtain ⟨q1, q2⟩ := PP.landed r d l' left
        exact ⟨_, rfl, World.ownsRow_nil _ _ _ _, q1.less (fun z hz => hz.resolve_right (own_none _)), q2⟩
      · obtain ⟨F, l, r, d⟩ := h'
        obtain ⟨v1, v2, L1, L2, a, b, c, hF⟩ := r.ex
        rw [c0] at a
        refine (rsweep_zombie a ?_).mono ?_
        · apply Classical.byContradiction
          intro z
          apply cz
          refine (lsF_nil sm).2 (fun i hi => ?_)
          cases q : S.u i with
          | true => rfl
          | false => exact absurd ⟨i, by rw [c]; exact hi, by rw [b]; exact q⟩ z
        · rintro e W'' ⟨rfl, hw⟩
          rw [hw]
          exact ⟨_, rfl, World.ownsRow_nil _ _ _ _, ⟨F, l, r, d⟩, LeftO.refl _ _⟩
  · refine ⟨[], 33, S, by simp, ?_, fun W' B h' => ?_⟩
    · have h2 := h
      obtain ⟨F, l, r, d⟩ := h2
      refine (ls_sweep_state l c0).mono ?_
      rintro e W' ⟨rfl, hw⟩
      rw [hw]
      exact ⟨_, rfl, World.ownsRow_nil _ _ _ _, h.less (fun z hz => hz.resolve_right (own_none _)), LeftO.refl _ _⟩
    · obtain ⟨F, l, r, d⟩ := h'
      obtain ⟨v1, v2, L1, L2, a, b, c, hF⟩ := r.ex
      refine (rsweep_state a c0).mono ?_
      rintro e W'' ⟨rfl, hw⟩
      rw [hw]
      exact ⟨_, rfl, World.ownsRow_nil _ _ _ _, ⟨F, l, r, d⟩, LeftO.refl _ _⟩
end
end Go.Proofs.YtblfefibgoiaaaaDoor
