/- Package fix: how a store of records lies; New, pop, Live, Count: contracts. -/
import Derived.Test.YtmpddppjkfflnaaBu
import Derived.Deep.AppendLies
import Derived.Laws.OwnMore
import Derived.Lib.SmallJoins
namespace Go.Proofs.Ytmpddppjkfflnaa
open Go.ChangeShapes Go.WideShapes Go.ChangeAt Go.RowKit Go.Shelf Go.Proofs.Rx Go.Maps
set_option linter.unusedVariables false
set_option linter.unusedSimpArgs false

attribute [local go_sem] Oper.semAt_some

theorem below_alloc (w : World) (o : Obj) : Below w.heap.size w (w.alloc o) := (Below.refl _ _).alloc (Nat.le_refl _) _
def encB (x : Bool) : Value := .bool x
def encI (x : Int) : Value := .int .i64 x
theorem infoI : (Try.prog.info? 3).map (fun i => (i.zero, i.size, i.bytes)) = some (some (.int .i64 0), 1, 8) := by kernel_rfl
theorem infoB : (Try.prog.info? 4).map (fun i => (i.zero, i.size, i.bytes)) = some (some (.bool false), 1, 1) := by kernel_rfl
theorem own_eq {g0 g n c : Nat} (h : (Value.slice (some ⟨g0, 0, none⟩) n c).ownBlock = some g) : g0 = g := by simpa [Value.ownBlock] using h
theorem owns_kept {F : Nat → Prop} {W W' : World} {M e sz n : Nat} {v : Value} {xs : List Value} (h : W.ownsRow M e sz v n xs) (k : Kept F W W') (hF : ∀ g, v.ownBlock = some g → ¬ F g) : W'.ownsRow M e sz v n xs := by
  refine ⟨h.1, ?_⟩
  rcases h.2 with ⟨a, b⟩ | ⟨g, cap, cur, a, b, c, d⟩
  · exact .inl ⟨a, b⟩
  · exact .inr ⟨g, cap, cur, a, b, kept_at k c (hF g (by rw [a]; rfl)), d⟩
theorem own_ge {W : World} {M e n z : Nat} {v : Value} {xs : List Value} (h : W.ownsRow M e 1 v n xs) (hz : v.ownBlock = some z) : M ≤ z ∧ z < W.heap.size := h.lt z hz
/-- What a row's value looks like. -/
theorem row_form {W : World} {M e n : Nat} {v : Value} {xs : List Value} (h : W.ownsRow M e 1 v n xs) : ∃ o cap, v = .slice o n cap := by
  rcases h.2 with ⟨a, b⟩ | ⟨g, cap, cur, a, _⟩
  · exact ⟨none, 0, by rw [a, b]⟩
  · exact ⟨_, cap, a⟩
theorem bools_more {X2 : World} {base : Nat} {v : Value} {k : Nat} {t : List Bool} (h : X2.ownsRow base 4 1 v k (t.map encB)) (hk : k < 100000) (blk : Nat) (q : Bool) (n2 : X2.heap[blk]? = some (.cells #[.bool q] 4 (0, 0))) (hb : base ≤ X2.heap.size) (ty : TypeId) :
    ∃ g cap Y, (Builtin.append_ #[52, 52] ty #[v, .slice (some ⟨blk, 0, none⟩) 1 1]).run Try.prog X2 = .ok (.slice (some ⟨g, 0, none⟩) (k + 1) cap) Y ∧ Y.ownsRow base 4 1 (.slice (some ⟨g, 0, none⟩) (k + 1) cap) (k + 1) ((t ++ [q]).map encB) ∧ Kept (fun x => v.ownBlock = some x) X2 Y ∧ (v.ownBlock = some g ∨ X2.heap.size ≤ g) ∧ g < Y.heap.size := by
  obtain ⟨i0, hi0, hz0, hz1, hz2⟩ := info_parts infoB
  obtain ⟨g, cap, Y, r1, o1, g1, hat, hlt⟩ := run_append_lies (P := Try.prog) X2 52 ty base 4 i0 _ 1 1 Try.underlying52 hi0 hz0 hz1 hz2 rfl (by decide) v k (t.map encB) h ⟨blk, 0, none⟩ 1 1 [.bool q] rfl (World.news_of_block n2) (by intro u hu; simp at hu; rw [hu]; rfl) (by decide) (by unfold maxLen; omega) (by omega) hb _ rfl
  refine ⟨g, cap, Y, r1, ?_, Kept.of_grown g1 (fun j e => e), ?_, hlt⟩
  · rw [List.map_append]; exact o1
  · rcases hat with e | e
    · exact .inl e
    · exact .inr (by omega)
theorem ints_more {X2 : World} {base : Nat} {v : Value} {k : Nat} {t : List Int} (h : X2.ownsRow base 3 1 v k (t.map encI)) (hk : k < 100000) (blk : Nat) (q : Int) (n2 : X2.heap[blk]? = some (.cells #[.int .i64 q] 3 (0, 0))) (hb : base ≤ X2.heap.size) (ty : TypeId) :
    ∃ g cap Y, (Builtin.append_ #[47, 47] ty #[v, .slice (some ⟨blk, 0, none⟩) 1 1]).run Try.prog X2 = .ok (.slice (some ⟨g, 0, none⟩) (k + 1) cap) Y ∧ Y.ownsRow base 3 1 (.slice (some ⟨g, 0, none⟩) (k + 1) cap) (k + 1) ((t ++ [q]).map encI) ∧ Kept (fun x => v.ownBlock = some x) X2 Y ∧ (v.ownBlock = some g ∨ X2.heap.size ≤ g) ∧ g < Y.heap.size := by
  obtain ⟨i0, hi0, hz0, hz1, hz2⟩ := info_parts infoI
  obtain ⟨g, cap, Y, r1, o1, g1, hat, hlt⟩ := run_append_lies (P := Try.prog) X2 47 ty base 3 i0 _ 1 8 Try.underlying47 hi0 hz0 hz1 hz2 rfl (by decide) v k (t.map encI) h ⟨blk, 0, none⟩ 1 1 [.int .i64 q] rfl (World.news_of_block n2) (by intro u hu; simp at hu; rw [hu]; rfl) (by decide) (by unfold maxLen; omega) (by omega) hb _ rfl
  refine ⟨g, cap, Y, r1, ?_, Kept.of_grown g1 (fun j e => e), ?_, hlt⟩
  · rw [List.map_append]; exact o1
  · rcases hat with e | e
    · exact .inl e
    · exact .inr (by omega)
/-- An append whose run is known. -/
theorem wp_append_run {P : Program} {w w' : World} {o : Oper} {a : Act} {K : Act → World → Prop} {Q : Exit → Act → World → Prop} (s x : Operand) (t : TypeId)
    (ho : o.op = .call { callee := .builtin .append, args := #[s, x], argTypes := #[t, t] }) {v u v' : Value} (hs : a.eval s = v) (hx : a.eval x = u) (hr : (Builtin.append_ #[t, t] o.type #[v, u]).run P w = .ok v' w') (h : K (a.put o.dst v') w') : o.wp P a w K Q := by
  unfold Oper.wp execOp
  simp only [ho, resolve, invoke, builtin, Sem.run_bind, Sem.run_pure, Result.andThen_ok, List.map_toArray, List.map_cons, List.map_nil, hs, hx, hr]
  exact h
theorem list_append_run {P : Program} {w w' : World} {ops : Array Oper} {rest : List Oper} {o : Oper} {a : Act} {Q : Exit → Act → World → Prop} (hgd : o.guard = none) (s x : Operand) (t : TypeId)
    (ho : o.op = .call { callee := .builtin .append, args := #[s, x], argTypes := #[t, t] }) {v u v' : Value} (hs : a.eval s = v) (hx : a.eval x = u) (hr : (Builtin.append_ #[t, t] o.type #[v, u]).run P w = .ok v' w') (h : wpList P ops Q rest (a.put o.dst v') w') : wpList P ops Q (o :: rest) a w :=
  wpList_plain hgd fun _ hK => wp_append_run s x t ho hs hx hr (hK _ _ h)

/-! ### How it lies -/
/-- Given back records, linked. -/
def LinkAt (W : World) : Value → List Nat → List Nat → Prop
  | p, [], bs => p = .pointer none ∧ bs = []
  | p, i :: B, bs => ∃ b p' bs', p = .pointer (some ⟨b, 0, none⟩) ∧ bs = b :: bs' ∧ Bk W b 66 #[.int .i64 (i : Nat), p'] ∧ LinkAt W p' B bs'
theorem LinkAt.kept {F : Nat → Prop} {W W' : World} (k : Kept F W W') : ∀ {B : List Nat} {p : Value} {bs : List Nat}, LinkAt W p B bs → (∀ z, z ∈ bs → ¬ F z) → LinkAt W' p B bs
  | [], p, bs, h, _ => h
  | i :: B, p, bs, ⟨b, p', bs', h1, h2, h3, h4⟩, hF => ⟨b, p', bs', h1, h2, h3.kept k (hF b (by rw [h2]; simp)), LinkAt.kept k h4 (fun z hz => hF z (by rw [h2]; simp [hz]))⟩
theorem LinkAt.lt {W : World} : ∀ {B : List Nat} {p : Value} {bs : List Nat}, LinkAt W p B bs → ∀ z, z ∈ bs → z < W.heap.size
  | [], p, bs, h, z, hz => by rw [h.2] at hz; cases hz
  | i :: B, p, bs, ⟨b, p', bs', h1, h2, h3, h4⟩, z, hz => by
    rw [h2] at hz
    rcases List.mem_cons.1 hz with e | e
    · rw [e]; exact h3.lt
    · exact h4.lt z e
theorem LinkAt.ptr {W : World} {B : List Nat} {p : Value} {bs : List Nat} (h : LinkAt W p B bs) : ∃ q, p = .pointer q := by
  cases B with
  | nil => exact ⟨none, h.1⟩
  | cons i B => obtain ⟨b, p', bs', h1, _⟩ := h; exact ⟨_, h1⟩
/-- A store of records at block fb: its row of truths v, its list from p on in the blocks bs. -/
structure FxAt (N : Nat) (W : World) (fb : Nat) (v p : Value) (bs : List Nat) (each c : Int) (L : List Bool) (B : List Nat) : Prop where
  bk : Bk W fb 55 #[.int .i64 each, v, .int .i64 c, p]
  row : W.ownsRow N 4 1 v L.length (L.map encB)
  lk : LinkAt W p B bs
  x : N ≤ fb
  n0 : v.ownBlock ≠ some fb
  n1 : fb ∉ bs
  n2 : ∀ g, v.ownBlock = some g → g ∉ bs
  ge : ∀ z, z ∈ bs → N ≤ z
def ownF (fb : Nat) (v : Value) (bs : List Nat) (z : Nat) : Prop := z = fb ∨ v.ownBlock = some z ∨ z ∈ bs
section
variable {N : Nat} {W W' : World} {fb : Nat} {v p : Value} {bs : List Nat} {each c : Int} {L : List Bool} {B : List Nat}
theorem FxAt.kept {F : Nat → Prop} (h : FxAt N W fb v p bs each c L B) (k : Kept F W W') (hF : ∀ z, ownF fb v bs z → ¬ F z) : FxAt N W' fb v p bs each c L B :=
  ⟨h.bk.kept k (hF _ (.inl rfl)), owns_kept h.row k (fun g hg => hF _ (.inr (.inl hg))), h.lk.kept k (fun z hz => hF z (.inr (.inr hz))), h.x, h.n0, h.n1, h.n2, h.ge⟩
theorem FxAt.below (h : FxAt N W fb v p bs each c L B) (k : Below W.heap.size W W') : FxAt N W' fb v p bs each c L B := h.kept (Kept.of_below (F := fun _ => False) k) (fun _ _ f => f)
theorem FxAt.own (h : FxAt N W fb v p bs each c L B) {z : Nat} (hz : ownF fb v bs z) : N ≤ z ∧ z < W.heap.size := by
  rcases hz with rfl | hz | hz
  · exact ⟨h.x, h.bk.lt⟩
  · exact own_ge h.row hz
  · exact ⟨h.ge z hz, h.lk.lt z hz⟩
/-! ### pop -/
theorem pop_none (h : FxAt N W fb v p bs each c L []) : Calls Try.prog 28 #[.pointer (some ⟨fb, 0, none⟩)] W fun e W' => e = .returned (.int .i64 0) ∧ W' = W := by
  obtain ⟨rfl, -⟩ := h.lk
  have y3 := h.bk.cell 3 _ rfl
  clear h
  go_enter Try.func28, Try.ntmps28
  go_wp2_with fail
  go_ret
  exact ⟨rfl, rfl⟩
theorem pop_some {i : Nat} (h : FxAt N W fb v p bs each c L (i :: B)) : Calls Try.prog 28 #[.pointer (some ⟨fb, 0, none⟩)] W fun e W' => e = .returned (.int .i64 (i : Nat)) ∧ (∃ p' bs', FxAt N W' fb v p' bs' each c L B ∧ ∀ z, z ∈ bs' → z ∈ bs) ∧ Kept (fun z => z = fb) W W' := by
  have H := hide h
  obtain ⟨b, p', bs', rfl, e2, h3, h4⟩ := h.lk
  obtain ⟨q, rfl⟩ := h4.ptr
  have y3 := h.bk.cell 3 _ rfl
  have f3 := h.bk.fz 3
  have x0 := h3.cell 0 _ rfl
  have x1 := h3.cell 1 _ rfl
  have E := hide (And.intro e2 (And.intro h3 h4))
  clear h h3 h4 e2
  go_enter Try.func28, Try.ntmps28
  go_wp2_with fail
  go_ret
  have k := kept_set (F := fun z => z = fb) W fb 3 (.pointer q) rfl
  obtain ⟨e2, h3, h4⟩ := E.out
  have h := H.out
  refine ⟨rfl, ⟨_, bs', ⟨h.bk.set 3 _, owns_kept h.row k (fun g hg e => h.n0 (e ▸ hg)), h4.kept k (fun z hz e => h.n1 (by rw [e2, ← e]; simp [hz])), h.x, h.n0, fun hz => h.n1 (by rw [e2]; simp [hz]), fun g hg hz => h.n2 g hg (by rw [e2]; simp [hz]), fun z hz => h.ge z (by rw [e2]; simp [hz])⟩, fun z hz => by rw [e2]; simp [hz]⟩, k⟩
/-! ### Live, Count -/
/-- Is a record out? -/
def lv (L : List Bool) (i : Int) : Bool := decide (1 ≤ i) && L.getD (i.toNat - 1) false
theorem lv_in {L : List Bool} {i : Int} (h1 : 1 ≤ i) (h2 : i ≤ L.length) (j : Nat) (hj : j = i.toNat - 1) : L[j]? = some (lv L i) := by
  subst hj
  unfold lv
  rw [decide_eq_true h1, Bool.true_and, List.getD_eq_getElem?_getD, List.getElem?_eq_getElem (by omega)]
  rfl
theorem lv_out {L : List Bool} {i : Int} (h : i < 1 ∨ (L.length : Int) < i) : lv L i = false := by
  unfold lv
  rcases h with h | h
  · rw [decide_eq_false (by omega)]; rfl
  · rw [List.getD_eq_getElem?_getD, List.getElem?_eq_none (by omega)]; simp
theorem FxAt.cellAt (h : FxAt N W fb v p bs each c L B) {j : Nat} (hj : j < L.length) {x : Bool} (hx : L[j]? = some x) : ∃ g cap, v = .slice (some ⟨g, 0, none⟩) L.length cap ∧ W.cell? ⟨g, j, none⟩ = some (.bool x) ∧ W.frozen? ⟨g, j, none⟩ = false := by
  obtain ⟨g, cap, e, _, _⟩ := h.row.form (by omega)
  refine ⟨g, cap, e, ?_, ?_⟩
  · have := h.row
    rw [e] at this
    rw [this.cellAt j (by omega), List.getElem?_map, hx]
    rfl
  · have := h.row
    rw [e] at this
    exact this.frozenAt j
theorem live_any (h : FxAt N W fb v p bs each c L B) (hL : L.length ≤ 100000) (i : Int) (h0 : -9223372036854775808 ≤ i) :
    Calls Try.prog 18 #[.pointer (some ⟨fb, 0, none⟩), .int .i64 i] W fun e W' => e = .returned (.bool (lv L i)) ∧ W' = W := by
  have y1 := h.bk.cell 1 _ rfl
  obtain ⟨m, hm⟩ : ∃ m : Nat, L.length = m := ⟨_, rfl⟩
  by_cases c1 : 1 ≤ i
  · have d1 : decide (1 ≤ i) = true := decide_eq_true c1
    by_cases c2 : i ≤ L.length
    · obtain ⟨g, cap, rfl, x1, -⟩ := h.cellAt (j := i.toNat - 1) (by omega) (lv_in c1 c2 _ rfl)
      rw [hm] at y1 c2 hL
      have d2 : decide (i ≤ (m : Int)) = true := decide_eq_true c2
      have w1 : IntKind.i64.wrap (i - 1) = i - 1 := by rw [IntKind.wrap_i64]; omega
      have e1 : (i - 1).toNat = i.toNat - 1 := by omega
      generalize lv L i = X at *
      clear h hm
      go_enter Try.func18, Try.ntmps18
      go_wp2_with fail
      go_ret
      exact ⟨rfl, rfl⟩
    · rw [lv_out (.inr (by omega))]
      obtain ⟨o, cap, rfl⟩ := row_form h.row
      rw [hm] at y1 c2 hL
      have d2 : decide (i ≤ (m : Int)) = false := decide_eq_false c2
      clear h hm
      go_enter Try.func18, Try.ntmps18
      go_wp2_with fail
      go_ret
      exact ⟨rfl, rfl⟩
  · rw [lv_out (.inl (by omega))]
    have d1 : decide (1 ≤ i) = false := decide_eq_false c1
    clear h hm
    go_enter Try.func18, Try.ntmps18
    go_wp2_with fail
    go_ret
    exact ⟨rfl, rfl⟩
theorem count_any (h : FxAt N W fb v p bs each c L B) : Calls Try.prog 20 #[.pointer (some ⟨fb, 0, none⟩)] W fun e W' => e = .returned (.int .i64 c) ∧ W' = W := by
  have y2 := h.bk.cell 2 _ rfl
  clear h
  go_enter Try.func20, Try.ntmps20
  go_wp2_with fail
  go_ret
  exact ⟨rfl, rfl⟩
end
end Go.Proofs.Ytmpddppjkfflnaa
