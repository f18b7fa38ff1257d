/- Package sets: how a heap of members lies; the closures; first: contracts. -/
import Derived.Test.YtdgjlekndhgjfaaEx
import Derived.Test.YtdgjlekndhgjfaaHm
import Derived.Deep.AppendLies
import Derived.Laws.OwnMore
import Derived.Lib.SmallJoins
import Derived.Deep.Draws
import Derived.BigGuard
import Derived.BigCall
import Derived.WalkSmall
namespace Go.Proofs.Ytdgjlekndhgjfaa
open Go.ChangeShapes Go.WideShapes Go.ChangeAt Go.RowKit Go.Shelf Go.Proofs.Rx Go.Maps Go.Proofs.Hm
set_option linter.unusedVariables false
set_option linter.unusedSimpArgs false

attribute [local go_sem] Oper.semAt_some

theorem below_alloc (w : World) (o : Obj) : Below w.heap.size w (w.alloc o) := (Below.refl _ _).alloc (Nat.le_refl _) _
theorem drewN_below (W : World) (n : Nat) : Below W.heap.size W (W.drewN n) := ⟨rfl, rfl, rfl, Nat.le_refl _, fun _ _ => rfl⟩
theorem kept_drewN (F : Nat → Prop) (W : World) (n : Nat) : Kept F W (W.drewN n) := Kept.of_below (drewN_below W n)
/-- What a call leaves: nothing old has turned but F; what is its own now was, or is new. -/
def To (W W' : World) (F F' : Nat → Prop) : Prop := Kept F W W' ∧ ∀ z, F' z → F z ∨ W.heap.size ≤ z
theorem To.refl (W : World) (F : Nat → Prop) : To W W F F := ⟨Kept.refl _ _, fun _ h => .inl h⟩
theorem To.of_below {W W' : World} (h : Below W.heap.size W W') (F : Nat → Prop) : To W W' F F := ⟨Kept.of_below h, fun _ h => .inl h⟩
theorem To.trans {A B C : World} {F G H : Nat → Prop} (h : To A B F G) (k : To B C G H) : To A C F H :=
  ⟨h.1.trans k.1 (fun x hx g => (h.2 x g).resolve_right (by omega)), fun z hz => by
    rcases k.2 z hz with u | u
    · exact h.2 z u
    · exact .inr (Nat.le_trans h.1.size u)⟩
theorem owns_kept {F : Nat → Prop} {W W' : World} {M e sz n : Nat} {v : Value} {xs : List Value} (h : W.ownsRow M e sz v n xs) (k : Kept F W W') (hF : ∀ g, v.ownBlock = some g → ¬ F g) : W'.ownsRow M e sz v n xs := by
  refine ⟨h.1, ?_⟩
  rcases h.2 with ⟨a, b⟩ | ⟨g, cap, cur, a, b, c, d⟩
  · exact .inl ⟨a, b⟩
  · exact .inr ⟨g, cap, cur, a, b, kept_at k c (hF g (by rw [a]; rfl)), d⟩
theorem own_lt {W : World} {M e n z : Nat} {v : Value} {xs : List Value} (h : W.ownsRow M e 1 v n xs) (hz : v.ownBlock = some z) : z < W.heap.size := (h.lt z hz).2
theorem row_form {W : World} {M e n : Nat} {v : Value} {xs : List Value} (h : W.ownsRow M e 1 v n xs) : ∃ o cap, v = .slice o n cap := by
  rcases h.2 with ⟨a, b⟩ | ⟨g, cap, cur, a, _⟩
  · exact ⟨none, 0, by rw [a, b]⟩
  · exact ⟨_, cap, a⟩
/-! ### Rows of pointers -/
def encP (m : Nat) : Value := .pointer (some ⟨m, 0, none⟩)
theorem infoP : (Try.prog.info? 70).map (fun i => (i.zero, i.size, i.bytes)) = some (some (.pointer none), 1, 8) := by kernel_rfl
theorem ptrs_more {X2 : World} {base : Nat} {v : Value} {k : Nat} {t : List Nat} (h : X2.ownsRow base 70 1 v k (t.map encP)) (hk : k < 100000) (blk : Nat) (q : Nat) (n2 : X2.heap[blk]? = some (.cells #[encP q] 70 (0, 0))) (hb : base ≤ X2.heap.size) (ty : TypeId) :
    ∃ g cap Y, (Builtin.append_ #[51, 51] ty #[v, .slice (some ⟨blk, 0, none⟩) 1 1]).run Try.prog X2 = .ok (.slice (some ⟨g, 0, none⟩) (k + 1) cap) Y ∧ Y.ownsRow base 70 1 (.slice (some ⟨g, 0, none⟩) (k + 1) cap) (k + 1) ((t ++ [q]).map encP) ∧ Kept (fun x => v.ownBlock = some x) X2 Y ∧ (v.ownBlock = some g ∨ X2.heap.size ≤ g) ∧ g < Y.heap.size := by
  obtain ⟨i0, hi0, hz0, hz1, hz2⟩ := info_parts infoP
  obtain ⟨g, cap, Y, r1, o1, g1, hat, hlt⟩ := run_append_lies (P := Try.prog) X2 51 ty base 70 i0 _ 1 8 Try.underlying51 hi0 hz0 hz1 hz2 rfl (by decide) v k (t.map encP) h ⟨blk, 0, none⟩ 1 1 [encP q] rfl (World.news_of_block n2) (by intro u hu; simp at hu; rw [hu]; rfl) (by decide) (by unfold maxLen; omega) (by omega) hb _ rfl
  refine ⟨g, cap, Y, r1, ?_, Kept.of_grown g1 (fun j e => e), ?_, hlt⟩
  · rw [List.map_append]; exact o1
  · rcases hat with e | e
    · exact .inl e
    · exact .inr (by omega)
/-- An append whose run is known. -/
theorem wp_append_run {P : Program} {w w' : World} {o : Oper} {a : Act} {K : Act → World → Prop} {Q : Exit → Act → World → Prop} (s x : Operand) (t : TypeId)
    (ho : o.op = .call { callee := .builtin .append, args := #[s, x], argTypes := #[t, t] }) {v u v' : Value} (hs : a.eval s = v) (hx : a.eval x = u) (hr : (Builtin.append_ #[t, t] o.type #[v, u]).run P w = .ok v' w') (h : K (a.put o.dst v') w') : o.wp P a w K Q := by
  unfold Oper.wp execOp
  simp only [ho, resolve, invoke, builtin, Sem.run_bind, Sem.run_pure, Result.andThen_ok, List.map_toArray, List.map_cons, List.map_nil, hs, hx, hr]
  exact h
theorem list_append_run {P : Program} {w w' : World} {ops : Array Oper} {rest : List Oper} {o : Oper} {a : Act} {Q : Exit → Act → World → Prop} (hgd : o.guard = none) (s x : Operand) (t : TypeId)
    (ho : o.op = .call { callee := .builtin .append, args := #[s, x], argTypes := #[t, t] }) {v u v' : Value} (hs : a.eval s = v) (hx : a.eval x = u) (hr : (Builtin.append_ #[t, t] o.type #[v, u]).run P w = .ok v' w') (h : wpList P ops Q rest (a.put o.dst v') w') : wpList P ops Q (o :: rest) a w :=
  wpList_plain hgd fun _ hK => wp_append_run s x t ho hs hx hr (hK _ _ h)
/-! ### How a heap lies -/
/-- A heap's three cells from ⟨b, o⟩ on, and its row. -/
structure HpAt (W : World) (b o pf : Nat) (v : Value) (l : List Nat) : Prop where
  c0 : W.cell? ⟨b, o, none⟩ = some v
  f0 : W.frozen? ⟨b, o, none⟩ = false
  c1 : W.cell? ⟨b, o + 1, none⟩ = some (.func (.func 36) #[] #[])
  c2 : W.cell? ⟨b, o + 2, none⟩ = some (.func (.func pf) #[] #[])
  row : W.ownsRow 0 70 1 v l.length (l.map encP)
  nb : v.ownBlock ≠ some b
/-- Members: q m is what m holds, but for its place p m. -/
structure MsAt (W : World) (pk : Nat) (q : Nat → Array Value) (B : Nat → Nat) (p : Nat → Int) (l : List Nat) : Prop where
  bk : ∀ m, m ∈ l → Bk W m 74 ((q m).setIfInBounds pk (.int .i64 (p m)))
  sz : ∀ m, m ∈ l → (q m).size = 8
  ba : ∀ m, m ∈ l → (q m)[1]? = some (.int .u64 (B m : Nat))
  lim : ∀ m, m ∈ l → B m < 18446744073709551616
structure Hp (W : World) (b o pf pk : Nat) (q : Nat → Array Value) (B : Nat → Nat) (v : Value) (l : List Nat) (p : Nat → Int) : Prop where
  at_ : HpAt W b o pf v l
  ms : MsAt W pk q B p l
  nd : l.Nodup
  apart : ∀ m, m ∈ l → m ≠ b ∧ v.ownBlock ≠ some m
/-- .. where each knows its place. -/
structure HpC (W : World) (b o pf pk : Nat) (q : Nat → Array Value) (B : Nat → Nat) (v : Value) (l : List Nat) (p : Nat → Int) : Prop where
  hp : Hp W b o pf pk q B v l p
  co : Cons l p
def zi : Value → Int
  | .int _ n => n
  | _ => 0
def fB (B : Nat → Nat) (l : List Nat) (j : Nat) : Nat := B (at' l j)
section
variable {W W' : World} {b o pf pk : Nat} {q : Nat → Array Value} {B : Nat → Nat} {v : Value} {l : List Nat} {p : Nat → Int}
theorem HpAt.kept {F : Nat → Prop} (h : HpAt W b o pf v l) (k : Kept F W W') (h0 : ¬ F b) (h1 : ∀ g, v.ownBlock = some g → ¬ F g) : HpAt W' b o pf v l := by
  have hb : W'.heap[b]? = W.heap[b]? := k.block b (World.block_lt_of_cell? W ⟨b, o, none⟩ h.c0) h0
  exact ⟨(cell_block hb _).trans h.c0, (fz_block hb).trans h.f0, (cell_block hb _).trans h.c1, (cell_block hb _).trans h.c2, owns_kept h.row k h1, h.nb⟩
theorem MsAt.kept {F : Nat → Prop} (h : MsAt W pk q B p l) (k : Kept F W W') (h0 : ∀ m, m ∈ l → ¬ F m) : MsAt W' pk q B p l := ⟨fun m hm => (h.bk m hm).kept k (h0 m hm), h.sz, h.ba, h.lim⟩
theorem Hp.kept {F : Nat → Prop} (h : Hp W b o pf pk q B v l p) (k : Kept F W W') (h0 : ¬ F b) (h1 : ∀ g, v.ownBlock = some g → ¬ F g) (h2 : ∀ m, m ∈ l → ¬ F m) : Hp W' b o pf pk q B v l p :=
  ⟨h.at_.kept k h0 h1, h.ms.kept k h2, h.nd, h.apart⟩
theorem Hp.below (h : Hp W b o pf pk q B v l p) (k : Below W.heap.size W W') : Hp W' b o pf pk q B v l p := h.kept (F := fun _ => False) (Kept.of_below k) (fun f => f) (fun _ _ f => f) (fun _ _ f => f)
theorem Hp.form (h : Hp W b o pf pk q B v l p) (hl : 0 < l.length) : ∃ g cap, v = .slice (some ⟨g, 0, none⟩) l.length cap ∧ (∀ j, j < l.length → W.cell? ⟨g, j, none⟩ = some (.pointer (some ⟨at' l j, 0, none⟩))) ∧ ∀ j, W.frozen? ⟨g, j, none⟩ = false := by
  obtain ⟨g, cap, e, _, _⟩ := h.at_.row.form hl
  have hr := h.at_.row
  rw [e] at hr
  refine ⟨g, cap, e, fun j hj => ?_, fun j => hr.frozenAt j⟩
  rw [hr.cellAt j (by omega), List.getElem?_map, at_get hj]
  rfl
theorem MsAt.base (h : MsAt W pk q B p l) (hpk : pk = 6 ∨ pk = 7) {m : Nat} (hm : m ∈ l) : W.cell? ⟨m, 1, none⟩ = some (.int .u64 (B m : Nat)) := by
  refine (h.bk m hm).cell 1 _ ?_
  rw [Array.getElem?_setIfInBounds_ne (by omega)]
  exact h.ba m hm
theorem MsAt.place (h : MsAt W pk q B p l) (hpk : pk = 6 ∨ pk = 7) {m : Nat} (hm : m ∈ l) : W.cell? ⟨m, pk, none⟩ = some (.int .i64 (p m)) := by
  refine (h.bk m hm).cell pk _ ?_
  have := h.sz m hm
  simp [Array.getElem?_setIfInBounds]
  omega
/-- A place is written. -/
theorem MsAt.set (h : MsAt W pk q B p l) (m : Nat) (i : Int) : MsAt (W.setCell ⟨m, pk, none⟩ (.int .i64 i)) pk q B (fun z => if z = m then i else p z) l := by
  refine ⟨fun z hz => ?_, h.sz, h.ba, h.lim⟩
  by_cases e : z = m
  · subst e
    rw [if_pos rfl]
    have := (h.bk z hz).set pk (.int .i64 i)
    rwa [Array.setIfInBounds_setIfInBounds] at this
  · rw [if_neg e]
    exact (h.bk z hz).other e pk _
theorem MsAt.congr {p' : Nat → Int} (h : MsAt W pk q B p l) (e : ∀ m, m ∈ l → p' m = p m) : MsAt W pk q B p' l := ⟨fun m hm => by rw [e m hm]; exact h.bk m hm, h.sz, h.ba, h.lim⟩
theorem MsAt.perm {l' : List Nat} (h : MsAt W pk q B p l) (e : ∀ m, m ∈ l' → m ∈ l) : MsAt W pk q B p l' := ⟨fun m hm => h.bk m (e m hm), fun m hm => h.sz m (e m hm), fun m hm => h.ba m (e m hm), fun m hm => h.lim m (e m hm)⟩
end
/-- A row's two in one another's places. -/
theorem Hp.rowswap {W : World} {b o pf pk : Nat} {q : Nat → Array Value} {B : Nat → Nat} {l : List Nat} {p : Nat → Int} {g cap n : Nat} (h : Hp W b o pf pk q B (.slice (some ⟨g, 0, none⟩) n cap) l p) (hn : l.length = n) (i k : Nat) (hi : i < n) (hk : k < n) {W1 : World}
    (hW : ((W.setCell ⟨g, i, none⟩ (.pointer (some ⟨at' l k, 0, none⟩))).setCell ⟨g, k, none⟩ (.pointer (some ⟨at' l i, 0, none⟩))).drew = W1) :
    Hp W1 b o pf pk q B (.slice (some ⟨g, 0, none⟩) n cap) (swapL l i k) p ∧ Kept (fun z => z = g) W W1 := by
  have k1 : Kept (fun z => z = g) W W1 := by
    rw [← hW]
    exact ((kept_set (F := fun z => z = g) W g i _ rfl).trans (kept_set (F := fun z => z = g) _ g k _ rfl) (fun _ _ h => h)).trans (Kept.of_below (drew_below _)) (fun _ _ h => h)
  have nb : b ≠ g := fun e => h.at_.nb (by rw [e]; rfl)
  have hb : W1.heap[b]? = W.heap[b]? := k1.block b (World.block_lt_of_cell? W ⟨b, o, none⟩ h.at_.c0) nb
  have hr := h.at_.row
  rw [hn] at hr
  have r1 := (hr.stored i (encP (at' l k))).1
  have r2 := (r1.stored k (encP (at' l i))).1
  have hm : ∀ m, m ∈ swapL l i k → m ∈ l := fun m hm => (perm_swap (by omega) (by omega)).mem_iff.1 hm
  refine ⟨⟨⟨(cell_block hb _).trans h.at_.c0, (fz_block hb).trans h.at_.f0, (cell_block hb _).trans h.at_.c1, (cell_block hb _).trans h.at_.c2, ?_, h.at_.nb⟩, (h.ms.kept k1 (fun m hm e => (h.apart m hm).2 (by rw [e]; rfl))).perm hm, (perm_swap (by omega) (by omega)).nodup_iff.2 h.nd, fun m hm' => h.apart m (hm m hm')⟩, k1⟩
  rw [len_swap, hn, ← hW]
  have e : (swapL l i k).map encP = ((l.map encP).set i (encP (at' l k))).set k (encP (at' l i)) := by simp [swapL, List.map_set]
  rw [e]
  exact r2
/-- A place is written. -/
theorem Hp.put {W : World} {b o pf pk : Nat} {q : Nat → Array Value} {B : Nat → Nat} {v : Value} {l : List Nat} {p : Nat → Int} (h : Hp W b o pf pk q B v l p) {m : Nat} (hm : m ∈ l) (i : Int) {W1 : World} (hW : (W.setCell ⟨m, pk, none⟩ (.int .i64 i)).drew = W1) :
    Hp W1 b o pf pk q B v l (fun z => if z = m then i else p z) ∧ Kept (fun z => z = m) W W1 := by
  have k1 : Kept (fun z => z = m) W W1 := by
    rw [← hW]
    exact (kept_set (F := fun z => z = m) _ m pk _ rfl).trans (Kept.of_below (drew_below _)) (fun _ _ h => h)
  refine ⟨⟨h.at_.kept k1 (fun e => (h.apart m hm).1 e.symm) (fun g hg e => (h.apart m hm).2 (by rw [← e]; exact hg)), ?_, h.nd, h.apart⟩, k1⟩
  rw [← hW]
  exact (h.ms.set m i).kept (F := fun _ => False) (Kept.of_below (drew_below _)) (fun _ _ f => f)
theorem HpC.below {W W' : World} {b o pf pk : Nat} {q : Nat → Array Value} {B : Nat → Nat} {v : Value} {l : List Nat} {p : Nat → Int} (h : HpC W b o pf pk q B v l p) (k : Below W.heap.size W W') : HpC W' b o pf pk q B v l p := ⟨h.hp.below k, h.co⟩
theorem fB_swap {B : Nat → Nat} {l : List Nat} {i k : Nat} (hi : i < l.length) (hk : k < l.length) (j : Nat) : fB B (swapL l i k) j = if j = k then fB B l i else if j = i then fB B l k else fB B l j := by
  unfold fB
  rw [at_swap hi hk]
  split
  · rfl
  · split <;> rfl
/-! ### The closures -/
theorem ahead_any {W : World} {a b : Nat} {x y : Int} (h1 : W.cell? ⟨a, 1, none⟩ = some (.int .u64 x)) (h2 : W.cell? ⟨b, 1, none⟩ = some (.int .u64 y)) :
    Calls Try.prog 36 #[.pointer (some ⟨a, 0, none⟩), .pointer (some ⟨b, 0, none⟩)] W fun e W' => e = .returned (.bool (decide (x < y))) ∧ ∃ m, W' = W.drewN m := by
  go_enter Try.func36, Try.ntmps36
  go_wp2_with fail
  go_quiet (fail)
  go_wp2_with fail
  go_ret
  exact ⟨rfl, _, rfl⟩
theorem place6 (W : World) (m : Nat) : Calls Try.prog 32 #[.pointer (some ⟨m, 0, none⟩)] W fun e W' => e = .returned (.pointer (some ⟨m, 6, none⟩)) ∧ W' = W := by
  go_enter Try.func32, Try.ntmps32
  go_wp2_with fail
  go_ret
  exact ⟨rfl, rfl⟩
theorem place7 (W : World) (m : Nat) : Calls Try.prog 37 #[.pointer (some ⟨m, 0, none⟩)] W fun e W' => e = .returned (.pointer (some ⟨m, 7, none⟩)) ∧ W' = W := by
  go_enter Try.func37, Try.ntmps37
  go_wp2_with fail
  go_ret
  exact ⟨rfl, rfl⟩
end Go.Proofs.Ytdgjlekndhgjfaa
