/- classes, and find: the first class of the table that is not too small. -/
import Derived.Test.YtblfefibgoiaaaaDoorIt
namespace Go.Proofs.YtblfefibgoiaaaaDoor
open Go.ChangeShapes Go.WideShapes Go.ChangeAt Go.RowKit Go.Proofs.Cl Go.Shelf
set_option linter.unusedVariables false
set_option linter.unusedSimpArgs false

attribute [local go_sem] Oper.semAt_some

theorem classes_any (page most : Int) (w : World) : Calls Tryd.prog 61 #[.int .i64 page, .int .i64 most] w fun e w' =>
    e = .returned (.func (.func 64) #[] #[.pointer (some ⟨w.heap.size + 1, 0, none⟩), .pointer (some ⟨w.heap.size, 0, none⟩)]) ∧ w' = (w.alloc (.cells #[.int .i64 page] 3)).alloc (.cells #[.int .i64 most] 3) := by
  go_enter Tryd.func61, Tryd.ntmps61
  go_wp2
  go_ret
  exact ⟨rfl, rfl⟩
theorem iter_seq (page most : Nat) (hp : 1024 ≤ page) (hp2 : page ≤ 65536) (hm : 64 ≤ most) (hm2 : most ≤ 262144) (n B Bp Bm : Nat) (w : World) (hB : B ≤ w.heap.size) (xp : Boxed w Bp 3 (.int .i64 page)) (xm : Boxed w Bm 3 (.int .i64 most)) :
    SeqC n Tryd.prog 64 #[.pointer (some ⟨Bm, 0, none⟩), .pointer (some ⟨Bp, 0, none⟩)] (fun c => #[cv c]) (Keeps B Bp Bm) (fun xs => xs = classes page most) (fun pre => pre <+: classes page most) (classes page most).length w :=
  fun l J Jx W hW hJ hY h0 => iter_in page most hp hp2 hm hm2 n B Bp Bm l J Jx W (Nat.le_trans hB hW.size) (boxed_block xp (hW.block _ (box_lt xp))) (boxed_block xm (hW.block _ (box_lt xm))) hJ hY h0
theorem box4_block {W W' : World} {b : Nat} (h : Box4 W b) (hb : W'.heap[b]? = W.heap[b]?) : Box4 W' b := by obtain ⟨cs, h1, h2⟩ := h; exact ⟨cs, hb.trans h1, h2⟩
theorem keeps_t {B Bp Bm : Nat} {X Y Z : World} (h : Keeps B Bp Bm X Y) (k : Keeps B Bp Bm Y Z) : Keeps B Bp Bm X Z :=
  ⟨Nat.le_trans h.1 k.1, k.2.1.trans h.2.1, k.2.2.1.trans h.2.2.1, fun b hb x => (k.2.2.2 b hb (box4_block x (h.2.2.2 b hb x))).trans (h.2.2.2 b hb x)⟩
theorem keeps_of {F : Nat → Prop} {B Bp Bm : Nat} {W W' : World} (h : Kept F W W') (lp : Bp < W.heap.size) (lm : Bm < W.heap.size) (hp : ¬ F Bp) (hm : ¬ F Bm) (hb : ∀ b, B ≤ b → Box4 W b → ¬ F b) : Keeps B Bp Bm W W' :=
  ⟨h.size, h.block _ lp hp, h.block _ lm hm, fun b hB x => h.block b (by obtain ⟨cs, h1, _⟩ := x; exact (Array.getElem?_eq_some_iff.1 h1).1) (hb b hB x)⟩
theorem not_box {W : World} {b : Nat} {o : Obj} (h : W.heap[b]? = some o) (hc : o.isCells = false) : ¬ Box4 W b := fun ⟨cs, h1, _⟩ => by rw [h] at h1; cases h1; cases hc
theorem keepsFrom_of {F : Nat → Prop} {B : Nat} {W W' : World} (h : Kept F W W') (hb : ∀ b, B ≤ b → ¬ F b) : KeepsFrom B W W' := ⟨h.size, fun k o hk ho _ => kept_at h ho (hb k hk)⟩
theorem below_kept {F : Nat → Prop} {N : Nat} {w W W' : World} (h : Below N w W) (k : Kept F W W') (hF : ∀ b, F b → N ≤ b) (hN : N ≤ W.heap.size) : Below N w W' := h.trans (k.below hN hF)
theorem cls_kept {F : Nat → Prop} {W W' : World} {b : Nat} {cs : Array Value} (h : ClsAt W b cs) (k : Kept F W W') (hb : ¬ F b) : ClsAt W' b cs := cls_block h (k.block _ (cls_lt h) hb)
theorem boxed_kept {F : Nat → Prop} {W W' : World} {b : Nat} {t : TypeId} {v : Value} (h : Boxed W b t v) (k : Kept F W W') (hb : ¬ F b) : Boxed W' b t v := boxed_block h (k.block _ (box_lt h) hb)

theorem wcall2 {m : Nat} {P : Program} {f : FuncId} {args : Array Value} {w : World} {R R' : Ending → World → Prop} (h : Calls P f args w R) (hr : ∀ e w', R e w' → R' e w') :
    Fence.wide.fn f ∧ CallsIn Fence.wide m P f args w R' := ⟨trivial, (callsIn_wide.2 h).mono hr⟩
/-- The cells of a class. -/
def cc (c : Cls) : Array Value := #[.int .i64 (c.size : Nat), .int .i64 (c.pages : Nat), .int .i64 (c.slots : Nat), .int .u32 (c.magic : Nat)]
/-- Between two rounds of find. -/
structure FI (N : Nat) (w : World) (sz : Nat) (pre : List Cls) (W : World) : Prop where
  s : Boxed W N 3 (.int .i64 sz)
  n : Boxed W (N + 1) 3 (.int .i64 (pre.length : Nat))
  c : ∃ cs : Array Value, ClsAt W (N + 2) cs ∧ cs.size = 4
  small : ∀ c ∈ pre, c.size < sz
  b : Below N w W
/-- Where find has left its loop. -/
structure FX (N : Nat) (w : World) (sz : Nat) (pre : List Cls) (W : World) : Prop where
  s : Boxed W N 3 (.int .i64 sz)
  n : Boxed W (N + 1) 3 (.int .i64 (pre.length : Nat))
  c : ∃ p c, pre = p ++ [c] ∧ ClsAt W (N + 2) (cc c) ∧ (∀ c ∈ p, c.size < sz) ∧ sz ≤ c.size
  b : Below N w W
theorem FI.kept {F : Nat → Prop} {N : Nat} {w : World} {sz : Nat} {pre : List Cls} {W W' : World} (h : FI N w sz pre W) (k : Kept F W W') (hF : ∀ b, F b → N + 3 ≤ b) : FI N w sz pre W' := by
  obtain ⟨cs, h1, h2⟩ := h.c
  exact ⟨boxed_kept h.s k (fun f => by have := hF _ f; omega), boxed_kept h.n k (fun f => by have := hF _ f; omega), ⟨cs, cls_kept h1 k (fun f => by have := hF _ f; omega), h2⟩, h.small, below_kept h.b k (fun b f => by have := hF _ f; omega) (by have := box_lt h.s; omega)⟩
theorem FX.kept {F : Nat → Prop} {N : Nat} {w : World} {sz : Nat} {pre : List Cls} {W W' : World} (h : FX N w sz pre W) (k : Kept F W W') (hF : ∀ b, F b → N + 3 ≤ b) : FX N w sz pre W' := by
  obtain ⟨p, c, h1, h2, h3, h4⟩ := h.c
  exact ⟨boxed_kept h.s k (fun f => by have := hF _ f; omega), boxed_kept h.n k (fun f => by have := hF _ f; omega), ⟨p, c, h1, cls_kept h2 k (fun f => by have := hF _ f; omega), h3, h4⟩, below_kept h.b k (fun b f => by have := hF _ f; omega) (by have := box_lt h.s; omega)⟩

end Go.Proofs.YtblfefibgoiaaaaDoor
