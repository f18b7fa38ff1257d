/- What was kept: the ground of stage 12's texts. -/
import Derived.Test.YtmpddppjkfflnaaRows
import Derived.WalkKit
import Derived.ProofKit
import Derived.OpenShut
import Derived.Carry
import Derived.ChangeSlices
import Derived.WalkLawsBesides
import Derived.Shelf.Abstract
import Derived.Deep.QuietTactic
import Derived.BigQuiet
import Derived.Outline
import Derived.Deep.RegionHeld3
import Derived.StillTailTactics
import Derived.Maps.AppendAt
import Derived.RangeFuncNested
import Derived.RangeFuncBound
import Derived.RangeFuncCalls
import Derived.RangeFuncLeaves
import Derived.Shelf.RegionOpen
import Derived.OwnWalkIn
import Derived.TacticsInMore
import Derived.LoopNIn
import Derived.LoopIn
import Derived.Maps.RangeWalk
import Derived.Deep.CutRange
namespace Go.Proofs.Ytmpddppjkfflnaa
open Go.ChangeShapes Go.WideShapes Go.ChangeAt Go.RowKit Go.Shelf Go.Maps
set_option linter.unusedVariables false
set_option linter.unusedSimpArgs false

theorem hide {p : Prop} (h : p) : Hid p := h

/-- Nothing old has turned but blocks of F. -/
structure Kept (F : Nat → Prop) (w w' : World) : Prop where
  os : w'.os = w.os
  tape : w'.tape = w.tape
  output : w'.output = w.output
  size : w.heap.size ≤ w'.heap.size
  block : ∀ b, b < w.heap.size → ¬ F b → w'.heap[b]? = w.heap[b]?
theorem Kept.refl (F : Nat → Prop) (w : World) : Kept F w w := ⟨rfl, rfl, rfl, Nat.le_refl _, fun _ _ _ => rfl⟩
theorem Kept.of_below {F : Nat → Prop} {w w' : World} (h : Below w.heap.size w w') : Kept F w w' := ⟨h.os, h.tape, h.output, h.size, fun b hb _ => h.block b hb⟩
theorem Kept.of_grown {F : Nat → Prop} {w w' : World} {row : Option Nat} (h : w.grownBy w' row) (hr : ∀ k, row = some k → F k) : Kept F w w' :=
  ⟨h.os, h.tape, h.output, h.size, fun b hb hf => h.block b hb (fun e => hf (hr b e.symm))⟩
theorem Kept.below {F : Nat → Prop} {w w' : World} (h : Kept F w w') {B : Nat} (hB : B ≤ w.heap.size) (hF : ∀ b, F b → B ≤ b) : Below B w w' :=
  ⟨h.os, h.tape, h.output, h.size, fun k hk => h.block k (by omega) fun hf => by have := hF k hf; omega⟩
theorem Kept.trans {F G : Nat → Prop} {a b c : World} (h : Kept F a b) (k : Kept G b c) (hg : ∀ x, x < a.heap.size → G x → F x) : Kept F a c :=
  ⟨k.os.trans h.os, k.tape.trans h.tape, k.output.trans h.output, Nat.le_trans h.size k.size, fun x hx hn => by
    rw [k.block x (Nat.lt_of_lt_of_le hx h.size) (fun z => hn (hg x hx z))]
    exact h.block x hx hn⟩
theorem Kept.mono {F G : Nat → Prop} {a b : World} (h : Kept F a b) (hg : ∀ x, F x → G x) : Kept G a b := ⟨h.os, h.tape, h.output, h.size, fun x hx hf => h.block x hx fun hh => hf (hg x hh)⟩
theorem Kept.put {F : Nat → Prop} (w : World) (l : Nat) (o : Obj) (h : F l) : Kept F w (w.putObj l o) := Kept.of_grown (grownBy_putObj' w l o) (fun k e => by cases e; exact h)
theorem kept_set {F : Nat → Prop} (w : World) (b k : Nat) (v : Value) (h : F b) : Kept F w (w.setCell ⟨b, k, none⟩ v) :=
  ⟨rfl, rfl, rfl, by simp, fun x _ hn => Below.heap_setCell _ _ _ _ (fun e => hn (by simp at e; exact e ▸ h))⟩
theorem kept_at {F : Nat → Prop} {A A' : World} (h : Kept F A A') {k : Nat} {o : Obj} (hk : A.heap[k]? = some o) (hF : ¬ F k) : A'.heap[k]? = some o := (h.block k (Array.getElem?_eq_some_iff.1 hk).1 hF).trans hk
theorem cell_block {w w' : World} {b : Nat} (h : w'.heap[b]? = w.heap[b]?) (k : Nat) : w'.cell? ⟨b, k, none⟩ = w.cell? ⟨b, k, none⟩ := by simp [World.cell?, h]

theorem still_tail {P : Program} {id : Nat} {Q : Exit → Act → World → Prop} {a : Act} {w : World} {l : List Oper} (n : Nat) (hm : P.follows .mixedOrders = true) (hB : Region.lexTailB .any l.toArray n = true)
    (h : wpStill P l.toArray w.drew (fun a' => wpList P l.toArray Q (l.drop n) a' w.drew) (l.take n) a) : (Code.region id l.toArray true).wp P Q a w := wp_region_still_tail n hm hB h
theorem still_all {P : Program} {id : Nat} {Q : Exit → Act → World → Prop} {a : Act} {w : World} {l : List Oper} (hm : P.follows .mixedOrders = true) (hB : Region.lexB .any l.toArray = true)
    (h : wpStill P l.toArray w.drew (fun a' => Q .normal a' w.drew) l a) : (Code.region id l.toArray true).wp P Q a w := wp_region_still_lit hm hB h
theorem drew_below (w : World) : Below w.heap.size w w.drew := (Below.refl _ _).drew


theorem fz_block {w w' : World} {x k : Nat} (h : w'.heap[x]? = w.heap[x]?) : w'.frozen? ⟨x, k, none⟩ = w.frozen? ⟨x, k, none⟩ := by simp [World.frozen?, h]

/-- Of block b nothing has turned outside its n cells from ro on. -/
structure Only (b ro n : Nat) (w w' : World) : Prop where
  kept : Kept (fun x => x = b) w w'
  cell : ∀ k, k < ro ∨ ro + n ≤ k → w'.cell? ⟨b, k, none⟩ = w.cell? ⟨b, k, none⟩
  fz : ∀ k, w'.frozen? ⟨b, k, none⟩ = w.frozen? ⟨b, k, none⟩
theorem Only.refl (b ro n : Nat) (w : World) : Only b ro n w w := ⟨Kept.refl _ _, fun _ _ => rfl, fun _ => rfl⟩
theorem Only.of_below {b ro n : Nat} {w w' : World} (h : Below w.heap.size w w') (hb : b < w.heap.size) : Only b ro n w w' := ⟨Kept.of_below h, fun k _ => cell_block (h.block b hb) k, fun k => fz_block (h.block b hb)⟩
theorem Only.trans {b ro n : Nat} {w1 w2 w3 : World} (h : Only b ro n w1 w2) (k : Only b ro n w2 w3) : Only b ro n w1 w3 :=
  ⟨h.kept.trans k.kept (fun _ _ f => f), fun j hj => (k.cell j hj).trans (h.cell j hj), fun j => (k.fz j).trans (h.fz j)⟩
theorem only_set {b ro n : Nat} (w : World) (k : Nat) (v : Value) (h0 : ro ≤ k) (h1 : k < ro + n) : Only b ro n w (w.setCell ⟨b, k, none⟩ v) :=
  ⟨kept_set w b k v rfl, fun j hj => World.cell?_setCell_other w ⟨b, k, none⟩ ⟨b, j, none⟩ v (by intro z; have := congrArg Addr.off z; simp at this; omega), fun j => World.frozen?_setCell w ⟨b, k, none⟩ ⟨b, j, none⟩ v⟩


/-! ### A range over an iterator -/
theorem boxed_block {W W' : World} {B : Nat} {t : TypeId} {v : Value} (h : Boxed W B t v) (hb : W'.heap[B]? = W.heap[B]?) : Boxed W' B t v := hb.trans h
theorem box_lt {w : World} {b : Nat} {t : TypeId} {v : Value} (h : Boxed w b t v) : b < w.heap.size := (Array.getElem?_eq_some_iff.1 h).1
theorem boxed_kept {F : Nat → Prop} {W W' : World} {b : Nat} {t : TypeId} {v : Value} (h : Boxed W b t v) (k : Kept F W W') (hb : ¬ F b) : Boxed W' b t v := boxed_block h (k.block _ (box_lt h) hb)
theorem below_kept {F : Nat → Prop} {N : Nat} {w W W' : World} (h : Below N w W) (k : Kept F W W') (hF : ∀ b, F b → N ≤ b) (hN : N ≤ W.heap.size) : Below N w W' := h.trans (k.below hN hF)
theorem keepsFrom_of {F : Nat → Prop} {B : Nat} {W W' : World} (h : Kept F W W') (hb : ∀ b, B ≤ b → ¬ F b) : KeepsFrom B W W' := ⟨h.size, fun k o hk ho _ => kept_at h ho (hb k hk)⟩
theorem wcall {n m : Nat} {P : Program} {f : FuncId} {args : Array Value} {w : World} {R R' : Ending → World → Prop} (h : Calls P f args w R) (hr : ∀ e w', R e w' → R' e w') :
    Fence.wide.fn f ∧ (Fence.wide.depth.isSome = true → 1 ≤ n) ∧ CallsIn Fence.wide m P f args w R' := ⟨trivial, (fun h => by cases h), (callsIn_wide.2 h).mono hr⟩
theorem wcall2 {m : Nat} {P : Program} {f : FuncId} {args : Array Value} {w : World} {R R' : Ending → World → Prop} (h : Calls P f args w R) (hr : ∀ e w', R e w' → R' e w') :
    Fence.wide.fn f ∧ CallsIn Fence.wide m P f args w R' := ⟨trivial, (callsIn_wide.2 h).mono hr⟩

end Go.Proofs.Ytmpddppjkfflnaa
