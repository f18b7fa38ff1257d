/- Worlds that have grown: regions that draw their order, and whose callees may make memory. -/
import Derived.Test.YtnhllnepnpmegaaBa
import Derived.Test.YtnhllnepnpmegaaXh
namespace Go.Proofs.Ytnhllnepnpmegaa
open Go.ChangeShapes Go.WideShapes Go.ChangeAt Go.RowKit Go.Shelf Go.Proofs.Rx Go.Maps
set_option linter.unusedVariables false
set_option linter.unusedSimpArgs false

structure Ext (w : World) where
  v : World
  h : Below w.heap.size w v
theorem ext_ne (w : World) : Nonempty (Ext w) := ⟨⟨w, Below.refl _ _⟩⟩
theorem ext_cell {w : World} (n : Ext w) (b o : Nat) (h : b < w.heap.size) : n.v.cell? ⟨b, o, none⟩ = w.cell? ⟨b, o, none⟩ := n.h.cell (p := ⟨b, o, none⟩) h
theorem wp_region_calm {P : Program} {id : Nat} {Q : Exit → Act → World → Prop} {a : Act} {w : World} {l : List Oper} (hm : P.follows .mixedOrders = true) (hB : Region.lexB .any l.toArray = true)
    (h : wpQuiet P l.toArray (fun w' => ∃ n : Ext w, w' = n.v) (fun a' => ∀ w', (∃ n : Ext w, w' = n.v) → Q .normal a' w') l a) : (Code.region id l.toArray true).wp P Q a w :=
  wp_region_quiet (C := fun w' => ∃ n : Ext w, w' = n.v) hm hB ⟨⟨{ w with drawn := w.drawn + 1 }, ⟨rfl, rfl, rfl, Nat.le_refl _, fun _ _ => rfl⟩⟩, rfl⟩ (by simpa using h)
theorem calm_of {P : Program} {f : FuncId} {args : Array Value} {w : World} {n : Ext w} {v : Value} (h : Calls P f args n.v fun e w' => e = .returned v ∧ Below n.v.heap.size n.v w') : Calls P f args n.v fun e w'' => e = .returned v ∧ ∃ m : Ext w, w'' = m.v :=
  h.mono fun _ w' ⟨he, hm⟩ => ⟨he, ⟨w', n.h.trans (hm.mono n.h.size)⟩, rfl⟩
theorem tail_w {P : Program} {m id : Nat} {Q : Exit → Act → World → Prop} {a : Act} {w : World} {l : List Oper} (n : Nat) (hm : P.follows .mixedOrders = true) (hB : tailB l n = true)
    (h : wpQuiet P (l.take n).toArray (fun w' => ∃ n : Ext w, w' = n.v) (fun a' => ∀ w', (∃ n : Ext w, w' = n.v) → wpListIn Fence.wide m P l.toArray Q (l.drop n) a' w') (l.take n) a) : (Code.region id l.toArray true).wpIn Fence.wide m P Q a w :=
  region_tail (ro := none) (fun w' => ∃ n : Ext w, w' = n.v) n hm hB ⟨⟨w.drew, drew_below w⟩, rfl⟩ h
theorem tail_r {P : Program} {m id r : Nat} {Q : Exit → Act → World → Prop} {a : Act} {w : World} {l : List Oper} (n : Nat) (hm : P.follows .mixedOrders = true) (hB : tailB l n = true)
    (h : wpQuiet P (l.take n).toArray (fun w' => ∃ n : Ext w, w' = n.v) (fun a' => ∀ w', (∃ n : Ext w, w' = n.v) → wpListIn (Fence.wide.inRound r) m P l.toArray Q (l.drop n) a' w') (l.take n) a) : (Code.region id l.toArray true).wpIn (Fence.wide.inRound r) m P Q a w :=
  region_tail (ro := some r) (fun w' => ∃ n : Ext w, w' = n.v) n hm hB ⟨⟨w.drew, drew_below w⟩, rfl⟩ h
theorem all_r {P : Program} {m id r : Nat} {Q : Exit → Act → World → Prop} {a : Act} {w : World} {l : List Oper} (hm : P.follows .mixedOrders = true) (hB : (Region.lexB .any l.toArray && plainB l.toArray) = true)
    (h : wpQuiet P l.toArray (fun w' => ∃ n : Ext w, w' = n.v) (fun a' => ∀ w', (∃ n : Ext w, w' = n.v) → Q .normal a' w') l a) : (Code.region id l.toArray true).wpIn (Fence.wide.inRound r) m P Q a w :=
  region_all (ro := some r) (fun w' => ∃ n : Ext w, w' = n.v) hm hB ⟨⟨w.drew, drew_below w⟩, rfl⟩ h
theorem calm_same {P : Program} {f : FuncId} {args : Array Value} {w : World} {n : Ext w} {v : Value} (h : Calls P f args n.v fun e w' => e = .returned v ∧ w' = n.v) : Calls P f args n.v fun e w'' => e = .returned v ∧ ∃ m : Ext w, w'' = m.v :=
  h.mono fun _ w' ⟨he, hm⟩ => ⟨he, n, hm⟩
theorem all_w {P : Program} {m id : Nat} {Q : Exit → Act → World → Prop} {a : Act} {w : World} {l : List Oper} (hm : P.follows .mixedOrders = true) (hB : (Region.lexB .any l.toArray && plainB l.toArray) = true)
    (h : wpQuiet P l.toArray (fun w' => ∃ n : Ext w, w' = n.v) (fun a' => ∀ w', (∃ n : Ext w, w' = n.v) → Q .normal a' w') l a) : (Code.region id l.toArray true).wpIn Fence.wide m P Q a w :=
  region_all (ro := none) (fun w' => ∃ n : Ext w, w' = n.v) hm hB ⟨⟨w.drew, drew_below w⟩, rfl⟩ h
/-- A block of cells of our own. -/
def Bk (W : World) (b : Nat) (t : TypeId) (vs : Array Value) : Prop := W.heap[b]? = some (.cells vs t (0, 0))
theorem Bk.lt {W : World} {b : Nat} {t : TypeId} {vs : Array Value} (h : Bk W b t vs) : b < W.heap.size := (Array.getElem?_eq_some_iff.1 h).1
theorem Bk.cell {W : World} {b : Nat} {t : TypeId} {vs : Array Value} (h : Bk W b t vs) (k : Nat) (v : Value) (hv : vs[k]? = some v) : W.cell? ⟨b, k, none⟩ = some v := by
  simp [World.cell?, show W.heap[b]? = _ from h, hv]
theorem Bk.fz {W : World} {b : Nat} {t : TypeId} {vs : Array Value} (h : Bk W b t vs) (k : Nat) : W.frozen? ⟨b, k, none⟩ = false := by
  simp [World.frozen?, show W.heap[b]? = _ from h]
theorem Bk.kept {F : Nat → Prop} {W W' : World} {b : Nat} {t : TypeId} {vs : Array Value} (h : Bk W b t vs) (k : Kept F W W') (hF : ¬ F b) : Bk W' b t vs := kept_at k h hF
theorem Bk.below {W W' : World} {b : Nat} {t : TypeId} {vs : Array Value} (h : Bk W b t vs) (k : Below W.heap.size W W') : Bk W' b t vs := (k.block b h.lt).trans h
theorem Bk.set {W : World} {b : Nat} {t : TypeId} {vs : Array Value} (h : Bk W b t vs) (k : Nat) (v : Value) : Bk (W.setCell ⟨b, k, none⟩ v) b t (vs.setIfInBounds k v) := by
  obtain ⟨hlt, hk⟩ := Array.getElem?_eq_some_iff.1 h
  show (W.heap.modify b _)[b]? = _
  rw [Array.getElem?_eq_getElem (by rw [Array.size_modify]; exact hlt), Array.getElem_modify_self, hk]
  rfl
theorem Bk.other {W : World} {b b' : Nat} {t : TypeId} {vs : Array Value} (h : Bk W b t vs) (hne : b ≠ b') (k : Nat) (v : Value) : Bk (W.setCell ⟨b', k, none⟩ v) b t vs := (Below.heap_setCell _ _ _ _ hne).trans h
theorem results_c {fn : Func} {p : Tmp} {ty : TypeId} (h : fn.results = #[.cell p ty]) (tmps : Array Value) (w : World) (a : Addr) (v : Value) (ha : tmps.getD p undef = .pointer (some a)) (hv : (loadVar ty a).run Try.prog w = .ok v w) :
    (results fn tmps).run Try.prog w = .ok v w := by
  have hp' : tmps[p]?.getD undef = .pointer (some a) := by simpa using ha
  simp [results, h, hp', asAddr, hv]
end Go.Proofs.Ytnhllnepnpmegaa
