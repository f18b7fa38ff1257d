/- J01 of the proof of both laws: texts Ba, Xh, Ex, one behind the other. -/
import Derived.Test.YtnhllnepnpmegaaRows
import Derived.WalkKit
import Derived.ProofKit
import Derived.OpenShut
import Derived.Carry
import Derived.ChangeSlices
import Derived.WalkLawsBesides
import Derived.Shelf.Abstract
import Derived.Deep.QuietTactic
import Derived.BigQuiet
import Derived.Outline
import Derived.Deep.RegionHeld3
import Derived.StillTailTactics
import Derived.Maps.AppendAt
import Derived.RangeFuncNested
import Derived.RangeFuncBound
import Derived.RangeFuncCalls
import Derived.RangeFuncLeaves
import Derived.Shelf.RegionOpen
import Derived.OwnWalkIn
import Derived.TacticsInMore
import Derived.LoopNIn
import Derived.LoopIn
import Derived.Maps.RangeWalk
import Derived.Deep.CutRange
import Derived.Deep.Quiet
import Derived.StillTail
import Derived.Deep.RegionHeld
/- What was kept, ranges over iterators, maps as functions: the ground of stage 11's texts. -/
namespace Go.Proofs.Ytnhllnepnpmegaa
open Go.ChangeShapes Go.WideShapes Go.ChangeAt Go.RowKit Go.Shelf Go.Maps
set_option linter.unusedVariables false
set_option linter.unusedSimpArgs false

theorem hide {p : Prop} (h : p) : Hid p := h

/-- Nothing old has turned but blocks of F. -/
structure Kept (F : Nat → Prop) (w w' : World) : Prop where
  os : w'.os = w.os
  tape : w'.tape = w.tape
  output : w'.output = w.output
  size : w.heap.size ≤ w'.heap.size
  block : ∀ b, b < w.heap.size → ¬ F b → w'.heap[b]? = w.heap[b]?
theorem Kept.refl (F : Nat → Prop) (w : World) : Kept F w w := ⟨rfl, rfl, rfl, Nat.le_refl _, fun _ _ _ => rfl⟩
theorem Kept.of_below {F : Nat → Prop} {w w' : World} (h : Below w.heap.size w w') : Kept F w w' := ⟨h.os, h.tape, h.output, h.size, fun b hb _ => h.block b hb⟩
theorem Kept.of_grown {F : Nat → Prop} {w w' : World} {row : Option Nat} (h : w.grownBy w' row) (hr : ∀ k, row = some k → F k) : Kept F w w' :=
  ⟨h.os, h.tape, h.output, h.size, fun b hb hf => h.block b hb (fun e => hf (hr b e.symm))⟩
theorem Kept.below {F : Nat → Prop} {w w' : World} (h : Kept F w w') {B : Nat} (hB : B ≤ w.heap.size) (hF : ∀ b, F b → B ≤ b) : Below B w w' :=
  ⟨h.os, h.tape, h.output, h.size, fun k hk => h.block k (by omega) fun hf => by have := hF k hf; omega⟩
theorem Kept.trans {F G : Nat → Prop} {a b c : World} (h : Kept F a b) (k : Kept G b c) (hg : ∀ x, x < a.heap.size → G x → F x) : Kept F a c :=
  ⟨k.os.trans h.os, k.tape.trans h.tape, k.output.trans h.output, Nat.le_trans h.size k.size, fun x hx hn => by
    rw [k.block x (Nat.lt_of_lt_of_le hx h.size) (fun z => hn (hg x hx z))]
    exact h.block x hx hn⟩
theorem Kept.mono {F G : Nat → Prop} {a b : World} (h : Kept F a b) (hg : ∀ x, F x → G x) : Kept G a b := ⟨h.os, h.tape, h.output, h.size, fun x hx hf => h.block x hx fun hh => hf (hg x hh)⟩
theorem Kept.put {F : Nat → Prop} (w : World) (l : Nat) (o : Obj) (h : F l) : Kept F w (w.putObj l o) := Kept.of_grown (grownBy_putObj' w l o) (fun k e => by cases e; exact h)
theorem kept_set {F : Nat → Prop} (w : World) (b k : Nat) (v : Value) (h : F b) : Kept F w (w.setCell ⟨b, k, none⟩ v) :=
  ⟨rfl, rfl, rfl, by simp, fun x _ hn => Below.heap_setCell _ _ _ _ (fun e => hn (by simp at e; exact e ▸ h))⟩
theorem kept_at {F : Nat → Prop} {A A' : World} (h : Kept F A A') {k : Nat} {o : Obj} (hk : A.heap[k]? = some o) (hF : ¬ F k) : A'.heap[k]? = some o := (h.block k (Array.getElem?_eq_some_iff.1 hk).1 hF).trans hk
theorem cell_block {w w' : World} {b : Nat} (h : w'.heap[b]? = w.heap[b]?) (k : Nat) : w'.cell? ⟨b, k, none⟩ = w.cell? ⟨b, k, none⟩ := by simp [World.cell?, h]

theorem still_tail {P : Program} {id : Nat} {Q : Exit → Act → World → Prop} {a : Act} {w : World} {l : List Oper} (n : Nat) (hm : P.follows .mixedOrders = true) (hB : Region.lexTailB .any l.toArray n = true)
    (h : wpStill P l.toArray w.drew (fun a' => wpList P l.toArray Q (l.drop n) a' w.drew) (l.take n) a) : (Code.region id l.toArray true).wp P Q a w := wp_region_still_tail n hm hB h
theorem still_all {P : Program} {id : Nat} {Q : Exit → Act → World → Prop} {a : Act} {w : World} {l : List Oper} (hm : P.follows .mixedOrders = true) (hB : Region.lexB .any l.toArray = true)
    (h : wpStill P l.toArray w.drew (fun a' => Q .normal a' w.drew) l a) : (Code.region id l.toArray true).wp P Q a w := wp_region_still_lit hm hB h
theorem drew_below (w : World) : Below w.heap.size w w.drew := (Below.refl _ _).drew


theorem fz_block {w w' : World} {x k : Nat} (h : w'.heap[x]? = w.heap[x]?) : w'.frozen? ⟨x, k, none⟩ = w.frozen? ⟨x, k, none⟩ := by simp [World.frozen?, h]

/-- Of block b nothing has turned outside its n cells from ro on. -/
structure Only (b ro n : Nat) (w w' : World) : Prop where
  kept : Kept (fun x => x = b) w w'
  cell : ∀ k, k < ro ∨ ro + n ≤ k → w'.cell? ⟨b, k, none⟩ = w.cell? ⟨b, k, none⟩
  fz : ∀ k, w'.frozen? ⟨b, k, none⟩ = w.frozen? ⟨b, k, none⟩
theorem Only.refl (b ro n : Nat) (w : World) : Only b ro n w w := ⟨Kept.refl _ _, fun _ _ => rfl, fun _ => rfl⟩
theorem Only.of_below {b ro n : Nat} {w w' : World} (h : Below w.heap.size w w') (hb : b < w.heap.size) : Only b ro n w w' := ⟨Kept.of_below h, fun k _ => cell_block (h.block b hb) k, fun k => fz_block (h.block b hb)⟩
theorem Only.trans {b ro n : Nat} {w1 w2 w3 : World} (h : Only b ro n w1 w2) (k : Only b ro n w2 w3) : Only b ro n w1 w3 :=
  ⟨h.kept.trans k.kept (fun _ _ f => f), fun j hj => (k.cell j hj).trans (h.cell j hj), fun j => (k.fz j).trans (h.fz j)⟩
theorem only_set {b ro n : Nat} (w : World) (k : Nat) (v : Value) (h0 : ro ≤ k) (h1 : k < ro + n) : Only b ro n w (w.setCell ⟨b, k, none⟩ v) :=
  ⟨kept_set w b k v rfl, fun j hj => World.cell?_setCell_other w ⟨b, k, none⟩ ⟨b, j, none⟩ v (by intro z; have := congrArg Addr.off z; simp at this; omega), fun j => World.frozen?_setCell w ⟨b, k, none⟩ ⟨b, j, none⟩ v⟩


/-! ### A range over an iterator -/
theorem boxed_block {W W' : World} {B : Nat} {t : TypeId} {v : Value} (h : Boxed W B t v) (hb : W'.heap[B]? = W.heap[B]?) : Boxed W' B t v := hb.trans h
theorem box_lt {w : World} {b : Nat} {t : TypeId} {v : Value} (h : Boxed w b t v) : b < w.heap.size := (Array.getElem?_eq_some_iff.1 h).1
theorem boxed_kept {F : Nat → Prop} {W W' : World} {b : Nat} {t : TypeId} {v : Value} (h : Boxed W b t v) (k : Kept F W W') (hb : ¬ F b) : Boxed W' b t v := boxed_block h (k.block _ (box_lt h) hb)
theorem below_kept {F : Nat → Prop} {N : Nat} {w W W' : World} (h : Below N w W) (k : Kept F W W') (hF : ∀ b, F b → N ≤ b) (hN : N ≤ W.heap.size) : Below N w W' := h.trans (k.below hN hF)
theorem keepsFrom_of {F : Nat → Prop} {B : Nat} {W W' : World} (h : Kept F W W') (hb : ∀ b, B ≤ b → ¬ F b) : KeepsFrom B W W' := ⟨h.size, fun k o hk ho _ => kept_at h ho (hb k hk)⟩
theorem wcall {n m : Nat} {P : Program} {f : FuncId} {args : Array Value} {w : World} {R R' : Ending → World → Prop} (h : Calls P f args w R) (hr : ∀ e w', R e w' → R' e w') :
    Fence.wide.fn f ∧ (Fence.wide.depth.isSome = true → 1 ≤ n) ∧ CallsIn Fence.wide m P f args w R' := ⟨trivial, (fun h => by cases h), (callsIn_wide.2 h).mono hr⟩
theorem wcall2 {m : Nat} {P : Program} {f : FuncId} {args : Array Value} {w : World} {R R' : Ending → World → Prop} (h : Calls P f args w R) (hr : ∀ e w', R e w' → R' e w') :
    Fence.wide.fn f ∧ CallsIn Fence.wide m P f args w R' := ⟨trivial, (callsIn_wide.2 h).mono hr⟩
/-- How an iterator goes that writes nothing: it yields a list's values one by one, as long as it is told to, and as long as what it reads is there. -/
def SeqB {α : Type} (n : Nat) (P : Program) (gf : Nat) (lb : Array Value) (encs : α → Array Value) (Rd : World → Prop) (L : List α) : Prop :=
  ∀ (l : Nat) (J Jx : List α → World → Prop) (W : World), (∀ s A, J s A → Rd A) → (∀ s A A', J s A → Below A.heap.size A A' → J s A') →
    (∀ pre x W1, pre ++ [x] <+: L → J pre W1 → YieldAt Fence.wide (n - 1) P l (encs x) W1 fun e W' =>
      (e = .returned (.bool true) ∧ J (pre ++ [x]) W') ∨ (e = .returned (.bool false) ∧ Jx (pre ++ [x]) W')) →
    J [] W →
    CallsIn Fence.wide n P gf (#[.func (.yield l) #[] #[]] ++ lb) W fun e W' => (∃ v, e = .returned v) ∧ (J L W' ∨ (∃ pre x, pre ++ [x] <+: L ∧ Jx (pre ++ [x]) W'))
/-- How the body of a round may be left. -/
def bodyEnd {α : Type} (B : Nat) (I : List α → World → Prop) (Ix : Code → List α → World → Prop) (xs : List α) (W₁ : World) : Exit → Act → World → Prop
  | .normal, _, W' => KeepsFrom B W₁ W' ∧ I xs W'
  | .exit id, _, W' => KeepsFrom B W₁ W' ∧ Ix (.exit id) xs W'
  | .ret, _, W' => KeepsFrom B W₁ W' ∧ Ix .ret xs W'
  | _, _, _ => False
/-- A range over such an iterator: I holds between two rounds, Ix where a round has left the loop. -/
theorem range_law {α : Type} {P : Program} {g : Operand} {ps : Array Tmp} {assign body : Code} {Q : Exit → Act → World → Prop} {a : Act} {w : World} {n : Nat}
    {gf : Nat} {lb : Array Value} (hg : a.eval g = .func (.func gf) #[] lb) (eg : ∀ args w, (callFunc gf args).run P w = .ok (.enter gf args) w)
    {encs : α → Array Value} {Rd : World → Prop} {L : List α} (hseq : SeqB (n - 1) P gf lb encs Rd L) (hps : ∀ x, (encs x).size = ps.size)
    (I : List α → World → Prop) (Ix : Code → List α → World → Prop)
    (hR : ∀ s A, I s A → Rd A)
    (hI : ∀ s A A', I s A → Kept (fun b => b = w.heap.size ∨ b = w.heap.size + 1) A A' → I s A')
    (hIx : ∀ c s A o', Ix c s A → w.heap.size + 1 < A.heap.size → Ix c s (A.putObj (w.heap.size + 1) o')) (h0 : I [] w)
    (hround : ∀ (pre : List α) (x : α) (W : World), (∃ r, W.heap[w.heap.size + 1]? = some (.loop r)) → W.heap[w.heap.size]? = some (.deferred (some [])) → I pre W → pre ++ [x] <+: L →
      assign.wpIn (Fence.wide.inRound (w.heap.size + 1)) (n - 1 - 1) P (Exit.then (fun a₁ W₁ => KeepsFrom w.heap.size W W₁ ∧
        ∀ r, body.wpIn (Fence.wide.inRound (w.heap.size + 1)) (n - 1 - 1) P (bodyEnd w.heap.size I Ix (pre ++ [x]) (W₁.putObj (w.heap.size + 1) (.loop r))) a₁ (W₁.putObj (w.heap.size + 1) (.loop r))) (fun _ _ _ => False))
        { tmps := (ps.zip (encs x)).foldl (fun t (p, v) => t.setIfInBounds p v) a.tmps, defers := [] } W)
    (hdone : ∀ (W : World), I L W → W.heap[w.heap.size]? = some (.deferred (some [])) → Q .normal { a with defers := { target := .collected w.heap.size, args := #[] } :: a.defers } W)
    (hstop : ∀ (c : Code) (pre : List α) (x : α) (W : World), pre ++ [x] <+: L → Ix c (pre ++ [x]) W → W.heap[w.heap.size]? = some (.deferred (some [])) → c.wpIn Fence.wide n P Q { a with defers := { target := .collected w.heap.size, args := #[] } :: a.defers } W) :
    (Code.rangeFunc g ps assign body).wpIn Fence.wide n P Q a w := by
  refine wpIn_rangeFunc fun fn hfn => ?_
  generalize hrec : (fun st pe => ({ state := st, pending := pe, fn, tmps := a.tmps, params := ps, assign, body, defers := w.heap.size } : Loop)) = rec
  obtain ⟨W1, hW1⟩ : ∃ W1, (w.alloc (.deferred (some []))).alloc (.loop (rec .ready none)) = W1 := ⟨_, rfl⟩
  have s1 : W1.heap.size = w.heap.size + 2 := by rw [← hW1]; simp
  have hb1 : Below w.heap.size w W1 := by rw [← hW1]; exact ((Below.refl _ w).alloc (Nat.le_refl _) _).alloc (by simp) _
  have hl1 : W1.heap[w.heap.size + 1]? = some (.loop (rec .ready none)) := by
    have := World.alloc_heap_new (w.alloc (.deferred (some []))) (.loop (rec .ready none))
    rw [World.size_alloc, hW1] at this; exact this
  have hd1 : W1.heap[w.heap.size]? = some (.deferred (some [])) := by
    rw [← hW1]; exact (Below.heap_alloc _ _ _ (by simp)).trans (World.alloc_heap_new w _)
  refine ⟨w.heap.size + 1, [{ target := .collected w.heap.size, args := #[] }], W1, { target := .fn (.func gf) lb, args := #[.func (.yield (w.heap.size + 1)) #[] #[]] }, W1, gf, #[.func (.yield (w.heap.size + 1)) #[] #[]] ++ lb, W1, ?_, ?_, fun _ _ => trivial, ?_, (fun h => by cases h), ?_⟩
  · rw [← hW1, ← hrec]; exact run_enterLoop_outer _ _ _ _ _
  · simp only [resolve, hg]; simp [go_sem]
  · simp [invoke, go_sem, eg]
  refine (hseq (w.heap.size + 1)
    (fun pre W => I pre W ∧ W.heap[w.heap.size + 1]? = some (.loop (rec .ready none)) ∧ W.heap[w.heap.size]? = some (.deferred (some [])))
    (fun pre W => ∃ c, Ix c pre W ∧ W.heap[w.heap.size + 1]? = some (.loop (rec .done (some c))) ∧ W.heap[w.heap.size]? = some (.deferred (some [])))
    W1 (fun s A h => hR s A h.1) ?_ ?_ ⟨hI _ _ _ h0 (Kept.of_below hb1), hl1, hd1⟩).mono ?_
  · -- the iterator's own steps
    rintro s A A' ⟨hi, hl, hd⟩ hk
    exact ⟨hI _ _ _ hi (Kept.of_below hk), (hk.block _ (Array.getElem?_eq_some_iff.1 hl).1).trans hl, (hk.block _ (Array.getElem?_eq_some_iff.1 hd).1).trans hd⟩
  · -- a round
    rintro pre x W hlen ⟨hi, hl, hd⟩
    have hlt : w.heap.size + 1 < W.heap.size := (Array.getElem?_eq_some_iff.1 hl).1
    have hy := run_yield (P := P) (args := encs x) hl (by rw [← hrec]; exact hps x)
    rw [← hrec] at hy
    refine ⟨fn, _, assign, body, hy, roundIn_of_wpIn hfn (wpIn_mono (hround pre x W ⟨_, hl⟩ hd hi hlen) ?_)⟩
    rintro e a₁ W₁ hp
    cases e with
    | normal =>
      obtain ⟨hk, hb⟩ := hp
      have hl' := hk.same _ _ (by omega) hl rfl
      have hd' := hk.same _ _ (by omega) hd rfl
      refine ⟨_, run_beginRound hl' (by rw [← hrec]), wpIn_mono (hb _) ?_⟩
      rintro e a₂ W₂ hq
      cases e with
      | normal =>
        obtain ⟨q1, q3⟩ := hq
        have hl2 := q1.same _ _ (by omega) (World.putObj_heap_same (Array.getElem?_eq_some_iff.1 hl').1) rfl
        have hlt2 := (Array.getElem?_eq_some_iff.1 hl2).1
        have hd2 := q1.same _ _ (by omega) ((World.putObj_heap_other (by omega)).trans hd') rfl
        refine ⟨_, _, run_endRound none hl2, .inl ⟨rfl, ⟨hI _ _ _ q3 (Kept.put _ _ _ (.inr rfl)), ?_, ?_⟩⟩⟩
        · rw [World.putObj_heap_same hlt2, ← hrec]; rfl
        · exact (World.putObj_heap_other (by omega)).trans hd2
      | exit id =>
        obtain ⟨q1, q3⟩ := hq
        have hl2 := q1.same _ _ (by omega) (World.putObj_heap_same (Array.getElem?_eq_some_iff.1 hl').1) rfl
        have hlt2 := (Array.getElem?_eq_some_iff.1 hl2).1
        have hd2 := q1.same _ _ (by omega) ((World.putObj_heap_other (by omega)).trans hd') rfl
        refine ⟨_, _, run_endRound (some (.exit id)) hl2, .inr ⟨rfl, .exit id, hIx _ _ _ _ q3 hlt2, ?_, ?_⟩⟩
        · rw [World.putObj_heap_same hlt2, ← hrec]; rfl
        · exact (World.putObj_heap_other (by omega)).trans hd2
      | ret =>
        obtain ⟨q1, q3⟩ := hq
        have hl2 := q1.same _ _ (by omega) (World.putObj_heap_same (Array.getElem?_eq_some_iff.1 hl').1) rfl
        have hlt2 := (Array.getElem?_eq_some_iff.1 hl2).1
        have hd2 := q1.same _ _ (by omega) ((World.putObj_heap_other (by omega)).trans hd') rfl
        refine ⟨_, _, run_endRound (some .ret) hl2, .inr ⟨rfl, .ret, hIx _ _ _ _ q3 hlt2, ?_, ?_⟩⟩
        · rw [World.putObj_heap_same hlt2, ← hrec]; rfl
        · exact (World.putObj_heap_other (by omega)).trans hd2
      | goto t => exact hq.elim
      | panic ch => exact hq.elim
      | outgrown => exact hq.elim
    | ret => exact hp.elim
    | exit id => exact hp.elim
    | goto t => exact hp.elim
    | panic ch => exact hp.elim
    | outgrown => exact hp.elim
  · -- behind the loop
    rintro e W2 ⟨⟨v, rfl⟩, (⟨hi, hl, hd⟩ | ⟨pre, x, hSp, c, hi, hl, hd⟩)⟩
    · have he := run_endLoop (P := P) hl (by rw [← hrec]; simp)
      refine ⟨none, _, by rw [← hrec] at he; exact he, hdone _ (hI _ _ _ hi (Kept.put _ _ _ (.inr rfl))) ((World.putObj_heap_other (by omega)).trans hd)⟩
    · have he := run_endLoop (P := P) hl (by rw [← hrec]; simp)
      refine ⟨some c, _, by rw [← hrec] at he; exact he, hstop c pre x _ hSp (hIx _ _ _ _ hi (Array.getElem?_eq_some_iff.1 hl).1) ((World.putObj_heap_other (by omega)).trans hd)⟩


/-- A call in a round. -/
theorem wcall_r {m r : Nat} {P : Program} {f : FuncId} {args : Array Value} {w : World} {R R' : Ending → World → Prop} (h : Calls P f args w R) (hr : ∀ e w', R e w' → R' e w') :
    Fence.wide.fn f ∧ CallsIn (Fence.wide.inRound r) m P f args w R' := ⟨trivial, ((callsIn_wide.2 h).mono hr).inRound r⟩
/-- Two blocks are as they were. -/
def Two (S : Nat) (W W' : World) : Prop := ∀ k, k = S ∨ k = S + 1 → ∀ o, W.heap[k]? = some o → W'.heap[k]? = some o
theorem Two.refl (S : Nat) (W : World) : Two S W W := fun _ _ _ h => h
theorem Two.trans {S : Nat} {X Y Z : World} (h : Two S X Y) (k : Two S Y Z) : Two S X Z := fun i hi o ho => k i hi o (h i hi o ho)
theorem Two.kept {F : Nat → Prop} {S : Nat} {W W' : World} (k : Kept F W W') (h0 : ¬ F S) (h1 : ¬ F (S + 1)) : Two S W W' := fun i hi o ho => kept_at k ho (by rcases hi with rfl | rfl <;> assumption)
/-- How the body of a round is left. -/
def endT {α : Type} (S : Nat) (I : List α → World → Prop) (xs : List α) (W₁ : World) : Exit → Act → World → Prop
  | .normal, _, W' => Two S W₁ W' ∧ I xs W'
  | _, _, _ => False
theorem range_two {α : Type} {P : Program} {g : Operand} {ps : Array Tmp} {assign body : Code} {Q : Exit → Act → World → Prop} {a : Act} {w : World} {n : Nat}
    {gf : Nat} {lb : Array Value} (hg : a.eval g = .func (.func gf) #[] lb) (eg : ∀ args w, (callFunc gf args).run P w = .ok (.enter gf args) w)
    {encs : α → Array Value} {Rd : World → Prop} {L : List α} (hseq : SeqB (n - 1) P gf lb encs Rd L) (hps : ∀ x, (encs x).size = ps.size)
    (I : List α → World → Prop)
    (hR : ∀ s A, I s A → Rd A)
    (hI : ∀ s A A', I s A → Kept (fun b => b = w.heap.size ∨ b = w.heap.size + 1) A A' → I s A') (h0 : I [] w)
    (hround : ∀ (pre : List α) (x : α) (W : World), (∃ r, W.heap[w.heap.size + 1]? = some (.loop r)) → W.heap[w.heap.size]? = some (.deferred (some [])) → I pre W → pre ++ [x] <+: L →
      assign.wpIn (Fence.wide.inRound (w.heap.size + 1)) (n - 1 - 1) P (Exit.then (fun a₁ W₁ => Two w.heap.size W W₁ ∧
        ∀ r, body.wpIn (Fence.wide.inRound (w.heap.size + 1)) (n - 1 - 1) P (endT w.heap.size I (pre ++ [x]) (W₁.putObj (w.heap.size + 1) (.loop r))) a₁ (W₁.putObj (w.heap.size + 1) (.loop r))) (fun _ _ _ => False))
        { tmps := (ps.zip (encs x)).foldl (fun t (p, v) => t.setIfInBounds p v) a.tmps, defers := [] } W)
    (hdone : ∀ (W : World), I L W → W.heap[w.heap.size]? = some (.deferred (some [])) → Q .normal { a with defers := { target := .collected w.heap.size, args := #[] } :: a.defers } W) :
    (Code.rangeFunc g ps assign body).wpIn Fence.wide n P Q a w := by
  refine wpIn_rangeFunc fun fn hfn => ?_
  generalize hrec : (fun st pe => ({ state := st, pending := pe, fn, tmps := a.tmps, params := ps, assign, body, defers := w.heap.size } : Loop)) = rec
  obtain ⟨W1, hW1⟩ : ∃ W1, (w.alloc (.deferred (some []))).alloc (.loop (rec .ready none)) = W1 := ⟨_, rfl⟩
  have hb1 : Below w.heap.size w W1 := by rw [← hW1]; exact ((Below.refl _ w).alloc (Nat.le_refl _) _).alloc (by simp) _
  have hl1 : W1.heap[w.heap.size + 1]? = some (.loop (rec .ready none)) := by
    have := World.alloc_heap_new (w.alloc (.deferred (some []))) (.loop (rec .ready none))
    rw [World.size_alloc, hW1] at this; exact this
  have hd1 : W1.heap[w.heap.size]? = some (.deferred (some [])) := by
    rw [← hW1]; exact (Below.heap_alloc _ _ _ (by simp)).trans (World.alloc_heap_new w _)
  refine ⟨w.heap.size + 1, [{ target := .collected w.heap.size, args := #[] }], W1, { target := .fn (.func gf) lb, args := #[.func (.yield (w.heap.size + 1)) #[] #[]] }, W1, gf, #[.func (.yield (w.heap.size + 1)) #[] #[]] ++ lb, W1, ?_, ?_, fun _ _ => trivial, ?_, (fun h => by cases h), ?_⟩
  · rw [← hW1, ← hrec]; exact run_enterLoop_outer _ _ _ _ _
  · simp only [resolve, hg]; simp [go_sem]
  · simp [invoke, go_sem, eg]
  refine (hseq (w.heap.size + 1)
    (fun pre W => I pre W ∧ W.heap[w.heap.size + 1]? = some (.loop (rec .ready none)) ∧ W.heap[w.heap.size]? = some (.deferred (some [])))
    (fun pre W => False)
    W1 (fun s A h => hR s A h.1) ?_ ?_ ⟨hI _ _ _ h0 (Kept.of_below hb1), hl1, hd1⟩).mono ?_
  · rintro s A A' ⟨hi, hl, hd⟩ hk
    exact ⟨hI _ _ _ hi (Kept.of_below hk), (hk.block _ (Array.getElem?_eq_some_iff.1 hl).1).trans hl, (hk.block _ (Array.getElem?_eq_some_iff.1 hd).1).trans hd⟩
  · rintro pre x W hlen ⟨hi, hl, hd⟩
    have hy := run_yield (P := P) (args := encs x) hl (by rw [← hrec]; exact hps x)
    rw [← hrec] at hy
    refine ⟨fn, _, assign, body, hy, roundIn_of_wpIn hfn (wpIn_mono (hround pre x W ⟨_, hl⟩ hd hi hlen) ?_)⟩
    rintro e a₁ W₁ hp
    cases e with
    | normal =>
      obtain ⟨hk, hb⟩ := hp
      have hl' := hk _ (.inr rfl) _ hl
      have hd' := hk _ (.inl rfl) _ hd
      refine ⟨_, run_beginRound hl' (by rw [← hrec]), wpIn_mono (hb _) ?_⟩
      rintro e a₂ W₂ hq
      cases e with
      | normal =>
        obtain ⟨q1, q3⟩ := hq
        have hl2 := q1 _ (.inr rfl) _ (World.putObj_heap_same (Array.getElem?_eq_some_iff.1 hl').1)
        have hlt2 := (Array.getElem?_eq_some_iff.1 hl2).1
        have hd2 := q1 _ (.inl rfl) _ ((World.putObj_heap_other (by omega)).trans hd')
        refine ⟨_, _, run_endRound none hl2, .inl ⟨rfl, ⟨hI _ _ _ q3 (Kept.put _ _ _ (.inr rfl)), ?_, ?_⟩⟩⟩
        · rw [World.putObj_heap_same hlt2, ← hrec]; rfl
        · exact (World.putObj_heap_other (by omega)).trans hd2
      | ret => exact hq.elim
      | exit id => exact hq.elim
      | goto t => exact hq.elim
      | panic ch => exact hq.elim
      | outgrown => exact hq.elim
    | ret => exact hp.elim
    | exit id => exact hp.elim
    | goto t => exact hp.elim
    | panic ch => exact hp.elim
    | outgrown => exact hp.elim
  · rintro e W2 ⟨⟨v, rfl⟩, (⟨hi, hl, hd⟩ | ⟨pre, x, hSp, hx⟩)⟩
    · have he := run_endLoop (P := P) hl (by rw [← hrec]; simp)
      refine ⟨none, _, by rw [← hrec] at he; exact he, hdone _ (hI _ _ _ hi (Kept.put _ _ _ (.inr rfl))) ((World.putObj_heap_other (by omega)).trans hd)⟩
    · exact hx.elim

theorem keyU : Keyed Try.prog 31 := int_keyed Try.underlying31
def key (p : Nat) : Lit := .int .u64 (p : Int)
theorem key_of (p : Nat) (h : p < 18446744073709551616) : keyOf Try.prog 31 (.int .u64 (p : Int)) = some (key p) := keyOf_int_mk Try.underlying31 (WalkArith.wf_u64 (by omega))
theorem key_inj {p q : Nat} (h : key p = key q) : p = q := by simp [key] at h; omega
theorem key_lit (p : Nat) : WideAt.IsKeyLit (key p) := trivial

/-! ### How many keys there can be -/
theorem nodup_len : ∀ (B : Nat) (l : List Nat), l.Nodup → (∀ x ∈ l, x < B) → l.length ≤ B
  | 0, l, _, h => by
    cases l with
    | nil => simp
    | cons a l => have := h a (by simp); omega
  | B + 1, l, hn, h => by
    by_cases hb : B ∈ l
    · have e := List.length_erase_of_mem hb
      have := nodup_len B (l.erase B) (hn.erase B) (fun x hx => by
        have h1 := h x (List.mem_of_mem_erase hx)
        have h2 : x ≠ B := fun z => by rw [z] at hx; exact (hn.mem_erase_iff.1 hx).1 rfl
        omega)
      omega
    · have := nodup_len B l hn (fun x hx => by
        have h1 := h x hx
        have h2 : x ≠ B := fun z => hb (z ▸ hx)
        omega)
      omega
theorem mem_ins {H : Type} {x y : Lit × DataW H} : ∀ {l : List (Lit × DataW H)}, x ∈ DataW.insert y l → x = y ∨ x ∈ l
  | [], h => by simp [DataW.insert] at h; exact .inl h
  | z :: r, h => by
    unfold DataW.insert at h
    split at h
    · rcases List.mem_cons.1 h with h | h
      · exact .inl h
      · exact .inr h
    · rcases List.mem_cons.1 h with h | h
      · exact .inr (by rw [h]; exact List.mem_cons_self)
      · rcases mem_ins h with h | h
        · exact .inl h
        · exact .inr (List.mem_cons_of_mem _ h)
/-- All keys are numbers below 2^26. -/
def Keys (D : DataW Unit) : Prop := ∀ es, D = .map es → ∀ x ∈ es, ∃ p, p < 67108864 ∧ x.1 = key p
def numOf : Lit → Nat
  | .int _ a => a.toNat
  | _ => 0
theorem numOf_key (p : Nat) : numOf (key p) = p := by simp [numOf, key]
theorem Keys.size {D : DataW Unit} (h : Keys D) (t : Tidy D) : Maps.size D ≤ 67108864 := by
  obtain ⟨es, rfl, hp⟩ := t
  have hk := h es rfl
  rw [size_eq, ← List.length_map (f := fun x => numOf x.1)]
  refine nodup_len _ _ ?_ ?_
  · refine List.pairwise_map.2 (hp.imp_of_mem fun {x y} hx hy hne e => hne ?_)
    obtain ⟨p, _, e1⟩ := hk x hx
    obtain ⟨q, _, e2⟩ := hk y hy
    rw [e1, e2, numOf_key, numOf_key] at e
    rw [e1, e2, e]
  · intro n hn
    obtain ⟨x, hx, rfl⟩ := List.mem_map.1 hn
    obtain ⟨p, hp, e⟩ := hk x hx
    rw [e, numOf_key]; exact hp
theorem Keys.put {D : DataW Unit} (h : Keys D) (m : IsMap D) {p : Nat} (hp : p < 67108864) (d : DataW Unit) : Keys (D.put (key p) d) := by
  obtain ⟨es, rfl⟩ := m
  rw [DataW.put_eq]
  intro es' e x hx
  injection e with e
  subst e
  rcases mem_ins hx with rfl | hx
  · exact ⟨p, hp, rfl⟩
  · exact h es rfl x (List.mem_filter.1 hx).1
theorem Keys.del {D : DataW Unit} (h : Keys D) (m : IsMap D) (k : Lit) : Keys (D.del k) := by
  obtain ⟨es, rfl⟩ := m
  rw [DataW.del_eq]
  intro es' e x hx
  injection e with e
  subst e
  exact h es rfl x (List.mem_filter.1 hx).1

/-! ### A map as a function -/
structure Enc (α : Type) where
  elem : Value → Option (DataW Unit × List MemPlace)
  dat : α → DataW Unit
  val : α → Value
  zd : DataW Unit
  zv : Value
  mke : ∀ a, elem (val a) = some (dat a, [])
  mkz : elem zv = some (zd, [])
  back : ∀ v a ps, elem v = some (dat a, ps) → v = val a
  backz : ∀ v ps, elem v = some (zd, ps) → v = zv
def valO {α : Type} (E : Enc α) : Option α → Value
  | some a => E.val a
  | none => E.zv
def datO {α : Type} (E : Enc α) : Option α → DataW Unit
  | some a => E.dat a
  | none => E.zd
theorem Enc.backO {α : Type} (E : Enc α) {v : Value} {o : Option α} {ps : List MemPlace} (h : E.elem v = some (datO E o, ps)) : v = valO E o := by
  cases o with
  | none => exact E.backz v ps h
  | some a => exact E.back v a ps h
def MapG {α : Type} (E : Enc α) (w : World) (b : Nat) (M : Nat → Option α) : Prop :=
  ∃ n D, w.ownsMap Try.prog 31 E.elem b n D ∧ n ≤ 67108864 ∧ Keys D ∧ ∀ p, p < 18446744073709551616 → has D (key p) = (M p).isSome ∧ D.atKey (key p) E.zd = datO E (M p)
section
variable {α : Type} {E : Enc α} {w w' : World} {b : Nat} {M : Nat → Option α}
theorem MapG.lt (h : MapG E w b M) : b < w.heap.size := by obtain ⟨n, D, h, _⟩ := h; exact h.lt
theorem MapG.kept (h : MapG E w b M) (hb : w'.heap[b]? = w.heap[b]?) : MapG E w' b M := by
  obtain ⟨n, D, ⟨es, clock, h1, h2⟩, r⟩ := h
  exact ⟨n, D, ⟨es, clock, hb.trans h1, h2⟩, r⟩
theorem MapG.below (h : MapG E w b M) (k : Below w.heap.size w w') : MapG E w' b M := h.kept (k.block b h.lt)
theorem MapG.made (E : Enc α) (w : World) : MapG E (w.alloc (.map #[] 0)) w.heap.size (fun _ => none) :=
  ⟨0, _, World.ownsMap_made w Try.prog 31 E.elem, by decide, (fun es e x hx => by injection e with e; subst e; cases hx), fun _ _ => ⟨rfl, rfl⟩⟩
theorem MapG.looks {t e : TypeId} (h : MapG E w b M) (ht : Try.prog.underlying t = some (.map 31 e)) (hz : (zeroValue e).run Try.prog w = .ok E.zv w) (p : Nat) (hp : p < 18446744073709551616) :
    (Instr.lookup t (.map (some b)) (.int .u64 (p : Int)) true).run Try.prog w = .ok (.tuple #[valO E (M p), .bool (M p).isSome]) w := by
  obtain ⟨n, D, hD, _, _, hM⟩ := h
  obtain ⟨v, ps, hrun, hv⟩ := hD.look_ok keyU ht hz (zd := E.zd) (zp := []) E.mkz (key_of p hp)
  rw [(hM p hp).2] at hv
  rw [hrun, E.backO hv, (hM p hp).1]
theorem MapG.look {t e : TypeId} (h : MapG E w b M) (ht : Try.prog.underlying t = some (.map 31 e)) (hz : (zeroValue e).run Try.prog w = .ok E.zv w) (p : Nat) (hp : p < 18446744073709551616) :
    (Instr.lookup t (.map (some b)) (.int .u64 (p : Int)) false).run Try.prog w = .ok (valO E (M p)) w := by
  obtain ⟨n, D, hD, _, _, hM⟩ := h
  obtain ⟨v, ps, hrun, hv⟩ := hD.lookup keyU ht hz (zd := E.zd) (zp := []) E.mkz (key_of p hp)
  rw [(hM p hp).2] at hv
  rw [hrun, E.backO hv]
/-- m[p] = x. -/
theorem MapG.put {t e : TypeId} (h : MapG E w b M) (ht : Try.prog.underlying t = some (.map 31 e)) (p : Nat) (hp : p < 67108864) (x : α) :
    ∃ w', (Instr.mapUpdate t (.map (some b)) (.int .u64 (p : Int)) (E.val x)).run Try.prog w = .ok () w' ∧ MapG E w' b (fun q => if q = p then some x else M q) ∧ w.grownBy w' (some b) := by
  obtain ⟨n, D, hD, hn, hk, hM⟩ := h
  obtain ⟨w', hrun, h1, h2⟩ := hD.update keyU ht (by unfold maxLen; omega) (key_of p (by omega)) (val := E.val x) (d := E.dat x) (ps := []) (E.mke x)
  have hk' := hk.put hD.isMap hp (E.dat x)
  have hs := hk'.size (h1.tidy keyU)
  refine ⟨w', hrun, ⟨Maps.size (D.put (key p) (E.dat x)), _, ?_, hs, hk', fun q hq => ?_⟩, h2⟩
  · obtain ⟨es, clock, e1, e2, e3, e4⟩ := h1
    refine ⟨es, clock, e1, e2, ?_, e4⟩
    rw [e4, size_eq, length_sorted]
    simp
  · by_cases c : q = p
    · subst c
      simp only [if_true]
      exact ⟨has_put_same hD.isMap (key_lit _) _, atKey_put_same hD.isMap (key_lit _) _ _⟩
    · simp only [if_neg c]
      have hne : key q ≠ key p := fun z => c (key_inj z)
      exact ⟨(has_put_other hne _).trans (hM q hq).1, (atKey_put_other hne _ _).trans (hM q hq).2⟩
/-- delete(m, p). -/
theorem MapG.del {t e : TypeId} (h : MapG E w b M) (ht : Try.prog.underlying t = some (.map 31 e)) (ty : TypeId) (p : Nat) (hp : p < 18446744073709551616) :
    ∃ w', (Builtin.delete_ #[t, 31] ty #[.map (some b), .int .u64 (p : Int)]).run Try.prog w = .ok (.tuple #[]) w' ∧ MapG E w' b (fun q => if q = p then none else M q) ∧ w.grownBy w' (some b) := by
  obtain ⟨n, D, hD, hn, hk, hM⟩ := h
  obtain ⟨w', hrun, h1, h2⟩ := hD.drop keyU ht (key_of p hp) ty
  refine ⟨w', hrun, ⟨n, _, h1, hn, hk.del hD.isMap _, fun q hq => ?_⟩, h2.grown⟩
  by_cases c : q = p
  · subst c
    simp only [if_true]
    exact ⟨has_del_same, atKey_del_same _⟩
  · simp only [if_neg c]
    have hne : key q ≠ key p := fun z => c (key_inj z)
    exact ⟨(has_del_other hne).trans (hM q hq).1, (atKey_del_other hne _).trans (hM q hq).2⟩
end


end Go.Proofs.Ytnhllnepnpmegaa

/- A region that draws its order, inside a loop's round too: what only reads, or calls what turns nothing old, comes first, in whatever order; the rest follows in a row. -/
namespace Go.Proofs.Rx
open Go
set_option linter.unusedVariables false
set_option linter.unusedSimpArgs false

/-- A fence that lets all in, outside a round or inside one. -/
abbrev FW (ro : Option Nat) : Fence := { Fence.wide with round := ro }
section
variable {P : Program} {ops : Array Oper} {md : Region.Mode} {C : World → Prop} {ro : Option Nat} {m : Nat}
theorem calls_fw {f : FuncId} {args : Array Value} {w : World} {R : Ending → World → Prop} (h : Calls P f args w R) : CallsIn (FW ro) m P f args w R := callsIn_wide (n := m).2 h
theorem opIn_quiet {o : Oper} {a : Act} {K : Act → Prop} {K' : Act → World → Prop} {Q' : Exit → Act → World → Prop} {w : World} (hd : ∀ c, o.op ≠ .defer c) (hw : C w) (h : ∀ a w', C w' → K a → K' a w') (hh : o.quiet P a C K) : o.wpIn (FW ro) m P a w K' Q' := by
  obtain ⟨v, h1, h2⟩ := hh
  have h3 := h1 w hw
  unfold Oper.quietAt at h3
  refine ⟨fun _ _ => trivial, ?_⟩
  rw [Oper.semAt_plain _ _ _ hd]
  generalize (execOp a.eval o).run P w = r at *
  cases r with
  | ok n w' =>
    cases n <;> simp only [Oper.quietUpon] at h3 <;> simp only [Oper.uponIn]
    case value u =>
      obtain ⟨e1, e2⟩ := h3
      rw [e1, e2]
      exact h _ _ hw h2
    case skip =>
      obtain ⟨e1, e2⟩ := h3
      rw [e1, ← e2]
      exact h _ _ hw h2
    case enter f args =>
      obtain ⟨e1, hc⟩ := h3
      rw [e1]
      refine ⟨fun z => (by cases z), calls_fw (hc.mono fun e w'' ⟨he, hw''⟩ => ?_)⟩
      subst he
      exact h _ _ hw'' h2
  | halt x w' => simp only [Oper.quietUpon] at h3
/-- No operation is a defer statement, and none has a guard. -/
def plainB (ops : Array Oper) : Bool := ops.toList.all fun o => o.guard.isNone && (match o.op with | .defer _ => false | _ => true)
theorem plain_at (h : plainB ops = true) {i : Nat} {o : Oper} (hi : ops[i]? = some o) : o.guard = none ∧ ∀ c, o.op ≠ .defer c := by
  have hm : o ∈ ops.toList := by
    have := Array.getElem?_eq_some_iff.1 hi
    obtain ⟨h1, h2⟩ := this
    rw [← h2]; exact Array.getElem_mem_toList h1
  have := List.all_eq_true.1 h o hm
  simp only [Bool.and_eq_true, Option.isNone_iff_eq_none] at this
  refine ⟨this.1, fun c hc => ?_⟩
  rw [hc] at this
  simp at this
theorem wanted_none {o : Oper} (h : o.guard = none) (ops : Array Oper) (t : Array Value) : Region.wanted o (yielded ops t) = true := by
  simp [Region.wanted, h]
theorem opIn_of_q (hp : plainB ops = true) {ops' : Array Oper} {i : Nat} (he : ops'[i]? = ops[i]?) {a : Act} {K : Act → Prop} {K' : Act → World → Prop} {Q' : Exit → Act → World → Prop} {w : World} (hC : C w) (h : ∀ a w', C w' → K a → K' a w') (hh : qOp P ops' C i K a) : wpOpIn (FW ro) m P ops Q' i K' a w := by
  unfold qOp at hh
  unfold wpOpIn
  rw [he] at hh
  cases ho : ops[i]? with
  | none => rw [ho] at hh; exact h _ _ hC hh
  | some o =>
    rw [ho] at hh
    obtain ⟨g, nd⟩ := plain_at hp ho
    simp only [wanted_none g, if_true] at hh ⊢
    exact opIn_quiet nd hC h hh
theorem anyIn_quiet (hp : plainB ops = true) {Q : Act → Prop} {Q' : Exit → Act → World → Prop} (hQ : ∀ a w, C w → Q a → Q' .normal a w) : ∀ (fuel : Nat) (listed : Array Bool) (a : Act) (w : World), C w →
    wpAnyQ P md ops C Q fuel listed a → wpAnyIn (FW ro) m P md ops Q' fuel listed a w
  | 0, _, _, _, hw, h => ⟨h.1, hQ _ _ hw h.2⟩
  | fuel + 1, _, _, _, hw, h => ⟨fun h0 => hQ _ _ hw (h.1 h0), fun i hi => opIn_of_q hp rfl hw (fun a' w' hw' => anyIn_quiet hp hQ fuel _ a' w' hw') (h.2 i hi)⟩
/-- A region that only reads, or calls what keeps to the class. -/
theorem region_all {id : Nat} {Q : Exit → Act → World → Prop} {a : Act} {w : World} {l : List Oper} (C : World → Prop) (hm : P.follows .mixedOrders = true) (hB : (Region.lexB .any l.toArray && plainB l.toArray) = true) (hC : C w.drew)
    (h : wpQuiet P l.toArray C (fun a' => ∀ w', C w' → Q .normal a' w') l a) : (Code.region id l.toArray true).wpIn (FW ro) m P Q a w := by
  simp only [Region.lexB, Bool.and_eq_true] at hB
  refine wpIn_region_any hm (anyIn_quiet hB.2 (Q := fun a' => ∀ w', C w' → Q .normal a' w') (fun _ w' hw' h => h w' hw') _ _ _ _ hC ?_)
  have := wpAnyQ_lex (P := P) (C := C) (md := .any) hB.1.1 l 0 (Array.replicate l.toArray.size false) a (by simp) (by simpa using hB.1.2) h
  simpa using this
/-- What comes in a row. -/
theorem anyIn_seq {Q' : Exit → Act → World → Prop} {F : Fence} : ∀ (l : List Oper) (k : Nat) (listed : Array Bool) (a : Act) (w : World), (∀ j, l[j]? = ops[k + j]?) →
    Region.seqB md ops l.length k listed = true → wpListIn F m P ops Q' l a w → wpAnyIn F m P md ops Q' l.length listed a w
  | [], _, _, _, _, _, hB, h => ⟨by simpa [Region.seqB] using hB, h⟩
  | o :: l, k, listed, a, w, hl, hB, h => by
    have h0 : ops[k]? = some o := by simpa using (hl 0).symm
    simp only [List.length_cons, Region.seqB, Bool.and_eq_true, decide_eq_true_eq] at hB
    refine ⟨fun h1 => (by rw [hB.1] at h1; cases h1), fun i hi => ?_⟩
    rw [hB.1] at hi
    have hik : i = k := by simpa using hi
    subst hik
    have hw : wpOpIn F m P ops Q' i (wpListIn F m P ops Q' l) a w := by unfold wpOpIn; simp only [h0]; exact h
    exact wpOpIn_mono (fun a' w' h' => anyIn_seq l (i + 1) _ a' w' (fun j => by have := hl (j + 1); simpa [Nat.add_assoc, Nat.add_comm 1 j] using this) hB.2 h') hw
/-- How many of the first ones have not come yet. -/
def open_ (listed : Array Bool) : Nat → Nat
  | 0 => 0
  | n + 1 => open_ listed n + if listed.getD n true = false then 1 else 0
theorem open_zero {listed : Array Bool} : ∀ {n}, open_ listed n = 0 → ∀ i, i < n → listed.getD i true ≠ false
  | 0, _, i, hi => by omega
  | n + 1, h, i, hi => by
    unfold open_ at h
    by_cases z : listed.getD n true = false
    · rw [if_pos z] at h; omega
    · by_cases e : i = n
      · rw [e]; exact z
      · exact open_zero (n := n) (by rw [if_neg z] at h; omega) i (by omega)
theorem open_some {listed : Array Bool} : ∀ {n}, 0 < open_ listed n → ∃ i, i < n ∧ listed.getD i true = false ∧ ∀ j, j < i → listed.getD j true ≠ false
  | 0, h => by simp [open_] at h
  | n + 1, h => by
    by_cases c : 0 < open_ listed n
    · obtain ⟨i, h1, h2, h3⟩ := open_some c
      exact ⟨i, by omega, h2, h3⟩
    · unfold open_ at h
      by_cases z : listed.getD n true = false
      · exact ⟨n, by omega, z, fun j hj => open_zero (n := n) (by omega) j hj⟩
      · rw [if_neg z] at h; omega
theorem open_set {listed : Array Bool} {i : Nat} (hi : listed.getD i true = false) : ∀ n, open_ (listed.setIfInBounds i true) n = open_ listed n - (if i < n then 1 else 0)
  | 0 => by simp [open_]
  | n + 1 => by
    have hs : i < listed.size := by
      rcases Nat.lt_or_ge i listed.size with h | h
      · exact h
      · simp [Array.getElem?_eq_none h] at hi
    have ih := open_set hi n
    unfold open_
    rw [ih]
    have pos : i < n → 0 < open_ listed n := fun hin => by
      rcases Nat.eq_zero_or_pos (open_ listed n) with z | z
      · exact absurd hi (open_zero z i hin)
      · exact z
    by_cases e : i = n
    · subst e
      have : (listed.setIfInBounds i true).getD i true = true := by simp [Array.getD, hs]
      rw [this, hi]
      simp
    · have : (listed.setIfInBounds i true).getD n true = listed.getD n true := by simp [Array.getD_eq_getD_getElem?, Array.getElem?_setIfInBounds_ne e]
      rw [this]
      by_cases c : i < n
      · have := pos c
        rw [if_pos c, if_pos (by omega : i < n + 1)]; omega
      · rw [if_neg c, if_neg (by omega : ¬ i < n + 1)]; omega
/-- What a head must be: each waits for earlier ones alone. -/
def backB (ops : Array Oper) (md : Region.Mode) (n : Nat) : Bool := (List.range n).all fun i => match ops[i]? with | some o => o.after.toList.all fun e => !Region.binds md e || decide (e.on < i) | none => false
theorem back_at {n : Nat} (h : backB ops md n = true) {i : Nat} (hi : i < n) : ∃ o, ops[i]? = some o ∧ ∀ e ∈ o.after, Region.binds md e = true → e.on < i := by
  have := List.all_eq_true.1 h i (List.mem_range.2 hi)
  cases ho : ops[i]? with
  | none => simp [ho] at this
  | some o =>
    simp only [ho] at this
    refine ⟨o, rfl, fun e he hb => ?_⟩
    have h2 := List.all_eq_true.1 this e (Array.mem_toList_iff.2 he)
    simp only [Bool.or_eq_true, Bool.not_eq_true', decide_eq_true_eq] at h2
    rcases h2 with h2 | h2
    · rw [hb] at h2; cases h2
    · exact h2
/-- All of the head have come, nothing of the tail. -/
def headDone (n k : Nat) : Array Bool := (List.replicate n true ++ List.replicate k false).toArray
theorem head_tail {hd : Array Oper} {n g : Nat} (hp : plainB ops = true) (hn : n < ops.size) (hh : ∀ i, i < n → hd[i]? = ops[i]?) (hs : hd.size = n) (hb : backB ops md n = true) (hsink : Region.sinkB md ops n = true) (hchain : Region.chainB md ops n = true)
    {K : Act → Prop} {Q : Exit → Act → World → Prop} (hT : ∀ a w, C w → K a → wpAnyIn (FW ro) m P md ops Q g (headDone n (ops.size - n)) a w) :
    ∀ (f : Nat) (listed listed' : Array Bool) (a : Act) (w : World), open_ listed n = f → HeadInv md ops n listed → listed'.size = n → (∀ i, i < n → listed'[i]? = listed[i]?) → C w →
      wpAnyQ P md hd C K f listed' a → wpAnyIn (FW ro) m P md ops Q (f + g) listed a w
  | 0, listed, listed', a, w, ho, inv, hs', hl, hw, h => by
    rw [Nat.zero_add]
    have e : listed = headDone n (ops.size - n) := by
      apply Array.ext
      · rw [inv.size]; simp [headDone]; omega
      · intro i h1 h2
        simp only [headDone, List.getElem_toArray]
        by_cases c : i < n
        · have := open_zero ho i c
          simp [Array.getD, h1] at this
          rw [List.getElem_append_left (by simpa using c)]
          simpa using this
        · have := inv.tail i (by omega) (by rw [← inv.size]; exact h1)
          simp [Array.getD, h1] at this
          rw [List.getElem_append_right (by simpa using c)]
          simpa using this
    rw [e]
    exact hT a w hw h.2
  | f + 1, listed, listed', a, w, ho, inv, hs', hl, hw, h => by
    obtain ⟨i0, i1, i2, i3⟩ := open_some (by omega : 0 < open_ listed n)
    have same : ∀ i, i < n → ∀ d, listed'.getD i d = listed.getD i d := fun i hi d => by simp only [Array.getD_eq_getD_getElem?, hl i hi]
    have r0 : i0 ∈ Region.ready md ops listed := by
      obtain ⟨o, ho', ha⟩ := back_at hb i1
      refine mem_ready.2 ⟨i2, o, ho', fun e he hbind => ?_⟩
      have h1 := ha e he hbind
      have h2 := i3 e.on h1
      have h3 : e.on < listed.size := by rw [inv.size]; omega
      simp [Array.getD, h3] at h2 ⊢
      exact h2
    rw [show f + 1 + g = (f + g) + 1 by omega]
    refine ⟨fun z => (by rw [z] at r0; cases r0), fun i hi => ?_⟩
    have hin : i < n := by
      rcases Nat.lt_or_ge i n with c | c
      · exact c
      · exact absurd hi (tail_waits hsink hchain hn inv (n - i0) i0 rfl i1 i2 i c)
    obtain ⟨q1, o, q2, q3⟩ := mem_ready.1 hi
    obtain ⟨o', p1, p2⟩ := back_at hb hin
    have hoo : o' = o := Option.some.inj (p1.symm.trans q2)
    subst hoo
    have r' : i ∈ Region.ready md hd listed' := mem_ready.2 ⟨by rw [same i hin]; exact q1, o', by rw [hh i hin]; exact q2, fun e he hbind => by
      have := p2 e he hbind
      rw [same e.on (by omega)]; exact q3 e he hbind⟩
    refine opIn_of_q hp (hh i hin) hw (fun a' w' hw' hk => ?_) (h.2 i r')
    refine head_tail hp hn hh hs hb hsink hchain hT f _ _ a' w' ?_ (inv.set hi hin) (by simpa using hs') (fun j hj => ?_) hw' hk
    · rw [open_set q1, if_pos hin]; omega
    · by_cases e : i = j
      · subst e
        rw [Array.getElem?_setIfInBounds_self, Array.getElem?_setIfInBounds_self, if_pos (by omega), if_pos (by rw [inv.size]; omega)]
      · rw [Array.getElem?_setIfInBounds_ne e, Array.getElem?_setIfInBounds_ne e]; exact hl j hj
/-- What is asked of a region's operations, by reckoning. -/
def tailB (l : List Oper) (n : Nat) : Bool :=
  decide (n < l.length) && plainB l.toArray && backB l.toArray .any n && Region.sinkB .any l.toArray n && Region.chainB .any l.toArray n && Region.lexB .any (l.take n).toArray && Region.seqB .any l.toArray (l.length - n) n (headDone n (l.length - n))
/-- A region whose first n operations only read, or call what keeps to the class; the rest follows in a row. -/
theorem region_tail {id : Nat} {Q : Exit → Act → World → Prop} {a : Act} {w : World} {l : List Oper} (C : World → Prop) (n : Nat) (hm : P.follows .mixedOrders = true) (hB : tailB l n = true) (hC : C w.drew)
    (h : wpQuiet P (l.take n).toArray C (fun a' => ∀ w', C w' → wpListIn (FW ro) m P l.toArray Q (l.drop n) a' w') (l.take n) a) : (Code.region id l.toArray true).wpIn (FW ro) m P Q a w := by
  simp only [tailB, Bool.and_eq_true, decide_eq_true_eq] at hB
  obtain ⟨⟨⟨⟨⟨⟨hn, hp⟩, hb⟩, hs⟩, hc⟩, hlex⟩, hseq⟩ := hB
  simp only [Region.lexB, Bool.and_eq_true] at hlex
  have htl : (l.take n).length = n := by simp; omega
  refine wpIn_region_any hm ?_
  have e : l.toArray.size = n + (l.length - n) := by simp; omega
  have hq := wpAnyQ_lex (P := P) (C := C) (md := .any) hlex.1 (l.take n) 0 (Array.replicate (l.take n).toArray.size false) a (by simp) (by simpa using hlex.2) h
  rw [e]
  have hop : ∀ k N, k ≤ N → open_ (Array.replicate N false) k = k := fun k => by
    induction k with
    | zero => intro N _; rfl
    | succ k ih => intro N hN; unfold open_; rw [ih N (by omega), if_pos]; simp [Array.getD]; omega
  have inv0 : HeadInv .any l.toArray n (Array.replicate (n + (l.length - n)) false) :=
    ⟨by rw [e]; simp, fun j oj _ hl => (by rw [getD_replicate_false] at hl; cases hl), fun t _ ht => getD_in (by rw [e] at ht; simpa using ht) (getD_replicate_false _ _)⟩
  refine head_tail (hd := (l.take n).toArray) (g := l.length - n) hp (by simpa using hn) (fun i hi => ?_) (by simpa using htl) hb hs hc (K := fun a' => ∀ w', C w' → wpListIn (FW ro) m P l.toArray Q (l.drop n) a' w') (fun a' w' hw' hk => ?_) n _ (Array.replicate n false) a _ (hop _ _ (by omega)) inv0 (by simp) (fun i hi => ?_) hC ?_
  · simp [List.getElem?_take, hi]
  · have := anyIn_seq (P := P) (ops := l.toArray) (md := .any) (m := m) (F := FW ro) (Q' := Q) (l.drop n) n (headDone n (l.length - n)) a' w' (fun j => by simp) (by simpa using hseq) (hk w' hw')
    simpa using this
  · simp [Array.getElem?_replicate, hi]
    omega
  · rw [htl] at hq
    simpa [htl] using hq
/-- What is asked, and that memory does not run out. -/
def NoOut (Q : Exit → Act → World → Prop) (e : Exit) (a : Act) (w : World) : Prop := e ≠ .outgrown ∧ Q e a w
theorem rows_fw {r : String} {args : Array Value} {w : World} {R : Value → World → Prop} (h : Rows P r args w R) : RowsIn (FW ro) m P r args w R := fun c cs _ =>
  let ⟨v, w', q, s⟩ := h c cs
  ⟨v, w', q, stepsIn_wide.2 s⟩
theorem opIn_of_op (hp : plainB ops = true) {Q : Exit → Act → World → Prop} {i : Nat} {a : Act} {w : World} {K K' : Act → World → Prop} (h : ∀ a w, K a w → K' a w) (hh : wpOp P ops (NoOut Q) i K a w) : wpOpIn (FW ro) m P ops Q i K' a w := by
  unfold wpOp at hh
  unfold wpOpIn
  cases ho : ops[i]? with
  | none => rw [ho] at hh; exact h _ _ hh
  | some o =>
    rw [ho] at hh
    obtain ⟨g, nd⟩ := plain_at hp ho
    simp only [wanted_none g, if_true] at hh ⊢
    rcases hh with hh | ⟨_, a', w', z⟩
    · refine ⟨fun _ _ => trivial, ?_⟩
      rw [Oper.semAt_plain _ _ _ nd]
      unfold Oper.wp at hh
      generalize (execOp a.eval o).run P w = r at *
      cases r with
      | ok n w' =>
        cases n <;> simp only [Oper.upon] at hh <;> simp only [Oper.uponIn]
        case value u => exact h _ _ hh
        case skip => exact h _ _ hh
        case defer d => exact h _ _ hh
        case enter f args =>
          refine ⟨fun z => (by cases z), calls_fw (hh.mono fun e w'' he => ?_)⟩
          cases e with
          | returned v => exact h _ _ he
          | panicked c => exact he.2
          | outgrown =>
            obtain ⟨_, _, z⟩ := he
            exact absurd rfl z.1
        case row r args => exact ⟨fun z => (by cases z), rows_fw (hh.mono fun v w'' he => h _ _ he)⟩
      | halt x w' =>
        cases x <;> simp only [Oper.upon] at hh <;> simp only [Oper.uponIn]
        case panic u => exact hh.2
    · exact absurd rfl z.1
theorem anyIn_of_any (hp : plainB ops = true) {Q : Exit → Act → World → Prop} : ∀ (fuel : Nat) (listed : Array Bool) (a : Act) (w : World), wpAny P md ops (NoOut Q) fuel listed a w → wpAnyIn (FW ro) m P md ops Q fuel listed a w
  | 0, _, _, _, h => ⟨h.1, h.2.2⟩
  | fuel + 1, _, _, _, h => ⟨fun h0 => (h.1 h0).2, fun i hi => opIn_of_op hp (fun a' w' => anyIn_of_any hp fuel _ a' w') (h.2 i hi)⟩
/-- A region by whatever walk of its orders outside a round. -/
theorem region_held {id : Nat} {Q : Exit → Act → World → Prop} {a : Act} {w : World} {l : List Oper} {S : World → Prop} (hm : P.follows .mixedOrders = true) (hB : plainB l.toArray = true)
    (h : wpAnyH P .any l.toArray (NoOut Q) S l.toArray.size (Array.replicate l.toArray.size false) a w.drew) : (Code.region id l.toArray true).wpIn (FW ro) m P Q a w :=
  wpIn_region_any hm (anyIn_of_any hB _ _ _ _ (wpAny_of_held _ _ _ _ h))
end
end Go.Proofs.Rx

/- Worlds that have grown: regions that draw their order, and whose callees may make memory. -/
namespace Go.Proofs.Ytnhllnepnpmegaa
open Go.ChangeShapes Go.WideShapes Go.ChangeAt Go.RowKit Go.Shelf Go.Proofs.Rx Go.Maps
set_option linter.unusedVariables false
set_option linter.unusedSimpArgs false

structure Ext (w : World) where
  v : World
  h : Below w.heap.size w v
theorem ext_ne (w : World) : Nonempty (Ext w) := ⟨⟨w, Below.refl _ _⟩⟩
theorem ext_cell {w : World} (n : Ext w) (b o : Nat) (h : b < w.heap.size) : n.v.cell? ⟨b, o, none⟩ = w.cell? ⟨b, o, none⟩ := n.h.cell (p := ⟨b, o, none⟩) h
theorem wp_region_calm {P : Program} {id : Nat} {Q : Exit → Act → World → Prop} {a : Act} {w : World} {l : List Oper} (hm : P.follows .mixedOrders = true) (hB : Region.lexB .any l.toArray = true)
    (h : wpQuiet P l.toArray (fun w' => ∃ n : Ext w, w' = n.v) (fun a' => ∀ w', (∃ n : Ext w, w' = n.v) → Q .normal a' w') l a) : (Code.region id l.toArray true).wp P Q a w :=
  wp_region_quiet (C := fun w' => ∃ n : Ext w, w' = n.v) hm hB ⟨⟨{ w with drawn := w.drawn + 1 }, ⟨rfl, rfl, rfl, Nat.le_refl _, fun _ _ => rfl⟩⟩, rfl⟩ (by simpa using h)
theorem calm_of {P : Program} {f : FuncId} {args : Array Value} {w : World} {n : Ext w} {v : Value} (h : Calls P f args n.v fun e w' => e = .returned v ∧ Below n.v.heap.size n.v w') : Calls P f args n.v fun e w'' => e = .returned v ∧ ∃ m : Ext w, w'' = m.v :=
  h.mono fun _ w' ⟨he, hm⟩ => ⟨he, ⟨w', n.h.trans (hm.mono n.h.size)⟩, rfl⟩
theorem tail_w {P : Program} {m id : Nat} {Q : Exit → Act → World → Prop} {a : Act} {w : World} {l : List Oper} (n : Nat) (hm : P.follows .mixedOrders = true) (hB : tailB l n = true)
    (h : wpQuiet P (l.take n).toArray (fun w' => ∃ n : Ext w, w' = n.v) (fun a' => ∀ w', (∃ n : Ext w, w' = n.v) → wpListIn Fence.wide m P l.toArray Q (l.drop n) a' w') (l.take n) a) : (Code.region id l.toArray true).wpIn Fence.wide m P Q a w :=
  region_tail (ro := none) (fun w' => ∃ n : Ext w, w' = n.v) n hm hB ⟨⟨w.drew, drew_below w⟩, rfl⟩ h
theorem tail_r {P : Program} {m id r : Nat} {Q : Exit → Act → World → Prop} {a : Act} {w : World} {l : List Oper} (n : Nat) (hm : P.follows .mixedOrders = true) (hB : tailB l n = true)
    (h : wpQuiet P (l.take n).toArray (fun w' => ∃ n : Ext w, w' = n.v) (fun a' => ∀ w', (∃ n : Ext w, w' = n.v) → wpListIn (Fence.wide.inRound r) m P l.toArray Q (l.drop n) a' w') (l.take n) a) : (Code.region id l.toArray true).wpIn (Fence.wide.inRound r) m P Q a w :=
  region_tail (ro := some r) (fun w' => ∃ n : Ext w, w' = n.v) n hm hB ⟨⟨w.drew, drew_below w⟩, rfl⟩ h
theorem all_r {P : Program} {m id r : Nat} {Q : Exit → Act → World → Prop} {a : Act} {w : World} {l : List Oper} (hm : P.follows .mixedOrders = true) (hB : (Region.lexB .any l.toArray && plainB l.toArray) = true)
    (h : wpQuiet P l.toArray (fun w' => ∃ n : Ext w, w' = n.v) (fun a' => ∀ w', (∃ n : Ext w, w' = n.v) → Q .normal a' w') l a) : (Code.region id l.toArray true).wpIn (Fence.wide.inRound r) m P Q a w :=
  region_all (ro := some r) (fun w' => ∃ n : Ext w, w' = n.v) hm hB ⟨⟨w.drew, drew_below w⟩, rfl⟩ h
theorem calm_same {P : Program} {f : FuncId} {args : Array Value} {w : World} {n : Ext w} {v : Value} (h : Calls P f args n.v fun e w' => e = .returned v ∧ w' = n.v) : Calls P f args n.v fun e w'' => e = .returned v ∧ ∃ m : Ext w, w'' = m.v :=
  h.mono fun _ w' ⟨he, hm⟩ => ⟨he, n, hm⟩
theorem all_w {P : Program} {m id : Nat} {Q : Exit → Act → World → Prop} {a : Act} {w : World} {l : List Oper} (hm : P.follows .mixedOrders = true) (hB : (Region.lexB .any l.toArray && plainB l.toArray) = true)
    (h : wpQuiet P l.toArray (fun w' => ∃ n : Ext w, w' = n.v) (fun a' => ∀ w', (∃ n : Ext w, w' = n.v) → Q .normal a' w') l a) : (Code.region id l.toArray true).wpIn Fence.wide m P Q a w :=
  region_all (ro := none) (fun w' => ∃ n : Ext w, w' = n.v) hm hB ⟨⟨w.drew, drew_below w⟩, rfl⟩ h
/-- A block of cells of our own. -/
def Bk (W : World) (b : Nat) (t : TypeId) (vs : Array Value) : Prop := W.heap[b]? = some (.cells vs t (0, 0))
theorem Bk.lt {W : World} {b : Nat} {t : TypeId} {vs : Array Value} (h : Bk W b t vs) : b < W.heap.size := (Array.getElem?_eq_some_iff.1 h).1
theorem Bk.cell {W : World} {b : Nat} {t : TypeId} {vs : Array Value} (h : Bk W b t vs) (k : Nat) (v : Value) (hv : vs[k]? = some v) : W.cell? ⟨b, k, none⟩ = some v := by
  simp [World.cell?, show W.heap[b]? = _ from h, hv]
theorem Bk.fz {W : World} {b : Nat} {t : TypeId} {vs : Array Value} (h : Bk W b t vs) (k : Nat) : W.frozen? ⟨b, k, none⟩ = false := by
  simp [World.frozen?, show W.heap[b]? = _ from h]
theorem Bk.kept {F : Nat → Prop} {W W' : World} {b : Nat} {t : TypeId} {vs : Array Value} (h : Bk W b t vs) (k : Kept F W W') (hF : ¬ F b) : Bk W' b t vs := kept_at k h hF
theorem Bk.below {W W' : World} {b : Nat} {t : TypeId} {vs : Array Value} (h : Bk W b t vs) (k : Below W.heap.size W W') : Bk W' b t vs := (k.block b h.lt).trans h
theorem Bk.set {W : World} {b : Nat} {t : TypeId} {vs : Array Value} (h : Bk W b t vs) (k : Nat) (v : Value) : Bk (W.setCell ⟨b, k, none⟩ v) b t (vs.setIfInBounds k v) := by
  obtain ⟨hlt, hk⟩ := Array.getElem?_eq_some_iff.1 h
  show (W.heap.modify b _)[b]? = _
  rw [Array.getElem?_eq_getElem (by rw [Array.size_modify]; exact hlt), Array.getElem_modify_self, hk]
  rfl
theorem Bk.other {W : World} {b b' : Nat} {t : TypeId} {vs : Array Value} (h : Bk W b t vs) (hne : b ≠ b') (k : Nat) (v : Value) : Bk (W.setCell ⟨b', k, none⟩ v) b t vs := (Below.heap_setCell _ _ _ _ hne).trans h
theorem results_c {fn : Func} {p : Tmp} {ty : TypeId} (h : fn.results = #[.cell p ty]) (tmps : Array Value) (w : World) (a : Addr) (v : Value) (ha : tmps.getD p undef = .pointer (some a)) (hv : (loadVar ty a).run Try.prog w = .ok v w) :
    (results fn tmps).run Try.prog w = .ok v w := by
  have hp' : tmps[p]?.getD undef = .pointer (some a) := by simpa using ha
  simp [results, h, hp', asAddr, hv]
end Go.Proofs.Ytnhllnepnpmegaa
