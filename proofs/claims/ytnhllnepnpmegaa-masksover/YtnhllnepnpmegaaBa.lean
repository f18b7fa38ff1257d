/- What was kept, ranges over iterators, maps as functions: the ground of stage 11's texts. -/
import Derived.Test.YtnhllnepnpmegaaRows
import Derived.WalkKit
import Derived.ProofKit
import Derived.OpenShut
import Derived.Carry
import Derived.ChangeSlices
import Derived.WalkLawsBesides
import Derived.Shelf.Abstract
import Derived.Deep.QuietTactic
import Derived.BigQuiet
import Derived.Outline
import Derived.Deep.RegionHeld3
import Derived.StillTailTactics
import Derived.Maps.AppendAt
import Derived.RangeFuncNested
import Derived.RangeFuncBound
import Derived.RangeFuncCalls
import Derived.RangeFuncLeaves
import Derived.Shelf.RegionOpen
import Derived.OwnWalkIn
import Derived.TacticsInMore
import Derived.LoopNIn
import Derived.LoopIn
import Derived.Maps.RangeWalk
import Derived.Deep.CutRange
namespace Go.Proofs.Ytnhllnepnpmegaa
open Go.ChangeShapes Go.WideShapes Go.ChangeAt Go.RowKit Go.Shelf Go.Maps
set_option linter.unusedVariables false
set_option linter.unusedSimpArgs false

theorem hide {p : Prop} (h : p) : Hid p := h

/-- Nothing old has turned but blocks of F. -/
structure Kept (F : Nat → Prop) (w w' : World) : Prop where
  os : w'.os = w.os
  tape : w'.tape = w.tape
  output : w'.output = w.output
  size : w.heap.size ≤ w'.heap.size
  block : ∀ b, b < w.heap.size → ¬ F b → w'.heap[b]? = w.heap[b]?
theorem Kept.refl (F : Nat → Prop) (w : World) : Kept F w w := ⟨rfl, rfl, rfl, Nat.le_refl _, fun _ _ _ => rfl⟩
theorem Kept.of_below {F : Nat → Prop} {w w' : World} (h : Below w.heap.size w w') : Kept F w w' := ⟨h.os, h.tape, h.output, h.size, fun b hb _ => h.block b hb⟩
theorem Kept.of_grown {F : Nat → Prop} {w w' : World} {row : Option Nat} (h : w.grownBy w' row) (hr : ∀ k, row = some k → F k) : Kept F w w' :=
  ⟨h.os, h.tape, h.output, h.size, fun b hb hf => h.block b hb (fun e => hf (hr b e.symm))⟩
theorem Kept.below {F : Nat → Prop} {w w' : World} (h : Kept F w w') {B : Nat} (hB : B ≤ w.heap.size) (hF : ∀ b, F b → B ≤ b) : Below B w w' :=
  ⟨h.os, h.tape, h.output, h.size, fun k hk => h.block k (by omega) fun hf => by have := hF k hf; omega⟩
theorem Kept.trans {F G : Nat → Prop} {a b c : World} (h : Kept F a b) (k : Kept G b c) (hg : ∀ x, x < a.heap.size → G x → F x) : Kept F a c :=
  ⟨k.os.trans h.os, k.tape.trans h.tape, k.output.trans h.output, Nat.le_trans h.size k.size, fun x hx hn => by
    rw [k.block x (Nat.lt_of_lt_of_le hx h.size) (fun z => hn (hg x hx z))]
    exact h.block x hx hn⟩
theorem Kept.mono {F G : Nat → Prop} {a b : World} (h : Kept F a b) (hg : ∀ x, F x → G x) : Kept G a b := ⟨h.os, h.tape, h.output, h.size, fun x hx hf => h.block x hx fun hh => hf (hg x hh)⟩
theorem Kept.put {F : Nat → Prop} (w : World) (l : Nat) (o : Obj) (h : F l) : Kept F w (w.putObj l o) := Kept.of_grown (grownBy_putObj' w l o) (fun k e => by cases e; exact h)
theorem kept_set {F : Nat → Prop} (w : World) (b k : Nat) (v : Value) (h : F b) : Kept F w (w.setCell ⟨b, k, none⟩ v) :=
  ⟨rfl, rfl, rfl, by simp, fun x _ hn => Below.heap_setCell _ _ _ _ (fun e => hn (by simp at e; exact e ▸ h))⟩
theorem kept_at {F : Nat → Prop} {A A' : World} (h : Kept F A A') {k : Nat} {o : Obj} (hk : A.heap[k]? = some o) (hF : ¬ F k) : A'.heap[k]? = some o := (h.block k (Array.getElem?_eq_some_iff.1 hk).1 hF).trans hk
theorem cell_block {w w' : World} {b : Nat} (h : w'.heap[b]? = w.heap[b]?) (k : Nat) : w'.cell? ⟨b, k, none⟩ = w.cell? ⟨b, k, none⟩ := by simp [World.cell?, h]

theorem still_tail {P : Program} {id : Nat} {Q : Exit → Act → World → Prop} {a : Act} {w : World} {l : List Oper} (n : Nat) (hm : P.follows .mixedOrders = true) (hB : Region.lexTailB .any l.toArray n = true)
    (h : wpStill P l.toArray w.drew (fun a' => wpList P l.toArray Q (l.drop n) a' w.drew) (l.take n) a) : (Code.region id l.toArray true).wp P Q a w := wp_region_still_tail n hm hB h
theorem still_all {P : Program} {id : Nat} {Q : Exit → Act → World → Prop} {a : Act} {w : World} {l : List Oper} (hm : P.follows .mixedOrders = true) (hB : Region.lexB .any l.toArray = true)
    (h : wpStill P l.toArray w.drew (fun a' => Q .normal a' w.drew) l a) : (Code.region id l.toArray true).wp P Q a w := wp_region_still_lit hm hB h
theorem drew_below (w : World) : Below w.heap.size w w.drew := (Below.refl _ _).drew


theorem fz_block {w w' : World} {x k : Nat} (h : w'.heap[x]? = w.heap[x]?) : w'.frozen? ⟨x, k, none⟩ = w.frozen? ⟨x, k, none⟩ := by simp [World.frozen?, h]

/-- Of block b nothing has turned outside its n cells from ro on. -/
structure Only (b ro n : Nat) (w w' : World) : Prop where
  kept : Kept (fun x => x = b) w w'
  cell : ∀ k, k < ro ∨ ro + n ≤ k → w'.cell? ⟨b, k, none⟩ = w.cell? ⟨b, k, none⟩
  fz : ∀ k, w'.frozen? ⟨b, k, none⟩ = w.frozen? ⟨b, k, none⟩
theorem Only.refl (b ro n : Nat) (w : World) : Only b ro n w w := ⟨Kept.refl _ _, fun _ _ => rfl, fun _ => rfl⟩
theorem Only.of_below {b ro n : Nat} {w w' : World} (h : Below w.heap.size w w') (hb : b < w.heap.size) : Only b ro n w w' := ⟨Kept.of_below h, fun k _ => cell_block (h.block b hb) k, fun k => fz_block (h.block b hb)⟩
theorem Only.trans {b ro n : Nat} {w1 w2 w3 : World} (h : Only b ro n w1 w2) (k : Only b ro n w2 w3) : Only b ro n w1 w3 :=
  ⟨h.kept.trans k.kept (fun _ _ f => f), fun j hj => (k.cell j hj).trans (h.cell j hj), fun j => (k.fz j).trans (h.fz j)⟩
theorem only_set {b ro n : Nat} (w : World) (k : Nat) (v : Value) (h0 : ro ≤ k) (h1 : k < ro + n) : Only b ro n w (w.setCell ⟨b, k, none⟩ v) :=
  ⟨kept_set w b k v rfl, fun j hj => World.cell?_setCell_other w ⟨b, k, none⟩ ⟨b, j, none⟩ v (by intro z; have := congrArg Addr.off z; simp at this; omega), fun j => World.frozen?_setCell w ⟨b, k, none⟩ ⟨b, j, none⟩ v⟩


/-! ### A range over an iterator -/
theorem boxed_block {W W' : World} {B : Nat} {t : TypeId} {v : Value} (h : Boxed W B t v) (hb : W'.heap[B]? = W.heap[B]?) : Boxed W' B t v := hb.trans h
theorem box_lt {w : World} {b : Nat} {t : TypeId} {v : Value} (h : Boxed w b t v) : b < w.heap.size := (Array.getElem?_eq_some_iff.1 h).1
theorem boxed_kept {F : Nat → Prop} {W W' : World} {b : Nat} {t : TypeId} {v : Value} (h : Boxed W b t v) (k : Kept F W W') (hb : ¬ F b) : Boxed W' b t v := boxed_block h (k.block _ (box_lt h) hb)
theorem below_kept {F : Nat → Prop} {N : Nat} {w W W' : World} (h : Below N w W) (k : Kept F W W') (hF : ∀ b, F b → N ≤ b) (hN : N ≤ W.heap.size) : Below N w W' := h.trans (k.below hN hF)
theorem keepsFrom_of {F : Nat → Prop} {B : Nat} {W W' : World} (h : Kept F W W') (hb : ∀ b, B ≤ b → ¬ F b) : KeepsFrom B W W' := ⟨h.size, fun k o hk ho _ => kept_at h ho (hb k hk)⟩
theorem wcall {n m : Nat} {P : Program} {f : FuncId} {args : Array Value} {w : World} {R R' : Ending → World → Prop} (h : Calls P f args w R) (hr : ∀ e w', R e w' → R' e w') :
    Fence.wide.fn f ∧ (Fence.wide.depth.isSome = true → 1 ≤ n) ∧ CallsIn Fence.wide m P f args w R' := ⟨trivial, (fun h => by cases h), (callsIn_wide.2 h).mono hr⟩
theorem wcall2 {m : Nat} {P : Program} {f : FuncId} {args : Array Value} {w : World} {R R' : Ending → World → Prop} (h : Calls P f args w R) (hr : ∀ e w', R e w' → R' e w') :
    Fence.wide.fn f ∧ CallsIn Fence.wide m P f args w R' := ⟨trivial, (callsIn_wide.2 h).mono hr⟩
/-- How an iterator goes that writes nothing: it yields a list's values one by one, as long as it is told to, and as long as what it reads is there. -/
def SeqB {α : Type} (n : Nat) (P : Program) (gf : Nat) (lb : Array Value) (encs : α → Array Value) (Rd : World → Prop) (L : List α) : Prop :=
  ∀ (l : Nat) (J Jx : List α → World → Prop) (W : World), (∀ s A, J s A → Rd A) → (∀ s A A', J s A → Below A.heap.size A A' → J s A') →
    (∀ pre x W1, pre ++ [x] <+: L → J pre W1 → YieldAt Fence.wide (n - 1) P l (encs x) W1 fun e W' =>
      (e = .returned (.bool true) ∧ J (pre ++ [x]) W') ∨ (e = .returned (.bool false) ∧ Jx (pre ++ [x]) W')) →
    J [] W →
    CallsIn Fence.wide n P gf (#[.func (.yield l) #[] #[]] ++ lb) W fun e W' => (∃ v, e = .returned v) ∧ (J L W' ∨ (∃ pre x, pre ++ [x] <+: L ∧ Jx (pre ++ [x]) W'))
/-- How the body of a round may be left. -/
def bodyEnd {α : Type} (B : Nat) (I : List α → World → Prop) (Ix : Code → List α → World → Prop) (xs : List α) (W₁ : World) : Exit → Act → World → Prop
  | .normal, _, W' => KeepsFrom B W₁ W' ∧ I xs W'
  | .exit id, _, W' => KeepsFrom B W₁ W' ∧ Ix (.exit id) xs W'
  | .ret, _, W' => KeepsFrom B W₁ W' ∧ Ix .ret xs W'
  | _, _, _ => False
/-- A range over such an iterator: I holds between two rounds, Ix where a round has left the loop. -/
theorem range_law {α : Type} {P : Program} {g : Operand} {ps : Array Tmp} {assign body : Code} {Q : Exit → Act → World → Prop} {a : Act} {w : World} {n : Nat}
    {gf : Nat} {lb : Array Value} (hg : a.eval g = .func (.func gf) #[] lb) (eg : ∀ args w, (callFunc gf args).run P w = .ok (.enter gf args) w)
    {encs : α → Array Value} {Rd : World → Prop} {L : List α} (hseq : SeqB (n - 1) P gf lb encs Rd L) (hps : ∀ x, (encs x).size = ps.size)
    (I : List α → World → Prop) (Ix : Code → List α → World → Prop)
    (hR : ∀ s A, I s A → Rd A)
    (hI : ∀ s A A', I s A → Kept (fun b => b = w.heap.size ∨ b = w.heap.size + 1) A A' → I s A')
    (hIx : ∀ c s A o', Ix c s A → w.heap.size + 1 < A.heap.size → Ix c s (A.putObj (w.heap.size + 1) o')) (h0 : I [] w)
    (hround : ∀ (pre : List α) (x : α) (W : World), (∃ r, W.heap[w.heap.size + 1]? = some (.loop r)) → W.heap[w.heap.size]? = some (.deferred (some [])) → I pre W → pre ++ [x] <+: L →
      assign.wpIn (Fence.wide.inRound (w.heap.size + 1)) (n - 1 - 1) P (Exit.then (fun a₁ W₁ => KeepsFrom w.heap.size W W₁ ∧
        ∀ r, body.wpIn (Fence.wide.inRound (w.heap.size + 1)) (n - 1 - 1) P (bodyEnd w.heap.size I Ix (pre ++ [x]) (W₁.putObj (w.heap.size + 1) (.loop r))) a₁ (W₁.putObj (w.heap.size + 1) (.loop r))) (fun _ _ _ => False))
        { tmps := (ps.zip (encs x)).foldl (fun t (p, v) => t.setIfInBounds p v) a.tmps, defers := [] } W)
    (hdone : ∀ (W : World), I L W → W.heap[w.heap.size]? = some (.deferred (some [])) → Q .normal { a with defers := { target := .collected w.heap.size, args := #[] } :: a.defers } W)
    (hstop : ∀ (c : Code) (pre : List α) (x : α) (W : World), pre ++ [x] <+: L → Ix c (pre ++ [x]) W → W.heap[w.heap.size]? = some (.deferred (some [])) → c.wpIn Fence.wide n P Q { a with defers := { target := .collected w.heap.size, args := #[] } :: a.defers } W) :
    (Code.rangeFunc g ps assign body).wpIn Fence.wide n P Q a w := by
  refine wpIn_rangeFunc fun fn hfn => ?_
  generalize hrec : (fun st pe => ({ state := st, pending := pe, fn, tmps := a.tmps, params := ps, assign, body, defers := w.heap.size } : Loop)) = rec
  obtain ⟨W1, hW1⟩ : ∃ W1, (w.alloc (.deferred (some []))).alloc (.loop (rec .ready none)) = W1 := ⟨_, rfl⟩
  have s1 : W1.heap.size = w.heap.size + 2 := by rw [← hW1]; simp
  have hb1 : Below w.heap.size w W1 := by rw [← hW1]; exact ((Below.refl _ w).alloc (Nat.le_refl _) _).alloc (by simp) _
  have hl1 : W1.heap[w.heap.size + 1]? = some (.loop (rec .ready none)) := by
    have := World.alloc_heap_new (w.alloc (.deferred (some []))) (.loop (rec .ready none))
    rw [World.size_alloc, hW1] at this; exact this
  have hd1 : W1.heap[w.heap.size]? = some (.deferred (some [])) := by
    rw [← hW1]; exact (Below.heap_alloc _ _ _ (by simp)).trans (World.alloc_heap_new w _)
  refine ⟨w.heap.size + 1, [{ target := .collected w.heap.size, args := #[] }], W1, { target := .fn (.func gf) lb, args := #[.func (.yield (w.heap.size + 1)) #[] #[]] }, W1, gf, #[.func (.yield (w.heap.size + 1)) #[] #[]] ++ lb, W1, ?_, ?_, fun _ _ => trivial, ?_, (fun h => by cases h), ?_⟩
  · rw [← hW1, ← hrec]; exact run_enterLoop_outer _ _ _ _ _
  · simp only [resolve, hg]; simp [go_sem]
  · simp [invoke, go_sem, eg]
  refine (hseq (w.heap.size + 1)
    (fun pre W => I pre W ∧ W.heap[w.heap.size + 1]? = some (.loop (rec .ready none)) ∧ W.heap[w.heap.size]? = some (.deferred (some [])))
    (fun pre W => ∃ c, Ix c pre W ∧ W.heap[w.heap.size + 1]? = some (.loop (rec .done (some c))) ∧ W.heap[w.heap.size]? = some (.deferred (some [])))
    W1 (fun s A h => hR s A h.1) ?_ ?_ ⟨hI _ _ _ h0 (Kept.of_below hb1), hl1, hd1⟩).mono ?_
  · -- the iterator's own steps
    rintro s A A' ⟨hi, hl, hd⟩ hk
    exact ⟨hI _ _ _ hi (Kept.of_below hk), (hk.block _ (Array.getElem?_eq_some_iff.1 hl).1).trans hl, (hk.block _ (Array.getElem?_eq_some_iff.1 hd).1).trans hd⟩
  · -- a round
    rintro pre x W hlen ⟨hi, hl, hd⟩
    have hlt : w.heap.size + 1 < W.heap.size := (Array.getElem?_eq_some_iff.1 hl).1
    have hy := run_yield (P := P) (args := encs x) hl (by rw [← hrec]; exact hps x)
    rw [← hrec] at hy
    refine ⟨fn, _, assign, body, hy, roundIn_of_wpIn hfn (wpIn_mono (hround pre x W ⟨_, hl⟩ hd hi hlen) ?_)⟩
    rintro e a₁ W₁ hp
    cases e with
    | normal =>
      obtain ⟨hk, hb⟩ := hp
      have hl' := hk.same _ _ (by omega) hl rfl
      have hd' := hk.same _ _ (by omega) hd rfl
      refine ⟨_, run_beginRound hl' (by rw [← hrec]), wpIn_mono (hb _) ?_⟩
      rintro e a₂ W₂ hq
      cases e with
      | normal =>
        obtain ⟨q1, q3⟩ := hq
        have hl2 := q1.same _ _ (by omega) (World.putObj_heap_same (Array.getElem?_eq_some_iff.1 hl').1) rfl
        have hlt2 := (Array.getElem?_eq_some_iff.1 hl2).1
        have hd2 := q1.same _ _ (by omega) ((World.putObj_heap_other (by omega)).trans hd') rfl
        refine ⟨_, _, run_endRound none hl2, .inl ⟨rfl, ⟨hI _ _ _ q3 (Kept.put _ _ _ (.inr rfl)), ?_, ?_⟩⟩⟩
        · rw [World.putObj_heap_same hlt2, ← hrec]; rfl
        · exact (World.putObj_heap_other (by omega)).trans hd2
      | exit id =>
        obtain ⟨q1, q3⟩ := hq
        have hl2 := q1.same _ _ (by omega) (World.putObj_heap_same (Array.getElem?_eq_some_iff.1 hl').1) rfl
        have hlt2 := (Array.getElem?_eq_some_iff.1 hl2).1
        have hd2 := q1.same _ _ (by omega) ((World.putObj_heap_other (by omega)).trans hd') rfl
        refine ⟨_, _, run_endRound (some (.exit id)) hl2, .inr ⟨rfl, .exit id, hIx _ _ _ _ q3 hlt2, ?_, ?_⟩⟩
        · rw [World.putObj_heap_same hlt2, ← hrec]; rfl
        · exact (World.putObj_heap_other (by omega)).trans hd2
      | ret =>
        obtain ⟨q1, q3⟩ := hq
        have hl2 := q1.same _ _ (by omega) (World.putObj_heap_same (Array.getElem?_eq_some_iff.1 hl').1) rfl
        have hlt2 := (Array.getElem?_eq_some_iff.1 hl2).1
        have hd2 := q1.same _ _ (by omega) ((World.putObj_heap_other (by omega)).trans hd') rfl
        refine ⟨_, _, run_endRound (some .ret) hl2, .inr ⟨rfl, .ret, hIx _ _ _ _ q3 hlt2, ?_, ?_⟩⟩
        · rw [World.putObj_heap_same hlt2, ← hrec]; rfl
        · exact (World.putObj_heap_other (by omega)).trans hd2
      | goto t => exact hq.elim
      | panic ch => exact hq.elim
      | outgrown => exact hq.elim
    | ret => exact hp.elim
    | exit id => exact hp.elim
    | goto t => exact hp.elim
    | panic ch => exact hp.elim
    | outgrown => exact hp.elim
  · -- behind the loop
    rintro e W2 ⟨⟨v, rfl⟩, (⟨hi, hl, hd⟩ | ⟨pre, x, hSp, c, hi, hl, hd⟩)⟩
    · have he := run_endLoop (P := P) hl (by rw [← hrec]; simp)
      refine ⟨none, _, by rw [← hrec] at he; exact he, hdone _ (hI _ _ _ hi (Kept.put _ _ _ (.inr rfl))) ((World.putObj_heap_other (by omega)).trans hd)⟩
    · have he := run_endLoop (P := P) hl (by rw [← hrec]; simp)
      refine ⟨some c, _, by rw [← hrec] at he; exact he, hstop c pre x _ hSp (hIx _ _ _ _ hi (Array.getElem?_eq_some_iff.1 hl).1) ((World.putObj_heap_other (by omega)).trans hd)⟩


/-- A call in a round. -/
theorem wcall_r {m r : Nat} {P : Program} {f : FuncId} {args : Array Value} {w : World} {R R' : Ending → World → Prop} (h : Calls P f args w R) (hr : ∀ e w', R e w' → R' e w') :
    Fence.wide.fn f ∧ CallsIn (Fence.wide.inRound r) m P f args w R' := ⟨trivial, ((callsIn_wide.2 h).mono hr).inRound r⟩
/-- Two blocks are as they were. -/
def Two (S : Nat) (W W' : World) : Prop := ∀ k, k = S ∨ k = S + 1 → ∀ o, W.heap[k]? = some o → W'.heap[k]? = some o
theorem Two.refl (S : Nat) (W : World) : Two S W W := fun _ _ _ h => h
theorem Two.trans {S : Nat} {X Y Z : World} (h : Two S X Y) (k : Two S Y Z) : Two S X Z := fun i hi o ho => k i hi o (h i hi o ho)
theorem Two.kept {F : Nat → Prop} {S : Nat} {W W' : World} (k : Kept F W W') (h0 : ¬ F S) (h1 : ¬ F (S + 1)) : Two S W W' := fun i hi o ho => kept_at k ho (by rcases hi with rfl | rfl <;> assumption)
/-- How the body of a round is left. -/
def endT {α : Type} (S : Nat) (I : List α → World → Prop) (xs : List α) (W₁ : World) : Exit → Act → World → Prop
  | .normal, _, W' => Two S W₁ W' ∧ I xs W'
  | _, _, _ => False
theorem range_two {α : Type} {P : Program} {g : Operand} {ps : Array Tmp} {assign body : Code} {Q : Exit → Act → World → Prop} {a : Act} {w : World} {n : Nat}
    {gf : Nat} {lb : Array Value} (hg : a.eval g = .func (.func gf) #[] lb) (eg : ∀ args w, (callFunc gf args).run P w = .ok (.enter gf args) w)
    {encs : α → Array Value} {Rd : World → Prop} {L : List α} (hseq : SeqB (n - 1) P gf lb encs Rd L) (hps : ∀ x, (encs x).size = ps.size)
    (I : List α → World → Prop)
    (hR : ∀ s A, I s A → Rd A)
    (hI : ∀ s A A', I s A → Kept (fun b => b = w.heap.size ∨ b = w.heap.size + 1) A A' → I s A') (h0 : I [] w)
    (hround : ∀ (pre : List α) (x : α) (W : World), (∃ r, W.heap[w.heap.size + 1]? = some (.loop r)) → W.heap[w.heap.size]? = some (.deferred (some [])) → I pre W → pre ++ [x] <+: L →
      assign.wpIn (Fence.wide.inRound (w.heap.size + 1)) (n - 1 - 1) P (Exit.then (fun a₁ W₁ => Two w.heap.size W W₁ ∧
        ∀ r, body.wpIn (Fence.wide.inRound (w.heap.size + 1)) (n - 1 - 1) P (endT w.heap.size I (pre ++ [x]) (W₁.putObj (w.heap.size + 1) (.loop r))) a₁ (W₁.putObj (w.heap.size + 1) (.loop r))) (fun _ _ _ => False))
        { tmps := (ps.zip (encs x)).foldl (fun t (p, v) => t.setIfInBounds p v) a.tmps, defers := [] } W)
    (hdone : ∀ (W : World), I L W → W.heap[w.heap.size]? = some (.deferred (some [])) → Q .normal { a with defers := { target := .collected w.heap.size, args := #[] } :: a.defers } W) :
    (Code.rangeFunc g ps assign body).wpIn Fence.wide n P Q a w := by
  refine wpIn_rangeFunc fun fn hfn => ?_
  generalize hrec : (fun st pe => ({ state := st, pending := pe, fn, tmps := a.tmps, params := ps, assign, body, defers := w.heap.size } : Loop)) = rec
  obtain ⟨W1, hW1⟩ : ∃ W1, (w.alloc (.deferred (some []))).alloc (.loop (rec .ready none)) = W1 := ⟨_, rfl⟩
  have hb1 : Below w.heap.size w W1 := by rw [← hW1]; exact ((Below.refl _ w).alloc (Nat.le_refl _) _).alloc (by simp) _
  have hl1 : W1.heap[w.heap.size + 1]? = some (.loop (rec .ready none)) := by
    have := World.alloc_heap_new (w.alloc (.deferred (some []))) (.loop (rec .ready none))
    rw [World.size_alloc, hW1] at this; exact this
  have hd1 : W1.heap[w.heap.size]? = some (.deferred (some [])) := by
    rw [← hW1]; exact (Below.heap_alloc _ _ _ (by simp)).trans (World.alloc_heap_new w _)
  refine ⟨w.heap.size + 1, [{ target := .collected w.heap.size, args := #[] }], W1, { target := .fn (.func gf) lb, args := #[.func (.yield (w.heap.size + 1)) #[] #[]] }, W1, gf, #[.func (.yield (w.heap.size + 1)) #[] #[]] ++ lb, W1, ?_, ?_, fun _ _ => trivial, ?_, (fun h => by cases h), ?_⟩
  · rw [← hW1, ← hrec]; exact run_enterLoop_outer _ _ _ _ _
  · simp only [resolve, hg]; simp [go_sem]
  · simp [invoke, go_sem, eg]
  refine (hseq (w.heap.size + 1)
    (fun pre W => I pre W ∧ W.heap[w.heap.size + 1]? = some (.loop (rec .ready none)) ∧ W.heap[w.heap.size]? = some (.deferred (some [])))
    (fun pre W => False)
    W1 (fun s A h => hR s A h.1) ?_ ?_ ⟨hI _ _ _ h0 (Kept.of_below hb1), hl1, hd1⟩).mono ?_
  · rintro s A A' ⟨hi, hl, hd⟩ hk
    exact ⟨hI _ _ _ hi (Kept.of_below hk), (hk.block _ (Array.getElem?_eq_some_iff.1 hl).1).trans hl, (hk.block _ (Array.getElem?_eq_some_iff.1 hd).1).trans hd⟩
  · rintro pre x W hlen ⟨hi, hl, hd⟩
    have hy := run_yield (P := P) (args := encs x) hl (by rw [← hrec]; exact hps x)
    rw [← hrec] at hy
    refine ⟨fn, _, assign, body, hy, roundIn_of_wpIn hfn (wpIn_mono (hround pre x W ⟨_, hl⟩ hd hi hlen) ?_)⟩
    rintro e a₁ W₁ hp
    cases e with
    | normal =>
      obtain ⟨hk, hb⟩ := hp
      have hl' := hk _ (.inr rfl) _ hl
      have hd' := hk _ (.inl rfl) _ hd
      refine ⟨_, run_beginRound hl' (by rw [← hrec]), wpIn_mono (hb _) ?_⟩
      rintro e a₂ W₂ hq
      cases e with
      | normal =>
        obtain ⟨q1, q3⟩ := hq
        have hl2 := q1 _ (.inr rfl) _ (World.putObj_heap_same (Array.getElem?_eq_some_iff.1 hl').1)
        have hlt2 := (Array.getElem?_eq_some_iff.1 hl2).1
        have hd2 := q1 _ (.inl rfl) _ ((World.putObj_heap_other (by omega)).trans hd')
        refine ⟨_, _, run_endRound none hl2, .inl ⟨rfl, ⟨hI _ _ _ q3 (Kept.put _ _ _ (.inr rfl)), ?_, ?_⟩⟩⟩
        · rw [World.putObj_heap_same hlt2, ← hrec]; rfl
        · exact (World.putObj_heap_other (by omega)).trans hd2
      | ret => exact hq.elim
      | exit id => exact hq.elim
      | goto t => exact hq.elim
      | panic ch => exact hq.elim
      | outgrown => exact hq.elim
    | ret => exact hp.elim
    | exit id => exact hp.elim
    | goto t => exact hp.elim
    | panic ch => exact hp.elim
    | outgrown => exact hp.elim
  · rintro e W2 ⟨⟨v, rfl⟩, (⟨hi, hl, hd⟩ | ⟨pre, x, hSp, hx⟩)⟩
    · have he := run_endLoop (P := P) hl (by rw [← hrec]; simp)
      refine ⟨none, _, by rw [← hrec] at he; exact he, hdone _ (hI _ _ _ hi (Kept.put _ _ _ (.inr rfl))) ((World.putObj_heap_other (by omega)).trans hd)⟩
    · exact hx.elim

theorem keyU : Keyed Try.prog 31 := int_keyed Try.underlying31
def key (p : Nat) : Lit := .int .u64 (p : Int)
theorem key_of (p : Nat) (h : p < 18446744073709551616) : keyOf Try.prog 31 (.int .u64 (p : Int)) = some (key p) := keyOf_int_mk Try.underlying31 (WalkArith.wf_u64 (by omega))
theorem key_inj {p q : Nat} (h : key p = key q) : p = q := by simp [key] at h; omega
theorem key_lit (p : Nat) : WideAt.IsKeyLit (key p) := trivial

/-! ### How many keys there can be -/
theorem nodup_len : ∀ (B : Nat) (l : List Nat), l.Nodup → (∀ x ∈ l, x < B) → l.length ≤ B
  | 0, l, _, h => by
    cases l with
    | nil => simp
    | cons a l => have := h a (by simp); omega
  | B + 1, l, hn, h => by
    by_cases hb : B ∈ l
    · have e := List.length_erase_of_mem hb
      have := nodup_len B (l.erase B) (hn.erase B) (fun x hx => by
        have h1 := h x (List.mem_of_mem_erase hx)
        have h2 : x ≠ B := fun z => by rw [z] at hx; exact (hn.mem_erase_iff.1 hx).1 rfl
        omega)
      omega
    · have := nodup_len B l hn (fun x hx => by
        have h1 := h x hx
        have h2 : x ≠ B := fun z => hb (z ▸ hx)
        omega)
      omega
theorem mem_ins {H : Type} {x y : Lit × DataW H} : ∀ {l : List (Lit × DataW H)}, x ∈ DataW.insert y l → x = y ∨ x ∈ l
  | [], h => by simp [DataW.insert] at h; exact .inl h
  | z :: r, h => by
    unfold DataW.insert at h
    split at h
    · rcases List.mem_cons.1 h with h | h
      · exact .inl h
      · exact .inr h
    · rcases List.mem_cons.1 h with h | h
      · exact .inr (by rw [h]; exact List.mem_cons_self)
      · rcases mem_ins h with h | h
        · exact .inl h
        · exact .inr (List.mem_cons_of_mem _ h)
/-- All keys are numbers below 2^26. -/
def Keys (D : DataW Unit) : Prop := ∀ es, D = .map es → ∀ x ∈ es, ∃ p, p < 67108864 ∧ x.1 = key p
def numOf : Lit → Nat
  | .int _ a => a.toNat
  | _ => 0
theorem numOf_key (p : Nat) : numOf (key p) = p := by simp [numOf, key]
theorem Keys.size {D : DataW Unit} (h : Keys D) (t : Tidy D) : Maps.size D ≤ 67108864 := by
  obtain ⟨es, rfl, hp⟩ := t
  have hk := h es rfl
  rw [size_eq, ← List.length_map (f := fun x => numOf x.1)]
  refine nodup_len _ _ ?_ ?_
  · refine List.pairwise_map.2 (hp.imp_of_mem fun {x y} hx hy hne e => hne ?_)
    obtain ⟨p, _, e1⟩ := hk x hx
    obtain ⟨q, _, e2⟩ := hk y hy
    rw [e1, e2, numOf_key, numOf_key] at e
    rw [e1, e2, e]
  · intro n hn
    obtain ⟨x, hx, rfl⟩ := List.mem_map.1 hn
    obtain ⟨p, hp, e⟩ := hk x hx
    rw [e, numOf_key]; exact hp
theorem Keys.put {D : DataW Unit} (h : Keys D) (m : IsMap D) {p : Nat} (hp : p < 67108864) (d : DataW Unit) : Keys (D.put (key p) d) := by
  obtain ⟨es, rfl⟩ := m
  rw [DataW.put_eq]
  intro es' e x hx
  injection e with e
  subst e
  rcases mem_ins hx with rfl | hx
  · exact ⟨p, hp, rfl⟩
  · exact h es rfl x (List.mem_filter.1 hx).1
theorem Keys.del {D : DataW Unit} (h : Keys D) (m : IsMap D) (k : Lit) : Keys (D.del k) := by
  obtain ⟨es, rfl⟩ := m
  rw [DataW.del_eq]
  intro es' e x hx
  injection e with e
  subst e
  exact h es rfl x (List.mem_filter.1 hx).1

/-! ### A map as a function -/
structure Enc (α : Type) where
  elem : Value → Option (DataW Unit × List MemPlace)
  dat : α → DataW Unit
  val : α → Value
  zd : DataW Unit
  zv : Value
  mke : ∀ a, elem (val a) = some (dat a, [])
  mkz : elem zv = some (zd, [])
  back : ∀ v a ps, elem v = some (dat a, ps) → v = val a
  backz : ∀ v ps, elem v = some (zd, ps) → v = zv
def valO {α : Type} (E : Enc α) : Option α → Value
  | some a => E.val a
  | none => E.zv
def datO {α : Type} (E : Enc α) : Option α → DataW Unit
  | some a => E.dat a
  | none => E.zd
theorem Enc.backO {α : Type} (E : Enc α) {v : Value} {o : Option α} {ps : List MemPlace} (h : E.elem v = some (datO E o, ps)) : v = valO E o := by
  cases o with
  | none => exact E.backz v ps h
  | some a => exact E.back v a ps h
def MapG {α : Type} (E : Enc α) (w : World) (b : Nat) (M : Nat → Option α) : Prop :=
  ∃ n D, w.ownsMap Try.prog 31 E.elem b n D ∧ n ≤ 67108864 ∧ Keys D ∧ ∀ p, p < 18446744073709551616 → has D (key p) = (M p).isSome ∧ D.atKey (key p) E.zd = datO E (M p)
section
variable {α : Type} {E : Enc α} {w w' : World} {b : Nat} {M : Nat → Option α}
theorem MapG.lt (h : MapG E w b M) : b < w.heap.size := by obtain ⟨n, D, h, _⟩ := h; exact h.lt
theorem MapG.kept (h : MapG E w b M) (hb : w'.heap[b]? = w.heap[b]?) : MapG E w' b M := by
  obtain ⟨n, D, ⟨es, clock, h1, h2⟩, r⟩ := h
  exact ⟨n, D, ⟨es, clock, hb.trans h1, h2⟩, r⟩
theorem MapG.below (h : MapG E w b M) (k : Below w.heap.size w w') : MapG E w' b M := h.kept (k.block b h.lt)
theorem MapG.made (E : Enc α) (w : World) : MapG E (w.alloc (.map #[] 0)) w.heap.size (fun _ => none) :=
  ⟨0, _, World.ownsMap_made w Try.prog 31 E.elem, by decide, (fun es e x hx => by injection e with e; subst e; cases hx), fun _ _ => ⟨rfl, rfl⟩⟩
theorem MapG.looks {t e : TypeId} (h : MapG E w b M) (ht : Try.prog.underlying t = some (.map 31 e)) (hz : (zeroValue e).run Try.prog w = .ok E.zv w) (p : Nat) (hp : p < 18446744073709551616) :
    (Instr.lookup t (.map (some b)) (.int .u64 (p : Int)) true).run Try.prog w = .ok (.tuple #[valO E (M p), .bool (M p).isSome]) w := by
  obtain ⟨n, D, hD, _, _, hM⟩ := h
  obtain ⟨v, ps, hrun, hv⟩ := hD.look_ok keyU ht hz (zd := E.zd) (zp := []) E.mkz (key_of p hp)
  rw [(hM p hp).2] at hv
  rw [hrun, E.backO hv, (hM p hp).1]
theorem MapG.look {t e : TypeId} (h : MapG E w b M) (ht : Try.prog.underlying t = some (.map 31 e)) (hz : (zeroValue e).run Try.prog w = .ok E.zv w) (p : Nat) (hp : p < 18446744073709551616) :
    (Instr.lookup t (.map (some b)) (.int .u64 (p : Int)) false).run Try.prog w = .ok (valO E (M p)) w := by
  obtain ⟨n, D, hD, _, _, hM⟩ := h
  obtain ⟨v, ps, hrun, hv⟩ := hD.lookup keyU ht hz (zd := E.zd) (zp := []) E.mkz (key_of p hp)
  rw [(hM p hp).2] at hv
  rw [hrun, E.backO hv]
/-- m[p] = x. -/
theorem MapG.put {t e : TypeId} (h : MapG E w b M) (ht : Try.prog.underlying t = some (.map 31 e)) (p : Nat) (hp : p < 67108864) (x : α) :
    ∃ w', (Instr.mapUpdate t (.map (some b)) (.int .u64 (p : Int)) (E.val x)).run Try.prog w = .ok () w' ∧ MapG E w' b (fun q => if q = p then some x else M q) ∧ w.grownBy w' (some b) := by
  obtain ⟨n, D, hD, hn, hk, hM⟩ := h
  obtain ⟨w', hrun, h1, h2⟩ := hD.update keyU ht (by unfold maxLen; omega) (key_of p (by omega)) (val := E.val x) (d := E.dat x) (ps := []) (E.mke x)
  have hk' := hk.put hD.isMap hp (E.dat x)
  have hs := hk'.size (h1.tidy keyU)
  refine ⟨w', hrun, ⟨Maps.size (D.put (key p) (E.dat x)), _, ?_, hs, hk', fun q hq => ?_⟩, h2⟩
  · obtain ⟨es, clock, e1, e2, e3, e4⟩ := h1
    refine ⟨es, clock, e1, e2, ?_, e4⟩
    rw [e4, size_eq, length_sorted]
    simp
  · by_cases c : q = p
    · subst c
      simp only [if_true]
      exact ⟨has_put_same hD.isMap (key_lit _) _, atKey_put_same hD.isMap (key_lit _) _ _⟩
    · simp only [if_neg c]
      have hne : key q ≠ key p := fun z => c (key_inj z)
      exact ⟨(has_put_other hne _).trans (hM q hq).1, (atKey_put_other hne _ _).trans (hM q hq).2⟩
/-- delete(m, p). -/
theorem MapG.del {t e : TypeId} (h : MapG E w b M) (ht : Try.prog.underlying t = some (.map 31 e)) (ty : TypeId) (p : Nat) (hp : p < 18446744073709551616) :
    ∃ w', (Builtin.delete_ #[t, 31] ty #[.map (some b), .int .u64 (p : Int)]).run Try.prog w = .ok (.tuple #[]) w' ∧ MapG E w' b (fun q => if q = p then none else M q) ∧ w.grownBy w' (some b) := by
  obtain ⟨n, D, hD, hn, hk, hM⟩ := h
  obtain ⟨w', hrun, h1, h2⟩ := hD.drop keyU ht (key_of p hp) ty
  refine ⟨w', hrun, ⟨n, _, h1, hn, hk.del hD.isMap _, fun q hq => ?_⟩, h2.grown⟩
  by_cases c : q = p
  · subst c
    simp only [if_true]
    exact ⟨has_del_same, atKey_del_same _⟩
  · simp only [if_neg c]
    have hne : key q ≠ key p := fun z => c (key_inj z)
    exact ⟨(has_del_other hne).trans (hM q hq).1, (atKey_del_other hne _).trans (hM q hq).2⟩
end


end Go.Proofs.Ytnhllnepnpmegaa
