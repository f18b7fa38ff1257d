/- A loop over an iterator that keeps a class of its own in memory: how it is walked. -/
import Derived.Test.YtblfefibgoiaaaaDoorPu
import Derived.RangeFuncNested
import Derived.RangeFuncBound
import Derived.RangeFuncCalls
import Derived.RangeFuncLeaves
import Derived.Shelf.Abstract
import Derived.Shelf.RegionOpen
import Derived.OwnWalkIn
import Derived.TacticsInMore
import Derived.LoopNIn
import Derived.LoopIn
import Derived.Maps.AppendAt
namespace Go.Proofs.YtblfefibgoiaaaaDoor
open Go.ChangeShapes Go.WideShapes Go.ChangeAt Go.RowKit Go.Proofs.Cl
set_option linter.unusedVariables false
set_option linter.unusedSimpArgs false

/-- Nothing old has turned but blocks of F. -/
structure Kept (F : Nat → Prop) (w w' : World) : Prop where
  os : w'.os = w.os
  tape : w'.tape = w.tape
  output : w'.output = w.output
  size : w.heap.size ≤ w'.heap.size
  block : ∀ b, b < w.heap.size → ¬ F b → w'.heap[b]? = w.heap[b]?
theorem Kept.refl (F : Nat → Prop) (w : World) : Kept F w w := ⟨rfl, rfl, rfl, Nat.le_refl _, fun _ _ _ => rfl⟩
theorem Kept.of_below {F : Nat → Prop} {w w' : World} (h : Below w.heap.size w w') : Kept F w w' := ⟨h.os, h.tape, h.output, h.size, fun b hb _ => h.block b hb⟩
theorem Kept.of_grown {F : Nat → Prop} {w w' : World} {row : Option Nat} (h : w.grownBy w' row) (hr : ∀ k, row = some k → F k) : Kept F w w' :=
  ⟨h.os, h.tape, h.output, h.size, fun b hb hf => h.block b hb (fun e => hf (hr b e.symm))⟩
theorem Kept.below {F : Nat → Prop} {w w' : World} (h : Kept F w w') {B : Nat} (hB : B ≤ w.heap.size) (hF : ∀ b, F b → B ≤ b) : Below B w w' :=
  ⟨h.os, h.tape, h.output, h.size, fun k hk => h.block k (by omega) fun hf => by have := hF k hf; omega⟩
theorem Kept.trans {F G : Nat → Prop} {a b c : World} (h : Kept F a b) (k : Kept G b c) (hg : ∀ x, x < a.heap.size → G x → F x) : Kept F a c :=
  ⟨k.os.trans h.os, k.tape.trans h.tape, k.output.trans h.output, Nat.le_trans h.size k.size, fun x hx hn => by
    rw [k.block x (Nat.lt_of_lt_of_le hx h.size) (fun z => hn (hg x hx z))]
    exact h.block x hx hn⟩
theorem Kept.mono {F G : Nat → Prop} {a b : World} (h : Kept F a b) (hg : ∀ x, F x → G x) : Kept G a b := ⟨h.os, h.tape, h.output, h.size, fun x hx hf => h.block x hx fun hh => hf (hg x hh)⟩
theorem Kept.put {F : Nat → Prop} (w : World) (l : Nat) (o : Obj) (h : F l) : Kept F w (w.putObj l o) := Kept.of_grown (grownBy_putObj' w l o) (fun k e => by cases e; exact h)

/-- A class of an iterator's own: a block of four cells. -/
def Box4 (w : World) (b : Nat) : Prop := ∃ cs : Array Value, w.heap[b]? = some (.cells cs 54 (0, 0)) ∧ cs.size = 4
/-- What does not hang on classes that lie from B on. -/
def Ab {β : Type} (B : Nat) (J : β → World → Prop) : Prop := ∀ s A A', J s A → Kept (fun b => B ≤ b ∧ Box4 A b) A A' → J s A'
/-- How an iterator goes: it yields a list's values one by one, as long as it is told to. -/
def SeqC {α : Type} (n : Nat) (P : Program) (gf : Nat) (lb : Array Value) (encs : α → Array Value) (Kp : World → World → Prop) (S Sp : List α → Prop) (N : Nat) (w : World) : Prop :=
  ∀ (l : Nat) (J Jx : List α → World → Prop) (W : World), Below w.heap.size w W → Ab W.heap.size J →
    (∀ pre x W1, J pre W1 → pre.length < N → YieldAt Fence.wide (n - 1) P l (encs x) W1 fun e W' =>
      (e = .returned (.bool true) ∧ J (pre ++ [x]) W' ∧ Kp W1 W') ∨ (e = .returned (.bool false) ∧ Jx (pre ++ [x]) W')) →
    J [] W →
    CallsIn Fence.wide n P gf (#[.func (.yield l) #[] #[]] ++ lb) W fun e W' => (∃ v, e = .returned v) ∧ ((∃ xs, S xs ∧ J xs W') ∨ (∃ pre, Sp pre ∧ Jx pre W'))

/-- How the body of a round may be left. -/
def bodyEnd {α : Type} (B : Nat) (Kp : World → World → Prop) (I : List α → World → Prop) (Ix : Code → List α → World → Prop) (xs : List α) (W W₁ : World) : Exit → Act → World → Prop
  | .normal, _, W' => KeepsFrom B W₁ W' ∧ Kp W W' ∧ I xs W'
  | .exit id, _, W' => KeepsFrom B W₁ W' ∧ Ix (.exit id) xs W'
  | _, _, _ => False
theorem kept_at {F : Nat → Prop} {A A' : World} (h : Kept F A A') {k : Nat} {o : Obj} (hk : A.heap[k]? = some o) (hF : ¬ F k) : A'.heap[k]? = some o := (h.block k (Array.getElem?_eq_some_iff.1 hk).1 hF).trans hk
/-- A range over such an iterator: I holds between two rounds, Ix where a round has left the loop. -/
theorem range_law {α : Type} {P : Program} {g : Operand} {ps : Array Tmp} {assign body : Code} {Q : Exit → Act → World → Prop} {a : Act} {w : World} {n : Nat}
    {gf : Nat} {lb : Array Value} (hg : a.eval g = .func (.func gf) #[] lb) (eg : ∀ args w, (callFunc gf args).run P w = .ok (.enter gf args) w)
    {encs : α → Array Value} {Kp : World → World → Prop} {S Sp : List α → Prop} {N : Nat} {w0 : World} (hseq : SeqC (n - 1) P gf lb encs Kp S Sp N w0)
    (hKt : ∀ {A B C : World}, Kp A B → Kp B C → Kp A C) (hKb : ∀ (W : World) (o' : Obj), w.heap.size + 1 < W.heap.size → (∀ r, W.heap[w.heap.size + 1]? = some r → r.isCells = false) → Kp W (W.putObj (w.heap.size + 1) o')) (hb0 : Below w0.heap.size w0 w) (hps : ∀ x, (encs x).size = ps.size)
    (I : List α → World → Prop) (Ix : Code → List α → World → Prop)
    (hI : ∀ s A A', I s A → Kept (fun b => w.heap.size ≤ b ∧ (b < w.heap.size + 2 ∨ Box4 A b)) A A' → I s A')
    (hIx : ∀ c s A o', Ix c s A → w.heap.size + 1 < A.heap.size → Ix c s (A.putObj (w.heap.size + 1) o')) (h0 : I [] w)
    (hround : ∀ (pre : List α) (x : α) (W : World), (∃ r, W.heap[w.heap.size + 1]? = some (.loop r)) → W.heap[w.heap.size]? = some (.deferred (some [])) → I pre W → pre.length < N →
      assign.wpIn (Fence.wide.inRound (w.heap.size + 1)) (n - 1 - 1) P (Exit.then (fun a₁ W₁ => KeepsFrom w.heap.size W W₁ ∧
        ∀ r, body.wpIn (Fence.wide.inRound (w.heap.size + 1)) (n - 1 - 1) P (bodyEnd w.heap.size Kp I Ix (pre ++ [x]) W (W₁.putObj (w.heap.size + 1) (.loop r))) a₁ (W₁.putObj (w.heap.size + 1) (.loop r))) (fun _ _ _ => False))
        { tmps := (ps.zip (encs x)).foldl (fun t (p, v) => t.setIfInBounds p v) a.tmps, defers := [] } W)
    (hdone : ∀ (xs : List α) (W : World), S xs → I xs W → W.heap[w.heap.size]? = some (.deferred (some [])) → Q .normal { a with defers := { target := .collected w.heap.size, args := #[] } :: a.defers } W)
    (hstop : ∀ (c : Code) (pre : List α) (W : World), Sp pre → Ix c pre W → W.heap[w.heap.size]? = some (.deferred (some [])) → c.wpIn Fence.wide n P Q { a with defers := { target := .collected w.heap.size, args := #[] } :: a.defers } W) :
    (Code.rangeFunc g ps assign body).wpIn Fence.wide n P Q a w := by
  refine wpIn_rangeFunc fun fn hfn => ?_
  generalize hrec : (fun st pe => ({ state := st, pending := pe, fn, tmps := a.tmps, params := ps, assign, body, defers := w.heap.size } : Loop)) = rec
  obtain ⟨W1, hW1⟩ : ∃ W1, (w.alloc (.deferred (some []))).alloc (.loop (rec .ready none)) = W1 := ⟨_, rfl⟩
  have s1 : W1.heap.size = w.heap.size + 2 := by rw [← hW1]; simp
  have hb1 : Below w.heap.size w W1 := by rw [← hW1]; exact ((Below.refl _ w).alloc (Nat.le_refl _) _).alloc (by simp) _
  have hl1 : W1.heap[w.heap.size + 1]? = some (.loop (rec .ready none)) := by
    have := World.alloc_heap_new (w.alloc (.deferred (some []))) (.loop (rec .ready none))
    rw [World.size_alloc, hW1] at this; exact this
  have hd1 : W1.heap[w.heap.size]? = some (.deferred (some [])) := by
    rw [← hW1]; exact (Below.heap_alloc _ _ _ (by simp)).trans (World.alloc_heap_new w _)
  refine ⟨w.heap.size + 1, [{ target := .collected w.heap.size, args := #[] }], W1, { target := .fn (.func gf) lb, args := #[.func (.yield (w.heap.size + 1)) #[] #[]] }, W1, gf, #[.func (.yield (w.heap.size + 1)) #[] #[]] ++ lb, W1, ?_, ?_, fun _ _ => trivial, ?_, (fun h => by cases h), ?_⟩
  · rw [← hW1, ← hrec]; exact run_enterLoop_outer _ _ _ _ _
  · simp only [resolve, hg]; simp [go_sem]
  · simp [invoke, go_sem, eg]
  have hf : ∀ (k : Nat) (A : World), k < w.heap.size + 2 → ¬ (W1.heap.size ≤ k ∧ Box4 A k) := fun k A hk h => by omega
  refine (hseq (w.heap.size + 1)
    (fun pre W => I pre W ∧ W.heap[w.heap.size + 1]? = some (.loop (rec .ready none)) ∧ W.heap[w.heap.size]? = some (.deferred (some [])))
    (fun pre W => ∃ c, Ix c pre W ∧ W.heap[w.heap.size + 1]? = some (.loop (rec .done (some c))) ∧ W.heap[w.heap.size]? = some (.deferred (some [])))
    W1 (hb0.trans (hb1.mono hb0.size)) ?_ ?_ ⟨hI _ _ _ h0 (Kept.of_below hb1), hl1, hd1⟩).mono ?_
  · -- the iterator's own steps
    rintro s A A' ⟨hi, hl, hd⟩ hk
    exact ⟨hI _ _ _ hi (hk.mono fun b hb => ⟨by omega, .inr hb.2⟩), kept_at hk hl (hf _ _ (by omega)), kept_at hk hd (hf _ _ (by omega))⟩
  · -- a round
    rintro pre x W ⟨hi, hl, hd⟩ hlen
    have hlt : w.heap.size + 1 < W.heap.size := (Array.getElem?_eq_some_iff.1 hl).1
    have hy := run_yield (P := P) (args := encs x) hl (by rw [← hrec]; exact hps x)
    rw [← hrec] at hy
    refine ⟨fn, _, assign, body, hy, roundIn_of_wpIn hfn (wpIn_mono (hround pre x W ⟨_, hl⟩ hd hi hlen) ?_)⟩
    rintro e a₁ W₁ hp
    cases e with
    | normal =>
      obtain ⟨hk, hb⟩ := hp
      have hl' := hk.same _ _ (by omega) hl rfl
      have hd' := hk.same _ _ (by omega) hd rfl
      refine ⟨_, run_beginRound hl' (by rw [← hrec]), wpIn_mono (hb _) ?_⟩
      rintro e a₂ W₂ hq
      cases e with
      | normal =>
        obtain ⟨q1, q2, q3⟩ := hq
        have hl2 := q1.same _ _ (by omega) (World.putObj_heap_same (Array.getElem?_eq_some_iff.1 hl').1) rfl
        have hlt2 := (Array.getElem?_eq_some_iff.1 hl2).1
        have hd2 := q1.same _ _ (by omega) ((World.putObj_heap_other (by omega)).trans hd') rfl
        refine ⟨_, _, run_endRound none hl2, .inl ⟨rfl, ⟨hI _ _ _ q3 (Kept.put _ _ _ ⟨by omega, .inl (by omega)⟩), ?_, ?_⟩, hKt q2 (hKb _ _ hlt2 (fun r hr => by rw [hl2] at hr; cases hr; rfl))⟩⟩
        · rw [World.putObj_heap_same hlt2, ← hrec]; rfl
        · exact (World.putObj_heap_other (by omega)).trans hd2
      | exit id =>
        obtain ⟨q1, q3⟩ := hq
        have hl2 := q1.same _ _ (by omega) (World.putObj_heap_same (Array.getElem?_eq_some_iff.1 hl').1) rfl
        have hlt2 := (Array.getElem?_eq_some_iff.1 hl2).1
        have hd2 := q1.same _ _ (by omega) ((World.putObj_heap_other (by omega)).trans hd') rfl
        refine ⟨_, _, run_endRound (some (.exit id)) hl2, .inr ⟨rfl, .exit id, hIx _ _ _ _ q3 hlt2, ?_, ?_⟩⟩
        · rw [World.putObj_heap_same hlt2, ← hrec]; rfl
        · exact (World.putObj_heap_other (by omega)).trans hd2
      | ret => exact hq.elim
      | goto t => exact hq.elim
      | panic ch => exact hq.elim
      | outgrown => exact hq.elim
    | ret => exact hp.elim
    | exit id => exact hp.elim
    | goto t => exact hp.elim
    | panic ch => exact hp.elim
    | outgrown => exact hp.elim
  · -- behind the loop
    rintro e W2 ⟨⟨v, rfl⟩, (⟨xs, hS, hi, hl, hd⟩ | ⟨pre, hSp, c, hi, hl, hd⟩)⟩
    · have he := run_endLoop (P := P) hl (by rw [← hrec]; simp)
      refine ⟨none, _, by rw [← hrec] at he; exact he, hdone xs _ hS (hI _ _ _ hi (Kept.put _ _ _ ⟨by omega, .inl (by omega)⟩)) ((World.putObj_heap_other (by omega)).trans hd)⟩
    · have he := run_endLoop (P := P) hl (by rw [← hrec]; simp)
      refine ⟨some c, _, by rw [← hrec] at he; exact he, hstop c pre _ hSp (hIx _ _ _ _ hi (Array.getElem?_eq_some_iff.1 hl).1) ((World.putObj_heap_other (by omega)).trans hd)⟩
end Go.Proofs.YtblfefibgoiaaaaDoor
