/- A row of bits by its bits alone; a loop over an iterator that writes nothing: how it is walked; and clears. -/
import Derived.Test.YtnclicdnncgdiaaDoorRo
namespace Go.Proofs.YtnclicdnncgdiaaDoor
open Go.ChangeShapes Go.WideShapes Go.ChangeAt Go.RowKit Go.Proofs.Bt Go.Shelf
set_option linter.unusedVariables false
set_option linter.unusedSimpArgs false

/-- A row whose bits are f's. -/
def RowF (w : World) (b ro : Nat) (f : Nat → Bool) : Prop := ∃ g, RowAt w b ro g ∧ ∀ i, i < 512 → bitW g i = f i
theorem RowF.lt {w : World} {b ro : Nat} {f : Nat → Bool} (h : RowF w b ro f) : b < w.heap.size := by obtain ⟨g, h, _⟩ := h; exact h.lt
theorem RowF.kept {F : Nat → Prop} {w w' : World} {b ro : Nat} {f : Nat → Bool} (h : RowF w b ro f) (k : Kept F w w') (hF : ¬ F b) : RowF w' b ro f := by obtain ⟨g, h1, h2⟩ := h; exact ⟨g, h1.kept k hF, h2⟩
theorem RowF.below {w w' : World} {b ro : Nat} {f : Nat → Bool} (h : RowF w b ro f) (k : Below w.heap.size w w') : RowF w' b ro f := by obtain ⟨g, h1, h2⟩ := h; exact ⟨g, h1.below k, h2⟩
theorem bitW_upd {up : Nat → Nat → Nat} (g : Nat → Nat) (i n j : Nat) (hj : j < 512) : bitW (upd up g i n 8) j = (up (g (j / 64)) (prt (j / 64) i (i + n))).testBit (j % 64) := by
  unfold bitW upd
  rw [if_pos (by omega)]
def setF (f : Nat → Bool) (i n j : Nat) : Bool := f j || decide (i ≤ j ∧ j < i + n)
def clrF (f : Nat → Bool) (i n j : Nat) : Bool := f j && !decide (i ≤ j ∧ j < i + n)
theorem set_any (b ro : Nat) (f : Nat → Bool) (w : World) (h : RowF w b ro f) (i n : Nat) (hin : i + n ≤ 512) :
    Calls Tryd.prog 45 #[.pointer (some ⟨b, ro, none⟩), .int .i64 (i : Nat), .int .i64 (n : Nat)] w fun e w' => e = .returned (.int .i64 0) ∧ RowF w' b ro (setF f i n) ∧ Only b ro 8 w w' := by
  obtain ⟨g, h1, h2⟩ := h
  refine (set_core b ro g w h1 i n hin).mono ?_
  rintro e w' ⟨rfl, r, k⟩
  refine ⟨rfl, ⟨_, r, fun j hj => ?_⟩, k⟩
  rw [bitW_upd g i n j hj, Nat.testBit_or, prt_bit _ _ _ _ (by omega), show 64 * (j / 64) + j % 64 = j by omega]
  have := h2 j hj
  unfold bitW at this
  unfold setF
  rw [this]
theorem clear_any (b ro : Nat) (f : Nat → Bool) (w : World) (h : RowF w b ro f) (i n : Nat) (hin : i + n ≤ 512) :
    Calls Tryd.prog 83 #[.pointer (some ⟨b, ro, none⟩), .int .i64 (i : Nat), .int .i64 (n : Nat)] w fun e w' => e = .returned (.int .i64 0) ∧ RowF w' b ro (clrF f i n) ∧ Only b ro 8 w w' := by
  obtain ⟨g, h1, h2⟩ := h
  refine (clear_core b ro g w h1 i n hin).mono ?_
  rintro e w' ⟨rfl, r, k⟩
  refine ⟨rfl, ⟨_, r, fun j hj => ?_⟩, k⟩
  rw [bitW_upd g i n j hj, andn_bit, prt_bit _ _ _ _ (by omega), show 64 * (j / 64) + j % 64 = j by omega]
  have := h2 j hj
  unfold bitW at this
  unfold clrF
  rw [this]
theorem count_any (b ro : Nat) (f : Nat → Bool) (w : World) (h : RowF w b ro f) (i n : Nat) (hin : i + n ≤ 512) :
    Calls Tryd.prog 70 #[.pointer (some ⟨b, ro, none⟩), .int .i64 (i : Nat), .int .i64 (n : Nat)] w fun e w' => e = .returned (.int .i64 (cnt f i n : Nat)) ∧ Below w.heap.size w w' := by
  obtain ⟨g, h1, h2⟩ := h
  rw [cnt_congr (f := f) (g := bitW g) (i := i) (j := i) (n := n) (fun k hk => (h2 _ (by omega)).symm)]
  exact count_core b ro g w h1 i n hin
/-! ### A range over an iterator -/
theorem boxed_block {W W' : World} {B : Nat} {t : TypeId} {v : Value} (h : Boxed W B t v) (hb : W'.heap[B]? = W.heap[B]?) : Boxed W' B t v := hb.trans h
theorem box_lt {w : World} {b : Nat} {t : TypeId} {v : Value} (h : Boxed w b t v) : b < w.heap.size := (Array.getElem?_eq_some_iff.1 h).1
theorem boxed_kept {F : Nat → Prop} {W W' : World} {b : Nat} {t : TypeId} {v : Value} (h : Boxed W b t v) (k : Kept F W W') (hb : ¬ F b) : Boxed W' b t v := boxed_block h (k.block _ (box_lt h) hb)
theorem below_kept {F : Nat → Prop} {N : Nat} {w W W' : World} (h : Below N w W) (k : Kept F W W') (hF : ∀ b, F b → N ≤ b) (hN : N ≤ W.heap.size) : Below N w W' := h.trans (k.below hN hF)
theorem keepsFrom_of {F : Nat → Prop} {B : Nat} {W W' : World} (h : Kept F W W') (hb : ∀ b, B ≤ b → ¬ F b) : KeepsFrom B W W' := ⟨h.size, fun k o hk ho _ => kept_at h ho (hb k hk)⟩
theorem wcall {n m : Nat} {P : Program} {f : FuncId} {args : Array Value} {w : World} {R R' : Ending → World → Prop} (h : Calls P f args w R) (hr : ∀ e w', R e w' → R' e w') :
    Fence.wide.fn f ∧ (Fence.wide.depth.isSome = true → 1 ≤ n) ∧ CallsIn Fence.wide m P f args w R' := ⟨trivial, (fun h => by cases h), (callsIn_wide.2 h).mono hr⟩
theorem wcall2 {m : Nat} {P : Program} {f : FuncId} {args : Array Value} {w : World} {R R' : Ending → World → Prop} (h : Calls P f args w R) (hr : ∀ e w', R e w' → R' e w') :
    Fence.wide.fn f ∧ CallsIn Fence.wide m P f args w R' := ⟨trivial, (callsIn_wide.2 h).mono hr⟩
/-- How an iterator goes that writes nothing: it yields a list's values one by one, as long as it is told to, and as long as what it reads is there. -/
def SeqB {α : Type} (n : Nat) (P : Program) (gf : Nat) (lb : Array Value) (encs : α → Array Value) (Rd : World → Prop) (L : List α) : Prop :=
  ∀ (l : Nat) (J Jx : List α → World → Prop) (W : World), (∀ s A, J s A → Rd A) → (∀ s A A', J s A → Below A.heap.size A A' → J s A') →
    (∀ pre x W1, pre ++ [x] <+: L → J pre W1 → YieldAt Fence.wide (n - 1) P l (encs x) W1 fun e W' =>
      (e = .returned (.bool true) ∧ J (pre ++ [x]) W') ∨ (e = .returned (.bool false) ∧ Jx (pre ++ [x]) W')) →
    J [] W →
    CallsIn Fence.wide n P gf (#[.func (.yield l) #[] #[]] ++ lb) W fun e W' => (∃ v, e = .returned v) ∧ (J L W' ∨ (∃ pre x, pre ++ [x] <+: L ∧ Jx (pre ++ [x]) W'))
/-- How the body of a round may be left. -/
def bodyEnd {α : Type} (B : Nat) (I : List α → World → Prop) (Ix : Code → List α → World → Prop) (xs : List α) (W₁ : World) : Exit → Act → World → Prop
  | .normal, _, W' => KeepsFrom B W₁ W' ∧ I xs W'
  | .exit id, _, W' => KeepsFrom B W₁ W' ∧ Ix (.exit id) xs W'
  | .ret, _, W' => KeepsFrom B W₁ W' ∧ Ix .ret xs W'
  | _, _, _ => False
/-- A range over such an iterator: I holds between two rounds, Ix where a round has left the loop. -/
theorem range_law {α : Type} {P : Program} {g : Operand} {ps : Array Tmp} {assign body : Code} {Q : Exit → Act → World → Prop} {a : Act} {w : World} {n : Nat}
    {gf : Nat} {lb : Array Value} (hg : a.eval g = .func (.func gf) #[] lb) (eg : ∀ args w, (callFunc gf args).run P w = .ok (.enter gf args) w)
    {encs : α → Array Value} {Rd : World → Prop} {L : List α} (hseq : SeqB (n - 1) P gf lb encs Rd L) (hps : ∀ x, (encs x).size = ps.size)
    (I : List α → World → Prop) (Ix : Code → List α → World → Prop)
    (hR : ∀ s A, I s A → Rd A)
    (hI : ∀ s A A', I s A → Kept (fun b => b = w.heap.size ∨ b = w.heap.size + 1) A A' → I s A')
    (hIx : ∀ c s A o', Ix c s A → w.heap.size + 1 < A.heap.size → Ix c s (A.putObj (w.heap.size + 1) o')) (h0 : I [] w)
    (hround : ∀ (pre : List α) (x : α) (W : World), (∃ r, W.heap[w.heap.size + 1]? = some (.loop r)) → W.heap[w.heap.size]? = some (.deferred (some [])) → I pre W → pre ++ [x] <+: L →
      assign.wpIn (Fence.wide.inRound (w.heap.size + 1)) (n - 1 - 1) P (Exit.then (fun a₁ W₁ => KeepsFrom w.heap.size W W₁ ∧
        ∀ r, body.wpIn (Fence.wide.inRound (w.heap.size + 1)) (n - 1 - 1) P (bodyEnd w.heap.size I Ix (pre ++ [x]) (W₁.putObj (w.heap.size + 1) (.loop r))) a₁ (W₁.putObj (w.heap.size + 1) (.loop r))) (fun _ _ _ => False))
        { tmps := (ps.zip (encs x)).foldl (fun t (p, v) => t.setIfInBounds p v) a.tmps, defers := [] } W)
    (hdone : ∀ (W : World), I L W → W.heap[w.heap.size]? = some (.deferred (some [])) → Q .normal { a with defers := { target := .collected w.heap.size, args := #[] } :: a.defers } W)
    (hstop : ∀ (c : Code) (pre : List α) (x : α) (W : World), pre ++ [x] <+: L → Ix c (pre ++ [x]) W → W.heap[w.heap.size]? = some (.deferred (some [])) → c.wpIn Fence.wide n P Q { a with defers := { target := .collected w.heap.size, args := #[] } :: a.defers } W) :
    (Code.rangeFunc g ps assign body).wpIn Fence.wide n P Q a w := by
  refine wpIn_rangeFunc fun fn hfn => ?_
  generalize hrec : (fun st pe => ({ state := st, pending := pe, fn, tmps := a.tmps, params := ps, assign, body, defers := w.heap.size } : Loop)) = rec
  obtain ⟨W1, hW1⟩ : ∃ W1, (w.alloc (.deferred (some []))).alloc (.loop (rec .ready none)) = W1 := ⟨_, rfl⟩
  have s1 : W1.heap.size = w.heap.size + 2 := by rw [← hW1]; simp
  have hb1 : Below w.heap.size w W1 := by rw [← hW1]; exact ((Below.refl _ w).alloc (Nat.le_refl _) _).alloc (by simp) _
  have hl1 : W1.heap[w.heap.size + 1]? = some (.loop (rec .ready none)) := by
    have := World.alloc_heap_new (w.alloc (.deferred (some []))) (.loop (rec .ready none))
    rw [World.size_alloc, hW1] at this; exact this
  have hd1 : W1.heap[w.heap.size]? = some (.deferred (some [])) := by
    rw [← hW1]; exact (Below.heap_alloc _ _ _ (by simp)).trans (World.alloc_heap_new w _)
  refine ⟨w.heap.size + 1, [{ target := .collected w.heap.size, args := #[] }], W1, { target := .fn (.func gf) lb, args := #[.func (.yield (w.heap.size + 1)) #[] #[]] }, W1, gf, #[.func (.yield (w.heap.size + 1)) #[] #[]] ++ lb, W1, ?_, ?_, fun _ _ => trivial, ?_, (fun h => by cases h), ?_⟩
  · rw [← hW1, ← hrec]; exact run_enterLoop_outer _ _ _ _ _
  · simp only [resolve, hg]; simp [go_sem]
  · simp [invoke, go_sem, eg]
  refine (hseq (w.heap.size + 1)
    (fun pre W => I pre W ∧ W.heap[w.heap.size + 1]? = some (.loop (rec .ready none)) ∧ W.heap[w.heap.size]? = some (.deferred (some [])))
    (fun pre W => ∃ c, Ix c pre W ∧ W.heap[w.heap.size + 1]? = some (.loop (rec .done (some c))) ∧ W.heap[w.heap.size]? = some (.deferred (some [])))
    W1 (fun s A h => hR s A h.1) ?_ ?_ ⟨hI _ _ _ h0 (Kept.of_below hb1), hl1, hd1⟩).mono ?_
  · -- the iterator's own steps
    rintro s A A' ⟨hi, hl, hd⟩ hk
    exact ⟨hI _ _ _ hi (Kept.of_below hk), (hk.block _ (Array.getElem?_eq_some_iff.1 hl).1).trans hl, (hk.block _ (Array.getElem?_eq_some_iff.1 hd).1).trans hd⟩
  · -- a round
    rintro pre x W hlen ⟨hi, hl, hd⟩
    have hlt : w.heap.size + 1 < W.heap.size := (Array.getElem?_eq_some_iff.1 hl).1
    have hy := run_yield (P := P) (args := encs x) hl (by rw [← hrec]; exact hps x)
    rw [← hrec] at hy
    refine ⟨fn, _, assign, body, hy, roundIn_of_wpIn hfn (wpIn_mono (hround pre x W ⟨_, hl⟩ hd hi hlen) ?_)⟩
    rintro e a₁ W₁ hp
    cases e with
    | normal =>
      obtain ⟨hk, hb⟩ := hp
      have hl' := hk.same _ _ (by omega) hl rfl
      have hd' := hk.same _ _ (by omega) hd rfl
      refine ⟨_, run_beginRound hl' (by rw [← hrec]), wpIn_mono (hb _) ?_⟩
      rintro e a₂ W₂ hq
      cases e with
      | normal =>
        obtain ⟨q1, q3⟩ := hq
        have hl2 := q1.same _ _ (by omega) (World.putObj_heap_same (Array.getElem?_eq_some_iff.1 hl').1) rfl
        have hlt2 := (Array.getElem?_eq_some_iff.1 hl2).1
        have hd2 := q1.same _ _ (by omega) ((World.putObj_heap_other (by omega)).trans hd') rfl
        refine ⟨_, _, run_endRound none hl2, .inl ⟨rfl, ⟨hI _ _ _ q3 (Kept.put _ _ _ (.inr rfl)), ?_, ?_⟩⟩⟩
        · rw [World.putObj_heap_same hlt2, ← hrec]; rfl
        · exact (World.putObj_heap_other (by omega)).trans hd2
      | exit id =>
        obtain ⟨q1, q3⟩ := hq
        have hl2 := q1.same _ _ (by omega) (World.putObj_heap_same (Array.getElem?_eq_some_iff.1 hl').1) rfl
        have hlt2 := (Array.getElem?_eq_some_iff.1 hl2).1
        have hd2 := q1.same _ _ (by omega) ((World.putObj_heap_other (by omega)).trans hd') rfl
        refine ⟨_, _, run_endRound (some (.exit id)) hl2, .inr ⟨rfl, .exit id, hIx _ _ _ _ q3 hlt2, ?_, ?_⟩⟩
        · rw [World.putObj_heap_same hlt2, ← hrec]; rfl
        · exact (World.putObj_heap_other (by omega)).trans hd2
      | ret =>
        obtain ⟨q1, q3⟩ := hq
        have hl2 := q1.same _ _ (by omega) (World.putObj_heap_same (Array.getElem?_eq_some_iff.1 hl').1) rfl
        have hlt2 := (Array.getElem?_eq_some_iff.1 hl2).1
        have hd2 := q1.same _ _ (by omega) ((World.putObj_heap_other (by omega)).trans hd') rfl
        refine ⟨_, _, run_endRound (some .ret) hl2, .inr ⟨rfl, .ret, hIx _ _ _ _ q3 hlt2, ?_, ?_⟩⟩
        · rw [World.putObj_heap_same hlt2, ← hrec]; rfl
        · exact (World.putObj_heap_other (by omega)).trans hd2
      | goto t => exact hq.elim
      | panic ch => exact hq.elim
      | outgrown => exact hq.elim
    | ret => exact hp.elim
    | exit id => exact hp.elim
    | goto t => exact hp.elim
    | panic ch => exact hp.elim
    | outgrown => exact hp.elim
  · -- behind the loop
    rintro e W2 ⟨⟨v, rfl⟩, (⟨hi, hl, hd⟩ | ⟨pre, x, hSp, c, hi, hl, hd⟩)⟩
    · have he := run_endLoop (P := P) hl (by rw [← hrec]; simp)
      refine ⟨none, _, by rw [← hrec] at he; exact he, hdone _ (hI _ _ _ hi (Kept.put _ _ _ (.inr rfl))) ((World.putObj_heap_other (by omega)).trans hd)⟩
    · have he := run_endLoop (P := P) hl (by rw [← hrec]; simp)
      refine ⟨some c, _, by rw [← hrec] at he; exact he, hstop c pre x _ hSp (hIx _ _ _ _ hi (Array.getElem?_eq_some_iff.1 hl).1) ((World.putObj_heap_other (by omega)).trans hd)⟩

theorem clears_any (b ro : Nat) (a e : Int) (w : World) : Calls Tryd.prog 66 #[.pointer (some ⟨b, ro, none⟩), .int .i64 a, .int .i64 e] w fun r w' =>
    r = .returned (.func (.func 77) #[] #[.pointer (some ⟨w.heap.size, 0, none⟩), .pointer (some ⟨w.heap.size + 1, 0, none⟩), .pointer (some ⟨w.heap.size + 2, 0, none⟩)]) ∧
    w' = ((w.alloc (.cells #[.pointer (some ⟨b, ro, none⟩)] 125)).alloc (.cells #[.int .i64 a] 3)).alloc (.cells #[.int .i64 e] 3) := by
  go_enter Tryd.func66, Tryd.ntmps66
  go_wp2
  go_ret
  exact ⟨rfl, rfl⟩
end Go.Proofs.YtnclicdnncgdiaaDoor
