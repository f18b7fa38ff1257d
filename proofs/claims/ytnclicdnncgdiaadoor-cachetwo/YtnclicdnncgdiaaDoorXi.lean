/- A loop over an iterator that may run a loop of its own: how it is walked. -/
import Derived.Test.YtnclicdnncgdiaaDoorXg
import Derived.Test.YtnclicdnncgdiaaDoorXh
namespace Go.Proofs.YtnclicdnncgdiaaDoor
open Go.ChangeShapes Go.WideShapes Go.ChangeAt Go.RowKit Go.Proofs.Bt Go.Shelf Go.Proofs.Rx Go.Maps
set_option linter.unusedVariables false
set_option linter.unusedSimpArgs false

/-- A loop's own record, or the list of what it defers. -/
def NC (A : World) (b : Nat) : Prop := ∃ o, A.heap[b]? = some o ∧ ((∃ r, o = .loop r) ∨ ∃ d, o = .deferred d)
theorem NC.loop {A : World} {b : Nat} {r : Loop} (h : A.heap[b]? = some (.loop r)) : NC A b := ⟨_, h, .inl ⟨r, rfl⟩⟩
theorem NC.deferred {A : World} {b : Nat} {d : Option (List Deferred)} (h : A.heap[b]? = some (.deferred d)) : NC A b := ⟨_, h, .inr ⟨d, rfl⟩⟩
theorem NC.not_cells {A : World} {b : Nat} {cs : Array Value} {t : TypeId} {z : Nat × Nat} (h : A.heap[b]? = some (.cells cs t z)) : ¬ NC A b := by
  rintro ⟨o, ho, h1⟩
  rw [h] at ho
  cases ho
  rcases h1 with ⟨r, e⟩ | ⟨d, e⟩ <;> cases e
/-- How an iterator goes that yields so many times, and may have loops of its own: the rounds leave alone what is made from its call on. -/
def SeqK (n : Nat) (P : Program) (gf : Nat) (lb : Array Value) (encs : Nat → Array Value) (Rd : World → Prop) (N : Nat) : Prop :=
  ∀ (l : Nat) (J Jx : Nat → World → Prop) (W : World), (∀ s A, J s A → Rd A) →
    (∀ s A A', J s A → Kept (fun b => W.heap.size ≤ b ∧ NC A b) A A' → J s A') →
    (∀ s A A', Jx s A → Kept (fun b => W.heap.size ≤ b ∧ NC A b) A A' → Jx s A') →
    (∀ k W1, k < N → J k W1 → W.heap.size ≤ W1.heap.size → YieldAt Fence.wide (n - 1) P l (encs k) W1 fun e W' =>
      Kept (fun b => b < W.heap.size) W1 W' ∧ ((e = .returned (.bool true) ∧ J (k + 1) W') ∨ (e = .returned (.bool false) ∧ Jx k W'))) →
    J 0 W →
    CallsIn Fence.wide n P gf (#[.func (.yield l) #[] #[]] ++ lb) W fun e W' => (∃ v, e = .returned v) ∧ (J N W' ∨ ∃ k, k < N ∧ Jx k W')
theorem yieldAt_mono {F : Fence} {m : Nat} {P : Program} {l : Nat} {args : Array Value} {W : World} {R R' : Ending → World → Prop} (h : YieldAt F m P l args W R) (hr : ∀ e w', R e w' → R' e w') : YieldAt F m P l args W R' := by
  obtain ⟨fn, tmps, assign, body, hy, hR⟩ := h
  exact ⟨fn, tmps, assign, body, hy, hR.mono hr⟩
theorem SeqK.of_B {n : Nat} {P : Program} {gf : Nat} {lb : Array Value} {encs : Nat → Array Value} {Rd : World → Prop} {N : Nat} (h : SeqB n P gf lb encs Rd (List.range N)) : SeqK n P gf lb encs Rd N := by
  intro l J Jx W hR hJ hJx hY h0
  refine (h l (fun pre A => J pre.length A ∧ W.heap.size ≤ A.heap.size) (fun pre A => Jx (pre.length - 1) A) W (fun s A z => hR _ A z.1) (fun s A A' z k => ⟨hJ _ _ _ z.1 (Kept.of_below k), Nat.le_trans z.2 k.size⟩) (fun pre x W1 hp z => ?_) ⟨h0, Nat.le_refl _⟩).mono ?_
  · obtain ⟨e1, e2, e3⟩ := pre_range hp
    subst e2
    refine yieldAt_mono (hY pre.length W1 e3 z.1 z.2) ?_
    rintro e W' ⟨hk, (⟨he, hj⟩ | ⟨he, hj⟩)⟩
    · exact .inl ⟨he, by simpa using hj, Nat.le_trans z.2 hk.size⟩
    · exact .inr ⟨he, by simpa using hj⟩
  · rintro e W' ⟨hv, (z | ⟨pre, x, hp, z⟩)⟩
    · exact ⟨hv, .inl (by simpa using z.1)⟩
    · obtain ⟨e1, e2, e3⟩ := pre_range hp
      exact ⟨hv, .inr ⟨pre.length, e3, by simpa using z⟩⟩
/-- How the body of a round may be left. -/
def endK (B : Nat) (I : Nat → World → Prop) (Ix : Code → Nat → World → Prop) (k : Nat) (W₁ : World) : Exit → Act → World → Prop
  | .normal, _, W' => Kept (fun b => b < B) W₁ W' ∧ I (k + 1) W'
  | .exit id, _, W' => Kept (fun b => b < B) W₁ W' ∧ Ix (.exit id) k W'
  | .ret, _, W' => Kept (fun b => b < B) W₁ W' ∧ Ix .ret k W'
  | _, _, _ => False
/-- A range over such an iterator. -/
theorem range_K {P : Program} {g : Operand} {ps : Array Tmp} {assign body : Code} {Q : Exit → Act → World → Prop} {a : Act} {w : World} {n : Nat}
    {gf : Nat} {lb : Array Value} (hg : a.eval g = .func (.func gf) #[] lb) (eg : ∀ args w, (callFunc gf args).run P w = .ok (.enter gf args) w)
    {encs : Nat → Array Value} {Rd : World → Prop} {N : Nat} (hseq : SeqK (n - 1) P gf lb encs Rd N) (hps : ∀ x, (encs x).size = ps.size)
    (I : Nat → World → Prop) (Ix : Code → Nat → World → Prop)
    (hR : ∀ s A, I s A → Rd A)
    (hI : ∀ s A A', I s A → Kept (fun b => w.heap.size ≤ b ∧ NC A b) A A' → I s A')
    (hIx : ∀ c s A A', Ix c s A → Kept (fun b => w.heap.size ≤ b ∧ NC A b) A A' → Ix c s A') (h0 : I 0 w)
    (hround : ∀ (k : Nat) (W : World), (∃ r, W.heap[w.heap.size + 1]? = some (.loop r)) → W.heap[w.heap.size]? = some (.deferred (some [])) → w.heap.size + 2 ≤ W.heap.size → I k W → k < N →
      assign.wpIn (Fence.wide.inRound (w.heap.size + 1)) (n - 1 - 1) P (Exit.then (fun a₁ W₁ => Kept (fun b => b < w.heap.size) W W₁ ∧
        ∀ r, body.wpIn (Fence.wide.inRound (w.heap.size + 1)) (n - 1 - 1) P (endK w.heap.size I Ix k (W₁.putObj (w.heap.size + 1) (.loop r))) a₁ (W₁.putObj (w.heap.size + 1) (.loop r))) (fun _ _ _ => False))
        { tmps := (ps.zip (encs k)).foldl (fun t (p, v) => t.setIfInBounds p v) a.tmps, defers := [] } W)
    (hdone : ∀ (W : World), I N W → W.heap[w.heap.size]? = some (.deferred (some [])) → Q .normal { a with defers := { target := .collected w.heap.size, args := #[] } :: a.defers } W)
    (hstop : ∀ (c : Code) (k : Nat) (W : World), k < N → Ix c k W → W.heap[w.heap.size]? = some (.deferred (some [])) → c.wpIn Fence.wide n P Q { a with defers := { target := .collected w.heap.size, args := #[] } :: a.defers } W) :
    (Code.rangeFunc g ps assign body).wpIn Fence.wide n P Q a w := by
  refine wpIn_rangeFunc fun fn hfn => ?_
  generalize hrec : (fun st pe => ({ state := st, pending := pe, fn, tmps := a.tmps, params := ps, assign, body, defers := w.heap.size } : Loop)) = rec
  obtain ⟨W1, hW1⟩ : ∃ W1, (w.alloc (.deferred (some []))).alloc (.loop (rec .ready none)) = W1 := ⟨_, rfl⟩
  have s1 : W1.heap.size = w.heap.size + 2 := by rw [← hW1]; simp
  have hb1 : Below w.heap.size w W1 := by rw [← hW1]; exact ((Below.refl _ w).alloc (Nat.le_refl _) _).alloc (by simp) _
  have hl1 : W1.heap[w.heap.size + 1]? = some (.loop (rec .ready none)) := by
    have := World.alloc_heap_new (w.alloc (.deferred (some []))) (.loop (rec .ready none))
    rw [World.size_alloc, hW1] at this; exact this
  have hd1 : W1.heap[w.heap.size]? = some (.deferred (some [])) := by
    rw [← hW1]; exact (Below.heap_alloc _ _ _ (by simp)).trans (World.alloc_heap_new w _)
  refine ⟨w.heap.size + 1, [{ target := .collected w.heap.size, args := #[] }], W1, { target := .fn (.func gf) lb, args := #[.func (.yield (w.heap.size + 1)) #[] #[]] }, W1, gf, #[.func (.yield (w.heap.size + 1)) #[] #[]] ++ lb, W1, ?_, ?_, fun _ _ => trivial, ?_, (fun h => by cases h), ?_⟩
  · rw [← hW1, ← hrec]; exact run_enterLoop_outer _ _ _ _ _
  · simp only [resolve, hg]; simp [go_sem]
  · simp [invoke, go_sem, eg]
  have own : ∀ {A A' : World}, Kept (fun b => W1.heap.size ≤ b ∧ NC A b) A A' → (∀ k, k < w.heap.size + 2 → ∀ o, A.heap[k]? = some o → A'.heap[k]? = some o) := fun {A A'} hk k hk2 o ho => kept_at hk ho (fun z => by have := z.1; omega)
  refine (hseq (w.heap.size + 1)
    (fun k W => I k W ∧ W.heap[w.heap.size + 1]? = some (.loop (rec .ready none)) ∧ W.heap[w.heap.size]? = some (.deferred (some [])))
    (fun k W => ∃ c, Ix c k W ∧ W.heap[w.heap.size + 1]? = some (.loop (rec .done (some c))) ∧ W.heap[w.heap.size]? = some (.deferred (some [])))
    W1 (fun s A h => hR s A h.1) ?_ ?_ ?_ ⟨hI _ _ _ h0 (Kept.of_below hb1), hl1, hd1⟩).mono ?_
  · -- the iterator's own steps
    rintro s A A' ⟨hi, hl, hd⟩ hk
    exact ⟨hI _ _ _ hi (hk.mono fun b hb => ⟨by have := hb.1; omega, hb.2⟩), own hk _ (by omega) _ hl, own hk _ (by omega) _ hd⟩
  · rintro s A A' ⟨c, hi, hl, hd⟩ hk
    exact ⟨c, hIx _ _ _ _ hi (hk.mono fun b hb => ⟨by have := hb.1; omega, hb.2⟩), own hk _ (by omega) _ hl, own hk _ (by omega) _ hd⟩
  · -- a round
    rintro k W hlen ⟨hi, hl, hd⟩ hsz
    have hlt : w.heap.size + 1 < W.heap.size := (Array.getElem?_eq_some_iff.1 hl).1
    have hy := run_yield (P := P) (args := encs k) hl (by rw [← hrec]; exact hps k)
    rw [← hrec] at hy
    refine ⟨fn, _, assign, body, hy, roundIn_of_wpIn hfn (wpIn_mono (hround k W ⟨_, hl⟩ hd (by omega) hi hlen) ?_)⟩
    rintro e a₁ W₁ hp
    cases e with
    | normal =>
      obtain ⟨hk, hb⟩ := hp
      have hl' := kept_at hk hl (by omega)
      have hd' := kept_at hk hd (by omega)
      have hlt1 := (Array.getElem?_eq_some_iff.1 hl').1
      refine ⟨_, run_beginRound hl' (by rw [← hrec]), wpIn_mono (hb _) ?_⟩
      rintro e a₂ W₂ hq
      cases e with
      | normal =>
        obtain ⟨q1, q3⟩ := hq
        have hl2 := kept_at q1 (World.putObj_heap_same hlt1) (by omega)
        have hlt2 := (Array.getElem?_eq_some_iff.1 hl2).1
        have hd2 := kept_at q1 ((World.putObj_heap_other (by omega)).trans hd') (by omega)
        have kk := ((hk.mono (G := fun b => b < W1.heap.size) (fun b hb => by omega)).trans (Kept.put (F := fun b => b < W1.heap.size) W₁ (w.heap.size + 1) _ (by omega)) (fun _ _ z => z)).trans (q1.mono (G := fun b => b < W1.heap.size) (fun b hb => by omega)) (fun _ _ z => z)
        refine ⟨_, _, run_endRound none hl2, ⟨kk.trans (Kept.put (F := fun b => b < W1.heap.size) W₂ (w.heap.size + 1) _ (by omega)) (fun _ _ z => z), .inl ⟨rfl, ⟨hI _ _ _ q3 (Kept.put _ _ _ ⟨by omega, NC.loop hl2⟩), ?_, ?_⟩⟩⟩⟩
        · rw [World.putObj_heap_same hlt2, ← hrec]; rfl
        · exact (World.putObj_heap_other (by omega)).trans hd2
      | exit id =>
        obtain ⟨q1, q3⟩ := hq
        have hl2 := kept_at q1 (World.putObj_heap_same hlt1) (by omega)
        have hlt2 := (Array.getElem?_eq_some_iff.1 hl2).1
        have hd2 := kept_at q1 ((World.putObj_heap_other (by omega)).trans hd') (by omega)
        have kk := ((hk.mono (G := fun b => b < W1.heap.size) (fun b hb => by omega)).trans (Kept.put (F := fun b => b < W1.heap.size) W₁ (w.heap.size + 1) _ (by omega)) (fun _ _ z => z)).trans (q1.mono (G := fun b => b < W1.heap.size) (fun b hb => by omega)) (fun _ _ z => z)
        refine ⟨_, _, run_endRound (some (.exit id)) hl2, ⟨kk.trans (Kept.put (F := fun b => b < W1.heap.size) W₂ (w.heap.size + 1) _ (by omega)) (fun _ _ z => z), .inr ⟨rfl, .exit id, hIx _ _ _ _ q3 (Kept.put _ _ _ ⟨by omega, NC.loop hl2⟩), ?_, ?_⟩⟩⟩
        · rw [World.putObj_heap_same hlt2, ← hrec]; rfl
        · exact (World.putObj_heap_other (by omega)).trans hd2
      | ret =>
        obtain ⟨q1, q3⟩ := hq
        have hl2 := kept_at q1 (World.putObj_heap_same hlt1) (by omega)
        have hlt2 := (Array.getElem?_eq_some_iff.1 hl2).1
        have hd2 := kept_at q1 ((World.putObj_heap_other (by omega)).trans hd') (by omega)
        have kk := ((hk.mono (G := fun b => b < W1.heap.size) (fun b hb => by omega)).trans (Kept.put (F := fun b => b < W1.heap.size) W₁ (w.heap.size + 1) _ (by omega)) (fun _ _ z => z)).trans (q1.mono (G := fun b => b < W1.heap.size) (fun b hb => by omega)) (fun _ _ z => z)
        refine ⟨_, _, run_endRound (some .ret) hl2, ⟨kk.trans (Kept.put (F := fun b => b < W1.heap.size) W₂ (w.heap.size + 1) _ (by omega)) (fun _ _ z => z), .inr ⟨rfl, .ret, hIx _ _ _ _ q3 (Kept.put _ _ _ ⟨by omega, NC.loop hl2⟩), ?_, ?_⟩⟩⟩
        · rw [World.putObj_heap_same hlt2, ← hrec]; rfl
        · exact (World.putObj_heap_other (by omega)).trans hd2
      | goto t => exact hq.elim
      | panic ch => exact hq.elim
      | outgrown => exact hq.elim
    | ret => exact hp.elim
    | exit id => exact hp.elim
    | goto t => exact hp.elim
    | panic ch => exact hp.elim
    | outgrown => exact hp.elim
  · -- behind the loop
    rintro e W2 ⟨⟨v, rfl⟩, (⟨hi, hl, hd⟩ | ⟨k, hSp, c, hi, hl, hd⟩)⟩
    · have he := run_endLoop (P := P) hl (by rw [← hrec]; simp)
      refine ⟨none, _, by rw [← hrec] at he; exact he, hdone _ (hI _ _ _ hi (Kept.put _ _ _ ⟨by omega, NC.loop hl⟩)) ((World.putObj_heap_other (by omega)).trans hd)⟩
    · have he := run_endLoop (P := P) hl (by rw [← hrec]; simp)
      refine ⟨some c, _, by rw [← hrec] at he; exact he, hstop c k _ hSp (hIx _ _ _ _ hi (Kept.put _ _ _ ⟨by omega, NC.loop hl⟩)) ((World.putObj_heap_other (by omega)).trans hd)⟩
end Go.Proofs.YtnclicdnncgdiaaDoor
