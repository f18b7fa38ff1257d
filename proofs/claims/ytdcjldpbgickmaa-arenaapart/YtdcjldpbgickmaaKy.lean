/- maps.Keys over arenas: the iterator over a map's keys, and a loop over it. -/
import Derived.Test.YtdcjldpbgickmaaPt
import Derived.RangeFuncGives
import Derived.Sort.MapsRangeIn
namespace Go.Proofs.Ytdcjldpbgickmaa
open Go.ChangeShapes Go.WideShapes Go.ChangeAt Go.RowKit Go.Shelf Go.Proofs.Rx Go.Maps
set_option linter.unusedVariables false
set_option linter.unusedSimpArgs false

/-- Numbers that have come out of a map so far. -/
def Got (D : DataW Unit) (left : Lit → Bool) (ss : List Nat) : Prop := ss.Nodup ∧ ∀ x, x ∈ ss ↔ (has D (key x) = true ∧ left (key x) = false)
theorem Got.start (D : DataW Unit) : Got D (has D) [] := ⟨List.nodup_nil, fun x => by cases has D (key x) <;> simp⟩
theorem Got.step {D : DataW Unit} {left : Lit → Bool} {ss : List Nat} (h : Got D left ss) {x : Nat} {y : DataW Unit} (hlk : left (key x) = true) (hat : ∀ zd, D.atKey (key x) zd = y) : Got D (fun z => left z && !z.sameKey (key x)) (ss ++ [x]) := by
  have hh : has D (key x) = true := has_true_of_atKey hat
  have hn : x ∉ ss := fun hx => by have := ((h.2 x).1 hx).2; rw [hlk] at this; cases this
  refine ⟨List.nodup_append.2 ⟨h.1, by simp, fun a ha b hb => by simp at hb; subst hb; exact fun e => hn (e ▸ ha)⟩, fun y => ?_⟩
  by_cases hy : y = x
  · subst hy
    have hh' : has D (Lit.int .u64 (y : Int)) = true := hh
    simp [hh', Lit.sameKey, key]
  · have : ¬ ((y : Int) = (x : Int)) := by omega
    rw [List.mem_append, h.2 y]
    simp [hy, Lit.sameKey, key, this]
theorem keyOf_u {v : Value} {kl : Lit} (h : keyOf Try.prog 35 v = some kl) : ∃ x : Nat, v = .int .u64 (x : Nat) ∧ kl = key x ∧ x < 18446744073709551616 := by
  have hk := Try.underlying35
  cases v <;> simp [keyOf, hk, mapKey] at h
  rename_i q a
  obtain ⟨⟨rfl, hw⟩, rfl⟩ := h
  have hb := bounds_u64 hw
  exact ⟨a.toNat, by congr 1; omega, by unfold key; congr 1; omega, by omega⟩
theorem has_lt {D : DataW Unit} (hk : Keys D) (hm : IsMap D) {p : Nat} (h : has D (key p) = true) : p < 67108864 := by
  obtain ⟨es, rfl⟩ := hm
  rw [has_eq, List.any_eq_true] at h
  obtain ⟨x, hx, hs⟩ := h
  obtain ⟨q, hq, e⟩ := hk es rfl x hx
  rw [e] at hs
  have : (q : Int) = (p : Int) := by simpa [Lit.sameKey, key] using hs
  omega
/-- How the iterator over the keys of a map goes: each comes once, in whatever order. -/
def SeqW (n : Nat) (P : Program) (gf : Nat) (lb : Array Value) (Rd : World → Prop) (Fin : List Nat → Prop) : Prop :=
  ∀ (l : Nat) (J : List Nat → World → Prop) (W : World), (∀ s A, J s A → Rd A) → AbidesFrom W.heap.size J →
    (∀ pre x W1, J pre W1 → x < 18446744073709551616 → pre.length < 67108864 → YieldAt Fence.wide (n - 1) P l #[.int .u64 (x : Nat)] W1 fun e W' => e = .returned (.bool true) ∧ J (pre ++ [x]) W' ∧ KeepsWalks W1 W') →
    J [] W →
    CallsIn Fence.wide n P gf (#[.func (.yield l) #[] #[]] ++ lb) W fun e W' => (∃ v, e = .returned v) ∧ ∃ L, Fin L ∧ J L W'
theorem len_keys {D : DataW Unit} (hk : Keys D) {left : Lit → Bool} {ss : List Nat} (h : Got D left ss) (hl : ∀ x, x ∈ ss → x < 67108864) : ss.length ≤ 67108864 := nodup_len _ _ h.1 hl
set_option maxRecDepth 100000 in
set_option maxHeartbeats 1000000 in
theorem keys_seq (Bm kb : Nat) (G : Nat → Option (Int × Option Nat)) (n : Nat) (hn : 1 ≤ n) :
    SeqW n Try.prog 30 #[.pointer (some ⟨Bm, 0, none⟩)] (fun W => Boxed W Bm 49 (.map (some kb)) ∧ MapG encO W kb G) (fun L => L.Nodup ∧ ∀ p, p ∈ L ↔ (p < 18446744073709551616 ∧ (G p).isSome = true)) := by
  intro l J W hR hJ hY h0
  obtain ⟨hb, hM⟩ := hR _ _ h0
  have c0 := hb.cell
  obtain ⟨nn, D, hown, hnn, hkeys, hM⟩ := hM
  have HJ := hide hJ
  have HY := hide hY
  have H0 := hide h0
  have HK := hide hkeys
  have HM := hide hM
  have HO := hide hown
  clear hR hJ hY h0 hb hkeys hM
  refine callsIn_of_wp Try.func30 rfl trivial ?_ rfl
  simp only [Try.ntmps30, List.size_toArray, List.length_cons, List.length_nil, Nat.reduceAdd, Nat.reduceSub, Array.replicate_succ, Array.replicate_zero, List.push_toArray, List.append_toArray, List.nil_append, List.cons_append]
  gi_wp2_with (first
    | (gi_at_range; refine wpListIn_range_own _ rfl _ 49 rfl 35 56 keyU tyO _ kb nn _ rfl hown ?_; intro w0 hrg0 hg0 hs0)
    | gi_in)
  have sz : Maps.size D ≤ 67108864 := HK.out.size (hown.tidy keyU)
  go_frame
  gi_loopw [3] (fun _ wr => ∃ (left : Lit → Bool) (cnt : Nat) (ss : List Nat), wr.ranges Try.prog 35 encO.elem kb W.heap.size nn D left cnt ∧ ss.length + cnt ≤ Maps.size D ∧ Hid (Got D left ss) ∧ Hid (J ss wr))
    (fun _ wr => wr.rangeLeft kb W.heap.size)
  case atStart =>
    exact ⟨_, _, [], hrg0, by simp, hide (Got.start D), hide (HJ.out [] W w0 none H0.out hg0 (fun r e => by cases e))⟩
  case round =>
    obtain ⟨left, cnt, ss, hrg, hcs, HC, HJs⟩ := hrel
    gi_wp2_with (first
      | (gi_at_next; refine wpListIn_next_ranges _ rfl _ rfl 35 keyU encO.elem (fun x : Nat => Value.int .u64 (x : Nat)) id (fun key kl hk => by obtain ⟨x, hx, _⟩ := keyOf_u hk; exact ⟨x, hx⟩) (fun v _ _ => ⟨v, rfl⟩) kb W.heap.size nn _ _ _ rfl hrg ?_ ?_)
      | gi_in)
    · intro hc0 hl0
      gi_wp2
      go_end0
      refine ⟨⟨_, rfl⟩, ss, ⟨HC.out.1, fun p => ?_⟩, HJs.out⟩
      rw [HC.out.2 p, hl0]
      constructor
      · rintro ⟨z, _⟩
        have hp := has_lt HK.out hown.isMap z
        exact ⟨by omega, by rw [← (HM.out p (by omega)).1]; exact z⟩
      · rintro ⟨z, y⟩
        exact ⟨by rw [(HM.out p z).1]; exact y, rfl⟩
    · intro x c kl yd yp w2 cnt2 hkey hlk hv hat hrg2 hlt hg2 hs2 hen
      obtain ⟨x', ex, rfl, hx'⟩ := keyOf_u hkey
      obtain rfl : x = x' := by simp at ex; omega
      have hJ2 : J ss w2 := HJ.out ss wr w2 (some W.heap.size) HJs.out hg2 (fun r e => by cases e; exact ⟨Nat.le_refl _, hrg.iter_walk⟩)
      obtain ⟨fn, tmps, assign, body, hy, hR⟩ := HY.out ss x w2 hJ2 hx' (by omega)
      have HC2 := hide (HC.out.step hlk hat)
      have HR := hide hR
      clear hs2 hR hJ2
      gi_wp2
      refine HR.out.mono ?_
      rintro e W3 ⟨rfl, hJ3, hk3⟩
      have HJ3 := hide hJ3
      have HK3 := hide hk3
      clear hJ3 hk3 HR
      gi_wp2
      have hrg3 := hrg2.of_walks HK3.out
      go_roundw
      case rel => exact ⟨_, cnt2, ss ++ [x], hrg3, by simp; omega, HC2, HJ3⟩
      case measure => rw [hrg3.left_eq, hrg.left_eq]; exact hlt
/-- How the body of a round over a map's keys is left. -/
def endM (S : Nat) (I : List Nat → World → Prop) (xs : List Nat) (W₁ : World) : Exit → Act → World → Prop
  | .normal, _, W' => Two S W₁ W' ∧ KeepsWalks W₁ W' ∧ I xs W'
  | _, _, _ => False
theorem range_map {P : Program} {g : Operand} {ps : Array Tmp} {assign body : Code} {Q : Exit → Act → World → Prop} {a : Act} {w : World} {n : Nat}
    {gf : Nat} {lb : Array Value} (hg : a.eval g = .func (.func gf) #[] lb) (eg : ∀ args w, (callFunc gf args).run P w = .ok (.enter gf args) w)
    {Rd : World → Prop} {Fin : List Nat → Prop} (hseq : SeqW (n - 1) P gf lb Rd Fin) (hps : 1 = ps.size)
    (I : List Nat → World → Prop)
    (hR : ∀ s A, I s A → Rd A)
    (hI : ∀ s A A', I s A → Kept (fun b => b = w.heap.size ∨ b = w.heap.size + 1) A A' → I s A') (hA : AbidesFrom (w.heap.size + 2) I) (h0 : I [] w)
    (hround : ∀ (pre : List Nat) (x : Nat) (W : World), (∃ r, W.heap[w.heap.size + 1]? = some (.loop r)) → W.heap[w.heap.size]? = some (.deferred (some [])) → I pre W → x < 18446744073709551616 → pre.length < 67108864 →
      assign.wpIn (Fence.wide.inRound (w.heap.size + 1)) (n - 1 - 1) P (Exit.then (fun a₁ W₁ => Two w.heap.size W W₁ ∧ KeepsWalks W W₁ ∧
        ∀ r, body.wpIn (Fence.wide.inRound (w.heap.size + 1)) (n - 1 - 1) P (endM w.heap.size I (pre ++ [x]) (W₁.putObj (w.heap.size + 1) (.loop r))) a₁ (W₁.putObj (w.heap.size + 1) (.loop r))) (fun _ _ _ => False))
        { tmps := (ps.zip (#[Value.int .u64 (x : Nat)])).foldl (fun t (p, v) => t.setIfInBounds p v) a.tmps, defers := [] } W)
    (hdone : ∀ (L : List Nat) (W : World), Fin L → I L W → W.heap[w.heap.size]? = some (.deferred (some [])) → Q .normal { a with defers := { target := .collected w.heap.size, args := #[] } :: a.defers } W) :
    (Code.rangeFunc g ps assign body).wpIn Fence.wide n P Q a w := by
  refine wpIn_rangeFunc fun fn hfn => ?_
  generalize hrec : (fun st pe => ({ state := st, pending := pe, fn, tmps := a.tmps, params := ps, assign, body, defers := w.heap.size } : Loop)) = rec
  obtain ⟨W1, hW1⟩ : ∃ W1, (w.alloc (.deferred (some []))).alloc (.loop (rec .ready none)) = W1 := ⟨_, rfl⟩
  have hb1 : Below w.heap.size w W1 := by rw [← hW1]; exact ((Below.refl _ w).alloc (Nat.le_refl _) _).alloc (by simp) _
  have hl1 : W1.heap[w.heap.size + 1]? = some (.loop (rec .ready none)) := by
    have := World.alloc_heap_new (w.alloc (.deferred (some []))) (.loop (rec .ready none))
    rw [World.size_alloc, hW1] at this; exact this
  have hd1 : W1.heap[w.heap.size]? = some (.deferred (some [])) := by
    rw [← hW1]; exact (Below.heap_alloc _ _ _ (by simp)).trans (World.alloc_heap_new w _)
  refine ⟨w.heap.size + 1, [{ target := .collected w.heap.size, args := #[] }], W1, { target := .fn (.func gf) lb, args := #[.func (.yield (w.heap.size + 1)) #[] #[]] }, W1, gf, #[.func (.yield (w.heap.size + 1)) #[] #[]] ++ lb, W1, ?_, ?_, fun _ _ => trivial, ?_, (fun h => by cases h), ?_⟩
  · rw [← hW1, ← hrec]; exact run_enterLoop_outer _ _ _ _ _
  · simp only [resolve, hg]; simp [go_sem]
  · simp [invoke, go_sem, eg]
  have s1 : W1.heap.size = w.heap.size + 2 := by rw [← hW1]; simp
  refine (hseq (w.heap.size + 1)
    (fun pre W => I pre W ∧ W.heap[w.heap.size + 1]? = some (.loop (rec .ready none)) ∧ W.heap[w.heap.size]? = some (.deferred (some [])))
    W1 (fun s A h => hR s A h.1) ?_ ?_ ⟨hI _ _ _ h0 (Kept.of_below hb1), hl1, hd1⟩).mono ?_
  · rintro s A A' row ⟨hi, hl, hd⟩ hg hrow
    rw [s1] at hrow
    have hrow' : ∀ r, row = some r → ∃ o : Obj, A.heap[r]? = some o ∧ o.isWalk = true := fun r e => (hrow r e).2
    exact ⟨hA s A A' row hi hg hrow, (grownBy_keeps hg hrow' hl rfl).trans hl, (grownBy_keeps hg hrow' hd rfl).trans hd⟩
  · rintro pre x W ⟨hi, hl, hd⟩ hx hlen
    have hy := run_yield (P := P) (args := #[Value.int .u64 (x : Nat)]) hl (by rw [← hrec]; exact hps)
    rw [← hrec] at hy
    refine ⟨fn, _, assign, body, hy, roundIn_of_wpIn hfn (wpIn_mono (hround pre x W ⟨_, hl⟩ hd hi hx hlen) ?_)⟩
    rintro e a₁ W₁ hp
    cases e with
    | normal =>
      obtain ⟨hk, hw, hb⟩ := hp
      have hl' := hk _ (.inr rfl) _ hl
      have hd' := hk _ (.inl rfl) _ hd
      refine ⟨_, run_beginRound hl' (by rw [← hrec]), wpIn_mono (hb _) ?_⟩
      rintro e a₂ W₂ hq
      cases e with
      | normal =>
        obtain ⟨q1, qw, q3⟩ := hq
        have hl2 := q1 _ (.inr rfl) _ (World.putObj_heap_same (Array.getElem?_eq_some_iff.1 hl').1)
        have hlt2 := (Array.getElem?_eq_some_iff.1 hl2).1
        have hd2 := q1 _ (.inl rfl) _ ((World.putObj_heap_other (by omega)).trans hd')
        refine ⟨_, _, run_endRound none hl2, ⟨rfl, ⟨hI _ _ _ q3 (Kept.put _ _ _ (.inr rfl)), ?_, ?_⟩, ?_⟩⟩
        · rw [World.putObj_heap_same hlt2, ← hrec]; rfl
        · exact (World.putObj_heap_other (by omega)).trans hd2
        · exact (hw.trans ((KeepsWalks.putObj _ hl' rfl).trans qw)).trans (KeepsWalks.putObj _ hl2 rfl)
      | ret => exact hq.elim
      | exit id => exact hq.elim
      | goto t => exact hq.elim
      | panic ch => exact hq.elim
      | outgrown => exact hq.elim
    | ret => exact hp.elim
    | exit id => exact hp.elim
    | goto t => exact hp.elim
    | panic ch => exact hp.elim
    | outgrown => exact hp.elim
  · rintro e W2 ⟨⟨v, rfl⟩, L, hF, hi, hl, hd⟩
    have he := run_endLoop (P := P) hl (by rw [← hrec]; simp)
    refine ⟨none, _, by rw [← hrec] at he; exact he, hdone L _ hF (hI _ _ _ hi (Kept.put _ _ _ (.inr rfl))) ((World.putObj_heap_other (by omega)).trans hd)⟩
end Go.Proofs.Ytdcjldpbgickmaa
