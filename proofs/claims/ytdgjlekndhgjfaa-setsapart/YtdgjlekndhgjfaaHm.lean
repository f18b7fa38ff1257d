/- Heaps in lists, plain: places, order, what a rise and a sink keep. -/
import Derived.Test.YtdgjlekndhgjfaaEx
namespace Go.Proofs.Hm

/-- The j-th. -/
def at' (l : List Nat) (j : Nat) : Nat := l.getD j 0
theorem at_get {l : List Nat} {j : Nat} (h : j < l.length) : l[j]? = some (at' l j) := by
  unfold at'
  rw [List.getD_eq_getElem?_getD, List.getElem?_eq_getElem h]
  rfl
theorem at_mem {l : List Nat} {j : Nat} (h : j < l.length) : at' l j ∈ l := List.mem_of_getElem? (at_get h)
theorem at_of_mem {l : List Nat} {m : Nat} (h : m ∈ l) : ∃ j, j < l.length ∧ at' l j = m := by
  obtain ⟨j, hj, e⟩ := List.getElem_of_mem h
  refine ⟨j, hj, ?_⟩
  have := at_get hj
  rw [List.getElem?_eq_getElem hj, e] at this
  exact (Option.some.inj this).symm
theorem at_inj {l : List Nat} (hn : l.Nodup) {i j : Nat} (hi : i < l.length) (hj : j < l.length) (e : at' l i = at' l j) : i = j := by
  refine (List.getElem_inj hn (h₀ := hi) (h₁ := hj)).1 ?_
  have h1 := at_get hi
  have h2 := at_get hj
  rw [List.getElem?_eq_getElem hi] at h1
  rw [List.getElem?_eq_getElem hj] at h2
  rw [Option.some.inj h1, Option.some.inj h2, e]
/-- Two of them in one another's places. -/
def swapL (l : List Nat) (i k : Nat) : List Nat := (l.set i (at' l k)).set k (at' l i)
theorem len_swap (l : List Nat) (i k : Nat) : (swapL l i k).length = l.length := by simp [swapL]
theorem perm_swap {l : List Nat} {i k : Nat} (hi : i < l.length) (hk : k < l.length) : (swapL l i k).Perm l := by
  have h := Array.swap_perm (xs := l.toArray) (i := i) (j := k) (by simpa using hi) (by simpa using hk)
  have h2 := Array.perm_iff_toList_perm.1 h
  rw [Array.toList_swap] at h2
  have e1 : at' l k = l[k] := by have := at_get hk; rw [List.getElem?_eq_getElem hk] at this; exact (Option.some.inj this).symm
  have e2 : at' l i = l[i] := by have := at_get hi; rw [List.getElem?_eq_getElem hi] at this; exact (Option.some.inj this).symm
  unfold swapL
  rw [e1, e2]
  simpa using h2
theorem at_swap {l : List Nat} {i k : Nat} (hi : i < l.length) (hk : k < l.length) (j : Nat) : at' (swapL l i k) j = if j = k then at' l i else if j = i then at' l k else at' l j := by
  unfold swapL
  rw [show at' ((l.set i (at' l k)).set k (at' l i)) j = ((l.set i (at' l k)).set k (at' l i)).getD j 0 from rfl, List.getD_eq_getElem?_getD, List.getElem?_set]
  by_cases c : j = k
  · subst c
    simp [hk]
  · rw [if_neg (fun e => c e.symm), if_neg c, List.getElem?_set]
    by_cases d : j = i
    · subst d
      simp [hi]
    · rw [if_neg (fun e => d e.symm), if_neg d]
      rw [← List.getD_eq_getElem?_getD]
      rfl
/-- Each knows its place. -/
def Cons (l : List Nat) (p : Nat → Int) : Prop := ∀ j, j < l.length → p (at' l j) = (j : Int)
def swapP (l : List Nat) (i k : Nat) (p : Nat → Int) (m : Nat) : Int := if m = at' l i then (k : Int) else if m = at' l k then (i : Int) else p m
theorem cons_swap {l : List Nat} {p : Nat → Int} (hn : l.Nodup) (h : Cons l p) {i k : Nat} (hi : i < l.length) (hk : k < l.length) : Cons (swapL l i k) (swapP l i k p) := by
  intro j hj
  rw [len_swap] at hj
  rw [at_swap hi hk]
  unfold swapP
  by_cases c : j = k
  · rw [if_pos c, if_pos rfl, c]
  · rw [if_neg c]
    by_cases d : j = i
    · rw [if_pos d]
      by_cases e : at' l k = at' l i
      · exact absurd (at_inj hn hk hi e) (fun z => c (by omega))
      · rw [if_neg e, if_pos rfl, d]
    · rw [if_neg d, if_neg (fun e => d (at_inj hn hj hi e)), if_neg (fun e => c (at_inj hn hj hk e))]
      exact h j hj

/-! ### Order -/
def Ord (f : Nat → Nat) (n : Nat) : Prop := ∀ i, 0 < i → i < n → f ((i - 1) / 2) ≤ f i
structure Fix (f : Nat → Nat) (n t : Nat) : Prop where
  a : ∀ i, 0 < i → i < n → i ≠ t → (i - 1) / 2 ≠ t → f ((i - 1) / 2) ≤ f i
  g : ∀ i, 0 < i → i < n → (i - 1) / 2 = t → 0 < t → f ((t - 1) / 2) ≤ f i
structure Down (f : Nat → Nat) (n t : Nat) : Prop where
  a : ∀ i, 0 < i → i < n → (i - 1) / 2 ≠ t → f ((i - 1) / 2) ≤ f i
  g : ∀ i, 0 < i → i < n → (i - 1) / 2 = t → 0 < t → f ((t - 1) / 2) ≤ f i
/-- While something rises from t0 on, and is at t. -/
structure Up (f : Nat → Nat) (n t0 t : Nat) : Prop where
  fix : Fix f n t
  low : t ≠ t0 → ∀ i, 0 < i → i < n → (i - 1) / 2 = t → f t ≤ f i
theorem Up.start {f : Nat → Nat} {n t : Nat} (h : Fix f n t) : Up f n t t := ⟨h, fun e => absurd rfl e⟩
theorem Up.done {f : Nat → Nat} {n t0 t : Nat} (h : Up f n t0 t) (ht : t < n) (hx : t = 0 ∨ f ((t - 1) / 2) ≤ f t) : Down f n t0 := by
  have key : ∀ i, 0 < i → i < n → ((i - 1) / 2 ≠ t ∨ t ≠ t0) → f ((i - 1) / 2) ≤ f i := by
    intro i h0 hi hc
    by_cases e : i = t
    · subst e
      rcases hx with hx | hx
      · omega
      · exact hx
    · by_cases d : (i - 1) / 2 = t
      · rcases hc with hc | hc
        · exact absurd d hc
        · rw [d]; exact h.low hc i h0 hi d
      · exact h.fix.a i h0 hi e d
  by_cases e : t = t0
  · subst e
    exact ⟨fun i h0 hi hc => key i h0 hi (.inl hc), h.fix.g⟩
  · have hO : Ord f n := fun i h0 hi => key i h0 hi (.inr e)
    exact ⟨fun i h0 hi _ => hO i h0 hi, fun i h0 hi d h1 => by
      have h2 := hO i h0 hi
      rw [d] at h2
      exact Nat.le_trans (hO t0 h1 (by omega)) h2⟩
theorem Up.step {f f' : Nat → Nat} {n t0 t : Nat} (h : Up f n t0 t) (ht : t < n) (h0 : 0 < t) (hx : f t < f ((t - 1) / 2))
    (hf : ∀ j, f' j = if j = (t - 1) / 2 then f t else if j = t then f ((t - 1) / 2) else f j) : Up f' n t0 ((t - 1) / 2) := by
  generalize hu : (t - 1) / 2 = u at *
  have hut : u < t := by omega
  have low : ∀ i, 0 < i → i < n → (i - 1) / 2 = u → f' u ≤ f' i ∧ (0 < u → f' ((u - 1) / 2) ≤ f' i) := by
    intro i hi0 hin hp
    have e1 : f' u = f t := by rw [hf, if_pos rfl]
    have hu0 : 0 < u → f' ((u - 1) / 2) ≤ f u := fun hu0 => by
      rw [hf, if_neg (by omega), if_neg (by omega)]
      exact h.fix.a u hu0 (by omega) (by omega) (by omega)
    by_cases e : i = t
    · have e2 : f' i = f u := by rw [hf, if_neg (by omega), if_pos e]
      rw [e1, e2]
      exact ⟨Nat.le_of_lt hx, hu0⟩
    · have e2 : f' i = f i := by rw [hf, if_neg (by omega), if_neg e]
      have h3 := h.fix.a i hi0 hin e (by omega)
      rw [hp] at h3
      rw [e1, e2]
      exact ⟨by omega, fun z => Nat.le_trans (hu0 z) h3⟩
  refine ⟨⟨fun i hi0 hin hne hpn => ?_, fun i hi0 hin hp hu0 => (low i hi0 hin hp).2 hu0⟩, fun _ i hi0 hin hp => (low i hi0 hin hp).1⟩
  by_cases e : i = t
  · subst e; exact absurd hu hpn
  · by_cases d : (i - 1) / 2 = t
    · rw [d, hf t, if_neg (by omega), if_pos rfl, hf i, if_neg hne, if_neg e]
      have := h.fix.g i hi0 hin d h0
      rw [hu] at this
      exact this
    · rw [hf i, if_neg hne, if_neg e, hf ((i - 1) / 2), if_neg hpn, if_neg d]
      exact h.fix.a i hi0 hin e d
theorem Down.ord {f : Nat → Nat} {n t : Nat} (h : Down f n t) (hx : ∀ i, 0 < i → i < n → (i - 1) / 2 = t → f t ≤ f i) : Ord f n := fun i h0 hi => by
  by_cases e : (i - 1) / 2 = t
  · rw [e]; exact hx i h0 hi e
  · exact h.a i h0 hi e
theorem Down.step {f f' : Nat → Nat} {n t c : Nat} (h : Down f n t) (hc0 : 0 < c) (hcn : c < n) (hc : (c - 1) / 2 = t) (hx : f c < f t) (hl : ∀ i, 0 < i → i < n → (i - 1) / 2 = t → f c ≤ f i)
    (hf : ∀ j, f' j = if j = c then f t else if j = t then f c else f j) : Down f' n c := by
  have ec : f' t = f c := by rw [hf, if_neg (by omega), if_pos rfl]
  refine ⟨fun i h0 hi hp => ?_, fun i h0 hi hp _ => ?_⟩
  · by_cases e : i = c
    · rw [e, hc, ec, hf c, if_pos rfl]
      exact Nat.le_of_lt hx
    · by_cases d : (i - 1) / 2 = t
      · rw [d, ec, hf i, if_neg e, if_neg (by omega)]
        exact hl i h0 hi d
      · by_cases z : i = t
        · rw [hf i, if_neg e, if_pos z, hf ((i - 1) / 2), if_neg hp, if_neg (by omega), z]
          exact h.g c hc0 hcn hc (by omega)
        · rw [hf i, if_neg e, if_neg z, hf ((i - 1) / 2), if_neg hp, if_neg d]
          exact h.a i h0 hi d
  · rw [hc, ec, hf i, if_neg (by omega), if_neg (by omega)]
    have := h.a i h0 hi (by omega)
    rw [hp] at this
    exact this
theorem Ord.first {f : Nat → Nat} {n : Nat} (h : Ord f n) : ∀ i, i < n → f 0 ≤ f i := by
  intro i
  induction i using Nat.strongRecOn with
  | _ i ih =>
    intro hi
    by_cases e : i = 0
    · subst e; exact Nat.le_refl _
    · exact Nat.le_trans (ih ((i - 1) / 2) (by omega) (by omega)) (h i (by omega) hi)
theorem Ord.fix_more {f f' : Nat → Nat} {n : Nat} (h : Ord f n) (hf : ∀ j, j < n → f' j = f j) : Fix f' (n + 1) n :=
  ⟨fun i h0 hi hne _ => by rw [hf i (by omega), hf _ (by omega)]; exact h i h0 (by omega), fun i h0 hi hp _ => by omega⟩
theorem Down.ord_last {f : Nat → Nat} {n : Nat} (h : Down f (n + 1) n) : Ord f (n + 1) := fun i h0 hi => h.a i h0 hi (by omega)
/-- The last one in the place t of one that is cut. -/
theorem Ord.fix_less {f f' : Nat → Nat} {n t : Nat} (h : Ord f (n + 1)) (ht : t < n) (hf : ∀ j, j < n → j ≠ t → f' j = f j) : Fix f' n t :=
  ⟨fun i h0 hi hne hp => by rw [hf i hi hne, hf _ (by omega) hp]; exact h i h0 (by omega), fun i h0 hi hp h1 => by
    rw [hf i hi (by omega), hf _ (by omega) (by omega)]
    have a := h i h0 (by omega)
    rw [hp] at a
    exact Nat.le_trans (h t h1 (by omega)) a⟩
theorem Ord.less {f f' : Nat → Nat} {n : Nat} (h : Ord f (n + 1)) (hf : ∀ j, j < n → f' j = f j) : Ord f' n := fun i h0 hi => by rw [hf i hi, hf _ (by omega)]; exact h i h0 (by omega)
end Go.Proofs.Hm
