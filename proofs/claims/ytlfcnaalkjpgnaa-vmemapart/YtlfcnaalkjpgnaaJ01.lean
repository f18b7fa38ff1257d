/- J01 of the proof of both laws: texts Sp, Face, Help, one behind the other. -/
import Derived.Test.YtlfcnaalkjpgnaaRows
import Derived.RowKit3
import Derived.WalkKit
import Derived.ProofKit
import Derived.OpenShut
import Derived.WalkLawsBesides
import Derived.Deep.Draws
import Derived.Deep.QuietTactic
import Derived.BigQuiet
import Derived.Outline
/- Chapter 3's address space as plain data: what each call answers and leaves; no program is spoken of. -/
namespace Go.Proofs.Sp

/-- An address space: what the system will still answer; the pages that are laid out, rising; each page's state (0 none, 1 reserved, 2 ready, 3 released); each word of a ready page, by its address. -/
structure Sp where
  places : List Nat
  refuse : List Bool
  fills : List Nat
  pgs : List Nat
  st : Nat → Nat
  wd : Nat → Nat

def Sp.new (pl : List Nat) (re : List Bool) (fi : List Nat) : Sp := ⟨pl, re, fi, [], fun _ => 0, fun _ => 0⟩

/-- What holds of every space. -/
structure WF (S : Sp) : Prop where
  rising : S.pgs.Pairwise (· < ·)
  below : ∀ p ∈ S.pgs, p < 34359738368
  mem : ∀ p, S.st p ≠ 0 ↔ p ∈ S.pgs
  le3 : ∀ p, S.st p ≤ 3

theorem WF.new (pl : List Nat) (re : List Bool) (fi : List Nat) : WF (Sp.new pl re fi) :=
  ⟨List.Pairwise.nil, (fun p h => by cases h), (fun p => ⟨fun h => absurd rfl h, fun h => by cases h⟩), fun p => Nat.zero_le _⟩

/-- The first k from a number on, within so many, that will do. -/
def search (P : Nat → Bool) : Nat → Nat → Option Nat
  | _, 0 => none
  | k, f + 1 => if P k then some k else search P (k + 1) f
theorem search_some {P : Nat → Bool} {k f r : Nat} (h : search P k f = some r) : k ≤ r ∧ r < k + f ∧ P r = true ∧ ∀ j, k ≤ j → j < r → P j = false := by
  induction f generalizing k with
  | zero => simp [search] at h
  | succ f ih =>
    unfold search at h
    by_cases hp : P k = true
    · rw [if_pos hp] at h
      have : k = r := by simpa using h
      subst this
      exact ⟨Nat.le_refl _, by omega, hp, fun j h1 h2 => by omega⟩
    · rw [if_neg hp] at h
      obtain ⟨a, b, c, d⟩ := ih h
      refine ⟨by omega, by omega, c, fun j h1 h2 => ?_⟩
      by_cases e : j = k
      · subst e; simpa using hp
      · exact d j (by omega) h2
theorem search_none {P : Nat → Bool} {k f : Nat} (h : search P k f = none) : ∀ j, k ≤ j → j < k + f → P j = false := by
  induction f generalizing k with
  | zero => intro j h1 h2; omega
  | succ f ih =>
    unfold search at h
    by_cases hp : P k = true
    · rw [if_pos hp] at h; simp at h
    · rw [if_neg hp] at h
      intro j h1 h2
      by_cases e : j = k
      · subst e; simpa using hp
      · exact ih h j (by omega) (by omega)
theorem search_at {P : Nat → Bool} {k f r : Nat} (h1 : k ≤ r) (h2 : r < k + f) (h3 : P r = true) (h4 : ∀ j, k ≤ j → j < r → P j = false) : search P k f = some r := by
  cases h : search P k f with
  | none => rw [search_none h r h1 h2] at h3; cases h3
  | some q =>
    obtain ⟨a, b, c, d⟩ := search_some h
    by_cases e : q = r
    · rw [e]
    · exfalso
      by_cases l : q < r
      · rw [h4 q a l] at c; cases c
      · rw [d r h1 (by omega)] at h3; cases h3

/-- May so many pages be laid out from a page on? -/
abbrev free (S : Sp) (pages q : Nat) : Prop := q % 512 = 0 ∧ q ≠ 0 ∧ q + pages ≤ 34359738368 ∧ ∀ i, i < pages → S.st (q + i) = 0
def firstFrom (S : Sp) (hint pages : Nat) : Option Nat := (search (fun k => decide (free S pages (512 * k))) ((hint + 511) / 512) (67108864 - (hint + 511) / 512)).map (512 * ·)

theorem first_some {S : Sp} {hint pages q : Nat} (h : firstFrom S hint pages = some q) : free S pages q ∧ hint ≤ q ∧ ∀ j, hint ≤ j → j < q → ¬ free S pages j := by
  unfold firstFrom at h
  cases e : search (fun k => decide (free S pages (512 * k))) ((hint + 511) / 512) (67108864 - (hint + 511) / 512) with
  | none => rw [e] at h; simp at h
  | some r =>
    rw [e] at h
    have : 512 * r = q := by simpa using h
    subst this
    obtain ⟨a, b, c, d⟩ := search_some e
    refine ⟨of_decide_eq_true c, by omega, fun j h1 h2 hf => ?_⟩
    obtain ⟨f1, f2, f3, f4⟩ := hf
    have := d (j / 512) (by omega) (by omega)
    have e2 : 512 * (j / 512) = j := by omega
    rw [e2] at this
    exact of_decide_eq_false this ⟨f1, f2, f3, f4⟩
theorem first_none {S : Sp} {hint pages : Nat} (h : firstFrom S hint pages = none) (hp : 0 < pages) : ∀ j, hint ≤ j → ¬ free S pages j := by
  unfold firstFrom at h
  have e : search (fun k => decide (free S pages (512 * k))) ((hint + 511) / 512) (67108864 - (hint + 511) / 512) = none := by
    cases e : search (fun k => decide (free S pages (512 * k))) ((hint + 511) / 512) (67108864 - (hint + 511) / 512) with
    | none => rfl
    | some r => rw [e] at h; simp at h
  intro j h1 hf
  obtain ⟨f1, f2, f3, f4⟩ := hf
  have := search_none e (j / 512) (by omega) (by omega)
  have e2 : 512 * (j / 512) = j := by omega
  rw [e2] at this
  exact of_decide_eq_false this ⟨f1, f2, f3, f4⟩
theorem first_at {S : Sp} {hint pages q : Nat} (hp : 0 < pages) (h1 : free S pages q) (h2 : hint ≤ q) (h3 : ∀ j, hint ≤ j → j < q → ¬ free S pages j) : firstFrom S hint pages = some q := by
  cases h : firstFrom S hint pages with
  | none => exact absurd h1 (first_none h hp q h2)
  | some r =>
    obtain ⟨a, b, c⟩ := first_some h
    by_cases l : r < q
    · exact absurd a (h3 r b l)
    · by_cases g : q < r
      · exact absurd h1 (c q h2 g)
      · rw [show r = q by omega]

/-- Pages from q on are laid out. -/
def lay (S : Sp) (q pages : Nat) : Sp :=
  { S with pgs := S.pgs.filter (· < q) ++ (List.range' q pages ++ S.pgs.filter (q ≤ ·)), st := fun p => if q ≤ p ∧ p < q + pages then 1 else S.st p }

/-- 3.3: the answer, the error, the space behind it. -/
def takeRefuse (S : Sp) : Sp := { S with refuse := S.refuse.tail }
def takePlace (S : Sp) : Sp := { S with places := S.places.tail }
def asked (S : Sp) (pages : Nat) : Option Nat := S.places.head?.bind fun x => if free S pages x then some x else none
def reserveS (S : Sp) (hint pages : Nat) : Nat × Nat × Sp :=
  if pages = 0 ∨ pages % 512 ≠ 0 ∨ 134217728 < pages then (0, 1, S)
  else if S.refuse.headD false then (0, 13, takeRefuse S)
  else match ((asked S pages).or ((firstFrom S hint pages).or (firstFrom S 0 pages))) with
    | none => (0, 13, takePlace (takeRefuse S))
    | some q => (q, 0, lay (takePlace (takeRefuse S)) q pages)

/-- 3.4: one page is made ready. -/
def readyOne (S : Sp) (p : Nat) : Sp :=
  if S.st p = 2 then S
  else if S.st p = 3 then { S with fills := S.fills.tail, st := fun x => if x = p then 2 else S.st x, wd := fun a => if a / 8192 = p then S.fills.headD 0 else S.wd a }
  else { S with st := fun x => if x = p then 2 else S.st x, wd := fun a => if a / 8192 = p then 0 else S.wd a }
def readyN (S : Sp) (page : Nat) : Nat → Sp
  | 0 => S
  | n + 1 => readyOne (readyN S page n) (page + n)
abbrev right (page pages : Nat) : Prop := 0 < pages ∧ page + pages ≤ 34359738368
def commitS (S : Sp) (page pages : Nat) : Nat × Sp :=
  if ¬ right page pages then (1, S)
  else if ¬ ∀ i, i < pages → S.st (page + i) ≠ 0 then (33, S)
  else if ∀ i, i < pages → S.st (page + i) = 2 then (0, S)
  else if S.refuse.headD false then (13, takeRefuse S)
  else (0, readyN (takeRefuse S) page pages)
/-- 3.5. -/
def releaseS (S : Sp) (page pages : Nat) : Nat × Sp :=
  if ¬ right page pages then (1, S)
  else if ¬ ∀ i, i < pages → S.st (page + i) = 2 then (33, S)
  else (0, { S with st := fun p => if page ≤ p ∧ p < page + pages then 3 else S.st p })
/-- 3.6. -/
def loadS (S : Sp) (addr : Nat) : Nat × Nat := if addr % 8 ≠ 0 then (0, 11) else if S.st (addr / 8192) ≠ 2 then (0, 12) else (S.wd addr, 0)
def storeS (S : Sp) (addr x : Nat) : Nat × Sp :=
  if addr % 8 ≠ 0 then (11, S) else if S.st (addr / 8192) ≠ 2 then (12, S) else (0, { S with wd := fun a => if a = addr then x else S.wd a })
abbrev allReady (S : Sp) (addr bytes : Nat) : Prop := ∀ i, i < (addr + bytes - 1) / 8192 - addr / 8192 + 1 → S.st (addr / 8192 + i) = 2
def zeroS (S : Sp) (addr bytes : Nat) : Nat × Sp :=
  if addr % 8 ≠ 0 ∨ bytes % 8 ≠ 0 then (11, S)
  else if bytes = 0 then (0, S)
  else if ¬ allReady S addr bytes then (12, S)
  else (0, { S with wd := fun a => if addr ≤ a ∧ a < addr + bytes then 0 else S.wd a })
/-- 3.1: how many pages are in a state. -/
def countS (S : Sp) (k : Int) : Nat := S.pgs.countP fun p => decide ((S.st p : Int) = k)

/-! ### What stays of a space -/
theorem mem_lay (S : Sp) (q pages p : Nat) : p ∈ (lay S q pages).pgs ↔ p ∈ S.pgs ∨ (q ≤ p ∧ p < q + pages) := by
  show p ∈ S.pgs.filter (· < q) ++ (List.range' q pages ++ S.pgs.filter (q ≤ ·)) ↔ _
  simp only [List.mem_append, List.mem_filter, List.mem_range'_1, decide_eq_true_eq]
  by_cases h : p < q
  · have : ¬ q ≤ p := by omega
    simp [h, this]
  · have : q ≤ p := by omega
    simp [h, this]
    exact Or.comm
theorem WF.lay {S : Sp} (h : WF S) {q pages : Nat} (hf : free S pages q) : WF (lay S q pages) := by
  obtain ⟨f1, f2, f3, f4⟩ := hf
  refine ⟨?_, ?_, ?_, ?_⟩
  · show (S.pgs.filter (· < q) ++ (List.range' q pages ++ S.pgs.filter (q ≤ ·))).Pairwise (· < ·)
    have off : ∀ p ∈ S.pgs, ¬ (q ≤ p ∧ p < q + pages) := by
      intro p hp hh
      have := f4 (p - q) (by omega)
      rw [show q + (p - q) = p by omega] at this
      exact (h.mem p).2 hp this
    refine List.pairwise_append.2 ⟨h.rising.filter _, List.pairwise_append.2 ⟨List.pairwise_lt_range', h.rising.filter _, ?_⟩, ?_⟩
    · intro a ha b hb
      have h1 := List.mem_range'_1.1 ha
      have h2 := List.mem_filter.1 hb
      have h3 := off b h2.1
      have h4 : q ≤ b := of_decide_eq_true h2.2
      omega
    · intro a ha b hb
      have h1 := List.mem_filter.1 ha
      have h4 : a < q := of_decide_eq_true h1.2
      rcases List.mem_append.1 hb with hb | hb
      · have := List.mem_range'_1.1 hb
        omega
      · have h5 : q ≤ b := of_decide_eq_true (List.mem_filter.1 hb).2
        omega
  · intro p hp
    rcases (mem_lay S q pages p).1 hp with hp | hp
    · exact h.below p hp
    · omega
  · intro p
    rw [mem_lay]
    show (if q ≤ p ∧ p < q + pages then 1 else S.st p) ≠ 0 ↔ _
    by_cases e : q ≤ p ∧ p < q + pages
    · rw [if_pos e]; exact ⟨fun _ => Or.inr e, fun _ => by decide⟩
    · rw [if_neg e, h.mem p]; exact ⟨Or.inl, fun x => x.resolve_right e⟩
  · intro p
    show (if q ≤ p ∧ p < q + pages then 1 else S.st p) ≤ 3
    split
    · decide
    · exact h.le3 p
/-- States that turn, of pages that are there. -/
theorem WF.turn {S T : Sp} (h : WF S) (hp : T.pgs = S.pgs) (hz : ∀ p, T.st p ≠ 0 ↔ S.st p ≠ 0) (h3 : ∀ p, T.st p ≤ 3) : WF T :=
  ⟨hp ▸ h.rising, fun p hq => h.below p (hp ▸ hq), fun p => by rw [hz, hp]; exact h.mem p, h3⟩
theorem readyOne_st (S : Sp) (p x : Nat) : (readyOne S p).st x = if x = p then 2 else S.st x := by
  unfold readyOne
  by_cases h : S.st p = 2
  · rw [if_pos h]
    by_cases e : x = p
    · rw [if_pos e, e, h]
    · rw [if_neg e]
  · rw [if_neg h]
    split <;> rfl
theorem readyOne_keeps (S : Sp) (p : Nat) : (readyOne S p).pgs = S.pgs ∧ (readyOne S p).places = S.places ∧ (readyOne S p).refuse = S.refuse := by
  unfold readyOne
  split
  · exact ⟨rfl, rfl, rfl⟩
  · split <;> exact ⟨rfl, rfl, rfl⟩
theorem readyN_st (S : Sp) (page n x : Nat) : (readyN S page n).st x = if page ≤ x ∧ x < page + n then 2 else S.st x := by
  induction n with
  | zero => show S.st x = _; rw [if_neg (by omega)]
  | succ n ih =>
    show (readyOne (readyN S page n) (page + n)).st x = _
    rw [readyOne_st, ih]
    by_cases e : x = page + n
    · rw [if_pos e, if_pos (by omega)]
    · rw [if_neg e]
      by_cases c : page ≤ x ∧ x < page + n
      · rw [if_pos c, if_pos (by omega)]
      · rw [if_neg c, if_neg (by omega)]
theorem readyN_keeps (S : Sp) (page n : Nat) : (readyN S page n).pgs = S.pgs ∧ (readyN S page n).places = S.places ∧ (readyN S page n).refuse = S.refuse := by
  induction n with
  | zero => exact ⟨rfl, rfl, rfl⟩
  | succ n ih =>
    obtain ⟨a, b, c⟩ := readyOne_keeps (readyN S page n) (page + n)
    exact ⟨a.trans ih.1, b.trans ih.2.1, c.trans ih.2.2⟩
/-- Where no page of the row was released. -/
theorem readyN_new (S : Sp) (page n : Nat) (h : ∀ i, i < n → S.st (page + i) = 1) : (readyN S page n).fills = S.fills ∧ ∀ a, (readyN S page n).wd a = if page ≤ a / 8192 ∧ a / 8192 < page + n then 0 else S.wd a := by
  induction n with
  | zero => exact ⟨rfl, fun a => by show S.wd a = _; rw [if_neg (by omega)]⟩
  | succ n ih =>
    obtain ⟨a, b⟩ := ih fun i hi => h i (by omega)
    have e : (readyN S page n).st (page + n) = 1 := by rw [readyN_st, if_neg (by omega)]; exact h n (by omega)
    have r : readyN S page (n + 1) = { readyN S page n with st := fun x => if x = page + n then 2 else (readyN S page n).st x, wd := fun a => if a / 8192 = page + n then 0 else (readyN S page n).wd a } := by
      show readyOne (readyN S page n) (page + n) = _
      unfold readyOne
      rw [if_neg (by rw [e]; decide), if_neg (by rw [e]; decide)]
    rw [r]
    refine ⟨a, fun x => ?_⟩
    show (if x / 8192 = page + n then 0 else (readyN S page n).wd x) = _
    rw [b x]
    by_cases c : x / 8192 = page + n
    · rw [if_pos c, if_pos (by omega)]
    · rw [if_neg c]
      by_cases d : page ≤ x / 8192 ∧ x / 8192 < page + n
      · rw [if_pos d, if_pos (by omega)]
      · rw [if_neg d, if_neg (by omega)]
/-- Where all pages of the row were released: a fill for each, in order. -/
theorem readyN_again (S : Sp) (page n : Nat) (h : ∀ i, i < n → S.st (page + i) = 3) : (readyN S page n).fills = S.fills.drop n ∧ ∀ a, (readyN S page n).wd a = if page ≤ a / 8192 ∧ a / 8192 < page + n then S.fills.getD (a / 8192 - page) 0 else S.wd a := by
  induction n with
  | zero => exact ⟨rfl, fun a => by show S.wd a = _; rw [if_neg (by omega)]⟩
  | succ n ih =>
    obtain ⟨a, b⟩ := ih fun i hi => h i (by omega)
    have e : (readyN S page n).st (page + n) = 3 := by rw [readyN_st, if_neg (by omega)]; exact h n (by omega)
    have r : readyN S page (n + 1) = { readyN S page n with fills := (readyN S page n).fills.tail, st := fun x => if x = page + n then 2 else (readyN S page n).st x, wd := fun a => if a / 8192 = page + n then (readyN S page n).fills.headD 0 else (readyN S page n).wd a } := by
      show readyOne (readyN S page n) (page + n) = _
      unfold readyOne
      rw [if_neg (by rw [e]; decide), if_pos e]
    rw [r]
    refine ⟨by show (readyN S page n).fills.tail = _; rw [a, List.tail_drop], fun x => ?_⟩
    show (if x / 8192 = page + n then (readyN S page n).fills.headD 0 else (readyN S page n).wd x) = _
    rw [b x, a]
    by_cases c : x / 8192 = page + n
    · rw [if_pos c, if_pos (by omega), show x / 8192 - page = n by omega]
      rw [List.headD_eq_head?_getD, List.head?_drop, List.getD_eq_getElem?_getD]
    · rw [if_neg c]
      by_cases d : page ≤ x / 8192 ∧ x / 8192 < page + n
      · rw [if_pos d, if_pos (by omega)]
      · rw [if_neg d, if_neg (by omega)]
theorem WF.ready {S : Sp} (h : WF S) {page n : Nat} (hr : ∀ i, i < n → S.st (page + i) ≠ 0) : WF (readyN S page n) := by
  refine h.turn (readyN_keeps S page n).1 (fun p => ?_) (fun p => ?_)
  · rw [readyN_st]
    by_cases e : page ≤ p ∧ p < page + n
    · rw [if_pos e]
      have := hr (p - page) (by omega)
      rw [show page + (p - page) = p by omega] at this
      exact ⟨fun _ => this, fun _ => by decide⟩
    · rw [if_neg e]
  · rw [readyN_st]
    split
    · decide
    · exact h.le3 p
theorem WF.refuse {S : Sp} (h : WF S) : WF (takeRefuse S) := ⟨h.rising, h.below, h.mem, h.le3⟩
theorem WF.place {S : Sp} (h : WF S) : WF (takePlace S) := ⟨h.rising, h.below, h.mem, h.le3⟩
theorem or_free {S : Sp} {hint pages q : Nat} (h : (asked S pages).or ((firstFrom S hint pages).or (firstFrom S 0 pages)) = some q) : free S pages q := by
  cases a : asked S pages with
  | some x =>
    rw [a] at h
    have : x = q := by simpa using h
    subst this
    unfold asked at a
    cases b : S.places.head? with
    | none => rw [b] at a; simp at a
    | some y =>
      rw [b] at a
      simp only [Option.bind_some] at a
      split at a
      · have : y = x := by simpa using a
        subst this; assumption
      · simp at a
  | none =>
    rw [a] at h
    cases b : firstFrom S hint pages with
    | some x =>
      rw [b] at h
      have : x = q := by simpa using h
      subst this
      exact (first_some b).1
    | none =>
      rw [b] at h
      have : firstFrom S 0 pages = some q := by simpa using h
      exact (first_some this).1
theorem WF.reserve {S : Sp} (h : WF S) (hint pages : Nat) : WF (reserveS S hint pages).2.2 := by
  unfold reserveS
  split
  · exact h
  · split
    · exact h.refuse
    · split
      · exact h.refuse.place
      · rename_i hq
        have hf := or_free hq
        exact h.refuse.place.lay hf
theorem WF.commit {S : Sp} (h : WF S) (page pages : Nat) : WF (commitS S page pages).2 := by
  unfold commitS
  split
  · exact h
  · split
    · exact h
    · split
      · exact h
      · split
        · exact h.refuse
        · rename_i h2 _ _
          exact h.refuse.ready (Classical.not_not.1 h2)
theorem WF.release {S : Sp} (h : WF S) (page pages : Nat) : WF (releaseS S page pages).2 := by
  unfold releaseS
  split
  · exact h
  · split
    · exact h
    · rename_i h2
      have h2 := Classical.not_not.1 h2
      refine h.turn rfl (fun p => ?_) (fun p => ?_)
      · show (if page ≤ p ∧ p < page + pages then 3 else S.st p) ≠ 0 ↔ _
        by_cases e : page ≤ p ∧ p < page + pages
        · rw [if_pos e]
          have := h2 (p - page) (by omega)
          rw [show page + (p - page) = p by omega] at this
          rw [this]
          exact ⟨fun _ => by decide, fun _ => by decide⟩
        · rw [if_neg e]
      · show (if page ≤ p ∧ p < page + pages then 3 else S.st p) ≤ 3
        split
        · decide
        · exact h.le3 p
theorem WF.store {S : Sp} (h : WF S) (addr x : Nat) : WF (storeS S addr x).2 := by
  unfold storeS
  split
  · exact h
  · split
    · exact h
    · exact ⟨h.rising, h.below, h.mem, h.le3⟩
theorem WF.zero {S : Sp} (h : WF S) (addr bytes : Nat) : WF (zeroS S addr bytes).2 := by
  unfold zeroS
  split
  · exact h
  · split
    · exact h
    · split
      · exact h
      · exact ⟨h.rising, h.below, h.mem, h.le3⟩

end Go.Proofs.Sp

/- What chapter 3's laws ask of the package's calls, and what follows for one space alone. -/
namespace Go.Proofs.Ytlfcnaalkjpgnaa
open Go.ChangeShapes Go.WideShapes Go.ChangeAt Go.RowKit Go.Proofs.Sp

/-- Nothing old has turned but blocks of F. -/
structure Kept (F : Nat → Prop) (w w' : World) : Prop where
  os : w'.os = w.os
  tape : w'.tape = w.tape
  output : w'.output = w.output
  size : w.heap.size ≤ w'.heap.size
  block : ∀ b, b < w.heap.size → ¬ F b → w'.heap[b]? = w.heap[b]?
theorem Kept.below {F : Nat → Prop} {w w' : World} (h : Kept F w w') {B : Nat} (hB : B ≤ w.heap.size) (hF : ∀ b, F b → B ≤ b) : Below B w w' :=
  ⟨h.os, h.tape, h.output, h.size, fun k hk => h.block k (by omega) fun hf => by have := hF k hf; omega⟩

/-- A slice whose elements take a cell each reads as xs. -/
def Sl (w : World) (v : Value) (xs : List Value) : Prop :=
  (v = .slice none 0 0 ∧ xs = []) ∨ ∃ b off cap, v = .slice (some ⟨b, off, none⟩) xs.length cap ∧ xs.length ≤ cap ∧ b < w.heap.size ∧ ∀ j u, xs[j]? = some u → w.cell? ⟨b, off + j, none⟩ = some u
def u64s (l : List Nat) : List Value := l.map fun n : Nat => Value.int .u64 (n : Int)
def bools (l : List Bool) : List Value := l.map .bool

def cost (e n : Nat) : Nat := if e = 0 then n + 1 else 1
abbrev Inv := World → Addr → Sp → (Nat → Prop) → Nat → Prop
/-- The space is S' now; nothing old has turned but what was its own. -/
def Step (I : Inv) (F : Nat → Prop) (w w' : World) (m : Addr) (S' : Sp) (K' : Nat) : Prop :=
  ∃ F', I w' m S' F' K' ∧ Kept F w w' ∧ ∀ b, F' b → F b ∨ w.heap.size ≤ b
def lim : Nat := 1099511627776
def two64 (a : Int) : Prop := 0 ≤ a ∧ a < 18446744073709551616

/-- Which of the program's functions a package's calls are. -/
structure Nums where
  new : Nat
  reserve : Nat
  commit : Nat
  load : Nat
  release : Nat
  count : Nat
  store : Nat
  zero : Nat
  state : Nat
abbrev vm : Nums := ⟨7, 16, 18, 22, 20, 28, 24, 26, 30⟩
abbrev rf : Nums := ⟨8, 17, 19, 23, 21, 29, 25, 27, 31⟩
structure Face (N : Nums) (I : Inv) : Prop where
  wf : ∀ {w m S F K}, I w m S F K → WF S
  lt : ∀ {w m S F K}, I w m S F K → ∀ b, F b → b < w.heap.size
  kept : ∀ {w w' m S F K}, I w m S F K → w.heap.size ≤ w'.heap.size → (∀ b, F b → w'.heap[b]? = w.heap[b]?) → I w' m S F K
  new : ∀ (w : World) (v0 v1 v2 : Value) (pl : List Nat) (re : List Bool) (fi : List Nat), Sl w v0 (u64s pl) → Sl w v1 (bools re) → Sl w v2 (u64s fi) → (∀ x ∈ pl, x < 18446744073709551616) → (∀ x ∈ fi, x < 18446744073709551616) →
    pl.length ≤ 1048576 → re.length ≤ 1048576 → fi.length ≤ 1048576 →
    Calls Try.prog N.new #[.agg #[v0, v1, v2]] w fun e w' => ∃ m F, e = .returned (.pointer (some m)) ∧ I w' m (Sp.new pl re fi) F 0 ∧ Kept (fun _ => False) w w' ∧ ∀ b, F b → w.heap.size ≤ b
  reserve : ∀ {w m S F K} (a b : Int), two64 a → two64 b → I w m S F K → K ≤ lim →
    Calls Try.prog N.reserve #[.pointer (some m), .int .u64 a, .int .u64 b] w fun e w' => e = .returned (.tuple #[.int .u64 ((reserveS S a.toNat b.toNat).1 : Nat), .int .i64 ((reserveS S a.toNat b.toNat).2.1 : Nat)]) ∧
      Step I F w w' m (reserveS S a.toNat b.toNat).2.2 (K + cost (reserveS S a.toNat b.toNat).2.1 b.toNat)
  commit : ∀ {w m S F K} (a b : Int), two64 a → two64 b → I w m S F K → K ≤ lim →
    Calls Try.prog N.commit #[.pointer (some m), .int .u64 a, .int .u64 b] w fun e w' => e = .returned (.int .i64 ((commitS S a.toNat b.toNat).1 : Nat)) ∧
      Step I F w w' m (commitS S a.toNat b.toNat).2 (K + cost (commitS S a.toNat b.toNat).1 b.toNat)
  load : ∀ {w m S F K} (a : Int), two64 a → I w m S F K → K ≤ lim →
    Calls Try.prog N.load #[.pointer (some m), .int .u64 a] w fun e w' => e = .returned (.tuple #[.int .u64 ((loadS S a.toNat).1 : Nat), .int .i64 ((loadS S a.toNat).2 : Nat)]) ∧ Step I F w w' m S K
  release : ∀ {w m S F K} (a b : Int), two64 a → two64 b → I w m S F K → K ≤ lim →
    Calls Try.prog N.release #[.pointer (some m), .int .u64 a, .int .u64 b] w fun e w' => e = .returned (.int .i64 ((releaseS S a.toNat b.toNat).1 : Nat)) ∧
      Step I F w w' m (releaseS S a.toNat b.toNat).2 (K + cost (releaseS S a.toNat b.toNat).1 b.toNat)
  count : ∀ {w m S F K} (k : Int), -9223372036854775808 ≤ k → k ≤ 9223372036854775807 → I w m S F K → K ≤ lim →
    Calls Try.prog N.count #[.pointer (some m), .int .i64 k] w fun e w' => e = .returned (.int .u64 (countS S k : Nat)) ∧ Step I F w w' m S K
  store : ∀ {w m S F K} (a b : Int), two64 a → two64 b → I w m S F K → K ≤ lim →
    Calls Try.prog N.store #[.pointer (some m), .int .u64 a, .int .u64 b] w fun e w' => e = .returned (.int .i64 ((storeS S a.toNat b.toNat).1 : Nat)) ∧
      Step I F w w' m (storeS S a.toNat b.toNat).2 (K + 1)
  zero : ∀ {w m S F K} (a b : Int), N.zero ≠ 0 → two64 a → two64 b → I w m S F K → K ≤ lim →
    Calls Try.prog N.zero #[.pointer (some m), .int .u64 a, .int .u64 b] w fun e w' => e = .returned (.int .i64 ((zeroS S a.toNat b.toNat).1 : Nat)) ∧
      Step I F w w' m (zeroS S a.toNat b.toNat).2 (K + cost (zeroS S a.toNat b.toNat).1 b.toNat)
  state : ∀ {w m S F K} (a : Int), two64 a → I w m S F K → K ≤ lim →
    Calls Try.prog N.state #[.pointer (some m), .int .u64 a] w fun e w' => e = .returned (.int .i64 (S.st a.toNat : Nat)) ∧ Step I F w w' m S K

/-! ### One space alone -/
def J (I : Inv) (w0 : World) (m : Addr) (w : World) (S : Sp) (K : Nat) : Prop :=
  ∃ F, I w m S F K ∧ (∀ b, F b → w0.heap.size ≤ b) ∧ Below w0.heap.size w0 w
theorem J.below {I : Inv} {w0 w : World} {m : Addr} {S : Sp} {K : Nat} (h : J I w0 m w S K) : Below w0.heap.size w0 w := by obtain ⟨_, _, _, h⟩ := h; exact h
theorem J.step {I : Inv} {w0 w w' : World} {m : Addr} {S' : Sp} {F : Nat → Prop} {K' : Nat} (h2 : ∀ b, F b → w0.heap.size ≤ b) (h3 : Below w0.heap.size w0 w) (h : Step I F w w' m S' K') : J I w0 m w' S' K' := by
  obtain ⟨F', a, b, c⟩ := h
  have := h3.size
  refine ⟨F', a, fun x hx => ?_, h3.trans (b.below this h2)⟩
  rcases c x hx with hx | hx
  · exact h2 x hx
  · omega
variable {N : Nums} {I : Inv} {w0 w : World} {m : Addr} {S S' : Sp} {K : Nat}
theorem Face.jnew (Fc : Face N I) (w : World) (v0 v1 v2 : Value) (pl : List Nat) (re : List Bool) (fi : List Nat) (h0 : Sl w v0 (u64s pl)) (h1 : Sl w v1 (bools re)) (h2 : Sl w v2 (u64s fi)) (b0 : ∀ x ∈ pl, x < 18446744073709551616) (b2 : ∀ x ∈ fi, x < 18446744073709551616)
    (l0 : pl.length ≤ 1048576) (l1 : re.length ≤ 1048576) (l2 : fi.length ≤ 1048576) (hw : Below w0.heap.size w0 w) :
    Calls Try.prog N.new #[.agg #[v0, v1, v2]] w fun e w' => ∃ m, e = .returned (.pointer (some m)) ∧ J I w0 m w' (Sp.new pl re fi) 0 :=
  (Fc.new w v0 v1 v2 pl re fi h0 h1 h2 b0 b2 l0 l1 l2).mono fun e w' ⟨m, F, he, hi, hk, hF⟩ => ⟨m, he, F, hi, fun b hb => by have := hF b hb; have := hw.size; omega, hw.trans (hk.below hw.size fun _ f => f.elim)⟩
theorem Face.jreserve (Fc : Face N I) {a b : Int} {q er : Nat} (h : reserveS S a.toNat b.toNat = (q, er, S')) (hj : J I w0 m w S K) (ha : two64 a) (hb : two64 b) (hK : K ≤ lim) :
    Calls Try.prog N.reserve #[.pointer (some m), .int .u64 a, .int .u64 b] w fun e w' => e = .returned (.tuple #[.int .u64 (q : Int), .int .i64 (er : Int)]) ∧ J I w0 m w' S' (K + cost er b.toNat) := by
  obtain ⟨F, h1, h2, h3⟩ := hj
  have := Fc.reserve a b ha hb h1 hK
  rw [h] at this
  exact this.mono fun e w' ⟨he, hs⟩ => ⟨he, J.step h2 h3 hs⟩
theorem Face.jcommit (Fc : Face N I) {a b : Int} {er : Nat} (h : commitS S a.toNat b.toNat = (er, S')) (hj : J I w0 m w S K) (ha : two64 a) (hb : two64 b) (hK : K ≤ lim) :
    Calls Try.prog N.commit #[.pointer (some m), .int .u64 a, .int .u64 b] w fun e w' => e = .returned (.int .i64 (er : Int)) ∧ J I w0 m w' S' (K + cost er b.toNat) := by
  obtain ⟨F, h1, h2, h3⟩ := hj
  have := Fc.commit a b ha hb h1 hK
  rw [h] at this
  exact this.mono fun e w' ⟨he, hs⟩ => ⟨he, J.step h2 h3 hs⟩
theorem Face.jrelease (Fc : Face N I) {a b : Int} {er : Nat} (h : releaseS S a.toNat b.toNat = (er, S')) (hj : J I w0 m w S K) (ha : two64 a) (hb : two64 b) (hK : K ≤ lim) :
    Calls Try.prog N.release #[.pointer (some m), .int .u64 a, .int .u64 b] w fun e w' => e = .returned (.int .i64 (er : Int)) ∧ J I w0 m w' S' (K + cost er b.toNat) := by
  obtain ⟨F, h1, h2, h3⟩ := hj
  have := Fc.release a b ha hb h1 hK
  rw [h] at this
  exact this.mono fun e w' ⟨he, hs⟩ => ⟨he, J.step h2 h3 hs⟩
theorem Face.jstore (Fc : Face N I) {a b : Int} {er : Nat} (h : storeS S a.toNat b.toNat = (er, S')) (hj : J I w0 m w S K) (ha : two64 a) (hb : two64 b) (hK : K ≤ lim) :
    Calls Try.prog N.store #[.pointer (some m), .int .u64 a, .int .u64 b] w fun e w' => e = .returned (.int .i64 (er : Int)) ∧ J I w0 m w' S' (K + 1) := by
  obtain ⟨F, h1, h2, h3⟩ := hj
  have := Fc.store a b ha hb h1 hK
  rw [h] at this
  exact this.mono fun e w' ⟨he, hs⟩ => ⟨he, J.step h2 h3 hs⟩
theorem Face.jzero (Fc : Face N I) {a b : Int} {er : Nat} (hz : N.zero ≠ 0) (h : zeroS S a.toNat b.toNat = (er, S')) (hj : J I w0 m w S K) (ha : two64 a) (hb : two64 b) (hK : K ≤ lim) :
    Calls Try.prog N.zero #[.pointer (some m), .int .u64 a, .int .u64 b] w fun e w' => e = .returned (.int .i64 (er : Int)) ∧ J I w0 m w' S' (K + cost er b.toNat) := by
  obtain ⟨F, h1, h2, h3⟩ := hj
  have := Fc.zero a b hz ha hb h1 hK
  rw [h] at this
  exact this.mono fun e w' ⟨he, hs⟩ => ⟨he, J.step h2 h3 hs⟩
theorem Face.jload (Fc : Face N I) {a : Int} {x er : Nat} (h : loadS S a.toNat = (x, er)) (hj : J I w0 m w S K) (ha : two64 a) (hK : K ≤ lim) :
    Calls Try.prog N.load #[.pointer (some m), .int .u64 a] w fun e w' => e = .returned (.tuple #[.int .u64 (x : Int), .int .i64 (er : Int)]) ∧ J I w0 m w' S K := by
  obtain ⟨F, h1, h2, h3⟩ := hj
  have := Fc.load a ha h1 hK
  rw [h] at this
  exact this.mono fun e w' ⟨he, hs⟩ => ⟨he, J.step h2 h3 hs⟩
theorem Face.jstate (Fc : Face N I) {a : Int} {x : Nat} (h : S.st a.toNat = x) (hj : J I w0 m w S K) (ha : two64 a) (hK : K ≤ lim) :
    Calls Try.prog N.state #[.pointer (some m), .int .u64 a] w fun e w' => e = .returned (.int .i64 (x : Int)) ∧ J I w0 m w' S K := by
  obtain ⟨F, h1, h2, h3⟩ := hj
  have := Fc.state a ha h1 hK
  rw [h] at this
  exact this.mono fun e w' ⟨he, hs⟩ => ⟨he, J.step h2 h3 hs⟩
theorem Face.jcount (Fc : Face N I) {k : Int} {x : Nat} (h : countS S k = x) (hj : J I w0 m w S K) (h1 : -9223372036854775808 ≤ k) (h2 : k ≤ 9223372036854775807) (hK : K ≤ lim) :
    Calls Try.prog N.count #[.pointer (some m), .int .i64 k] w fun e w' => e = .returned (.int .u64 (x : Int)) ∧ J I w0 m w' S K := by
  obtain ⟨F, hi, h3, h4⟩ := hj
  have := Fc.count k h1 h2 hi hK
  rw [h] at this
  exact this.mono fun e w' ⟨he, hs⟩ => ⟨he, J.step h3 h4 hs⟩
end Go.Proofs.Ytlfcnaalkjpgnaa

/- Small facts about slices that a walk makes or reads. -/
namespace Go.Proofs.Ytlfcnaalkjpgnaa
open Go.ChangeShapes Go.WideShapes Go.ChangeAt Go.RowKit Go.Proofs.Sp

theorem Sl.nil (w : World) : Sl w (.slice none 0 0) [] := Or.inl ⟨rfl, rfl⟩
theorem Sl.alloc (w : World) (c : Array Value) (t : TypeId) (xs : List Value) (n : Nat) (h : c.toList = xs) (hn : xs.length = n) : Sl (w.alloc (.cells c t)) (.slice (some ⟨w.heap.size, 0, none⟩) n n) xs := by
  refine Or.inr ⟨w.heap.size, 0, n, by rw [hn], by omega, by simp, fun j u hu => ?_⟩
  rw [← h] at hu
  rw [Nat.zero_add, World.cell?_alloc_new]
  simpa using hu
theorem wrap_nat (f k : Nat) : IntKind.u64.wrap ((f : Int) + (k : Int)) = (((f + k) % 18446744073709551616 : Nat) : Int) := by
  have e : IntKind.u64.wrap ((f : Int) + (k : Int)) = ((f : Int) + (k : Int)) % 18446744073709551616 := rfl
  rw [e]; omega
theorem infoU : (Try.prog.info? 33).map (fun i => (i.zero, i.size, i.bytes)) = some (some (.int .u64 0), 1, 8) := by kernel_rfl
theorem own_empty (w : World) (e : TypeId) (size : Nat) : (w.alloc (.cells #[] e)).ownsRow w.heap.size e size (.slice (some ⟨w.heap.size, 0, none⟩) 0 0) 0 [] :=
  ⟨by simp, Or.inr ⟨w.heap.size, 0, #[], rfl, Nat.le_refl _, by show (w.heap.push _)[w.heap.size]? = _; simp, Nat.le_refl _, Nat.zero_le _, by simp, by simp⟩⟩
theorem Sl.of_owns {w : World} {base : Nat} {e : TypeId} {v : Value} {n : Nat} {xs : List Value} (h : w.ownsRow base e 1 v n xs) : Sl w v xs := by
  obtain ⟨hl, h | ⟨g, cap, cur, hv, hg, hh, hc, hm, hs, ht⟩⟩ := h
  · left
    refine ⟨h.1, ?_⟩
    rw [h.2] at hl
    exact List.eq_nil_of_length_eq_zero (by omega)
  · right
    have hn : xs.length = n := by omega
    refine ⟨g, 0, cap, by rw [hn]; exact hv, by omega, ?_, fun j u hu => ?_⟩
    · by_cases c : g < w.heap.size
      · exact c
      · rw [Array.getElem?_eq_none (by omega)] at hh; simp at hh
    · rw [← ht] at hu
      have hj : cur.toList[j]? = some u := by
        rw [List.getElem?_take] at hu
        split at hu
        · exact hu
        · simp at hu
      rw [Nat.zero_add]
      unfold World.cell?
      simp only [hh]
      simpa using hj
theorem own_shape {w : World} {base : Nat} {e : TypeId} {size : Nat} {v : Value} {n : Nat} {xs : List Value} (h : w.ownsRow base e size v n xs) (hv : v ≠ .slice none 0 0) : ∃ g cap, v = .slice (some ⟨g, 0, none⟩) n cap := by
  obtain ⟨_, h | ⟨g, cap, _, h, _⟩⟩ := h
  · exact absurd h.1 hv
  · exact ⟨g, cap, h⟩
theorem u64s_get (X : Nat → Nat) (len j : Nat) (u : Value) (h : (u64s ((List.range len).map X))[j]? = some u) : j < len ∧ u = .int .u64 (X j : Int) := by
  unfold u64s at h
  by_cases hj : j < len
  · refine ⟨hj, ?_⟩
    simp [hj] at h
    exact h.symm
  · simp [hj] at h
theorem u64s_one (l : List Nat) : ∀ u ∈ u64s l, u.oneCell' = true := by
  intro u hu
  unfold u64s at hu
  obtain ⟨x, _, rfl⟩ := List.mem_map.1 hu
  rfl


theorem addr_add0 (b o j : Nat) : (⟨b, o, none⟩ : Addr).add j = ⟨b, o + j, none⟩ := by
  simp [Addr.add]

end Go.Proofs.Ytlfcnaalkjpgnaa
