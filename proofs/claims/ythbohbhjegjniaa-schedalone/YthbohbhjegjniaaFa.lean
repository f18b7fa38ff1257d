/- Tasks that take locks in one order are never stuck. -/
import Derived.Test.YthbohbhjegjniaaStu
namespace Go.Proofs.Ythbohbhjegjniaa
open Go.ChangeShapes Go.WideShapes Go.ChangeAt Go.RowKit Go.Proofs.Sc Go.Maps
set_option linter.unusedVariables false
set_option linter.unusedSimpArgs false

def nsay (t : List Stp) : Nat := (t.filter fun s => decide (s.op = 5)).length
def says (l : List (List Stp)) : Nat := (l.map nsay).sum
theorem says_set {l : List (List Stp)} : ∀ {i : Nat} {s : Stp} {r : List Stp}, l[i]? = some (s :: r) → says (l.set i r) + (if s.op = 5 then 1 else 0) = says l := by
  induction l with
  | nil => intro i s r h; simp at h
  | cons a l ih =>
    intro i s r h
    cases i with
    | zero =>
      simp at h; subst h
      simp only [List.set_cons_zero, says, List.map_cons, List.sum_cons, nsay, List.filter_cons]
      by_cases c : s.op = 5
      · simp [c]; omega
      · simp [c]
    | succ i =>
      simp at h
      have := ih h
      simp only [List.set_cons_succ, says, List.map_cons, List.sum_cons] at this ⊢
      omega
theorem act_said (S : Sc) (i : Nat) (s : Stp) : (actS S i s).said.length = S.said.length + if s.op = 5 then 1 else 0 := by
  unfold actS
  by_cases e1 : s.op = 1
  · rw [if_pos e1, if_neg (by omega)]; rfl
  · rw [if_neg e1]
    by_cases e2 : s.op = 2
    · rw [if_pos e2, if_neg (by omega)]; rfl
    · rw [if_neg e2]
      by_cases e3 : s.op = 3
      · rw [if_pos e3, if_neg (by omega)]; rfl
      · rw [if_neg e3]
        by_cases e5 : s.op = 5
        · rw [if_pos e5, if_pos e5]; simp
        · rw [if_neg e5, if_neg e5]; rfl
theorem lens_zero {l : List (List Stp)} (h : lens l = 0) : ∀ t ∈ l, t = [] := by
  induction l with
  | nil => intro t ht; cases ht
  | cons a l ih =>
    rw [lens_cons] at h
    intro t ht
    rcases List.mem_cons.1 ht with e | e
    · rw [e]; exact List.eq_nil_of_length_eq_zero (by omega)
    · exact ih (by omega) t e
theorem says_zero {l : List (List Stp)} (h : lens l = 0) : says l = 0 := by
  induction l with
  | nil => rfl
  | cons a l ih =>
    rw [lens_cons] at h
    have := ih (by omega)
    simp only [says, List.map_cons, List.sum_cons] at this ⊢
    rw [this, List.eq_nil_of_length_eq_zero (show a.length = 0 by omega)]
    rfl
theorem done_zero {S : Sc} (h : lens S.ahead = 0) : doneS S = true := by
  unfold doneS
  rw [List.all_eq_true]
  intro t ht
  rw [lens_zero h t ht]
  rfl
theorem done_of {S : Sc} (h : doneS S = true) : lens S.ahead = 0 := by
  unfold doneS at h
  rw [List.all_eq_true] at h
  have : ∀ l : List (List Stp), (∀ t ∈ l, t.isEmpty = true) → lens l = 0 := fun l => by
    induction l with
    | nil => intro _; rfl
    | cons a l ih =>
      intro hh
      rw [lens_cons, ih (fun t ht => hh t (List.mem_cons_of_mem _ ht))]
      have := hh a (by simp)
      simp at this
      rw [this]; rfl
  exact this _ h
theorem go_done_code {S : Sc} (p : Int) (h0 : S.over = false) (h : lens S.ahead = 0) : goS S p = (0, 22, S) := by
  unfold goS
  rw [if_neg (by rw [h0]; simp), if_pos (done_zero h)]
theorem mem_able {S : Sc} {i : Nat} {s : Stp} {r : List Stp} (h0 : S.over = false) (hi : S.ahead[i]? = some (s :: r)) (hw : waitsS S s = false) : i ∈ ableS S := by
  unfold ableS ablesTo
  rw [if_neg (by rw [h0]; simp)]
  refine List.mem_filter.2 ⟨List.mem_range.2 (List.getElem?_eq_some_iff.1 hi).1, ?_⟩
  rw [List.getD_eq_getElem?_getD, hi]
  show (!waitsS S s) = true
  rw [hw]
  rfl
def fairT (k : Int) (i : Nat) : List Stp := [⟨1, k, 0⟩, ⟨1, k + 1, 0⟩, ⟨5, (i : Int), 0⟩, ⟨2, k, 0⟩, ⟨2, k + 1, 0⟩]
def holds (k : Int) (p : Nat) (l : Int) : Prop := (l = k ∧ 1 ≤ p ∧ p ≤ 3) ∨ (l = k + 1 ∧ 2 ≤ p ∧ p ≤ 4)
structure FI (K : Nat → Int) (n : Nat) (S : Sc) (pos : Nat → Nat) : Prop where
  over : S.over = false
  len : S.ahead.length = n
  ahead : ∀ i, i < n → S.ahead[i]? = some ((fairT (K i) i).drop (pos i))
  le : ∀ i, i < n → pos i ≤ 5
  hold : ∀ l i, S.hold l = some i ↔ (i < n ∧ holds (K i) (pos i) l)
variable {K : Nat → Int} {n : Nat} {S : Sc} {pos : Nat → Nat}
theorem FI.next (h : FI K n S pos) {i : Nat} (hi : i < n) (S' : Sc) {r : List Stp} (h1 : S'.over = false) (h2 : S'.ahead = S.ahead.set i r) (h3 : r = (fairT (K i) i).drop (pos i + 1)) (h4 : pos i + 1 ≤ 5)
    (h5 : ∀ l j, S'.hold l = some j ↔ (j < n ∧ holds (K j) (if j = i then pos i + 1 else pos j) l)) : FI K n S' (fun j => if j = i then pos i + 1 else pos j) := by
  refine ⟨h1, by rw [h2, List.length_set]; exact h.len, fun j hj => ?_, fun j hj => ?_, h5⟩
  · rw [h2]
    by_cases e : j = i
    · subst e
      rw [List.getElem?_set_self (by rw [h.len]; exact hj), if_pos rfl, h3]
    · rw [List.getElem?_set_ne (fun z => e z.symm), if_neg e]
      exact h.ahead j hj
  · show (if j = i then pos i + 1 else pos j) ≤ 5
    split
    · exact h4
    · exact h.le j hj
theorem FI.step (h : FI K n S pos) {i : Nat} (hi : i < n) {s : Stp} {r : List Stp} (hs : S.ahead[i]? = some (s :: r)) (hw : waitsS S s = false) :
    ∃ S', stepS S i = (0, S') ∧ (∃ pos', FI K n S' pos') ∧ lens S'.ahead + 1 = lens S.ahead ∧ says S'.ahead + S'.said.length = says S.ahead + S.said.length := by
  have hH := h.hold
  have ha := h.ahead i hi
  rw [hs] at ha
  injection ha with ha
  have h1 := lens_set hs
  have h2 := says_set hs
  have h3 := act_said S i s
  have hp5 : pos i < 5 := by
    rcases Nat.lt_or_ge (pos i) 5 with z | z
    · exact z
    · have : (fairT (K i) i).drop (pos i) = [] := List.drop_eq_nil_of_le (by simp [fairT]; omega)
      rw [this] at ha; cases ha
  have go : ¬ (s.op = 2 ∧ S.hold s.a ≠ some i) → (∀ l j, (actS S i s).hold l = some j ↔ (j < n ∧ holds (K j) (if j = i then pos i + 1 else pos j) l)) → (actS S i s).over = S.over → r = (fairT (K i) i).drop (pos i + 1) → ∃ S', stepS S i = (0, S') ∧ (∃ pos', FI K n S' pos') ∧ lens S'.ahead + 1 = lens S.ahead ∧ says S'.ahead + S'.said.length = says S.ahead + S.said.length := fun hok hh hov hr =>
    ⟨_, step_ok hs hok, ⟨_, h.next hi _ (by show (actS S i s).over = false; rw [hov]; exact h.over) rfl hr (by omega) hh⟩, h1, by
      show says (S.ahead.set i r) + (actS S i s).said.length = _
      rw [h3]; omega⟩
  obtain ⟨p, hp⟩ : ∃ p, pos i = p := ⟨_, rfl⟩
  have Hi := fun l => hH l i
  rw [hp] at ha hp5 go Hi
  have hne : ∀ l j, S.hold l = none → ¬ (j < n ∧ holds (K j) (pos j) l) := fun l j hl z => by
    have := (hH l j).2 z
    rw [hl] at this; cases this
  match p, hp5 with
  | 0, _ =>
    simp [fairT] at ha
    obtain ⟨rfl, rfl⟩ := ha
    have hn : S.hold (K i) = none := by simpa [waitsS] using hw
    refine go (by simp) (fun l j => ?_) (by rw [act_lock]) rfl
    rw [act_lock]
    show (if l = K i then some i else S.hold l) = some j ↔ _
    by_cases e : l = K i
    · rw [if_pos e]
      by_cases ej : j = i
      · subst ej; simp [holds, e, hi]
      · rw [if_neg ej]
        constructor
        · intro z; injection z with z; exact absurd z.symm ej
        · intro z; exact absurd (e ▸ z) (hne (K i) j hn)
    · rw [if_neg e, hH l j]
      by_cases ej : j = i
      · subst ej; rw [if_pos rfl, hp]; simp only [holds]; omega
      · rw [if_neg ej]
  | 1, _ =>
    simp [fairT] at ha
    obtain ⟨rfl, rfl⟩ := ha
    have hn : S.hold (K i + 1) = none := by simpa [waitsS] using hw
    refine go (by simp) (fun l j => ?_) (by rw [act_lock]) rfl
    rw [act_lock]
    show (if l = K i + 1 then some i else S.hold l) = some j ↔ _
    by_cases e : l = K i + 1
    · rw [if_pos e]
      by_cases ej : j = i
      · subst ej; simp [holds, e, hi]
      · rw [if_neg ej]
        constructor
        · intro z; injection z with z; exact absurd z.symm ej
        · intro z; exact absurd (e ▸ z) (hne (K i + 1) j hn)
    · rw [if_neg e, hH l j]
      by_cases ej : j = i
      · subst ej; rw [if_pos rfl, hp]; simp only [holds]; omega
      · rw [if_neg ej]
  | 2, _ =>
    simp [fairT] at ha
    obtain ⟨rfl, rfl⟩ := ha
    refine go (by simp) (fun l j => ?_) (by rw [act_say]) rfl
    rw [act_say]
    show S.hold l = some j ↔ _
    rw [hH l j]
    by_cases ej : j = i
    · subst ej; rw [if_pos rfl, hp]; simp only [holds]; omega
    · rw [if_neg ej]
  | 3, _ =>
    simp [fairT] at ha
    obtain ⟨rfl, rfl⟩ := ha
    have hn : S.hold (K i) = some i := (Hi (K i)).2 ⟨hi, by simp [holds]⟩
    refine go (fun z => z.2 hn) (fun l j => ?_) (by rw [act_unlock]) rfl
    rw [act_unlock]
    show (if l = K i then none else S.hold l) = some j ↔ _
    by_cases e : l = K i
    · rw [if_pos e]
      constructor
      · intro z; cases z
      · rintro ⟨z1, z2⟩
        by_cases ej : j = i
        · subst ej; rw [if_pos rfl] at z2; simp only [holds] at z2; omega
        · rw [if_neg ej] at z2
          have := (hH (K i) j).2 ⟨z1, e ▸ z2⟩
          rw [hn] at this; injection this with this; exact absurd this.symm ej
    · rw [if_neg e, hH l j]
      by_cases ej : j = i
      · subst ej; rw [if_pos rfl, hp]; simp only [holds]; omega
      · rw [if_neg ej]
  | 4, _ =>
    simp [fairT] at ha
    obtain ⟨rfl, rfl⟩ := ha
    have hn : S.hold (K i + 1) = some i := (Hi (K i + 1)).2 ⟨hi, by simp [holds]⟩
    refine go (fun z => z.2 hn) (fun l j => ?_) (by rw [act_unlock]) rfl
    rw [act_unlock]
    show (if l = K i + 1 then none else S.hold l) = some j ↔ _
    by_cases e : l = K i + 1
    · rw [if_pos e]
      constructor
      · intro z; cases z
      · rintro ⟨z1, z2⟩
        by_cases ej : j = i
        · subst ej; rw [if_pos rfl] at z2; simp only [holds] at z2; omega
        · rw [if_neg ej] at z2
          have := (hH (K i + 1) j).2 ⟨z1, e ▸ z2⟩
          rw [hn] at this; injection this with this; exact absurd this.symm ej
    · rw [if_neg e, hH l j]
      by_cases ej : j = i
      · subst ej; rw [if_pos rfl, hp]; simp only [holds]; omega
      · rw [if_neg ej]
/-- Someone can go on, as long as there is something to do. -/
theorem FI.able (h : FI K n S pos) (hK : ∀ i, i < n → K i ≤ 7) (hl : 0 < lens S.ahead) : ableS S ≠ [] := by
  intro hno
  have stuck : ∀ i, i < n → ∀ s r, S.ahead[i]? = some (s :: r) → waitsS S s = true := fun i hi s r hs => by
    cases e : waitsS S s with
    | true => rfl
    | false => have := mem_able h.over hs e; rw [hno] at this; cases this
  have hH := h.hold
  have p5 : ∀ i, i < n → pos i = 0 ∨ pos i = 1 ∨ pos i = 5 := fun i hi => by
    have ha := h.ahead i hi
    have le := h.le i hi
    have key : ∀ s r, (fairT (K i) i).drop (pos i) = s :: r → waitsS S s = true := fun s r e => stuck i hi s r (by rw [ha, e])
    rcases Nat.lt_or_ge (pos i) 5 with z | z
    · obtain ⟨p, hp⟩ : ∃ p, pos i = p := ⟨_, rfl⟩
      rw [hp] at key z ⊢
      match p, z with
      | 0, _ => exact Or.inl rfl
      | 1, _ => exact Or.inr (Or.inl rfl)
      | 2, _ => have := key _ _ rfl; simp [waitsS] at this
      | 3, _ => have := key _ _ rfl; simp [waitsS] at this
      | 4, _ => have := key _ _ rfl; simp [waitsS] at this
    · omega
  have p1 : ∀ m : Nat, ∀ i, i < n → pos i = 1 → (8 - K i).toNat ≤ m → False := fun m => by
    induction m with
    | zero => intro i hi hp hm; have := hK i hi; omega
    | succ m ih =>
      intro i hi hp hm
      have ha := h.ahead i hi
      rw [hp] at ha
      have := stuck i hi _ _ ha
      simp only [waitsS, if_true] at this
      obtain ⟨j, hj⟩ := Option.isSome_iff_exists.1 this
      obtain ⟨j1, j2⟩ := (hH _ j).1 hj
      rcases p5 j j1 with e | e | e
      · rw [e] at j2; simp only [holds] at j2; omega
      · rw [e] at j2
        simp only [holds] at j2
        have := hK j j1
        exact ih j j1 e (by omega)
      · rw [e] at j2; simp only [holds] at j2; omega
  have p0 : ∀ i, i < n → pos i ≠ 0 := fun i hi hp => by
    have ha := h.ahead i hi
    rw [hp] at ha
    have := stuck i hi _ _ ha
    simp only [waitsS, if_true] at this
    obtain ⟨j, hj⟩ := Option.isSome_iff_exists.1 this
    obtain ⟨j1, j2⟩ := (hH _ j).1 hj
    rcases p5 j j1 with e | e | e
    · rw [e] at j2; simp only [holds] at j2; omega
    · exact p1 _ j j1 e (Nat.le_refl _)
    · rw [e] at j2; simp only [holds] at j2; omega
  have all : lens S.ahead = 0 := by
    refine done_of ?_
    rw [done_all]
    intro i t hi
    have hin : i < n := by rw [← h.len]; exact (List.getElem?_eq_some_iff.1 hi).1
    rw [h.ahead i hin] at hi
    injection hi with hi
    rw [← hi]
    rcases p5 i hin with e | e | e
    · exact absurd e (p0 i hin)
    · exact absurd (p1 _ i hin e (Nat.le_refl _)) id
    · rw [e]; rfl
  omega
theorem FI.go (h : FI K n S pos) (hK : ∀ i, i < n → K i ≤ 7) (hl : 0 < lens S.ahead) (p : Int) : ∃ i S', goS S p = (i, 0, S') ∧ i < n ∧ (∃ pos', FI K n S' pos') ∧ lens S'.ahead + 1 = lens S.ahead ∧ says S'.ahead + S'.said.length = says S.ahead + S.said.length := by
  have hd : doneS S = false := by
    cases e : doneS S with
    | false => rfl
    | true => have := done_of e; omega
  obtain ⟨i, hi, hg⟩ := go_pick p h.over hd (h.able hK hl)
  obtain ⟨s, r, hs, hw⟩ := able_mem hi
  have hin : i < n := by rw [← h.len]; exact (List.getElem?_eq_some_iff.1 hs).1
  obtain ⟨S', e1, e2, e3, e4⟩ := h.step hin hs hw
  exact ⟨i, S', by rw [hg, e1], hin, e2, e3, e4⟩
end Go.Proofs.Ythbohbhjegjniaa
