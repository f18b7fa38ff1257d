/- J02 of the proof of both laws: texts Pg, VmA, VmB, one behind the other. -/
import Derived.Test.YtlfcnaalkjpgnaaJ01
import Derived.RowKit3
/- The landed package's rows of pages, as plain lists: what a list of rows says of the pages, and what its changes say. No program is spoken of. -/
namespace Go.Proofs.Sp

/-- Rows (first page, state) cover the pages from a up to b as f says. -/
def Seg (f : Nat → Nat) : Nat → List (Nat × Nat) → Nat → Prop
  | a, [], b => a = b
  | a, x :: r, b => x.1 = a ∧ ∃ c, a < c ∧ (∀ p, a ≤ p → p < c → f p = x.2) ∧ Seg f c r b
/-- Where row i begins (or all end). -/
def startR (R : List (Nat × Nat)) (L i : Nat) : Nat := (R[i]?.map (·.1)).getD L
theorem startR_lt {R : List (Nat × Nat)} {L i : Nat} (h : i < R.length) : startR R L i = R[i].1 := by simp [startR, h]
theorem startR_ge {R : List (Nat × Nat)} {L i : Nat} (h : R.length ≤ i) : startR R L i = L := by simp [startR, h]
theorem startR_cons (x : Nat × Nat) (r : List (Nat × Nat)) (L i : Nat) : startR (x :: r) L (i + 1) = startR r L i := by simp [startR]

theorem Seg.le {f : Nat → Nat} : ∀ {a : Nat} {R : List (Nat × Nat)} {b : Nat}, Seg f a R b → a ≤ b
  | a, [], b, h => by have : a = b := h; omega
  | a, x :: r, b, h => by obtain ⟨_, c, h1, _, h2⟩ := h; have := h2.le; omega
theorem Seg.start {f : Nat → Nat} {a b : Nat} {R : List (Nat × Nat)} (h : Seg f a R b) : startR R b 0 = a := by
  cases R with
  | nil => have : a = b := h; simp [startR, this]
  | cons x r => simp [startR]; exact h.1
theorem Seg.congr {f g : Nat → Nat} : ∀ {a : Nat} {R : List (Nat × Nat)} {b : Nat}, Seg f a R b → (∀ p, a ≤ p → p < b → g p = f p) → Seg g a R b
  | a, [], b, h, _ => h
  | a, x :: r, b, h, hg => by
    obtain ⟨h0, c, h1, h2, h3⟩ := h
    have := h3.le
    exact ⟨h0, c, h1, fun p p1 p2 => by rw [hg p p1 (by omega)]; exact h2 p p1 p2, h3.congr fun p p1 p2 => hg p (by omega) p2⟩
theorem Seg.append {f : Nat → Nat} : ∀ {a : Nat} {A : List (Nat × Nat)} {c : Nat} {B : List (Nat × Nat)} {b : Nat}, Seg f a A c → Seg f c B b → Seg f a (A ++ B) b
  | a, [], c, B, b, h1, h2 => by have : a = c := h1; subst this; exact h2
  | a, x :: r, c, B, b, h1, h2 => by
    obtain ⟨h0, d, h3, h4, h5⟩ := h1
    exact ⟨h0, d, h3, h4, h5.append h2⟩
theorem Seg.take {f : Nat → Nat} : ∀ {a : Nat} {R : List (Nat × Nat)} {b : Nat} (i : Nat), Seg f a R b → Seg f a (R.take i) (startR R b i)
  | a, R, b, 0, h => by rw [h.start]; exact (rfl : a = a)
  | a, [], b, i + 1, h => by rw [startR_ge (by simp)]; exact h
  | a, x :: r, b, i + 1, h => by
    obtain ⟨h0, c, h1, h2, h3⟩ := h
    rw [startR_cons]
    exact ⟨h0, c, h1, h2, h3.take i⟩
theorem Seg.drop {f : Nat → Nat} : ∀ {a : Nat} {R : List (Nat × Nat)} {b : Nat} (i : Nat), Seg f a R b → Seg f (startR R b i) (R.drop i) b
  | a, R, b, 0, h => by rw [h.start]; exact h
  | a, [], b, i + 1, h => by rw [startR_ge (by simp)]; exact (rfl : b = b)
  | a, x :: r, b, i + 1, h => by
    obtain ⟨h0, c, h1, h2, h3⟩ := h
    rw [startR_cons]
    exact h3.drop i
theorem Seg.row {f : Nat → Nat} : ∀ {a : Nat} {R : List (Nat × Nat)} {b : Nat} (_ : Seg f a R b) (i : Nat) (hi : i < R.length), a ≤ R[i].1 ∧ R[i].1 < startR R b (i + 1) ∧ startR R b (i + 1) ≤ b ∧ ∀ p, R[i].1 ≤ p → p < startR R b (i + 1) → f p = R[i].2
  | a, [], b, h, i, hi => absurd hi (by simp)
  | a, x :: r, b, h, 0, hi => by
    obtain ⟨h0, c, h1, h2, h3⟩ := h
    have e : startR (x :: r) b (0 + 1) = c := by rw [startR_cons]; exact h3.start
    have := h3.le
    rw [e]
    refine ⟨by show a ≤ x.1; omega, by show x.1 < c; omega, this, fun p p1 p2 => h2 p ?_ p2⟩
    have : x.1 ≤ p := p1
    omega
  | a, x :: r, b, h, i + 1, hi => by
    obtain ⟨h0, c, h1, h2, h3⟩ := h
    have := h3.row i (by simpa using hi)
    rw [startR_cons]
    obtain ⟨q1, q2, q3, q4⟩ := this
    exact ⟨by show a ≤ (r[i]'_).1; omega, q2, q3, q4⟩
/-- Rows begin one behind the other. -/
theorem Seg.rise {f : Nat → Nat} {a b : Nat} {R : List (Nat × Nat)} (h : Seg f a R b) {i j : Nat} (hij : i < j) (hi : i < R.length) : R[i].1 < startR R b j := by
  induction j with
  | zero => omega
  | succ j ih =>
    by_cases e : i = j
    · subst e; exact (h.row i hi).2.1
    · have h1 := ih (by omega)
      by_cases hj : j < R.length
      · rw [startR_lt hj] at h1
        have := (h.row j hj).2.1
        omega
      · rw [startR_ge (by omega)] at h1
        rw [startR_ge (by omega)]; exact h1
theorem Seg.pair {f : Nat → Nat} {a b : Nat} {R : List (Nat × Nat)} (h : Seg f a R b) : (R.map (·.1)).Pairwise (· < ·) := by
  rw [List.pairwise_iff_getElem]
  intro i j hi hj hij
  simp only [List.length_map] at hi hj
  simp only [List.getElem_map]
  have := h.rise hij hi
  rwa [startR_lt hj] at this
/-- The row of a page. -/
theorem Seg.at {f : Nat → Nat} : ∀ {a : Nat} {R : List (Nat × Nat)} {b : Nat} (_ : Seg f a R b) (p : Nat), a ≤ p → p < b → ∃ (i : Nat) (h : i < R.length), R[i].1 ≤ p ∧ p < startR R b (i + 1)
  | a, [], b, h, p, h1, h2 => by have : a = b := h; omega
  | a, x :: r, b, h, p, h1, h2 => by
    obtain ⟨h0, c, g1, g2, h3⟩ := h
    by_cases e : p < c
    · refine ⟨0, by simp, by show x.1 ≤ p; omega, ?_⟩
      rw [startR_cons, h3.start]; exact e
    · obtain ⟨i, hi, q1, q2⟩ := h3.at p (by omega) h2
      exact ⟨i + 1, by simpa using hi, q1, by rw [startR_cons]; exact q2⟩
/-- .. is one alone. -/
theorem Seg.at_one {f : Nat → Nat} {a b : Nat} {R : List (Nat × Nat)} (h : Seg f a R b) {p i j : Nat} (hi : i < R.length) (hj : j < R.length) (i1 : R[i].1 ≤ p) (i2 : p < startR R b (i + 1)) (j1 : R[j].1 ≤ p) (j2 : p < startR R b (j + 1)) : i = j := by
  by_cases l : i < j
  · by_cases e : j = i + 1
    · subst e; rw [startR_lt hj] at i2; omega
    · have h1 : i + 1 < R.length := by omega
      have := h.rise (i := i + 1) (j := j) (by omega) h1
      rw [startR_lt h1] at i2
      rw [startR_lt hj] at this
      omega
  · by_cases g : j < i
    · by_cases e : i = j + 1
      · subst e; rw [startR_lt hi] at j2; omega
      · have h1 : j + 1 < R.length := by omega
        have := h.rise (i := j + 1) (j := i) (by omega) h1
        rw [startR_lt h1] at j2
        rw [startR_lt hi] at this
        omega
    · omega

/-- No two neighbours have one state. -/
def Alt : List (Nat × Nat) → Prop
  | [] => True
  | [_] => True
  | x :: y :: r => x.2 ≠ y.2 ∧ Alt (y :: r)
theorem Alt.tail {x : Nat × Nat} {r : List (Nat × Nat)} (h : Alt (x :: r)) : Alt r := by
  cases r with
  | nil => trivial
  | cons y r => exact h.2
theorem Alt.get : ∀ {R : List (Nat × Nat)} (_ : Alt R) (i : Nat) (h : i + 1 < R.length), R[i].2 ≠ R[i + 1].2
  | [], _, i, h => absurd h (by simp)
  | [_], _, i, h => absurd h (by simp)
  | x :: y :: r, hA, 0, h => hA.1
  | x :: y :: r, hA, i + 1, h => hA.2.get i (by simpa using h)
theorem Alt.of : ∀ {R : List (Nat × Nat)}, (∀ (i : Nat) (h : i + 1 < R.length), R[i].2 ≠ R[i + 1].2) → Alt R
  | [], _ => trivial
  | [_], _ => trivial
  | x :: y :: r, h => ⟨h 0 (by simp), Alt.of fun i hi => h (i + 1) (by simpa using hi)⟩
theorem Alt.take {R : List (Nat × Nat)} (h : Alt R) (k : Nat) : Alt (R.take k) :=
  Alt.of fun i hi => by
    rw [List.length_take] at hi
    rw [List.getElem_take, List.getElem_take]
    exact h.get i (by omega)
theorem Alt.drop {R : List (Nat × Nat)} (h : Alt R) (k : Nat) : Alt (R.drop k) :=
  Alt.of fun i hi => by
    rw [List.length_drop] at hi
    rw [List.getElem_drop, List.getElem_drop]
    exact h.get (k + i) (by omega)
theorem Alt.append : ∀ {A B : List (Nat × Nat)}, Alt A → Alt B → (∀ x ∈ A.getLast?, ∀ y ∈ B.head?, x.2 ≠ y.2) → Alt (A ++ B)
  | [], B, _, hB, _ => hB
  | [x], [], _, _, _ => trivial
  | [x], y :: B, _, hB, h => ⟨h x rfl y rfl, hB⟩
  | x :: y :: r, B, hA, hB, h => ⟨hA.1, Alt.append (A := y :: r) hA.2 hB (fun z hz => h z (by rw [List.getLast?_cons_cons]; exact hz))⟩

/-! ### Pages from first to e are given a state -/
def putSt (f : Nat → Nat) (first e s p : Nat) : Nat := if first ≤ p ∧ p < e then s else f p
/-- What stands ahead: rows up to first, and the pages from there on as its last row. -/
theorem head_part {f : Nat → Nat} {R : List (Nat × Nat)} {L first e' s i : Nat} (h : Seg f 0 R L) (hA : Alt R) (hi : i < R.length) (h1 : R[i].1 ≤ first) (h2 : first < startR R L (i + 1)) (he : first < e')
    (fr : Nat) (hfr : fr = if R[i].1 < first then i + 1 else i) (F1 : List (Nat × Nat)) (hF : F1 = if fr = 0 ∨ (R[fr - 1]?.map (·.2)) ≠ some s then [(first, s)] else [])
    (g : Nat → Nat) (g1 : ∀ p, p < first → g p = f p) (g2 : ∀ p, first ≤ p → p < e' → g p = s) :
    Seg g 0 (R.take fr ++ F1) e' ∧ Alt (R.take fr ++ F1) ∧ ∀ x ∈ (R.take fr ++ F1).getLast?, x.2 = s := by
  have hfl : fr ≤ R.length := by rw [hfr]; split <;> omega
  -- the rows ahead, cut at first
  have hcut : ∀ d, first ≤ d → (∀ p, first ≤ p → p < d → fr ≠ 0 → g p = (R[fr - 1]?.map (·.2)).getD 0) → (fr = 0 → d = first) → Seg g 0 (R.take fr) d := by
    intro d hd hg hd0
    by_cases c : R[i].1 < first
    · rw [if_pos c] at hfr
      subst hfr
      rw [show i + 1 - 1 = i by omega] at hg
      have a := (h.take i).congr (g := g) fun p _ p2 => g1 p (by rw [startR_lt hi] at p2; omega)
      rw [startR_lt hi] at a
      rw [← List.take_append_getElem hi]
      refine a.append ⟨rfl, d, by omega, fun p p1 p2 => ?_, rfl⟩
      by_cases q : p < first
      · rw [g1 p q]; exact (h.row i hi).2.2.2 p p1 (by omega)
      · have := hg p (by omega) p2 (by omega)
        rw [this, List.getElem?_eq_getElem hi]; rfl
    · rw [if_neg c] at hfr
      subst hfr
      have e1 : R[fr].1 = first := by omega
      by_cases z : fr = 0
      · subst z
        have e0 : R[0].1 = 0 := by have := h.start; rwa [startR_lt hi] at this
        rw [hd0 rfl, ← e1, e0]; exact (rfl : (0 : Nat) = 0)
      · obtain ⟨k, rfl⟩ : ∃ k, fr = k + 1 := ⟨fr - 1, by omega⟩
        have hk : k < R.length := by omega
        rw [show k + 1 - 1 = k by omega] at hg
        have a := (h.take k).congr (g := g) fun p _ p2 => g1 p (by have := (h.row k hk).2.1; rw [startR_lt hk] at p2; rw [startR_lt hi] at this; omega)
        rw [startR_lt hk] at a
        rw [← List.take_append_getElem hk]
        have r := h.row k hk
        rw [startR_lt hi, e1] at r
        refine a.append ⟨rfl, d, by omega, fun p p1 p2 => ?_, rfl⟩
        by_cases q : p < first
        · rw [g1 p q]; exact r.2.2.2 p p1 q
        · have := hg p (by omega) p2 (by omega)
          rw [this, List.getElem?_eq_getElem hk]; rfl
  have hl : fr ≠ 0 → (R.take fr).getLast? = R[fr - 1]? := fun z => by
    rw [List.getLast?_take, if_neg z, List.getElem?_eq_getElem (by omega)]; rfl
  by_cases c : fr = 0 ∨ (R[fr - 1]?.map (·.2)) ≠ some s
  · rw [if_pos c] at hF
    subst hF
    refine ⟨(hcut first (Nat.le_refl _) (fun p p1 p2 => by omega) (fun _ => rfl)).append ⟨rfl, e', he, g2, rfl⟩, (hA.take fr).append trivial ?_, ?_⟩
    · intro x hx y hy
      have : (first, s) = y := by simpa using hy
      subst this
      rcases c with c | c
      · subst c; simp at hx
      · by_cases z : fr = 0
        · subst z; simp at hx
        · rw [hl z] at hx
          rw [Option.mem_def.1 hx] at c
          intro hxs
          exact c (congrArg some hxs)
    · intro x hx
      rw [List.getLast?_append] at hx
      have : (first, s) = x := by simpa using hx
      rw [← this]
  · rw [if_neg c] at hF
    subst hF
    rw [List.append_nil]
    have c1 : fr ≠ 0 := fun z => c (Or.inl z)
    have c2 : (R[fr - 1]?.map (·.2)) = some s := Classical.not_not.1 fun z => c (Or.inr z)
    refine ⟨hcut e' (by omega) (fun p p1 p2 _ => by rw [c2]; exact g2 p p1 p2) (fun z => absurd z c1), hA.take fr, fun x hx => ?_⟩
    rw [hl c1] at hx
    rw [Option.mem_def.1 hx] at c2
    simpa using c2
/-- What stands behind. -/
theorem tail_part {f : Nat → Nat} {R : List (Nat × Nat)} {L e s j : Nat} (h : Seg f 0 R L) (hA : Alt R) (hj : j < R.length) (h1 : R[j].1 < e) (h2 : e ≤ startR R L (j + 1))
    (to : Nat) (hto : to = if ¬ e < startR R L (j + 1) ∧ (R[j + 1]?.map (·.2)) = some s then j + 2 else j + 1) (F2 : List (Nat × Nat)) (hF : F2 = if e < startR R L (j + 1) ∧ R[j].2 ≠ s then [(e, R[j].2)] else []) :
    ∃ e', e ≤ e' ∧ e' ≤ L ∧ (∀ p, e ≤ p → p < e' → f p = s) ∧ Seg f e' (F2 ++ R.drop to) L ∧ Alt (F2 ++ R.drop to) ∧ (∀ y ∈ (F2 ++ R.drop to).head?, y.2 ≠ s) ∧ to ≤ R.length := by
  have r := h.row j hj
  by_cases c : e < startR R L (j + 1)
  · have hto' : to = j + 1 := by rw [hto, if_neg (fun z => z.1 c)]
    subst hto'
    by_cases d : R[j].2 = s
    · rw [if_neg (fun z => z.2 d)] at hF
      subst hF
      rw [List.nil_append]
      refine ⟨_, h2, r.2.2.1, fun p p1 p2 => by rw [← d]; exact r.2.2.2 p (by omega) p2, h.drop (j + 1), hA.drop _, fun y hy => ?_, by omega⟩
      rw [List.head?_drop] at hy
      have hy := Option.mem_def.1 hy
      obtain ⟨q1, q2⟩ := List.getElem?_eq_some_iff.1 hy
      have := hA.get j q1
      rw [q2, d] at this
      exact fun z => this z.symm
    · rw [if_pos ⟨c, d⟩] at hF
      subst hF
      refine ⟨e, Nat.le_refl _, by omega, fun p p1 p2 => by omega, ⟨rfl, _, c, fun p p1 p2 => r.2.2.2 p (by omega) p2, h.drop (j + 1)⟩, Alt.append (A := [(e, R[j].2)]) trivial (hA.drop _) ?_, fun y hy => ?_, by omega⟩
      · intro x hx y hy
        have : (e, R[j].2) = x := by simpa using hx
        subst this
        rw [List.head?_drop] at hy
        obtain ⟨q1, q2⟩ := List.getElem?_eq_some_iff.1 (Option.mem_def.1 hy)
        have := hA.get j q1
        rw [q2] at this
        exact this
      · have : (e, R[j].2) = y := by simpa using hy
        subst this
        exact d
  · rw [if_neg (fun z => c z.1)] at hF
    subst hF
    rw [List.nil_append]
    have e1 : startR R L (j + 1) = e := by omega
    by_cases d : (R[j + 1]?.map (·.2)) = some s
    · rw [if_pos ⟨c, d⟩] at hto
      subst hto
      have hj1 : j + 1 < R.length := by
        by_cases q : j + 1 < R.length
        · exact q
        · rw [List.getElem?_eq_none (by omega)] at d; simp at d
      have d' : R[j + 1].2 = s := by rw [List.getElem?_eq_getElem hj1] at d; simpa using d
      have r1 := h.row (j + 1) hj1
      rw [startR_lt hj1] at e1
      refine ⟨_, by omega, r1.2.2.1, fun p p1 p2 => by rw [← d']; exact r1.2.2.2 p (by omega) p2, h.drop (j + 2), hA.drop _, fun y hy => ?_, by omega⟩
      rw [List.head?_drop] at hy
      obtain ⟨q1, q2⟩ := List.getElem?_eq_some_iff.1 (Option.mem_def.1 hy)
      have := hA.get (j + 1) q1
      rw [q2, d'] at this
      exact fun z => this z.symm
    · rw [if_neg (fun z => d z.2)] at hto
      subst hto
      have hs := h.drop (j + 1)
      rw [e1] at hs
      have hle := hs.le
      refine ⟨e, Nat.le_refl _, hle, fun p p1 p2 => by omega, hs, hA.drop _, fun y hy => ?_, by omega⟩
      rw [List.head?_drop] at hy
      rw [Option.mem_def.1 hy] at d
      intro z
      exact d (by rw [← z]; rfl)
theorem set_rows {f : Nat → Nat} {R : List (Nat × Nat)} {L first e s i j : Nat} (h : Seg f 0 R L) (hA : Alt R) (hfe : first < e)
    (hi : i < R.length) (i1 : R[i].1 ≤ first) (i2 : first < startR R L (i + 1)) (hj : j < R.length) (j1 : R[j].1 < e) (j2 : e ≤ startR R L (j + 1))
    (fr : Nat) (hfr : fr = if R[i].1 < first then i + 1 else i) (F1 : List (Nat × Nat)) (hF1 : F1 = if fr = 0 ∨ (R[fr - 1]?.map (·.2)) ≠ some s then [(first, s)] else [])
    (to : Nat) (hto : to = if ¬ e < startR R L (j + 1) ∧ (R[j + 1]?.map (·.2)) = some s then j + 2 else j + 1) (F2 : List (Nat × Nat)) (hF2 : F2 = if e < startR R L (j + 1) ∧ R[j].2 ≠ s then [(e, R[j].2)] else []) :
    Seg (putSt f first e s) 0 (R.take fr ++ (F1 ++ F2) ++ R.drop to) L ∧ Alt (R.take fr ++ (F1 ++ F2) ++ R.drop to) ∧ fr ≤ to ∧ to ≤ R.length := by
  obtain ⟨e', he, heL, hs, t1, t2, t3, t4⟩ := tail_part h hA hj j1 j2 to hto F2 hF2
  have hp := head_part h hA hi i1 i2 (show first < e' by omega) fr hfr F1 hF1 (putSt f first e s) (fun p hp => by unfold putSt; rw [if_neg (by omega)]) (fun p p1 p2 => by
    unfold putSt
    by_cases q : p < e
    · rw [if_pos ⟨p1, q⟩]
    · rw [if_neg (by omega)]; exact hs p (by omega) p2)
  obtain ⟨p1, p2, p3⟩ := hp
  have e1 : R.take fr ++ (F1 ++ F2) ++ R.drop to = (R.take fr ++ F1) ++ (F2 ++ R.drop to) := by simp [List.append_assoc]
  have hij : i ≤ j := by
    by_cases c : i ≤ j
    · exact c
    · have := h.rise (i := j) (j := i) (by omega) hj
      have k1 : j + 1 < R.length := by omega
      by_cases d : i = j + 1
      · subst d; rw [startR_lt hi] at j2; omega
      · have := h.rise (i := j + 1) (j := i) (by omega) k1
        rw [startR_lt hi] at this; rw [startR_lt k1] at j2; omega
  rw [e1]
  refine ⟨p1.append (t1.congr fun p q1 q2 => by unfold putSt; rw [if_neg (by omega)]), p2.append t2 fun x hx y hy => by rw [p3 x hx]; exact fun z => t3 y hy z.symm, ?_, t4⟩
  have a1 : fr ≤ i + 1 := by rw [hfr]; split <;> omega
  have a2 : j + 1 ≤ to := by rw [hto]; split <;> omega
  omega

/-! ### Parts -/
/-- Parts (first, end, state) cover the pages from a up to b as f says. -/
def Cover (f : Nat → Nat) : Nat → List (Nat × Nat × Nat) → Nat → Prop
  | a, [], b => a = b
  | a, x :: r, b => x.1 = a ∧ a < x.2.1 ∧ (∀ p, a ≤ p → p < x.2.1 → f p = x.2.2) ∧ Cover f x.2.1 r b
theorem Cover.le {f : Nat → Nat} : ∀ {a : Nat} {l : List (Nat × Nat × Nat)} {b : Nat}, Cover f a l b → a ≤ b
  | a, [], b, h => by have : a = b := h; omega
  | a, x :: r, b, h => by obtain ⟨_, h1, _, h2⟩ := h; have := h2.le; omega
theorem Cover.snoc {f : Nat → Nat} : ∀ {a : Nat} {l : List (Nat × Nat × Nat)} {b : Nat} (_ : Cover f a l b) (c s : Nat), b < c → (∀ p, b ≤ p → p < c → f p = s) → Cover f a (l ++ [(b, c, s)]) c
  | a, [], b, h, c, s, h1, h2 => by have : a = b := h; subst this; exact ⟨rfl, h1, h2, rfl⟩
  | a, x :: r, b, h, c, s, h1, h2 => by obtain ⟨q0, q1, q2, q3⟩ := h; exact ⟨q0, q1, q2, q3.snoc c s h1 h2⟩
theorem Cover.all {f : Nat → Nat} (P : Nat → Prop) : ∀ {a : Nat} {l : List (Nat × Nat × Nat)} {b : Nat}, Cover f a l b → ((∀ x ∈ l, P x.2.2) ↔ ∀ p, a ≤ p → p < b → P (f p))
  | a, [], b, h => by have : a = b := h; exact ⟨fun _ p h1 h2 => by omega, fun _ x hx => by cases hx⟩
  | a, x :: r, b, h => by
    obtain ⟨q0, q1, q2, q3⟩ := h
    have hb := q3.le
    have ih := q3.all P
    constructor
    · intro h p h1 h2
      by_cases c : p < x.2.1
      · rw [q2 p h1 c]; exact h x (by simp)
      · exact ih.1 (fun y hy => h y (by simp [hy])) p (by omega) h2
    · intro h y hy
      rcases List.mem_cons.1 hy with rfl | hy
      · have := h a (Nat.le_refl _) (by omega)
        rwa [q2 a (Nat.le_refl _) q1] at this
      · exact ih.2 (fun p h1 h2 => h p (by omega) h2) y hy
/-- How many pages of a row have a state. -/
def cntI (f : Nat → Nat) (a n k : Nat) : Nat := (List.range' a n).countP fun p => decide (f p = k)
theorem cntI_add (f : Nat → Nat) (a n m k : Nat) : cntI f a (n + m) k = cntI f a n k + cntI f (a + n) m k := by
  unfold cntI
  rw [← List.range'_append_1, List.countP_append]
theorem cntI_all {f : Nat → Nat} {a n k s : Nat} (h : ∀ p, a ≤ p → p < a + n → f p = s) : cntI f a n k = if s = k then n else 0 := by
  unfold cntI
  by_cases c : s = k
  · rw [if_pos c, List.countP_eq_length.2 (fun p hp => ?_), List.length_range']
    have := List.mem_range'_1.1 hp
    rw [h p this.1 this.2, c]; exact decide_eq_true rfl
  · rw [if_neg c, List.countP_eq_zero]
    intro p hp
    have := List.mem_range'_1.1 hp
    rw [h p this.1 this.2]; simpa using c
theorem cntI_le (f : Nat → Nat) (a n k : Nat) : cntI f a n k ≤ n := by
  unfold cntI
  have := List.countP_le_length (p := fun p => decide (f p = k)) (l := List.range' a n)
  rwa [List.length_range'] at this

/-! ### The first place -/
theorem none_begins {f : Nat → Nat} {R : List (Nat × Nat)} {L : Nat} (h : Seg f 0 R L) (hA : Alt R) (hc : ∀ p, f p = 0 ↔ f (p / 512 * 512) = 0) {i : Nat} (hi : i < R.length) (hz : R[i].2 = 0) : R[i].1 % 512 = 0 := by
  by_cases z : R[i].1 % 512 = 0
  · exact z
  · exfalso
    cases i with
    | zero => have := h.start; rw [startR_lt hi] at this; omega
    | succ k =>
      have hk : k < R.length := by omega
      have r := h.row k hk
      rw [startR_lt hi] at r
      have r1 := h.row (k + 1) hi
      have a := r.2.2.2 (R[k + 1].1 - 1) (by omega) (by omega)
      have b := r1.2.2.2 R[k + 1].1 (Nat.le_refl _) r1.2.1
      have n := hA.get k hi
      have c1 := hc (R[k + 1].1 - 1)
      have c2 := hc R[k + 1].1
      have e : (R[k + 1].1 - 1) / 512 * 512 = R[k + 1].1 / 512 * 512 := by omega
      rw [e, ← c2, a, b, hz] at c1
      rw [hz] at n
      exact n (c1.2 rfl)
end Go.Proofs.Sp

/- The landed package's rows in memory: the search for a page's row, a row's end, a page's state. -/
namespace Go.Proofs.Ytlfcnaalkjpgnaa
open Go.ChangeShapes Go.WideShapes Go.ChangeAt Go.RowKit Go.Proofs.Sp
set_option linter.unusedVariables false
set_option linter.unusedSimpArgs false

theorem hide {p : Prop} (h : p) : Hid p := h
theorem bcell {W w1 : World} (hb : Below W.heap.size W w1) : (∀ b o, b < W.heap.size → w1.cell? ⟨b, o, none⟩ = W.cell? ⟨b, o, none⟩) ∧ (∀ b o, b < W.heap.size → w1.frozen? ⟨b, o, none⟩ = W.frozen? ⟨b, o, none⟩) :=
  ⟨fun b o h => hb.cell (p := ⟨b, o, none⟩) h, fun b o h => hb.frozen (p := ⟨b, o, none⟩) h⟩
theorem cell_lt {w : World} {b o : Nat} {v : Value} (h : w.cell? ⟨b, o, none⟩ = some v) : b < w.heap.size := World.block_lt_of_cell? w ⟨b, o, none⟩ h
theorem below_drewN {B : Nat} {w0 w : World} (h : Below B w0 w) (k : Nat) : Below B w0 (w.drewN k) := ⟨h.os, h.tape, h.output, h.size, h.block⟩

/-! ### A region that draws its order, whose callees may make memory, and turn nothing that is old -/
structure Ext (w : World) where
  v : World
  h : Below w.heap.size w v
theorem ext_ne (w : World) : Nonempty (Ext w) := ⟨⟨w, Below.refl _ _⟩⟩
theorem ext_cell {w : World} (n : Ext w) (b o : Nat) (h : b < w.heap.size) : n.v.cell? ⟨b, o, none⟩ = w.cell? ⟨b, o, none⟩ := n.h.cell (p := ⟨b, o, none⟩) h
theorem ext_frozen {w : World} (n : Ext w) (b o : Nat) (h : b < w.heap.size) : n.v.frozen? ⟨b, o, none⟩ = w.frozen? ⟨b, o, none⟩ := n.h.frozen (p := ⟨b, o, none⟩) h
theorem wp_region_calm {P : Program} {id : Nat} {Q : Exit → Act → World → Prop} {a : Act} {w : World} {l : List Oper} (hm : P.follows .mixedOrders = true) (hB : Region.lexB .any l.toArray = true)
    (h : wpQuiet P l.toArray (fun w' => ∃ n : Ext w, w' = n.v) (fun a' => ∀ w', (∃ n : Ext w, w' = n.v) → Q .normal a' w') l a) : (Code.region id l.toArray true).wp P Q a w :=
  wp_region_quiet (C := fun w' => ∃ n : Ext w, w' = n.v) hm hB ⟨⟨{ w with drawn := w.drawn + 1 }, ⟨rfl, rfl, rfl, Nat.le_refl _, fun _ _ => rfl⟩⟩, rfl⟩ (by simpa using h)
theorem calm_of {P : Program} {f : FuncId} {args : Array Value} {w : World} {n : Ext w} {v : Value} (h : Calls P f args n.v fun e w' => e = .returned v ∧ Below n.v.heap.size n.v w') : Calls P f args n.v fun e w'' => e = .returned v ∧ ∃ m : Ext w, w'' = m.v :=
  h.mono fun _ w' ⟨he, hm⟩ => ⟨he, ⟨w', n.h.trans (hm.mono n.h.size)⟩, rfl⟩
theorem calm_of_same {P : Program} {f : FuncId} {args : Array Value} {w : World} {n : Ext w} {v : Value} (h : Calls P f args n.v fun e w' => e = .returned v ∧ w' = n.v) : Calls P f args n.v fun e w'' => e = .returned v ∧ ∃ m : Ext w, w'' = m.v :=
  h.mono fun _ w' ⟨he, hm⟩ => ⟨he, n, hm⟩

/-- The rows' list, as its cells hold it: the list's own cell at ⟨b, o⟩. -/
structure ListAt (w : World) (b o g cap : Nat) (R : List (Nat × Nat)) : Prop where
  list : w.cell? ⟨b, o, none⟩ = some (.slice (some ⟨g, 0, none⟩) R.length cap)
  first : ∀ i (h : i < R.length), w.cell? ⟨g, i * 2, none⟩ = some (.int .u64 (R[i].1 : Int))
  state : ∀ i (h : i < R.length), w.cell? ⟨g, i * 2 + 1, none⟩ = some (.int .i64 (R[i].2 : Int))
theorem ListAt.below {w w' : World} {b o g cap : Nat} {R : List (Nat × Nat)} (h : ListAt w b o g cap R) (hb : Below w.heap.size w w') : ListAt w' b o g cap R :=
  ⟨by rw [hb.cell (p := ⟨b, o, none⟩) (cell_lt h.list)]; exact h.list, fun i hi => by rw [hb.cell (p := ⟨g, i * 2, none⟩) (cell_lt (h.first i hi))]; exact h.first i hi, fun i hi => by rw [hb.cell (p := ⟨g, i * 2 + 1, none⟩) (cell_lt (h.state i hi))]; exact h.state i hi⟩

theorem ListAt.drewN {w : World} {b o g cap : Nat} {R : List (Nat × Nat)} (h : ListAt w b o g cap R) (n : Nat) : ListAt (w.drewN n) b o g cap R := ⟨h.list, h.first, h.state⟩
theorem drewN_two (w : World) (a b : Nat) : (w.drewN a).drewN b = w.drewN (a + b) := by unfold World.drewN; simp [Nat.add_assoc]
/-- Is row i's first page above a page? -/
theorem above_core (x y b o g cap : Nat) (R : List (Nat × Nat)) (p : Int) (i : Nat) (hi : i < R.length) (hn : R.length ≤ 70368744177664) (w : World)
    (hx : w.cell? ⟨x, 0, none⟩ = some (.pointer (some ⟨b, o, none⟩))) (hy : w.cell? ⟨y, 0, none⟩ = some (.int .u64 p)) (hL : ListAt w b o g cap R) :
    Calls Try.prog 77 #[.int .i64 (i : Int), .pointer (some ⟨x, 0, none⟩), .pointer (some ⟨y, 0, none⟩)] w fun e w' => e = .returned (.bool (decide (p < (R[i].1 : Int)))) ∧ ∃ k, w' = w.drewN k := by
  have h1 := hL.list
  have h2 := hL.first i hi
  obtain ⟨n, hln⟩ : ∃ n, n = R.length := ⟨_, rfl⟩
  rw [← hln] at h1 hi hn
  obtain ⟨a, ha⟩ : ∃ a, a = R[i].1 := ⟨_, rfl⟩
  rw [← ha] at h2 ⊢
  clear hln ha hL
  go_enter Try.func77, Try.ntmps77
  go_wp2
  go_quiet (fail)
  go_wp2
  go_ret
  exact ⟨rfl, _, rfl⟩
theorem ret_int {k : IntKind} {a b : Int} (h : a = b) : Ending.returned (.int k a) = .returned (.int k b) := by rw [h]
theorem at_row {f : Nat → Nat} {R : List (Nat × Nat)} {p : Int} {k : Nat} (h : Seg f 0 R 34359738368) (hp : 0 ≤ p) (hp' : p < 34359738368) (hk : k ≤ R.length ∧ (∀ i (h : i < R.length), i < k → (R[i].1 : Int) ≤ p) ∧ ∀ i (h : i < R.length), k ≤ i → p < (R[i].1 : Int)) :
    ∃ j, k = j + 1 ∧ ∃ hj : j < R.length, R[j].1 ≤ p.toNat ∧ p.toNat < startR R 34359738368 (j + 1) := by
  obtain ⟨h1, h2, h3⟩ := hk
  obtain ⟨i, hi, q1, q2⟩ := h.at p.toNat (by omega) (by omega)
  have : i < k := by
    by_cases c : i < k
    · exact c
    · have := h3 i hi (by omega); omega
  refine ⟨i, ?_, hi, q1, q2⟩
  by_cases c : k = i + 1
  · exact c
  · exfalso
    have hk : i + 1 < R.length := by omega
    have := h2 (i + 1) hk (by omega)
    rw [startR_lt hk] at q2
    omega
/-- How many rows begin at or ahead of a page. -/
theorem search_core (x y b o g cap : Nat) (R : List (Nat × Nat)) (p : Int) (hp : 0 ≤ p) (hn : R.length ≤ 70368744177664) (w : World)
    (hx : w.cell? ⟨x, 0, none⟩ = some (.pointer (some ⟨b, o, none⟩))) (hy : w.cell? ⟨y, 0, none⟩ = some (.int .u64 p)) (hL : ListAt w b o g cap R) (hs : (R.map (·.1)).Pairwise (· < ·)) :
    Calls Try.prog 76 #[.int .i64 (R.length : Int), .func (.func 77) #[] #[.pointer (some ⟨x, 0, none⟩), .pointer (some ⟨y, 0, none⟩)]] w fun e w' =>
      ∃ k : Nat, e = .returned (.int .i64 (k : Int)) ∧ (k ≤ R.length ∧ (∀ i (h : i < R.length), i < k → (R[i].1 : Int) ≤ p) ∧ ∀ i (h : i < R.length), k ≤ i → p < (R[i].1 : Int)) ∧ ∃ n, w' = w.drewN n := by
  have hs' : ∀ i j (hi : i < R.length) (hj : j < R.length), i < j → R[i].1 < R[j].1 := fun i j hi hj hij => by
    have := List.pairwise_iff_getElem.1 hs i j (by simpa using hi) (by simpa using hj) hij
    simpa using this
  have HS := hide hs'
  have HX := hide hx
  have HY := hide hy
  have HL := hide hL
  clear hs hs' hx hy hL
  go_enter Try.func76, Try.ntmps76
  go_wp2_with fail
  go_loopw [5, 6] (fun lo hi wr => ∃ (a c n : Nat), a ≤ c ∧ c ≤ R.length ∧ lo = .int .i64 (a : Int) ∧ hi = .int .i64 (c : Int) ∧ wr = w.drewN n ∧ Hid ((∀ i (h : i < R.length), i < a → (R[i].1 : Int) ≤ p) ∧ (∀ i (h : i < R.length), c ≤ i → p < (R[i].1 : Int)))) (fun lo hi _ => (intOf hi - intOf lo).toNat)
  case atStart => exact ⟨0, R.length, 0, by omega, by omega, rfl, rfl, rfl, fun i h hi => absurd hi (by omega), fun i h hi => absurd h (by omega)⟩
  case round =>
    obtain ⟨a, c, n, hac, hcn, rfl, rfl, rfl, hrs⟩ := hrel
    by_cases hlt : a < c
    · have hm : (a + c) / 2 < R.length := by omega
      obtain ⟨q, hq⟩ : ∃ q, q = R[(a + c) / 2].1 := ⟨_, rfl⟩
      have HQ := hide hq
      have ab := above_core x y b o g cap R p ((a + c) / 2) hm hn (w.drewN n) HX.out HY.out (HL.out.drewN n)
      rw [← hq] at ab
      have AB := hide ab
      clear hq ab
      by_cases ht : p < (q : Int)
      · have ht' : decide (p < (q : Int)) = true := by simpa using ht
        have AB2 : Hid (Calls Try.prog 77 #[.int .i64 (((a + c) / 2 : Nat) : Int), .pointer (some ⟨x, 0, none⟩), .pointer (some ⟨y, 0, none⟩)] (w.drewN n) fun e w' => e = .returned (.bool true) ∧ ∃ k, w' = (w.drewN n).drewN k) := by rw [← ht']; exact AB.out
        clear AB ht'
        go_wp2_with fail
        rw [show ((a : Int) + (c : Int)) / 2 = (((a + c) / 2 : Nat) : Int) by omega]
        refine AB2.out.mono ?_
        rintro e w1 ⟨rfl, k, rfl⟩
        clear AB2
        go_wp2_with fail
        go_roundw
        case rel => exact ⟨a, (a + c) / 2, n + k, by omega, by omega, rfl, by go_num, rfl, hrs.out.1, fun i h hi => by
            by_cases e : i = (a + c) / 2
            · subst e; rw [← HQ.out]; exact ht
            · have := HS.out ((a + c) / 2) i hm h (by omega)
              have := HQ.out
              omega⟩
        case measure => simp [intOf]; omega
      · have ht' : decide (p < (q : Int)) = false := by simpa using ht
        have AB2 : Hid (Calls Try.prog 77 #[.int .i64 (((a + c) / 2 : Nat) : Int), .pointer (some ⟨x, 0, none⟩), .pointer (some ⟨y, 0, none⟩)] (w.drewN n) fun e w' => e = .returned (.bool false) ∧ ∃ k, w' = (w.drewN n).drewN k) := by rw [← ht']; exact AB.out
        clear AB ht'
        go_wp2_with fail
        rw [show ((a : Int) + (c : Int)) / 2 = (((a + c) / 2 : Nat) : Int) by omega]
        refine AB2.out.mono ?_
        rintro e w1 ⟨rfl, k, rfl⟩
        clear AB2
        go_wp2_with fail
        go_roundw
        case rel => exact ⟨(a + c) / 2 + 1, c, n + k, by omega, hcn, by go_num, rfl, rfl, fun i h hi => by
            by_cases e : i = (a + c) / 2
            · subst e; rw [← HQ.out]; omega
            · have := HS.out i ((a + c) / 2) h hm (by omega)
              have := HQ.out
              omega, hrs.out.2⟩
        case measure => simp [intOf]; omega
    · have e : c = a := by omega
      subst e
      go_wp2_with fail
      go_ret
      exact ⟨c, rfl, ⟨hcn, hrs.out⟩, n, rfl⟩
/-- The row of a page. -/
theorem at_core (b o g cap : Nat) (R : List (Nat × Nat)) (f : Nat → Nat) (p : Int) (hp : 0 ≤ p) (hp' : p < 34359738368) (hn : R.length ≤ 70368744177664) (w : World) (hL : ListAt w b o g cap R) (hs : Seg f 0 R 34359738368)
    (i : Nat) (hi : i < R.length) (h1 : R[i].1 ≤ p.toNat) (h2 : p.toNat < startR R 34359738368 (i + 1)) :
    Calls Try.prog 61 #[.pointer (some ⟨b, o, none⟩), .int .u64 p] w fun e w' => e = .returned (.int .i64 (i : Int)) ∧ Below w.heap.size w w' := by
  have hmf : ∀ (fn : Fn) (first cap : Array Value) (w : World), (Instr.makeFunc fn first cap).run Try.prog w = .ok (.func fn first cap) w := fun _ _ _ _ => rfl
  have hl := hL.list
  have hlt := cell_lt hl
  have HL := hide hL
  have HS := hide hs
  have H12 := hide (And.intro h1 h2)
  clear hL hs h1 h2
  go_enter Try.func61, Try.ntmps61
  go_wp2_with fail
  refine (search_core w.heap.size (w.heap.size + 1) b o g cap R p hp hn _ (by simp [go_sem]) (by simp [go_sem]) (HL.out.below (((Below.refl _ _).alloc (Nat.le_refl _) _).alloc (by simp) _)) HS.out.pair).mono ?_
  rintro e w1 ⟨k, rfl, hk, n, rfl⟩
  obtain ⟨j, hj, hjl, hj1, hj2⟩ := at_row HS.out hp hp' hk
  have e : j = i := HS.out.at_one hjl hi hj1 hj2 H12.out.1 H12.out.2
  subst e hj
  clear hk hj1 hj2 H12
  go_wp2_with fail
  go_ret
  exact ⟨ret_int (by omega), below_drewN (((Below.refl _ _).alloc (Nat.le_refl _) _).alloc (by simp) _) n⟩
/-- Where a row ends. -/
theorem end_core (b o g cap : Nat) (R : List (Nat × Nat)) (i : Int) (hi0 : 0 ≤ i) (hi : i < R.length) (hn : R.length ≤ 70368744177664) (w : World) (hL : ListAt w b o g cap R) :
    Calls Try.prog 62 #[.pointer (some ⟨b, o, none⟩), .int .i64 i] w fun e w' => e = .returned (.int .u64 (startR R 34359738368 (i.toNat + 1) : Nat)) ∧ w' = w := by
  have hl := hL.list
  by_cases c : i.toNat + 1 < R.length
  · have h2 := hL.first (i.toNat + 1) c
    rw [startR_lt c]
    obtain ⟨x, hx⟩ : ∃ x, x = R[i.toNat + 1].1 := ⟨_, rfl⟩
    rw [← hx] at h2 ⊢
    have hd : i + 1 < R.length := by omega
    rw [show i.toNat + 1 = (i + 1).toNat by omega] at h2
    clear hx c hL
    go_enter Try.func62, Try.ntmps62
    go_wp2_with fail
    go_ret
    exact ⟨rfl, rfl⟩
  · rw [startR_ge (by omega)]
    have hd : ¬ i + 1 < R.length := by omega
    clear c hL
    go_enter Try.func62, Try.ntmps62
    go_wp2_with fail
    go_ret
    exact ⟨rfl, rfl⟩
/-- A page's state. -/
theorem state_core (b o g cap : Nat) (R : List (Nat × Nat)) (f : Nat → Nat) (p : Int) (hp : 0 ≤ p) (hn : R.length ≤ 70368744177664) (w : World) (hL : ListAt w b o g cap R) (hs : Seg f 0 R 34359738368) (hz : ∀ p, 34359738368 ≤ p → f p = 0) :
    Calls Try.prog 57 #[.pointer (some ⟨b, o, none⟩), .int .u64 p] w fun e w' => e = .returned (.int .i64 (f p.toNat : Nat)) ∧ Below w.heap.size w w' := by
  have hl := hL.list
  have hlt := cell_lt hl
  by_cases c : 34359738368 ≤ p
  · rw [hz p.toNat (by omega)]
    clear hL hs hz
    go_enter Try.func57, Try.ntmps57
    go_wp2_with fail
    go_ret
    exact ⟨rfl, Below.refl _ _⟩
  · obtain ⟨i, hi, h1, h2⟩ := hs.at p.toNat (by omega) (by omega)
    have hst := hL.state i hi
    have hsl := cell_lt hst
    rw [(hs.row i hi).2.2.2 p.toNat h1 h2]
    obtain ⟨s, hs'⟩ : ∃ s, s = R[i].2 := ⟨_, rfl⟩
    rw [← hs'] at hst ⊢
    have HL := hide hL
    have HS := hide hs
    have H12 := hide (And.intro h1 h2)
    have hx := @ext_cell w
    clear hL hs hz h1 h2 hs'
    go_enter Try.func57, Try.ntmps57
    go_wp2_with fail
    have hne := ext_ne w
    refine wp_region_calm (by kernel_rfl) (by kernel_rfl) ?_
    repeat (go_big_quiet_step ((go_at_call 61; exact calm_of (at_core b o g cap R f p hp c hn _ (HL.out.below (Ext.h _)) HS.out i hi H12.out.1 H12.out.2))))
    refine wpQuiet_nil ?_
    rintro _ ⟨n, rfl⟩
    go_wp2_with fail
    go_ret
    exact ⟨rfl, n.h⟩
end Go.Proofs.Ytlfcnaalkjpgnaa

/- The landed package's parts of rows: the two questions that are asked of them. -/
namespace Go.Proofs.Ytlfcnaalkjpgnaa
open Go.ChangeShapes Go.WideShapes Go.ChangeAt Go.RowKit Go.Proofs.Sp

/-- A slice of parts (three cells each) reads as Ps. -/
def PartsAt (w : World) (v : Value) (Ps : List (Nat × Nat × Nat)) : Prop :=
  (v = .slice none 0 0 ∧ Ps = []) ∨ ∃ g cap, v = .slice (some ⟨g, 0, none⟩) Ps.length cap ∧ g < w.heap.size ∧ ∀ i (h : i < Ps.length), w.cell? ⟨g, i * 3, none⟩ = some (.int .u64 (Ps[i].1 : Int)) ∧ w.cell? ⟨g, i * 3 + 1, none⟩ = some (.int .u64 (Ps[i].2.1 : Int)) ∧ w.cell? ⟨g, i * 3 + 2, none⟩ = some (.int .i64 (Ps[i].2.2 : Int))
theorem PartsAt.below {w w' : World} {v : Value} {Ps : List (Nat × Nat × Nat)} (h : PartsAt w v Ps) (hb : Below w.heap.size w w') : PartsAt w' v Ps := by
  rcases h with h | ⟨g, cap, h1, h2, h3⟩
  · exact Or.inl h
  · refine Or.inr ⟨g, cap, h1, Nat.lt_of_lt_of_le h2 hb.size, fun i hi => ?_⟩
    rw [hb.cell (p := ⟨g, i * 3, none⟩) h2, hb.cell (p := ⟨g, i * 3 + 1, none⟩) h2, hb.cell (p := ⟨g, i * 3 + 2, none⟩) h2]
    exact h3 i hi

theorem none_test (a b s : Int) (w : World) : Calls Try.prog 65 #[.agg #[.int .u64 a, .int .u64 b, .int .i64 s]] w fun e w' => e = .returned (.bool (s == 0)) ∧ Below w.heap.size w w' := by
  go_enter Try.func65, Try.ntmps65
  go_wp2_with fail
  go_ret
  exact ⟨rfl, (Below.refl _ _).alloc (Nat.le_refl _) _⟩
theorem ready_test (a b s : Int) (w : World) : Calls Try.prog 66 #[.agg #[.int .u64 a, .int .u64 b, .int .i64 s]] w fun e w' => e = .returned (.bool (s != 2)) ∧ Below w.heap.size w w' := by
  go_enter Try.func66, Try.ntmps66
  go_wp2_with fail
  go_ret
  exact ⟨rfl, (Below.refl _ _).alloc (Nat.le_refl _) _⟩

theorem index_none (v : Value) (Ps : List (Nat × Nat × Nat)) (hn : Ps.length ≤ 70368744177664) (w : World) (hP : PartsAt w v Ps) :
    Calls Try.prog 82 #[v, .func (.func 65) #[] #[]] w fun e w' => (∃ k : Int, e = .returned (.int .i64 k) ∧ ((k = -1 ∧ ∀ x ∈ Ps, ((x.2.2 : Int) == 0) = false) ∨ (0 ≤ k ∧ ∃ x ∈ Ps, ((x.2.2 : Int) == 0) = true))) ∧ Below w.heap.size w w' := by
  rcases hP with ⟨rfl, rfl⟩ | ⟨g, cap, rfl, hg, hc⟩
  · go_enter Try.func82, Try.ntmps82
    go_wp2_with fail
    refine wp_loop_rounds 1 ?_
    rw [rounds_succ]
    go_wp2_with fail
    go_ret
    exact ⟨⟨-1, rfl, Or.inl ⟨rfl, fun x hx => by cases hx⟩⟩, Below.refl _ _⟩
  · have HC := hide hc
    clear hc
    go_enter Try.func82, Try.ntmps82
    go_wp2_with fail
    go_loopw [8] (fun iv wr => ∃ k : Nat, k ≤ Ps.length ∧ iv = .int .i64 (k : Int) ∧ Hid (∀ j (h : j < Ps.length), j < k → ((Ps[j].2.2 : Int) == 0) = false) ∧ Below w.heap.size w wr) (fun iv _ => Ps.length - (intOf iv).toNat)
    case atStart => exact ⟨0, Nat.zero_le _, rfl, fun j h hj => absurd hj (by omega), Below.refl _ _⟩
    case round =>
      obtain ⟨k, hk, rfl, hrs, hb⟩ := hrel
      by_cases hlt : k < Ps.length
      · obtain ⟨c1, c2, c3⟩ := HC.out k hlt
        rw [← hb.cell (p := ⟨g, k * 3, none⟩) hg] at c1
        rw [← hb.cell (p := ⟨g, k * 3 + 1, none⟩) hg] at c2
        rw [← hb.cell (p := ⟨g, k * 3 + 2, none⟩) hg] at c3
        obtain ⟨x, hx⟩ : ∃ x, x = Ps[k] := ⟨_, rfl⟩
        rw [← hx] at c1 c2 c3
        have HX := hide hx
        clear hx
        by_cases ht : ((x.2.2 : Int) == 0) = true
        · go_wp2_with fail
          go_at_call 65
          refine (none_test _ _ _ _).mono ?_
          rintro e w1 ⟨rfl, b1⟩
          rw [ht]
          go_wp2_with fail
          go_ret
          exact ⟨⟨k, rfl, Or.inr ⟨by omega, x, by rw [HX.out]; exact List.getElem_mem hlt, ht⟩⟩, hb.trans (b1.mono hb.size)⟩
        · have ht' : ((x.2.2 : Int) == 0) = false := by simpa using ht
          go_wp2_with fail
          go_at_call 65
          refine (none_test _ _ _ _).mono ?_
          rintro e w1 ⟨rfl, b1⟩
          rw [ht']
          go_wp2_with fail
          go_roundw
          case rel => exact ⟨k + 1, by omega, by go_num, fun j h hj => by
              by_cases e : j = k
              · subst e; rw [← HX.out]; exact ht'
              · exact hrs.out j h (by omega), hb.trans (b1.mono hb.size)⟩
          case measure => simp [intOf]; omega
      · go_wp2_with fail
        go_ret
        exact ⟨⟨-1, rfl, Or.inl ⟨rfl, fun x hx => by obtain ⟨j, hj, rfl⟩ := List.getElem_of_mem hx; exact hrs.out j hj (by omega)⟩⟩, hb⟩
theorem contains_none (v : Value) (Ps : List (Nat × Nat × Nat)) (hn : Ps.length ≤ 70368744177664) (w : World) (hP : PartsAt w v Ps) :
    Calls Try.prog 64 #[v, .func (.func 65) #[] #[]] w fun e w' => e = .returned (.bool (Ps.any fun x => ((x.2.2 : Int) == 0))) ∧ Below w.heap.size w w' := by
  have HP := hide hP
  clear hP
  go_enter Try.func64, Try.ntmps64
  go_wp2_with fail
  refine (index_none v Ps hn _ HP.out).mono ?_
  rintro e w1 ⟨⟨k, rfl, hk⟩, b1⟩
  have HK := hide hk
  have hk' : k = -1 ∨ 0 ≤ k := hk.imp And.left And.left
  clear hk HP
  rcases hk' with hk' | hk'
  · have e0 : (Ps.any fun x => ((x.2.2 : Int) == 0)) = false := by
      rw [List.any_eq_false]
      intro x hx
      rcases HK.out with ⟨_, h⟩ | ⟨h, _⟩
      · rw [h x hx]; decide
      · omega
    have E0 := hide e0
    clear HK e0
    subst hk'
    go_wp2_with fail
    go_ret
    exact ⟨by rw [E0.out]; rfl, b1⟩
  · have e0 : (Ps.any fun x => ((x.2.2 : Int) == 0)) = true := by
      rw [List.any_eq_true]
      rcases HK.out with ⟨h, _⟩ | ⟨_, h⟩
      · omega
      · exact h
    have E0 := hide e0
    clear HK e0
    go_wp2_with fail
    go_ret
    exact ⟨by rw [E0.out]; rfl, b1⟩

theorem index_ready (v : Value) (Ps : List (Nat × Nat × Nat)) (hn : Ps.length ≤ 70368744177664) (w : World) (hP : PartsAt w v Ps) :
    Calls Try.prog 82 #[v, .func (.func 66) #[] #[]] w fun e w' => (∃ k : Int, e = .returned (.int .i64 k) ∧ ((k = -1 ∧ ∀ x ∈ Ps, ((x.2.2 : Int) != 2) = false) ∨ (0 ≤ k ∧ ∃ x ∈ Ps, ((x.2.2 : Int) != 2) = true))) ∧ Below w.heap.size w w' := by
  rcases hP with ⟨rfl, rfl⟩ | ⟨g, cap, rfl, hg, hc⟩
  · go_enter Try.func82, Try.ntmps82
    go_wp2_with fail
    refine wp_loop_rounds 1 ?_
    rw [rounds_succ]
    go_wp2_with fail
    go_ret
    exact ⟨⟨-1, rfl, Or.inl ⟨rfl, fun x hx => by cases hx⟩⟩, Below.refl _ _⟩
  · have HC := hide hc
    clear hc
    go_enter Try.func82, Try.ntmps82
    go_wp2_with fail
    go_loopw [8] (fun iv wr => ∃ k : Nat, k ≤ Ps.length ∧ iv = .int .i64 (k : Int) ∧ Hid (∀ j (h : j < Ps.length), j < k → ((Ps[j].2.2 : Int) != 2) = false) ∧ Below w.heap.size w wr) (fun iv _ => Ps.length - (intOf iv).toNat)
    case atStart => exact ⟨0, Nat.zero_le _, rfl, fun j h hj => absurd hj (by omega), Below.refl _ _⟩
    case round =>
      obtain ⟨k, hk, rfl, hrs, hb⟩ := hrel
      by_cases hlt : k < Ps.length
      · obtain ⟨c1, c2, c3⟩ := HC.out k hlt
        rw [← hb.cell (p := ⟨g, k * 3, none⟩) hg] at c1
        rw [← hb.cell (p := ⟨g, k * 3 + 1, none⟩) hg] at c2
        rw [← hb.cell (p := ⟨g, k * 3 + 2, none⟩) hg] at c3
        obtain ⟨x, hx⟩ : ∃ x, x = Ps[k] := ⟨_, rfl⟩
        rw [← hx] at c1 c2 c3
        have HX := hide hx
        clear hx
        by_cases ht : ((x.2.2 : Int) != 2) = true
        · go_wp2_with fail
          go_at_call 66
          refine (ready_test _ _ _ _).mono ?_
          rintro e w1 ⟨rfl, b1⟩
          rw [ht]
          go_wp2_with fail
          go_ret
          exact ⟨⟨k, rfl, Or.inr ⟨by omega, x, by rw [HX.out]; exact List.getElem_mem hlt, ht⟩⟩, hb.trans (b1.mono hb.size)⟩
        · have ht' : ((x.2.2 : Int) != 2) = false := by simpa using ht
          go_wp2_with fail
          go_at_call 66
          refine (ready_test _ _ _ _).mono ?_
          rintro e w1 ⟨rfl, b1⟩
          rw [ht']
          go_wp2_with fail
          go_roundw
          case rel => exact ⟨k + 1, by omega, by go_num, fun j h hj => by
              by_cases e : j = k
              · subst e; rw [← HX.out]; exact ht'
              · exact hrs.out j h (by omega), hb.trans (b1.mono hb.size)⟩
          case measure => simp [intOf]; omega
      · go_wp2_with fail
        go_ret
        exact ⟨⟨-1, rfl, Or.inl ⟨rfl, fun x hx => by obtain ⟨j, hj, rfl⟩ := List.getElem_of_mem hx; exact hrs.out j hj (by omega)⟩⟩, hb⟩
theorem contains_ready (v : Value) (Ps : List (Nat × Nat × Nat)) (hn : Ps.length ≤ 70368744177664) (w : World) (hP : PartsAt w v Ps) :
    Calls Try.prog 64 #[v, .func (.func 66) #[] #[]] w fun e w' => e = .returned (.bool (Ps.any fun x => ((x.2.2 : Int) != 2))) ∧ Below w.heap.size w w' := by
  have HP := hide hP
  clear hP
  go_enter Try.func64, Try.ntmps64
  go_wp2_with fail
  refine (index_ready v Ps hn _ HP.out).mono ?_
  rintro e w1 ⟨⟨k, rfl, hk⟩, b1⟩
  have HK := hide hk
  have hk' : k = -1 ∨ 0 ≤ k := hk.imp And.left And.left
  clear hk HP
  rcases hk' with hk' | hk'
  · have e0 : (Ps.any fun x => ((x.2.2 : Int) != 2)) = false := by
      rw [List.any_eq_false]
      intro x hx
      rcases HK.out with ⟨_, h⟩ | ⟨h, _⟩
      · rw [h x hx]; decide
      · omega
    have E0 := hide e0
    clear HK e0
    subst hk'
    go_wp2_with fail
    go_ret
    exact ⟨by rw [E0.out]; rfl, b1⟩
  · have e0 : (Ps.any fun x => ((x.2.2 : Int) != 2)) = true := by
      rw [List.any_eq_true]
      rcases HK.out with ⟨h, _⟩ | ⟨_, h⟩
      · omega
      · exact h
    have E0 := hide e0
    clear HK e0
    go_wp2_with fail
    go_ret
    exact ⟨by rw [E0.out]; rfl, b1⟩

theorem anyNone_core (v : Value) (Ps : List (Nat × Nat × Nat)) (hn : Ps.length ≤ 70368744177664) (w : World) (hP : PartsAt w v Ps) :
    Calls Try.prog 42 #[v] w fun e w' => e = .returned (.bool (Ps.any fun x => ((x.2.2 : Int) == 0))) ∧ Below w.heap.size w w' := by
  have HP := hide hP
  clear hP
  go_enter Try.func42, Try.ntmps42
  go_wp2_with fail
  refine (contains_none v Ps hn _ HP.out).mono ?_
  rintro e w1 ⟨rfl, b1⟩
  go_wp2_with fail
  go_ret
  exact ⟨rfl, b1⟩
theorem allReady_core (v : Value) (Ps : List (Nat × Nat × Nat)) (hn : Ps.length ≤ 70368744177664) (w : World) (hP : PartsAt w v Ps) :
    Calls Try.prog 43 #[v] w fun e w' => e = .returned (.bool (!(Ps.any fun x => ((x.2.2 : Int) != 2)))) ∧ Below w.heap.size w w' := by
  have HP := hide hP
  clear hP
  go_enter Try.func43, Try.ntmps43
  go_wp2_with fail
  refine (contains_ready v Ps hn _ HP.out).mono ?_
  rintro e w1 ⟨rfl, b1⟩
  have hnot : ∀ (x : Bool) (w : World), (Op.unary .not (.bool x)).run Try.prog w = .ok (.bool (!x)) w := fun _ _ => rfl
  go_wp2_with fail
  go_ret
  exact ⟨rfl, b1⟩
end Go.Proofs.Ytlfcnaalkjpgnaa
