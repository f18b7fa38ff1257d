/- Chapter 5 as plain functions on numbers: sizes, cuts, classes. No Go in sight. -/
import Derived.KernelRfl
namespace Go.Proofs.Cl

/-- A power of two, by so many halvings. -/
def powF : Nat → Nat → Bool
  | 0, _ => false
  | f + 1, n => if 1 < n ∧ n % 2 = 0 then powF f (n / 2) else n == 1
def pow (n : Nat) : Bool := powF 64 n
/-- The step behind a size that was come to by a step. -/
def stepN (size step : Nat) : Nat :=
  if pow size = false then step else if 2048 ≤ size then 256 else if 128 ≤ size then size / 8 else if 32 ≤ size then 16 else step
/-- The pages of a span: the fewest of which not too much is left over. -/
def cutF (page size : Nat) : Nat → Nat → Nat
  | 0, k => k
  | f + 1, k => if k * page / 8 < k * page % size then cutF page size f (k + 1) else k
def cutK (page size : Nat) : Nat := cutF page size size 1
/-- A class that may still become greater: its size, its pages. -/
structure Raw where
  size : Nat
  k : Nat
def Raw.slots (page : Nat) (c : Raw) : Nat := c.k * page / c.size
def alikeB (page : Nat) (c d : Raw) : Bool := c.k == d.k && c.slots page == d.slots page
def rawOf (page size : Nat) : Raw := ⟨size, cutK page size⟩
/-- The classes from a size on, one of them being open. -/
def rest (page most : Nat) : Nat → Nat → Nat → Option Raw → List Raw
  | 0, _, _, o => o.toList
  | f + 1, size, step, o =>
    if size ≤ most then
      match o with
      | none => rest page most f (size + stepN size step) (stepN size step) (some (rawOf page size))
      | some c => bif alikeB page c (rawOf page size) then rest page most f (size + stepN size step) (stepN size step) (some (rawOf page size))
        else c :: rest page most f (size + stepN size step) (stepN size step) (some (rawOf page size))
    else o.toList
def raws (page most : Nat) : List Raw := rest page most (most / 8 + 1) 8 8 none
structure Cls where
  size : Nat
  pages : Nat
  slots : Nat
  magic : Nat
def magicN (d : Nat) : Nat := if d < 2 then 0 else 4294967295 / d + 1
def wideN (page : Nat) (c : Raw) : Nat := let r := c.k * page / c.slots page; max c.size (r - r % 128)
def wide (page : Nat) (c : Raw) : Cls := ⟨wideN page c, c.k, c.slots page, magicN (wideN page c)⟩
def classes (page most : Nat) : List Cls := (raws page most).map (wide page)
def zeroC : Cls := ⟨0, 0, 0, 0⟩
def make (page most : Nat) : List Cls := zeroC :: classes page most
def table : List Cls := classes 8192 32768
def okPage (p : Nat) : Bool := p == 1024 || p == 2048 || p == 4096 || p == 8192 || p == 16384 || p == 32768 || p == 65536
def okMost (m : Nat) : Bool := m == 64 || m == 128 || m == 256 || m == 512 || m == 1024 || m == 2048 || m == 4096 || m == 8192 || m == 16384 || m == 32768 || m == 65536 || m == 131072 || m == 262144
/-- What ClassWaste asks of a list of classes, each with the size ahead of it. -/
def wasteB (page : Nat) (strict : Bool) : Nat → List Cls → Bool
  | _, [] => true
  | p, c :: r => decide (p ≤ c.size) && !(p == c.size && strict) && c.size % 8 == 0 && decide (1 ≤ c.pages) && decide (1 ≤ c.slots) && decide (c.slots * c.size ≤ c.pages * page) && decide (c.pages * page - c.slots * c.size < c.size) && decide (c.pages * page - c.slots * c.size ≤ c.pages * page / 8) && wasteB page strict c.size r
def wasteAll (page most : Nat) : Bool :=
  match classes page most with
  | [] => false
  | c :: r => c.size == 8 && (c :: r).getLast?.any (fun d => decide (most ≤ d.size)) && wasteB page (page == 8192 && most == 32768) 0 (c :: r)

/-! ### The step -/
theorem step_lo {size step : Nat} (h : 8 ≤ step) : 8 ≤ stepN size step := by unfold stepN; (repeat' split) <;> omega
theorem step_hi {size step : Nat} (h : step ≤ 256) : stepN size step ≤ 256 := by unfold stepN; (repeat' split) <;> omega

/-! ### The cut -/
theorem cut_go {page size f k : Nat} (h : k * page / 8 < k * page % size) : cutF page size (f + 1) k = cutF page size f (k + 1) := by rw [cutF, if_pos h]
theorem cut_stop {page size f k : Nat} (h : ¬ k * page / 8 < k * page % size) : cutF page size f k = k := by
  cases f with
  | zero => rfl
  | succ f => rw [cutF, if_neg h]
theorem cut_last {page size k : Nat} (hs : 1 ≤ size) (hk : k ≤ size) (h : k * page / 8 < k * page % size) : k < size := by
  rcases Nat.lt_or_ge k size with c | c
  · exact c
  · have : k = size := by omega
    subst this
    rw [Nat.mul_mod_right] at h
    omega
theorem cutF_spec (page size : Nat) (hs : 1 ≤ size) : ∀ f k, k + f = size + 1 → 1 ≤ f → k ≤ cutF page size f k ∧ cutF page size f k ≤ size ∧ ¬ cutF page size f k * page / 8 < cutF page size f k * page % size := by
  intro f
  induction f with
  | zero => intro k _ h; omega
  | succ f ih =>
    intro k hk _
    by_cases c : k * page / 8 < k * page % size
    · rw [cut_go c]
      have := cut_last hs (by omega) c
      obtain ⟨a, b, d⟩ := ih (k + 1) (by omega) (by omega)
      exact ⟨by omega, b, d⟩
    · rw [cut_stop c]
      exact ⟨Nat.le_refl _, by omega, c⟩
theorem cutK_spec {page size : Nat} (hs : 1 ≤ size) : 1 ≤ cutK page size ∧ cutK page size ≤ size ∧ ¬ cutK page size * page / 8 < cutK page size * page % size := cutF_spec page size hs size 1 (by omega) hs
theorem cut_room {page size : Nat} (hs : 1 ≤ size) (hp : 1 ≤ page) : size ≤ cutK page size * page := by
  obtain ⟨a, b, c⟩ := cutK_spec (page := page) hs
  rcases Nat.lt_or_ge (cutK page size * page) size with h | h
  · rw [Nat.mod_eq_of_lt h] at c
    have : 1 ≤ cutK page size * page := Nat.mul_pos a hp
    omega
  · exact h

/-! ### The classes, one by one -/
theorem rest_stop {page most f size step : Nat} {o : Option Raw} (h : most < size) : rest page most f size step o = o.toList := by
  cases f with
  | zero => rfl
  | succ f => cases o <;> (unfold rest; rw [if_neg (by omega)])
theorem rest_first {page most f size step : Nat} (h : size ≤ most) : rest page most (f + 1) size step none = rest page most f (size + stepN size step) (stepN size step) (some (rawOf page size)) := by rw [rest.eq_def]; simp only [if_pos h]
theorem rest_alike {page most f size step : Nat} {c : Raw} (h : size ≤ most) (ha : alikeB page c (rawOf page size) = true) : rest page most (f + 1) size step (some c) = rest page most f (size + stepN size step) (stepN size step) (some (rawOf page size)) := by
  rw [rest.eq_def]; simp only [if_pos h, ha, cond_true]
theorem rest_new {page most f size step : Nat} {c : Raw} (h : size ≤ most) (ha : alikeB page c (rawOf page size) = false) : rest page most (f + 1) size step (some c) = c :: rest page most f (size + stepN size step) (stepN size step) (some (rawOf page size)) := by
  rw [rest.eq_def]; simp only [if_pos h, ha, cond_false]
/-- A class as it may be open. -/
def Good (page most : Nat) (c : Raw) : Prop := 8 ≤ c.size ∧ c.size ≤ most ∧ c.k = cutK page c.size
theorem good_raw {page most size : Nat} (h : 8 ≤ size) (hm : size ≤ most) : Good page most (rawOf page size) := ⟨h, hm, rfl⟩
theorem Good.facts {page most : Nat} {c : Raw} (h : Good page most c) (hp : 1 ≤ page) : 1 ≤ c.k ∧ c.k ≤ c.size ∧ c.size ≤ c.k * page ∧ 1 ≤ c.slots page ∧ c.slots page ≤ c.k * page := by
  obtain ⟨h1, h2, h3⟩ := h
  obtain ⟨a, b, _⟩ := cutK_spec (page := page) (size := c.size) (by omega)
  have r := cut_room (page := page) (size := c.size) (by omega) hp
  rw [← h3] at a b r
  exact ⟨a, b, r, (Nat.le_div_iff_mul_le (by omega)).2 (by omega), Nat.div_le_self _ _⟩
theorem wide_fits {page most : Nat} {c : Raw} (h : Good page most c) (hp : 1 ≤ page) : c.size ≤ wideN page c ∧ wideN page c ≤ c.k * page ∧ wideN page c * c.slots page ≤ c.k * page := by
  obtain ⟨_, _, r, s, t⟩ := h.facts hp
  have hd := Nat.div_mul_le_self (c.k * page) (c.slots page)
  have hs : c.size * c.slots page ≤ c.k * page := by rw [Nat.mul_comm]; exact Nat.div_mul_le_self _ _
  have hle : c.k * page / c.slots page ≤ c.k * page := Nat.div_le_self _ _
  unfold wideN
  simp only
  have h2 : (c.k * page / c.slots page - c.k * page / c.slots page % 128) * c.slots page ≤ c.k * page := Nat.le_trans (Nat.mul_le_mul_right _ (Nat.sub_le _ _)) hd
  rcases Nat.le_total c.size (c.k * page / c.slots page - c.k * page / c.slots page % 128) with e | e
  · rw [Nat.max_eq_right e]; exact ⟨e, by omega, h2⟩
  · rw [Nat.max_eq_left e]; exact ⟨Nat.le_refl _, r, hs⟩
/-- As many slots behind the widening. -/
theorem slots_wide {page most : Nat} {c : Raw} (h : Good page most c) (hp : 1 ≤ page) : c.k * page / wideN page c = c.slots page := by
  obtain ⟨a, _, b⟩ := wide_fits h hp
  have h8 := h.1
  apply Nat.le_antisymm
  · exact Nat.div_le_div_left a (by omega)
  · exact (Nat.le_div_iff_mul_le (by omega)).2 (by rw [Nat.mul_comm]; exact b)
theorem rest_good (page most : Nat) : ∀ f size step o, 8 ≤ size → (∀ c, o = some c → Good page most c) → 8 ≤ step → ∀ c ∈ rest page most f size step o, Good page most c := by
  intro f
  induction f with
  | zero => intro size step o _ ho _ c hc; cases o with
    | none => simp [rest] at hc
    | some d => simp [rest] at hc; exact ho c (by rw [hc])
  | succ f ih =>
    intro size step o hs ho hst c hc
    have hst' := step_lo (size := size) hst
    by_cases h : size ≤ most
    · have hn := good_raw (page := page) hs h
      have go := ih (size + stepN size step) (stepN size step) (some (rawOf page size)) (by omega) (fun c e => by cases e; exact hn) hst'
      cases o with
      | none => rw [rest_first h] at hc; exact go c hc
      | some d =>
        cases ha : alikeB page d (rawOf page size) with
        | true => rw [rest_alike h ha] at hc; exact go c hc
        | false =>
          rw [rest_new h ha] at hc
          rcases List.mem_cons.1 hc with e | e
          · exact ho c (by rw [e])
          · exact go c e
    · rw [rest_stop (by omega)] at hc
      cases o with
      | none => simp at hc
      | some d => simp at hc; exact ho c (by rw [hc])
theorem rest_len (page most : Nat) : ∀ f size step o, (rest page most f size step o).length ≤ f + 1 := by
  intro f
  induction f with
  | zero => intro size step o; cases o <;> simp [rest]
  | succ f ih =>
    intro size step o
    by_cases h : size ≤ most
    · have := ih (size + stepN size step) (stepN size step) (some (rawOf page size))
      cases o with
      | none => rw [rest_first h]; omega
      | some d =>
        cases ha : alikeB page d (rawOf page size) with
        | true => rw [rest_alike h ha]; omega
        | false => rw [rest_new h ha, List.length_cons]; omega
    · rw [rest_stop (by omega)]; cases o <;> simp
theorem raws_good {page most : Nat} {c : Raw} (h : c ∈ raws page most) : Good page most c := rest_good page most _ 8 8 none (by omega) (fun _ e => by cases e) (by omega) c h
theorem raws_len (page most : Nat) : (raws page most).length ≤ most / 8 + 2 := rest_len page most _ 8 8 none
theorem classes_len (page most : Nat) : (classes page most).length ≤ most / 8 + 2 := by unfold classes; rw [List.length_map]; exact raws_len page most

/-! ### The table -/
theorem table_len : table.length = 67 := by decide +kernel
theorem table_last : ∃ c ∈ table, 32768 ≤ c.size := by
  have h : table.any (fun c => decide (32768 ≤ c.size)) = true := by decide +kernel
  obtain ⟨c, hc, h⟩ := List.any_eq_true.1 h
  exact ⟨c, hc, by simpa using h⟩
theorem make_eq : make 8192 32768 = zeroC :: table := rfl
theorem waste_all : ([1024, 2048, 4096, 8192, 16384, 32768, 65536].all fun p => [64, 128, 256, 512, 1024, 2048, 4096, 8192, 16384, 32768, 65536, 131072, 262144].all fun m => decide (4 * p < m) || wasteAll p m) = true := by decide +kernel
end Go.Proofs.Cl
