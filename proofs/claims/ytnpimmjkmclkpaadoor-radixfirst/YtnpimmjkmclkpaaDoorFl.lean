/- RadixFirst: plain: rows of free pages, and what was handed out. -/
import Derived.Test.YtnpimmjkmclkpaaDoorLw
import Derived.Test.YtnpimmjkmclkpaaDoorBo
namespace Go.Proofs.YtnpimmjkmclkpaaDoor
open Go.ChangeShapes Go.WideShapes Go.ChangeAt Go.RowKit Go.Proofs.Bt Go.Shelf Go.Proofs.Rx Go.Maps Go.Proofs.Pk
set_option linter.unusedVariables false
set_option linter.unusedSimpArgs false

/-- Three chunks in use, and which of their pages are used. -/
structure FsSt (st : Nat → Nat) (u : Nat → Bool) : Prop where
  used : ∀ j, j < 1536 → u j = true → st (1536 + j) = 1
  free : ∀ j, j < 1536 → u j = false → 2 ≤ st (1536 + j)
  out : ∀ q, ¬ (1536 ≤ q ∧ q < 3072) → st q = 0
def FreeU (u : Nat → Bool) (p n : Nat) : Prop := ∀ j, p ≤ j → j < p + n → u j = false
structure FirstU (u : Nat → Bool) (n p : Nat) : Prop where
  le : p + n ≤ 1536
  fr : FreeU u p n
  no : ∀ p', p' < p → ¬ FreeU u p' n
theorem run_free {st : Nat → Nat} {u : Nat → Bool} (h : FsSt st u) {q n : Nat} (hn : 1 ≤ n) (hR : Run st q n) : 1536 ≤ q ∧ q + n ≤ 3072 ∧ FreeU u (q - 1536) n := by
  have b1 : 1536 ≤ q := by
    rcases Nat.lt_or_ge q 1536 with y | y
    · have h1 := hR q (Nat.le_refl _) (by omega)
      rw [h.out q (by omega)] at h1
      omega
    · exact y
  have b2 : q + n ≤ 3072 := by
    rcases Nat.lt_or_ge 3072 (q + n) with y | y
    · have h1 := hR (q + n - 1) (by omega) (by omega)
      rw [h.out (q + n - 1) (by omega)] at h1
      omega
    · exact y
  refine ⟨b1, b2, fun j j1 j2 => ?_⟩
  cases hu : u j with
  | false => rfl
  | true =>
    have h1 := hR (1536 + j) (by omega) (by omega)
    rw [h.used j (by omega) hu] at h1
    omega
theorem free_run {st : Nat → Nat} {u : Nat → Bool} (h : FsSt st u) {p n : Nat} (hp : p + n ≤ 1536) (hf : FreeU u p n) : Run st (1536 + p) n := fun q q1 q2 => by
  have := h.free (q - 1536) (by omega) (hf _ (by omega) (by omega))
  rwa [show 1536 + (q - 1536) = q by omega] at this
theorem first_of {st : Nat → Nat} {u : Nat → Bool} (h : FsSt st u) {n p : Nat} (hn : 1 ≤ n) (hf : FirstU u n p) : First st n (1536 + p) := by
  refine ⟨free_run h hf.le hf.fr, fun p' hp' hR => ?_⟩
  obtain ⟨h1, h2, h3⟩ := run_free h hn hR
  exact hf.no (p' - 1536) (by omega) h3
theorem none_of {st : Nat → Nat} {u : Nat → Bool} (h : FsSt st u) {n : Nat} (hn : 1 ≤ n) (hno : ∀ p, p + n ≤ 1536 → ¬ FreeU u p n) : ∀ q, ¬ Run st q n := fun q hR => by
  obtain ⟨h1, h2, h3⟩ := run_free h hn hR
  exact hno (q - 1536) (by omega) h3
/-- The search, up to page k. -/
structure L2 (u : Nat → Bool) (n k run : Nat) : Prop where
  le : run ≤ k
  lt : run < n
  fr : FreeU u (k - run) run
  at' : run < k → u (k - run - 1) = true
  no : ∀ p, p + n ≤ k → ¬ FreeU u p n
theorem L2.zero (u : Nat → Bool) {n : Nat} (hn : 1 ≤ n) : L2 u n 0 0 := ⟨Nat.le_refl _, hn, fun j _ _ => by omega, fun z => by omega, fun p hp => by omega⟩
theorem L2.used {u : Nat → Bool} {n k run : Nat} (h : L2 u n k run) (hu : u k = true) : L2 u n (k + 1) 0 := by
  have := h.lt
  refine ⟨by omega, by omega, fun j _ _ => by omega, fun _ => by rw [show k + 1 - 0 - 1 = k by omega]; exact hu, fun p hp hf => ?_⟩
  rcases Nat.lt_or_ge k (p + n) with y | y
  · have := hf k (by omega) y
    rw [hu] at this; cases this
  · exact h.no p y hf
theorem L2.free {u : Nat → Bool} {n k run : Nat} (h : L2 u n k run) (hu : u k = false) (hr : run + 1 < n) : L2 u n (k + 1) (run + 1) := by
  have hle := h.le
  refine ⟨by omega, hr, fun j j1 j2 => ?_, fun z => ?_, fun p hp hf => ?_⟩
  · by_cases e : j = k
    · rw [e]; exact hu
    · exact h.fr j (by omega) (by omega)
  · have := h.at' (by omega)
    rwa [show k + 1 - (run + 1) - 1 = k - run - 1 by omega]
  · rcases Nat.lt_or_ge k (p + n) with y | y
    · have h1 := hf (k - run - 1) (by omega) (by omega)
      rw [h.at' (by omega)] at h1; cases h1
    · exact h.no p y hf
theorem L2.hit {u : Nat → Bool} {n k run : Nat} (h : L2 u n k run) (hk : k < 1536) (hu : u k = false) (hr : run + 1 = n) : FirstU u n (k + 1 - n) := by
  have hle := h.le
  refine ⟨by omega, fun j j1 j2 => ?_, fun p' hp' => h.no p' (by omega)⟩
  by_cases e : j = k
  · rw [e]; exact hu
  · exact h.fr j (by omega) (by omega)
theorem L2.none {u : Nat → Bool} {n run : Nat} (h : L2 u n 1536 run) : ∀ p, p + n ≤ 1536 → ¬ FreeU u p n := h.no
/-- Some more are used. -/
def uni6 (u : Nat → Bool) (a b : Nat) (j : Nat) : Bool := u j || decide (a ≤ j ∧ j < b)
/-- Some are used no more. -/
def sub6 (u : Nat → Bool) (a b : Nat) (j : Nat) : Bool := u j && !decide (a ≤ j ∧ j < b)
theorem fs_take {st : Nat → Nat} {u : Nat → Bool} (h : FsSt st u) (p n : Nat) (hp : p + n ≤ 1536) : FsSt (setSt st (1536 + p) (1536 + p + n) 1) (uni6 u p (p + n)) := by
  refine ⟨fun j hj hu => ?_, fun j hj hu => ?_, fun q hq => ?_⟩
  · unfold setSt
    by_cases z : 1536 + p ≤ 1536 + j ∧ 1536 + j < 1536 + p + n
    · rw [if_pos z]
    · rw [if_neg z]
      refine h.used j hj ?_
      unfold uni6 at hu
      rwa [show decide (p ≤ j ∧ j < p + n) = false from decide_eq_false (by omega), Bool.or_false] at hu
  · unfold uni6 at hu
    have h1 : u j = false := by cases hx : u j; rfl; rw [hx] at hu; cases hu
    have h2 : ¬ (p ≤ j ∧ j < p + n) := fun z => by rw [h1, Bool.false_or] at hu; exact absurd z (of_decide_eq_false hu)
    unfold setSt
    rw [if_neg (by omega)]
    exact h.free j hj h1
  · unfold setSt
    rw [if_neg (by omega)]
    exact h.out q hq
theorem fs_give {st : Nat → Nat} {u : Nat → Bool} (h : FsSt st u) (p n : Nat) (hp : p + n ≤ 1536) : FsSt (setSt st (1536 + p) (1536 + p + n) 2) (sub6 u p (p + n)) := by
  refine ⟨fun j hj hu => ?_, fun j hj hu => ?_, fun q hq => ?_⟩
  · unfold sub6 at hu
    have h1 : u j = true := by cases hx : u j; rw [hx] at hu; cases hu; rfl
    have h2 : ¬ (p ≤ j ∧ j < p + n) := fun z => by
      rw [h1, Bool.true_and, show decide (p ≤ j ∧ j < p + n) = true from decide_eq_true z] at hu
      cases hu
    unfold setSt
    rw [if_neg (by omega)]
    exact h.used j hj h1
  · unfold setSt
    by_cases z : 1536 + p ≤ 1536 + j ∧ 1536 + j < 1536 + p + n
    · rw [if_pos z]; omega
    · rw [if_neg z]
      refine h.free j hj ?_
      unfold sub6 at hu
      rwa [show decide (p ≤ j ∧ j < p + n) = false from decide_eq_false (by omega), Bool.not_false, Bool.and_true] at hu
  · unfold setSt
    rw [if_neg (by omega)]
    exact h.out q hq
theorem fs_zero : FsSt (setSt (fun _ => 0) (3 * 512) (3 * 512 + 3 * 512) 3) (fun _ => false) := by
  refine ⟨fun j _ hu => (by cases hu), fun j hj _ => ?_, fun q hq => ?_⟩
  · unfold setSt
    rw [if_pos (by omega)]; omega
  · unfold setSt
    rw [if_neg (by omega)]
theorem fs_count {st : Nat → Nat} {u : Nat → Bool} (h : FsSt st u) : frT st = cnt (fun j => !u j) 0 1536 := by
  have e : frT st = cnt (fre st) 0 34359738368 := rfl
  have e1 : (34359738368 : Nat) = 1536 + (1536 + 34359735296) := rfl
  have c0 : cnt (fre st) 0 1536 = 0 := cnt_none fun k hk => by unfold fre; rw [h.out _ (by omega)]; rfl
  have c2 : cnt (fre st) (0 + 1536 + 1536) 34359735296 = 0 := cnt_none fun k hk => by unfold fre; rw [h.out _ (by omega)]; rfl
  have c1 : cnt (fre st) (0 + 1536) 1536 = cnt (fun j => !u j) 0 1536 := cnt_congr fun k hk => by
    rw [show 0 + 1536 + k = 1536 + k by omega, Nat.zero_add]
    unfold fre
    cases hu : u k with
    | true => rw [h.used k hk hu]; rfl
    | false => have := h.free k hk hu; simpa using this
  rw [e, e1, cnt_add, cnt_add, c0, c1, c2, Nat.zero_add, Nat.add_zero]
/-- What was handed out, and not given back, is used; no two overlap. -/
structure Outst (u : Nat → Bool) (la ln : List Nat) : Prop where
  len : la.length = ln.length
  at' : ∀ x, x < la.length → 0 < ln.getD x 0 → 1536 ≤ la.getD x 0 ∧ la.getD x 0 + ln.getD x 0 ≤ 3072 ∧ ∀ j, la.getD x 0 - 1536 ≤ j → j < la.getD x 0 - 1536 + ln.getD x 0 → u j = true
  apart : ∀ x y, x < la.length → y < la.length → x ≠ y → 0 < ln.getD x 0 → 0 < ln.getD y 0 → ∀ q, ¬ ((la.getD x 0 ≤ q ∧ q < la.getD x 0 + ln.getD x 0) ∧ (la.getD y 0 ≤ q ∧ q < la.getD y 0 + ln.getD y 0))
theorem Outst.nil (u : Nat → Bool) : Outst u [] [] := ⟨rfl, fun x h => by simp at h, fun x y h => by simp at h⟩
theorem getD_app {l : List Nat} {x q : Nat} : (l ++ [q]).getD x 0 = if x < l.length then l.getD x 0 else if x = l.length then q else 0 := by
  simp only [List.getD_eq_getElem?_getD]
  by_cases h : x < l.length
  · rw [if_pos h, List.getElem?_append_left h]
  · rw [if_neg h, List.getElem?_append_right (by omega)]
    by_cases e : x = l.length
    · rw [if_pos e, e, Nat.sub_self]; rfl
    · rw [if_neg e, List.getElem?_eq_none (by simp; omega)]; rfl
theorem Outst.push {u : Nat → Bool} {la ln : List Nat} (h : Outst u la ln) {p n : Nat} (hp : p + n ≤ 1536) (hf : FreeU u p n) : Outst (uni6 u p (p + n)) (la ++ [1536 + p]) (ln ++ [n]) := by
  have hl := h.len
  have old : ∀ x, x < la.length → (la ++ [1536 + p]).getD x 0 = la.getD x 0 ∧ (ln ++ [n]).getD x 0 = ln.getD x 0 := fun x hx => by
    rw [getD_app, getD_app, if_pos hx, if_pos (by omega)]; exact ⟨rfl, rfl⟩
  have new : (la ++ [1536 + p]).getD la.length 0 = 1536 + p ∧ (ln ++ [n]).getD la.length 0 = n := by
    rw [getD_app, getD_app, if_neg (by omega), if_pos rfl, if_neg (by omega), if_pos (by omega)]; exact ⟨rfl, rfl⟩
  have far : ∀ x, x < la.length → 0 < ln.getD x 0 → ∀ q, la.getD x 0 ≤ q → q < la.getD x 0 + ln.getD x 0 → ¬ (1536 + p ≤ q ∧ q < 1536 + p + n) := fun x hx h0 q q1 q2 z => by
    obtain ⟨a1, a2, a3⟩ := h.at' x hx h0
    have b1 := a3 (q - 1536) (by omega) (by omega)
    rw [hf (q - 1536) (by omega) (by omega)] at b1
    cases b1
  refine ⟨by simp [hl], fun x hx h0 => ?_, fun x y hx hy hne h0 h1 q => ?_⟩
  · have hx' : x ≤ la.length := by simp at hx; omega
    rcases Nat.lt_or_ge x la.length with z | z
    · rw [(old x z).2] at h0
      rw [(old x z).1, (old x z).2]
      obtain ⟨a1, a2, a3⟩ := h.at' x z h0
      exact ⟨a1, a2, fun j j1 j2 => by unfold uni6; rw [a3 j j1 j2]; rfl⟩
    · obtain rfl : x = la.length := by omega
      rw [new.1, new.2]
      exact ⟨by omega, by omega, fun j j1 j2 => by unfold uni6; rw [show decide (p ≤ j ∧ j < p + n) = true from decide_eq_true (by omega), Bool.or_true]⟩
  · have hx' : x ≤ la.length := by simp at hx; omega
    have hy' : y ≤ la.length := by simp at hy; omega
    rcases Nat.lt_or_ge x la.length with z | z
    · rw [(old x z).2] at h0
      rw [(old x z).1, (old x z).2]
      rcases Nat.lt_or_ge y la.length with z' | z'
      · rw [(old y z').2] at h1
        rw [(old y z').1, (old y z').2]
        exact h.apart x y z z' hne h0 h1 q
      · obtain rfl : y = la.length := by omega
        rw [new.1, new.2]
        exact fun ⟨c1, c2⟩ => far x z h0 q c1.1 c1.2 c2
    · obtain rfl : x = la.length := by omega
      have z' : y < la.length := by omega
      rw [(old y z').2] at h1
      rw [(old y z').1, (old y z').2, new.1, new.2]
      exact fun ⟨c1, c2⟩ => far y z' h1 q c2.1 c2.2 c1
theorem Outst.give {u : Nat → Bool} {la ln : List Nat} (h : Outst u la ln) {k : Nat} (hk : k < la.length) (h0 : 0 < ln.getD k 0) : Outst (sub6 u (la.getD k 0 - 1536) (la.getD k 0 - 1536 + ln.getD k 0)) la (ln.set k 0) := by
  have hl := h.len
  have g : ∀ x, (ln.set k 0).getD x 0 = if x = k then 0 else ln.getD x 0 := fun x => by
    simp only [List.getD_eq_getElem?_getD, List.getElem?_set]
    by_cases e : k = x
    · subst e; rw [if_pos rfl, if_pos (by omega), if_pos rfl]; rfl
    · rw [if_neg e, if_neg (fun z => e z.symm)]
  obtain ⟨k1, k2, _⟩ := h.at' k hk h0
  refine ⟨by simp [hl], fun x hx hp => ?_, fun x y hx hy hne hp hq => ?_⟩
  · rw [g] at hp ⊢
    by_cases e : x = k
    · rw [if_pos e] at hp; omega
    · rw [if_neg e] at hp ⊢
      obtain ⟨a1, a2, a3⟩ := h.at' x hx hp
      refine ⟨a1, a2, fun j j1 j2 => ?_⟩
      unfold sub6
      have := h.apart x k hx hk e hp h0 (1536 + j)
      rw [a3 j j1 j2, show decide (la.getD k 0 - 1536 ≤ j ∧ j < la.getD k 0 - 1536 + ln.getD k 0) = false from decide_eq_false (fun z => this ⟨by omega, by omega⟩)]
      rfl
  · rw [g] at hp hq
    have e1 : x ≠ k := fun e => by rw [if_pos e] at hp; omega
    have e2 : y ≠ k := fun e => by rw [if_pos e] at hq; omega
    rw [if_neg e1] at hp
    rw [if_neg e2] at hq
    intro q
    rw [g, g, if_neg e1, if_neg e2]
    exact h.apart x y hx hy hne hp hq q
end Go.Proofs.YtnpimmjkmclkpaaDoor
/- RadixFirst: the law's own lists beside its tree. -/
namespace Go.Proofs.YtnpimmjkmclkpaaDoor
open Go.ChangeShapes Go.WideShapes Go.ChangeAt Go.RowKit Go.Proofs.Bt Go.Shelf Go.Proofs.Rx Go.Maps Go.Proofs.Pk
set_option linter.unusedVariables false
set_option linter.unusedSimpArgs false

/-- The law's own blocks. -/
def OF (U : Nat) (va vn : Value) (x : Nat) : Prop := x = U ∨ va.ownBlock = some x ∨ vn.ownBlock = some x
structure Ls (N U tb : Nat) (w : World) (st : Nat → Nat) (u : Nat → Bool) (va vn : Value) (ca cn : Nat) (la ln : List Nat) (W : World) : Prop where
  t : T9 N (OF U va vn) w W tb st
  b : BoR W U 1536 u
  oa : W.ownsRow (U + 1) 22 1 va ca (vals la)
  on' : W.ownsRow (U + 1) 22 1 vn cn (vals ln)
  ne : ∀ x, va.ownBlock = some x → vn.ownBlock ≠ some x
  nu : N ≤ U
section
variable {N U tb : Nat} {w : World} {st st' : Nat → Nat} {u : Nat → Bool} {va vn : Value} {ca cn : Nat} {la ln : List Nat} {W W' : World}
theorem Ls.left (h : Ls N U tb w st u va vn ca cn la ln W) (t : T9 N (OF U va vn) w W' tb st') (l : Left9 N (OF U va vn) W W') : Ls N U tb w st' u va vn ca cn la ln W' :=
  ⟨t, h.b.kept l (fun z => z.2 (.inl rfl)), owns_kept h.oa (fun x hx => l.block x (h.oa.lt x hx).2 (fun z => z.2 (.inr (.inl hx)))), owns_kept h.on' (fun x hx => l.block x (h.on'.lt x hx).2 (fun z => z.2 (.inr (.inr hx)))), h.ne, h.nu⟩
theorem Ls.below (h : Ls N U tb w st u va vn ca cn la ln W) (b : Below W.heap.size W W') : Ls N U tb w st u va vn ca cn la ln W' := h.left (h.t.read b).1 (h.t.read b).2
theorem Ls.own (h : Ls N U tb w st u va vn ca cn la ln W) {k : Nat} {x : Bool} (hk : k < 1536) : Ls N U tb w st (fun j => if j = k then x else u j) va vn ca cn la ln (W.setCell ⟨U, k, none⟩ (.bool x)) := by
  have kz := kept_set (F := fun x => x = U) W U k (.bool x) rfl
  refine ⟨h.t.own kz (fun x hx => ⟨.inl hx, by rw [hx]; exact h.nu⟩), h.b.set k hk x, owns_kept h.oa (fun y hy => kz.block y (h.oa.lt y hy).2 (fun z => by have := (h.oa.lt y hy).1; omega)), owns_kept h.on' (fun y hy => kz.block y (h.on'.lt y hy).2 (fun z => by have := (h.on'.lt y hy).1; omega)), h.ne, h.nu⟩
theorem Ls.congr (h : Ls N U tb w st u va vn ca cn la ln W) {u' : Nat → Bool} (e : ∀ k, k < 1536 → u k = u' k) : Ls N U tb w st u' va vn ca cn la ln W := ⟨h.t, h.b.congr e, h.oa, h.on', h.ne, h.nu⟩
theorem Ls.pushA (h : Ls N U tb w st u va vn ca cn la ln W) (hk : ca < 1000) (q : Nat) {W2 : World} (hW2 : W2 = W.alloc (.cells #[.int .u64 (q : Nat)] 22)) (ty : TypeId) :
    ∃ g cap Y, (Builtin.append_ #[36, 36] ty #[va, .slice (some ⟨W.heap.size, 0, none⟩) 1 1]).run Tryd.prog W2 = .ok (.slice (some ⟨g, 0, none⟩) (ca + 1) cap) Y ∧ Ls N U tb w st u (.slice (some ⟨g, 0, none⟩) (ca + 1) cap) vn (ca + 1) cn (la ++ [q]) ln Y := by
  have bW : Below W.heap.size W W2 := by rw [hW2]; exact grown1 W _
  have h2 := h.below bW
  have n2 : W2.heap[W.heap.size]? = some (.cells #[.int .u64 (q : Nat)] 22 (0, 0)) := by rw [hW2]; exact World.alloc_heap_new W _
  have lU := h2.b.lt
  obtain ⟨g, cap, Y, r1, r2, r3, r4, r5⟩ := u64s_more h2.oa hk W.heap.size q n2 (by omega) ty
  refine ⟨g, cap, Y, r1, ?_, h2.b.kept r3 (fun z => by have := (h2.oa.lt U z).1; omega), r2, owns_kept h2.on' (fun y hy => r3.block y (h2.on'.lt y hy).2 (fun z => h2.ne y z hy)), fun x hx => ?_, h.nu⟩
  · refine h2.t.grow r3 (fun x hx => ⟨.inr (.inl hx), by have := (h2.oa.lt x hx).1; have := h.nu; omega⟩) (fun x hx => ?_)
    rcases hx with e | e | e
    · exact .inl (.inl e)
    · have e : g = x := by simpa [Value.ownBlock] using e
      subst e
      rcases r4 with r | r
      · exact .inl (.inr (.inl r))
      · exact .inr ⟨r, r5⟩
    · exact .inl (.inr (.inr e))
  · have e : g = x := by simpa [Value.ownBlock] using hx
    subst e
    rcases r4 with r | r
    · exact h2.ne g r
    · exact fun z => by have := (h2.on'.lt g z).2; omega
theorem Ls.pushN (h : Ls N U tb w st u va vn ca cn la ln W) (hk : cn < 1000) (q : Nat) {W2 : World} (hW2 : W2 = W.alloc (.cells #[.int .u64 (q : Nat)] 22)) (ty : TypeId) :
    ∃ g cap Y, (Builtin.append_ #[36, 36] ty #[vn, .slice (some ⟨W.heap.size, 0, none⟩) 1 1]).run Tryd.prog W2 = .ok (.slice (some ⟨g, 0, none⟩) (cn + 1) cap) Y ∧ Ls N U tb w st u va (.slice (some ⟨g, 0, none⟩) (cn + 1) cap) ca (cn + 1) la (ln ++ [q]) Y := by
  have bW : Below W.heap.size W W2 := by rw [hW2]; exact grown1 W _
  have h2 := h.below bW
  have n2 : W2.heap[W.heap.size]? = some (.cells #[.int .u64 (q : Nat)] 22 (0, 0)) := by rw [hW2]; exact World.alloc_heap_new W _
  have lU := h2.b.lt
  obtain ⟨g, cap, Y, r1, r2, r3, r4, r5⟩ := u64s_more h2.on' hk W.heap.size q n2 (by omega) ty
  refine ⟨g, cap, Y, r1, ?_, h2.b.kept r3 (fun z => by have := (h2.on'.lt U z).1; omega), owns_kept h2.oa (fun y hy => r3.block y (h2.oa.lt y hy).2 (fun z => h2.ne y hy z)), r2, fun x hx => ?_, h.nu⟩
  · refine h2.t.grow r3 (fun x hx => ⟨.inr (.inr hx), by have := (h2.on'.lt x hx).1; have := h.nu; omega⟩) (fun x hx => ?_)
    rcases hx with e | e | e
    · exact .inl (.inl e)
    · exact .inl (.inr (.inl e))
    · have e : g = x := by simpa [Value.ownBlock] using e
      subst e
      rcases r4 with r | r
      · exact .inl (.inr (.inr r))
      · exact .inr ⟨r, r5⟩
  · intro e
    have e : g = x := by simpa [Value.ownBlock] using e
    subst e
    rcases r4 with r | r
    · exact h2.ne g hx r
    · have := (h2.oa.lt g hx).2; omega
theorem vals_at {l : List Nat} {k : Nat} (h : k < l.length) : (vals l)[k]? = some (.int .u64 ((l.getD k 0 : Nat) : Int)) := by
  unfold vals
  rw [List.getElem?_map, List.getD_eq_getElem?_getD, List.getElem?_eq_getElem h]; rfl
/-- Entry k of the first list, and of the second. -/
theorem Ls.shape (h : Ls N U tb w st u va vn ca cn la ln W) : (ca = 0 ∧ va = .slice none 0 0 ∨ ∃ g cap, va = .slice (some ⟨g, 0, none⟩) ca cap ∧ U < g ∧ g < W.heap.size) ∧ (cn = 0 ∧ vn = .slice none 0 0 ∨ ∃ g cap, vn = .slice (some ⟨g, 0, none⟩) cn cap ∧ U < g ∧ g < W.heap.size) := by
  have key : ∀ {v : Value} {c : Nat} {l : List Nat}, W.ownsRow (U + 1) 22 1 v c (vals l) → (c = 0 ∧ v = .slice none 0 0 ∨ ∃ g cap, v = .slice (some ⟨g, 0, none⟩) c cap ∧ U < g ∧ g < W.heap.size) := fun {v c l} h => by
    obtain ⟨_, ⟨h1, h2⟩ | ⟨g, cap, cur, e1, hb, hh, _⟩⟩ := h
    · exact .inl ⟨h2, h1⟩
    · exact .inr ⟨g, cap, e1, by omega, (Array.getElem?_eq_some_iff.1 hh).1⟩
  exact ⟨key h.oa, key h.on'⟩
theorem Ls.slices (h : Ls N U tb w st u va vn ca cn la ln W) : ∃ oa capa on capn, va = .slice oa ca capa ∧ vn = .slice on cn capn ∧ (0 < ca → ∃ g, oa = some ⟨g, 0, none⟩ ∧ U < g ∧ g < W.heap.size) ∧ (0 < cn → ∃ g, on = some ⟨g, 0, none⟩ ∧ U < g ∧ g < W.heap.size) := by
  obtain ⟨h1, h2⟩ := h.shape
  have key : ∀ {v : Value} {c : Nat}, (c = 0 ∧ v = .slice none 0 0 ∨ ∃ g cap, v = .slice (some ⟨g, 0, none⟩) c cap ∧ U < g ∧ g < W.heap.size) → ∃ o cap, v = .slice o c cap ∧ (0 < c → ∃ g, o = some ⟨g, 0, none⟩ ∧ U < g ∧ g < W.heap.size) := fun {v c} h => by
    rcases h with ⟨e1, e2⟩ | ⟨g, cap, e1, e2, e3⟩
    · exact ⟨none, 0, by rw [e2, e1], fun z => by omega⟩
    · exact ⟨_, cap, e1, fun _ => ⟨g, rfl, e2, e3⟩⟩
  obtain ⟨oa, capa, e1, e2⟩ := key h1
  obtain ⟨on, capn, e3, e4⟩ := key h2
  exact ⟨oa, capa, on, capn, e1, e3, e2, e4⟩
theorem owns_len {v : Value} {c : Nat} {l : List Nat} (h : W.ownsRow (U + 1) 22 1 v c (vals l)) : l.length = c := by
  have := h.1
  simp [vals] at this
  omega
theorem owns_cell {g cap c : Nat} {l : List Nat} (h : W.ownsRow (U + 1) 22 1 (.slice (some ⟨g, 0, none⟩) c cap) c (vals l)) {k : Nat} (hk : k < c) : W.cell? ⟨g, k, none⟩ = some (.int .u64 ((l.getD k 0 : Nat) : Int)) := by
  have := h.cells (g := g) rfl k _ (vals_at (by rw [owns_len h]; exact hk))
  rw [Mg.addr_add0, Nat.zero_add] at this
  exact this
/-- Entry k of the second list is 0 from now on. -/
theorem Ls.clearN {g cap : Nat} (h : Ls N U tb w st u va (.slice (some ⟨g, 0, none⟩) cn cap) ca cn la ln W) {k : Nat} (hk : k < cn) : Ls N U tb w st u va (.slice (some ⟨g, 0, none⟩) cn cap) ca cn la (ln.set k 0) (W.setCell ⟨g, k, none⟩ (.int .u64 0)) := by
  have kz := kept_set (F := fun x => x = g) W g k (.int .u64 0) rfl
  have hg := h.on'.lt g rfl
  have e : vals (ln.set k 0) = (vals ln).set k (.int .u64 0) := by unfold vals; rw [List.map_set]; rfl
  refine ⟨h.t.own kz (fun x hx => ⟨.inr (.inr (by rw [hx]; rfl)), by have := h.nu; omega⟩), h.b.kept kz (by omega), owns_kept h.oa (fun y hy => kz.block y (h.oa.lt y hy).2 (fun z => h.ne y hy (by rw [z]; rfl))), ?_, h.ne, h.nu⟩
  rw [e]
  exact (h.on'.stored k _).1
end
end Go.Proofs.YtnpimmjkmclkpaaDoor
