/- Package radix: Find: its contract (under way). -/
import Derived.Test.YtnpimmjkmclkpaaDoorYc
namespace Go.Proofs.YtnpimmjkmclkpaaDoor
open Go.ChangeShapes Go.WideShapes Go.ChangeAt Go.RowKit Go.Proofs.Bt Go.Shelf Go.Proofs.Rx Go.Maps Go.Proofs.Pk
set_option linter.unusedVariables false
set_option linter.unusedSimpArgs false

attribute [local go_sem] Oper.semAt_some

/-- What Find answers. -/
def FindT (st : Nat → Nat) (n : Nat) (w : World) (e : Ending) (w' : World) : Prop :=
  ((∃ p, p < 34359738368 ∧ First st n p ∧ 1 ≤ n ∧ e = .returned (.tuple #[.int .u64 (p : Nat), .bool true])) ∨ ((n = 0 ∨ ∀ p, ¬ Run st p n) ∧ e = .returned (.tuple #[.int .u64 0, .bool false]))) ∧ Below w.heap.size w w'
/-- Between two rounds of the way down. -/
structure FD (N I : Nat) (w : World) (T : Tid) (L : Lv) (C : Ch) (st : Nat → Nat) (n k i : Nat) (r : Rw) (l : List Nat) (X : World) : Prop where
  be : Below N w X
  nb : Bk X N 22 #[.int .u64 (n : Nat)]
  r1 : Bk X (N + 1) 22 #[.int .u64 0]
  r2 : Bk X (N + 2) 4 #[.bool false]
  ib : Bk X I 22 #[.int .u64 (i : Nat)]
  rb : Bk X (I + 1) 60 #[.int .u64 (r.t.p : Nat), .int .u64 (r.t.f : Nat), .int .u64 (r.t.r : Nat), .int .i64 (r.s : Nat), .int .i64 (r.m : Nat), .int .i64 (r.e : Nat), .int .i64 (r.rest : Nat)]
  rad : RadAt X T L C
  gd : Rx.Good L C st (6 - k) k i r
  hi : (i + 1) * sz k ≤ 34359738368
  no : ∀ p, p < i * sz k → ¬ Run st p n
  some' : 1 ≤ k → (∃ c, i * sz k ≤ c ∧ c + n ≤ (i + 1) * sz k ∧ Run st c n) ∧ r.s < sz k ∧ r.s < n
  mks : Marks (I + 2) l X
/-- The chunk that the way down ends at is kept. -/
theorem FD.chunk {N I : Nat} {w : World} {T : Tid} {L : Lv} {C : Ch} {st : Nat → Nat} {n i : Nat} {r : Rw} {l : List Nat} {X : World} (h : FD N I w T L C st n 6 i r l X) (h4 : Four st) (hn : 1 ≤ n) : n ≤ 512 ∧ ∃ b c, C i = some (b, c) ∧ ∀ k, k < 512 → c k = st (512 * i + k) := by
  obtain ⟨⟨c0, a1, a2, a3⟩, a4, a5⟩ := h.some' (by decide)
  have e6 : sz 6 = 512 := rfl
  have hg : Rx.Good L C st 0 6 i r := h.gd
  refine ⟨by rw [e6] at a1 a2; omega, ?_⟩
  cases ha : al r.t (sz 6) with
  | none => exact hg.chunk ha
  | some s =>
    exfalso
    have e := hg.even ha
    have hall := hg.all h4 ha
    have s1 : 2 ≤ s := by
      have := a3 c0 (Nat.le_refl _) (by omega)
      rw [hall c0 a1 (by rw [e6] at a2 ⊢; omega)] at this
      exact this
    have : r.s = sz 6 := by rw [e]; unfold Rx.even tlOf; exact if_pos s1
    omega
/-- What the chunk's Find says is the first of all. -/
theorem FD.found {N I : Nat} {w : World} {T : Tid} {L : Lv} {C : Ch} {st : Nat → Nat} {n i : Nat} {r : Rw} {l : List Nat} {X : World} (h : FD N I w T L C st n 6 i r l X) (hn : 1 ≤ n) {c : Nat → Nat} (lo : ∀ k, k < 512 → 1 ≤ c k) (hc : ∀ k, k < 512 → c k = st (512 * i + k))
    {j : Int} {ok : Bool} (hf : FindP (fun k => decide (c k = 1)) ((n : Nat) : Int) 0 j ok) : ok = true ∧ ∃ a : Nat, j = (a : Nat) ∧ a + n ≤ 512 ∧ First st n (512 * i + a) := by
  obtain ⟨⟨c0, a1, a2, a3⟩, a4, a5⟩ := h.some' (by decide)
  have e6 : sz 6 = 512 := rfl
  have hno := h.no
  rw [e6] at a1 a2 hno
  have key : ∀ a, a + n ≤ 512 → (Clr (fun k => decide (c k = 1)) a n ↔ Run st (512 * i + a) n) := fun a ha => by
    constructor
    · intro hz q q1 q2
      have h1 := hz (q - 512 * i - a) (by omega)
      have h2 := lo (a + (q - 512 * i - a)) (by omega)
      have h3 := hc (a + (q - 512 * i - a)) (by omega)
      rw [show 512 * i + (a + (q - 512 * i - a)) = q by omega] at h3
      have h4 := of_decide_eq_false h1
      omega
    · intro hz k hk
      have h1 := hz (512 * i + (a + k)) (by omega) (by omega)
      have h3 := hc (a + k) (by omega)
      exact decide_eq_false (by omega)
  rcases hf with ⟨e1, e2, a, e3, e4, e5, e7, e8⟩ | ⟨e1, e2, e3⟩
  · rw [Int.toNat_natCast] at e5 e7 e8
    refine ⟨e1, a, e3, e5, (key a e5).1 e7, fun p' hp' hR => ?_⟩
    rcases Nat.lt_or_ge p' (512 * i) with y | y
    · exact hno p' (by omega) hR
    · exact e8 (p' - 512 * i) (by simp) (by omega) ((key (p' - 512 * i) (by omega)).2 (by rw [show 512 * i + (p' - 512 * i) = p' by omega]; exact hR))
  · exfalso
    rw [Int.toNat_natCast] at e3
    rcases e3 with e3 | e3
    · omega
    · exact e3 (c0 - 512 * i) (by simp) (by omega) ((key (c0 - 512 * i) (by omega)).2 (by rw [show 512 * i + (c0 - 512 * i) = c0 by omega]; exact a3))
end Go.Proofs.YtnpimmjkmclkpaaDoor
