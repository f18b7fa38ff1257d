/- A tree of a law's own: what each call answers there. -/
import Derived.Test.YtnpimmjkmclkpaaDoorYf
import Derived.Test.YtnpimmjkmclkpaaDoorYg
namespace Go.Proofs.YtnpimmjkmclkpaaDoor
open Go.ChangeShapes Go.WideShapes Go.ChangeAt Go.RowKit Go.Proofs.Bt Go.Shelf Go.Proofs.Rx Go.Maps Go.Proofs.Pk
set_option linter.unusedVariables false
set_option linter.unusedSimpArgs false

/-- A tree that was made behind w, beside blocks O of the law's own. -/
structure T9 (N : Nat) (O : Nat → Prop) (w W : World) (tb : Nat) (st : Nat → Nat) : Prop where
  tr : TreeE N O W tb st
  be : Below N w W
/-- What a call leaves alone. -/
def Left9 (N : Nat) (O : Nat → Prop) (W W' : World) : Prop := Kept (fun x => N ≤ x ∧ ¬ O x) W W'
section
variable {N : Nat} {O : Nat → Prop} {w W W' : World} {tb : Nat} {st st' : Nat → Nat}
theorem T9.chg (h : T9 N O w W tb st) (c : Chg N O W tb st' W') : T9 N O w W' tb st' ∧ Left9 N O W W' := ⟨⟨c.1, below_kept h.be c.2 (fun x hx => hx.1) h.tr.lt.2.2⟩, c.2⟩
theorem T9.read (h : T9 N O w W tb st) (b : Below W.heap.size W W') : T9 N O w W' tb st ∧ Left9 N O W W' := ⟨⟨h.tr.below b, h.be.trans (b.mono h.tr.lt.2.2)⟩, Kept.of_below b⟩
theorem T9.more {O' : Nat → Prop} (h : T9 N O w W tb st) (b : Below W.heap.size W W') (hO : ∀ x, O' x → O x ∨ (W.heap.size ≤ x ∧ x < W'.heap.size)) : T9 N O' w W' tb st := ⟨h.tr.more b hO, h.be.trans (b.mono h.tr.lt.2.2)⟩
/-- The law writes its own blocks. -/
theorem T9.own {F : Nat → Prop} (h : T9 N O w W tb st) (k : Kept F W W') (hF : ∀ x, F x → O x ∧ N ≤ x) : T9 N O w W' tb st := ⟨h.tr.kept k (fun x hx => (hF x hx).1), below_kept h.be k (fun x hx => (hF x hx).2) h.tr.lt.2.2⟩
theorem T9.congr (h : T9 N O w W tb st) (e : st = st') : T9 N O w W tb st' := e ▸ h
theorem T9.four (h : T9 N O w W tb st) : Four st := h.tr.four
theorem T9.out (h : T9 N O w W tb st) : ∀ q, 34359738368 ≤ q → st q = 0 := h.tr.out
theorem T9.tab (h : T9 N O w W tb st) : TabW W := h.tr.tab
theorem t9_new (ht : TabW w) (hN : w.heap.size = N) : Calls Tryd.prog 7 #[] w fun e W => ∃ tb, e = .returned (.pointer (some ⟨tb, 0, none⟩)) ∧ T9 N (fun _ => False) w W tb (fun _ => 0) := by
  refine (new9_any ht).mono ?_
  rintro e W ⟨⟨tb, he, h⟩, b⟩
  rw [hN] at h b
  exact ⟨tb, he, h, b⟩
theorem t9_grow (h : T9 N O w W tb st) (c n : Nat) (hb : ¬ GrowBad c n) (ht : (tl st (c * 512) (n * 512)).p = 0) :
    Calls Tryd.prog 8 #[.pointer (some ⟨tb, 0, none⟩), .int .u64 (c : Nat), .int .u64 (n : Nat)] W fun e W' => e = .returned (.int .i64 0) ∧ T9 N O w W' tb (setSt st (c * 512) (c * 512 + n * 512) 3) ∧ Left9 N O W W' := by
  have hb' : n ≠ 0 ∧ n ≤ 262144 ∧ c + n ≤ 67108864 := by unfold GrowBad at hb; omega
  refine (grow_any h.tr c n (by omega) (by omega)).mono ?_
  rintro e W' ⟨_, _, h3⟩
  obtain ⟨e1, e2⟩ := h3 hb (by omega)
  exact ⟨e1, h.chg e2⟩
theorem t9_grow_bad (h : T9 N O w W tb st) (c n : Nat) (hc : c < 18446744073709551616) (hn : n < 18446744073709551616) (hb : GrowBad c n) :
    Calls Tryd.prog 8 #[.pointer (some ⟨tb, 0, none⟩), .int .u64 (c : Nat), .int .u64 (n : Nat)] W fun e W' => e = .returned (.int .i64 1) ∧ T9 N O w W' tb st ∧ Left9 N O W W' := by
  refine (grow_any h.tr c n hc hn).mono ?_
  rintro e W' ⟨h1, _, _⟩
  obtain ⟨e1, e2⟩ := h1 hb
  exact ⟨e1, h.chg e2⟩
theorem t9_grow_twice (h : T9 N O w W tb st) (c n : Nat) (hb : ¬ GrowBad c n) (ht : 0 < (tl st (c * 512) (n * 512)).p) :
    Calls Tryd.prog 8 #[.pointer (some ⟨tb, 0, none⟩), .int .u64 (c : Nat), .int .u64 (n : Nat)] W fun e W' => e = .returned (.int .i64 34) ∧ T9 N O w W' tb st ∧ Left9 N O W W' := by
  have hb' : n ≠ 0 ∧ n ≤ 262144 ∧ c + n ≤ 67108864 := by unfold GrowBad at hb; omega
  refine (grow_any h.tr c n (by omega) (by omega)).mono ?_
  rintro e W' ⟨_, h2, _⟩
  obtain ⟨e1, e2⟩ := h2 hb ht
  exact ⟨e1, h.chg e2⟩
theorem t9_find (h : T9 N O w W tb st) (n p : Nat) (hn : n < 18446744073709551616) (h1 : 1 ≤ n) (hf : First st n p) :
    Calls Tryd.prog 9 #[.pointer (some ⟨tb, 0, none⟩), .int .u64 (n : Nat)] W fun e W' => e = .returned (.tuple #[.int .u64 (p : Nat), .bool true]) ∧ T9 N O w W' tb st ∧ Left9 N O W W' := by
  refine (h.tr.find n hn).mono ?_
  rintro e W' ⟨(⟨q, _, hq, _, he⟩ | ⟨hno, he⟩), b⟩
  · rw [First_one hq hf] at he
    exact ⟨he, h.read b⟩
  · exact absurd hf.1 (hno.resolve_left (by omega) p)
theorem t9_find_no (h : T9 N O w W tb st) (n : Nat) (hn : n < 18446744073709551616) (hf : n = 0 ∨ ∀ p, ¬ Run st p n) :
    Calls Tryd.prog 9 #[.pointer (some ⟨tb, 0, none⟩), .int .u64 (n : Nat)] W fun e W' => e = .returned (.tuple #[.int .u64 0, .bool false]) ∧ T9 N O w W' tb st ∧ Left9 N O W W' := by
  refine (h.tr.find n hn).mono ?_
  rintro e W' ⟨(⟨q, _, hq, h1, he⟩ | ⟨hno, he⟩), b⟩
  · exact absurd hq.1 (hf.resolve_left (by omega) q)
  · exact ⟨he, h.read b⟩
theorem t9_alloc (h : T9 N O w W tb st) (n p : Nat) (hn : n < 18446744073709551616) (h1 : 1 ≤ n) (hf : First st n p) :
    Calls Tryd.prog 10 #[.pointer (some ⟨tb, 0, none⟩), .int .u64 (n : Nat)] W fun e W' => e = .returned (.tuple #[.int .u64 (p : Nat), .int .u64 ((tl st p n).r : Nat), .int .i64 0]) ∧ T9 N O w W' tb (setSt st p (p + n) 1) ∧ Left9 N O W W' := by
  refine (alloc_any h.tr n hn).mono ?_
  rintro e W' (⟨h0, _⟩ | ⟨_, hno, _⟩ | ⟨_, q, hq, hqf, he, hc⟩)
  · omega
  · exact absurd hf.1 (hno p)
  · obtain rfl := First_one hqf hf
    exact ⟨he, h.chg hc⟩
theorem t9_alloc_no (h : T9 N O w W tb st) (n : Nat) (hn : n < 18446744073709551616) (h1 : 1 ≤ n) (hf : ∀ p, ¬ Run st p n) :
    Calls Tryd.prog 10 #[.pointer (some ⟨tb, 0, none⟩), .int .u64 (n : Nat)] W fun e W' => e = .returned (.tuple #[.int .u64 0, .int .u64 0, .int .i64 30]) ∧ T9 N O w W' tb st ∧ Left9 N O W W' := by
  refine (alloc_any h.tr n hn).mono ?_
  rintro e W' (⟨h0, _⟩ | ⟨_, hno, he, hc⟩ | ⟨_, q, hq, hqf, he, hc⟩)
  · omega
  · exact ⟨he, h.chg hc⟩
  · exact absurd hqf.1 (hf q)
/-- Are all these pages in the tree? -/
def InT (st : Nat → Nat) (p n : Nat) : Prop := 1 ≤ n ∧ p + n ≤ 34359738368 ∧ (tl st p n).p = n
theorem cntT_inT {st : Nat → Nat} {p n : Nat} : ¬ (n = 0 ∨ (cntT st p n).p < n) ↔ InT st p n := by
  unfold InT cntT
  have := (tl_le st p n).1
  by_cases z : n = 0 ∨ 34359738368 < p + n
  · rw [if_pos z]; dsimp only; omega
  · rw [if_neg z]; omega
theorem t9_take (h : T9 N O w W tb st) (p n : Nat) (hi : InT st p n) (hf : (tl st p n).f = n) :
    Calls Tryd.prog 11 #[.pointer (some ⟨tb, 0, none⟩), .int .u64 (p : Nat), .int .u64 (n : Nat)] W fun e W' => e = .returned (.tuple #[.int .u64 ((tl st p n).r : Nat), .int .i64 0]) ∧ T9 N O w W' tb (setSt st p (p + n) 1) ∧ Left9 N O W W' := by
  have := hi.2.1
  refine (take9_any h.tr p n (by omega) (by omega)).mono ?_
  rintro e W' ⟨_, _, h3⟩
  obtain ⟨e1, e2⟩ := h3 (cntT_inT.2 hi) (by omega)
  exact ⟨e1, h.chg e2⟩
theorem t9_take_used (h : T9 N O w W tb st) (p n : Nat) (hi : InT st p n) (hf : (tl st p n).f < n) :
    Calls Tryd.prog 11 #[.pointer (some ⟨tb, 0, none⟩), .int .u64 (p : Nat), .int .u64 (n : Nat)] W fun e W' => e = .returned (.tuple #[.int .u64 0, .int .i64 32]) ∧ T9 N O w W' tb st ∧ Left9 N O W W' := by
  have := hi.2.1
  refine (take9_any h.tr p n (by omega) (by omega)).mono ?_
  rintro e W' ⟨_, h2, _⟩
  obtain ⟨e1, e2⟩ := h2 (cntT_inT.2 hi) hf
  exact ⟨e1, h.chg e2⟩
theorem t9_take_bad (h : T9 N O w W tb st) (p n : Nat) (hp : p < 18446744073709551616) (hn : n < 18446744073709551616) (hi : ¬ InT st p n) :
    Calls Tryd.prog 11 #[.pointer (some ⟨tb, 0, none⟩), .int .u64 (p : Nat), .int .u64 (n : Nat)] W fun e W' => e = .returned (.tuple #[.int .u64 0, .int .i64 10]) ∧ T9 N O w W' tb st ∧ Left9 N O W W' := by
  refine (take9_any h.tr p n hp hn).mono ?_
  rintro e W' ⟨h1, _, _⟩
  obtain ⟨e1, e2⟩ := h1 (Classical.not_not.1 fun z => hi (cntT_inT.1 z))
  exact ⟨e1, h.chg e2⟩
theorem t9_give (h : T9 N O w W tb st) (p n : Nat) (hi : InT st p n) (hf : (tl st p n).f = 0) :
    Calls Tryd.prog 17 #[.pointer (some ⟨tb, 0, none⟩), .int .u64 (p : Nat), .int .u64 (n : Nat)] W fun e W' => e = .returned (.int .i64 0) ∧ T9 N O w W' tb (setSt st p (p + n) 2) ∧ Left9 N O W W' := by
  have := hi.2.1
  refine (giveT_any h.tr p n (by omega) (by omega)).mono ?_
  rintro e W' ⟨_, _, h3⟩
  obtain ⟨e1, e2⟩ := h3 (cntT_inT.2 hi) (by omega)
  exact ⟨e1, h.chg e2⟩
theorem t9_back (h : T9 N O w W tb st) (p n : Nat) (hi : InT st p n) (hf : (tl st p n).f = 0) :
    Calls Tryd.prog 14 #[.pointer (some ⟨tb, 0, none⟩), .int .u64 (p : Nat), .int .u64 (n : Nat)] W fun e W' => e = .returned (.int .i64 0) ∧ T9 N O w W' tb (setSt st p (p + n) 3) ∧ Left9 N O W W' := by
  have := hi.2.1
  refine (backT_any h.tr p n (by omega) (by omega)).mono ?_
  rintro e W' ⟨_, _, h3⟩
  obtain ⟨e1, e2⟩ := h3 (cntT_inT.2 hi) (by omega)
  exact ⟨e1, h.chg e2⟩
theorem t9_back_free (h : T9 N O w W tb st) (p n : Nat) (hi : InT st p n) (hf : 0 < (tl st p n).f) :
    Calls Tryd.prog 14 #[.pointer (some ⟨tb, 0, none⟩), .int .u64 (p : Nat), .int .u64 (n : Nat)] W fun e W' => e = .returned (.int .i64 31) ∧ T9 N O w W' tb st ∧ Left9 N O W W' := by
  have := hi.2.1
  refine (backT_any h.tr p n (by omega) (by omega)).mono ?_
  rintro e W' ⟨_, h2, _⟩
  obtain ⟨e1, e2⟩ := h2 (cntT_inT.2 hi) hf
  exact ⟨e1, h.chg e2⟩
end
end Go.Proofs.YtnpimmjkmclkpaaDoor
