/- Package radix: Alloc: its contract. -/
import Derived.Test.YtnclicdnncgdiaaDoorYe
import Derived.Test.YtnclicdnncgdiaaDoorXu
import Derived.Deep.Slices
import Derived.Deep.Strs
import Derived.Lib.SmallJoins
import Derived.Lib.LaidTab
import Derived.LaidMore
import Derived.Stop.Joined
namespace Go.Proofs.YtnclicdnncgdiaaDoor
open Go.ChangeShapes Go.WideShapes Go.ChangeAt Go.RowKit Go.Proofs.Bt Go.Shelf Go.Proofs.Rx Go.Maps Go.Proofs.Pk
set_option linter.unusedVariables false
set_option linter.unusedSimpArgs false

theorem run_tl {st : Nat → Nat} {p n : Nat} (h : Run st p n) (hn : 1 ≤ n) (ho : ∀ q, 34359738368 ≤ q → st q = 0) : p + n ≤ 34359738368 ∧ (tl st p n).p = n ∧ (tl st p n).f = n := by
  refine ⟨?_, ?_, ?_⟩
  · rcases Nat.lt_or_ge 34359738368 (p + n) with y | y
    · have h1 := h (p + n - 1) (by omega) (by omega)
      have h2 := ho (p + n - 1) (by omega)
      omega
    · exact y
  · show cnt (inU st) p n = n
    exact cnt_full.2 fun k hk => by
      have := h (p + k) (by omega) (by omega)
      unfold inU
      exact decide_eq_true (by omega)
  · show cnt (fre st) p n = n
    exact cnt_full.2 fun k hk => by
      have := h (p + k) (by omega) (by omega)
      unfold fre
      exact decide_eq_true (by omega)
theorem TreeE.find {B : Nat} {O : Nat → Prop} {w : World} {tb : Nat} {st : Nat → Nat} (h : TreeE B O w tb st) (n : Nat) (hn : n < 18446744073709551616) :
    Calls Tryd.prog 22 #[.pointer (some ⟨tb, 0, none⟩), .int .u64 (n : Nat)] w (FindT st n w) := by
  obtain ⟨T, L, C, rfl, rfl, h1, h2⟩ := h
  exact find9_core h1 n hn
/-- What Alloc answers and leaves. -/
def AllocP (B : Nat) (O : Nat → Prop) (w : World) (tb : Nat) (st : Nat → Nat) (n : Nat) (e : Ending) (w' : World) : Prop :=
  (n = 0 ∧ e = .returned (.tuple #[.int .u64 0, .int .u64 0, .int .i64 1]) ∧ Chg B O w tb st w') ∨
  (1 ≤ n ∧ (∀ p, ¬ Run st p n) ∧ e = .returned (.tuple #[.int .u64 0, .int .u64 0, .int .i64 30]) ∧ Chg B O w tb st w') ∨
  (1 ≤ n ∧ ∃ p, p + n ≤ 34359738368 ∧ First st n p ∧ e = .returned (.tuple #[.int .u64 (p : Nat), .int .u64 ((tl st p n).r : Nat), .int .i64 0]) ∧ Chg B O w tb (setSt st p (p + n) 1) w')
set_option maxRecDepth 100000 in
theorem alloc_any {B : Nat} {O : Nat → Prop} {w : World} {tb : Nat} {st : Nat → Nat} (h : TreeE B O w tb st) (n : Nat) (hn : n < 18446744073709551616) :
    Calls Tryd.prog 9 #[.pointer (some ⟨tb, 0, none⟩), .int .u64 (n : Nat)] w (AllocP B O w tb st n) := by
  obtain ⟨R, hR⟩ : ∃ R, R = AllocP B O w tb st n := ⟨_, rfl⟩
  rw [← hR]
  have HR := hide hR
  have HH := hide h
  have CF := hide (h.find n hn)
  by_cases n0 : n = 0
  · have d0 : ((n : Int) == 0) = true := beq_iff_eq.2 (by omega)
    have F := hide (show R (.returned (.tuple #[.int .u64 0, .int .u64 0, .int .i64 1])) w from by
      rw [HR.out]; exact .inl ⟨n0, rfl, Chg.same HH.out (Below.refl _ _)⟩)
    clear hR h CF HR HH n0
    go_enter Tryd.func9, Tryd.ntmps9
    go_wp2_with fail
    first | exact F.out | (refine bodyPost_ret (results_tmp3 Tryd.results9 _ _ _) rfl ?_; exact F.out)
  · have d0 : ((n : Int) == 0) = false := beq_eq_false_iff_ne.2 (by omega)
    have n1 : 1 ≤ n := by omega
    clear hR h n0
    go_enter Tryd.func9, Tryd.ntmps9
    go_wp2_with fail
    refine CF.out.mono ?_
    rintro e w1 ⟨(⟨p, hp, hf, _, rfl⟩ | ⟨hno, rfl⟩), b1⟩
    · have T1 := hide (HH.out.below b1)
      have B1 := hide b1
      obtain ⟨r1, r2, r3⟩ := run_tl hf.1 n1 HH.out.out
      have CK := hide (take9_any T1.out p n (by omega) hn)
      have ec : cntT st p n = tl st p n := by unfold cntT; rw [if_neg (by omega)]
      have F := hide (show ∀ W e, TakeP B O w1 tb st p n e W → e = .returned (.tuple #[.int .u64 ((tl st p n).r : Nat), .int .i64 0]) ∧ R (.returned (.tuple #[.int .u64 (p : Nat), .int .u64 ((tl st p n).r : Nat), .int .i64 0])) W from fun W e hW => by
        obtain ⟨e1, e2⟩ := hW.2.2 (by rw [ec]; omega) (by omega)
        refine ⟨e1, ?_⟩
        rw [HR.out]
        exact .inr (.inr ⟨n1, p, r1, hf, rfl, e2.after B1.out⟩))
      obtain ⟨q, hq⟩ : ∃ q, (tl st p n).r = q := ⟨_, rfl⟩
      rw [hq] at F
      clear CF b1 hf r2 r3 ec hq HR
      go_wp2_with fail
      refine CK.out.mono ?_
      intro e w2 hx
      obtain ⟨rfl, hr⟩ := F.out _ _ hx
      have HF := hide hr
      clear hx hr F CK
      go_wp2_with fail
      first | exact HF.out | (refine bodyPost_ret (results_tmp3 Tryd.results9 _ _ _) rfl ?_; exact HF.out)
    · have F := hide (show R (.returned (.tuple #[.int .u64 0, .int .u64 0, .int .i64 30])) w1 from by
        rw [HR.out]; exact .inr (.inl ⟨n1, hno.resolve_left (by omega), rfl, Chg.same HH.out b1⟩))
      clear CF hno b1 HR
      go_wp2_with fail
      first | exact F.out | (refine bodyPost_ret (results_tmp3 Tryd.results9 _ _ _) rfl ?_; exact F.out)
/-- What State answers. -/
def StateP (st : Nat → Nat) (q : Nat) (w : World) (e : Ending) (w' : World) : Prop :=
  e = .returned (.tuple #[.bool (inU st q), .bool (fre st q), .bool (rel st q)]) ∧ Below w.heap.size w w'
theorem cnt_one (f : Nat → Bool) (q : Nat) : decide (0 < cnt f q 1) = f q := by
  simp only [cnt, Nat.add_zero]
  have key : ∀ b : Bool, decide (0 < 0 + b.toNat) = b := by decide
  exact key _
theorem cntT_one {st : Nat → Nat} (ho : ∀ q, 34359738368 ≤ q → st q = 0) (q : Nat) : decide (0 < (cntT st q 1).p) = inU st q ∧ decide (0 < (cntT st q 1).f) = fre st q ∧ decide (0 < (cntT st q 1).r) = rel st q := by
  unfold cntT
  by_cases z : (1 : Nat) = 0 ∨ 34359738368 < q + 1
  · rw [if_pos z]
    have := ho q (by omega)
    unfold inU fre rel
    rw [this]
    exact ⟨rfl, rfl, rfl⟩
  · rw [if_neg z]
    exact ⟨cnt_one _ _, cnt_one _ _, cnt_one _ _⟩
set_option maxRecDepth 100000 in
theorem state_any {B : Nat} {O : Nat → Prop} {w : World} {tb : Nat} {st : Nat → Nat} (h : TreeE B O w tb st) (q : Nat) (hq : q < 18446744073709551616) :
    Calls Tryd.prog 12 #[.pointer (some ⟨tb, 0, none⟩), .int .u64 (q : Nat)] w (StateP st q w) := by
  obtain ⟨R, hR⟩ : ∃ R, R = StateP st q w := ⟨_, rfl⟩
  rw [← hR]
  have HR := hide hR
  have HH := hide h
  have CC := hide (h.count q 1 hq (by omega))
  simp only [Int.cast_ofNat_Int] at CC
  obtain ⟨e1, e2, e3⟩ := cntT_one h.out q
  obtain ⟨t, ht⟩ : ∃ t, cntT st q 1 = t := ⟨_, rfl⟩
  rw [ht] at CC e1 e2 e3
  unfold tlV at CC
  obtain ⟨x, hx⟩ : ∃ x, inU st q = x := ⟨_, rfl⟩
  obtain ⟨y, hy⟩ : ∃ y, fre st q = y := ⟨_, rfl⟩
  obtain ⟨z, hz⟩ : ∃ z, rel st q = z := ⟨_, rfl⟩
  have HX := hide (And.intro hx (And.intro hy hz))
  rw [hx] at e1
  rw [hy] at e2
  rw [hz] at e3
  clear hR h ht hx hy hz
  go_enter Tryd.func12, Tryd.ntmps12
  go_wp2_with fail
  refine CC.out.mono ?_
  rintro e w1 ⟨rfl, b1⟩
  obtain ⟨b, hb⟩ : ∃ b, w1.heap.size = b := ⟨_, rfl⟩
  obtain ⟨W, hW⟩ : ∃ W, w1.alloc (.cells #[.int .u64 (t.p : Nat), .int .u64 (t.f : Nat), .int .u64 (t.r : Nat)] 60) = W := ⟨_, rfl⟩
  have TB := hide (tal_box hb hW.symm)
  have bW : Below w.heap.size w W := by rw [← hW]; exact b1.alloc b1.size _
  have BW := hide bW
  have s1 := b1.size
  have c0 := TB.out.cell 0 _ rfl
  have c1 := TB.out.cell 1 _ rfl
  have c2 := TB.out.cell 2 _ rfl
  have F := hide (show ∀ m, R (.returned (.tuple #[.bool x, .bool y, .bool z])) (W.drewN m) from fun m => by
    rw [HR.out]
    exact ⟨by rw [HX.out.1, HX.out.2.1, HX.out.2.2], BW.out.trans ⟨rfl, rfl, rfl, Nat.le_refl _, fun _ _ => rfl⟩⟩)
  clear b1 CC bW HR HX
  go_wp2_with fail
  go_quiet (fail)
  go_wp2_with fail
  first | exact F.out _ | (refine bodyPost_ret (results_tmp3 Tryd.results12 _ _ _) rfl ?_; exact F.out _)
end Go.Proofs.YtnclicdnncgdiaaDoor
/- Counts of all pages, behind a change; runs of free pages: no Go in sight. -/
namespace Go.Proofs.YtnclicdnncgdiaaDoor
open Go.Proofs.Bt Go.Proofs.Rx Go.Proofs.Pk
set_option linter.unusedVariables false
set_option linter.unusedSimpArgs false

/-- How many are free, how many released. -/
def frT (st : Nat → Nat) : Nat := (tl st 0 34359738368).f
def rlT (st : Nat → Nat) : Nat := (tl st 0 34359738368).r
theorem tot_set {st : Nat → Nat} {a n s : Nat} (h : a + n ≤ 34359738368) :
    frT (setSt st a (a + n) s) + (tl st a n).f = frT st + (if 2 ≤ s then n else 0) ∧ rlT (setSt st a (a + n) s) + (tl st a n).r = rlT st + (if s = 3 then n else 0) := by
  obtain ⟨h1, h2, h3, h4⟩ := tl_swap (st := st) (st' := setSt st a (a + n) s) (A := 0) (n := 34359738368) (K := a) (z := n) (by omega) (by omega) (fun q _ _ hq => (setSt_out hq).symm)
  have e : tl (setSt st a (a + n) s) a n = tlOf s n := All.tl fun q q1 q2 => setSt_in ⟨q1, q2⟩
  rw [e] at h1
  unfold frT rlT
  rw [h1]
  unfold Tl.add Tl.sub tlOf
  dsimp only
  omega
theorem tot_zero : frT (fun _ => 0) = 0 ∧ rlT (fun _ => 0) = 0 := by
  have e : tl (fun _ => 0) 0 34359738368 = tlOf 0 34359738368 := All.tl fun q _ _ => rfl
  unfold frT rlT
  rw [e]
  exact ⟨rfl, rfl⟩
theorem tl_all {st : Nat → Nat} {a n s : Nat} (h : ∀ q, a ≤ q → q < a + n → st q = s) : tl st a n = tlOf s n := All.tl h
/-- The first of all: only one. -/
theorem First_one {st : Nat → Nat} {n p p' : Nat} (h : First st n p) (h' : First st n p') : p = p' := by
  rcases Nat.lt_trichotomy p p' with y | y | y
  · exact absurd h.1 (h'.2 p y)
  · exact y
  · exact absurd h'.1 (h.2 p' y)
end Go.Proofs.YtnclicdnncgdiaaDoor
/- A tree of a law's own: what each call answers there. -/
namespace Go.Proofs.YtnclicdnncgdiaaDoor
open Go.ChangeShapes Go.WideShapes Go.ChangeAt Go.RowKit Go.Proofs.Bt Go.Shelf Go.Proofs.Rx Go.Maps Go.Proofs.Pk
set_option linter.unusedVariables false
set_option linter.unusedSimpArgs false

/-- A tree that was made behind w, beside blocks O of the law's own. -/
structure T9 (N : Nat) (O : Nat → Prop) (w W : World) (tb : Nat) (st : Nat → Nat) : Prop where
  tr : TreeE N O W tb st
  be : Below N w W
/-- What a call leaves alone. -/
def Left9 (N : Nat) (O : Nat → Prop) (W W' : World) : Prop := Kept (fun x => N ≤ x ∧ ¬ O x) W W'
section
variable {N : Nat} {O : Nat → Prop} {w W W' : World} {tb : Nat} {st st' : Nat → Nat}
theorem T9.chg (h : T9 N O w W tb st) (c : Chg N O W tb st' W') : T9 N O w W' tb st' ∧ Left9 N O W W' := ⟨⟨c.1, below_kept h.be c.2 (fun x hx => hx.1) h.tr.lt.2.2⟩, c.2⟩
theorem T9.read (h : T9 N O w W tb st) (b : Below W.heap.size W W') : T9 N O w W' tb st ∧ Left9 N O W W' := ⟨⟨h.tr.below b, h.be.trans (b.mono h.tr.lt.2.2)⟩, Kept.of_below b⟩
theorem T9.more {O' : Nat → Prop} (h : T9 N O w W tb st) (b : Below W.heap.size W W') (hO : ∀ x, O' x → O x ∨ (W.heap.size ≤ x ∧ x < W'.heap.size)) : T9 N O' w W' tb st := ⟨h.tr.more b hO, h.be.trans (b.mono h.tr.lt.2.2)⟩
/-- The law writes its own blocks. -/
theorem T9.own {F : Nat → Prop} (h : T9 N O w W tb st) (k : Kept F W W') (hF : ∀ x, F x → O x ∧ N ≤ x) : T9 N O w W' tb st := ⟨h.tr.kept k (fun x hx => (hF x hx).1), below_kept h.be k (fun x hx => (hF x hx).2) h.tr.lt.2.2⟩
theorem T9.congr (h : T9 N O w W tb st) (e : st = st') : T9 N O w W tb st' := e ▸ h
theorem T9.four (h : T9 N O w W tb st) : Four st := h.tr.four
theorem T9.out (h : T9 N O w W tb st) : ∀ q, 34359738368 ≤ q → st q = 0 := h.tr.out
theorem T9.tab (h : T9 N O w W tb st) : TabW W := h.tr.tab
theorem t9_new (ht : TabW w) (hN : w.heap.size = N) : Calls Tryd.prog 6 #[] w fun e W => ∃ tb, e = .returned (.pointer (some ⟨tb, 0, none⟩)) ∧ T9 N (fun _ => False) w W tb (fun _ => 0) := by
  refine (new9_any ht).mono ?_
  rintro e W ⟨⟨tb, he, h⟩, b⟩
  rw [hN] at h b
  exact ⟨tb, he, h, b⟩
theorem t9_grow (h : T9 N O w W tb st) (c n : Nat) (hb : ¬ GrowBad c n) (ht : (tl st (c * 512) (n * 512)).p = 0) :
    Calls Tryd.prog 8 #[.pointer (some ⟨tb, 0, none⟩), .int .u64 (c : Nat), .int .u64 (n : Nat)] W fun e W' => e = .returned (.int .i64 0) ∧ T9 N O w W' tb (setSt st (c * 512) (c * 512 + n * 512) 3) ∧ Left9 N O W W' := by
  have hb' : n ≠ 0 ∧ n ≤ 262144 ∧ c + n ≤ 67108864 := by unfold GrowBad at hb; omega
  refine (grow_any h.tr c n (by omega) (by omega)).mono ?_
  rintro e W' ⟨_, _, h3⟩
  obtain ⟨e1, e2⟩ := h3 hb (by omega)
  exact ⟨e1, h.chg e2⟩
theorem t9_grow_bad (h : T9 N O w W tb st) (c n : Nat) (hc : c < 18446744073709551616) (hn : n < 18446744073709551616) (hb : GrowBad c n) :
    Calls Tryd.prog 8 #[.pointer (some ⟨tb, 0, none⟩), .int .u64 (c : Nat), .int .u64 (n : Nat)] W fun e W' => e = .returned (.int .i64 1) ∧ T9 N O w W' tb st ∧ Left9 N O W W' := by
  refine (grow_any h.tr c n hc hn).mono ?_
  rintro e W' ⟨h1, _, _⟩
  obtain ⟨e1, e2⟩ := h1 hb
  exact ⟨e1, h.chg e2⟩
theorem t9_grow_twice (h : T9 N O w W tb st) (c n : Nat) (hb : ¬ GrowBad c n) (ht : 0 < (tl st (c * 512) (n * 512)).p) :
    Calls Tryd.prog 8 #[.pointer (some ⟨tb, 0, none⟩), .int .u64 (c : Nat), .int .u64 (n : Nat)] W fun e W' => e = .returned (.int .i64 34) ∧ T9 N O w W' tb st ∧ Left9 N O W W' := by
  have hb' : n ≠ 0 ∧ n ≤ 262144 ∧ c + n ≤ 67108864 := by unfold GrowBad at hb; omega
  refine (grow_any h.tr c n (by omega) (by omega)).mono ?_
  rintro e W' ⟨_, h2, _⟩
  obtain ⟨e1, e2⟩ := h2 hb ht
  exact ⟨e1, h.chg e2⟩
theorem t9_find (h : T9 N O w W tb st) (n p : Nat) (hn : n < 18446744073709551616) (h1 : 1 ≤ n) (hf : First st n p) :
    Calls Tryd.prog 22 #[.pointer (some ⟨tb, 0, none⟩), .int .u64 (n : Nat)] W fun e W' => e = .returned (.tuple #[.int .u64 (p : Nat), .bool true]) ∧ T9 N O w W' tb st ∧ Left9 N O W W' := by
  refine (h.tr.find n hn).mono ?_
  rintro e W' ⟨(⟨q, _, hq, _, he⟩ | ⟨hno, he⟩), b⟩
  · rw [First_one hq hf] at he
    exact ⟨he, h.read b⟩
  · exact absurd hf.1 (hno.resolve_left (by omega) p)
theorem t9_find_no (h : T9 N O w W tb st) (n : Nat) (hn : n < 18446744073709551616) (hf : n = 0 ∨ ∀ p, ¬ Run st p n) :
    Calls Tryd.prog 22 #[.pointer (some ⟨tb, 0, none⟩), .int .u64 (n : Nat)] W fun e W' => e = .returned (.tuple #[.int .u64 0, .bool false]) ∧ T9 N O w W' tb st ∧ Left9 N O W W' := by
  refine (h.tr.find n hn).mono ?_
  rintro e W' ⟨(⟨q, _, hq, h1, he⟩ | ⟨hno, he⟩), b⟩
  · exact absurd hq.1 (hf.resolve_left (by omega) q)
  · exact ⟨he, h.read b⟩
theorem t9_alloc (h : T9 N O w W tb st) (n p : Nat) (hn : n < 18446744073709551616) (h1 : 1 ≤ n) (hf : First st n p) :
    Calls Tryd.prog 9 #[.pointer (some ⟨tb, 0, none⟩), .int .u64 (n : Nat)] W fun e W' => e = .returned (.tuple #[.int .u64 (p : Nat), .int .u64 ((tl st p n).r : Nat), .int .i64 0]) ∧ T9 N O w W' tb (setSt st p (p + n) 1) ∧ Left9 N O W W' := by
  refine (alloc_any h.tr n hn).mono ?_
  rintro e W' (⟨h0, _⟩ | ⟨_, hno, _⟩ | ⟨_, q, hq, hqf, he, hc⟩)
  · omega
  · exact absurd hf.1 (hno p)
  · obtain rfl := First_one hqf hf
    exact ⟨he, h.chg hc⟩
theorem t9_alloc_no (h : T9 N O w W tb st) (n : Nat) (hn : n < 18446744073709551616) (h1 : 1 ≤ n) (hf : ∀ p, ¬ Run st p n) :
    Calls Tryd.prog 9 #[.pointer (some ⟨tb, 0, none⟩), .int .u64 (n : Nat)] W fun e W' => e = .returned (.tuple #[.int .u64 0, .int .u64 0, .int .i64 30]) ∧ T9 N O w W' tb st ∧ Left9 N O W W' := by
  refine (alloc_any h.tr n hn).mono ?_
  rintro e W' (⟨h0, _⟩ | ⟨_, hno, he, hc⟩ | ⟨_, q, hq, hqf, he, hc⟩)
  · omega
  · exact ⟨he, h.chg hc⟩
  · exact absurd hqf.1 (hf q)
/-- Are all these pages in the tree? -/
def InT (st : Nat → Nat) (p n : Nat) : Prop := 1 ≤ n ∧ p + n ≤ 34359738368 ∧ (tl st p n).p = n
theorem cntT_inT {st : Nat → Nat} {p n : Nat} : ¬ (n = 0 ∨ (cntT st p n).p < n) ↔ InT st p n := by
  unfold InT cntT
  have := (tl_le st p n).1
  by_cases z : n = 0 ∨ 34359738368 < p + n
  · rw [if_pos z]; dsimp only; omega
  · rw [if_neg z]; omega
theorem t9_take (h : T9 N O w W tb st) (p n : Nat) (hi : InT st p n) (hf : (tl st p n).f = n) :
    Calls Tryd.prog 23 #[.pointer (some ⟨tb, 0, none⟩), .int .u64 (p : Nat), .int .u64 (n : Nat)] W fun e W' => e = .returned (.tuple #[.int .u64 ((tl st p n).r : Nat), .int .i64 0]) ∧ T9 N O w W' tb (setSt st p (p + n) 1) ∧ Left9 N O W W' := by
  have := hi.2.1
  refine (take9_any h.tr p n (by omega) (by omega)).mono ?_
  rintro e W' ⟨_, _, h3⟩
  obtain ⟨e1, e2⟩ := h3 (cntT_inT.2 hi) (by omega)
  exact ⟨e1, h.chg e2⟩
theorem t9_take_used (h : T9 N O w W tb st) (p n : Nat) (hi : InT st p n) (hf : (tl st p n).f < n) :
    Calls Tryd.prog 23 #[.pointer (some ⟨tb, 0, none⟩), .int .u64 (p : Nat), .int .u64 (n : Nat)] W fun e W' => e = .returned (.tuple #[.int .u64 0, .int .i64 32]) ∧ T9 N O w W' tb st ∧ Left9 N O W W' := by
  have := hi.2.1
  refine (take9_any h.tr p n (by omega) (by omega)).mono ?_
  rintro e W' ⟨_, h2, _⟩
  obtain ⟨e1, e2⟩ := h2 (cntT_inT.2 hi) hf
  exact ⟨e1, h.chg e2⟩
theorem t9_take_bad (h : T9 N O w W tb st) (p n : Nat) (hp : p < 18446744073709551616) (hn : n < 18446744073709551616) (hi : ¬ InT st p n) :
    Calls Tryd.prog 23 #[.pointer (some ⟨tb, 0, none⟩), .int .u64 (p : Nat), .int .u64 (n : Nat)] W fun e W' => e = .returned (.tuple #[.int .u64 0, .int .i64 10]) ∧ T9 N O w W' tb st ∧ Left9 N O W W' := by
  refine (take9_any h.tr p n hp hn).mono ?_
  rintro e W' ⟨h1, _, _⟩
  obtain ⟨e1, e2⟩ := h1 (Classical.not_not.1 fun z => hi (cntT_inT.1 z))
  exact ⟨e1, h.chg e2⟩
theorem t9_give (h : T9 N O w W tb st) (p n : Nat) (hi : InT st p n) (hf : (tl st p n).f = 0) :
    Calls Tryd.prog 10 #[.pointer (some ⟨tb, 0, none⟩), .int .u64 (p : Nat), .int .u64 (n : Nat)] W fun e W' => e = .returned (.int .i64 0) ∧ T9 N O w W' tb (setSt st p (p + n) 2) ∧ Left9 N O W W' := by
  have := hi.2.1
  refine (giveT_any h.tr p n (by omega) (by omega)).mono ?_
  rintro e W' ⟨_, _, h3⟩
  obtain ⟨e1, e2⟩ := h3 (cntT_inT.2 hi) (by omega)
  exact ⟨e1, h.chg e2⟩
theorem t9_back (h : T9 N O w W tb st) (p n : Nat) (hi : InT st p n) (hf : (tl st p n).f = 0) :
    Calls Tryd.prog 31 #[.pointer (some ⟨tb, 0, none⟩), .int .u64 (p : Nat), .int .u64 (n : Nat)] W fun e W' => e = .returned (.int .i64 0) ∧ T9 N O w W' tb (setSt st p (p + n) 3) ∧ Left9 N O W W' := by
  have := hi.2.1
  refine (backT_any h.tr p n (by omega) (by omega)).mono ?_
  rintro e W' ⟨_, _, h3⟩
  obtain ⟨e1, e2⟩ := h3 (cntT_inT.2 hi) (by omega)
  exact ⟨e1, h.chg e2⟩
theorem t9_back_free (h : T9 N O w W tb st) (p n : Nat) (hi : InT st p n) (hf : 0 < (tl st p n).f) :
    Calls Tryd.prog 31 #[.pointer (some ⟨tb, 0, none⟩), .int .u64 (p : Nat), .int .u64 (n : Nat)] W fun e W' => e = .returned (.int .i64 31) ∧ T9 N O w W' tb st ∧ Left9 N O W W' := by
  have := hi.2.1
  refine (backT_any h.tr p n (by omega) (by omega)).mono ?_
  rintro e W' ⟨_, h2, _⟩
  obtain ⟨e1, e2⟩ := h2 (cntT_inT.2 hi) hf
  exact ⟨e1, h.chg e2⟩
theorem t9_free (h : T9 N O w W tb st) :
    Calls Tryd.prog 16 #[.pointer (some ⟨tb, 0, none⟩)] W fun e W' => e = .returned (.int .u64 (frT st : Nat)) ∧ T9 N O w W' tb st ∧ Left9 N O W W' := by
  refine (free9_any h.tr).mono ?_
  rintro e W' ⟨he, b⟩
  exact ⟨he, h.read b⟩
theorem t9_state (h : T9 N O w W tb st) (q : Nat) (hq : q < 18446744073709551616) :
    Calls Tryd.prog 12 #[.pointer (some ⟨tb, 0, none⟩), .int .u64 (q : Nat)] W fun e W' => e = .returned (.tuple #[.bool (inU st q), .bool (fre st q), .bool (rel st q)]) ∧ T9 N O w W' tb st ∧ Left9 N O W W' := by
  refine (state_any h.tr q hq).mono ?_
  rintro e W' ⟨he, b⟩
  exact ⟨he, h.read b⟩
end
end Go.Proofs.YtnclicdnncgdiaaDoor
/- The law's own 'awake': its contract. -/
namespace Go.Proofs.YtnclicdnncgdiaaDoor
open Go.ChangeShapes Go.WideShapes Go.ChangeAt Go.RowKit Go.Proofs.Bt Go.Shelf Go.Proofs.Rx Go.Maps Go.Proofs.Pk
set_option linter.unusedVariables false
set_option linter.unusedSimpArgs false

/-- Two chunks in use. -/
def aw1 : Nat → Nat := setSt (fun _ => 0) (1 * 512) (1 * 512 + 2 * 512) 3
def aw2 : Nat → Nat := setSt aw1 512 (512 + 600) 1
theorem aw1_at (q : Nat) : aw1 q = if 512 ≤ q ∧ q < 1536 then 3 else 0 := by unfold aw1 setSt; rfl
theorem aw2_at (q : Nat) : aw2 q = if 512 ≤ q ∧ q < 1112 then 1 else if 512 ≤ q ∧ q < 1536 then 3 else 0 := by unfold aw2 aw1 setSt; rfl
theorem aw1_first : First aw1 600 512 := by
  refine ⟨fun q q1 q2 => ?_, fun p hp hR => ?_⟩
  · rw [aw1_at, if_pos (by omega)]; omega
  · have := hR p (Nat.le_refl _) (by omega)
    rw [aw1_at, if_neg (by omega)] at this
    omega
theorem aw1_rel : (tl aw1 512 600).r = 600 := by
  rw [tl_all (s := 3) fun q q1 q2 => by rw [aw1_at, if_pos (by omega)]]; rfl
theorem aw2_first : First aw2 1 1112 := by
  refine ⟨fun q q1 q2 => ?_, fun p hp hR => ?_⟩
  · rw [aw2_at, if_neg (by omega), if_pos (by omega)]; omega
  · have := hR p (Nat.le_refl _) (by omega)
    rw [aw2_at] at this
    split at this
    · omega
    · rw [if_neg (by omega)] at this; omega
theorem aw2_free : frT aw2 = 424 := by
  have h1 := (tot_set (st := fun _ => 0) (a := 512) (n := 1024) (s := 3) (by omega)).1
  have h2 := (tot_set (st := aw1) (a := 512) (n := 600) (s := 1) (by omega)).1
  have e1 : (tl (fun _ => 0) 512 1024).f = 0 := by rw [tl_all (s := 0) fun q _ _ => rfl]; rfl
  have e2 : (tl aw1 512 600).f = 600 := by rw [tl_all (s := 3) fun q q1 q2 => by rw [aw1_at, if_pos (by omega)]]; rfl
  have e3 : setSt (fun _ => 0) 512 (512 + 1024) 3 = aw1 := rfl
  have e4 : setSt aw1 512 (512 + 600) 1 = aw2 := rfl
  rw [e1, tot_zero.1, e3] at h1
  rw [e2, e4] at h2
  clear e1 e2 e3 e4
  generalize frT aw1 = x at *
  generalize frT aw2 = y at *
  rw [if_pos (by omega)] at h1
  rw [if_neg (by omega)] at h2
  omega
theorem aw2_sum : SumN (bsy aw2 (1 * sz (3 + 3))) (sz (3 + 3)) 0 0 0 := by
  have e : sz (3 + 3) = 512 := rfl
  rw [e]
  refine sumN_none _ _ fun k hk => ?_
  unfold bsy fre
  rw [aw2_at, if_pos (by omega)]
  rfl
end Go.Proofs.YtnclicdnncgdiaaDoor
/- What comes in: lists of numbers; the tables that are laid. -/
namespace Go.Proofs.YtnclicdnncgdiaaDoor
open Go.ChangeShapes Go.WideShapes Go.ChangeAt Go.RowKit Go.Proofs.Bt Go.Shelf Go.WideMaps
set_option linter.unusedVariables false
set_option linter.unusedSimpArgs false

theorem act_spot {w : World} {b off : Nat} {sp : Option Nat} {v : Value} (h : w.cell? ⟨b, off, sp⟩ = some v) : sp = none := by
  unfold World.cell? at h
  cases sp with
  | none => rfl
  | some x => split at h <;> simp at h
theorem addr_add0 (b o j : Nat) : (⟨b, o, none⟩ : Addr).add j = ⟨b, o + j, none⟩ := by simp [Addr.add]
theorem cell_lt {w : World} {b o : Nat} {v : Value} (h : w.cell? ⟨b, o, none⟩ = some v) : b < w.heap.size := World.block_lt_of_cell? w ⟨b, o, none⟩ h
theorem cellsI : Tryd.prog.cellsOf 3 = 1 := by kernel_rfl
theorem cellsU : Tryd.prog.cellsOf 23 = 1 := by kernel_rfl
/-- Numbers in a row, uint64. -/
structure U64At (w : World) (o : Option Addr) (len cap : Nat) (X : Nat → Int) : Prop where
  nil : o = none → len = 0 ∧ cap = 0
  cells : ∀ ad, o = some ad → ∀ i, i < len → w.cell? (ad.add i) = some (.int .u64 (X i))
  lo : ∀ i, 0 ≤ X i
  hi : ∀ i, X i ≤ 18446744073709551615
theorem U64At.at {w : World} {o : Option Addr} {len cap : Nat} {X : Nat → Int} (h : U64At w o len cap X) {i : Nat} (hi : i < len) : ∃ b off, o = some ⟨b, off, none⟩ ∧ b < w.heap.size ∧ ∀ i, i < len → w.cell? ⟨b, off + i, none⟩ = some (.int .u64 (X i)) := by
  cases ho : o with
  | none => have := (h.nil ho).1; omega
  | some a =>
    obtain ⟨b, off, sp⟩ := a
    have c0 := h.cells _ ho 0 (by omega)
    have hs : sp = none := act_spot (by simpa [Addr.add] using c0)
    subst hs
    have hb : b < w.heap.size := cell_lt (by simpa [Addr.add] using c0)
    refine ⟨b, off, rfl, hb, fun j hj => ?_⟩
    have := h.cells _ ho j hj
    rwa [addr_add0] at this
theorem u64s_of {H : Type} {enc : TypeId × Value → H} {W : World} {o : Option Addr} {len cap : Nat} {d : DataW H} {p : List MemPlace} (h : DataW.Trod enc Tryd.prog W 0 (fun _ => true) true 22 (.slice o len cap) d p) : len ≤ maxLen ∧ len ≤ cap ∧ ∃ X, U64At W o len cap X := by
  obtain ⟨fuel, hf⟩ := h
  rcases Go.Deep.open_slice1 Tryd.underlying22 cellsU hf with ⟨hcs, hx⟩ | ⟨a, len', cap', m, n, V, D, Pl, hcs, _, hl, hm, hme, hx, hc⟩
  · simp [Value.cells] at hcs
    obtain ⟨rfl, rfl, rfl⟩ := hcs
    exact ⟨by decide, Nat.le_refl _, fun _ => 0, ⟨fun _ => ⟨rfl, rfl⟩, fun _ z => by (cases z), fun _ => by decide, fun _ => by decide⟩⟩
  · simp [Value.cells] at hcs
    obtain ⟨rfl, rfl, rfl⟩ := hcs
    have hmc : m = cap := by simpa using hme
    have ex : ∀ i, ∃ X : Int, (0 ≤ X ∧ X ≤ 18446744073709551615) ∧ (i < len → W.cell? (a.add i) = some (.int .u64 X)) := fun i => by
      by_cases z : i < len
      · obtain ⟨k1, k2⟩ := hc i (by omega)
        obtain ⟨n0, e0, _, w0⟩ := DataW.trod_int Tryd.underlying23 k2
        have b0 := bounds_u64 w0
        have e1 : V i = .int .u64 n0 := by injection e0
        exact ⟨n0, ⟨b0.1, b0.2⟩, fun _ => by rw [k1, e1]⟩
      · exact ⟨0, ⟨by decide, by decide⟩, fun y => absurd y z⟩
    refine ⟨by omega, by omega, fun i => Classical.choose (ex i), ⟨fun z => by (cases z), fun ad e i hi => ?_, fun i => (Classical.choose_spec (ex i)).1.1, fun i => (Classical.choose_spec (ex i)).1.2⟩⟩
    obtain rfl : a = ad := by injection e
    exact (Classical.choose_spec (ex i)).2 hi
def laid1 : List (String × DataW Unit) := [("math/bits.deBruijn64tab", Rows.laid_math_bits_deBruijn64tab), ("mallow/radix.shifts", Rows.laid_mallow_radix_shifts)]
theorem own : ownKnob Tryd.prog.godebug = none := by kernel_rfl
theorem gTab : Tryd.prog.globalNamed "math/bits.deBruijn64tab" = some 1 := by kernel_rfl
theorem tTab : (Tryd.prog.globals[1]?).map (·.type) = some 131 := by kernel_rfl
theorem gSh : Tryd.prog.globalNamed "mallow/radix.shifts" = some 0 := by kernel_rfl
theorem tSh : (Tryd.prog.globals[0]?).map (·.type) = some 55 := by kernel_rfl
theorem door_met (os : Os) (args : Array Value) : laidMetH Tryd.prog laid1 ((World.doorLaid Tryd.prog 400 os).forCall (fun _ _ => 0) ⟨#[], args, []⟩).memory :=
  laidMetH_of_parts3 (fuel := 8) (laidMet_of_run' 8 (by kernel_rfl) (by kernel_rfl)) (by kernel_rfl) (by kernel_rfl)
/-- The second table on the list. -/
theorem tabIs_of_second {P : Program} {W : World} {x : String × DataW Unit} {name : String} {k : IntKind} {zs : List Int} {rest : List (String × DataW Unit)} {g : Nat} {t e : TypeId} {n : Nat}
    (hg : P.globalNamed name = some g) (hty : (P.globals[g]?).map (·.type) = some t) (ht : P.underlying t = some (.array n e)) (he : P.underlying e = some (.int k)) (hce : P.cellsOf e = 1) (hct : P.cellsOf t = n)
    (h : laidMet P (x :: (name, Lib.tabData k zs) :: rest) W) : Lib.TabIs P W name k zs := by
  obtain ⟨ps, ⟨_, _, _, _, _, _, _, _, _, _, ⟨g', t', cs, fuel, p, q, hg', ht', hvar, hd, _, _⟩, _⟩, _⟩ := h
  obtain rfl := Option.some.inj (hg.symm.trans hg')
  obtain rfl := Option.some.inj (hty.symm.trans ht')
  unfold Lib.TabIs
  rw [hvar, ← Lib.cells_of_tab ht he hce hct hd]
theorem tab_of_laid {W : World} (h : laidMetH Tryd.prog laid1 W) : TabW W := by
  rw [MakeChecks.laidMetH_plain _ _ _ (by kernel_rfl)] at h
  have hT := Lib.tabIs_of_head (k := .u8) (zs := Lib.deBruijn64tab.map fun n : Nat => (n : Int)) (rest := [("mallow/radix.shifts", Rows.laid_mallow_radix_shifts)]) gTab tTab Tryd.underlying131 Tryd.underlying5 (by kernel_rfl) (by kernel_rfl) h
  have hS := tabIs_of_second (k := .i64) (zs := [35, 27, 21, 18, 15, 12, 9]) (rest := []) gSh tSh Tryd.underlying55 Tryd.underlying3 (by kernel_rfl) (by kernel_rfl) h
  refine ⟨fun j hj => ?_, fun j hj => ?_⟩
  · have := hT.cell gTab j (by rw [List.length_map]; exact hj)
    rw [this]
    congr 2
    simp only [List.getD, List.getElem?_map]
    cases Lib.deBruijn64tab[j]? <;> rfl
  · have := hS.cell gSh j hj
    rw [this]
    have key : ∀ j, j < 7 → ([35, 27, 21, 18, 15, 12, 9] : List Int).getD j 0 = ((Rx.sh j : Nat) : Int) := by decide
    rw [key j hj]
end Go.Proofs.YtnclicdnncgdiaaDoor
