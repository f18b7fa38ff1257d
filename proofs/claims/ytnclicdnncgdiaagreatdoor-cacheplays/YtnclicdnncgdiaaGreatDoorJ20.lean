/- J20 of the proof of both laws: texts Sh, Za, Zb, one behind the other. -/
import Derived.Test.YtnclicdnncgdiaaGreatDoorJ19
import Derived.Test.YtnclicdnncgdiaaGreatDoorJ16
import Derived.Test.YtnclicdnncgdiaaGreatDoorJ09
import Derived.Deep.Slices
import Derived.Deep.Strs
import Derived.Lib.SmallJoins
import Derived.Lib.LaidTab
import Derived.LaidMore
import Derived.Stop.Joined
/- Package radix: Alloc: its contract. -/
namespace Go.Proofs.YtnclicdnncgdiaaGreatDoor
open Go.ChangeShapes Go.WideShapes Go.ChangeAt Go.RowKit Go.Proofs.Bt Go.Shelf Go.Proofs.Rx Go.Maps Go.Proofs.Pk
set_option linter.unusedVariables false
set_option linter.unusedSimpArgs false

theorem run_tl {st : Nat → Nat} {p n : Nat} (h : Run st p n) (hn : 1 ≤ n) (ho : ∀ q, 34359738368 ≤ q → st q = 0) : p + n ≤ 34359738368 ∧ (tl st p n).p = n ∧ (tl st p n).f = n := by
  refine ⟨?_, ?_, ?_⟩
  · rcases Nat.lt_or_ge 34359738368 (p + n) with y | y
    · have h1 := h (p + n - 1) (by omega) (by omega)
      have h2 := ho (p + n - 1) (by omega)
      omega
    · exact y
  · show cnt (inU st) p n = n
    exact cnt_full.2 fun k hk => by
      have := h (p + k) (by omega) (by omega)
      unfold inU
      exact decide_eq_true (by omega)
  · show cnt (fre st) p n = n
    exact cnt_full.2 fun k hk => by
      have := h (p + k) (by omega) (by omega)
      unfold fre
      exact decide_eq_true (by omega)
theorem TreeE.find {B : Nat} {O : Nat → Prop} {w : World} {tb : Nat} {st : Nat → Nat} (h : TreeE B O w tb st) (n : Nat) (hn : n < 18446744073709551616) :
    Calls Tryz.prog 44 #[.pointer (some ⟨tb, 0, none⟩), .int .u64 (n : Nat)] w (FindT st n w) := by
  obtain ⟨T, L, C, rfl, rfl, h1, h2⟩ := h
  exact find9_core h1 n hn
/-- What Alloc answers and leaves. -/
def AllocP (B : Nat) (O : Nat → Prop) (w : World) (tb : Nat) (st : Nat → Nat) (n : Nat) (e : Ending) (w' : World) : Prop :=
  (n = 0 ∧ e = .returned (.tuple #[.int .u64 0, .int .u64 0, .int .i64 1]) ∧ Chg B O w tb st w') ∨
  (1 ≤ n ∧ (∀ p, ¬ Run st p n) ∧ e = .returned (.tuple #[.int .u64 0, .int .u64 0, .int .i64 30]) ∧ Chg B O w tb st w') ∨
  (1 ≤ n ∧ ∃ p, p + n ≤ 34359738368 ∧ First st n p ∧ e = .returned (.tuple #[.int .u64 (p : Nat), .int .u64 ((tl st p n).r : Nat), .int .i64 0]) ∧ Chg B O w tb (setSt st p (p + n) 1) w')
set_option maxRecDepth 100000 in
theorem alloc_any {B : Nat} {O : Nat → Prop} {w : World} {tb : Nat} {st : Nat → Nat} (h : TreeE B O w tb st) (n : Nat) (hn : n < 18446744073709551616) :
    Calls Tryz.prog 24 #[.pointer (some ⟨tb, 0, none⟩), .int .u64 (n : Nat)] w (AllocP B O w tb st n) := by
  obtain ⟨R, hR⟩ : ∃ R, R = AllocP B O w tb st n := ⟨_, rfl⟩
  rw [← hR]
  have HR := hide hR
  have HH := hide h
  have CF := hide (h.find n hn)
  by_cases n0 : n = 0
  · have d0 : ((n : Int) == 0) = true := beq_iff_eq.2 (by omega)
    have F := hide (show R (.returned (.tuple #[.int .u64 0, .int .u64 0, .int .i64 1])) w from by
      rw [HR.out]; exact .inl ⟨n0, rfl, Chg.same HH.out (Below.refl _ _)⟩)
    clear hR h CF HR HH n0
    go_enter Tryz.func24, Tryz.ntmps24
    go_wp2_with fail
    first | exact F.out | (refine bodyPost_ret (results_tmp3 Tryz.results24 _ _ _) rfl ?_; exact F.out)
  · have d0 : ((n : Int) == 0) = false := beq_eq_false_iff_ne.2 (by omega)
    have n1 : 1 ≤ n := by omega
    clear hR h n0
    go_enter Tryz.func24, Tryz.ntmps24
    go_wp2_with fail
    refine CF.out.mono ?_
    rintro e w1 ⟨(⟨p, hp, hf, _, rfl⟩ | ⟨hno, rfl⟩), b1⟩
    · have T1 := hide (HH.out.below b1)
      have B1 := hide b1
      obtain ⟨r1, r2, r3⟩ := run_tl hf.1 n1 HH.out.out
      have CK := hide (take9_any T1.out p n (by omega) hn)
      have ec : cntT st p n = tl st p n := by unfold cntT; rw [if_neg (by omega)]
      have F := hide (show ∀ W e, TakeP B O w1 tb st p n e W → e = .returned (.tuple #[.int .u64 ((tl st p n).r : Nat), .int .i64 0]) ∧ R (.returned (.tuple #[.int .u64 (p : Nat), .int .u64 ((tl st p n).r : Nat), .int .i64 0])) W from fun W e hW => by
        obtain ⟨e1, e2⟩ := hW.2.2 (by rw [ec]; omega) (by omega)
        refine ⟨e1, ?_⟩
        rw [HR.out]
        exact .inr (.inr ⟨n1, p, r1, hf, rfl, e2.after B1.out⟩))
      obtain ⟨q, hq⟩ : ∃ q, (tl st p n).r = q := ⟨_, rfl⟩
      rw [hq] at F
      clear CF b1 hf r2 r3 ec hq HR
      go_wp2_with fail
      refine CK.out.mono ?_
      intro e w2 hx
      obtain ⟨rfl, hr⟩ := F.out _ _ hx
      have HF := hide hr
      clear hx hr F CK
      go_wp2_with fail
      first | exact HF.out | (refine bodyPost_ret (results_tmp3 Tryz.results24 _ _ _) rfl ?_; exact HF.out)
    · have F := hide (show R (.returned (.tuple #[.int .u64 0, .int .u64 0, .int .i64 30])) w1 from by
        rw [HR.out]; exact .inr (.inl ⟨n1, hno.resolve_left (by omega), rfl, Chg.same HH.out b1⟩))
      clear CF hno b1 HR
      go_wp2_with fail
      first | exact F.out | (refine bodyPost_ret (results_tmp3 Tryz.results24 _ _ _) rfl ?_; exact F.out)
/-- What State answers. -/
def StateP (st : Nat → Nat) (q : Nat) (w : World) (e : Ending) (w' : World) : Prop :=
  e = .returned (.tuple #[.bool (inU st q), .bool (fre st q), .bool (rel st q)]) ∧ Below w.heap.size w w'
theorem cnt_one (f : Nat → Bool) (q : Nat) : decide (0 < cnt f q 1) = f q := by
  simp only [cnt, Nat.add_zero]
  have key : ∀ b : Bool, decide (0 < 0 + b.toNat) = b := by decide
  exact key _
theorem cntT_one {st : Nat → Nat} (ho : ∀ q, 34359738368 ≤ q → st q = 0) (q : Nat) : decide (0 < (cntT st q 1).p) = inU st q ∧ decide (0 < (cntT st q 1).f) = fre st q ∧ decide (0 < (cntT st q 1).r) = rel st q := by
  unfold cntT
  by_cases z : (1 : Nat) = 0 ∨ 34359738368 < q + 1
  · rw [if_pos z]
    have := ho q (by omega)
    unfold inU fre rel
    rw [this]
    exact ⟨rfl, rfl, rfl⟩
  · rw [if_neg z]
    exact ⟨cnt_one _ _, cnt_one _ _, cnt_one _ _⟩
set_option maxRecDepth 100000 in
theorem state_any {B : Nat} {O : Nat → Prop} {w : World} {tb : Nat} {st : Nat → Nat} (h : TreeE B O w tb st) (q : Nat) (hq : q < 18446744073709551616) :
    Calls Tryz.prog 11 #[.pointer (some ⟨tb, 0, none⟩), .int .u64 (q : Nat)] w (StateP st q w) := by
  obtain ⟨R, hR⟩ : ∃ R, R = StateP st q w := ⟨_, rfl⟩
  rw [← hR]
  have HR := hide hR
  have HH := hide h
  have CC := hide (h.count q 1 hq (by omega))
  simp only [Int.cast_ofNat_Int] at CC
  obtain ⟨e1, e2, e3⟩ := cntT_one h.out q
  obtain ⟨t, ht⟩ : ∃ t, cntT st q 1 = t := ⟨_, rfl⟩
  rw [ht] at CC e1 e2 e3
  unfold tlV at CC
  obtain ⟨x, hx⟩ : ∃ x, inU st q = x := ⟨_, rfl⟩
  obtain ⟨y, hy⟩ : ∃ y, fre st q = y := ⟨_, rfl⟩
  obtain ⟨z, hz⟩ : ∃ z, rel st q = z := ⟨_, rfl⟩
  have HX := hide (And.intro hx (And.intro hy hz))
  rw [hx] at e1
  rw [hy] at e2
  rw [hz] at e3
  clear hR h ht hx hy hz
  go_enter Tryz.func11, Tryz.ntmps11
  go_wp2_with fail
  refine CC.out.mono ?_
  rintro e w1 ⟨rfl, b1⟩
  obtain ⟨b, hb⟩ : ∃ b, w1.heap.size = b := ⟨_, rfl⟩
  obtain ⟨W, hW⟩ : ∃ W, w1.alloc (.cells #[.int .u64 (t.p : Nat), .int .u64 (t.f : Nat), .int .u64 (t.r : Nat)] 56) = W := ⟨_, rfl⟩
  have TB := hide (tal_box hb hW.symm)
  have bW : Below w.heap.size w W := by rw [← hW]; exact b1.alloc b1.size _
  have BW := hide bW
  have s1 := b1.size
  have c0 := TB.out.cell 0 _ rfl
  have c1 := TB.out.cell 1 _ rfl
  have c2 := TB.out.cell 2 _ rfl
  have F := hide (show ∀ m, R (.returned (.tuple #[.bool x, .bool y, .bool z])) (W.drewN m) from fun m => by
    rw [HR.out]
    exact ⟨by rw [HX.out.1, HX.out.2.1, HX.out.2.2], BW.out.trans ⟨rfl, rfl, rfl, Nat.le_refl _, fun _ _ => rfl⟩⟩)
  clear b1 CC bW HR HX
  go_wp2_with fail
  go_quiet (fail)
  go_wp2_with fail
  first | exact F.out _ | (refine bodyPost_ret (results_tmp3 Tryz.results11 _ _ _) rfl ?_; exact F.out _)
end Go.Proofs.YtnclicdnncgdiaaGreatDoor
/- Counts of all pages, behind a change; runs of free pages: no Go in sight. -/
namespace Go.Proofs.YtnclicdnncgdiaaGreatDoor
open Go.Proofs.Bt Go.Proofs.Rx Go.Proofs.Pk
set_option linter.unusedVariables false
set_option linter.unusedSimpArgs false

/-- How many are free, how many released. -/
def frT (st : Nat → Nat) : Nat := (tl st 0 34359738368).f
def rlT (st : Nat → Nat) : Nat := (tl st 0 34359738368).r
theorem tot_set {st : Nat → Nat} {a n s : Nat} (h : a + n ≤ 34359738368) :
    frT (setSt st a (a + n) s) + (tl st a n).f = frT st + (if 2 ≤ s then n else 0) ∧ rlT (setSt st a (a + n) s) + (tl st a n).r = rlT st + (if s = 3 then n else 0) := by
  obtain ⟨h1, h2, h3, h4⟩ := tl_swap (st := st) (st' := setSt st a (a + n) s) (A := 0) (n := 34359738368) (K := a) (z := n) (by omega) (by omega) (fun q _ _ hq => (setSt_out hq).symm)
  have e : tl (setSt st a (a + n) s) a n = tlOf s n := All.tl fun q q1 q2 => setSt_in ⟨q1, q2⟩
  rw [e] at h1
  unfold frT rlT
  rw [h1]
  unfold Tl.add Tl.sub tlOf
  dsimp only
  omega
theorem tot_zero : frT (fun _ => 0) = 0 ∧ rlT (fun _ => 0) = 0 := by
  have e : tl (fun _ => 0) 0 34359738368 = tlOf 0 34359738368 := All.tl fun q _ _ => rfl
  unfold frT rlT
  rw [e]
  exact ⟨rfl, rfl⟩
theorem tl_all {st : Nat → Nat} {a n s : Nat} (h : ∀ q, a ≤ q → q < a + n → st q = s) : tl st a n = tlOf s n := All.tl h
/-- The first of all: only one. -/
theorem First_one {st : Nat → Nat} {n p p' : Nat} (h : First st n p) (h' : First st n p') : p = p' := by
  rcases Nat.lt_trichotomy p p' with y | y | y
  · exact absurd h.1 (h'.2 p y)
  · exact y
  · exact absurd h'.1 (h.2 p' y)
end Go.Proofs.YtnclicdnncgdiaaGreatDoor
/- A tree of a law's own: what each call answers there. -/
namespace Go.Proofs.YtnclicdnncgdiaaGreatDoor
open Go.ChangeShapes Go.WideShapes Go.ChangeAt Go.RowKit Go.Proofs.Bt Go.Shelf Go.Proofs.Rx Go.Maps Go.Proofs.Pk
set_option linter.unusedVariables false
set_option linter.unusedSimpArgs false

/-- A tree that was made behind w, beside blocks O of the law's own. -/
structure T9 (N : Nat) (O : Nat → Prop) (w W : World) (tb : Nat) (st : Nat → Nat) : Prop where
  tr : TreeE N O W tb st
  be : Below N w W
/-- What a call leaves alone. -/
def Left9 (N : Nat) (O : Nat → Prop) (W W' : World) : Prop := Kept (fun x => N ≤ x ∧ ¬ O x) W W'
section
variable {N : Nat} {O : Nat → Prop} {w W W' : World} {tb : Nat} {st st' : Nat → Nat}
theorem T9.chg (h : T9 N O w W tb st) (c : Chg N O W tb st' W') : T9 N O w W' tb st' ∧ Left9 N O W W' := ⟨⟨c.1, below_kept h.be c.2 (fun x hx => hx.1) h.tr.lt.2.2⟩, c.2⟩
theorem T9.read (h : T9 N O w W tb st) (b : Below W.heap.size W W') : T9 N O w W' tb st ∧ Left9 N O W W' := ⟨⟨h.tr.below b, h.be.trans (b.mono h.tr.lt.2.2)⟩, Kept.of_below b⟩
theorem T9.more {O' : Nat → Prop} (h : T9 N O w W tb st) (b : Below W.heap.size W W') (hO : ∀ x, O' x → O x ∨ (W.heap.size ≤ x ∧ x < W'.heap.size)) : T9 N O' w W' tb st := ⟨h.tr.more b hO, h.be.trans (b.mono h.tr.lt.2.2)⟩
/-- The law writes its own blocks. -/
theorem T9.own {F : Nat → Prop} (h : T9 N O w W tb st) (k : Kept F W W') (hF : ∀ x, F x → O x ∧ N ≤ x) : T9 N O w W' tb st := ⟨h.tr.kept k (fun x hx => (hF x hx).1), below_kept h.be k (fun x hx => (hF x hx).2) h.tr.lt.2.2⟩
theorem T9.congr (h : T9 N O w W tb st) (e : st = st') : T9 N O w W tb st' := e ▸ h
theorem T9.four (h : T9 N O w W tb st) : Four st := h.tr.four
theorem T9.out (h : T9 N O w W tb st) : ∀ q, 34359738368 ≤ q → st q = 0 := h.tr.out
theorem T9.tab (h : T9 N O w W tb st) : TabW W := h.tr.tab
theorem t9_new (ht : TabW w) (hN : w.heap.size = N) : Calls Tryz.prog 4 #[] w fun e W => ∃ tb, e = .returned (.pointer (some ⟨tb, 0, none⟩)) ∧ T9 N (fun _ => False) w W tb (fun _ => 0) := by
  refine (new9_any ht).mono ?_
  rintro e W ⟨⟨tb, he, h⟩, b⟩
  rw [hN] at h b
  exact ⟨tb, he, h, b⟩
theorem t9_grow (h : T9 N O w W tb st) (c n : Nat) (hb : ¬ GrowBad c n) (ht : (tl st (c * 512) (n * 512)).p = 0) :
    Calls Tryz.prog 6 #[.pointer (some ⟨tb, 0, none⟩), .int .u64 (c : Nat), .int .u64 (n : Nat)] W fun e W' => e = .returned (.int .i64 0) ∧ T9 N O w W' tb (setSt st (c * 512) (c * 512 + n * 512) 3) ∧ Left9 N O W W' := by
  have hb' : n ≠ 0 ∧ n ≤ 262144 ∧ c + n ≤ 67108864 := by unfold GrowBad at hb; omega
  refine (grow_any h.tr c n (by omega) (by omega)).mono ?_
  rintro e W' ⟨_, _, h3⟩
  obtain ⟨e1, e2⟩ := h3 hb (by omega)
  exact ⟨e1, h.chg e2⟩
theorem t9_grow_bad (h : T9 N O w W tb st) (c n : Nat) (hc : c < 18446744073709551616) (hn : n < 18446744073709551616) (hb : GrowBad c n) :
    Calls Tryz.prog 6 #[.pointer (some ⟨tb, 0, none⟩), .int .u64 (c : Nat), .int .u64 (n : Nat)] W fun e W' => e = .returned (.int .i64 1) ∧ T9 N O w W' tb st ∧ Left9 N O W W' := by
  refine (grow_any h.tr c n hc hn).mono ?_
  rintro e W' ⟨h1, _, _⟩
  obtain ⟨e1, e2⟩ := h1 hb
  exact ⟨e1, h.chg e2⟩
theorem t9_grow_twice (h : T9 N O w W tb st) (c n : Nat) (hb : ¬ GrowBad c n) (ht : 0 < (tl st (c * 512) (n * 512)).p) :
    Calls Tryz.prog 6 #[.pointer (some ⟨tb, 0, none⟩), .int .u64 (c : Nat), .int .u64 (n : Nat)] W fun e W' => e = .returned (.int .i64 34) ∧ T9 N O w W' tb st ∧ Left9 N O W W' := by
  have hb' : n ≠ 0 ∧ n ≤ 262144 ∧ c + n ≤ 67108864 := by unfold GrowBad at hb; omega
  refine (grow_any h.tr c n (by omega) (by omega)).mono ?_
  rintro e W' ⟨_, h2, _⟩
  obtain ⟨e1, e2⟩ := h2 hb ht
  exact ⟨e1, h.chg e2⟩
theorem t9_find (h : T9 N O w W tb st) (n p : Nat) (hn : n < 18446744073709551616) (h1 : 1 ≤ n) (hf : First st n p) :
    Calls Tryz.prog 44 #[.pointer (some ⟨tb, 0, none⟩), .int .u64 (n : Nat)] W fun e W' => e = .returned (.tuple #[.int .u64 (p : Nat), .bool true]) ∧ T9 N O w W' tb st ∧ Left9 N O W W' := by
  refine (h.tr.find n hn).mono ?_
  rintro e W' ⟨(⟨q, _, hq, _, he⟩ | ⟨hno, he⟩), b⟩
  · rw [First_one hq hf] at he
    exact ⟨he, h.read b⟩
  · exact absurd hf.1 (hno.resolve_left (by omega) p)
theorem t9_find_no (h : T9 N O w W tb st) (n : Nat) (hn : n < 18446744073709551616) (hf : n = 0 ∨ ∀ p, ¬ Run st p n) :
    Calls Tryz.prog 44 #[.pointer (some ⟨tb, 0, none⟩), .int .u64 (n : Nat)] W fun e W' => e = .returned (.tuple #[.int .u64 0, .bool false]) ∧ T9 N O w W' tb st ∧ Left9 N O W W' := by
  refine (h.tr.find n hn).mono ?_
  rintro e W' ⟨(⟨q, _, hq, h1, he⟩ | ⟨hno, he⟩), b⟩
  · exact absurd hq.1 (hf.resolve_left (by omega) q)
  · exact ⟨he, h.read b⟩
theorem t9_alloc (h : T9 N O w W tb st) (n p : Nat) (hn : n < 18446744073709551616) (h1 : 1 ≤ n) (hf : First st n p) :
    Calls Tryz.prog 24 #[.pointer (some ⟨tb, 0, none⟩), .int .u64 (n : Nat)] W fun e W' => e = .returned (.tuple #[.int .u64 (p : Nat), .int .u64 ((tl st p n).r : Nat), .int .i64 0]) ∧ T9 N O w W' tb (setSt st p (p + n) 1) ∧ Left9 N O W W' := by
  refine (alloc_any h.tr n hn).mono ?_
  rintro e W' (⟨h0, _⟩ | ⟨_, hno, _⟩ | ⟨_, q, hq, hqf, he, hc⟩)
  · omega
  · exact absurd hf.1 (hno p)
  · obtain rfl := First_one hqf hf
    exact ⟨he, h.chg hc⟩
theorem t9_alloc_no (h : T9 N O w W tb st) (n : Nat) (hn : n < 18446744073709551616) (h1 : 1 ≤ n) (hf : ∀ p, ¬ Run st p n) :
    Calls Tryz.prog 24 #[.pointer (some ⟨tb, 0, none⟩), .int .u64 (n : Nat)] W fun e W' => e = .returned (.tuple #[.int .u64 0, .int .u64 0, .int .i64 30]) ∧ T9 N O w W' tb st ∧ Left9 N O W W' := by
  refine (alloc_any h.tr n hn).mono ?_
  rintro e W' (⟨h0, _⟩ | ⟨_, hno, he, hc⟩ | ⟨_, q, hq, hqf, he, hc⟩)
  · omega
  · exact ⟨he, h.chg hc⟩
  · exact absurd hqf.1 (hf q)
/-- Are all these pages in the tree? -/
def InT (st : Nat → Nat) (p n : Nat) : Prop := 1 ≤ n ∧ p + n ≤ 34359738368 ∧ (tl st p n).p = n
theorem cntT_inT {st : Nat → Nat} {p n : Nat} : ¬ (n = 0 ∨ (cntT st p n).p < n) ↔ InT st p n := by
  unfold InT cntT
  have := (tl_le st p n).1
  by_cases z : n = 0 ∨ 34359738368 < p + n
  · rw [if_pos z]; dsimp only; omega
  · rw [if_neg z]; omega
theorem t9_take (h : T9 N O w W tb st) (p n : Nat) (hi : InT st p n) (hf : (tl st p n).f = n) :
    Calls Tryz.prog 47 #[.pointer (some ⟨tb, 0, none⟩), .int .u64 (p : Nat), .int .u64 (n : Nat)] W fun e W' => e = .returned (.tuple #[.int .u64 ((tl st p n).r : Nat), .int .i64 0]) ∧ T9 N O w W' tb (setSt st p (p + n) 1) ∧ Left9 N O W W' := by
  have := hi.2.1
  refine (take9_any h.tr p n (by omega) (by omega)).mono ?_
  rintro e W' ⟨_, _, h3⟩
  obtain ⟨e1, e2⟩ := h3 (cntT_inT.2 hi) (by omega)
  exact ⟨e1, h.chg e2⟩
theorem t9_take_used (h : T9 N O w W tb st) (p n : Nat) (hi : InT st p n) (hf : (tl st p n).f < n) :
    Calls Tryz.prog 47 #[.pointer (some ⟨tb, 0, none⟩), .int .u64 (p : Nat), .int .u64 (n : Nat)] W fun e W' => e = .returned (.tuple #[.int .u64 0, .int .i64 32]) ∧ T9 N O w W' tb st ∧ Left9 N O W W' := by
  have := hi.2.1
  refine (take9_any h.tr p n (by omega) (by omega)).mono ?_
  rintro e W' ⟨_, h2, _⟩
  obtain ⟨e1, e2⟩ := h2 (cntT_inT.2 hi) hf
  exact ⟨e1, h.chg e2⟩
theorem t9_take_bad (h : T9 N O w W tb st) (p n : Nat) (hp : p < 18446744073709551616) (hn : n < 18446744073709551616) (hi : ¬ InT st p n) :
    Calls Tryz.prog 47 #[.pointer (some ⟨tb, 0, none⟩), .int .u64 (p : Nat), .int .u64 (n : Nat)] W fun e W' => e = .returned (.tuple #[.int .u64 0, .int .i64 10]) ∧ T9 N O w W' tb st ∧ Left9 N O W W' := by
  refine (take9_any h.tr p n hp hn).mono ?_
  rintro e W' ⟨h1, _, _⟩
  obtain ⟨e1, e2⟩ := h1 (Classical.not_not.1 fun z => hi (cntT_inT.1 z))
  exact ⟨e1, h.chg e2⟩
theorem t9_give (h : T9 N O w W tb st) (p n : Nat) (hi : InT st p n) (hf : (tl st p n).f = 0) :
    Calls Tryz.prog 27 #[.pointer (some ⟨tb, 0, none⟩), .int .u64 (p : Nat), .int .u64 (n : Nat)] W fun e W' => e = .returned (.int .i64 0) ∧ T9 N O w W' tb (setSt st p (p + n) 2) ∧ Left9 N O W W' := by
  have := hi.2.1
  refine (giveT_any h.tr p n (by omega) (by omega)).mono ?_
  rintro e W' ⟨_, _, h3⟩
  obtain ⟨e1, e2⟩ := h3 (cntT_inT.2 hi) (by omega)
  exact ⟨e1, h.chg e2⟩
theorem t9_back (h : T9 N O w W tb st) (p n : Nat) (hi : InT st p n) (hf : (tl st p n).f = 0) :
    Calls Tryz.prog 54 #[.pointer (some ⟨tb, 0, none⟩), .int .u64 (p : Nat), .int .u64 (n : Nat)] W fun e W' => e = .returned (.int .i64 0) ∧ T9 N O w W' tb (setSt st p (p + n) 3) ∧ Left9 N O W W' := by
  have := hi.2.1
  refine (backT_any h.tr p n (by omega) (by omega)).mono ?_
  rintro e W' ⟨_, _, h3⟩
  obtain ⟨e1, e2⟩ := h3 (cntT_inT.2 hi) (by omega)
  exact ⟨e1, h.chg e2⟩
theorem t9_back_free (h : T9 N O w W tb st) (p n : Nat) (hi : InT st p n) (hf : 0 < (tl st p n).f) :
    Calls Tryz.prog 54 #[.pointer (some ⟨tb, 0, none⟩), .int .u64 (p : Nat), .int .u64 (n : Nat)] W fun e W' => e = .returned (.int .i64 31) ∧ T9 N O w W' tb st ∧ Left9 N O W W' := by
  have := hi.2.1
  refine (backT_any h.tr p n (by omega) (by omega)).mono ?_
  rintro e W' ⟨_, h2, _⟩
  obtain ⟨e1, e2⟩ := h2 (cntT_inT.2 hi) hf
  exact ⟨e1, h.chg e2⟩
theorem t9_free (h : T9 N O w W tb st) :
    Calls Tryz.prog 35 #[.pointer (some ⟨tb, 0, none⟩)] W fun e W' => e = .returned (.int .u64 (frT st : Nat)) ∧ T9 N O w W' tb st ∧ Left9 N O W W' := by
  refine (free9_any h.tr).mono ?_
  rintro e W' ⟨he, b⟩
  exact ⟨he, h.read b⟩
theorem t9_released (h : T9 N O w W tb st) :
    Calls Tryz.prog 37 #[.pointer (some ⟨tb, 0, none⟩)] W fun e W' => e = .returned (.int .u64 (rlT st : Nat)) ∧ T9 N O w W' tb st ∧ Left9 N O W W' := by
  refine (released9_any h.tr).mono ?_
  rintro e W' ⟨he, b⟩
  exact ⟨he, h.read b⟩
theorem t9_state (h : T9 N O w W tb st) (q : Nat) (hq : q < 18446744073709551616) :
    Calls Tryz.prog 11 #[.pointer (some ⟨tb, 0, none⟩), .int .u64 (q : Nat)] W fun e W' => e = .returned (.tuple #[.bool (inU st q), .bool (fre st q), .bool (rel st q)]) ∧ T9 N O w W' tb st ∧ Left9 N O W W' := by
  refine (state_any h.tr q hq).mono ?_
  rintro e W' ⟨he, b⟩
  exact ⟨he, h.read b⟩
end
end Go.Proofs.YtnclicdnncgdiaaGreatDoor
/- The law's own 'awake': its contract. -/
namespace Go.Proofs.YtnclicdnncgdiaaGreatDoor
open Go.ChangeShapes Go.WideShapes Go.ChangeAt Go.RowKit Go.Proofs.Bt Go.Shelf Go.Proofs.Rx Go.Maps Go.Proofs.Pk
set_option linter.unusedVariables false
set_option linter.unusedSimpArgs false

/-- Two chunks in use. -/
def aw1 : Nat → Nat := setSt (fun _ => 0) (1 * 512) (1 * 512 + 2 * 512) 3
def aw2 : Nat → Nat := setSt aw1 512 (512 + 600) 1
theorem aw1_at (q : Nat) : aw1 q = if 512 ≤ q ∧ q < 1536 then 3 else 0 := by unfold aw1 setSt; rfl
theorem aw2_at (q : Nat) : aw2 q = if 512 ≤ q ∧ q < 1112 then 1 else if 512 ≤ q ∧ q < 1536 then 3 else 0 := by unfold aw2 aw1 setSt; rfl
theorem aw1_first : First aw1 600 512 := by
  refine ⟨fun q q1 q2 => ?_, fun p hp hR => ?_⟩
  · rw [aw1_at, if_pos (by omega)]; omega
  · have := hR p (Nat.le_refl _) (by omega)
    rw [aw1_at, if_neg (by omega)] at this
    omega
theorem aw1_rel : (tl aw1 512 600).r = 600 := by
  rw [tl_all (s := 3) fun q q1 q2 => by rw [aw1_at, if_pos (by omega)]]; rfl
theorem aw2_first : First aw2 1 1112 := by
  refine ⟨fun q q1 q2 => ?_, fun p hp hR => ?_⟩
  · rw [aw2_at, if_neg (by omega), if_pos (by omega)]; omega
  · have := hR p (Nat.le_refl _) (by omega)
    rw [aw2_at] at this
    split at this
    · omega
    · rw [if_neg (by omega)] at this; omega
theorem aw2_free : frT aw2 = 424 := by
  have h1 := (tot_set (st := fun _ => 0) (a := 512) (n := 1024) (s := 3) (by omega)).1
  have h2 := (tot_set (st := aw1) (a := 512) (n := 600) (s := 1) (by omega)).1
  have e1 : (tl (fun _ => 0) 512 1024).f = 0 := by rw [tl_all (s := 0) fun q _ _ => rfl]; rfl
  have e2 : (tl aw1 512 600).f = 600 := by rw [tl_all (s := 3) fun q q1 q2 => by rw [aw1_at, if_pos (by omega)]]; rfl
  have e3 : setSt (fun _ => 0) 512 (512 + 1024) 3 = aw1 := rfl
  have e4 : setSt aw1 512 (512 + 600) 1 = aw2 := rfl
  rw [e1, tot_zero.1, e3] at h1
  rw [e2, e4] at h2
  clear e1 e2 e3 e4
  generalize frT aw1 = x at *
  generalize frT aw2 = y at *
  rw [if_pos (by omega)] at h1
  rw [if_neg (by omega)] at h2
  omega
theorem aw2_sum : SumN (bsy aw2 (1 * sz (3 + 3))) (sz (3 + 3)) 0 0 0 := by
  have e : sz (3 + 3) = 512 := rfl
  rw [e]
  refine sumN_none _ _ fun k hk => ?_
  unfold bsy fre
  rw [aw2_at, if_pos (by omega)]
  rfl
end Go.Proofs.YtnclicdnncgdiaaGreatDoor
/- What comes in: lists of numbers; the tables that are laid. -/
namespace Go.Proofs.YtnclicdnncgdiaaGreatDoor
open Go.ChangeShapes Go.WideShapes Go.ChangeAt Go.RowKit Go.Proofs.Bt Go.Shelf Go.WideMaps
set_option linter.unusedVariables false
set_option linter.unusedSimpArgs false

theorem act_spot {w : World} {b off : Nat} {sp : Option Nat} {v : Value} (h : w.cell? ⟨b, off, sp⟩ = some v) : sp = none := by
  unfold World.cell? at h
  cases sp with
  | none => rfl
  | some x => split at h <;> simp at h
theorem addr_add0 (b o j : Nat) : (⟨b, o, none⟩ : Addr).add j = ⟨b, o + j, none⟩ := by simp [Addr.add]
theorem cell_lt {w : World} {b o : Nat} {v : Value} (h : w.cell? ⟨b, o, none⟩ = some v) : b < w.heap.size := World.block_lt_of_cell? w ⟨b, o, none⟩ h
theorem cellsI : Tryz.prog.cellsOf 3 = 1 := by kernel_rfl
theorem cellsU : Tryz.prog.cellsOf 22 = 1 := by kernel_rfl
/-- Numbers in a row, uint64. -/
structure U64At (w : World) (o : Option Addr) (len cap : Nat) (X : Nat → Int) : Prop where
  nil : o = none → len = 0 ∧ cap = 0
  cells : ∀ ad, o = some ad → ∀ i, i < len → w.cell? (ad.add i) = some (.int .u64 (X i))
  lo : ∀ i, 0 ≤ X i
  hi : ∀ i, X i ≤ 18446744073709551615
theorem U64At.at {w : World} {o : Option Addr} {len cap : Nat} {X : Nat → Int} (h : U64At w o len cap X) {i : Nat} (hi : i < len) : ∃ b off, o = some ⟨b, off, none⟩ ∧ b < w.heap.size ∧ ∀ i, i < len → w.cell? ⟨b, off + i, none⟩ = some (.int .u64 (X i)) := by
  cases ho : o with
  | none => have := (h.nil ho).1; omega
  | some a =>
    obtain ⟨b, off, sp⟩ := a
    have c0 := h.cells _ ho 0 (by omega)
    have hs : sp = none := act_spot (by simpa [Addr.add] using c0)
    subst hs
    have hb : b < w.heap.size := cell_lt (by simpa [Addr.add] using c0)
    refine ⟨b, off, rfl, hb, fun j hj => ?_⟩
    have := h.cells _ ho j hj
    rwa [addr_add0] at this
def laid1 : List (String × DataW Unit) := [("math/bits.deBruijn64tab", Rows.laid_math_bits_deBruijn64tab), ("mallow/radix.shifts", Rows.laid_mallow_radix_shifts)]
theorem own : ownKnob Tryz.prog.godebug = none := by kernel_rfl
theorem gTab : Tryz.prog.globalNamed "math/bits.deBruijn64tab" = some 1 := by kernel_rfl
theorem tTab : (Tryz.prog.globals[1]?).map (·.type) = some 159 := by kernel_rfl
theorem gSh : Tryz.prog.globalNamed "mallow/radix.shifts" = some 0 := by kernel_rfl
theorem tSh : (Tryz.prog.globals[0]?).map (·.type) = some 51 := by kernel_rfl
theorem door_met (os : Os) (args : Array Value) : laidMetH Tryz.prog laid1 ((World.doorLaid Tryz.prog 400 os).forCall (fun _ _ => 0) ⟨#[], args, []⟩).memory :=
  laidMetH_of_parts3 (fuel := 8) (laidMet_of_run' 8 (by kernel_rfl) (by kernel_rfl)) (by kernel_rfl) (by kernel_rfl)
/-- The second table on the list. -/
theorem tabIs_of_second {P : Program} {W : World} {x : String × DataW Unit} {name : String} {k : IntKind} {zs : List Int} {rest : List (String × DataW Unit)} {g : Nat} {t e : TypeId} {n : Nat}
    (hg : P.globalNamed name = some g) (hty : (P.globals[g]?).map (·.type) = some t) (ht : P.underlying t = some (.array n e)) (he : P.underlying e = some (.int k)) (hce : P.cellsOf e = 1) (hct : P.cellsOf t = n)
    (h : laidMet P (x :: (name, Lib.tabData k zs) :: rest) W) : Lib.TabIs P W name k zs := by
  obtain ⟨ps, ⟨_, _, _, _, _, _, _, _, _, _, ⟨g', t', cs, fuel, p, q, hg', ht', hvar, hd, _, _⟩, _⟩, _⟩ := h
  obtain rfl := Option.some.inj (hg.symm.trans hg')
  obtain rfl := Option.some.inj (hty.symm.trans ht')
  unfold Lib.TabIs
  rw [hvar, ← Lib.cells_of_tab ht he hce hct hd]
theorem tab_of_laid {W : World} (h : laidMetH Tryz.prog laid1 W) : TabW W := by
  rw [MakeChecks.laidMetH_plain _ _ _ (by kernel_rfl)] at h
  have hT := Lib.tabIs_of_head (k := .u8) (zs := Lib.deBruijn64tab.map fun n : Nat => (n : Int)) (rest := [("mallow/radix.shifts", Rows.laid_mallow_radix_shifts)]) gTab tTab Tryz.underlying159 Tryz.underlying5 (by kernel_rfl) (by kernel_rfl) h
  have hS := tabIs_of_second (k := .i64) (zs := [35, 27, 21, 18, 15, 12, 9]) (rest := []) gSh tSh Tryz.underlying51 Tryz.underlying3 (by kernel_rfl) (by kernel_rfl) h
  refine ⟨fun j hj => ?_, fun j hj => ?_⟩
  · have := hT.cell gTab j (by rw [List.length_map]; exact hj)
    rw [this]
    congr 2
    simp only [List.getD, List.getElem?_map]
    cases Lib.deBruijn64tab[j]? <;> rfl
  · have := hS.cell gSh j hj
    rw [this]
    have key : ∀ j, j < 7 → ([35, 27, 21, 18, 15, 12, 9] : List Int).getD j 0 = ((Rx.sh j : Nat) : Int) := by decide
    rw [key j hj]
end Go.Proofs.YtnclicdnncgdiaaGreatDoor

/- The reference's tree over the states of pages: how it lies, and what lies in it. -/
namespace Go.Proofs.YtnclicdnncgdiaaGreatDoor
open Go.ChangeShapes Go.WideShapes Go.ChangeAt Go.RowKit Go.Proofs.Bt Go.Shelf Go.Proofs.Rx Go.Maps Go.Proofs.Pk
set_option linter.unusedVariables false
set_option linter.unusedSimpArgs false

/-- A chunk in use by its number and its block, over the states of pages. -/
def pt (st : Nat → Nat) (x : Nat × Nat) : Pt := ⟨x.1, x.2, fun k => decide (st (512 * x.1 + k) = 1), fun k => decide (st (512 * x.1 + k) = 3)⟩
def pts (st : Nat → Nat) (Q : List (Nat × Nat)) : List Pt := Q.map (pt st)
theorem pts_len (st : Nat → Nat) (Q : List (Nat × Nat)) : (pts st Q).length = Q.length := by unfold pts; simp
theorem pts_at (st : Nat → Nat) (Q : List (Nat × Nat)) (i : Nat) (hi : i < (pts st Q).length) : (pts st Q)[i] = pt st (Q[i]'(by rw [pts_len] at hi; exact hi)) := by
  unfold pts at hi ⊢
  exact List.getElem_map _
/-- The chunks are those of the pages. -/
structure Mt (st : Nat → Nat) (Q : List (Nat × Nat)) : Prop where
  rising : (Q.map (·.1)).Pairwise (· < ·)
  below : ∀ x ∈ Q, x.1 < 67108864
  nd : (Q.map (·.2)).Nodup
  inn : ∀ x ∈ Q, ∀ k, k < 512 → st (512 * x.1 + k) ≠ 0
  out : ∀ q, st q ≠ 0 → ∃ x ∈ Q, x.1 = q / 512
  four : Four st
theorem Mt.lt {st : Nat → Nat} {Q : List (Nat × Nat)} (h : Mt st Q) {i j : Nat} (hi : i < Q.length) (hj : j < Q.length) (hij : i < j) : Q[i].1 < Q[j].1 := by
  have := List.pairwise_iff_getElem.1 h.rising i j (by simpa using hi) (by simpa using hj) hij
  simpa using this
theorem Mt.inj {st : Nat → Nat} {Q : List (Nat × Nat)} (h : Mt st Q) {i j : Nat} (hi : i < Q.length) (hj : j < Q.length) (e : Q[i].1 = Q[j].1) : i = j := by
  rcases Nat.lt_trichotomy i j with z | z | z
  · have := h.lt hi hj z; omega
  · exact z
  · have := h.lt hj hi z; omega
theorem Mt.injb {st : Nat → Nat} {Q : List (Nat × Nat)} (h : Mt st Q) {i j : Nat} (hi : i < Q.length) (hj : j < Q.length) (e : Q[i].2 = Q[j].2) : i = j := by
  have p := List.pairwise_iff_getElem.1 h.nd
  rcases Nat.lt_trichotomy i j with z | z | z
  · have := p i j (by simpa using hi) (by simpa using hj) z; simp at this; exact absurd e this
  · exact z
  · have := p j i (by simpa using hj) (by simpa using hi) z; simp at this; exact absurd e.symm this
/-- Where a chunk that is there stands. -/
theorem Mt.pos {st : Nat → Nat} {Q : List (Nat × Nat)} (h : Mt st Q) {i : Nat} (hi : i < Q.length) : pos9 Q[i].1 (pts st Q) = i := by
  refine pos9_at (by rw [pts_len]; omega) (fun j hj hji => ?_) (fun hi' => ?_)
  · rw [pts_at]
    exact h.lt (by rw [pts_len] at hj; exact hj) hi hji
  · rw [pts_at]
    exact Nat.le_refl _
theorem Mt.has {st : Nat → Nat} {Q : List (Nat × Nat)} (h : Mt st Q) (n : Nat) : (∃ hi : pos9 n (pts st Q) < (pts st Q).length, (pts st Q)[pos9 n (pts st Q)].n = n) ↔ ∃ x ∈ Q, x.1 = n := by
  constructor
  · rintro ⟨hi, e⟩
    rw [pts_at] at e
    exact ⟨_, List.getElem_mem _, e⟩
  · rintro ⟨x, hx, rfl⟩
    obtain ⟨i, hi, rfl⟩ := List.getElem_of_mem hx
    have e := h.pos hi
    refine ⟨by rw [e, pts_len]; exact hi, ?_⟩
    simp only [e, pts_at]
    rfl
/-- Is a chunk there? -/
theorem Mt.there {st : Nat → Nat} {Q : List (Nat × Nat)} (h : Mt st Q) (q : Nat) : st q ≠ 0 ↔ ∃ x ∈ Q, x.1 = q / 512 := by
  refine ⟨h.out q, ?_⟩
  rintro ⟨x, hx, e⟩
  have := h.inn x hx (q % 512) (by omega)
  rwa [e, show 512 * (q / 512) + q % 512 = q by omega] at this
theorem Mt.big {st : Nat → Nat} {Q : List (Nat × Nat)} (h : Mt st Q) {q : Nat} (hq : 34359738368 ≤ q) : st q = 0 := by
  rcases Nat.eq_zero_or_pos (st q) with z | z
  · exact z
  · obtain ⟨x, hx, e⟩ := h.out q (by omega)
    have := h.below x hx
    omega
theorem state_eq {st : Nat → Nat} {Q : List (Nat × Nat)} (h : Mt st Q) (q : Nat) : state9 (pts st Q) q = (inU st q, fre st q, rel st q) := by
  unfold state9
  by_cases hx : ∃ hi : pos9 (q / 512) (pts st Q) < (pts st Q).length, (pts st Q)[pos9 (q / 512) (pts st Q)].n = q / 512
  · rw [dif_pos hx]
    obtain ⟨hi, e⟩ := hx
    have h0 := (h.there q).2 ((h.has _).1 ⟨hi, e⟩)
    have h4 := h.four q
    rw [pts_at] at e
    have e' : (Q[pos9 (q / 512) (pts st Q)]'(by rw [pts_len] at hi; exact hi)).1 = q / 512 := e
    simp only [pts_at]
    unfold pt
    simp only [e', show 512 * (q / 512) + q % 512 = q by omega]
    unfold inU fre rel
    have e1 : decide (st q ≠ 0) = true := decide_eq_true h0
    have e2 : (!decide (st q = 1)) = decide (2 ≤ st q) := by
      by_cases z : st q = 1
      · rw [decide_eq_true z, decide_eq_false (by omega)]; rfl
      · rw [decide_eq_false z, decide_eq_true (by omega)]; rfl
    rw [e1, e2]
  · rw [dif_neg hx]
    have h0 : ¬ st q ≠ 0 := fun z => hx ((h.has _).2 ((h.there q).1 z))
    unfold inU fre rel
    rw [decide_eq_false h0, decide_eq_false (by omega), decide_eq_false (by omega)]
theorem cnt9_eq (f : Nat → Bool) (a : Nat) : ∀ k, cnt9 f a k = cnt f a k
  | 0 => rfl
  | k + 1 => by
    rw [cnt9, cnt9_eq f a k, cnt_add]
    congr 1
    simp only [cnt]
    cases f (a + k) <;> rfl
/-- One behind the other. -/
theorem stand_iff {st : Nat → Nat} {Q : List (Nat × Nat)} (h : Mt st Q) (c m : Nat) (hm : 1 ≤ m) : Stand (pts st Q) (pos9 c (pts st Q)) c m ↔ ∀ i, i < m → ∃ x ∈ Q, x.1 = c + i := by
  constructor
  · intro hs i hi
    obtain ⟨hk, e⟩ := hs i hi
    rw [pts_at] at e
    exact ⟨_, List.getElem_mem _, e⟩
  · intro ha i hi
    induction i with
    | zero =>
      obtain ⟨x, hx, e⟩ := ha 0 hi
      obtain ⟨z1, z2⟩ := (h.has c).2 ⟨x, hx, by omega⟩
      exact ⟨z1, z2⟩
    | succ i ih =>
      obtain ⟨k1, e1⟩ := ih (by omega)
      obtain ⟨x, hx, e⟩ := ha (i + 1) hi
      obtain ⟨j, hj, rfl⟩ := List.getElem_of_mem hx
      have k2 : pos9 c (pts st Q) + i < Q.length := by rw [pts_len] at k1; exact k1
      have e1' : Q[pos9 c (pts st Q) + i].1 = c + i := by rw [pts_at] at e1; exact e1
      have lj : pos9 c (pts st Q) + i < j := by
        rcases Nat.lt_trichotomy (pos9 c (pts st Q) + i) j with z | z | z
        · exact z
        · simp only [z] at e1'; omega
        · have := h.lt hj k2 z; omega
      have ej : j = pos9 c (pts st Q) + (i + 1) := by
        rcases Nat.lt_or_ge (pos9 c (pts st Q) + (i + 1)) j with z | z
        · have a1 := h.lt (i := pos9 c (pts st Q) + i) (j := pos9 c (pts st Q) + (i + 1)) k2 (by omega) (by omega)
          have a2 := h.lt (i := pos9 c (pts st Q) + (i + 1)) (j := j) (by omega) hj z
          omega
        · omega
      subst ej
      refine ⟨by rw [pts_len]; exact hj, ?_⟩
      rw [pts_at]
      exact e
theorem lies_iff {st : Nat → Nat} {Q : List (Nat × Nat)} (h : Mt st Q) (p n : Nat) : Lies9 (pts st Q) p n ↔ InT st p n := by
  unfold Lies9 InT
  constructor
  · rintro ⟨n0, p0, n1, hs⟩
    refine ⟨n0, by omega, ?_⟩
    show cnt (inU st) p n = n
    have ha := (stand_iff h _ _ (by omega)).1 hs
    exact cnt_full.2 fun k hk => by
      obtain ⟨x, hx, e⟩ := ha ((p + k) / 512 - p / 512) (by omega)
      unfold inU
      exact decide_eq_true ((h.there _).2 ⟨x, hx, by omega⟩)
  · rintro ⟨n0, p0, ht⟩
    refine ⟨n0, by omega, by omega, (stand_iff h _ _ (by omega)).2 fun i hi => ?_⟩
    have hf : ∀ k, k < n → inU st (p + k) = true := cnt_full.1 ht
    have hq : ∃ q, p ≤ q ∧ q < p + n ∧ q / 512 = p / 512 + i := by
      rcases Nat.eq_zero_or_pos i with z | z
      · exact ⟨p, by omega, by omega, by omega⟩
      · exact ⟨512 * (p / 512 + i), by omega, by omega, by omega⟩
    obtain ⟨q, q1, q2, q3⟩ := hq
    have := hf (q - p) (by omega)
    rw [show p + (q - p) = q by omega] at this
    unfold inU at this
    obtain ⟨x, hx, e⟩ := (h.there q).1 (by simpa using this)
    exact ⟨x, hx, by omega⟩
/-- The blocks of a tree. -/
def Ft (rb : Nat) (o : Option Addr) (Q : List (Nat × Nat)) (x : Nat) : Prop := x = rb ∨ (Value.slice o 0 0).ownBlock = some x ∨ ∃ y ∈ Q, y.2 = x
/-- The reference's tree in its blocks, among those of F. -/
structure RefAt (F : Nat → Prop) (W : World) (rb : Nat) (st : Nat → Nat) (Q : List (Nat × Nat)) (o : Option Addr) (c : Nat) : Prop where
  tr : TrAt W rb (pts st Q) o c
  mt : Mt st Q
  ft : ∀ x, Ft rb o Q x → F x
def RefE (F : Nat → Prop) (W : World) (rb : Nat) (st : Nat → Nat) (Q : List (Nat × Nat)) : Prop := ∃ o c, RefAt F W rb st Q o c
section
variable {F G : Nat → Prop} {W W' : World} {rb : Nat} {st : Nat → Nat} {Q : List (Nat × Nat)} {o : Option Addr} {c : Nat}
theorem own_of (n : Nat) : (Value.slice o n c).ownBlock = (Value.slice o 0 0).ownBlock := by rcases o with _ | ⟨b, f, _ | _⟩ <;> rfl
theorem RefAt.blk (h : RefAt F W rb st Q o c) {i : Nat} (hi : i < Q.length) : RcF W Q[i].2 (pt st Q[i]).u (pt st Q[i]).g := by
  have := h.tr.part i (by rw [pts_len]; exact hi)
  simp only [pts_at] at this
  exact this
/-- A chunk's block is none of the others. -/
theorem RefAt.ne_rb (h : RefAt F W rb st Q o c) {i : Nat} (hi : i < Q.length) : Q[i].2 ≠ rb := fun e => by
  have h1 := (h.blk hi).used.cell 0 (by omega)
  rw [e, h.tr.cell] at h1
  cases h1
theorem RefAt.ne_list (h : RefAt F W rb st Q o c) {i : Nat} (hi : i < Q.length) : (Value.slice o 0 0).ownBlock ≠ some Q[i].2 := fun e => by
  have h1 := (h.blk hi).used.cell 0 (by omega)
  obtain ⟨b, rfl, hc⟩ := h.tr.at (by rw [pts_len]; omega)
  have e' : b = Q[i].2 := by injection e
  have h2 := (hc 0 (by rw [pts_len]; omega)).1
  rw [e', Nat.zero_mul] at h2
  rw [Nat.zero_add, h2] at h1
  cases h1
theorem RefAt.frame (h : RefAt F W rb st Q o c) (hb : ∀ x, Ft rb o Q x → W'.heap[x]? = W.heap[x]?) : RefAt F W' rb st Q o c := by
  have e0 := hb rb (.inl rfl)
  refine ⟨⟨(cell_block e0 _).trans h.tr.cell, (fz_block e0).trans h.tr.fz, owns_kept h.tr.own (fun x hx => hb x (.inr (.inl (by rw [own_of] at hx; exact hx)))), fun i hi => ?_, h.tr.rising, h.tr.below⟩, h.mt, h.ft⟩
  have hi' : i < Q.length := by rw [pts_len] at hi; exact hi
  have e1 := hb Q[i].2 (.inr (.inr ⟨_, List.getElem_mem _, rfl⟩))
  have h1 := h.blk hi'
  simp only [pts_at]
  exact ⟨h1.used.block e1, h1.gone.block e1⟩
theorem RefAt.lt (h : RefAt F W rb st Q o c) {x : Nat} (hx : Ft rb o Q x) : x < W.heap.size := by
  rcases hx with rfl | hx | ⟨y, hy, rfl⟩
  · exact World.block_lt_of_cell? W ⟨x, 0, none⟩ h.tr.cell
  · exact (h.tr.own.lt x (by rw [own_of]; exact hx)).2
  · obtain ⟨i, hi, rfl⟩ := List.getElem_of_mem hy
    exact (h.blk hi).lt
theorem RefAt.kept (h : RefAt F W rb st Q o c) (k : Kept G W W') (hG : ∀ x, F x → ¬ G x) : RefAt F W' rb st Q o c := h.frame fun x hx => k.block x (h.lt hx) (hG x (h.ft x hx))
theorem RefAt.below (h : RefAt F W rb st Q o c) (k : Below W.heap.size W W') : RefAt F W' rb st Q o c := h.frame fun x hx => k.block x (h.lt hx)
theorem RefAt.mono (h : RefAt F W rb st Q o c) (hG : ∀ x, F x → G x) : RefAt G W rb st Q o c := ⟨h.tr, h.mt, fun x hx => hG x (h.ft x hx)⟩
theorem RefAt.drewN (h : RefAt F W rb st Q o c) (k : Nat) : RefAt F (W.drewN k) rb st Q o c := h.frame fun _ _ => rfl
theorem RefE.kept (h : RefE F W rb st Q) (k : Kept G W W') (hG : ∀ x, F x → ¬ G x) : RefE F W' rb st Q := by
  obtain ⟨o, c, h⟩ := h
  exact ⟨o, c, h.kept k hG⟩
theorem RefE.below (h : RefE F W rb st Q) (k : Below W.heap.size W W') : RefE F W' rb st Q := by
  obtain ⟨o, c, h⟩ := h
  exact ⟨o, c, h.below k⟩
theorem RefE.mt (h : RefE F W rb st Q) : Mt st Q := by
  obtain ⟨o, c, h⟩ := h
  exact h.mt
end
end Go.Proofs.YtnclicdnncgdiaaGreatDoor

/- The reference's tree over the states of pages: a page changes; State, lies, count: contracts. -/
namespace Go.Proofs.YtnclicdnncgdiaaGreatDoor
open Go.ChangeShapes Go.WideShapes Go.ChangeAt Go.RowKit Go.Proofs.Bt Go.Shelf Go.Proofs.Rx Go.Maps Go.Proofs.Pk
set_option linter.unusedVariables false
set_option linter.unusedSimpArgs false

theorem ptcells_eq (st : Nat → Nat) (Q : List (Nat × Nat)) : ptcells (pts st Q) = Q.flatMap (fun x => [.int .u64 (x.1 : Int), .pointer (some ⟨x.2, 0, none⟩)]) := by
  unfold ptcells pts
  rw [List.flatMap_map]
  rfl
theorem pts_ns (st : Nat → Nat) (Q : List (Nat × Nat)) : (pts st Q).map (·.n) = Q.map (·.1) := by
  unfold pts
  rw [List.map_map]
  rfl
section
variable {F G : Nat → Prop} {W W' : World} {rb : Nat} {st st' : Nat → Nat} {Q : List (Nat × Nat)} {o : Option Addr} {c : Nat}
/-- Other states, where the blocks have what they ask for. -/
theorem RefAt.turn (h : RefAt F W rb st Q o c) (e0 : W'.heap[rb]? = W.heap[rb]?) (e1 : ∀ x, (Value.slice o 0 0).ownBlock = some x → W'.heap[x]? = W.heap[x]?) (hp : ∀ i (hi : i < Q.length), RcF W' Q[i].2 (pt st' Q[i]).u (pt st' Q[i]).g) (m : Mt st' Q) : RefAt F W' rb st' Q o c := by
  have t := h.tr
  have hl : (pts st' Q).length = (pts st Q).length := by rw [pts_len, pts_len]
  refine ⟨⟨?_, ?_, ?_, fun i hi => ?_, ?_, ?_⟩, m, h.ft⟩
  · rw [hl]; exact (cell_block e0 _).trans t.cell
  · exact (fz_block e0).trans t.fz
  · rw [hl, ptcells_eq, ← ptcells_eq st]; exact owns_kept t.own (fun x hx => e1 x (by rw [own_of] at hx; exact hx))
  · have hi' : i < Q.length := by rw [pts_len] at hi; exact hi
    simp only [pts_at]
    exact hp i hi'
  · rw [pts_ns]; exact m.rising
  · intro p hp'
    unfold pts at hp'
    obtain ⟨x, hx, rfl⟩ := List.mem_map.1 hp'
    exact m.below x hx
theorem Mt.set (h : Mt st Q) {a b s : Nat} (hs : 1 ≤ s ∧ s ≤ 3) (hi : ∀ q, a ≤ q → q < b → st q ≠ 0) : Mt (setSt st a b s) Q := by
  refine ⟨h.rising, h.below, h.nd, fun x hx k hk => ?_, fun q hq => ?_, setSt_four h.four hs.2⟩
  · unfold setSt
    split
    · omega
    · exact h.inn x hx k hk
  · unfold setSt at hq
    split at hq
    · rename_i z; exact h.out q (hi q z.1 z.2)
    · exact h.out q hq
theorem RefAt.put1 (h : RefAt F W rb st Q o c) {i : Nat} (hi : i < Q.length) (p : Nat) (hp : Q[i].1 = p / 512) (s : Nat) (hs : 1 ≤ s ∧ s ≤ 3) :
    RefAt F ((W.setCell ⟨Q[i].2, p % 512, none⟩ (.bool (decide (s = 1)))).setCell ⟨Q[i].2, 512 + p % 512, none⟩ (.bool (decide (s = 3)))) rb (setSt st p (p + 1) s) Q o c := by
  obtain ⟨W2, hW2⟩ : ∃ W2, (W.setCell ⟨Q[i].2, p % 512, none⟩ (.bool (decide (s = 1)))).setCell ⟨Q[i].2, 512 + p % 512, none⟩ (.bool (decide (s = 3))) = W2 := ⟨_, rfl⟩
  have kb : ∀ x, x ≠ Q[i].2 → W2.heap[x]? = W.heap[x]? := fun x hx => by
    rw [← hW2]
    exact (Below.heap_setCell _ _ _ _ (by simpa using hx)).trans (Below.heap_setCell _ _ _ _ (by simpa using hx))
  have b1 := (h.blk hi).used.set (p % 512) (by omega) (decide (s = 1))
  have o1 : Only Q[i].2 0 512 W (W.setCell ⟨Q[i].2, 0 + p % 512, none⟩ (.bool (decide (s = 1)))) := only_set W _ _ (by omega) (by omega)
  have g1 := (h.blk hi).gone.other o1 (by omega)
  have g2 := g1.set (p % 512) (by omega) (decide (s = 3))
  have o2 : Only Q[i].2 512 512 _ ((W.setCell ⟨Q[i].2, 0 + p % 512, none⟩ (.bool (decide (s = 1)))).setCell ⟨Q[i].2, 512 + p % 512, none⟩ (.bool (decide (s = 3)))) := only_set _ _ _ (by omega) (by omega)
  have b2 := b1.other o2 (by omega)
  rw [Nat.zero_add, hW2] at b2 g2
  rw [hW2]
  have hne : st p ≠ 0 := (h.mt.there p).2 ⟨_, List.getElem_mem hi, hp⟩
  refine h.turn (kb rb (fun e => h.ne_rb hi e.symm)) (fun x hx => kb x (fun e => h.ne_list hi (by rw [hx, e]))) (fun j hj => ?_) (h.mt.set hs (fun q q1 q2 => by rw [show q = p by omega]; exact hne))
  by_cases e : j = i
  · subst e
    refine ⟨b2.congr fun k hk => ?_, g2.congr fun k hk => ?_⟩
    · unfold pt
      dsimp only
      by_cases z : k = p % 512
      · rw [if_pos z, setSt_in (by omega)]
      · rw [if_neg z, setSt_out (by omega)]
    · unfold pt
      dsimp only
      by_cases z : k = p % 512
      · rw [if_pos z, setSt_in (by omega)]
      · rw [if_neg z, setSt_out (by omega)]
  · have e1 := kb Q[j].2 (fun z => e (h.mt.injb hj hi z))
    have h1 := h.blk hj
    have nq : Q[j].1 ≠ p / 512 := fun z => e (h.mt.inj hj hi (by omega))
    refine ⟨(h1.used.block e1).congr fun k hk => ?_, (h1.gone.block e1).congr fun k hk => ?_⟩
    · unfold pt; dsimp only; rw [setSt_out (by omega)]
    · unfold pt; dsimp only; rw [setSt_out (by omega)]
theorem cnt_not (f : Nat → Bool) (a : Nat) : ∀ n, cnt (fun q => !f q) a n + cnt f a n = n
  | 0 => rfl
  | n + 1 => by
    have := cnt_not f a n
    rw [cnt_add, cnt_add f]
    simp only [cnt]
    cases f (a + n) <;> simp <;> omega
theorem r9_state (h : RefAt F W rb st Q o c) (hl : Q.length ≤ 1000000) (q : Nat) (hq : q < 18446744073709551616) :
    Calls Tryz.prog 12 #[.pointer (some ⟨rb, 0, none⟩), .int .u64 (q : Nat)] W fun e w' => e = .returned (.tuple #[.bool (inU st q), .bool (fre st q), .bool (rel st q)]) ∧ ∃ k, w' = W.drewN k := by
  have := st9 h.tr (by rw [pts_len]; exact hl) (q : Nat) (by omega) (by omega)
  rw [Int.toNat_natCast, state_eq h.mt] at this
  exact this
theorem r9_lies (h : RefAt F W rb st Q o c) (hl : Q.length ≤ 1000000) (p n : Nat) (hp : p < 18446744073709551616) (hn : n < 18446744073709551616) :
    Calls Tryz.prog 57 #[.pointer (some ⟨rb, 0, none⟩), .int .u64 (p : Nat), .int .u64 (n : Nat)] W fun e w' => (∃ x, e = .returned (.bool x) ∧ (x = true ↔ InT st p n)) ∧ ∃ k, w' = W.drewN k := by
  have := lies9 h.tr (by rw [pts_len]; exact hl) (p : Nat) (n : Nat) (by omega) (by omega) (by omega) (by omega)
  rw [Int.toNat_natCast, Int.toNat_natCast] at this
  refine this.mono ?_
  rintro e w' ⟨⟨x, he, hx⟩, hk⟩
  exact ⟨⟨x, he, hx.trans (lies_iff h.mt p n)⟩, hk⟩
theorem r9_count (h : RefAt F W rb st Q o c) (hl : Q.length ≤ 1000000) (p n : Nat) (hpn : p + n ≤ 34359738368) :
    Calls Tryz.prog 58 #[.pointer (some ⟨rb, 0, none⟩), .int .u64 (p : Nat), .int .u64 (n : Nat)] W fun e w' => e = .returned (.tuple #[.int .u64 ((n - (tl st p n).f : Nat) : Int), .int .u64 ((tl st p n).r : Nat)]) ∧ ∃ k, w' = W.drewN k := by
  have := count9 h.tr (by rw [pts_len]; exact hl) (p : Nat) (n : Nat) (by omega) (by omega) (by omega)
  simp only [Int.toNat_natCast, state_eq h.mt, cnt9_eq] at this
  have e := cnt_not (fre st) p n
  rw [show cnt (fun q => !fre st q) p n = n - (tl st p n).f by show _ = n - cnt (fre st) p n; omega] at this
  exact this
theorem r9_find (h : RefAt F W rb st Q o c) (hl : Q.length ≤ 1000000) {i : Nat} (hi : i < Q.length) :
    Calls Tryz.prog 16 #[.pointer (some ⟨rb, 0, none⟩), .int .u64 (Q[i].1 : Nat)] W fun e w' => e = .returned (.tuple #[.int .i64 (i : Nat), .bool true]) ∧ ∃ k, w' = W.drewN k := by
  have := find9 h.tr (by rw [pts_len]; exact hl) (Q[i].1 : Nat) (by omega)
  rw [Int.toNat_natCast, h.mt.pos hi, show has9 Q[i].1 (pts st Q) = true from decide_eq_true ((h.mt.has _).2 ⟨_, List.getElem_mem hi, rfl⟩)] at this
  exact this
theorem r9_find_no (h : RefAt F W rb st Q o c) (hl : Q.length ≤ 1000000) (n : Nat) (hn : ¬ ∃ x ∈ Q, x.1 = n) :
    Calls Tryz.prog 16 #[.pointer (some ⟨rb, 0, none⟩), .int .u64 (n : Nat)] W fun e w' => e = .returned (.tuple #[.int .i64 (pos9 n (pts st Q) : Nat), .bool false]) ∧ ∃ k, w' = W.drewN k := by
  have := find9 h.tr (by rw [pts_len]; exact hl) (n : Nat) (by omega)
  rw [Int.toNat_natCast, show has9 n (pts st Q) = false from decide_eq_false (fun z => hn ((h.mt.has _).1 z))] at this
  exact this
/-- A chunk's own row of pages. -/
theorem RefAt.at (h : RefAt F W rb st Q o c) {i : Nat} (hi : i < Q.length) : ∃ b, o = some ⟨b, 0, none⟩ ∧ W.cell? ⟨b, i * 2, none⟩ = some (.int .u64 (Q[i].1 : Nat)) ∧ W.cell? ⟨b, i * 2 + 1, none⟩ = some (.pointer (some ⟨Q[i].2, 0, none⟩)) := by
  obtain ⟨b, e, hc⟩ := h.tr.at (by rw [pts_len]; omega)
  have := hc i (by rw [pts_len]; exact hi)
  simp only [pts_at] at this
  exact ⟨b, e, this.1, this.2⟩
theorem RefAt.cell0 (h : RefAt F W rb st Q o c) : W.cell? ⟨rb, 0, none⟩ = some (.slice o Q.length c) := by
  have := h.tr.cell
  rwa [pts_len] at this
end
end Go.Proofs.YtnclicdnncgdiaaGreatDoor
