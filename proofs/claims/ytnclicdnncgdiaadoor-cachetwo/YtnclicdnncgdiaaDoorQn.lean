/- CacheTwo: two caches of one tree, and what was given: how they lie beside one another. -/
import Derived.Test.YtnclicdnncgdiaaDoorQl
namespace Go.Proofs.YtnclicdnncgdiaaDoor
open Go.ChangeShapes Go.WideShapes Go.ChangeAt Go.RowKit Go.Proofs.Bt Go.Shelf Go.Proofs.Rx Go.Maps Go.Proofs.Pk
set_option linter.unusedVariables false
set_option linter.unusedSimpArgs false

/-! ### A set of numbers, as a map of truths -/
def bEl : Value → Option (DataW Unit × List MemPlace)
  | .bool x => some (.lit (.bool x), [])
  | _ => none
theorem bEl_back {v : Value} {x : Bool} {ps : List MemPlace} (h : bEl v = some (.lit (.bool x), ps)) : v = .bool x := by
  unfold bEl at h
  split at h
  · simp at h; rw [h.1]
  · cases h
theorem zeroBo (w : World) : (zeroValue 4).run Tryd.prog w = .ok (.bool false) w := by kernel_rfl
theorem tyBo : Tryd.prog.underlying 50 = some (.map 23 4) := by kernel_rfl
def SetM (w : World) (b : Nat) (S : Nat → Bool) (c : Nat) : Prop :=
  ∃ n D, w.ownsMap Tryd.prog 23 bEl b n D ∧ n ≤ c ∧ Maps.size D = c ∧ ∀ p, p < 18446744073709551616 → has D (key p) = S p ∧ D.atKey (key p) (.lit (.bool false)) = .lit (.bool (S p))
section
variable {w w' : World} {b c : Nat} {S : Nat → Bool}
theorem SetM.lt (h : SetM w b S c) : b < w.heap.size := by obtain ⟨n, D, h, _⟩ := h; exact h.lt
theorem SetM.same (h : SetM w b S c) (hb : w'.heap[b]? = w.heap[b]?) : SetM w' b S c := by
  obtain ⟨n, D, ⟨es, clock, h1, h2⟩, r⟩ := h
  exact ⟨n, D, ⟨es, clock, hb.trans h1, h2⟩, r⟩
theorem SetM.made (w : World) : SetM (w.alloc (.map #[] 0)) w.heap.size (fun _ => false) 0 :=
  ⟨0, _, World.ownsMap_made w Tryd.prog 23 bEl, Nat.le_refl _, rfl, fun _ _ => ⟨rfl, rfl⟩⟩
theorem SetM.look (h : SetM w b S c) (p : Nat) (hp : p < 18446744073709551616) :
    (Instr.lookup 50 (.map (some b)) (.int .u64 (p : Int)) false).run Tryd.prog w = .ok (.bool (S p)) w := by
  obtain ⟨n, D, hD, _, _, hM⟩ := h
  obtain ⟨v, ps, hrun, hv⟩ := hD.lookup keyU tyBo (zeroBo w) (zd := .lit (.bool false)) (zp := []) rfl (key_of p hp)
  rw [(hM p hp).2] at hv
  rw [hrun, bEl_back hv]
theorem SetM.len (h : SetM w b S c) (ty : TypeId) : (Builtin.len_ #[50] ty #[.map (some b)]).run Tryd.prog w = .ok (.int .i64 (c : Nat)) w := by
  obtain ⟨n, D, hD, _, hs, _⟩ := h
  rw [hD.len tyBo ty, hs]
theorem SetM.put (h : SetM w b S c) (hc : c < 100000) (p : Nat) (hp : p < 18446744073709551616) (hS : S p = false) :
    ∃ w', (Instr.mapUpdate 50 (.map (some b)) (.int .u64 (p : Int)) (.bool true)).run Tryd.prog w = .ok () w' ∧ SetM w' b (fun q => if q = p then true else S q) (c + 1) ∧ Kept (fun x => x = b) w w' := by
  obtain ⟨n, D, hD, hn, hs, hM⟩ := h
  have hn2 : n < 100000 := by omega
  have hn3 : n < maxLen := Nat.lt_trans hn2 (by decide)
  obtain ⟨w', hrun, h1, h2⟩ := hD.update keyU tyBo hn3 (key_of p hp) (val := .bool true) (d := .lit (.bool true)) (ps := []) rfl
  have e0 : Maps.size (D.put (key p) (.lit (.bool true))) = c + 1 := by rw [size_put (hD.tidy keyU), (hM p hp).1, hS, if_neg (by decide), hs]
  refine ⟨w', hrun, ⟨c + 1, _, ?_, Nat.le_refl _, e0, fun q hq => ?_⟩, Kept.of_grown h2 (fun k e => (Option.some.inj e).symm)⟩
  · obtain ⟨es, clock, e1, e2, e3, e4⟩ := h1
    refine ⟨es, clock, e1, e2, ?_, e4⟩
    rw [← e0, e4, size_eq, length_sorted]
    simp
  · by_cases z : q = p
    · subst z
      simp only [if_true]
      exact ⟨has_put_same hD.isMap (key_lit _) _, atKey_put_same hD.isMap (key_lit _) _ _⟩
    · simp only [if_neg z]
      have hne : key q ≠ key p := fun u => z (key_inj u)
      exact ⟨(has_put_other hne _).trans (hM q hq).1, (atKey_put_other hne _ _).trans (hM q hq).2⟩
end
theorem cnt_plus {f : Nat → Bool} {a n p : Nat} (h1 : a ≤ p) (h2 : p < a + n) (hf : f p = false) : cnt (fun q => if q = p then true else f q) a n = cnt f a n + 1 := by
  obtain ⟨d, rfl⟩ : ∃ d, p = a + d := ⟨p - a, by omega⟩
  obtain ⟨m, rfl⟩ : ∃ m, n = d + (1 + m) := ⟨n - d - 1, by omega⟩
  rw [cnt_add, cnt_add, cnt_add, cnt_add]
  have e1 : cnt (fun q => if q = a + d then true else f q) a d = cnt f a d := cnt_congr fun k hk => if_neg (by omega)
  have e2 : cnt (fun q => if q = a + d then true else f q) (a + d + 1) m = cnt f (a + d + 1) m := cnt_congr fun k hk => if_neg (by omega)
  have e3 : cnt (fun q => if q = a + d then true else f q) (a + d) 1 = 1 := by simp [cnt]
  have e4 : cnt f (a + d) 1 = 0 := by simp [cnt, hf]
  rw [e1, e2, e3, e4]
  omega
theorem cnt_both {f g : Nat → Bool} {a n : Nat} (h : ∀ q, g q = true → f q = false) : cnt f a n + cnt g a n ≤ n := by
  induction n with
  | zero => exact Nat.le_refl _
  | succ n ih =>
    rw [cnt, cnt]
    cases hg : g (a + n) with
    | true => rw [h _ hg]; simp; omega
    | false => have := toNat_le (f (a + n)); simp; omega
/-- All free pages lie in one chunk. -/
theorem frT_chunk {st : Nat → Nat} {a : Nat} (ha : a + 512 ≤ 34359738368) (h : ∀ q, st q ≠ 0 → a ≤ q ∧ q < a + 512) : frT st = cnt (fre st) a 512 := by
  show cnt (fre st) 0 34359738368 = _
  have fz : ∀ q, ¬ (a ≤ q ∧ q < a + 512) → fre st q = false := fun q hq => by
    unfold fre
    refine decide_eq_false fun z => hq (h q (by omega))
  obtain ⟨m, hm⟩ : ∃ m, 34359738368 = a + (512 + m) := ⟨34359738368 - a - 512, by omega⟩
  rw [hm, cnt_add, cnt_add, cnt_none (i := 0) (n := a) (fun k hk => fz _ (by omega)), cnt_none (i := 0 + a + 512) (fun k hk => fz _ (by omega)), Nat.zero_add, Nat.zero_add, Nat.add_zero]
/-! ### Two caches -/
/-- What a cache has. -/
structure Cx where
  B : Nat
  H : Nat
  G : Nat
structure Cg (st : Nat → Nat) (S : Nat → Bool) (x : Cx) : Prop where
  b : x.B + 64 ≤ 34359738368
  sub : ∀ j, x.G.testBit j = true → x.H.testBit j = true
  own : ∀ j, x.H.testBit j = true → st (x.B + j) = 1 ∧ S (x.B + j) = false
def ApX (x y : Cx) : Prop := ∀ i j, x.H.testBit i = true → y.H.testBit j = true → x.B + i ≠ y.B + j
/-- Blocks of the law: the tree, the list, the map, the list's two. -/
structure Bw where
  tb : Nat
  lb : Nat
  gm : Nat
  L0 : Nat
  L1 : Nat
structure Tw (N : Nat) (w W : World) (b : Bw) (ca co : Nat) (st : Nat → Nat) (x y : Cx) (S : Nat → Bool) (c : Nat) : Prop where
  t : T9 N (fun z => z = ca ∨ z = co ∨ z = b.lb ∨ z = b.gm) w W b.tb st
  k0 : CcAt W ca x.B x.H x.G
  k1 : CcAt W co y.B y.H y.G
  l : Bk W b.lb 26 #[.pointer (some ⟨b.L0, 0, none⟩), .pointer (some ⟨b.L1, 0, none⟩)]
  m : SetM W b.gm S c
  g0 : Cg st S x
  g1 : Cg st S y
  ap : ApX x y
  sg : ∀ q, S q = true → st q = 1
  ch : ∀ q, st q ≠ 0 → 3072 ≤ q ∧ q < 3584
  cn : c = cnt S 3072 512
  ne : ca ≠ co ∧ ca ≠ b.lb ∧ ca ≠ b.gm ∧ co ≠ b.lb ∧ co ≠ b.gm ∧ b.lb ≠ b.gm
section
variable {N : Nat} {w W W' : World} {b : Bw} {ca co : Nat} {st st' : Nat → Nat} {x y : Cx} {S : Nat → Bool} {c : Nat}
theorem Tw.swap (h : Tw N w W b ca co st x y S c) : Tw N w W b co ca st y x S c :=
  ⟨h.t.more (Below.refl _ _) (fun z hz => .inl (by
    rcases hz with u | u | u
    · exact .inr (.inl u)
    · exact .inl u
    · exact .inr (.inr u))), h.k1, h.k0, h.l, h.m, h.g1, h.g0, fun i j hi hj e => h.ap j i hj hi e.symm, h.sg, h.ch, h.cn, ⟨fun e => h.ne.1 e.symm, h.ne.2.2.2.1, h.ne.2.2.2.2.1, h.ne.2.1, h.ne.2.2.1, h.ne.2.2.2.2.2⟩⟩
theorem Tw.read (h : Tw N w W b ca co st x y S c) (bl : Below W.heap.size W W') : Tw N w W' b ca co st x y S c :=
  ⟨(h.t.read bl).1, h.k0.below bl, h.k1.below bl, h.l.below bl, h.m.same (bl.block _ h.m.lt), h.g0, h.g1, h.ap, h.sg, h.ch, h.cn, h.ne⟩
theorem Tw.tc (h : Tw N w W b ca co st x y S c) : TC N (fun z => z = ca ∨ z = co ∨ z = b.lb ∨ z = b.gm) w W b.tb ca st x.B x.H x.G := ⟨h.t, h.k0, .inl rfl⟩
/-- Behind a call that writes the first cache and the tree. -/
theorem Tw.step {x' : Cx} (h : Tw N w W b ca co st x y S c) (t1 : TC N (fun z => z = ca ∨ z = co ∨ z = b.lb ∨ z = b.gm) w W' b.tb ca st' x'.B x'.H x'.G) (l1 : LeftC N (fun z => z = ca ∨ z = co ∨ z = b.lb ∨ z = b.gm) ca W W')
    (g0 : Cg st' S x') (g1 : Cg st' S y) (ap : ApX x' y) (sg : ∀ q, S q = true → st' q = 1) (ch : ∀ q, st' q ≠ 0 → 3072 ≤ q ∧ q < 3584) : Tw N w W' b ca co st' x' y S c := by
  obtain ⟨n1, n2, n3, n4, n5, n6⟩ := h.ne
  have nf : ∀ z, z = co ∨ z = b.lb ∨ z = b.gm → ¬ (N ≤ z ∧ (¬ (z = ca ∨ z = co ∨ z = b.lb ∨ z = b.gm) ∨ z = ca)) := fun z hz u => by
    rcases u.2 with v | v
    · exact v (.inr hz)
    · rcases hz with hz | hz | hz <;> omega
  exact ⟨t1.t, t1.c, h.k1.kept l1 (nf _ (.inl rfl)), h.l.kept l1 (nf _ (.inr (.inl rfl))), h.m.same (Kept.block l1 _ h.m.lt (nf _ (.inr (.inr rfl)))), g0, g1, ap, sg, ch, h.cn, h.ne⟩
/-- The map is written. -/
theorem Tw.map {x' : Cx} {S' : Nat → Bool} {c' : Nat} (h : Tw N w W b ca co st x y S c) (k : Kept (fun z => z = b.gm) W W') (m : SetM W' b.gm S' c') (g0 : Cg st S' x) (g1 : Cg st S' y) (sg : ∀ q, S' q = true → st q = 1) (cn : c' = cnt S' 3072 512) : Tw N w W' b ca co st x y S' c' := by
  obtain ⟨n1, n2, n3, n4, n5, n6⟩ := h.ne
  exact ⟨h.t.own k (fun z hz => by subst hz; exact ⟨.inr (.inr (.inr rfl)), (h.t.inOb (.inr (.inr (.inr rfl)))).1⟩), h.k0.kept k n3, h.k1.kept k n5, h.l.kept k n6, m, g0, g1, h.ap, sg, h.ch, cn, h.ne⟩
/-- What Fill does, where there is nothing yet. -/
theorem tw_fill (h : Tw N w W b ca co st x y S c) (hx : x.H = 0) :
    Calls Tryd.prog 13 #[.pointer (some ⟨ca, 0, none⟩), .pointer (some ⟨b.tb, 0, none⟩)] W fun e W' => ∃ (v : Int) (st1 : Nat → Nat) (x1 : Cx), e = .returned (.int .i64 v) ∧ Tw N w W' b ca co st1 x1 y S c := by
  have h0 := h.tc
  rw [hx] at h0
  by_cases hr : ∃ p, Run st p 1
  · obtain ⟨p0, hp0⟩ := hr
    obtain ⟨p, -, r1, r2⟩ := least_of (fun p => Run st p 1) p0 hp0
    have hp : p < 34359738368 := h.t.free_lt (by have := r1 p (Nat.le_refl _) (by omega); omega)
    obtain ⟨B, hB⟩ : ∃ B, p / 64 * 64 = B := ⟨_, rfl⟩
    refine (tc_fill h0 p ⟨r1, r2⟩).mono ?_
    rintro e W' ⟨e1, c1, l1⟩
    rw [hB] at c1
    have bit : ∀ j, (wd (fun j => fre st (B + j)) 64).testBit j = true → j < 64 ∧ 2 ≤ st (B + j) := fun j hj => by
      rw [wd_bit, Bool.and_eq_true] at hj
      have h2 := hj.2
      unfold fre at h2
      exact ⟨of_decide_eq_true hj.1, of_decide_eq_true h2⟩
    have keep : ∀ q, st q = 1 → fillS st B 64 q = 1 := fun q hq => by
      unfold fillS
      split
      · rfl
      · exact hq
    refine ⟨0, fillS st B 64, ⟨B, wd (fun j => fre st (B + j)) 64, wd (fun j => rel st (B + j)) 64⟩, e1, h.step c1 l1 ⟨by show B + 64 ≤ 34359738368; omega, fun j hj => ?_, fun j hj => ?_⟩ ⟨h.g1.b, h.g1.sub, fun j hj => ⟨keep _ (h.g1.own j hj).1, (h.g1.own j hj).2⟩⟩ (fun i j hi hj e => ?_) (fun q hq => keep q (h.sg q hq)) (fun q hq => h.ch q (fun z => hq ?_))⟩
    · have hj' : (wd (fun j => rel st (B + j)) 64).testBit j = true := hj
      show (wd (fun j => fre st (B + j)) 64).testBit j = true
      rw [wd_bit, Bool.and_eq_true] at hj'
      rw [wd_bit, hj'.1, Bool.true_and]
      have h2 := hj'.2
      unfold rel at h2
      have h3 := of_decide_eq_true h2
      unfold fre
      exact decide_eq_true (by omega)
    · obtain ⟨j1, j2⟩ := bit j hj
      refine ⟨?_, ?_⟩
      · show fillS st B 64 (B + j) = 1
        unfold fillS
        rw [if_pos ⟨by omega, by omega, j2⟩]
      · show S (B + j) = false
        cases hS : S (B + j) with
        | false => rfl
        | true => rw [h.sg _ hS] at j2; omega
    · obtain ⟨j1, j2⟩ := bit i hi
      have e' : B + i = y.B + j := e
      rw [e', (h.g1.own j hj).1] at j2
      omega
    · unfold fillS
      rw [if_neg (fun u => by rw [z] at u; omega)]
      exact z
  · refine (tc_fill_full h0 (fun p hp => hr ⟨p, hp⟩)).mono ?_
    rintro e W' ⟨e1, c1, l1⟩
    exact ⟨30, st, x, e1, h.step (x' := x) (by rw [hx]; exact c1) l1 h.g0 h.g1 h.ap h.sg h.ch⟩
theorem tw_flush (h : Tw N w W b ca co st x y S c) :
    Calls Tryd.prog 17 #[.pointer (some ⟨ca, 0, none⟩), .pointer (some ⟨b.tb, 0, none⟩)] W fun e W' => e = .returned (.tuple #[]) ∧ ∃ (st1 : Nat → Nat) (x1 : Cx), Tw N w W' b ca co st1 x1 y S c := by
  refine (tc_flush h.tc h.g0.b h.g0.sub (fun j hj => (h.g0.own j hj).1)).mono ?_
  rintro e W' ⟨e1, c1, l1⟩
  have keep : ∀ q, st q = 1 → (∀ j, x.H.testBit j = true → x.B + j ≠ q) → flushS st x.B x.H.testBit x.G.testBit 64 q = 1 := fun q hq hn => by
    unfold flushS
    rw [if_neg (fun u => hn _ u.2.2 (by omega))]
    exact hq
  refine ⟨e1, _, ⟨0, 0, 0⟩, h.step (x' := ⟨0, 0, 0⟩) c1 l1 ⟨by decide, fun j hj => hj, fun j hj => ?_⟩ ⟨h.g1.b, h.g1.sub, fun j hj => ⟨keep _ (h.g1.own j hj).1 (fun i hi e => h.ap i j hi hj e), (h.g1.own j hj).2⟩⟩ (fun i j hi hj e => ?_) (fun q hq => keep q (h.sg q hq) (fun j hj e => ?_)) (fun q hq => ?_)⟩
  · have hj' : (0 : Nat).testBit j = true := hj
    rw [Nat.zero_testBit] at hj'; cases hj'
  · have hi' : (0 : Nat).testBit i = true := hi
    rw [Nat.zero_testBit] at hi'; cases hi'
  · have := (h.g0.own j hj).2
    rw [e, hq] at this
    cases this
  · unfold flushS at hq
    split at hq
    · rename_i u
      refine h.ch q (fun z => ?_)
      have := (h.g0.own _ u.2.2).1
      rw [show x.B + (q - x.B) = q by omega, z] at this
      cases this
    · exact h.ch q hq
/-- What is given stands in the cache no more. -/
theorem tw_alloc (h : Tw N w W b ca co st x y S c) (n : Int) :
    Calls Tryd.prog 19 #[.pointer (some ⟨ca, 0, none⟩), .int .i64 n] W fun e W' => (∃ v : Int, (v = 1 ∨ v = 30) ∧ e = .returned (.tuple #[.int .u64 0, .int .i64 0, .int .i64 v]) ∧ W' = W) ∨
      (∃ (p m : Nat) (v : Int) (x1 : Cx), n = (m : Nat) ∧ 1 ≤ m ∧ m ≤ 64 ∧ e = .returned (.tuple #[.int .u64 (p : Nat), .int .i64 v, .int .i64 0]) ∧ Tw N w W' b ca co st x1 y S c ∧ (∀ q, p ≤ q → q < p + m → S q = false ∧ st q = 1 ∧ (∀ j, x1.H.testBit j = true → x1.B + j ≠ q) ∧ ∀ j, y.H.testBit j = true → y.B + j ≠ q) ∧ p + m ≤ 34359738368) := by
  refine (ccAlloc h.k0 h.t.tab h.g0.b n).mono ?_
  rintro e W' (⟨_, e1, e2⟩ | ⟨_, _, e1, e2⟩ | ⟨hn, a, r1, r2, r3, e1, c1, k1⟩)
  · exact .inl ⟨1, .inl rfl, e1, e2⟩
  · exact .inl ⟨30, .inr rfl, e1, e2⟩
  · obtain ⟨t1, l1⟩ := h.tc.wr c1 k1
    have bits : ∀ j, (andn x.H (on1 a n.toNat)).testBit j = true → x.H.testBit j = true ∧ ¬ (a ≤ j ∧ j < a + n.toNat) := fun j hj => by
      rw [andn_bit, on1_bit, Bool.and_eq_true] at hj
      exact ⟨hj.1, fun z => by rw [decide_eq_true z] at hj; cases hj.2⟩
    have hb := h.g0.b
    refine .inr ⟨x.B + a, n.toNat, _, ⟨x.B, andn x.H (on1 a n.toNat), andn x.G (on1 a n.toNat)⟩, by omega, by omega, by omega, e1, h.step t1 l1 ⟨h.g0.b, fun j hj => ?_, fun j hj => h.g0.own j (bits j hj).1⟩ h.g1 (fun i j hi hj => h.ap i j (bits i hi).1 hj) h.sg h.ch, fun q q1 q2 => ?_, by omega⟩
    · have hj' : (andn x.G (on1 a n.toNat)).testBit j = true := hj
      show (andn x.H (on1 a n.toNat)).testBit j = true
      rw [andn_bit, Bool.and_eq_true] at hj' ⊢
      exact ⟨h.g0.sub j hj'.1, hj'.2⟩
    · have hq := r1 (q - x.B - a) (by omega)
      rw [show a + (q - x.B - a) = q - x.B by omega] at hq
      have ho := h.g0.own _ hq
      rw [show x.B + (q - x.B) = q by omega] at ho
      refine ⟨ho.2, ho.1, fun j hj e => (bits j hj).2 ?_, fun j hj e => h.ap (q - x.B) j hq hj (by omega)⟩
      have e' : x.B + j = q := e
      omega
end
end Go.Proofs.YtnclicdnncgdiaaDoor
