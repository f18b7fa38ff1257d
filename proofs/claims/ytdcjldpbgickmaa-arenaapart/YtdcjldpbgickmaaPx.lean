/- A map and its model beside one another: what both answer alike. -/
import Derived.Test.YtdcjldpbgickmaaMq
import Derived.Test.YtdcjldpbgickmaaCk
import Derived.Test.YtdcjldpbgickmaaArg
namespace Go.Proofs.Ytdcjldpbgickmaa
open Go.ChangeShapes Go.WideShapes Go.ChangeAt Go.RowKit Go.Shelf Go.Proofs.Rx Go.Maps
set_option linter.unusedVariables false
set_option linter.unusedSimpArgs false

theorem ar_am {W : World} {mb : Nat} {Φ : Nat → Prop} {C : Nat → Bool} {V : Nat → Int} (h : Ar W mb Φ C V) : Am 0 (fun z => z < W.heap.size ∧ ¬ Φ z) W W mb C V :=
  ⟨⟨Φ, h, fun b hb => ⟨Nat.zero_le _, fun o => o.2 hb⟩⟩, Below.refl 0 W, Nat.zero_le _, fun b hb => hb.1⟩
theorem arTo_of {W W' : World} {mb : Nat} {Φ : Nat → Prop} {C : Nat → Bool} {V : Nat → Int} (a : Am 0 (fun z => z < W.heap.size ∧ ¬ Φ z) W W' mb C V) (l : LeftA 0 (fun z => z < W.heap.size ∧ ¬ Φ z) W W') : ArTo W W' mb Φ C V := by
  have l' : Kept (fun x => 0 ≤ x ∧ ¬ (x < W.heap.size ∧ ¬ Φ x)) W W' := l
  refine ⟨⟨l'.os, l'.tape, l'.output, l'.size, fun b hb hf => l'.block b hb (fun u => u.2 ⟨hb, hf⟩)⟩, ?_⟩
  obtain ⟨Ψ, ar, hΨ⟩ := a.ex
  refine ⟨Ψ, ar, fun b hb => ?_⟩
  by_cases c : b < W.heap.size
  · by_cases d : Φ b
    · exact .inl d
    · exact absurd ⟨c, d⟩ (hΨ b hb).2
  · exact .inr (by omega)
/-- What a map and a model have in common. -/
structure Rel (C : Nat → Bool) (V : Nat → Int) (cs ps : List Nat) (is : List Int) : Prop where
  c : ∀ c, C c = decide (c ∈ cs)
  nd : cs.Nodup
  v : ∀ q, V q = lastAt ps is q ps.length
  l : is.length = ps.length
  pg : ∀ q ∈ ps, q < 34359738368
def fpP (Ψ : Nat → Prop) (xb : Nat) (v0 v1 v2 : Value) (z : Nat) : Prop := Ψ z ∨ ownM xb v0 v1 v2 z
structure Pr (N : Nat) (W : World) (mb xb : Nat) (Ψ : Nat → Prop) (v0 v1 v2 : Value) (C : Nat → Bool) (V : Nat → Int) (cs ps : List Nat) (is : List Int) : Prop where
  ar : Ar W mb Ψ C V
  mo : Mo N W xb v0 v1 v2 cs ps is
  dj : ∀ z, Ψ z → ¬ ownM xb v0 v1 v2 z
  ge : ∀ z, Ψ z → N ≤ z
  rel : Rel C V cs ps is
section
variable {N : Nat} {W W' : World} {mb xb : Nat} {Ψ : Nat → Prop} {v0 v1 v2 : Value} {C : Nat → Bool} {V : Nat → Int} {cs ps : List Nat} {is : List Int}
theorem Pr.kept {G : Nat → Prop} (h : Pr N W mb xb Ψ v0 v1 v2 C V cs ps is) (k : Kept G W W') (hG : ∀ z, fpP Ψ xb v0 v1 v2 z → ¬ G z) : Pr N W' mb xb Ψ v0 v1 v2 C V cs ps is :=
  ⟨h.ar.kept k (fun b hb => hG b (.inl hb)), h.mo.kept k (fun z hz => hG z (.inr hz)), h.dj, h.ge, h.rel⟩
theorem Pr.lt (h : Pr N W mb xb Ψ v0 v1 v2 C V cs ps is) {z : Nat} (hz : fpP Ψ xb v0 v1 v2 z) : N ≤ z ∧ z < W.heap.size := by
  rcases hz with hz | hz
  · exact ⟨h.ge z hz, h.ar.lt z hz⟩
  · exact h.mo.own hz
end
/-- Both, in blocks F; at most so many chunks and pages. -/
def PX (N : Nat) (W : World) (mb xb : Nat) (F : Nat → Prop) (a b : Nat) : Prop :=
  ∃ (Ψ : Nat → Prop) (v0 v1 v2 : Value) (C : Nat → Bool) (V : Nat → Int) (cs ps : List Nat) (is : List Int), Pr N W mb xb Ψ v0 v1 v2 C V cs ps is ∧ (∀ z, F z ↔ fpP Ψ xb v0 v1 v2 z) ∧ cs.length ≤ a ∧ ps.length ≤ b
def To (W W' : World) (F F' : Nat → Prop) : Prop := Kept F W W' ∧ ∀ z, F' z → F z ∨ W.heap.size ≤ z
theorem To.trans {W W' W'' : World} {F F' F'' : Nat → Prop} (h : To W W' F F') (k : To W' W'' F' F'') : To W W'' F F'' := by
  refine ⟨h.1.trans k.1 (fun z hz u => ?_), fun z hz => ?_⟩
  · rcases h.2 z u with v | v
    · exact v
    · omega
  · rcases k.2 z hz with v | v
    · exact h.2 z v
    · exact .inr (Nat.le_trans h.1.size v)
section
variable {N : Nat} {W W' : World} {mb xb : Nat} {F : Nat → Prop} {a b : Nat}
theorem PX.kept {G : Nat → Prop} (h : PX N W mb xb F a b) (k : Kept G W W') (hG : ∀ z, F z → ¬ G z) : PX N W' mb xb F a b := by
  obtain ⟨Ψ, v0, v1, v2, C, V, cs, ps, is, p, f, l⟩ := h
  exact ⟨Ψ, v0, v1, v2, C, V, cs, ps, is, p.kept k (fun z hz => hG z ((f z).2 hz)), f, l⟩
theorem PX.below (h : PX N W mb xb F a b) (k : Below W.heap.size W W') : PX N W' mb xb F a b := h.kept (Kept.of_below (F := fun _ => False) k) (fun _ _ f => f)
theorem PX.lt (h : PX N W mb xb F a b) {z : Nat} (hz : F z) : N ≤ z ∧ z < W.heap.size := by
  obtain ⟨Ψ, v0, v1, v2, C, V, cs, ps, is, p, f, l⟩ := h
  exact p.lt ((f z).1 hz)
theorem PX.mono {a' b' : Nat} (h : PX N W mb xb F a b) (ha : a ≤ a') (hb : b ≤ b') : PX N W mb xb F a' b' := by
  obtain ⟨Ψ, v0, v1, v2, C, V, cs, ps, is, p, f, l⟩ := h
  exact ⟨Ψ, v0, v1, v2, C, V, cs, ps, is, p, f, by omega, by omega⟩
theorem PX.same (h : PX N W mb xb F a b) (k : Below W.heap.size W W') {a' b' : Nat} (ha : a ≤ a') (hb : b ≤ b') : ∃ F', PX N W' mb xb F' a' b' ∧ To W W' F F' :=
  ⟨F, (h.below k).mono ha hb, Kept.of_below k, fun z hz => .inl hz⟩
/-! ### Add -/
theorem px_add (h : PX N W mb xb F a b) (hN : N ≤ W.heap.size) (ha : a < 1000) (c : Nat) :
    ∃ v : Int, Calls Try.prog 15 #[.pointer (some ⟨mb, 0, none⟩), .int .u64 (c : Nat)] W fun e W1 => e = .returned (.int .i64 v) ∧ Kept F W W1 ∧
      Calls Try.prog 20 #[.pointer (some ⟨xb, 0, none⟩), .int .u64 (c : Nat)] W1 fun e W2 => e = .returned (.int .i64 v) ∧ ∃ F', PX N W2 mb xb F' (a + 1) b ∧ To W W2 F F' := by
  obtain ⟨Ψ, v0, v1, v2, C, V, cs, ps, is, p, f, l1, l2⟩ := h
  refine ⟨addE C c, (am_add (ar_am p.ar) c).mono ?_⟩
  rintro e W1 ⟨rfl, am, lf⟩
  obtain ⟨k1, Ψ1, ar1, hΨ1⟩ := arTo_of am lf
  have kF : Kept F W W1 := k1.mono (fun z hz => (f z).2 (.inl hz))
  have mo1 : Mo N W1 xb v0 v1 v2 cs ps is := p.mo.kept k1 (fun z hz u => p.dj z u hz)
  have dj1 : ∀ z, Ψ1 z → ¬ ownM xb v0 v1 v2 z := fun z hz u => by
    rcases hΨ1 z hz with v | v
    · exact p.dj z v u
    · have := (p.mo.own u).2; omega
  have ge1 : ∀ z, Ψ1 z → N ≤ z := fun z hz => by
    rcases hΨ1 z hz with v | v
    · exact p.ge z v
    · omega
  have nw : ∀ z, fpP Ψ1 xb v0 v1 v2 z → F z ∨ W.heap.size ≤ z := fun z hz => by
    rcases hz with u | u
    · rcases hΨ1 z u with v | v
      · exact .inl ((f z).2 (.inl v))
      · exact .inr v
    · exact .inl ((f z).2 (.inr u))
  refine ⟨rfl, kF, ?_⟩
  unfold addE
  by_cases h1 : 67108864 ≤ c
  · rw [if_pos h1]
    refine (mo_add_arg c h1).mono ?_
    rintro e W2 ⟨rfl, hw⟩
    rw [hw]
    have e1 : addC C c = C := funext fun q => by unfold addC; rw [if_neg (by omega)]
    rw [e1] at ar1
    exact ⟨rfl, fpP Ψ1 xb v0 v1 v2, ⟨Ψ1, v0, v1, v2, C, V, cs, ps, is, ⟨ar1, mo1, dj1, ge1, p.rel⟩, fun _ => Iff.rfl, by omega, l2⟩, kF, nw⟩
  · rw [if_neg h1]
    by_cases h2 : c ∈ cs
    · have hC : C c = true := by rw [p.rel.c]; exact decide_eq_true h2
      rw [if_pos hC]
      refine (mo_add_twice mo1 (by omega) c (by omega) h2).mono ?_
      rintro e W2 ⟨rfl, hw⟩
      rw [hw]
      have e1 : addC C c = C := funext fun q => by
        unfold addC
        by_cases z : q = c
        · rw [if_pos ⟨by omega, z⟩, z, hC]
        · rw [if_neg (by omega)]
      rw [e1] at ar1
      exact ⟨rfl, fpP Ψ1 xb v0 v1 v2, ⟨Ψ1, v0, v1, v2, C, V, cs, ps, is, ⟨ar1, mo1, dj1, ge1, p.rel⟩, fun _ => Iff.rfl, by omega, l2⟩, kF, nw⟩
    · have hC : C c = false := by rw [p.rel.c]; exact decide_eq_false h2
      rw [if_neg (by rw [hC]; decide)]
      refine (mo_add_new mo1 (Nat.le_trans hN k1.size) (by omega) c (by omega) h2).mono ?_
      rintro e W2 ⟨rfl, v0', mo2, k2, ow2⟩
      have kF2 : Kept (ownM xb v0 v1 v2) W1 W2 := k2
      refine ⟨rfl, fpP Ψ1 xb v0' v1 v2, ⟨Ψ1, v0', v1, v2, addC C c, V, cs ++ [c], ps, is, ⟨ar1.kept k2 (fun b hb => dj1 b hb), mo2, fun z hz u => ?_, ge1, ⟨fun q => ?_, ?_, p.rel.v, p.rel.l, p.rel.pg⟩⟩, fun _ => Iff.rfl, by simp; omega, l2⟩, ?_, fun z hz => ?_⟩
      · rcases ow2 z u with v | v
        · exact dj1 z hz v
        · have := ar1.lt z hz; omega
      · unfold addC
        by_cases z : q = c
        · rw [if_pos ⟨by omega, z⟩, z]; simp
        · rw [if_neg (by omega), p.rel.c]; simp [z]
      · refine List.nodup_append.2 ⟨p.rel.nd, by simp, fun x hx y hy => ?_⟩
        simp at hy
        rw [hy]
        exact fun e => h2 (e ▸ hx)
      · exact kF.trans (k2.mono (G := F) fun z hz => (f z).2 (.inr hz)) (fun _ _ u => u)
      · rcases hz with u | u
        · exact nw z (.inl u)
        · rcases ow2 z u with v | v
          · exact nw z (.inr v)
          · exact .inr (Nat.le_trans k1.size v)
end
theorem lastAt_range (ps : List Nat) (is : List Int) (p : Nat) (id : Int) (q : Nat) (h : is.length = ps.length) : ∀ n, lastAt (ps ++ List.range' p n) (is ++ List.replicate n id) q (ps ++ List.range' p n).length = if p ≤ q ∧ q < p + n then id else lastAt ps is q ps.length
  | 0 => by simp; omega
  | n + 1 => by
    have e1 : ps ++ List.range' p (n + 1) = ps ++ List.range' p n ++ [p + n] := by rw [List.range'_concat, List.append_assoc, Nat.one_mul]
    have e2 : is ++ List.replicate (n + 1) id = is ++ List.replicate n id ++ [id] := by rw [List.replicate_succ', List.append_assoc]
    rw [e1, e2, lastAt_one _ _ _ _ _ (by simp [h]), lastAt_range ps is p id q h n]
    by_cases z : q = p + n
    · rw [if_pos z, if_pos (by omega)]
    · rw [if_neg z]
      by_cases y : p ≤ q ∧ q < p + n
      · rw [if_pos y, if_pos (by omega)]
      · rw [if_neg y, if_neg (by omega)]
theorem allIn_iff {C : Nat → Bool} {cs : List Nat} (hc : ∀ c, C c = decide (c ∈ cs)) {p n : Nat} (hn : 0 < n) : AllIn C p n ↔ (p < 34359738368 ∧ p + n ≤ 34359738368) ∧ CsIn cs p n := by
  constructor
  · rintro ⟨h1, h2, h3⟩
    refine ⟨⟨h1, h2⟩, fun c c1 c2 => ?_⟩
    have : C c = true := by
      by_cases z : p ≤ 512 * c
      · have := h3 (512 * c) z (by omega)
        rwa [show 512 * c / 512 = c by omega] at this
      · have := h3 p (Nat.le_refl _) (by omega)
        rwa [show p / 512 = c by omega] at this
    rw [hc] at this
    exact of_decide_eq_true this
  · rintro ⟨⟨h1, h2⟩, h3⟩
    exact ⟨h1, h2, fun q q1 q2 => by rw [hc]; exact decide_eq_true (h3 _ (by omega) (by omega))⟩
/-- How many pages a set may add. -/
def cst (n : Nat) : Nat := if n < 1099511627776 then n else 0
section
variable {N : Nat} {W W' : World} {mb xb : Nat} {F : Nat → Prop} {a b : Nat}
/-! ### Set -/
theorem px_set (h : PX N W mb xb F a b) (hN : N ≤ W.heap.size) (ha : a < 1000) (p n : Nat) (id : Int) (hb : b + cst n ≤ 90000) :
    ∃ v : Int, Calls Try.prog 14 #[.pointer (some ⟨mb, 0, none⟩), .int .u64 (p : Nat), .int .u64 (n : Nat), .int .i64 id] W fun e W1 => e = .returned (.int .i64 v) ∧ Kept F W W1 ∧
      Calls Try.prog 21 #[.pointer (some ⟨xb, 0, none⟩), .int .u64 (p : Nat), .int .u64 (n : Nat), .int .i64 id] W1 fun e W2 => e = .returned (.int .i64 v) ∧ ∃ F', PX N W2 mb xb F' a (b + cst n) ∧ To W W2 F F' := by
  obtain ⟨Ψ, v0, v1, v2, C, V, cs, ps, is, pr, f, l1, l2⟩ := h
  refine ⟨setE C p n id, (am_set (ar_am pr.ar) p n id).mono ?_⟩
  rintro e W1 ⟨rfl, am, lf⟩
  obtain ⟨k1, Ψ1, ar1, hΨ1⟩ := arTo_of am lf
  have kF : Kept F W W1 := k1.mono (fun z hz => (f z).2 (.inl hz))
  have mo1 : Mo N W1 xb v0 v1 v2 cs ps is := pr.mo.kept k1 (fun z hz u => pr.dj z u hz)
  have dj1 : ∀ z, Ψ1 z → ¬ ownM xb v0 v1 v2 z := fun z hz u => by
    rcases hΨ1 z hz with v | v
    · exact pr.dj z v u
    · have := (pr.mo.own u).2; omega
  have ge1 : ∀ z, Ψ1 z → N ≤ z := fun z hz => by
    rcases hΨ1 z hz with v | v
    · exact pr.ge z v
    · omega
  have nw : ∀ z, fpP Ψ1 xb v0 v1 v2 z → F z ∨ W.heap.size ≤ z := fun z hz => by
    rcases hz with u | u
    · rcases hΨ1 z u with v | v
      · exact .inl ((f z).2 (.inl v))
      · exact .inr v
    · exact .inl ((f z).2 (.inr u))
  refine ⟨rfl, kF, ?_⟩
  by_cases h1 : n = 0 ∨ id < 0
  · have e1 : setE C p n id = 1 := by unfold setE; rw [if_pos h1]
    have e2 : setV C V p n id = V := by unfold setV; rw [if_pos h1]
    rw [e1]
    rw [e2] at ar1
    refine (mo_set_arg p n id h1).mono ?_
    rintro e W2 ⟨rfl, hw⟩
    rw [hw]
    exact ⟨rfl, fpP Ψ1 xb v0 v1 v2, ⟨Ψ1, v0, v1, v2, C, V, cs, ps, is, ⟨ar1, mo1, dj1, ge1, pr.rel⟩, fun _ => Iff.rfl, by omega, by omega⟩, kF, nw⟩
  · have hn : 0 < n := by omega
    have hid : 0 ≤ id := by omega
    have ai := allIn_iff (C := C) pr.rel.c (p := p) hn
    by_cases h2 : p < 34359738368 ∧ p + n ≤ 34359738368
    · have cn : cst n = n := by unfold cst; rw [if_pos (by omega)]
      rw [cn] at hb ⊢
      refine (mo_set_in mo1 (Nat.le_trans hN k1.size) (by omega) p n id hn hid h2.1 h2.2 pr.rel.l (fun _ => by omega)).mono ?_
      rintro e W2 (⟨hc, rfl, u1, u2, ms⟩ | ⟨hc, rfl, hw⟩)
      · have al := ai.2 ⟨h2, hc⟩
        rw [setE_ok (by omega) hid al]
        rw [setV_ok (by omega) hid al] at ar1
        refine ⟨rfl, fpP Ψ1 xb v0 u1 u2, ⟨Ψ1, v0, u1, u2, C, _, cs, _, _, ⟨ar1.kept ms.kp (fun b hb => dj1 b hb), ms.mo, fun z hz u => ?_, ge1, ⟨pr.rel.c, pr.rel.nd, fun q => ?_, by simp [pr.rel.l], fun q hq => ?_⟩⟩, fun _ => Iff.rfl, l1, by simp; omega⟩, ?_, fun z hz => ?_⟩
        · rcases ms.ow z u with v | v
          · exact dj1 z hz v
          · have := ar1.lt z hz; omega
        · rw [lastAt_range ps is p id q pr.rel.l n]
          unfold putI
          rw [pr.rel.v q]
        · rcases List.mem_append.1 hq with u | u
          · exact pr.rel.pg q u
          · have := List.mem_range'_1.1 u; omega
        · exact kF.trans (ms.kp.mono (G := F) fun z hz => (f z).2 (.inr hz)) (fun _ _ u => u)
        · rcases hz with u | u
          · exact nw z (.inl u)
          · rcases ms.ow z u with v | v
            · exact nw z (.inr v)
            · exact .inr (Nat.le_trans k1.size v)
      · have al : ¬ AllIn C p n := fun z => hc (ai.1 z).2
        rw [setE_no (by omega) hid al]
        rw [setV_no al] at ar1
        rw [hw]
        exact ⟨rfl, fpP Ψ1 xb v0 v1 v2, ⟨Ψ1, v0, v1, v2, C, V, cs, ps, is, ⟨ar1, mo1, dj1, ge1, pr.rel⟩, fun _ => Iff.rfl, by omega, by omega⟩, kF, nw⟩
    · have al : ¬ AllIn C p n := fun z => h2 (ai.1 z).1
      rw [setE_no (by omega) hid al]
      rw [setV_no al] at ar1
      refine (mo_set_out p n id hn hid h2).mono ?_
      rintro e W2 ⟨rfl, hw⟩
      rw [hw]
      exact ⟨rfl, fpP Ψ1 xb v0 v1 v2, ⟨Ψ1, v0, v1, v2, C, V, cs, ps, is, ⟨ar1, mo1, dj1, ge1, pr.rel⟩, fun _ => Iff.rfl, by omega, by omega⟩, kF, nw⟩
/-! ### At, Has -/
theorem px_at (h : PX N W mb xb F a b) (hb : b ≤ 90000) (x y : Nat) (hx : x < 18446744073709551616) (hy : y < 18446744073709551616) (hxy : x / 8192 = y / 8192) :
    ∃ v : Int, Calls Try.prog 11 #[.pointer (some ⟨mb, 0, none⟩), .int .u64 (x : Nat)] W fun e W1 => e = .returned (.int .i64 v) ∧ Below W.heap.size W W1 ∧
      Calls Try.prog 12 #[.pointer (some ⟨xb, 0, none⟩), .int .u64 (y : Nat)] W1 fun e W2 => e = .returned (.int .i64 v) ∧ W2 = W1 := by
  obtain ⟨Ψ, v0, v1, v2, C, V, cs, ps, is, p, f, l1, l2⟩ := h
  refine ⟨V (x / 8192), (At_any p.ar x hx).mono ?_⟩
  rintro e W1 ⟨rfl, k1⟩
  refine ⟨rfl, k1, ?_⟩
  rw [p.rel.v, hxy]
  exact mo_at (p.mo.below k1) (by omega) p.rel.l y hy
theorem px_has (h : PX N W mb xb F a b) (ha : a ≤ 1000) (x : Nat) (hx : x < 18446744073709551616) :
    ∃ v : Bool, Calls Try.prog 16 #[.pointer (some ⟨mb, 0, none⟩), .int .u64 (x : Nat)] W fun e W1 => e = .returned (.bool v) ∧ Below W.heap.size W W1 ∧
      Calls Try.prog 22 #[.pointer (some ⟨xb, 0, none⟩), .int .u64 ((x / 4194304 : Nat) : Int)] W1 fun e W2 => e = .returned (.bool v) ∧ W2 = W1 := by
  obtain ⟨Ψ, v0, v1, v2, C, V, cs, ps, is, p, f, l1, l2⟩ := h
  refine ⟨C (x / 4194304), (Has_any p.ar x hx).mono ?_⟩
  rintro e W1 ⟨rfl, k1⟩
  refine ⟨rfl, k1, ?_⟩
  rw [p.rel.c]
  exact mo_has (p.mo.below k1) (by omega) _
theorem px_atv (h : PX N W mb xb F a b) (hb : b ≤ 90000) (x y : Nat) (hx : x < 18446744073709551616) (hy : y < 18446744073709551616) (hxy : x / 8192 = y / 8192) :
    ∃ v : Int, ∀ Y : World, Below W.heap.size W Y → Calls Try.prog 11 #[.pointer (some ⟨mb, 0, none⟩), .int .u64 (x : Nat)] Y (fun e W1 => e = .returned (.int .i64 v) ∧ Below Y.heap.size Y W1) ∧
      Calls Try.prog 12 #[.pointer (some ⟨xb, 0, none⟩), .int .u64 (y : Nat)] Y fun e W2 => e = .returned (.int .i64 v) ∧ W2 = Y := by
  obtain ⟨Ψ, v0, v1, v2, C, V, cs, ps, is, p, f, l1, l2⟩ := h
  refine ⟨V (x / 8192), fun Y k => ⟨At_any (p.ar.below k) x hx, ?_⟩⟩
  rw [p.rel.v, hxy]
  exact mo_at (p.mo.below k) (by omega) p.rel.l y hy
theorem px_hasv (h : PX N W mb xb F a b) (ha : a ≤ 1000) (x : Nat) (hx : x < 18446744073709551616) :
    ∃ v : Bool, ∀ Y : World, Below W.heap.size W Y → Calls Try.prog 16 #[.pointer (some ⟨mb, 0, none⟩), .int .u64 (x : Nat)] Y (fun e W1 => e = .returned (.bool v) ∧ Below Y.heap.size Y W1) ∧
      Calls Try.prog 22 #[.pointer (some ⟨xb, 0, none⟩), .int .u64 ((x / 4194304 : Nat) : Int)] Y fun e W2 => e = .returned (.bool v) ∧ W2 = Y := by
  obtain ⟨Ψ, v0, v1, v2, C, V, cs, ps, is, p, f, l1, l2⟩ := h
  refine ⟨C (x / 4194304), fun Y k => ⟨Has_any (p.ar.below k) x hx, ?_⟩⟩
  rw [p.rel.c]
  exact mo_has (p.mo.below k) (by omega) _
end
end Go.Proofs.Ytdcjldpbgickmaa
