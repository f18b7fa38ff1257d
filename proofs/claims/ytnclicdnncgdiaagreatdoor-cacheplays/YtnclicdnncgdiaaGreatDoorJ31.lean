/- J31 of the proof of both laws: texts Zs, Kb, Kc, one behind the other. -/
import Derived.Test.YtnclicdnncgdiaaGreatDoorJ30
/- Both trees beside one another: page, act: contracts. -/
namespace Go.Proofs.YtnclicdnncgdiaaGreatDoor
open Go.ChangeShapes Go.WideShapes Go.ChangeAt Go.RowKit Go.Proofs.Bt Go.Shelf Go.Proofs.Rx Go.Maps Go.Proofs.Pk
set_option linter.unusedVariables false
set_option linter.unusedSimpArgs false

section
variable {N : Nat} {O : Nat → Prop} {w W W' W1 : World} {tb rb : Nat} {st : Nat → Nat} {Q : List (Nat × Nat)} {F : Nat → Prop} {o : Option Addr} {k : Nat}
theorem Both.land (h : Both N O w W tb rb st Q F o k) (t1 : T9 N (fun x => F x ∨ O x) w W1 tb st) (l1 : Left9 N (fun x => F x ∨ O x) W W1) : Both N O w W1 tb rb st Q F o k ∧ Left9 N O W W1 :=
  ⟨⟨t1, h.r.kept l1 (fun x hx z => z.2 (.inl hx)), h.ap⟩, Kept.mono l1 (fun x hx => ⟨hx.1, fun z => hx.2 (.inr z)⟩)⟩
theorem left_read (h : Left9 N O W W1) (b : Below W1.heap.size W1 W') : Left9 N O W W' := Kept.trans h (Kept.of_below (F := fun x => N ≤ x ∧ ¬ O x) b) (fun _ _ z => z)
theorem below_drew' (W : World) (j : Nat) : Below W.heap.size W (W.drewN j) := ⟨rfl, rfl, rfl, Nat.le_refl _, fun _ _ => rfl⟩
end
theorem lastP_congr {f g : Nat → Bool} {n i k : Int} (hc : ∀ j, j < 512 → f j = g j) (h : LastP f n 512 i k) : LastP g n 512 i k := by
  rcases h with ⟨e1, e2, h1⟩ | ⟨h1, a, m, e1, e2, h2, h3, h4, h5, h6, h7⟩
  · refine .inl ⟨e1, e2, h1.imp id fun z c hc' => ?_⟩
    rw [← hc c (by simp at hc'; omega)]
    exact z c hc'
  · have h4' : a + m ≤ 512 := by simp at h4; omega
    refine .inr ⟨h1, a, m, e1, e2, h2, h3, h4, fun j hj => ?_, fun c c1 c2 => ?_, ?_⟩
    · rw [← hc _ (by omega)]; exact h5 j hj
    · rw [← hc c (by simp at c2; omega)]; exact h6 c c1 c2
    · rcases h7 with z | z | z
      · exact .inl z
      · exact .inr (.inl z)
      · exact .inr (.inr (by rw [← hc _ (by omega)]; exact z))
theorem scav_same {st c : Nat → Nat} {y i a m N a2 m2 : Nat} (g2 : ∀ k, k < 512 → c k = st (512 * i + k)) (g3 : ∀ q, (i + 1) * 512 ≤ q → st q ≠ 2) (g4 : 1 ≤ m) (g6 : a + m ≤ 512) (g7 : LastP (bsyC c) (min y 512 : Nat) 512 (a : Nat) (m : Nat)) (g8 : ∀ q, 512 * i + a ≤ q → q < 512 * i + a + m → st q = 2)
    (q2 : ∀ q, 512 * (N + 1) ≤ q → st q ≠ 2) (q3 : 1 ≤ m2) (q4 : a2 + m2 ≤ 512) (q5 : st (512 * N + a2) = 2) (q6 : LastP (busy (fun k => decide (st (512 * N + k) = 1)) (fun k => decide (st (512 * N + k) = 3))) (min y 512 : Nat) 512 (a2 : Nat) (m2 : Nat)) : i = N ∧ a = a2 ∧ m = m2 := by
  have e : i = N := by
    rcases Nat.lt_trichotomy i N with z | z | z
    · exact absurd q5 (g3 _ (by omega))
    · exact z
    · exact absurd (g8 (512 * i + a) (by omega) (by omega)) (q2 _ (by omega))
  subst e
  have q6' : LastP (bsyC c) (min y 512 : Nat) 512 (a2 : Nat) (m2 : Nat) := lastP_congr (fun j hj => by unfold bsyC busy; dsimp only; rw [g2 j hj]) q6
  obtain ⟨e1, e2⟩ := g7.one q6'
  exact ⟨rfl, by omega, by omega⟩
end Go.Proofs.YtnclicdnncgdiaaGreatDoor

/- Two trees and two pairs of caches beside one another: what a call of each leaves. -/
namespace Go.Proofs.YtnclicdnncgdiaaGreatDoor
open Go.ChangeShapes Go.WideShapes Go.ChangeAt Go.RowKit Go.Proofs.Bt Go.Shelf Go.Proofs.Rx Go.Maps Go.Proofs.Pk
set_option linter.unusedVariables false
set_option linter.unusedSimpArgs false

section
variable {st : Nat → Nat} {Q : List (Nat × Nat)}
theorem pair_talloc (hl : Q.length ≤ 1000000) (n : Nat) (hn : n < 18446744073709551616) :
    ∃ (x y z : Int) (st' : Nat → Nat), (∀ {N : Nat} {O : Nat → Prop} {w W : World} {tb : Nat}, T9 N O w W tb st → Calls Tryz.prog 24 #[.pointer (some ⟨tb, 0, none⟩), .int .u64 (n : Nat)] W (LandP N O w tb st' W (.tuple #[.int .u64 x, .int .u64 y, .int .i64 z]))) ∧
      (∀ {F : Nat → Prop} {W : World} {rb : Nat} {o : Option Addr} {k : Nat}, RefAt F W rb st Q o k → Calls Tryz.prog 25 #[.pointer (some ⟨rb, 0, none⟩), .int .u64 (n : Nat)] W (RfL F W rb st' Q o k (.tuple #[.int .u64 x, .int .u64 y, .int .i64 z]))) ∧ ∀ q, st q = 1 → st' q = 1 := by
  by_cases h0 : n = 0
  · subst h0
    refine ⟨_, _, _, _, fun h => ?_, fun h => r9_alloc_zero h, fun q hq => hq⟩
    refine (alloc_any h.tr 0 hn).mono ?_
    rintro e W' (⟨_, he, hc⟩ | ⟨h1, _⟩ | ⟨h1, _⟩)
    · exact ⟨he, h.chg hc⟩
    · omega
    · omega
  by_cases hr : ∃ p, Run st p n
  · obtain ⟨p, hp⟩ := hr
    obtain ⟨q, hq⟩ := first_ex p hp
    refine ⟨_, _, _, _, fun h => t9_alloc h n q hn (by omega) hq, fun h => r9_alloc h hl n q hn (by omega) hq, fun u hu => ?_⟩
    unfold setSt
    split
    · rfl
    · exact hu
  · have hf : ∀ p, ¬ Run st p n := fun p hp => hr ⟨p, hp⟩
    exact ⟨_, _, _, _, fun h => t9_alloc_no h n hn (by omega) hf, fun h => r9_alloc_no h hl n hn (by omega) hf, fun q hq => hq⟩
theorem pair_tgive (hl : Q.length ≤ 1000000) (p : Nat) (hp : p < 18446744073709551616) :
    ∃ (x : Int) (st' : Nat → Nat), (∀ {N : Nat} {O : Nat → Prop} {w W : World} {tb : Nat}, T9 N O w W tb st → Calls Tryz.prog 27 #[.pointer (some ⟨tb, 0, none⟩), .int .u64 (p : Nat), .int .u64 1] W (LandP N O w tb st' W (.int .i64 x))) ∧
      (∀ {F : Nat → Prop} {W : World} {rb : Nat} {o : Option Addr} {k : Nat}, RefAt F W rb st Q o k → Calls Tryz.prog 28 #[.pointer (some ⟨rb, 0, none⟩), .int .u64 (p : Nat), .int .u64 1, .bool false] W (RfL F W rb st' Q o k (.int .i64 x))) ∧ ∀ q, q ≠ p → st q = 1 → st' q = 1 := by
  have e1 : ((1 : Nat) : Int) = 1 := rfl
  by_cases hi : InT st p 1
  · by_cases hf : (tl st p 1).f = 0
    · refine ⟨_, _, fun h => ?_, fun h => r9_give h hl p 1 false hi hf, fun q hq hu => ?_⟩
      · refine (giveT_any h.tr p 1 hp (by omega)).mono ?_
        rintro e W' ⟨h1, h2, h3⟩
        obtain ⟨e1, e2⟩ := h3 (cntT_inT.2 hi) (by omega)
        exact ⟨e1, h.chg e2⟩
      · rw [setSt_out (by omega)]; exact hu
    · refine ⟨_, _, fun h => ?_, fun h => r9_give_free h hl p 1 false hi (by omega), fun q hq hu => hu⟩
      refine (giveT_any h.tr p 1 hp (by omega)).mono ?_
      rintro e W' ⟨h1, h2, h3⟩
      obtain ⟨e1, e2⟩ := h2 (cntT_inT.2 hi) (by omega)
      exact ⟨e1, h.chg e2⟩
  · refine ⟨_, _, fun h => ?_, fun h => r9_give_bad h hl p 1 hp (by omega) false hi, fun q hq hu => hu⟩
    refine (giveT_any h.tr p 1 hp (by omega)).mono ?_
    rintro e W' ⟨h1, h2, h3⟩
    obtain ⟨e1, e2⟩ := h1 (Classical.not_not.1 fun z => hi (cntT_inT.1 z))
    exact ⟨e1, h.chg e2⟩
end
/-- Blocks of a law of two caches of each kind. -/
structure Bl where
  tb : Nat
  rb : Nat
  cb : Nat
  db : Nat
  qb : Nat
  pb : Nat
def Bl.swap (b : Bl) : Bl := ⟨b.tb, b.rb, b.db, b.cb, b.pb, b.qb⟩
/-- All of it: the trees have the same pages, the caches the same of them. -/
structure PS (N : Nat) (O : Nat → Prop) (w W : World) (b : Bl) (Q : List (Nat × Nat)) (F : Nat → Prop) (o : Option Addr) (k : Nat) (st : Nat → Nat) (x y : Cd) : Prop where
  t : T9 N (fun z => F z ∨ O z) w W b.tb st
  r : RefAt F W b.rb st Q o k
  ap : ∀ z, F z → ¬ O z
  oc : O b.cb ∧ O b.db ∧ O b.qb ∧ O b.pb
  c : CcAt W b.cb x.B x.H x.G
  d : CcAt W b.db y.B y.H y.G
  q : PcAt W b.qb x.Bq x.hs x.gn
  p : PcAt W b.pb y.Bq y.hs y.gn
  gx : Gd st x
  gy : Gd st y
  xy : Apart2 x y
  ne : b.cb ≠ b.db ∧ b.cb ≠ b.qb ∧ b.cb ≠ b.pb ∧ b.db ≠ b.qb ∧ b.db ≠ b.pb ∧ b.qb ≠ b.pb
section
variable {N : Nat} {O : Nat → Prop} {w W W' W1 W2 : World} {b : Bl} {Q : List (Nat × Nat)} {F : Nat → Prop} {o : Option Addr} {k : Nat} {st st' : Nat → Nat} {x x' y : Cd}
theorem PS.swap (h : PS N O w W b Q F o k st x y) : PS N O w W b.swap Q F o k st y x :=
  ⟨h.t, h.r, h.ap, ⟨h.oc.2.1, h.oc.1, h.oc.2.2.2, h.oc.2.2.1⟩, h.d, h.c, h.p, h.q, h.gy, h.gx, h.xy.symm, ⟨fun e => h.ne.1 e.symm, h.ne.2.2.2.2.1, h.ne.2.2.2.1, h.ne.2.2.1, h.ne.2.1, fun e => h.ne.2.2.2.2.2 e.symm⟩⟩
theorem PS.read (h : PS N O w W b Q F o k st x y) (bl : Below W.heap.size W W') : PS N O w W' b Q F o k st x y :=
  ⟨(h.t.read bl).1, h.r.below bl, h.ap, h.oc, h.c.below bl, h.d.below bl, h.q.below bl, h.p.below bl, h.gx, h.gy, h.xy, h.ne⟩
/-- A block of one's own more. -/
theorem PS.more (h : PS N O w W b Q F o k st x y) (bl : Below W.heap.size W W') : PS N (fun z => O z ∨ (W.heap.size ≤ z ∧ z < W'.heap.size)) w W' b Q F o k st x y :=
  ⟨h.t.more bl (fun z hz => by
    rcases hz with u | u | u
    · exact .inl (.inl u)
    · exact .inl (.inr u)
    · exact .inr u), h.r.below bl, fun z hz u => by
      rcases u with u | u
      · exact h.ap z hz u
      · have := (h.t.inOb (.inl hz)).2
        omega, ⟨.inl h.oc.1, .inl h.oc.2.1, .inl h.oc.2.2.1, .inl h.oc.2.2.2⟩, h.c.below bl, h.d.below bl, h.q.below bl, h.p.below bl, h.gx, h.gy, h.xy, h.ne⟩
theorem PS.weak {O' : Nat → Prop} (h : PS N O w W b Q F o k st x y) (hO : ∀ z, O' z → O z) (hc : O' b.cb ∧ O' b.db ∧ O' b.qb ∧ O' b.pb) : PS N O' w W b Q F o k st x y :=
  ⟨h.t.more (Below.refl _ _) (fun z hz => .inl (hz.imp id (hO z))), h.r, fun z hz u => h.ap z hz (hO z u), hc, h.c, h.d, h.q, h.p, h.gx, h.gy, h.xy, h.ne⟩
theorem PS.tc (h : PS N O w W b Q F o k st x y) : TC N (fun z => F z ∨ O z) w W b.tb b.cb st x.B x.H x.G := ⟨h.t, h.c, .inr h.oc.1⟩
theorem PS.qF (h : PS N O w W b Q F o k st x y) : ¬ F b.qb := fun z => h.ap _ z h.oc.2.2.1
/-- What a call of the landed side leaves of the reference's. -/
theorem PS.mid (h : PS N O w W b Q F o k st x y) (l : LeftC N (fun z => F z ∨ O z) b.cb W W1) : RefAt F W1 b.rb st Q o k ∧ PcAt W1 b.qb x.Bq x.hs x.gn := by
  refine ⟨h.r.kept l (fun z hz u => ?_), h.q.kept l (fun u => ?_)⟩
  · rcases u.2 with v | v
    · exact v (.inl hz)
    · exact h.ap z hz (by rw [v]; exact h.oc.1)
  · rcases u.2 with v | v
    · exact v (.inr h.oc.2.2.1)
    · exact h.ne.2.1 v.symm
/-- Another block of one's own stands behind a call of the landed side. -/
theorem PS.midO (h : PS N O w W b Q F o k st x y) (l : LeftC N (fun z => F z ∨ O z) b.cb W W1) {A : Nat} (hA : O A) (hne : A ≠ b.cb) : W1.heap[A]? = W.heap[A]? :=
  Kept.block l A (h.t.inOb (.inr hA)).2 (fun u => by
    rcases u.2 with v | v
    · exact v (.inr hA)
    · exact hne v)
theorem PS.step (h : PS N O w W b Q F o k st x y) (t1 : TC N (fun z => F z ∨ O z) w W1 b.tb b.cb st' x'.B x'.H x'.G) (l1 : LeftC N (fun z => F z ∨ O z) b.cb W W1)
    (r2 : RefAt F W2 b.rb st' Q o k) (q2 : PcAt W2 b.qb x'.Bq x'.hs x'.gn) (k2 : Kept (fun z => F z ∨ z = b.qb) W1 W2) (g : Fair st st' x x') : PS N O w W2 b Q F o k st' x' y := by
  obtain ⟨g1, g2⟩ := g
  obtain ⟨g3, g4⟩ := g2 y h.gy h.xy
  obtain ⟨n1, n2, n3, n4, n5, n6⟩ := h.ne
  have d1 : CcAt W1 b.db y.B y.H y.G := h.d.kept l1 (fun u => by
    rcases u.2 with v | v
    · exact v (.inr h.oc.2.1)
    · exact n1 v.symm)
  have p1 : PcAt W1 b.pb y.Bq y.hs y.gn := h.p.kept l1 (fun u => by
    rcases u.2 with v | v
    · exact v (.inr h.oc.2.2.2)
    · exact n3 v.symm)
  refine ⟨t1.t.own k2 (fun z hz => ?_), r2, h.ap, h.oc, t1.c.kept k2 (fun u => ?_), d1.kept k2 (fun u => ?_), q2, p1.kept k2 (fun u => ?_), g1, g3, g4, h.ne⟩
  · rcases hz with u | u
    · exact ⟨.inl u, (t1.t.inOb (.inl u)).1⟩
    · subst u
      exact ⟨.inr h.oc.2.2.1, (t1.t.inOb (.inr h.oc.2.2.1)).1⟩
  · rcases u with u | u
    · exact h.ap _ u h.oc.1
    · exact n2 u
  · rcases u with u | u
    · exact h.ap _ u h.oc.2.1
    · exact n4 u
  · rcases u with u | u
    · exact h.ap _ u h.oc.2.2.2
    · exact n6 u.symm
/-- A call of the trees alone. -/
theorem PS.trees (h : PS N O w W b Q F o k st x y) (t1 : T9 N (fun z => F z ∨ O z) w W1 b.tb st') (l1 : Left9 N (fun z => F z ∨ O z) W W1) (r2 : RefAt F W2 b.rb st' Q o k) (k2 : Kept F W1 W2)
    (hx : Gd st' x) (hy : Gd st' y) : PS N O w W2 b Q F o k st' x y := by
  have l1' : LeftC N (fun z => F z ∨ O z) b.cb W W1 := left_c l1
  have q1 := (h.mid l1').2
  have c1 := h.c.kept l1 (fun u => u.2 (.inr h.oc.1))
  have d1 := h.d.kept l1 (fun u => u.2 (.inr h.oc.2.1))
  have p1 := h.p.kept l1 (fun u => u.2 (.inr h.oc.2.2.2))
  exact ⟨t1.own k2 (fun z hz => ⟨.inl hz, (t1.inOb (.inl hz)).1⟩), r2, h.ap, h.oc, c1.kept k2 (fun u => h.ap _ u h.oc.1), d1.kept k2 (fun u => h.ap _ u h.oc.2.1), q1.kept k2 (fun u => h.ap _ u h.oc.2.2.1), p1.kept k2 (fun u => h.ap _ u h.oc.2.2.2), hx, hy, h.xy, h.ne⟩
end
/-- Some state of pages, some pages of the caches. -/
def PSE (N : Nat) (O : Nat → Prop) (w W : World) (b : Bl) (Q : List (Nat × Nat)) (F : Nat → Prop) (o : Option Addr) (k : Nat) : Prop := ∃ st x y, PS N O w W b Q F o k st x y
end Go.Proofs.YtnclicdnncgdiaaGreatDoor

/- Two trees and two pairs of caches beside one another: act: its contract. -/
namespace Go.Proofs.YtnclicdnncgdiaaGreatDoor
open Go.ChangeShapes Go.WideShapes Go.ChangeAt Go.RowKit Go.Proofs.Bt Go.Shelf Go.Proofs.Rx Go.Maps Go.Proofs.Pk
set_option linter.unusedVariables false
set_option linter.unusedSimpArgs false

theorem i64_and255 (n : Int) : bits .and .i64 n 255 = n % 256 := by
  have h255 : (BitVec.ofInt 64 255).toNat = 2 ^ 8 - 1 := by decide
  have key : (BitVec.ofInt 64 n &&& BitVec.ofInt 64 255).toNat = (n % ((2 ^ 64 : Nat) : Int)).toNat % 2 ^ 8 := by
    rw [BitVec.toNat_and, BitVec.toNat_ofInt, h255, Nat.and_two_pow_sub_one_eq_mod]
  show IntKind.i64.wrap ((BitVec.ofInt 64 n &&& BitVec.ofInt 64 255).toNat : Nat) = n % 256
  rw [key, IntKind.wrap_i64]
  omega
/-- What is to be done, in a block of its own. -/
def ActK (W : World) (A : Nat) (a : Int) (t : Bool) (n : Int) (p : Nat) : Prop := W.heap[A]? = some (.cells #[.int .i64 a, .bool t, .int .i64 n, .int .u64 (p : Nat)] 39 (0, 0))
section
variable {W W' : World} {A : Nat} {a : Int} {t : Bool} {n : Int} {p : Nat}
theorem ActK.same (h : ActK W A a t n p) (e : W'.heap[A]? = W.heap[A]?) : ActK W' A a t n p := e.trans h
theorem ActK.lt (h : ActK W A a t n p) : A < W.heap.size := (Array.getElem?_eq_some_iff.1 h).1
theorem ActK.c0 (h : ActK W A a t n p) : W.cell? ⟨A, 0, none⟩ = some (.int .i64 a) := by unfold ActK at h; simp [World.cell?, h]
theorem ActK.c2 (h : ActK W A a t n p) : W.cell? ⟨A, 2, none⟩ = some (.int .i64 n) := by unfold ActK at h; simp [World.cell?, h]
theorem ActK.c3 (h : ActK W A a t n p) : W.cell? ⟨A, 3, none⟩ = some (.int .u64 (p : Nat)) := by unfold ActK at h; simp [World.cell?, h]
end
section
variable {N : Nat} {O : Nat → Prop} {w W : World} {b : Bl} {Q : List (Nat × Nat)} {F : Nat → Prop} {o : Option Addr} {k : Nat}
set_option maxRecDepth 100000 in
theorem own_any {st : Nat → Nat} {x y : Cd} (h : PS N O w W b Q F o k st x y) (p : Nat) (hp : p < 18446744073709551616) :
    Calls Tryz.prog 26 #[.pointer (some ⟨b.rb, 0, none⟩), .pointer (some ⟨b.qb, 0, none⟩), .int .u64 (p : Nat)] W fun e W' => e = .returned (.bool (owns64 x.Bq x.hs p)) ∧ ∃ j, W' = W.drewN j := by
  obtain ⟨R, hR⟩ : ∃ R : Ending → World → Prop, R = fun e W' => e = .returned (.bool (owns64 x.Bq x.hs p)) ∧ ∃ j, W' = W.drewN j := ⟨_, rfl⟩
  rw [← hR]
  have HR := hide hR
  have CO := hide (pcOwns h.q h.gx.q p hp)
  obtain ⟨v, hv⟩ : ∃ v, owns64 x.Bq x.hs p = v := ⟨_, rfl⟩
  obtain ⟨P, hP⟩ : ∃ P : Int, (p : Int) = P := ⟨_, rfl⟩
  rw [hv, hP] at CO
  rw [hP]
  have HV := hide hv
  clear hR h hv hP
  go_enter Tryz.func26, Tryz.ntmps26
  go_wp2_with fail
  refine CO.out.mono ?_
  rintro e W1 ⟨rfl, j, hj⟩
  have FI := hide (show R (.returned (.bool v)) W1 from by rw [HR.out, HV.out]; exact ⟨rfl, j, hj⟩)
  clear CO HR hj HV
  go_wp2_with fail
  first | exact FI.out | (go_ret; exact FI.out)
set_option maxRecDepth 100000 in
set_option maxHeartbeats 4000000 in
theorem act10 {st : Nat → Nat} {x y : Cd} (h : PS N O w W b Q F o k st x y) (hl : Q.length ≤ 1000000) (a : Int) (t : Bool) (n : Int) (p : Nat) (hp : p < 18446744073709551616) (nlo : -9223372036854775808 ≤ n) (nhi : n ≤ 9223372036854775807)
    (h5 : a = 5 → owns64 x.Bq x.hs p = false ∧ owns64 y.Bq y.hs p = false) :
    Calls Tryz.prog 9 #[.pointer (some ⟨b.tb, 0, none⟩), .pointer (some ⟨b.rb, 0, none⟩), .pointer (some ⟨b.cb, 0, none⟩), .pointer (some ⟨b.qb, 0, none⟩), .agg #[.int .i64 a, .bool t, .int .i64 n, .int .u64 (p : Nat)]] W fun e W' => e = .returned (.bool true) ∧ PSE N O w W' b Q F o k := by
  obtain ⟨w0, hw0⟩ : ∃ w0, w0 = W.alloc (.cells #[.int .i64 a, .bool t, .int .i64 n, .int .u64 (p : Nat)] 39) := ⟨_, rfl⟩
  obtain ⟨A, hA⟩ : ∃ A, W.heap.size = A := ⟨_, rfl⟩
  have k0 : Below W.heap.size W w0 := by rw [hw0]; exact (Below.refl _ W).alloc (Nat.le_refl _) _
  have s0 : w0.heap.size = A + 1 := by rw [hw0, ← hA]; simp
  have hB : ActK w0 A a t n p := by unfold ActK; rw [hw0, ← hA, alloc_at, if_pos rfl]
  have hcb : A ≠ b.cb := by have := (h.t.inOb (.inr h.oc.1)).2; omega
  have P0 := h.more k0
  rw [hA, s0] at P0
  obtain ⟨O', hO'⟩ : ∃ O' : Nat → Prop, O' = fun z => O z ∨ (A ≤ z ∧ z < A + 1) := ⟨_, rfl⟩
  rw [← hO'] at P0
  have hOA : O' A := by rw [hO']; exact .inr ⟨by omega, by omega⟩
  obtain ⟨R, hR⟩ : ∃ R : Ending → World → Prop, R = fun e W' => e = .returned (.bool true) ∧ PSE N O w W' b Q F o k := ⟨_, rfl⟩
  rw [← hR]
  have HP := hide P0
  have HB := hide hB
  have W0 := hide hw0
  have HA := hide hA
  have FIN := hide (show ∀ (X : World) (st' : Nat → Nat) (x' y' : Cd), PS N O' w X b Q F o k st' x' y' → R (.returned (.bool true)) X from fun X st' x' y' hX => by
    rw [hR]
    exact ⟨rfl, st', x', y', hX.weak (fun z hz => by rw [hO']; exact .inl hz) h.oc⟩)
  -- what was to be done stands yet
  have B1 := hide (show ∀ w1 X : World, PS N O' w w1 b Q F o k st x y → ActK w1 A a t n p → LeftC N (fun z => F z ∨ O' z) b.cb w1 X → ActK X A a t n p from fun w1 X h1 ha l => ha.same (h1.midO l hOA hcb))
  have B2 := hide (show ∀ X Y : World, ActK X A a t n p → Kept (fun z => F z ∨ z = b.qb) X Y → ActK Y A a t n p from fun X Y ha kk => ha.same (kk.block A ha.lt (fun z => by
    rcases z with z | z
    · exact P0.ap A z hOA
    · have := (h.t.inOb (.inr h.oc.2.2.1)).2; omega)))
  have H5 := hide (show a = 5 → owns64 x.Bq x.hs p = false ∧ owns64 y.Bq y.hs p = false from h5)
  have GXY := hide (And.intro h.gx h.gy)
  have OUT := hide h.t.out
  clear hB k0 hw0 hR h s0 hO' hA P0 hcb h5
  have b0 := HB.out.c0
  have b2 := HB.out.c2
  have b3 := HB.out.c3
  by_cases a1 : a = 1
  · subst a1
    obtain ⟨v, st', x', CL, CR, FR⟩ := pair_fill hl x GXY.out.1 OUT.out
    have HCL := hide (fun X (hX : PS N O' w X b Q F o k st x y) => CL hX.tc)
    have HCR := hide (fun X (hX : RefAt F X b.rb st Q o k) (hq : PcAt X b.qb x.Bq x.hs x.gn) => CR hX hq HP.out.qF)
    have HFR := hide FR
    clear CL CR FR
    go_enter Tryz.func9, Tryz.ntmps9
    go_wp2_with fail
    rw [← W0.out, HA.out]
    clear W0
    refine (HCL.out w0 HP.out).mono ?_
    rintro e w1 ⟨rfl, t1, l1⟩
    obtain ⟨r1, q1⟩ := HP.out.mid l1
    have C2 := hide (HCR.out w1 r1 q1)
    have T1 := hide t1
    have L1 := hide l1
    clear t1 l1 r1 q1 HCL HCR b0 b2 b3
    go_wp2_with fail
    refine C2.out.mono ?_
    rintro e w2 ⟨rfl, r2, q2, k2⟩
    have FI := hide (FIN.out w2 st' x' y (HP.out.step T1.out L1.out r2 q2 k2 HFR.out))
    clear r2 q2 k2 C2 T1 L1
    go_wp2_with fail
    exact FI.out
  by_cases a2 : a = 2
  · subst a2
    clear a1
    obtain ⟨v1, v2, v3, x', CL, CR, FR⟩ := pair_give10 (Q := Q) x GXY.out.1 n
    have HCL := hide (fun X (hX : PS N O' w X b Q F o k st x y) => CL hX.tc)
    have HCR := hide (fun X (hX : RefAt F X b.rb st Q o k) (hq : PcAt X b.qb x.Bq x.hs x.gn) => CR hX hq HP.out.qF)
    have HFR := hide FR
    clear CL CR FR
    go_enter Tryz.func9, Tryz.ntmps9
    go_wp2_with fail
    rw [← W0.out, HA.out]
    clear W0
    refine (HCL.out w0 HP.out).mono ?_
    rintro e w1 ⟨rfl, t1, l1⟩
    obtain ⟨r1, q1⟩ := HP.out.mid l1
    have d2 := (B1.out w0 w1 HP.out HB.out l1).c2
    have C2 := hide (HCR.out w1 r1 q1)
    have T1 := hide t1
    have L1 := hide l1
    clear t1 l1 r1 q1 HCL HCR b0 b2 b3
    go_wp2_with fail
    refine C2.out.mono ?_
    rintro e w2 ⟨rfl, r2, q2, k2⟩
    have FI := hide (FIN.out w2 st x' y (HP.out.step T1.out L1.out r2 q2 k2 HFR.out))
    clear r2 q2 k2 C2 T1 L1 d2
    go_wp2_with fail
    exact FI.out
  by_cases a3 : a = 3
  · subst a3
    clear a1 a2
    obtain ⟨st', x', CL, CR, FR⟩ := pair_flush hl x GXY.out.1
    have HCL := hide (fun X (hX : PS N O' w X b Q F o k st x y) => CL hX.tc)
    have HCR := hide (fun X (hX : RefAt F X b.rb st Q o k) (hq : PcAt X b.qb x.Bq x.hs x.gn) => CR hX hq HP.out.qF)
    have HFR := hide FR
    clear CL CR FR
    go_enter Tryz.func9, Tryz.ntmps9
    go_wp2_with fail
    rw [← W0.out, HA.out]
    clear W0
    refine (HCL.out w0 HP.out).mono ?_
    rintro e w1 ⟨rfl, t1, l1⟩
    obtain ⟨r1, q1⟩ := HP.out.mid l1
    have C2 := hide (HCR.out w1 r1 q1)
    have T1 := hide t1
    have L1 := hide l1
    clear t1 l1 r1 q1 HCL HCR b0 b2 b3
    go_wp2_with fail
    refine C2.out.mono ?_
    rintro e w2 ⟨rfl, r2, q2, k2⟩
    have FI := hide (FIN.out w2 st' x' y (HP.out.step T1.out L1.out r2 q2 k2 HFR.out))
    clear r2 q2 k2 C2 T1 L1
    go_wp2_with fail
    exact FI.out
  have m0 := i64_and255 n
  obtain ⟨m, hm⟩ : ∃ m : Nat, n % 256 = (m : Int) := ⟨(n % 256).toNat, by omega⟩
  rw [hm] at m0
  have m1 : (m : Int) ≤ 255 := by omega
  have m2 : (0 : Int) ≤ m := by omega
  have m3 : m < 18446744073709551616 := by omega
  clear hm
  by_cases a4 : a = 4
  · subst a4
    clear a1 a2 a3
    obtain ⟨v1, v2, v3, st', CL, CR, FR⟩ := pair_talloc (st := st) hl m m3
    have HCL := hide (fun X (hX : PS N O' w X b Q F o k st x y) => CL hX.t)
    have HCR := hide (fun X (hX : RefAt F X b.rb st Q o k) => CR hX)
    have HFR := hide FR
    clear CL CR FR
    go_enter Tryz.func9, Tryz.ntmps9
    go_wp2_with fail
    rw [← W0.out, HA.out]
    clear W0
    refine (HCL.out w0 HP.out).mono ?_
    rintro e w1 ⟨rfl, t1, l1⟩
    obtain ⟨r1, q1⟩ := HP.out.mid (left_c l1)
    have d2 := (B1.out w0 w1 HP.out HB.out (left_c l1)).c2
    have C2 := hide (HCR.out w1 r1)
    have T1 := hide t1
    have L1 := hide l1
    clear t1 l1 r1 q1 HCL HCR b0 b2 b3
    go_wp2_with fail
    refine C2.out.mono ?_
    rintro e w2 ⟨rfl, r2, k2⟩
    have FI := hide (FIN.out w2 st' x y (HP.out.trees T1.out L1.out r2 k2 (GXY.out.1.of HFR.out) (GXY.out.2.of HFR.out)))
    clear r2 k2 C2 T1 L1 d2
    go_wp2_with fail
    exact FI.out
  by_cases a5 : a = 5
  · subst a5
    clear a1 a2 a3 a4 m0 m1 m2 m3
    obtain ⟨v1, st', CL, CR, FR⟩ := pair_tgive (st := st) hl p hp
    obtain ⟨u1, u2⟩ := H5.out rfl
    have HCL := hide (fun X (hX : PS N O' w X b Q F o k st x y) => CL hX.t)
    have HCR := hide (fun X (hX : RefAt F X b.rb st Q o k) => CR hX)
    have npg : ∀ z : Cd, Gd st z → owns64 z.Bq z.hs p = false → Gd st' z := fun z gz uz => ⟨gz.eq, gz.b, gz.q, fun j hj hh => FR _ (fun e => by
      unfold owns64 at uz
      rw [← e, decide_eq_true (by omega), show z.Bq + j - z.Bq = j by omega, hh] at uz
      cases uz) (gz.own j hj hh)⟩
    have NXY := hide (And.intro (npg x GXY.out.1 u1) (npg y GXY.out.2 u2))
    have PD := HP.out.read (drew_below w0)
    have CO := hide (own_any PD p hp)
    rw [u1] at CO
    have HPD := hide PD
    have BD := hide (show ActK w0.drew A 5 t n p from HB.out.same rfl)
    clear CL CR FR npg u1 u2 PD
    go_enter Tryz.func9, Tryz.ntmps9
    go_wp2_with fail
    rw [← W0.out, HA.out]
    clear W0
    go_region_held3 (fun w' => w'.cell? ⟨A, 3, none⟩ = some (.int .u64 (p : Nat))) (go_keep) (first
      | (go_at_call 26; refine CO.out.mono ?_; rintro e w1 ⟨rfl, j1, hj1⟩; have bw := below_drewN w0.drew j1; rw [← hj1] at bw; have P1 := hide (HPD.out.read bw); have Q1 := hide (show ActK w1 A 5 t n p from BD.out.same (by rw [hj1]; rfl)); have d3 := Q1.out.c3; clear hj1 bw)
      | (go_at_call 27; refine (HCL.out w1 P1.out).mono ?_; rintro e w2 ⟨rfl, t2, l2⟩; obtain ⟨r2, q2⟩ := P1.out.mid (left_c l2); have Q2 := hide (B1.out w1 w2 P1.out Q1.out (left_c l2)); have d4 := Q2.out.c3; have T2 := hide t2; have L2 := hide l2; have R2 := hide r2; clear t2 l2 r2 q2)
      | (go_at_call 28; refine (HCR.out w2 R2.out).mono ?_; rintro e w3 ⟨rfl, r3, k3⟩; have Q3 := hide (B2.out w2 w3 Q2.out (k3.mono (fun z hz => .inl hz))); have d5 := Q3.out.c3; have FI := hide (FIN.out w3 st' x y (P1.out.trees T2.out L2.out r3 k3 NXY.out.1 NXY.out.2)); clear r3 k3))
    go_wp2_with fail
    exact FI.out
  by_cases a6 : a = 6
  · subst a6
    clear a1 a2 a3 a4 a5
    have HCL := hide (fun X (hX : PS N O' w X b Q F o k st x y) => scav9_any hX.t.tr m m3)
    have HCR := hide (fun X (hX : RefAt F X b.rb st Q o k) => r9_scav hX hl m m3)
    go_enter Tryz.func9, Tryz.ntmps9
    go_wp2_with fail
    rw [← W0.out, HA.out]
    clear W0
    refine (HCL.out w0 HP.out).mono ?_
    rintro e w1 (⟨h1, rfl, hc⟩ | ⟨h1, i, a', u, c, g1, g2, g3, g4, g5, g6, g7, g8, rfl, hc⟩)
    · obtain ⟨t1, l1⟩ := HP.out.t.chg hc
      obtain ⟨r1, q1⟩ := HP.out.mid (left_c l1)
      have d2 := (B1.out w0 w1 HP.out HB.out (left_c l1)).c2
      have C2 := hide (HCR.out w1 r1)
      have T1 := hide t1
      have L1 := hide l1
      have H1 := hide h1
      clear t1 l1 q1 r1 HCL HCR b0 b2 b3 hc h1
      go_wp2_with fail
      refine C2.out.mono ?_
      rintro e w2 ⟨(⟨_, rfl, r2⟩ | ⟨q1, N2, a2, m2', q2, q3, q4, q5, q6, rfl, r2⟩), k2⟩
      · have FI := hide (FIN.out w2 st x y (HP.out.trees T1.out L1.out r2 k2 GXY.out.1 GXY.out.2))
        clear r2 k2 C2 T1 L1 d2 H1
        go_wp2_with fail
        exact FI.out
      · exfalso
        rcases H1.out with z | z
        · omega
        · exact z _ q5
    · obtain ⟨t1, l1⟩ := HP.out.t.chg hc
      obtain ⟨r1, q1⟩ := HP.out.mid (left_c l1)
      have d2 := (B1.out w0 w1 HP.out HB.out (left_c l1)).c2
      have C2 := hide (HCR.out w1 r1)
      have T1 := hide t1
      have L1 := hide l1
      have SS := hide (fun N2 a2 m2 q2 q3 q4 q5 q6 => scav_same (N := N2) (a2 := a2) (m2 := m2) g2 g3 g4 g6 g7 g8 q2 q3 q4 q5 q6)
      have NZ := hide (show ¬ (m = 0 ∨ ∀ q, st q ≠ 2) from fun z => by
        rcases z with z | z
        · omega
        · exact z _ (g8 (512 * i + a') (by omega) (by omega)))
      have KP := hide (show ∀ q, st q = 1 → setSt st (512 * i + a') (512 * i + a' + u) 3 q = 1 from fun q hq => by
        unfold setSt
        split
        · rename_i z
          rw [g8 q z.1 z.2] at hq
          cases hq
        · exact hq)
      clear t1 l1 q1 r1 HCL HCR b0 b2 b3 hc h1 g1 g2 g3 g4 g5 g6 g7 g8
      go_wp2_with fail
      refine C2.out.mono ?_
      rintro e w2 ⟨(⟨z, rfl, r2⟩ | ⟨q1, N2, a2, m2', q2, q3, q4, q5, q6, rfl, r2⟩), k2⟩
      · exact absurd z NZ.out
      · obtain ⟨rfl, rfl, rfl⟩ := SS.out N2 a2 m2' q2 q3 q4 q5 q6
        have FI := hide (FIN.out w2 _ x y (HP.out.trees T1.out L1.out r2 k2 (GXY.out.1.of KP.out) (GXY.out.2.of KP.out)))
        clear r2 k2 C2 T1 L1 d2 SS NZ q1 q2 q3 q4 q5 q6 KP
        go_wp2_with fail
        exact FI.out
  have q1 : (a == 1) = false := by simpa using a1
  have q2 : (a == 2) = false := by simpa using a2
  have q3 : (a == 3) = false := by simpa using a3
  have q4 : (a == 4) = false := by simpa using a4
  have q5 : (a == 5) = false := by simpa using a5
  have q6 : (a == 6) = false := by simpa using a6
  have FI := hide (FIN.out w0 st x y HP.out)
  clear a1 a2 a3 a4 a5 a6
  go_enter Tryz.func9, Tryz.ntmps9
  go_wp2_with fail
  rw [← W0.out]
  exact FI.out
end
end Go.Proofs.YtnclicdnncgdiaaGreatDoor
