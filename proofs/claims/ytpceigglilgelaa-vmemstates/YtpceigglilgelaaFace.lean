/- What chapter 3's laws ask of the package's calls, and what follows for one space alone. -/
import Derived.Test.YtpceigglilgelaaRows
import Derived.WalkKit
import Derived.ProofKit
import Derived.OpenShut
import Derived.WalkLawsBesides
import Derived.Deep.Draws
import Derived.Deep.QuietTactic
import Derived.BigQuiet
import Derived.Outline
import Derived.Test.YtpceigglilgelaaSp
namespace Go.Proofs.Ytpceigglilgelaa
open Go.ChangeShapes Go.WideShapes Go.ChangeAt Go.RowKit Go.Proofs.Sp

/-- Nothing old has turned but blocks of F. -/
structure Kept (F : Nat → Prop) (w w' : World) : Prop where
  os : w'.os = w.os
  tape : w'.tape = w.tape
  output : w'.output = w.output
  size : w.heap.size ≤ w'.heap.size
  block : ∀ b, b < w.heap.size → ¬ F b → w'.heap[b]? = w.heap[b]?
theorem Kept.below {F : Nat → Prop} {w w' : World} (h : Kept F w w') {B : Nat} (hB : B ≤ w.heap.size) (hF : ∀ b, F b → B ≤ b) : Below B w w' :=
  ⟨h.os, h.tape, h.output, h.size, fun k hk => h.block k (by omega) fun hf => by have := hF k hf; omega⟩

/-- A slice whose elements take a cell each reads as xs. -/
def Sl (w : World) (v : Value) (xs : List Value) : Prop :=
  (v = .slice none 0 0 ∧ xs = []) ∨ ∃ b off cap, v = .slice (some ⟨b, off, none⟩) xs.length cap ∧ xs.length ≤ cap ∧ b < w.heap.size ∧ ∀ j u, xs[j]? = some u → w.cell? ⟨b, off + j, none⟩ = some u
def u64s (l : List Nat) : List Value := l.map fun n : Nat => Value.int .u64 (n : Int)
def bools (l : List Bool) : List Value := l.map .bool

def cost (e n : Nat) : Nat := if e = 0 then n + 1 else 1
abbrev Inv := World → Addr → Sp → (Nat → Prop) → Nat → Prop
/-- The space is S' now; nothing old has turned but what was its own. -/
def Step (I : Inv) (F : Nat → Prop) (w w' : World) (m : Addr) (S' : Sp) (K' : Nat) : Prop :=
  ∃ F', I w' m S' F' K' ∧ Kept F w w' ∧ ∀ b, F' b → F b ∨ w.heap.size ≤ b
def lim : Nat := 1099511627776
def two64 (a : Int) : Prop := 0 ≤ a ∧ a < 18446744073709551616

/-- Which of the program's functions a package's calls are. -/
structure Nums where
  new : Nat
  reserve : Nat
  commit : Nat
  load : Nat
  release : Nat
  count : Nat
  store : Nat
  zero : Nat
  state : Nat
abbrev vm : Nums := ⟨9, 10, 11, 12, 13, 14, 21, 22, 23⟩
abbrev rf : Nums := ⟨18, 41, 42, 44, 43, 47, 45, 46, 48⟩
structure Face (N : Nums) (I : Inv) : Prop where
  wf : ∀ {w m S F K}, I w m S F K → WF S
  lt : ∀ {w m S F K}, I w m S F K → ∀ b, F b → b < w.heap.size
  kept : ∀ {w w' m S F K}, I w m S F K → w.heap.size ≤ w'.heap.size → (∀ b, F b → w'.heap[b]? = w.heap[b]?) → I w' m S F K
  new : ∀ (w : World) (v0 v1 v2 : Value) (pl : List Nat) (re : List Bool) (fi : List Nat), Sl w v0 (u64s pl) → Sl w v1 (bools re) → Sl w v2 (u64s fi) → (∀ x ∈ pl, x < 18446744073709551616) → (∀ x ∈ fi, x < 18446744073709551616) →
    pl.length ≤ 1048576 → re.length ≤ 1048576 → fi.length ≤ 1048576 →
    Calls Try.prog N.new #[.agg #[v0, v1, v2]] w fun e w' => ∃ m F, e = .returned (.pointer (some m)) ∧ I w' m (Sp.new pl re fi) F 0 ∧ Kept (fun _ => False) w w' ∧ ∀ b, F b → w.heap.size ≤ b
  reserve : ∀ {w m S F K} (a b : Int), two64 a → two64 b → I w m S F K → K ≤ lim →
    Calls Try.prog N.reserve #[.pointer (some m), .int .u64 a, .int .u64 b] w fun e w' => e = .returned (.tuple #[.int .u64 ((reserveS S a.toNat b.toNat).1 : Nat), .int .i64 ((reserveS S a.toNat b.toNat).2.1 : Nat)]) ∧
      Step I F w w' m (reserveS S a.toNat b.toNat).2.2 (K + cost (reserveS S a.toNat b.toNat).2.1 b.toNat)
  commit : ∀ {w m S F K} (a b : Int), two64 a → two64 b → I w m S F K → K ≤ lim →
    Calls Try.prog N.commit #[.pointer (some m), .int .u64 a, .int .u64 b] w fun e w' => e = .returned (.int .i64 ((commitS S a.toNat b.toNat).1 : Nat)) ∧
      Step I F w w' m (commitS S a.toNat b.toNat).2 (K + cost (commitS S a.toNat b.toNat).1 b.toNat)
  load : ∀ {w m S F K} (a : Int), two64 a → I w m S F K → K ≤ lim →
    Calls Try.prog N.load #[.pointer (some m), .int .u64 a] w fun e w' => e = .returned (.tuple #[.int .u64 ((loadS S a.toNat).1 : Nat), .int .i64 ((loadS S a.toNat).2 : Nat)]) ∧ Step I F w w' m S K
  release : ∀ {w m S F K} (a b : Int), two64 a → two64 b → I w m S F K → K ≤ lim →
    Calls Try.prog N.release #[.pointer (some m), .int .u64 a, .int .u64 b] w fun e w' => e = .returned (.int .i64 ((releaseS S a.toNat b.toNat).1 : Nat)) ∧
      Step I F w w' m (releaseS S a.toNat b.toNat).2 (K + cost (releaseS S a.toNat b.toNat).1 b.toNat)
  count : ∀ {w m S F K} (k : Int), -9223372036854775808 ≤ k → k ≤ 9223372036854775807 → I w m S F K → K ≤ lim →
    Calls Try.prog N.count #[.pointer (some m), .int .i64 k] w fun e w' => e = .returned (.int .u64 (countS S k : Nat)) ∧ Step I F w w' m S K
  store : ∀ {w m S F K} (a b : Int), two64 a → two64 b → I w m S F K → K ≤ lim →
    Calls Try.prog N.store #[.pointer (some m), .int .u64 a, .int .u64 b] w fun e w' => e = .returned (.int .i64 ((storeS S a.toNat b.toNat).1 : Nat)) ∧
      Step I F w w' m (storeS S a.toNat b.toNat).2 (K + 1)
  zero : ∀ {w m S F K} (a b : Int), N.zero ≠ 0 → two64 a → two64 b → I w m S F K → K ≤ lim →
    Calls Try.prog N.zero #[.pointer (some m), .int .u64 a, .int .u64 b] w fun e w' => e = .returned (.int .i64 ((zeroS S a.toNat b.toNat).1 : Nat)) ∧
      Step I F w w' m (zeroS S a.toNat b.toNat).2 (K + cost (zeroS S a.toNat b.toNat).1 b.toNat)
  state : ∀ {w m S F K} (a : Int), two64 a → I w m S F K → K ≤ lim →
    Calls Try.prog N.state #[.pointer (some m), .int .u64 a] w fun e w' => e = .returned (.int .i64 (S.st a.toNat : Nat)) ∧ Step I F w w' m S K

/-! ### One space alone -/
def J (I : Inv) (w0 : World) (m : Addr) (w : World) (S : Sp) (K : Nat) : Prop :=
  ∃ F, I w m S F K ∧ (∀ b, F b → w0.heap.size ≤ b) ∧ Below w0.heap.size w0 w
theorem J.below {I : Inv} {w0 w : World} {m : Addr} {S : Sp} {K : Nat} (h : J I w0 m w S K) : Below w0.heap.size w0 w := by obtain ⟨_, _, _, h⟩ := h; exact h
theorem J.step {I : Inv} {w0 w w' : World} {m : Addr} {S' : Sp} {F : Nat → Prop} {K' : Nat} (h2 : ∀ b, F b → w0.heap.size ≤ b) (h3 : Below w0.heap.size w0 w) (h : Step I F w w' m S' K') : J I w0 m w' S' K' := by
  obtain ⟨F', a, b, c⟩ := h
  have := h3.size
  refine ⟨F', a, fun x hx => ?_, h3.trans (b.below this h2)⟩
  rcases c x hx with hx | hx
  · exact h2 x hx
  · omega
variable {N : Nums} {I : Inv} {w0 w : World} {m : Addr} {S S' : Sp} {K : Nat}
theorem Face.jnew (Fc : Face N I) (w : World) (v0 v1 v2 : Value) (pl : List Nat) (re : List Bool) (fi : List Nat) (h0 : Sl w v0 (u64s pl)) (h1 : Sl w v1 (bools re)) (h2 : Sl w v2 (u64s fi)) (b0 : ∀ x ∈ pl, x < 18446744073709551616) (b2 : ∀ x ∈ fi, x < 18446744073709551616)
    (l0 : pl.length ≤ 1048576) (l1 : re.length ≤ 1048576) (l2 : fi.length ≤ 1048576) (hw : Below w0.heap.size w0 w) :
    Calls Try.prog N.new #[.agg #[v0, v1, v2]] w fun e w' => ∃ m, e = .returned (.pointer (some m)) ∧ J I w0 m w' (Sp.new pl re fi) 0 :=
  (Fc.new w v0 v1 v2 pl re fi h0 h1 h2 b0 b2 l0 l1 l2).mono fun e w' ⟨m, F, he, hi, hk, hF⟩ => ⟨m, he, F, hi, fun b hb => by have := hF b hb; have := hw.size; omega, hw.trans (hk.below hw.size fun _ f => f.elim)⟩
theorem Face.jreserve (Fc : Face N I) {a b : Int} {q er : Nat} (h : reserveS S a.toNat b.toNat = (q, er, S')) (hj : J I w0 m w S K) (ha : two64 a) (hb : two64 b) (hK : K ≤ lim) :
    Calls Try.prog N.reserve #[.pointer (some m), .int .u64 a, .int .u64 b] w fun e w' => e = .returned (.tuple #[.int .u64 (q : Int), .int .i64 (er : Int)]) ∧ J I w0 m w' S' (K + cost er b.toNat) := by
  obtain ⟨F, h1, h2, h3⟩ := hj
  have := Fc.reserve a b ha hb h1 hK
  rw [h] at this
  exact this.mono fun e w' ⟨he, hs⟩ => ⟨he, J.step h2 h3 hs⟩
theorem Face.jcommit (Fc : Face N I) {a b : Int} {er : Nat} (h : commitS S a.toNat b.toNat = (er, S')) (hj : J I w0 m w S K) (ha : two64 a) (hb : two64 b) (hK : K ≤ lim) :
    Calls Try.prog N.commit #[.pointer (some m), .int .u64 a, .int .u64 b] w fun e w' => e = .returned (.int .i64 (er : Int)) ∧ J I w0 m w' S' (K + cost er b.toNat) := by
  obtain ⟨F, h1, h2, h3⟩ := hj
  have := Fc.commit a b ha hb h1 hK
  rw [h] at this
  exact this.mono fun e w' ⟨he, hs⟩ => ⟨he, J.step h2 h3 hs⟩
theorem Face.jrelease (Fc : Face N I) {a b : Int} {er : Nat} (h : releaseS S a.toNat b.toNat = (er, S')) (hj : J I w0 m w S K) (ha : two64 a) (hb : two64 b) (hK : K ≤ lim) :
    Calls Try.prog N.release #[.pointer (some m), .int .u64 a, .int .u64 b] w fun e w' => e = .returned (.int .i64 (er : Int)) ∧ J I w0 m w' S' (K + cost er b.toNat) := by
  obtain ⟨F, h1, h2, h3⟩ := hj
  have := Fc.release a b ha hb h1 hK
  rw [h] at this
  exact this.mono fun e w' ⟨he, hs⟩ => ⟨he, J.step h2 h3 hs⟩
theorem Face.jstore (Fc : Face N I) {a b : Int} {er : Nat} (h : storeS S a.toNat b.toNat = (er, S')) (hj : J I w0 m w S K) (ha : two64 a) (hb : two64 b) (hK : K ≤ lim) :
    Calls Try.prog N.store #[.pointer (some m), .int .u64 a, .int .u64 b] w fun e w' => e = .returned (.int .i64 (er : Int)) ∧ J I w0 m w' S' (K + 1) := by
  obtain ⟨F, h1, h2, h3⟩ := hj
  have := Fc.store a b ha hb h1 hK
  rw [h] at this
  exact this.mono fun e w' ⟨he, hs⟩ => ⟨he, J.step h2 h3 hs⟩
theorem Face.jzero (Fc : Face N I) {a b : Int} {er : Nat} (hz : N.zero ≠ 0) (h : zeroS S a.toNat b.toNat = (er, S')) (hj : J I w0 m w S K) (ha : two64 a) (hb : two64 b) (hK : K ≤ lim) :
    Calls Try.prog N.zero #[.pointer (some m), .int .u64 a, .int .u64 b] w fun e w' => e = .returned (.int .i64 (er : Int)) ∧ J I w0 m w' S' (K + cost er b.toNat) := by
  obtain ⟨F, h1, h2, h3⟩ := hj
  have := Fc.zero a b hz ha hb h1 hK
  rw [h] at this
  exact this.mono fun e w' ⟨he, hs⟩ => ⟨he, J.step h2 h3 hs⟩
theorem Face.jload (Fc : Face N I) {a : Int} {x er : Nat} (h : loadS S a.toNat = (x, er)) (hj : J I w0 m w S K) (ha : two64 a) (hK : K ≤ lim) :
    Calls Try.prog N.load #[.pointer (some m), .int .u64 a] w fun e w' => e = .returned (.tuple #[.int .u64 (x : Int), .int .i64 (er : Int)]) ∧ J I w0 m w' S K := by
  obtain ⟨F, h1, h2, h3⟩ := hj
  have := Fc.load a ha h1 hK
  rw [h] at this
  exact this.mono fun e w' ⟨he, hs⟩ => ⟨he, J.step h2 h3 hs⟩
theorem Face.jstate (Fc : Face N I) {a : Int} {x : Nat} (h : S.st a.toNat = x) (hj : J I w0 m w S K) (ha : two64 a) (hK : K ≤ lim) :
    Calls Try.prog N.state #[.pointer (some m), .int .u64 a] w fun e w' => e = .returned (.int .i64 (x : Int)) ∧ J I w0 m w' S K := by
  obtain ⟨F, h1, h2, h3⟩ := hj
  have := Fc.state a ha h1 hK
  rw [h] at this
  exact this.mono fun e w' ⟨he, hs⟩ => ⟨he, J.step h2 h3 hs⟩
theorem Face.jcount (Fc : Face N I) {k : Int} {x : Nat} (h : countS S k = x) (hj : J I w0 m w S K) (h1 : -9223372036854775808 ≤ k) (h2 : k ≤ 9223372036854775807) (hK : K ≤ lim) :
    Calls Try.prog N.count #[.pointer (some m), .int .i64 k] w fun e w' => e = .returned (.int .u64 (x : Int)) ∧ J I w0 m w' S K := by
  obtain ⟨F, hi, h3, h4⟩ := hj
  have := Fc.count k h1 h2 hi hK
  rw [h] at this
  exact this.mono fun e w' ⟨he, hs⟩ => ⟨he, J.step h3 h4 hs⟩
end Go.Proofs.Ytpceigglilgelaa
