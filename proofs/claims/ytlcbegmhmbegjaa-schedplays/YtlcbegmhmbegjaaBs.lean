/- How tasks, locks and cells lie in memory. -/
import Derived.Test.YtlcbegmhmbegjaaRows
import Derived.WalkKit
import Derived.ProofKit
import Derived.OpenShut
import Derived.WalkLawsBesides
import Derived.Deep.Draws
import Derived.Deep.QuietTactic
import Derived.Deep.AppendLies
import Derived.Deep.RegionHeld3
import Derived.Deep.RegionLaw
import Derived.Laws.AppendOwnNone
import Derived.Laws.OwnMore
import Derived.StillTailTactics
import Derived.BigQuiet
import Derived.Outline
import Derived.Maps.RangeWalk
import Derived.Test.YtlcbegmhmbegjaaSc
namespace Go.Proofs.Ytlcbegmhmbegjaa
open Go.ChangeShapes Go.WideShapes Go.ChangeAt Go.RowKit Go.Proofs.Sc Go.Maps
set_option linter.unusedVariables false
set_option linter.unusedSimpArgs false

theorem hide {p : Prop} (h : p) : Hid p := h
theorem bcell {W w1 : World} (hb : Below W.heap.size W w1) : (∀ b o, b < W.heap.size → w1.cell? ⟨b, o, none⟩ = W.cell? ⟨b, o, none⟩) ∧ (∀ b o, b < W.heap.size → w1.frozen? ⟨b, o, none⟩ = W.frozen? ⟨b, o, none⟩) :=
  ⟨fun b o h => hb.cell (p := ⟨b, o, none⟩) h, fun b o h => hb.frozen (p := ⟨b, o, none⟩) h⟩
theorem cell_lt {w : World} {b o : Nat} {v : Value} (h : w.cell? ⟨b, o, none⟩ = some v) : b < w.heap.size := World.block_lt_of_cell? w ⟨b, o, none⟩ h
theorem below_drewN {B : Nat} {w0 w : World} (h : Below B w0 w) (k : Nat) : Below B w0 (w.drewN k) := ⟨h.os, h.tape, h.output, h.size, h.block⟩
theorem drew_below (w : World) : Below w.heap.size w w.drew := (Below.refl _ _).drew
theorem still_tail {P : Program} {id : Nat} {Q : Exit → Act → World → Prop} {a : Act} {w : World} {l : List Oper} (n : Nat) (hm : P.follows .mixedOrders = true) (hB : Region.lexTailB .any l.toArray n = true)
    (h : wpStill P l.toArray w.drew (fun a' => wpList P l.toArray Q (l.drop n) a' w.drew) (l.take n) a) : (Code.region id l.toArray true).wp P Q a w := wp_region_still_tail n hm hB h
theorem still_all {P : Program} {id : Nat} {Q : Exit → Act → World → Prop} {a : Act} {w : World} {l : List Oper} (hm : P.follows .mixedOrders = true) (hB : Region.lexB .any l.toArray = true)
    (h : wpStill P l.toArray w.drew (fun a' => Q .normal a' w.drew) l a) : (Code.region id l.toArray true).wp P Q a w := wp_region_still_lit hm hB h
theorem addr_add0 (b o j : Nat) : (⟨b, o, none⟩ : Addr).add j = ⟨b, o + j, none⟩ := by simp [Addr.add]
theorem fz_of_block {w w' : World} {x k : Nat} (h : w'.heap[x]? = w.heap[x]?) : w'.frozen? ⟨x, k, none⟩ = w.frozen? ⟨x, k, none⟩ := by simp [World.frozen?, h]

/-- Nothing old has turned but blocks of F. -/
structure Kept (F : Nat → Prop) (w w' : World) : Prop where
  os : w'.os = w.os
  tape : w'.tape = w.tape
  output : w'.output = w.output
  size : w.heap.size ≤ w'.heap.size
  block : ∀ b, b < w.heap.size → ¬ F b → w'.heap[b]? = w.heap[b]?
theorem Kept.refl (F : Nat → Prop) (w : World) : Kept F w w := ⟨rfl, rfl, rfl, Nat.le_refl _, fun _ _ _ => rfl⟩
theorem Kept.below {F : Nat → Prop} {w w' : World} (h : Kept F w w') {B : Nat} (hB : B ≤ w.heap.size) (hF : ∀ b, F b → B ≤ b) : Below B w w' :=
  ⟨h.os, h.tape, h.output, h.size, fun k hk => h.block k (by omega) fun hf => by have := hF k hf; omega⟩
theorem Kept.trans {F G : Nat → Prop} {a b c : World} (h : Kept F a b) (k : Kept G b c) (hg : ∀ x, G x → F x ∨ a.heap.size ≤ x) : Kept F a c :=
  ⟨k.os.trans h.os, k.tape.trans h.tape, k.output.trans h.output, Nat.le_trans h.size k.size, fun x hx hn => by
    rw [k.block x (Nat.lt_of_lt_of_le hx h.size) (fun z => by rcases hg x z with z | z; exact hn z; omega)]
    exact h.block x hx hn⟩
theorem Kept.of_below {F : Nat → Prop} {w w' : World} (h : Below w.heap.size w w') : Kept F w w' := ⟨h.os, h.tape, h.output, h.size, fun b hb _ => h.block b hb⟩
theorem Kept.mono {F G : Nat → Prop} {a b : World} (h : Kept F a b) (hg : ∀ x, F x → G x) : Kept G a b := ⟨h.os, h.tape, h.output, h.size, fun x hx hf => h.block x hx fun hh => hf (hg x hh)⟩
theorem Kept.of_grown {F : Nat → Prop} {w w' : World} {row : Option Nat} (h : w.grownBy w' row) (hr : ∀ k, row = some k → F k) : Kept F w w' :=
  ⟨h.os, h.tape, h.output, h.size, fun b hb hf => h.block b hb (fun e => hf (hr b e.symm))⟩
theorem Kept.of_set {F : Nat → Prop} (w : World) (b k : Nat) (v : Value) (h : F b) : Kept F w (w.setCell ⟨b, k, none⟩ v) :=
  ⟨rfl, rfl, rfl, by simp, fun x _ hn => Below.heap_setCell _ _ _ _ (fun e => hn (by simp at e; exact e ▸ h))⟩

/-! ### Tasks -/
/-- A list of steps in memory. -/
def StepsAt (w : World) (v : Value) (t : List Stp) (T : Nat → Prop) : Prop :=
  ∃ o cap, v = .slice o t.length cap ∧ t.length ≤ cap ∧ cap ≤ 9223372036854775807 ∧ (o = none → cap = 0) ∧ (t ≠ [] → ∃ g off, o = some ⟨g, off, none⟩ ∧ T g ∧ g < w.heap.size ∧
    ∀ i s, t[i]? = some s → w.cell? ⟨g, off + i * 3, none⟩ = some (.int .i64 s.op) ∧ w.cell? ⟨g, off + i * 3 + 1, none⟩ = some (.int .i64 s.a) ∧ w.cell? ⟨g, off + i * 3 + 2, none⟩ = some (.int .i64 s.b))
theorem StepsAt.kept {w w' : World} {v : Value} {t : List Stp} {T : Nat → Prop} (h : StepsAt w v t T) (hs : w.heap.size ≤ w'.heap.size) (hk : ∀ x, T x → x < w.heap.size → w'.heap[x]? = w.heap[x]?) : StepsAt w' v t T := by
  obtain ⟨o, cap, h1, h2, hm, h3, h4⟩ := h
  refine ⟨o, cap, h1, h2, hm, h3, fun z => ?_⟩
  obtain ⟨g, off, e, hT, hl, hc⟩ := h4 z
  have := hk g hT hl
  exact ⟨g, off, e, hT, by omega, fun i s hi => by
    obtain ⟨a, b, c⟩ := hc i s hi
    exact ⟨(World.cell?_of_block this).trans a, (World.cell?_of_block this).trans b, (World.cell?_of_block this).trans c⟩⟩
theorem StepsAt.mono {w : World} {v : Value} {t : List Stp} {T T' : Nat → Prop} (h : StepsAt w v t T) (hT : ∀ x, T x → T' x) : StepsAt w v t T' := by
  obtain ⟨o, cap, h1, h2, hm, h3, h4⟩ := h
  refine ⟨o, cap, h1, h2, hm, h3, fun z => ?_⟩
  obtain ⟨g, off, e, h, k⟩ := h4 z
  exact ⟨g, off, e, hT g h, k⟩
/-- A list of tasks in memory. -/
def TasksAt (w : World) (v : Value) (L : List (List Stp)) : Prop :=
  ∃ o cap, v = .slice o L.length cap ∧ L.length ≤ cap ∧ cap ≤ 9223372036854775807 ∧ (o = none → cap = 0) ∧ (L ≠ [] → ∃ g off, o = some ⟨g, off, none⟩ ∧ g < w.heap.size ∧
    ∀ i t, L[i]? = some t → ∃ u, w.cell? ⟨g, off + i, none⟩ = some u ∧ StepsAt w u t (fun _ => True))
theorem TasksAt.below {w w' : World} {v : Value} {L : List (List Stp)} (h : TasksAt w v L) (hb : Below w.heap.size w w') : TasksAt w' v L := by
  obtain ⟨o, cap, h1, h2, hm, h3, h4⟩ := h
  refine ⟨o, cap, h1, h2, hm, h3, fun z => ?_⟩
  obtain ⟨g, off, e, hl, hc⟩ := h4 z
  have hs := hb.size
  refine ⟨g, off, e, by omega, fun i t hi => ?_⟩
  obtain ⟨u, hu, hk⟩ := hc i t hi
  exact ⟨u, (hb.cell (p := ⟨g, off + i, none⟩) hl).trans hu, hk.kept hb.size (fun x _ hx => hb.block x hx)⟩

/-! ### Maps of ints -/
theorem keyI : Keyed Try.prog 3 := int_keyed Try.underlying3
def numElem : Value → Option (DataW Unit × List MemPlace)
  | .int .i64 a => some (.lit (.int .i64 a), [])
  | _ => none
def dat (n : Int) : DataW Unit := .lit (.int .i64 n)
def key (p : Int) : Lit := .int .i64 p
/-- A map in block b, of at most n entries, as a function. -/
def MapOf (w : World) (b n : Nat) (M : Int → Option Int) : Prop := ∃ D, w.ownsMap Try.prog 3 numElem b n D ∧ ∀ p, i64 p → has D (key p) = (M p).isSome ∧ D.atKey (key p) (dat 0) = dat ((M p).getD 0)
theorem key_of (p : Int) (h : i64 p) : keyOf Try.prog 3 (.int .i64 p) = some (key p) := keyOf_int_mk Try.underlying3 (WalkArith.wf_i64 ⟨h.1, h.2⟩)
theorem num_of {v : Value} {n : Int} {ps : List MemPlace} (h : numElem v = some (dat n, ps)) : v = .int .i64 n := by
  unfold numElem at h
  split at h
  · simp [dat] at h; rw [h.1]
  · cases h
theorem zeroI (w : World) : (zeroValue 3).run Try.prog w = .ok (.int .i64 0) w := by kernel_rfl
theorem MapOf.look {w : World} {b n : Nat} {M : Int → Option Int} (h : MapOf w b n M) (p : Int) (hp : i64 p) :
    (Instr.lookup 45 (.map (some b)) (.int .i64 p) false).run Try.prog w = .ok (.int .i64 ((M p).getD 0)) w := by
  obtain ⟨D, hD, hM⟩ := h
  obtain ⟨v, ps, hrun, hv⟩ := hD.lookup (e := 3) keyI Try.underlying45 (zeroI w) (zd := dat 0) (zp := []) rfl (key_of p hp)
  rw [(hM p hp).2] at hv
  rw [hrun, num_of hv]
theorem MapOf.looks {w : World} {b n : Nat} {M : Int → Option Int} (h : MapOf w b n M) (p : Int) (hp : i64 p) :
    (Instr.lookup 45 (.map (some b)) (.int .i64 p) true).run Try.prog w = .ok (.tuple #[.int .i64 ((M p).getD 0), .bool (M p).isSome]) w := by
  obtain ⟨D, hD, hM⟩ := h
  obtain ⟨v, ps, hrun, hv⟩ := hD.look_ok (e := 3) keyI Try.underlying45 (zeroI w) (zd := dat 0) (zp := []) rfl (key_of p hp)
  rw [(hM p hp).2] at hv
  rw [hrun, num_of hv, (hM p hp).1]
theorem MapOf.kept {w w' : World} {b n : Nat} {M : Int → Option Int} (h : MapOf w b n M) (hb : w'.heap[b]? = w.heap[b]?) : MapOf w' b n M := by
  obtain ⟨D, ⟨es, clock, h1, h2⟩, hM⟩ := h
  exact ⟨D, ⟨es, clock, hb.trans h1, h2⟩, hM⟩
theorem MapOf.lt {w : World} {b n : Nat} {M : Int → Option Int} (h : MapOf w b n M) : b < w.heap.size := by obtain ⟨D, h, _⟩ := h; exact h.lt
theorem key_inj {p q : Int} (h : key p = key q) : p = q := by simp [key] at h; exact h
theorem key_lit (p : Int) : WideAt.IsKeyLit (key p) := trivial
theorem MapOf.mono {w : World} {b n n' : Nat} {M : Int → Option Int} (h : MapOf w b n M) (hn : n ≤ n') : MapOf w b n' M := by
  obtain ⟨D, hD, hM⟩ := h
  exact ⟨D, hD.mono hn, hM⟩
/-- m[p] = x. -/
theorem MapOf.put {w : World} {b n : Nat} {M : Int → Option Int} (h : MapOf w b n M) (hn : n < maxLen) (p : Int) (hp : i64 p) (x : Int) :
    ∃ w', (Instr.mapUpdate 45 (.map (some b)) (.int .i64 p) (.int .i64 x)).run Try.prog w = .ok () w' ∧ MapOf w' b (n + 1) (fun q => if q = p then some x else M q) ∧ w.grownBy w' (some b) := by
  obtain ⟨D, hD, hM⟩ := h
  obtain ⟨w', hrun, h1, h2⟩ := hD.update keyI Try.underlying45 hn (key_of p hp) (val := .int .i64 x) (d := dat x) (ps := []) rfl
  refine ⟨w', hrun, ⟨_, h1, fun q hq => ?_⟩, h2⟩
  by_cases c : q = p
  · subst c
    simp only [if_true]
    exact ⟨has_put_same hD.isMap (key_lit _) _, atKey_put_same hD.isMap (key_lit _) _ _⟩
  · simp only [if_neg c]
    have hne : key q ≠ key p := fun z => c (key_inj z)
    exact ⟨(has_put_other hne _).trans (hM q hq).1, (atKey_put_other hne _ _).trans (hM q hq).2⟩
/-- delete(m, p). -/
theorem MapOf.del {w : World} {b n : Nat} {M : Int → Option Int} (h : MapOf w b n M) (ty : TypeId) (p : Int) (hp : i64 p) :
    ∃ w', (Builtin.delete_ #[45, 3] ty #[.map (some b), .int .i64 p]).run Try.prog w = .ok (.tuple #[]) w' ∧ MapOf w' b n (fun q => if q = p then none else M q) ∧ w.grownBy w' (some b) := by
  obtain ⟨D, hD, hM⟩ := h
  obtain ⟨w', hrun, h1, h2⟩ := hD.drop keyI Try.underlying45 (key_of p hp) ty
  refine ⟨w', hrun, ⟨_, h1, fun q hq => ?_⟩, h2.grown⟩
  by_cases c : q = p
  · subst c
    simp only [if_true]
    exact ⟨has_del_same, atKey_del_same _⟩
  · simp only [if_neg c]
    have hne : key q ≠ key p := fun z => c (key_inj z)
    exact ⟨(has_del_other hne).trans (hM q hq).1, (atKey_del_other hne _).trans (hM q hq).2⟩
theorem MapOf.made (w : World) : MapOf (w.alloc (.map #[] 0)) w.heap.size 0 (fun _ => none) := ⟨_, World.ownsMap_made w Try.prog 3 numElem, fun _ _ => ⟨rfl, rfl⟩⟩
def ints (l : List Int) : List Value := l.map (Value.int .i64)
end Go.Proofs.Ytlcbegmhmbegjaa
