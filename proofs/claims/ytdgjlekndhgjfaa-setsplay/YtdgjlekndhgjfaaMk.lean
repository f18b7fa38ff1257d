/- Maps of ours by numbers and by structs, as functions; their size bounded by how often they were written. -/
import Derived.Test.YtdgjlekndhgjfaaHf
import Derived.DeepKeys4
namespace Go.Proofs.Ytdgjlekndhgjfaa
open Go.ChangeShapes Go.WideShapes Go.ChangeAt Go.RowKit Go.Shelf Go.Proofs.Rx Go.Maps Go.Proofs.Hm
set_option linter.unusedVariables false
set_option linter.unusedSimpArgs false

/-- Keys of a type. -/
structure KeyT (κ : Type) (k : TypeId) where
  kv : κ → Value
  kl : κ → Lit
  ok : κ → Prop
  keyed : Keyed Try.prog k
  of : ∀ x, ok x → keyOf Try.prog k (kv x) = some (kl x)
  inj : ∀ x y, kv x = kv y → x = y
theorem KeyT.kl_inj {κ : Type} {k : TypeId} (T : KeyT κ k) {x y : κ} (hx : T.ok x) (hy : T.ok y) (e : T.kl x = T.kl y) : x = y := T.inj _ _ (T.keyed.inj (T.of _ hx) (by rw [e]; exact T.of _ hy))
theorem KeyT.lit {κ : Type} {k : TypeId} (T : KeyT κ k) {x : κ} (hx : T.ok x) : WideAt.IsKeyLit (T.kl x) := T.keyed.key (T.of _ hx)
/-- A map at block b, of at most n entries, as a function. -/
def MapK {κ : Type} {k : TypeId} (T : KeyT κ k) {α : Type} (E : Enc α) (w : World) (b n : Nat) (M : κ → Option α) : Prop :=
  ∃ D, w.ownsMap Try.prog k E.elem b n D ∧ ∀ p, T.ok p → has D (T.kl p) = (M p).isSome ∧ D.atKey (T.kl p) E.zd = datO E (M p)
section
variable {κ : Type} {k : TypeId} {T : KeyT κ k} {α : Type} {E : Enc α} {w w' : World} {b n : Nat} {M : κ → Option α}
theorem MapK.lt (h : MapK T E w b n M) : b < w.heap.size := by obtain ⟨D, h, _⟩ := h; exact h.lt
theorem MapK.block (h : MapK T E w b n M) (hb : w'.heap[b]? = w.heap[b]?) : MapK T E w' b n M := by
  obtain ⟨D, ⟨es, clock, h1, h2⟩, r⟩ := h
  exact ⟨D, ⟨es, clock, hb.trans h1, h2⟩, r⟩
theorem MapK.kept {F : Nat → Prop} (h : MapK T E w b n M) (hk : Kept F w w') (hF : ¬ F b) : MapK T E w' b n M := h.block (hk.block b h.lt hF)
theorem MapK.mono {n' : Nat} (h : MapK T E w b n M) (hn : n ≤ n') : MapK T E w b n' M := by obtain ⟨D, h1, r⟩ := h; exact ⟨D, h1.mono hn, r⟩
theorem MapK.made (T : KeyT κ k) (E : Enc α) (w : World) : MapK T E (w.alloc (.map #[] 0)) w.heap.size 0 (fun _ => none) :=
  ⟨_, World.ownsMap_made w Try.prog k E.elem, fun _ _ => ⟨rfl, rfl⟩⟩
theorem MapK.looks {t e : TypeId} (h : MapK T E w b n M) (ht : Try.prog.underlying t = some (.map k e)) (hz : (zeroValue e).run Try.prog w = .ok E.zv w) {p : κ} (hp : T.ok p) :
    (Instr.lookup t (.map (some b)) (T.kv p) true).run Try.prog w = .ok (.tuple #[valO E (M p), .bool (M p).isSome]) w := by
  obtain ⟨D, hD, hM⟩ := h
  obtain ⟨v, ps, hrun, hv⟩ := hD.look_ok T.keyed ht hz (zd := E.zd) (zp := []) E.mkz (T.of _ hp)
  rw [(hM p hp).2] at hv
  rw [hrun, E.backO hv, (hM p hp).1]
theorem MapK.look {t e : TypeId} (h : MapK T E w b n M) (ht : Try.prog.underlying t = some (.map k e)) (hz : (zeroValue e).run Try.prog w = .ok E.zv w) {p : κ} (hp : T.ok p) :
    (Instr.lookup t (.map (some b)) (T.kv p) false).run Try.prog w = .ok (valO E (M p)) w := by
  obtain ⟨D, hD, hM⟩ := h
  obtain ⟨v, ps, hrun, hv⟩ := hD.lookup T.keyed ht hz (zd := E.zd) (zp := []) E.mkz (T.of _ hp)
  rw [(hM p hp).2] at hv
  rw [hrun, E.backO hv]
/-- m[p] = x. -/
theorem MapK.put [DecidableEq κ] {t e : TypeId} (h : MapK T E w b n M) (ht : Try.prog.underlying t = some (.map k e)) (hn : n < 1000000) {p : κ} (hp : T.ok p) (x : α) :
    ∃ w', (Instr.mapUpdate t (.map (some b)) (T.kv p) (E.val x)).run Try.prog w = .ok () w' ∧ MapK T E w' b (n + 1) (fun q => if q = p then some x else M q) ∧ w.grownBy w' (some b) := by
  obtain ⟨D, hD, hM⟩ := h
  obtain ⟨w', hrun, h1, h2⟩ := hD.update T.keyed ht (by unfold maxLen; omega) (T.of _ hp) (val := E.val x) (d := E.dat x) (ps := []) (E.mke x)
  refine ⟨w', hrun, ⟨_, h1, fun q hq => ?_⟩, h2⟩
  by_cases c : q = p
  · subst c
    simp only [if_true]
    exact ⟨has_put_same hD.isMap (T.lit hp) _, atKey_put_same hD.isMap (T.lit hp) _ _⟩
  · simp only [if_neg c]
    have hne : T.kl q ≠ T.kl p := fun z => c (T.kl_inj hq hp z)
    exact ⟨(has_put_other hne _).trans (hM q hq).1, (atKey_put_other hne _ _).trans (hM q hq).2⟩
/-- delete(m, p). -/
theorem MapK.del [DecidableEq κ] {t e : TypeId} (h : MapK T E w b n M) (ht : Try.prog.underlying t = some (.map k e)) (ty : TypeId) {p : κ} (hp : T.ok p) :
    ∃ w', (Builtin.delete_ #[t, k] ty #[.map (some b), T.kv p]).run Try.prog w = .ok (.tuple #[]) w' ∧ MapK T E w' b n (fun q => if q = p then none else M q) ∧ w.grownBy w' (some b) := by
  obtain ⟨D, hD, hM⟩ := h
  obtain ⟨w', hrun, h1, h2⟩ := hD.drop T.keyed ht (T.of _ hp) ty
  refine ⟨w', hrun, ⟨_, h1, fun q hq => ?_⟩, h2.grown⟩
  by_cases c : q = p
  · subst c
    simp only [if_true]
    exact ⟨has_del_same, atKey_del_same _⟩
  · simp only [if_neg c]
    have hne : T.kl q ≠ T.kl p := fun z => c (T.kl_inj hq hp z)
    exact ⟨(has_del_other hne).trans (hM q hq).1, (atKey_del_other hne _).trans (hM q hq).2⟩
end
/-! ### Elements: pointers; nothing -/
def ptV : Option Nat → Value
  | none => .pointer none
  | some b => .pointer (some ⟨b, 0, none⟩)
def ptElem : Value → Option (DataW Unit × List MemPlace)
  | .pointer none => some (.lit (.int .i64 0), [])
  | .pointer (some ⟨b, 0, none⟩) => some (.lit (.int .i64 ((b : Int) + 1)), [])
  | _ => none
def ptDat : Option Nat → DataW Unit
  | none => .lit (.int .i64 0)
  | some b => .lit (.int .i64 ((b : Int) + 1))
theorem pt_back (v : Value) (o : Option Nat) (ps : List MemPlace) (h : ptElem v = some (ptDat o, ps)) : v = ptV o := by
  unfold ptElem at h
  split at h
  · cases o with
    | none => rfl
    | some b => simp [ptDat] at h; omega
  · rename_i b'
    cases o with
    | none => simp [ptDat] at h; omega
    | some b => simp [ptDat] at h; have e : b' = b := by omega
                rw [e]; rfl
  · cases h
def encPt : Enc Nat := ⟨ptElem, fun b => ptDat (some b), fun b => ptV (some b), ptDat none, ptV none, fun _ => rfl, rfl, fun v a ps h => pt_back v (some a) ps h, fun v ps h => pt_back v none ps h⟩
theorem valO_pt (o : Option Nat) : valO encPt o = ptV o := by cases o <;> rfl
def noElem : Value → Option (DataW Unit × List MemPlace)
  | .agg xs => if xs = #[] then some (.agg [], []) else none
  | _ => none
theorem no_back (v : Value) (d : DataW Unit) (ps : List MemPlace) (h : noElem v = some (d, ps)) : v = .agg #[] := by
  unfold noElem at h
  split at h
  · split at h
    · rename_i e; rw [e]
    · cases h
  · cases h
def encNo : Enc Unit := ⟨noElem, fun _ => .agg [], fun _ => .agg #[], .agg [], .agg #[], fun _ => rfl, rfl, fun v a ps h => no_back v _ ps h, fun v ps h => no_back v _ ps h⟩
theorem valO_no (o : Option Unit) : valO encNo o = .agg #[] := by cases o <;> rfl
/-! ### The keys -/
theorem laid : laidOutB Try.prog = true := by kernel_rfl
def keyI : KeyT Int 3 := ⟨fun x => .int .i64 x, fun x => .int .i64 x, fun x => -9223372036854775808 ≤ x ∧ x ≤ 9223372036854775807, int_keyed Try.underlying3, fun x h => keyOf_int_mk Try.underlying3 (WalkArith.wf_i64 h), fun x y h => by cases h; rfl⟩
def keyN : KeyT Nat 30 := ⟨fun x => .int .u64 (x : Nat), fun x => .int .u64 (x : Nat), fun x => x < 18446744073709551616, int_keyed Try.underlying30, fun x h => keyOf_int_mk Try.underlying30 (WalkArith.wf_u64 (by omega)), fun x y h => by injection h with _ h; omega⟩
/-- A kind: its class, and what else. -/
structure Kd where
  c : Int
  a : Bool
  f : Bool
deriving DecidableEq
def kdV (k : Kd) : Value := .agg #[.int .i64 k.c, .bool k.a, .bool k.f]
theorem rowK : (72 : TypeId) < Try.prog.types.size := of_decide_eq_true (by kernel_rfl)
theorem wideK : (match Try.prog.underlying 72 with | some (.array _ _) | some (.struct _) => true | _ => false) = true := by kernel_rfl
theorem keyedK : Keyed Try.prog 72 := Keyed.of_law (deep_law_laid laid (m := 2) (by omega) rowK (by kernel_rfl) wideK)
theorem deepK : Try.prog.keyType 72 = true := by kernel_rfl
theorem cellsK : Try.prog.cellsOf 72 = 3 := by kernel_rfl
theorem cellsI : Try.prog.cellsOf 3 = 1 := by kernel_rfl
theorem cellsB : Try.prog.cellsOf 4 = 1 := by kernel_rfl
theorem sizeT : ∃ d, Try.prog.types.size + 1 = d + 1 + 1 := by
  have h : 1 ≤ Try.prog.types.size := of_decide_eq_true (by kernel_rfl)
  exact ⟨Try.prog.types.size - 1, by omega⟩
theorem ofK (k : Kd) (h : -9223372036854775808 ≤ k.c ∧ k.c ≤ 9223372036854775807) : keyOf Try.prog 72 (kdV k) = some (.string (keyBytes [.int .i64 k.c, .bool k.a, .bool k.f])) := by
  have e1 : (kdV k).formed Try.prog 72 = true := by simp [Value.formed, kdV, Try.underlying72, cellsK]
  have e2 : Try.prog.keyLits (Try.prog.types.size + 1) 72 (kdV k).cells.toList = some [.int .i64 k.c, .bool k.a, .bool k.f] := by
    obtain ⟨d, e⟩ := sizeT
    rw [e]
    simp [Program.keyLits, Try.underlying72, Try.underlying3, Try.underlying4, cellsK, cellsI, cellsB, kdV, Value.cells, WalkArith.wf_i64 h]
  unfold keyOf
  rw [Try.underlying72]
  simp only [deepK, e1, e2, Bool.and_self, if_true, Option.map_some]
def keyK : KeyT Kd 72 := ⟨kdV, fun k => .string (keyBytes [.int .i64 k.c, .bool k.a, .bool k.f]), fun k => -9223372036854775808 ≤ k.c ∧ k.c ≤ 9223372036854775807, keyedK, ofK, fun x y h => by
  obtain ⟨a, b, c⟩ := x
  obtain ⟨a', b', c'⟩ := y
  simp [kdV] at h
  obtain ⟨rfl, rfl, rfl⟩ := h
  rfl⟩
theorem tyI : Try.prog.underlying 49 = some (.map 3 70) := by kernel_rfl
theorem tyN : Try.prog.underlying 50 = some (.map 30 82) := by kernel_rfl
theorem tyK : Try.prog.underlying 56 = some (.map 72 84) := by kernel_rfl
theorem zeroM (w : World) : (zeroValue 70).run Try.prog w = .ok encPt.zv w := by kernel_rfl
theorem zeroH (w : World) : (zeroValue 84).run Try.prog w = .ok encPt.zv w := by kernel_rfl
theorem zeroN (w : World) : (zeroValue 82).run Try.prog w = .ok encNo.zv w := by kernel_rfl
end Go.Proofs.Ytdgjlekndhgjfaa
