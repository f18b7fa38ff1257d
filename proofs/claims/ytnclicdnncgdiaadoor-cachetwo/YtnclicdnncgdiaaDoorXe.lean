/- Package radix: maps from numbers, as functions. -/
import Derived.Test.YtnclicdnncgdiaaDoorXd
import Derived.Maps.RangeWalk
namespace Go.Proofs.YtnclicdnncgdiaaDoor
open Go.ChangeShapes Go.WideShapes Go.ChangeAt Go.RowKit Go.Proofs.Bt Go.Shelf Go.Proofs.Rx Go.Maps
set_option linter.unusedVariables false
set_option linter.unusedSimpArgs false

theorem keyU : Keyed Tryd.prog 23 := int_keyed Tryd.underlying23
def key (p : Nat) : Lit := .int .u64 (p : Int)
theorem key_of (p : Nat) (h : p < 18446744073709551616) : keyOf Tryd.prog 23 (.int .u64 (p : Int)) = some (key p) := keyOf_int_mk Tryd.underlying23 (WalkArith.wf_u64 (by omega))
theorem key_inj {p q : Nat} (h : key p = key q) : p = q := by simp [key] at h; omega
theorem key_lit (p : Nat) : WideAt.IsKeyLit (key p) := trivial

/-! ### How many keys there can be -/
theorem nodup_len : ∀ (B : Nat) (l : List Nat), l.Nodup → (∀ x ∈ l, x < B) → l.length ≤ B
  | 0, l, _, h => by
    cases l with
    | nil => simp
    | cons a l => have := h a (by simp); omega
  | B + 1, l, hn, h => by
    by_cases hb : B ∈ l
    · have e := List.length_erase_of_mem hb
      have := nodup_len B (l.erase B) (hn.erase B) (fun x hx => by
        have h1 := h x (List.mem_of_mem_erase hx)
        have h2 : x ≠ B := fun z => by rw [z] at hx; exact (hn.mem_erase_iff.1 hx).1 rfl
        omega)
      omega
    · have := nodup_len B l hn (fun x hx => by
        have h1 := h x hx
        have h2 : x ≠ B := fun z => hb (z ▸ hx)
        omega)
      omega
theorem mem_ins {H : Type} {x y : Lit × DataW H} : ∀ {l : List (Lit × DataW H)}, x ∈ DataW.insert y l → x = y ∨ x ∈ l
  | [], h => by simp [DataW.insert] at h; exact .inl h
  | z :: r, h => by
    unfold DataW.insert at h
    split at h
    · rcases List.mem_cons.1 h with h | h
      · exact .inl h
      · exact .inr h
    · rcases List.mem_cons.1 h with h | h
      · exact .inr (by rw [h]; exact List.mem_cons_self)
      · rcases mem_ins h with h | h
        · exact .inl h
        · exact .inr (List.mem_cons_of_mem _ h)
/-- All keys are numbers below 2^26. -/
def Keys (D : DataW Unit) : Prop := ∀ es, D = .map es → ∀ x ∈ es, ∃ p, p < 67108864 ∧ x.1 = key p
def numOf : Lit → Nat
  | .int _ a => a.toNat
  | _ => 0
theorem numOf_key (p : Nat) : numOf (key p) = p := by simp [numOf, key]
theorem Keys.size {D : DataW Unit} (h : Keys D) (t : Tidy D) : Maps.size D ≤ 67108864 := by
  obtain ⟨es, rfl, hp⟩ := t
  have hk := h es rfl
  rw [size_eq, ← List.length_map (f := fun x => numOf x.1)]
  refine nodup_len _ _ ?_ ?_
  · refine List.pairwise_map.2 (hp.imp_of_mem fun {x y} hx hy hne e => hne ?_)
    obtain ⟨p, _, e1⟩ := hk x hx
    obtain ⟨q, _, e2⟩ := hk y hy
    rw [e1, e2, numOf_key, numOf_key] at e
    rw [e1, e2, e]
  · intro n hn
    obtain ⟨x, hx, rfl⟩ := List.mem_map.1 hn
    obtain ⟨p, hp, e⟩ := hk x hx
    rw [e, numOf_key]; exact hp
theorem Keys.put {D : DataW Unit} (h : Keys D) (m : IsMap D) {p : Nat} (hp : p < 67108864) (d : DataW Unit) : Keys (D.put (key p) d) := by
  obtain ⟨es, rfl⟩ := m
  rw [DataW.put_eq]
  intro es' e x hx
  injection e with e
  subst e
  rcases mem_ins hx with rfl | hx
  · exact ⟨p, hp, rfl⟩
  · exact h es rfl x (List.mem_filter.1 hx).1
theorem Keys.del {D : DataW Unit} (h : Keys D) (m : IsMap D) (k : Lit) : Keys (D.del k) := by
  obtain ⟨es, rfl⟩ := m
  rw [DataW.del_eq]
  intro es' e x hx
  injection e with e
  subst e
  exact h es rfl x (List.mem_filter.1 hx).1

/-! ### A map as a function -/
structure Enc (α : Type) where
  elem : Value → Option (DataW Unit × List MemPlace)
  dat : α → DataW Unit
  val : α → Value
  zd : DataW Unit
  zv : Value
  mke : ∀ a, elem (val a) = some (dat a, [])
  mkz : elem zv = some (zd, [])
  back : ∀ v a ps, elem v = some (dat a, ps) → v = val a
  backz : ∀ v ps, elem v = some (zd, ps) → v = zv
def valO {α : Type} (E : Enc α) : Option α → Value
  | some a => E.val a
  | none => E.zv
def datO {α : Type} (E : Enc α) : Option α → DataW Unit
  | some a => E.dat a
  | none => E.zd
theorem Enc.backO {α : Type} (E : Enc α) {v : Value} {o : Option α} {ps : List MemPlace} (h : E.elem v = some (datO E o, ps)) : v = valO E o := by
  cases o with
  | none => exact E.backz v ps h
  | some a => exact E.back v a ps h
def MapG {α : Type} (E : Enc α) (w : World) (b : Nat) (M : Nat → Option α) : Prop :=
  ∃ n D, w.ownsMap Tryd.prog 23 E.elem b n D ∧ n ≤ 67108864 ∧ Keys D ∧ ∀ p, p < 18446744073709551616 → has D (key p) = (M p).isSome ∧ D.atKey (key p) E.zd = datO E (M p)
section
variable {α : Type} {E : Enc α} {w w' : World} {b : Nat} {M : Nat → Option α}
theorem MapG.lt (h : MapG E w b M) : b < w.heap.size := by obtain ⟨n, D, h, _⟩ := h; exact h.lt
theorem MapG.kept (h : MapG E w b M) (hb : w'.heap[b]? = w.heap[b]?) : MapG E w' b M := by
  obtain ⟨n, D, ⟨es, clock, h1, h2⟩, r⟩ := h
  exact ⟨n, D, ⟨es, clock, hb.trans h1, h2⟩, r⟩
theorem MapG.below (h : MapG E w b M) (k : Below w.heap.size w w') : MapG E w' b M := h.kept (k.block b h.lt)
theorem MapG.made (E : Enc α) (w : World) : MapG E (w.alloc (.map #[] 0)) w.heap.size (fun _ => none) :=
  ⟨0, _, World.ownsMap_made w Tryd.prog 23 E.elem, by decide, (fun es e x hx => by injection e with e; subst e; cases hx), fun _ _ => ⟨rfl, rfl⟩⟩
theorem MapG.looks {t e : TypeId} (h : MapG E w b M) (ht : Tryd.prog.underlying t = some (.map 23 e)) (hz : (zeroValue e).run Tryd.prog w = .ok E.zv w) (p : Nat) (hp : p < 18446744073709551616) :
    (Instr.lookup t (.map (some b)) (.int .u64 (p : Int)) true).run Tryd.prog w = .ok (.tuple #[valO E (M p), .bool (M p).isSome]) w := by
  obtain ⟨n, D, hD, _, _, hM⟩ := h
  obtain ⟨v, ps, hrun, hv⟩ := hD.look_ok keyU ht hz (zd := E.zd) (zp := []) E.mkz (key_of p hp)
  rw [(hM p hp).2] at hv
  rw [hrun, E.backO hv, (hM p hp).1]
theorem MapG.look {t e : TypeId} (h : MapG E w b M) (ht : Tryd.prog.underlying t = some (.map 23 e)) (hz : (zeroValue e).run Tryd.prog w = .ok E.zv w) (p : Nat) (hp : p < 18446744073709551616) :
    (Instr.lookup t (.map (some b)) (.int .u64 (p : Int)) false).run Tryd.prog w = .ok (valO E (M p)) w := by
  obtain ⟨n, D, hD, _, _, hM⟩ := h
  obtain ⟨v, ps, hrun, hv⟩ := hD.lookup keyU ht hz (zd := E.zd) (zp := []) E.mkz (key_of p hp)
  rw [(hM p hp).2] at hv
  rw [hrun, E.backO hv]
/-- m[p] = x. -/
theorem MapG.put {t e : TypeId} (h : MapG E w b M) (ht : Tryd.prog.underlying t = some (.map 23 e)) (p : Nat) (hp : p < 67108864) (x : α) :
    ∃ w', (Instr.mapUpdate t (.map (some b)) (.int .u64 (p : Int)) (E.val x)).run Tryd.prog w = .ok () w' ∧ MapG E w' b (fun q => if q = p then some x else M q) ∧ w.grownBy w' (some b) := by
  obtain ⟨n, D, hD, hn, hk, hM⟩ := h
  obtain ⟨w', hrun, h1, h2⟩ := hD.update keyU ht (by unfold maxLen; omega) (key_of p (by omega)) (val := E.val x) (d := E.dat x) (ps := []) (E.mke x)
  have hk' := hk.put hD.isMap hp (E.dat x)
  have hs := hk'.size (h1.tidy keyU)
  refine ⟨w', hrun, ⟨Maps.size (D.put (key p) (E.dat x)), _, ?_, hs, hk', fun q hq => ?_⟩, h2⟩
  · obtain ⟨es, clock, e1, e2, e3, e4⟩ := h1
    refine ⟨es, clock, e1, e2, ?_, e4⟩
    rw [e4, size_eq, length_sorted]
    simp
  · by_cases c : q = p
    · subst c
      simp only [if_true]
      exact ⟨has_put_same hD.isMap (key_lit _) _, atKey_put_same hD.isMap (key_lit _) _ _⟩
    · simp only [if_neg c]
      have hne : key q ≠ key p := fun z => c (key_inj z)
      exact ⟨(has_put_other hne _).trans (hM q hq).1, (atKey_put_other hne _ _).trans (hM q hq).2⟩
/-- delete(m, p). -/
theorem MapG.del {t e : TypeId} (h : MapG E w b M) (ht : Tryd.prog.underlying t = some (.map 23 e)) (ty : TypeId) (p : Nat) (hp : p < 18446744073709551616) :
    ∃ w', (Builtin.delete_ #[t, 23] ty #[.map (some b), .int .u64 (p : Int)]).run Tryd.prog w = .ok (.tuple #[]) w' ∧ MapG E w' b (fun q => if q = p then none else M q) ∧ w.grownBy w' (some b) := by
  obtain ⟨n, D, hD, hn, hk, hM⟩ := h
  obtain ⟨w', hrun, h1, h2⟩ := hD.drop keyU ht (key_of p hp) ty
  refine ⟨w', hrun, ⟨n, _, h1, hn, hk.del hD.isMap _, fun q hq => ?_⟩, h2.grown⟩
  by_cases c : q = p
  · subst c
    simp only [if_true]
    exact ⟨has_del_same, atKey_del_same _⟩
  · simp only [if_neg c]
    have hne : key q ≠ key p := fun z => c (key_inj z)
    exact ⟨(has_del_other hne).trans (hM q hq).1, (atKey_del_other hne _).trans (hM q hq).2⟩
end

/-! ### Rows, and chunks -/
def rowElem : Value → Option (DataW Unit × List MemPlace)
  | .agg xs => match xs.toList with
    | [.int .u64 a, .int .u64 b, .int .u64 c, .int .i64 d, .int .i64 e, .int .i64 f, .int .i64 g] => some (.agg [.lit (.int .u64 a), .lit (.int .u64 b), .lit (.int .u64 c), .lit (.int .i64 d), .lit (.int .i64 e), .lit (.int .i64 f), .lit (.int .i64 g)], [])
    | _ => none
  | _ => none
def rowDat (r : Rw) : DataW Unit := .agg [.lit (.int .u64 (r.t.p : Nat)), .lit (.int .u64 (r.t.f : Nat)), .lit (.int .u64 (r.t.r : Nat)), .lit (.int .i64 (r.s : Nat)), .lit (.int .i64 (r.m : Nat)), .lit (.int .i64 (r.e : Nat)), .lit (.int .i64 (r.rest : Nat))]
def zeroRw : Rw := ⟨⟨0, 0, 0⟩, 0, 0, 0, 0⟩
theorem row_back (v : Value) (r : Rw) (ps : List MemPlace) (h : rowElem v = some (rowDat r, ps)) : v = rwV r := by
  unfold rowElem at h
  split at h
  · rename_i xs
    split at h
    · rename_i a b c d e f g hx
      have e1 : xs = #[.int .u64 a, .int .u64 b, .int .u64 c, .int .i64 d, .int .i64 e, .int .i64 f, .int .i64 g] := by
        rw [← Array.toList_inj]; exact hx
      simp [rowDat] at h
      obtain ⟨⟨h1, h2, h3, h4, h5, h6, h7⟩, _⟩ := h
      rw [e1]
      unfold rwV
      rw [h1, h2, h3, h4, h5, h6, h7]
    · cases h
  · cases h
def encR : Enc Rw := ⟨rowElem, rowDat, rwV, rowDat zeroRw, rwV zeroRw, fun _ => rfl, rfl, row_back, fun v ps h => row_back v zeroRw ps h⟩
def ptrElem : Value → Option (DataW Unit × List MemPlace)
  | .pointer none => some (.lit (.int .u64 0), [])
  | .pointer (some ⟨b, 0, none⟩) => some (.lit (.int .u64 ((b : Int) + 1)), [])
  | _ => none
def ptrDat (b : Nat) : DataW Unit := .lit (.int .u64 ((b : Int) + 1))
theorem ptr_back (v : Value) (a : Nat) (ps : List MemPlace) (h : ptrElem v = some (ptrDat a, ps)) : v = .pointer (some ⟨a, 0, none⟩) := by
  unfold ptrElem at h
  split at h
  · simp [ptrDat] at h; omega
  · rename_i b
    simp [ptrDat] at h
    have : b = a := by omega
    rw [this]
  · cases h
theorem ptr_backz (v : Value) (ps : List MemPlace) (h : ptrElem v = some (.lit (.int .u64 0), ps)) : v = .pointer none := by
  unfold ptrElem at h
  split at h
  · rfl
  · rename_i b
    simp at h
    omega
  · cases h
def encC : Enc Nat := ⟨ptrElem, ptrDat, fun b => .pointer (some ⟨b, 0, none⟩), .lit (.int .u64 0), .pointer none, fun _ => rfl, rfl, ptr_back, ptr_backz⟩
theorem zeroR (w : World) : (zeroValue 84).run Tryd.prog w = .ok (rwV zeroRw) w := by kernel_rfl
theorem zeroC (w : World) : (zeroValue 100).run Tryd.prog w = .ok (.pointer none) w := by kernel_rfl
theorem tyL : Tryd.prog.underlying 56 = some (.map 23 84) := by kernel_rfl
theorem tyC : Tryd.prog.underlying 51 = some (.map 23 100) := by kernel_rfl
end Go.Proofs.YtnclicdnncgdiaaDoor
