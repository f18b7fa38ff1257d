/- Two maps of the landed package: from pages to arrays, and to numbers. -/
import Derived.Test.YtpceigglilgelaaVmA
import Derived.Maps.RangeWalk
namespace Go.Proofs.Ytpceigglilgelaa
open Go.ChangeShapes Go.WideShapes Go.ChangeAt Go.RowKit Go.Proofs.Sp Go.Maps

theorem keyU : Keyed Try.prog 23 := int_keyed Try.underlying23
/-- How a pointer to an array reads: 0 where it is nil, else its block's number, and one. -/
def ptrElem : Value → Option (DataW Unit × List MemPlace)
  | .pointer none => some (.lit (.int .u64 0), [])
  | .pointer (some ⟨b, 0, none⟩) => some (.lit (.int .u64 ((b : Int) + 1)), [])
  | _ => none
def numElem : Value → Option (DataW Unit × List MemPlace)
  | .int .u64 a => some (.lit (.int .u64 a), [])
  | _ => none
def dat (n : Nat) : DataW Unit := .lit (.int .u64 (n : Int))
def key (p : Nat) : Lit := .int .u64 (p : Int)
/-- A map in block b, as a function: 0 where there is nothing. -/
def MapIs (w : World) (R : Value → Option (DataW Unit × List MemPlace)) (b n : Nat) (M : Nat → Nat) : Prop := ∃ D, w.ownsMap Try.prog 23 R b n D ∧ ∀ p, p < 18446744073709551616 → D.atKey (key p) (dat 0) = dat (M p)
theorem key_of (p : Nat) (h : p < 18446744073709551616) : keyOf Try.prog 23 (.int .u64 (p : Int)) = some (key p) := keyOf_int_mk Try.underlying23 (WalkArith.wf_u64 (by omega))
theorem ptr_of {v : Value} {n : Nat} {ps : List MemPlace} (h : ptrElem v = some (dat n, ps)) : (n = 0 ∧ v = .pointer none) ∨ ∃ b, n = b + 1 ∧ v = .pointer (some ⟨b, 0, none⟩) := by
  unfold ptrElem at h
  split at h
  · left; simp [dat] at h; exact ⟨by omega, rfl⟩
  · right
    rename_i b
    simp [dat] at h
    exact ⟨b, by omega, rfl⟩
  · cases h
theorem num_of {v : Value} {n : Nat} {ps : List MemPlace} (h : numElem v = some (dat n, ps)) : v = .int .u64 (n : Int) := by
  unfold numElem at h
  split at h
  · simp [dat] at h; rw [h.1]
  · cases h
theorem zeroP (w : World) : (zeroValue 104).run Try.prog w = .ok (.pointer none) w := by kernel_rfl
theorem zeroU (w : World) : (zeroValue 23).run Try.prog w = .ok (.int .u64 0) w := by kernel_rfl
theorem look_ptr {w : World} {b n : Nat} {M : Nat → Nat} (h : MapIs w ptrElem b n M) (p : Nat) (hp : p < 18446744073709551616) :
    ∃ v, (Instr.lookup 59 (.map (some b)) (.int .u64 (p : Int)) false).run Try.prog w = .ok v w ∧ ((M p = 0 ∧ v = .pointer none) ∨ ∃ a, M p = a + 1 ∧ v = .pointer (some ⟨a, 0, none⟩)) := by
  obtain ⟨D, hD, hM⟩ := h
  obtain ⟨v, ps, hrun, hv⟩ := hD.lookup (e := 104) keyU Try.underlying59 (zeroP w) (zd := dat 0) (zp := []) rfl (key_of p hp)
  rw [hM p hp] at hv
  exact ⟨v, hrun, ptr_of hv⟩
theorem look_num {w : World} {b n : Nat} {M : Nat → Nat} (h : MapIs w numElem b n M) (p : Nat) (hp : p < 18446744073709551616) :
    (Instr.lookup 60 (.map (some b)) (.int .u64 (p : Int)) false).run Try.prog w = .ok (.int .u64 (M p : Int)) w := by
  obtain ⟨D, hD, hM⟩ := h
  obtain ⟨v, ps, hrun, hv⟩ := hD.lookup (e := 23) keyU Try.underlying60 (zeroU w) (zd := dat 0) (zp := []) rfl (key_of p hp)
  rw [hM p hp] at hv
  rw [hrun, num_of hv]
theorem MapIs.kept {w w' : World} {R : Value → Option (DataW Unit × List MemPlace)} {b n : Nat} {M : Nat → Nat} (h : MapIs w R b n M) (hb : w'.heap[b]? = w.heap[b]?) : MapIs w' R b n M := by
  obtain ⟨D, ⟨es, clock, h1, h2⟩, hM⟩ := h
  exact ⟨D, ⟨es, clock, hb.trans h1, h2⟩, hM⟩
theorem MapIs.lt {w : World} {R : Value → Option (DataW Unit × List MemPlace)} {b n : Nat} {M : Nat → Nat} (h : MapIs w R b n M) : b < w.heap.size := by obtain ⟨D, h, _⟩ := h; exact h.lt
theorem key_inj {p q : Nat} (h : key p = key q) : p = q := by simp [key] at h; omega
theorem key_lit (p : Nat) : WideAt.IsKeyLit (key p) := trivial
/-- m[p] = v. -/
theorem MapIs.put {w : World} {R : Value → Option (DataW Unit × List MemPlace)} {b n : Nat} {M : Nat → Nat} {t e : TypeId} (h : MapIs w R b n M) (ht : Try.prog.underlying t = some (.map 23 e)) (hn : n < maxLen) (p : Nat) (hp : p < 18446744073709551616) {v : Value} {x : Nat} {ps : List MemPlace} (hv : R v = some (dat x, ps)) :
    ∃ w', (Instr.mapUpdate t (.map (some b)) (.int .u64 (p : Int)) v).run Try.prog w = .ok () w' ∧ MapIs w' R b (n + 1) (fun q => if q = p then x else M q) ∧ w.grownBy w' (some b) := by
  obtain ⟨D, hD, hM⟩ := h
  obtain ⟨w', hrun, h1, h2⟩ := hD.update keyU ht hn (key_of p hp) hv
  refine ⟨w', hrun, ⟨_, h1, fun q hq => ?_⟩, h2⟩
  show _ = dat (if q = p then x else M q)
  by_cases c : q = p
  · subst c; rw [if_pos rfl]; exact atKey_put_same hD.isMap (key_lit _) _ _
  · rw [if_neg c, atKey_put_other (fun z => c (key_inj z))]; exact hM q hq
/-- delete(m, p). -/
theorem MapIs.del {w : World} {R : Value → Option (DataW Unit × List MemPlace)} {b n : Nat} {M : Nat → Nat} {t e ty : TypeId} (h : MapIs w R b n M) (ht : Try.prog.underlying t = some (.map 23 e)) (p : Nat) (hp : p < 18446744073709551616) :
    ∃ w', (Builtin.delete_ #[t, 23] ty #[.map (some b), .int .u64 (p : Int)]).run Try.prog w = .ok (.tuple #[]) w' ∧ MapIs w' R b n (fun q => if q = p then 0 else M q) ∧ w.grownBy w' (some b) := by
  obtain ⟨D, hD, hM⟩ := h
  obtain ⟨w', hrun, h1, h2⟩ := hD.drop keyU ht (key_of p hp) ty
  refine ⟨w', hrun, ⟨_, h1, fun q hq => ?_⟩, h2.grown⟩
  show _ = dat (if q = p then 0 else M q)
  by_cases c : q = p
  · subst c; rw [if_pos rfl]; exact atKey_del_same _
  · rw [if_neg c, atKey_del_other (fun z => c (key_inj z))]; exact hM q hq
theorem MapIs.len {w : World} {R : Value → Option (DataW Unit × List MemPlace)} {b n : Nat} {M : Nat → Nat} {t e ty : TypeId} (h : MapIs w R b n M) (ht : Try.prog.underlying t = some (.map 23 e)) : ∃ k, k ≤ n ∧ (Builtin.len_ #[t] ty #[.map (some b)]).run Try.prog w = .ok (.int .i64 (k : Int)) w := by
  obtain ⟨D, hD, hM⟩ := h
  exact ⟨_, hD.size_le, hD.len ht ty⟩
theorem MapIs.made (w : World) (R : Value → Option (DataW Unit × List MemPlace)) : MapIs (w.alloc (.map #[] 0)) R w.heap.size 0 (fun _ => 0) := ⟨_, World.ownsMap_made w Try.prog 23 R, fun _ _ => rfl⟩
theorem MapIs.mono {w : World} {R : Value → Option (DataW Unit × List MemPlace)} {b n n' : Nat} {M : Nat → Nat} (h : MapIs w R b n M) (hn : n ≤ n') : MapIs w R b n' M := by
  obtain ⟨D, hD, hM⟩ := h
  exact ⟨D, hD.mono hn, hM⟩
end Go.Proofs.Ytpceigglilgelaa
