/- J08 of the proof of both laws: texts Mp, VmN, VmW, one behind the other. -/
import Derived.Test.YtlfcnaalkjpgnaaJ02
import Derived.Maps.RangeWalk
/- Two maps of the landed package: from pages to arrays, and to numbers. -/
namespace Go.Proofs.Ytlfcnaalkjpgnaa
open Go.ChangeShapes Go.WideShapes Go.ChangeAt Go.RowKit Go.Proofs.Sp Go.Maps

theorem keyU : Keyed Try.prog 33 := int_keyed Try.underlying33
/-- How a pointer to an array reads: 0 where it is nil, else its block's number, and one. -/
def ptrElem : Value → Option (DataW Unit × List MemPlace)
  | .pointer none => some (.lit (.int .u64 0), [])
  | .pointer (some ⟨b, 0, none⟩) => some (.lit (.int .u64 ((b : Int) + 1)), [])
  | _ => none
def numElem : Value → Option (DataW Unit × List MemPlace)
  | .int .u64 a => some (.lit (.int .u64 a), [])
  | _ => none
def dat (n : Nat) : DataW Unit := .lit (.int .u64 (n : Int))
def key (p : Nat) : Lit := .int .u64 (p : Int)
/-- A map in block b, as a function: 0 where there is nothing. -/
def MapIs (w : World) (R : Value → Option (DataW Unit × List MemPlace)) (b n : Nat) (M : Nat → Nat) : Prop := ∃ D, w.ownsMap Try.prog 33 R b n D ∧ ∀ p, p < 18446744073709551616 → D.atKey (key p) (dat 0) = dat (M p)
theorem key_of (p : Nat) (h : p < 18446744073709551616) : keyOf Try.prog 33 (.int .u64 (p : Int)) = some (key p) := keyOf_int_mk Try.underlying33 (WalkArith.wf_u64 (by omega))
theorem ptr_of {v : Value} {n : Nat} {ps : List MemPlace} (h : ptrElem v = some (dat n, ps)) : (n = 0 ∧ v = .pointer none) ∨ ∃ b, n = b + 1 ∧ v = .pointer (some ⟨b, 0, none⟩) := by
  unfold ptrElem at h
  split at h
  · left; simp [dat] at h; exact ⟨by omega, rfl⟩
  · right
    rename_i b
    simp [dat] at h
    exact ⟨b, by omega, rfl⟩
  · cases h
theorem num_of {v : Value} {n : Nat} {ps : List MemPlace} (h : numElem v = some (dat n, ps)) : v = .int .u64 (n : Int) := by
  unfold numElem at h
  split at h
  · simp [dat] at h; rw [h.1]
  · cases h
theorem zeroP (w : World) : (zeroValue 97).run Try.prog w = .ok (.pointer none) w := by kernel_rfl
theorem zeroU (w : World) : (zeroValue 33).run Try.prog w = .ok (.int .u64 0) w := by kernel_rfl
theorem look_ptr {w : World} {b n : Nat} {M : Nat → Nat} (h : MapIs w ptrElem b n M) (p : Nat) (hp : p < 18446744073709551616) :
    ∃ v, (Instr.lookup 47 (.map (some b)) (.int .u64 (p : Int)) false).run Try.prog w = .ok v w ∧ ((M p = 0 ∧ v = .pointer none) ∨ ∃ a, M p = a + 1 ∧ v = .pointer (some ⟨a, 0, none⟩)) := by
  obtain ⟨D, hD, hM⟩ := h
  obtain ⟨v, ps, hrun, hv⟩ := hD.lookup (e := 97) keyU Try.underlying47 (zeroP w) (zd := dat 0) (zp := []) rfl (key_of p hp)
  rw [hM p hp] at hv
  exact ⟨v, hrun, ptr_of hv⟩
theorem look_num {w : World} {b n : Nat} {M : Nat → Nat} (h : MapIs w numElem b n M) (p : Nat) (hp : p < 18446744073709551616) :
    (Instr.lookup 48 (.map (some b)) (.int .u64 (p : Int)) false).run Try.prog w = .ok (.int .u64 (M p : Int)) w := by
  obtain ⟨D, hD, hM⟩ := h
  obtain ⟨v, ps, hrun, hv⟩ := hD.lookup (e := 33) keyU Try.underlying48 (zeroU w) (zd := dat 0) (zp := []) rfl (key_of p hp)
  rw [hM p hp] at hv
  rw [hrun, num_of hv]
theorem MapIs.kept {w w' : World} {R : Value → Option (DataW Unit × List MemPlace)} {b n : Nat} {M : Nat → Nat} (h : MapIs w R b n M) (hb : w'.heap[b]? = w.heap[b]?) : MapIs w' R b n M := by
  obtain ⟨D, ⟨es, clock, h1, h2⟩, hM⟩ := h
  exact ⟨D, ⟨es, clock, hb.trans h1, h2⟩, hM⟩
theorem MapIs.lt {w : World} {R : Value → Option (DataW Unit × List MemPlace)} {b n : Nat} {M : Nat → Nat} (h : MapIs w R b n M) : b < w.heap.size := by obtain ⟨D, h, _⟩ := h; exact h.lt
theorem key_inj {p q : Nat} (h : key p = key q) : p = q := by simp [key] at h; omega
theorem key_lit (p : Nat) : WideAt.IsKeyLit (key p) := trivial
/-- m[p] = v. -/
theorem MapIs.put {w : World} {R : Value → Option (DataW Unit × List MemPlace)} {b n : Nat} {M : Nat → Nat} {t e : TypeId} (h : MapIs w R b n M) (ht : Try.prog.underlying t = some (.map 33 e)) (hn : n < maxLen) (p : Nat) (hp : p < 18446744073709551616) {v : Value} {x : Nat} {ps : List MemPlace} (hv : R v = some (dat x, ps)) :
    ∃ w', (Instr.mapUpdate t (.map (some b)) (.int .u64 (p : Int)) v).run Try.prog w = .ok () w' ∧ MapIs w' R b (n + 1) (fun q => if q = p then x else M q) ∧ w.grownBy w' (some b) := by
  obtain ⟨D, hD, hM⟩ := h
  obtain ⟨w', hrun, h1, h2⟩ := hD.update keyU ht hn (key_of p hp) hv
  refine ⟨w', hrun, ⟨_, h1, fun q hq => ?_⟩, h2⟩
  show _ = dat (if q = p then x else M q)
  by_cases c : q = p
  · subst c; rw [if_pos rfl]; exact atKey_put_same hD.isMap (key_lit _) _ _
  · rw [if_neg c, atKey_put_other (fun z => c (key_inj z))]; exact hM q hq
/-- delete(m, p). -/
theorem MapIs.del {w : World} {R : Value → Option (DataW Unit × List MemPlace)} {b n : Nat} {M : Nat → Nat} {t e ty : TypeId} (h : MapIs w R b n M) (ht : Try.prog.underlying t = some (.map 33 e)) (p : Nat) (hp : p < 18446744073709551616) :
    ∃ w', (Builtin.delete_ #[t, 33] ty #[.map (some b), .int .u64 (p : Int)]).run Try.prog w = .ok (.tuple #[]) w' ∧ MapIs w' R b n (fun q => if q = p then 0 else M q) ∧ w.grownBy w' (some b) := by
  obtain ⟨D, hD, hM⟩ := h
  obtain ⟨w', hrun, h1, h2⟩ := hD.drop keyU ht (key_of p hp) ty
  refine ⟨w', hrun, ⟨_, h1, fun q hq => ?_⟩, h2.grown⟩
  show _ = dat (if q = p then 0 else M q)
  by_cases c : q = p
  · subst c; rw [if_pos rfl]; exact atKey_del_same _
  · rw [if_neg c, atKey_del_other (fun z => c (key_inj z))]; exact hM q hq
theorem MapIs.len {w : World} {R : Value → Option (DataW Unit × List MemPlace)} {b n : Nat} {M : Nat → Nat} {t e ty : TypeId} (h : MapIs w R b n M) (ht : Try.prog.underlying t = some (.map 33 e)) : ∃ k, k ≤ n ∧ (Builtin.len_ #[t] ty #[.map (some b)]).run Try.prog w = .ok (.int .i64 (k : Int)) w := by
  obtain ⟨D, hD, hM⟩ := h
  exact ⟨_, hD.size_le, hD.len ht ty⟩
theorem MapIs.made (w : World) (R : Value → Option (DataW Unit × List MemPlace)) : MapIs (w.alloc (.map #[] 0)) R w.heap.size 0 (fun _ => 0) := ⟨_, World.ownsMap_made w Try.prog 33 R, fun _ _ => rfl⟩
theorem MapIs.mono {w : World} {R : Value → Option (DataW Unit × List MemPlace)} {b n n' : Nat} {M : Nat → Nat} (h : MapIs w R b n M) (hn : n ≤ n') : MapIs w R b n' M := by
  obtain ⟨D, hD, hM⟩ := h
  exact ⟨D, hD.mono hn, hM⟩
end Go.Proofs.Ytlfcnaalkjpgnaa

/- What the system will still answer: the next of a list. -/
namespace Go.Proofs.Ytlfcnaalkjpgnaa
open Go.ChangeShapes Go.WideShapes Go.ChangeAt Go.RowKit Go.Proofs.Sp

/-- A slice in block g (or nil) reads as xs. -/
def SlB (w : World) (v : Value) (xs : List Value) (g : Nat) : Prop :=
  (v = .slice none 0 0 ∧ xs = []) ∨ ∃ off cap, v = .slice (some ⟨g, off, none⟩) xs.length cap ∧ xs.length ≤ cap ∧ cap ≤ 9223372036854775807 ∧ g < w.heap.size ∧ ∀ j u, xs[j]? = some u → w.cell? ⟨g, off + j, none⟩ = some u
theorem SlB.kept {w w' : World} {v : Value} {xs : List Value} {g : Nat} (h : SlB w v xs g) (hs : w.heap.size ≤ w'.heap.size) (hg : g < w.heap.size → w'.heap[g]? = w.heap[g]?) : SlB w' v xs g := by
  rcases h with h | ⟨off, cap, h1, h2, h3, h4, h5⟩
  · exact Or.inl h
  · exact Or.inr ⟨off, cap, h1, h2, h3, by omega, fun j u hu => by rw [World.cell?_of_block (hg h4)]; exact h5 j u hu⟩

theorem next_bool (b k g : Nat) (v : Value) (l : List Bool) (w : World) (hc : w.cell? ⟨b, k, none⟩ = some v) (hf : w.frozen? ⟨b, k, none⟩ = false) (hs : SlB w v (bools l) g) :
    Calls Try.prog 58 #[.pointer (some ⟨b, k, none⟩)] w fun e w' => e = .returned (.tuple #[.bool (l.head?.getD false), .bool (!l.isEmpty)]) ∧ ((l = [] ∧ w' = w) ∨ ∃ v', w' = w.setCell ⟨b, k, none⟩ v' ∧ SlB w v' (bools l.tail) g) := by
  rcases hs with ⟨rfl, h0⟩ | ⟨off, cap, rfl, h1, h2, h3, h4⟩
  · have hl : l = [] := by simpa [bools] using h0
    subst hl
    go_enter Try.func58, Try.ntmps58
    go_wp2_with fail
    go_ret2
    exact ⟨rfl, Or.inl ⟨trivial, rfl⟩⟩
  · cases l with
    | nil =>
      have e0 : (bools []).length = 0 := rfl
      rw [e0] at hc
      go_enter Try.func58, Try.ntmps58
      go_wp2_with fail
      go_ret2
      exact ⟨rfl, Or.inl ⟨trivial, rfl⟩⟩
    | cons x r =>
      have e0 : (bools (x :: r)).length = r.length + 1 := by simp [bools]
      have c0 := h4 0 (.bool x) (by simp [bools])
      rw [Nat.add_zero] at c0
      have htl : ∀ j u, (bools r)[j]? = some u → w.cell? ⟨g, off + 1 + j, none⟩ = some u := fun j u hu => by
        have := h4 (j + 1) u (by simpa [bools] using hu)
        rwa [show off + (j + 1) = off + 1 + j by omega] at this
      have HT := hide htl
      have er : (bools r).length = r.length := by simp [bools]
      have ER := hide er
      rw [e0] at hc h1
      obtain ⟨n, hn⟩ : ∃ n, r.length = n := ⟨_, rfl⟩
      rw [hn] at hc h1 ER
      clear h4 htl e0 er hn
      have b0 : (((n : Int) + 1) == 0) = false := beq_eq_false_iff_ne.2 (by omega)
      have d1 : (1 : Int) ≤ (n : Int) + 1 := by omega
      by_cases c1 : cap = 1
      · subst c1
        obtain rfl : n = 0 := by omega
        go_enter Try.func58, Try.ntmps58
        go_wp2_with fail
        go_ret2
        have hr : r = [] := List.eq_nil_of_length_eq_zero (by have := ER.out; simpa [bools] using this)
        subst hr
        exact ⟨rfl, Or.inr ⟨_, rfl, Or.inr ⟨off, 0, rfl, Nat.le_refl _, by omega, h3, fun j u hu => by simp [bools] at hu⟩⟩⟩
      · go_enter Try.func58, Try.ntmps58
        go_wp2_with fail
        go_ret2
        refine ⟨rfl, Or.inr ⟨_, rfl, Or.inr ⟨off + 1, cap - 1, ?_, ?_, by omega, h3, HT.out⟩⟩⟩
        · show _ = Value.slice (some ⟨g, off + 1, none⟩) (bools r).length (cap - 1)
          rw [ER.out]
        · show (bools r).length ≤ cap - 1
          rw [ER.out]; omega

theorem next_u64 (b k g : Nat) (v : Value) (l : List Nat) (w : World) (hc : w.cell? ⟨b, k, none⟩ = some v) (hf : w.frozen? ⟨b, k, none⟩ = false) (hs : SlB w v (u64s l) g) :
    Calls Try.prog 59 #[.pointer (some ⟨b, k, none⟩)] w fun e w' => e = .returned (.tuple #[.int .u64 (l.head?.getD 0 : Nat), .bool (!l.isEmpty)]) ∧ ((l = [] ∧ w' = w) ∨ ∃ v', w' = w.setCell ⟨b, k, none⟩ v' ∧ SlB w v' (u64s l.tail) g) := by
  rcases hs with ⟨rfl, h0⟩ | ⟨off, cap, rfl, h1, h2, h3, h4⟩
  · have hl : l = [] := by simpa [u64s] using h0
    subst hl
    go_enter Try.func59, Try.ntmps59
    go_wp2_with fail
    go_ret2
    exact ⟨rfl, Or.inl ⟨trivial, rfl⟩⟩
  · cases l with
    | nil =>
      have e0 : (u64s []).length = 0 := rfl
      rw [e0] at hc
      go_enter Try.func59, Try.ntmps59
      go_wp2_with fail
      go_ret2
      exact ⟨rfl, Or.inl ⟨trivial, rfl⟩⟩
    | cons x r =>
      have e0 : (u64s (x :: r)).length = r.length + 1 := by simp [u64s]
      have c0 := h4 0 (.int .u64 (x : Int)) (by simp [u64s])
      rw [Nat.add_zero] at c0
      have htl : ∀ j u, (u64s r)[j]? = some u → w.cell? ⟨g, off + 1 + j, none⟩ = some u := fun j u hu => by
        have := h4 (j + 1) u (by simpa [u64s] using hu)
        rwa [show off + (j + 1) = off + 1 + j by omega] at this
      have HT := hide htl
      have er : (u64s r).length = r.length := by simp [u64s]
      have ER := hide er
      rw [e0] at hc h1
      obtain ⟨n, hn⟩ : ∃ n, r.length = n := ⟨_, rfl⟩
      rw [hn] at hc h1 ER
      clear h4 htl e0 er hn
      have b0 : (((n : Int) + 1) == 0) = false := beq_eq_false_iff_ne.2 (by omega)
      have d1 : (1 : Int) ≤ (n : Int) + 1 := by omega
      by_cases c1 : cap = 1
      · subst c1
        obtain rfl : n = 0 := by omega
        go_enter Try.func59, Try.ntmps59
        go_wp2_with fail
        go_ret2
        have hr : r = [] := List.eq_nil_of_length_eq_zero (by have := ER.out; simpa [u64s] using this)
        subst hr
        exact ⟨rfl, Or.inr ⟨_, rfl, Or.inr ⟨off, 0, rfl, Nat.le_refl _, by omega, h3, fun j u hu => by simp [u64s] at hu⟩⟩⟩
      · go_enter Try.func59, Try.ntmps59
        go_wp2_with fail
        go_ret2
        refine ⟨rfl, Or.inr ⟨_, rfl, Or.inr ⟨off + 1, cap - 1, ?_, ?_, by omega, h3, HT.out⟩⟩⟩
        · show _ = Value.slice (some ⟨g, off + 1, none⟩) (u64s r).length (cap - 1)
          rw [ER.out]
        · show (u64s r).length ≤ cap - 1
          rw [ER.out]; omega

theorem refused_core (b g : Nat) (v : Value) (l : List Bool) (w : World) (hc : w.cell? ⟨b, 1, none⟩ = some v) (hf : w.frozen? ⟨b, 1, none⟩ = false) (hs : SlB w v (bools l) g) :
    Calls Try.prog 32 #[.pointer (some ⟨b, 0, none⟩)] w fun e w' => e = .returned (.bool (l.head?.getD false)) ∧ ((l = [] ∧ w' = w) ∨ ∃ v', w' = w.setCell ⟨b, 1, none⟩ v' ∧ SlB w v' (bools l.tail) g) := by
  have hs' := hide hs
  clear hs
  go_enter Try.func32, Try.ntmps32
  go_wp2_with fail
  refine (next_bool b 1 g v l w hc hf hs'.out).mono ?_
  rintro e w1 ⟨rfl, h1⟩
  have H1 := hide h1
  clear h1 hs'
  go_wp2_with fail
  go_ret
  exact ⟨rfl, H1.out⟩
theorem right_core (p n : Int) (hp : 0 ≤ p) (hn : 0 ≤ n) (hp' : p < 18446744073709551616) (w : World) : Calls Try.prog 40 #[.int .u64 p, .int .u64 n] w fun e w' => e = .returned (.bool (decide (right p.toNat n.toNat))) ∧ w' = w := by
  by_cases h : right p.toNat n.toNat
  · have e1 : decide (right p.toNat n.toNat) = true := decide_eq_true h
    rw [e1]
    unfold right at h
    have a1 : (n != 0) = true := by rw [bne_iff_ne]; omega
    have a2 : p < 34359738368 := by omega
    have a3 : n ≤ 34359738368 - p := by omega
    clear h e1
    go_enter Try.func40, Try.ntmps40
    go_wp2_with fail
    go_ret
    exact ⟨rfl, rfl⟩
  · have e1 : decide (right p.toNat n.toNat) = false := decide_eq_false h
    rw [e1]
    unfold right at h
    by_cases a0 : n = 0
    · have a1 : (n != 0) = false := by rw [a0]; rfl
      clear h e1
      subst a0
      go_enter Try.func40, Try.ntmps40
      go_wp2_with fail
      go_ret
      exact ⟨rfl, rfl⟩
    · have a1 : (n != 0) = true := by rw [bne_iff_ne]; omega
      by_cases a2 : p < 34359738368
      · have a3 : ¬ n ≤ 34359738368 - p := by omega
        clear h e1 a0
        go_enter Try.func40, Try.ntmps40
        go_wp2_with fail
        go_ret
        exact ⟨rfl, rfl⟩
      · clear h e1 a0
        have a2' : decide (p < 34359738368) = false := by simpa using a2
        go_enter Try.func40, Try.ntmps40
        go_wp2_with fail
        go_ret
        exact ⟨rfl, rfl⟩
theorem split_core (a : Int) (ha : 0 ≤ a) (ha2 : a < 18446744073709551616) (w : World) : Calls Try.prog 72 #[.int .u64 a] w fun e w' => e = .returned (.tuple #[.int .u64 (a / 8192), .int .u64 (a % 8192 / 8)]) ∧ w' = w := by
  go_enter Try.func72, Try.ntmps72
  go_wp2_with fail
  go_ret2
  exact ⟨rfl, rfl⟩
theorem chunkUp_core (a : Int) (ha : 0 ≤ a) (ha' : a ≤ 34359738368) (w : World) : Calls Try.prog 75 #[.int .u64 a] w fun e w' => e = .returned (.int .u64 ((a + 511) / 512 * 512)) ∧ w' = w := by
  go_enter Try.func75, Try.ntmps75
  go_wp2_with fail
  go_ret
  exact ⟨ret_int (by omega), rfl⟩
end Go.Proofs.Ytlfcnaalkjpgnaa

/- The landed package's words: how they lie; load. -/
namespace Go.Proofs.Ytlfcnaalkjpgnaa
open Go.ChangeShapes Go.WideShapes Go.ChangeAt Go.RowKit Go.Proofs.Sp Go.Maps

/-- An array of words in block a. -/
def ArrAt (w : World) (a : Nat) (f : Nat → Nat) : Prop := ∃ arr : List Value, w.heap[a]? = some (.cells arr.toArray 113 (0, 0)) ∧ arr.length = 1024 ∧ ∀ k, k < 1024 → arr[k]? = some (.int .u64 (f k : Int))
theorem ArrAt.cell {w : World} {a : Nat} {f : Nat → Nat} (h : ArrAt w a f) (k : Nat) (hk : k < 1024) : w.cell? ⟨a, k, none⟩ = some (.int .u64 (f k : Int)) := by
  obtain ⟨arr, h1, h2, h3⟩ := h
  rw [cell_of_row w a k arr.toArray _ (0, 0) h1]
  simpa using h3 k hk
theorem ArrAt.fz {w : World} {a : Nat} {f : Nat → Nat} (h : ArrAt w a f) (k : Nat) : w.frozen? ⟨a, k, none⟩ = false := by
  obtain ⟨arr, h1, _⟩ := h
  simp [World.frozen?, h1]
/-- How the words lie: two maps, at ⟨b, 8⟩ and ⟨b, 9⟩, and arrays. -/
structure WordsM (w : World) (b bp bf n : Nat) (MP MF : Nat → Nat) (A : Nat → Nat → Nat) : Prop where
  c8 : w.cell? ⟨b, 8, none⟩ = some (.map (some bp))
  c9 : w.cell? ⟨b, 9, none⟩ = some (.map (some bf))
  mp : MapIs w ptrElem bp n MP
  mf : MapIs w numElem bf n MF
  arr : ∀ p, MP p ≠ 0 → ArrAt w (MP p - 1) (A p)
  one : ∀ p q, MP p ≠ 0 → MP p = MP q → p = q
  sep : ∀ p, MP p ≠ 0 → MP p - 1 ≠ b ∧ MP p - 1 ≠ bp ∧ MP p - 1 ≠ bf
  ne : bp ≠ b ∧ bf ≠ b ∧ bp ≠ bf
def wordAt (MP MF : Nat → Nat) (A : Nat → Nat → Nat) (p k : Nat) : Nat := if MP p = 0 then MF p else A p k

set_option maxHeartbeats 1000000 in
theorem wload_core (b bp bf n : Nat) (MP MF : Nat → Nat) (A : Nat → Nat → Nat) (w : World) (h : WordsM w b bp bf n MP MF A) (a : Int) (ha : 0 ≤ a) (ha' : a < 18446744073709551616) :
    Calls Try.prog 50 #[.pointer (some ⟨b, 8, none⟩), .int .u64 a] w fun e w' => e = .returned (.int .u64 (wordAt MP MF A (a.toNat / 8192) (a.toNat % 8192 / 8) : Nat)) ∧ w' = w := by
  have c8 := h.c8
  have c9 := h.c9
  obtain ⟨p, hpe⟩ : ∃ p : Nat, p = a.toNat / 8192 := ⟨_, rfl⟩
  obtain ⟨k, hke⟩ : ∃ k : Nat, k = a.toNat % 8192 / 8 := ⟨_, rfl⟩
  have hp1 : (a / 8192 : Int) = (p : Int) := by omega
  have hk1 : (a % 8192 / 8 : Int) = (k : Int) := by omega
  have hk2 : k < 1024 := by omega
  have hpl : p < 18446744073709551616 := by omega
  rw [← hpe, ← hke]
  obtain ⟨v, hrun, hv⟩ := look_ptr h.mp p hpl
  have hnum := look_num h.mf p hpl
  have HP := hide hp1
  have HK := hide hk1
  rcases hv with ⟨hz, rfl⟩ | ⟨x, hx, rfl⟩
  · have fin : Hid (wordAt MP MF A p k = MF p) := by
      have : wordAt MP MF A p k = MF p := by unfold wordAt; rw [if_pos hz]
      exact this
    clear h hpe hke hp1 hk1 hz
    go_enter Try.func50, Try.ntmps50
    go_wp2_with (go_at_call 72; refine (split_core a ha ha' _).mono ?_; rintro e w' ⟨rfl, rfl⟩; rw [HP.out, HK.out])
    go_ret
    exact ⟨by rw [fin.out]; rfl, rfl⟩
  · have ar := h.arr p (by omega)
    rw [hx, Nat.add_sub_cancel] at ar
    have hc := ar.cell k hk2
    have fin : Hid (wordAt MP MF A p k = A p k) := by
      have : wordAt MP MF A p k = A p k := by unfold wordAt; rw [if_neg (by omega)]
      exact this
    have hk3 : (k : Int) < 1024 := by omega
    obtain ⟨y, hy⟩ : ∃ y, y = A p k := ⟨_, rfl⟩
    rw [← hy] at hc fin
    clear h hpe hke hp1 hk1 hx ar hy
    go_enter Try.func50, Try.ntmps50
    go_wp2_with (go_at_call 72; refine (split_core a ha ha' _).mono ?_; rintro e w' ⟨rfl, rfl⟩; rw [HP.out, HK.out])
    go_ret
    exact ⟨by rw [fin.out]; rfl, rfl⟩
end Go.Proofs.Ytlfcnaalkjpgnaa
