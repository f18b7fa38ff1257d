/- A space, and a row of sixty numbers beside it: what VmemStates wants. -/
import Derived.Test.YtpceigglilgelaaSt
import Derived.Test.YtpceigglilgelaaHvy
namespace Go.Proofs.Ytpceigglilgelaa
open Go.ChangeShapes Go.WideShapes Go.ChangeAt Go.RowKit Go.Proofs.Sp

/-- Sixty numbers in block a. -/
def WasAt (w : World) (a : Nat) (f : Nat → Nat) : Prop := ∃ arr : List Value, w.heap[a]? = some (.cells arr.toArray 3 (0, 0)) ∧ arr.length = 60 ∧ ∀ k, k < 60 → arr[k]? = some (.int .i64 (f k : Int))
theorem WasAt.cell {w : World} {a : Nat} {f : Nat → Nat} (h : WasAt w a f) (k : Nat) (hk : k < 60) : w.cell? ⟨a, k, none⟩ = some (.int .i64 (f k : Int)) := by
  obtain ⟨arr, h1, h2, h3⟩ := h
  rw [cell_of_row w a k arr.toArray _ (0, 0) h1]
  simpa using h3 k hk
theorem WasAt.fz {w : World} {a : Nat} {f : Nat → Nat} (h : WasAt w a f) (k : Nat) : w.frozen? ⟨a, k, none⟩ = false := by
  obtain ⟨arr, h1, _⟩ := h
  simp [World.frozen?, h1]
theorem WasAt.kept {w w' : World} {a : Nat} {f : Nat → Nat} (h : WasAt w a f) (hb : w'.heap[a]? = w.heap[a]?) : WasAt w' a f := by
  obtain ⟨arr, h1, h2⟩ := h
  exact ⟨arr, hb.trans h1, h2⟩
theorem WasAt.lt {w : World} {a : Nat} {f : Nat → Nat} (h : WasAt w a f) : a < w.heap.size := by
  obtain ⟨arr, h1, _⟩ := h
  exact (Array.getElem?_eq_some_iff.1 h1).1
theorem WasAt.put {w : World} {a : Nat} {f : Nat → Nat} (h : WasAt w a f) (k x : Nat) (hk : k < 60) : WasAt (w.setCell ⟨a, k, none⟩ (.int .i64 (x : Int))) a (fun j => if j = k then x else f j) := by
  obtain ⟨arr, h1, h2, h3⟩ := h
  refine ⟨arr.set k (.int .i64 (x : Int)), ?_, by simpa using h2, fun j hj => ?_⟩
  · rw [setCell_eq_setRow w a k arr.toArray _ (0, 0) _ h1, setRow_heap w a _ _ _ _ h1]
    congr 2
    simp
  · show _ = some (Value.int .i64 ((if j = k then x else f j : Nat) : Int))
    by_cases c : j = k
    · subst c; rw [if_pos rfl, List.getElem?_set_self (by omega)]
    · rw [if_neg c, List.getElem?_set_ne (fun z => c z.symm)]; exact h3 j hj
def JB (I : Inv) (w0 : World) (m : Addr) (bw : Nat) (w : World) (S : Sp) (K : Nat) (f : Nat → Nat) : Prop :=
  ∃ F, I w m S F K ∧ (∀ b, F b → w0.heap.size ≤ b) ∧ Below w0.heap.size w0 w ∧ ¬ F bw ∧ w0.heap.size ≤ bw ∧ WasAt w bw f
variable {I : Inv} {w0 w w' : World} {m : Addr} {bw : Nat} {S S' : Sp} {K K' : Nat} {f : Nat → Nat}
theorem JB.below (h : JB I w0 m bw w S K f) : Below w0.heap.size w0 w := by obtain ⟨_, _, _, h, _⟩ := h; exact h
theorem JB.was (h : JB I w0 m bw w S K f) : WasAt w bw f := by obtain ⟨_, _, _, _, _, _, h⟩ := h; exact h
theorem JB.wf (Fc : Face vm I) (h : JB I w0 m bw w S K f) : WF S := by obtain ⟨_, h, _⟩ := h; exact Fc.wf h
theorem JB.step {F : Nat → Prop} (h2 : ∀ b, F b → w0.heap.size ≤ b) (h3 : Below w0.heap.size w0 w) (h4 : ¬ F bw) (h5 : w0.heap.size ≤ bw) (h6 : WasAt w bw f) (h : Step I F w w' m S' K') : JB I w0 m bw w' S' K' f := by
  obtain ⟨F', a, b, c⟩ := h
  have hs := h3.size
  have hl := h6.lt
  refine ⟨F', a, fun x hx => ?_, h3.trans (b.below hs h2), fun z => ?_, h5, h6.kept (b.block bw hl h4)⟩
  · rcases c x hx with hx | hx
    · exact h2 x hx
    · omega
  · rcases c bw z with z | z
    · exact h4 z
    · omega
theorem JB.drew (Fc : Face vm I) (h : JB I w0 m bw w S K f) : JB I w0 m bw w.drew S K f := by
  obtain ⟨F, h1, h2, h3, h4, h5, h6⟩ := h
  exact ⟨F, Fc.kept h1 (Nat.le_refl _) (fun _ _ => rfl), h2, h3.drew, h4, h5, h6.kept rfl⟩
theorem JB.put (Fc : Face vm I) (h : JB I w0 m bw w S K f) (k x : Nat) (hk : k < 60) : JB I w0 m bw (w.setCell ⟨bw, k, none⟩ (.int .i64 (x : Int))) S K (fun j => if j = k then x else f j) := by
  obtain ⟨F, h1, h2, h3, h4, h5, h6⟩ := h
  refine ⟨F, Fc.kept h1 (by simp) (fun b hb => Below.heap_setCell _ _ _ _ (fun e => ?_)), h2, h3.setCell h5 _, h4, h5, h6.put k x hk⟩
  simp at e
  exact h4 (e ▸ hb)
theorem JB.more {f' : Nat → Nat} (h : JB I w0 m bw w S K f) (hf : ∀ k, k < 60 → f k = f' k) : JB I w0 m bw w S K f' := by
  obtain ⟨F, h1, h2, h3, h4, h5, arr, a1, a2, a3⟩ := h
  exact ⟨F, h1, h2, h3, h4, h5, arr, a1, a2, fun k hk => by rw [← hf k hk]; exact a3 k hk⟩
theorem JB.state (Fc : Face vm I) {a : Int} {x : Nat} (h : S.st a.toNat = x) (hj : JB I w0 m bw w S K f) (ha : two64 a) (hK : K ≤ lim) :
    Calls Try.prog vm.state #[.pointer (some m), .int .u64 a] w fun e w' => e = .returned (.int .i64 (x : Int)) ∧ JB I w0 m bw w' S K f := by
  obtain ⟨F, h1, h2, h3, h4, h5, h6⟩ := hj
  have := Fc.state a ha h1 hK
  rw [h] at this
  exact this.mono fun e w' ⟨he, hs⟩ => ⟨he, JB.step h2 h3 h4 h5 h6 hs⟩
/-- A call that was made: the space behind it, and what it cost. -/
def Went (I : Inv) (w0 : World) (m : Addr) (bw : Nat) (S' : Sp) (K : Nat) (f : Nat → Nat) (w' : World) : Prop := ∃ K', K' ≤ K + 100000000 ∧ JB I w0 m bw w' S' K' f
theorem cost_le {er n : Nat} (h : er = 0 → n < 100000000) : cost er n ≤ 100000000 := by
  unfold cost
  split
  · have := h (by assumption); omega
  · decide
theorem JB.reserve (Fc : Face vm I) {p n : Nat} (hj : JB I w0 m bw w S K f) (hp : p < 18446744073709551616) (hn : n < 18446744073709551616) (hl : n ≤ 134217728 → n ≤ 4096) (hK : K ≤ lim) :
    Calls Try.prog vm.reserve #[.pointer (some m), .int .u64 (p : Int), .int .u64 (n : Int)] w fun e w' => (∃ x y, e = .returned (.tuple #[.int .u64 x, .int .i64 y])) ∧ Went I w0 m bw (reserveS S p n).2.2 K f w' := by
  obtain ⟨F, h1, h2, h3, h4, h5, h6⟩ := hj
  refine (Fc.reserve (p : Int) (n : Int) (by unfold two64; omega) (by unfold two64; omega) h1 hK).mono fun e w' ⟨he, hs⟩ => ?_
  rw [Int.toNat_natCast, Int.toNat_natCast] at hs
  refine ⟨⟨_, _, he⟩, _, Nat.add_le_add_left (cost_le fun z => ?_) K, JB.step h2 h3 h4 h5 h6 hs⟩
  unfold reserveS at z
  split at z
  · cases z
  · have := hl (by omega); omega
theorem JB.commit (Fc : Face vm I) {p n : Nat} (hj : JB I w0 m bw w S K f) (hp : p < 18446744073709551616) (hn : n < 18446744073709551616) (hl : S.pgs.length ≤ 12000) (hK : K ≤ lim) :
    Calls Try.prog vm.commit #[.pointer (some m), .int .u64 (p : Int), .int .u64 (n : Int)] w fun e w' => (∃ y, e = .returned (.int .i64 y)) ∧ Went I w0 m bw (commitS S p n).2 K f w' := by
  have wf := hj.wf Fc
  obtain ⟨F, h1, h2, h3, h4, h5, h6⟩ := hj
  refine (Fc.commit (p : Int) (n : Int) (by unfold two64; omega) (by unfold two64; omega) h1 hK).mono fun e w' ⟨he, hs⟩ => ?_
  rw [Int.toNat_natCast, Int.toNat_natCast] at hs
  refine ⟨⟨_, he⟩, _, Nat.add_le_add_left (cost_le fun z => ?_) K, JB.step h2 h3 h4 h5 h6 hs⟩
  unfold commitS at z
  split at z
  · cases z
  · split at z
    · cases z
    · rename_i q
      have := row_le wf (Classical.not_not.1 q)
      omega
theorem JB.release (Fc : Face vm I) {p n : Nat} (hj : JB I w0 m bw w S K f) (hp : p < 18446744073709551616) (hn : n < 18446744073709551616) (hl : S.pgs.length ≤ 12000) (hK : K ≤ lim) :
    Calls Try.prog vm.release #[.pointer (some m), .int .u64 (p : Int), .int .u64 (n : Int)] w fun e w' => (∃ y, e = .returned (.int .i64 y)) ∧ Went I w0 m bw (releaseS S p n).2 K f w' := by
  have wf := hj.wf Fc
  obtain ⟨F, h1, h2, h3, h4, h5, h6⟩ := hj
  refine (Fc.release (p : Int) (n : Int) (by unfold two64; omega) (by unfold two64; omega) h1 hK).mono fun e w' ⟨he, hs⟩ => ?_
  rw [Int.toNat_natCast, Int.toNat_natCast] at hs
  refine ⟨⟨_, he⟩, _, Nat.add_le_add_left (cost_le fun z => ?_) K, JB.step h2 h3 h4 h5 h6 hs⟩
  unfold releaseS at z
  split at z
  · cases z
  · split at z
    · cases z
    · rename_i q
      have := row_le wf (fun i hi => by rw [Classical.not_not.1 q i hi]; decide)
      omega
theorem JB.store (Fc : Face vm I) {x n : Nat} (hj : JB I w0 m bw w S K f) (hp : x < 18446744073709551616) (hn : n < 18446744073709551616) (hK : K ≤ lim) :
    Calls Try.prog vm.store #[.pointer (some m), .int .u64 (x : Int), .int .u64 (n : Int)] w fun e w' => (∃ y, e = .returned (.int .i64 y)) ∧ Went I w0 m bw (storeS S x n).2 K f w' := by
  obtain ⟨F, h1, h2, h3, h4, h5, h6⟩ := hj
  refine (Fc.store (x : Int) (n : Int) (by unfold two64; omega) (by unfold two64; omega) h1 hK).mono fun e w' ⟨he, hs⟩ => ?_
  rw [Int.toNat_natCast, Int.toNat_natCast] at hs
  exact ⟨⟨_, he⟩, _, by omega, JB.step h2 h3 h4 h5 h6 hs⟩
theorem JB.zero (Fc : Face vm I) {x n : Nat} (hz : vm.zero ≠ 0) (hj : JB I w0 m bw w S K f) (hp : x < 18446744073709551616) (hn : n < 18446744073709551616) (hl : S.pgs.length ≤ 12000) (hK : K ≤ lim) :
    Calls Try.prog vm.zero #[.pointer (some m), .int .u64 (x : Int), .int .u64 (n : Int)] w fun e w' => (∃ y, e = .returned (.int .i64 y)) ∧ Went I w0 m bw (zeroS S x n).2 K f w' := by
  have wf := hj.wf Fc
  obtain ⟨F, h1, h2, h3, h4, h5, h6⟩ := hj
  refine (Fc.zero (x : Int) (n : Int) hz (by unfold two64; omega) (by unfold two64; omega) h1 hK).mono fun e w' ⟨he, hs⟩ => ?_
  rw [Int.toNat_natCast, Int.toNat_natCast] at hs
  refine ⟨⟨_, he⟩, _, Nat.add_le_add_left (cost_le fun z => ?_) K, JB.step h2 h3 h4 h5 h6 hs⟩
  unfold zeroS at z
  split at z
  · cases z
  · split at z
    · omega
    · split at z
      · cases z
      · rename_i q
        have := row_le wf (fun i hi => by rw [Classical.not_not.1 q i hi]; decide)
        omega
end Go.Proofs.Ytpceigglilgelaa
