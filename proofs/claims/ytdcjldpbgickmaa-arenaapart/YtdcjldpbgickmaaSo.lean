/- Package slices: a row of numbers that is sorted in place: how it lies; cmp.Less, insertionSortOrdered: contracts. -/
import Derived.Test.YtdcjldpbgickmaaOw
import Derived.Sort.AssemblyPlain
import Derived.Sort.Row
import Derived.CellFam
import Derived.Deep.Draws
import Derived.BigGuard
import Derived.BigCall
namespace Go.Proofs.Ytdcjldpbgickmaa
open Go.ChangeShapes Go.WideShapes Go.ChangeAt Go.RowKit Go.Shelf Go.Proofs.Rx Go.Maps
open Go.Sort (swp ltInt size_swp swp_left swp_right swp_other)
set_option linter.unusedVariables false
set_option linter.unusedSimpArgs false

/-- A row of numbers that lies from cell off of a block on; since w0 nothing else has turned. -/
structure RwU (blk off : Nat) (w0 : World) (d : Array Int) (W : World) : Prop where
  cell : ∀ t, t < d.size → W.cell? ⟨blk, off + t, none⟩ = some (.int .u64 d[t]!)
  fz : ∀ t, t < d.size → W.frozen? ⟨blk, off + t, none⟩ = false
  only : Only blk off d.size w0 W
  lt : blk < W.heap.size
section
variable {blk off : Nat} {w0 W W' : World} {d : Array Int}
theorem RwU.below (h : RwU blk off w0 d W) (k : Below W.heap.size W W') : RwU blk off w0 d W' :=
  ⟨fun t ht => (cell_block (k.block blk h.lt) _).trans (h.cell t ht), fun t ht => (fz_block (k.block blk h.lt)).trans (h.fz t ht), h.only.trans (Only.of_below k h.lt), Nat.lt_of_lt_of_le h.lt k.size⟩
theorem RwU.drew (h : RwU blk off w0 d W) : RwU blk off w0 d W.drew := h.below (drew_below W)
theorem RwU.drewN (h : RwU blk off w0 d W) (n : Nat) : RwU blk off w0 d (W.drewN n) := ⟨h.cell, h.fz, ⟨⟨h.only.kept.os, h.only.kept.tape, h.only.kept.output, h.only.kept.size, h.only.kept.block⟩, h.only.cell, h.only.fz⟩, h.lt⟩
theorem RwU.set (h : RwU blk off w0 d W) (i : Nat) (x : Int) (hi : i < d.size) : RwU blk off w0 (d.setIfInBounds i x) (W.setCell ⟨blk, off + i, none⟩ (.int .u64 x)) := by
  refine ⟨fun t ht => ?_, fun t ht => (World.frozen?_setCell W ⟨blk, off + i, none⟩ ⟨blk, off + t, none⟩ _).trans (h.fz t (by simpa using ht)), ?_, by have := h.lt; simpa using this⟩
  · rw [Array.size_setIfInBounds] at ht
    by_cases e : t = i
    · subst e
      rw [Go.Sort.getElem!_set_same d t x hi]
      exact World.cell?_setCell_same W _ _ (h.cell t hi)
    · rw [Go.Sort.getElem!_set_other d i t x e, World.cell?_setCell_other _ _ _ _ (by intro z; have := congrArg Addr.off z; simp at this; omega)]
      exact h.cell t ht
  · rw [Array.size_setIfInBounds]
    exact h.only.trans (only_set W (off + i) _ (by omega) (by omega))
theorem RwU.swap (h : RwU blk off w0 d W) (i j : Nat) (hi : i < d.size) (hj : j < d.size) :
    RwU blk off w0 (swp d i j) ((W.setCell ⟨blk, off + i, none⟩ (.int .u64 d[j]!)).setCell ⟨blk, off + j, none⟩ (.int .u64 d[i]!)) :=
  (h.set i d[j]! hi).set j d[i]! (by simpa using hj)
end
theorem drewN_below (W : World) (n : Nat) : Below W.heap.size W (W.drewN n) := ⟨rfl, rfl, rfl, Nat.le_refl _, fun _ _ => rfl⟩
theorem nan_any (x : Int) (w : World) : Calls Try.prog 53 #[.int .u64 x] w fun e w' => e = .returned (.bool false) ∧ w' = w := by
  go_enter Try.func53, Try.ntmps53
  go_wp2
  go_ret
  exact ⟨by simp, rfl⟩
theorem less_any (x y : Int) (w : World) : Calls Try.prog 43 #[.int .u64 x, .int .u64 y] w fun e w' => e = .returned (.bool (ltInt x y)) ∧ w' = w := by
  unfold ltInt
  go_enter Try.func43, Try.ntmps43
  go_wp2_with fail
  refine (nan_any x w).mono ?_
  rintro e w' ⟨rfl, hw⟩
  rw [hw]
  clear hw
  go_wp2_with fail
  go_ret
  exact ⟨rfl, rfl⟩

/-! ### Plain: a round of the two loops -/
section
variable {α : Type} [Inhabited α] (lt : α → α → Bool)
theorem ins_on (a j : Nat) (d : Array α) (hj : a < j) (hl : lt d[j]! d[j - 1]! = true) : Go.Sort.insInner lt a j d = Go.Sort.insInner lt a (j - 1) (swp d j (j - 1)) := by
  obtain ⟨k, rfl⟩ : ∃ k, j = k + 1 := ⟨j - 1, by omega⟩
  have e : k + 1 - 1 = k := by omega
  rw [e] at hl ⊢
  rw [Go.Sort.insInner, if_pos (by simp [hj, hl])]
theorem ins_off (a j : Nat) (d : Array α) (h : j ≤ a ∨ lt d[j]! d[j - 1]! = false) : Go.Sort.insInner lt a j d = d := by
  cases j with
  | zero => rw [Go.Sort.insInner]
  | succ k =>
    have e : k + 1 - 1 = k := by omega
    rw [e] at h
    rw [Go.Sort.insInner, if_neg]
    intro z
    rw [Bool.and_eq_true, decide_eq_true_eq] at z
    rcases h with h | h
    · omega
    · rw [h] at z; cases z.2
end
set_option maxRecDepth 100000 in
set_option maxHeartbeats 1000000 in
theorem insertion_any {blk off : Nat} {w0 W : World} {d : Array Int} (h : RwU blk off w0 d W) (cap a b : Nat) (hab : a ≤ b) (hb : b ≤ d.size) (hsz : d.size < 4611686018427387904) :
    Calls Try.prog 37 #[.slice (some ⟨blk, off, none⟩) d.size cap, .int .i64 (a : Nat), .int .i64 (b : Nat)] W fun e W' => e = .returned (.tuple #[]) ∧ RwU blk off w0 (Go.Sort.insertionSort ltInt d a b) W' := by
  obtain ⟨n, hn⟩ : ∃ n, d.size = n := ⟨_, rfl⟩
  rw [hn] at hb hsz ⊢
  have H := hide h
  have HN := hide hn
  clear h hn
  go_enter Try.func37, Try.ntmps37
  go_wp2_with fail
  go_loopw [6] (fun vi X => ∃ (i : Nat) (e : Array Int), vi = .int .i64 (i : Nat) ∧ a < i ∧ i ≤ b + 1 ∧ Hid (e.size = n) ∧ Hid (RwU blk off w0 e X) ∧ Hid (Go.Sort.insOuter ltInt a b i e = Go.Sort.insOuter ltInt a b (a + 1) d)) (fun vi _ => b + 1 - (zi vi).toNat)
  case atStart => exact ⟨a + 1, d, by push_cast; rfl, by omega, by omega, HN, H, hide rfl⟩
  case round =>
    obtain ⟨i, e, rfl, h1, h2, HS, HE, HO⟩ := hrel
    by_cases c : i < b
    · have dc : decide ((i : Int) < (b : Int)) = true := decide_eq_true (by omega)
      go_wp2_with fail
      go_loopw [7] (fun vj Y => ∃ (j : Nat) (f : Array Int), vj = .int .i64 (j : Nat) ∧ a ≤ j ∧ j ≤ i ∧ Hid (f.size = n) ∧ Hid (RwU blk off w0 f Y) ∧ Hid (Go.Sort.insInner ltInt a j f = Go.Sort.insInner ltInt a i e)) (fun vj _ => (zi vj).toNat)
      case atStart => exact ⟨i, e, rfl, by omega, Nat.le_refl _, HS, HE, hide rfl⟩
      case round =>
        obtain ⟨j, f, rfl, g1, g2, FS, FE, FO⟩ := hrel
        obtain ⟨G, hG⟩ : ∃ G : Nat → Int, ∀ t, G t = f[t]! := ⟨fun t => f[t]!, fun _ => rfl⟩
        have hc : ∀ t, t < n → wr.cell? ⟨blk, off + t, none⟩ = some (.int .u64 (G t)) := fun t ht => by rw [hG]; exact FE.out.cell t (by rw [FS.out]; exact ht)
        have hf : ∀ t, t < n → wr.frozen? ⟨blk, off + t, none⟩ = false := fun t ht => FE.out.fz t (by rw [FS.out]; exact ht)
        have HG := hide hG
        clear hG
        have OUT := hide (show (j ≤ a ∨ ltInt f[j]! f[j - 1]! = false) → ∀ Y, Below wr.heap.size wr Y → ∃ (i' : Nat) (e' : Array Int), Value.int .i64 ((i : Int) + 1) = .int .i64 (i' : Nat) ∧ a < i' ∧ i' ≤ b + 1 ∧ Hid (e'.size = n) ∧ Hid (RwU blk off w0 e' Y) ∧ Hid (Go.Sort.insOuter ltInt a b i' e' = Go.Sort.insOuter ltInt a b (a + 1) d) from fun hs Y hY =>
          ⟨i + 1, f, by push_cast; rfl, by omega, by omega, FS, hide (FE.out.below hY), hide (by
            rw [← HO.out]
            conv => rhs; rw [Go.Sort.insOuter, if_pos c]
            rw [← FO.out, ins_off ltInt a j f hs])⟩)
        by_cases cj : a < j
        · have dj : decide ((a : Int) < (j : Int)) = true := decide_eq_true (by omega)
          go_wp2_with fail
          go_quiet (first | (go_at_call 43; refine Calls.quiet_of_same (less_any _ _ _)))
          cases hl : ltInt (G j) (G (j - 1)) with
          | true =>
            go_wp2_with fail
            go_region
            all_goals go_wp2_with fail
            have hg := HG.out
            refine ⟨⟨j - 1, swp f j (j - 1), by congr 1; omega, by omega, by omega, hide (by rw [size_swp]; exact FS.out), hide ?_, hide ?_⟩, ?_⟩
            · rw [hg, hg]
              exact (FE.out.drewN (nq + 1)).swap j (j - 1) (by rw [FS.out]; omega) (by rw [FS.out]; omega)
            · rw [← FO.out, ins_on ltInt a j f cj (by rw [← hg, ← hg]; exact hl)]
            · simp [zi]; omega
          | false =>
            go_wp2_with fail
            have hg := HG.out
            refine ⟨OUT.out (.inr (by rw [← hg, ← hg]; exact hl)) _ (drewN_below wr nq), ?_⟩
            simp [zi]; omega
        · have dj : decide ((a : Int) < (j : Int)) = false := decide_eq_false (by omega)
          go_wp2_with fail
          go_quiet (first | (go_at_call 43; refine Calls.quiet_of_same (less_any _ _ _)))
          go_wp2_with fail
          refine ⟨OUT.out (.inl (by omega)) _ (drewN_below wr nq), ?_⟩
          simp [zi]; omega
    · have dc : decide ((i : Int) < (b : Int)) = false := decide_eq_false (by omega)
      go_wp2_with fail
      go_end0
      refine ⟨rfl, ?_⟩
      have e1 : Go.Sort.insertionSort ltInt d a b = e := by
        unfold Go.Sort.insertionSort
        rw [← HO.out, Go.Sort.insOuter, if_neg c]
      rw [e1]
      exact HE.out
end Go.Proofs.Ytdcjldpbgickmaa
