/- The landed package's words: zeroPart. -/
import Derived.Test.YtpceigglilgelabVmZ
import Derived.Test.YtpceigglilgelabOps
namespace Go.Proofs.Ytpceigglilgelab
open Go.ChangeShapes Go.WideShapes Go.ChangeAt Go.RowKit Go.Proofs.Sp Go.Maps

theorem zc1 (n : Nat) : (Builtin.zeroCells (Value.int .u64 0).cells n).toList = List.replicate n (.int .u64 0) := by
  apply List.eq_replicate_iff.2
  refine ⟨by simp [size_zeroCells, Value.cells], fun v hv => ?_⟩
  simp only [Builtin.zeroCells, Array.toList_map, List.mem_map] at hv
  obtain ⟨i, hi, rfl⟩ := hv
  simp [Value.cells, Nat.mod_one]
/-- Behind a page's array turned. -/
theorem WNow.over {w w' : World} {b bp bf n : Nat} {MP MF : Nat → Nat} {Z : Nat → Prop} {W : Nat → Nat → Nat} {MP' MF' : Nat → Nat} {A' : Nat → Nat → Nat} (h : WNow w w' b bp bf n MP MF Z W MP' MF' A') {p a : Nat} (ha : MP' p = a + 1) {f : Nat → Nat} {w'' : World} (hA : ArrAt w'' a f)
    (hg : w'.grownBy w'' (some a)) : WNow w w'' b bp bf n MP MF Z (fun q j => if q = p then f j else W q j) MP' MF' (fun q => if q = p then f else A' q) := by
  have sp := h.wm.sep p (by omega)
  rw [ha, Nat.add_sub_cancel] at sp
  have nb : ∀ y, y < w'.heap.size → y ≠ a → w''.heap[y]? = w'.heap[y]? := fun y hy hn => hg.block y hy (by simpa using hn)
  have hbl := cell_lt h.wm.c8
  refine ⟨⟨?_, ?_, h.wm.mp.kept (nb bp h.wm.mp.lt (fun e => sp.2.1 e.symm)), h.wm.mf.kept (nb bf h.wm.mf.lt (fun e => sp.2.2 e.symm)), fun q hq => ?_, h.wm.one, h.wm.sep, h.wm.ne⟩, fun q j hj => ?_, ?_, h.old, h.non⟩
  · rw [World.cell?_of_block (nb b hbl (fun e => sp.1 e.symm))]; exact h.wm.c8
  · rw [World.cell?_of_block (nb b hbl (fun e => sp.1 e.symm))]; exact h.wm.c9
  · by_cases c : q = p
    · subst c
      simp only [if_true]
      rw [ha, Nat.add_sub_cancel]
      exact hA
    · simp only [if_neg c]
      have ar := h.wm.arr q hq
      exact ar.kept (nb _ ar.lt (fun e => c (h.wm.one q p hq (by omega))))
  · have h0 := h.at_ q j hj
    unfold wordAt at h0 ⊢
    by_cases c : q = p
    · subst c
      have : MP' q ≠ 0 := by omega
      simp only [if_neg this, if_true]
    · simp only [c, if_false]
      exact h0
  · refine ⟨hg.os.trans h.fr.os, hg.tape.trans h.fr.tape, hg.output.trans h.fr.output, Nat.le_trans h.fr.size hg.size, fun x hx hn => ?_⟩
    rw [nb x (Nat.lt_of_lt_of_le hx h.fr.size)]
    · exact h.fr.block x hx hn
    · rintro rfl
      rcases h.old p (by omega) with ⟨r, hr⟩ | hr
      · exact hn (Or.inr (Or.inr ⟨r, by omega⟩))
      · omega
theorem arr_clear {w : World} {a : Nat} {f : Nat → Nat} (h : ArrAt w a f) (s t cap : Nat) (hst : s < t) (ht : t ≤ 1024) (ty : TypeId) :
    ∃ w', (Builtin.clear_ #[26] ty #[.slice (some ⟨a, s, none⟩) (t - s) cap]).run Try.prog w = .ok (.tuple #[]) w' ∧ ArrAt w' a (fun j => if s ≤ j ∧ j < t then 0 else f j) ∧ w.grownBy w' (some a) := by
  obtain ⟨arr, h1, h2, h3⟩ := h
  have hrun := run_clear_sized (P := Try.prog) w 26 ty 22 a s (t - s) cap arr.toArray 97 (.int .u64 0) Try.underlying26 (zeroU w) (by omega) h1 (by simp [Value.cells, h2]; omega) (fun v hv => by rw [zc1] at hv; rw [(List.mem_replicate.1 hv).2]; rfl)
  refine ⟨_, hrun, ⟨_, setRow_heap w a _ _ _ _ h1, ?_, fun j hj => ?_⟩, ⟨rfl, rfl, rfl, by simp, fun k _ hk => setRow_other w a k _ (fun e => hk (by rw [e]))⟩⟩
  · rw [zc1]; simp [h2, Value.cells]; omega
  · rw [zc1]
    simp only [Value.cells, List.size_toArray, List.length_singleton, Nat.mul_one]
    show _ = some (Value.int .u64 ((if s ≤ j ∧ j < t then 0 else f j : Nat) : Int))
    by_cases c1 : j < s
    · rw [if_neg (by omega), List.append_assoc, List.getElem?_append_left (by simp; omega), List.getElem?_take, if_pos c1]
      exact h3 j hj
    · by_cases c2 : j < t
      · rw [if_pos ⟨by omega, c2⟩, List.getElem?_append_left (by simp; omega), List.getElem?_append_right (by simp; omega), List.getElem?_replicate, if_pos (by simp; omega)]
        rfl
      · rw [if_neg (by omega), List.getElem?_append_right (by simp; omega), List.getElem?_drop]
        have e : (List.take s arr.toArray.toList ++ List.replicate (t - s) (Value.int .u64 0)).length = t := by simp; omega
        rw [e, show s + (t - s) + (j - t) = j by omega]
        exact h3 j hj
end Go.Proofs.Ytpceigglilgelab
