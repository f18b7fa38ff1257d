/- The landed package's words: zeroPart. -/
import Derived.Test.YtpceigglilgelaaVmZ
import Derived.Test.YtpceigglilgelaaOps
namespace Go.Proofs.Ytpceigglilgelaa
open Go.ChangeShapes Go.WideShapes Go.ChangeAt Go.RowKit Go.Proofs.Sp Go.Maps

theorem zc1 (n : Nat) : (Builtin.zeroCells (Value.int .u64 0).cells n).toList = List.replicate n (.int .u64 0) := by
  apply List.eq_replicate_iff.2
  refine ⟨by simp [size_zeroCells, Value.cells], fun v hv => ?_⟩
  simp only [Builtin.zeroCells, Array.toList_map, List.mem_map] at hv
  obtain ⟨i, hi, rfl⟩ := hv
  simp [Value.cells, Nat.mod_one]
/-- Behind a page's array turned. -/
theorem WNow.over {w w' : World} {b bp bf n : Nat} {MP MF : Nat → Nat} {Z : Nat → Prop} {W : Nat → Nat → Nat} {MP' MF' : Nat → Nat} {A' : Nat → Nat → Nat} (h : WNow w w' b bp bf n MP MF Z W MP' MF' A') {p a : Nat} (ha : MP' p = a + 1) {f : Nat → Nat} {w'' : World} (hA : ArrAt w'' a f)
    (hg : w'.grownBy w'' (some a)) : WNow w w'' b bp bf n MP MF Z (fun q j => if q = p then f j else W q j) MP' MF' (fun q => if q = p then f else A' q) := by
  have sp := h.wm.sep p (by omega)
  rw [ha, Nat.add_sub_cancel] at sp
  have nb : ∀ y, y < w'.heap.size → y ≠ a → w''.heap[y]? = w'.heap[y]? := fun y hy hn => hg.block y hy (by simpa using hn)
  have hbl := cell_lt h.wm.c8
  refine ⟨⟨?_, ?_, h.wm.mp.kept (nb bp h.wm.mp.lt (fun e => sp.2.1 e.symm)), h.wm.mf.kept (nb bf h.wm.mf.lt (fun e => sp.2.2 e.symm)), fun q hq => ?_, h.wm.one, h.wm.sep, h.wm.ne⟩, fun q j hj => ?_, ?_, h.old, h.non⟩
  · rw [World.cell?_of_block (nb b hbl (fun e => sp.1 e.symm))]; exact h.wm.c8
  · rw [World.cell?_of_block (nb b hbl (fun e => sp.1 e.symm))]; exact h.wm.c9
  · by_cases c : q = p
    · subst c
      simp only [if_true]
      rw [ha, Nat.add_sub_cancel]
      exact hA
    · simp only [if_neg c]
      have ar := h.wm.arr q hq
      exact ar.kept (nb _ ar.lt (fun e => c (h.wm.one q p hq (by omega))))
  · have h0 := h.at_ q j hj
    unfold wordAt at h0 ⊢
    by_cases c : q = p
    · subst c
      have : MP' q ≠ 0 := by omega
      simp only [if_neg this, if_true]
    · simp only [c, if_false]
      exact h0
  · refine ⟨hg.os.trans h.fr.os, hg.tape.trans h.fr.tape, hg.output.trans h.fr.output, Nat.le_trans h.fr.size hg.size, fun x hx hn => ?_⟩
    rw [nb x (Nat.lt_of_lt_of_le hx h.fr.size)]
    · exact h.fr.block x hx hn
    · rintro rfl
      rcases h.old p (by omega) with ⟨r, hr⟩ | hr
      · exact hn (Or.inr (Or.inr ⟨r, by omega⟩))
      · omega
theorem arr_clear {w : World} {a : Nat} {f : Nat → Nat} (h : ArrAt w a f) (s t cap : Nat) (hst : s < t) (ht : t ≤ 1024) (ty : TypeId) :
    ∃ w', (Builtin.clear_ #[22] ty #[.slice (some ⟨a, s, none⟩) (t - s) cap]).run Try.prog w = .ok (.tuple #[]) w' ∧ ArrAt w' a (fun j => if s ≤ j ∧ j < t then 0 else f j) ∧ w.grownBy w' (some a) := by
  obtain ⟨arr, h1, h2, h3⟩ := h
  have hrun := run_clear_sized (P := Try.prog) w 22 ty 23 a s (t - s) cap arr.toArray 118 (.int .u64 0) Try.underlying22 (zeroU w) (by omega) h1 (by simp [Value.cells, h2]; omega) (fun v hv => by rw [zc1] at hv; rw [(List.mem_replicate.1 hv).2]; rfl)
  refine ⟨_, hrun, ⟨_, setRow_heap w a _ _ _ _ h1, ?_, fun j hj => ?_⟩, ⟨rfl, rfl, rfl, by simp, fun k _ hk => setRow_other w a k _ (fun e => hk (by rw [e]))⟩⟩
  · rw [zc1]; simp [h2, Value.cells]; omega
  · rw [zc1]
    simp only [Value.cells, List.size_toArray, List.length_singleton, Nat.mul_one]
    show _ = some (Value.int .u64 ((if s ≤ j ∧ j < t then 0 else f j : Nat) : Int))
    by_cases c1 : j < s
    · rw [if_neg (by omega), List.append_assoc, List.getElem?_append_left (by simp; omega), List.getElem?_take, if_pos c1]
      exact h3 j hj
    · by_cases c2 : j < t
      · rw [if_pos ⟨by omega, c2⟩, List.getElem?_append_left (by simp; omega), List.getElem?_append_right (by simp; omega), List.getElem?_replicate, if_pos (by simp; omega)]
        rfl
      · rw [if_neg (by omega), List.getElem?_append_right (by simp; omega), List.getElem?_drop]
        have e : (List.take s arr.toArray.toList ++ List.replicate (t - s) (Value.int .u64 0)).length = t := by simp; omega
        rw [e, show s + (t - s) + (j - t) = j by omega]
        exact h3 j hj
set_option maxRecDepth 100000 in
set_option maxHeartbeats 2000000 in
theorem wpart_core (b bp bf n p s t : Nat) (MP MF : Nat → Nat) (A : Nat → Nat → Nat) (w : World) (h : WordsM w b bp bf n MP MF A) (hn : n ≤ 4398046511104) (hp : p < 18446744073709551616) (hst : s ≤ t) (ht : t ≤ 1024) :
    Calls Try.prog 78 #[.pointer (some ⟨b, 8, none⟩), .int .u64 (p : Int), .int .u64 (s : Int), .int .u64 (t : Int)] w fun e w' => e = .returned (.tuple #[]) ∧ Hid (WPost w w' b bp bf (n + 1) MP MF (fun _ => True) (fun q j => if q = p ∧ s ≤ j ∧ j < t then 0 else wordAt MP MF A q j)) := by
  have c8 := h.c8
  have c9 := h.c9
  by_cases e0 : s = t
  · subst e0
    have FIN : Hid (WPost w w b bp bf (n + 1) MP MF (fun _ => True) (fun q j => if q = p ∧ s ≤ j ∧ j < s then 0 else wordAt MP MF A q j)) :=
      hide ⟨_, _, _, (WNow.refl h _).weak (by omega) (fun _ h => h) (fun q k _ => by rw [if_neg (by omega)])⟩
    clear h
    go_enter Try.func78, Try.ntmps78
    go_wp2_with fail
    ((try simp only [Exit.inBlock, Exit.then]); refine bodyPost_ret (results_none rfl _ _ _) rfl ?_)
    exact ⟨rfl, FIN⟩
  · have be : ((s : Int) == (t : Int)) = false := by simp; omega
    have hlt : s < t := by omega
    obtain ⟨v, hrun, hv⟩ := look_ptr h.mp p hp
    have hnum := look_num h.mf p hp
    have work : (MP p = 0 → MF p ≠ 0) → Calls Try.prog 78 #[.pointer (some ⟨b, 8, none⟩), .int .u64 (p : Int), .int .u64 (s : Int), .int .u64 (t : Int)] w fun e w' => e = .returned (.tuple #[]) ∧ Hid (WPost w w' b bp bf (n + 1) MP MF (fun _ => True) (fun q j => if q = p ∧ s ≤ j ∧ j < t then 0 else wordAt MP MF A q j)) := by
      intro hh
      have HH := hide hh
      have AC := hide (array_core b bp bf n p MP MF A w h hp hn)
      have s1 : (s : Int) ≤ (t : Int) := by omega
      have t1 : (t : Int) ≤ 1024 := by omega
      have FIN : Hid (∀ (w' : World) (y : Nat) (MP' MF' : Nat → Nat) (A' : Nat → Nat → Nat), MP' p = y + 1 → WNow w w' b bp bf (n + 1) MP MF (fun q => q ≠ p) (wordAt MP MF A) MP' MF' A' → ∃ w2, (Builtin.clear_ #[22] 0 #[.slice (some ⟨y, s, none⟩) (t - s) (1024 - s)]).run Try.prog w' = .ok (.tuple #[]) w2 ∧ Hid (WPost w w2 b bp bf (n + 1) MP MF (fun _ => True) (fun q j => if q = p ∧ s ≤ j ∧ j < t then 0 else wordAt MP MF A q j)) ∧ True) := by
        refine hide (fun w' y MP' MF' A' hy hN => ?_)
        have ar := hN.wm.arr p (by omega)
        rw [hy, Nat.add_sub_cancel] at ar
        obtain ⟨w2, hrun2, hA2, hg2⟩ := arr_clear ar s t (1024 - s) hlt ht 0
        have := hN.over hy hA2 hg2
        refine ⟨w2, hrun2, hide ⟨MP', MF', _, this.wm, fun q j hj => ?_, this.fr, this.old, fun q _ a c => ?_⟩, trivial⟩
        · rw [this.at_ q j hj]
          by_cases c : q = p
          · subst c
            simp only [if_true, true_and]
            have := hN.at_ q j hj
            unfold wordAt at this
            rw [if_neg (by omega)] at this
            rw [this]
            rfl
          · simp only [c, if_false, false_and]
        · have : q ≠ p := by rintro rfl; exact hh a c
          exact hN.non q this a c
      rcases hv with ⟨hz, rfl⟩ | ⟨x, hx, rfl⟩
      · have hm := hh hz
        have bx : ((MF p : Int) == 0) = false := by simp; omega
        clear h hh hm
        go_enter Try.func78, Try.ntmps78
        go_wp2_with (go_at_call 77; refine AC.out.mono ?_; rintro e w' ⟨y, MP', MF', A', rfl, hy, hN⟩; obtain ⟨w2, hcl, hA2, hg2⟩ := FIN.out w' y MP' MF' A' hy.out hN.out)
        go_end0
        exact ⟨rfl, hA2⟩
      · clear h hh hx hnum
        go_enter Try.func78, Try.ntmps78
        go_wp2_with (go_at_call 77; refine AC.out.mono ?_; rintro e w' ⟨y, MP', MF', A', rfl, hy, hN⟩; obtain ⟨w2, hcl, hA2, hg2⟩ := FIN.out w' y MP' MF' A' hy.out hN.out)
        go_end0
        exact ⟨rfl, hA2⟩
    by_cases c : MP p = 0
    · by_cases d : MF p = 0
      · rcases hv with ⟨hz, rfl⟩ | ⟨x, hx, rfl⟩
        · have FIN : Hid (WPost w w b bp bf (n + 1) MP MF (fun _ => True) (fun q j => if q = p ∧ s ≤ j ∧ j < t then 0 else wordAt MP MF A q j)) :=
            hide ⟨_, _, _, (WNow.refl h _).weak (by omega) (fun _ h => h) (fun q k _ => by
              by_cases e : q = p
              · subst e; unfold wordAt; rw [if_pos c, d]; simp
              · simp [e])⟩
          rw [d] at hnum
          clear h work
          go_enter Try.func78, Try.ntmps78
          go_wp2_with fail
          ((try simp only [Exit.inBlock, Exit.then]); refine bodyPost_ret (results_none rfl _ _ _) rfl ?_)
          exact ⟨rfl, FIN⟩
        · omega
      · exact work (fun _ => d)
    · exact work (fun z => absurd z c)
end Go.Proofs.Ytpceigglilgelaa
