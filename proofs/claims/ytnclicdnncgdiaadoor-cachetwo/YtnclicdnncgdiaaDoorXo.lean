/- Package radix: chunk, setInChunk: contracts. -/
import Derived.Test.YtnclicdnncgdiaaDoorXn
namespace Go.Proofs.YtnclicdnncgdiaaDoor
open Go.ChangeShapes Go.WideShapes Go.ChangeAt Go.RowKit Go.Proofs.Bt Go.Shelf Go.Proofs.Rx Go.Maps
set_option linter.unusedVariables false
set_option linter.unusedSimpArgs false

theorem chunk_kept {w : World} {T : Tid} {L : Lv} {C : Ch} (h : RadAt w T L C) (i s : Nat) (hi : i < 18446744073709551616) {blk : Nat} {c : Nat → Nat} (hc : C i = some (blk, c)) :
    Calls Tryd.prog 42 #[tp T, .int .u64 (i : Nat), .int .i64 (s : Nat)] w fun e w' => e = .returned (.pointer (some ⟨blk, 0, none⟩)) ∧ w' = w := by
  have hl := h.cm.looks tyC (zeroC _) i hi
  rw [hc] at hl
  simp only [Option.map_some, valO, encC, Option.isSome_some] at hl
  have c1 := h.c1
  clear h hc
  unfold tp
  go_enter Tryd.func42, Tryd.ntmps42
  go_wp2_with fail
  go_ret
  exact ⟨rfl, rfl⟩
theorem chunk_new {w : World} {T : Tid} {L : Lv} {C : Ch} (h : RadAt w T L C) (i s : Nat) (hi : i < 18446744073709551616) (hs : 1 ≤ s ∧ s ≤ 3) (hc : C i = none) :
    Calls Tryd.prog 42 #[tp T, .int .u64 (i : Nat), .int .i64 (s : Nat)] w fun e w' => e = .returned (.pointer (some ⟨w.heap.size, 0, none⟩)) ∧ ChS w' w.heap.size (fun _ => s) ∧ Below w.heap.size w w' := by
  have hl := h.cm.looks tyC (zeroC _) i hi
  rw [hc] at hl
  simp only [Option.map_none, valO, encC, Option.isSome_none] at hl
  have c1 := h.c1
  have CN := newC_any w
  have CL := fun W b (hW : ChS W b (fun _ => 3)) => hide (lay_any b (fun _ => 3) W hW 0 512 s (by omega) (by omega) hs (.inr (fun _ _ _ z => by cases z)))
  obtain ⟨N, hN⟩ : ∃ N, w.heap.size = N := ⟨_, rfl⟩
  obtain ⟨R, hR⟩ : ∃ R, R = (fun (e : Ending) (w' : World) => e = .returned (.pointer (some ⟨w.heap.size, 0, none⟩)) ∧ ChS w' w.heap.size (fun _ => s) ∧ Below w.heap.size w w') := ⟨_, rfl⟩
  rw [← hR]
  have HR := hide hR
  have HN := hide hN
  simp only [Int.cast_ofNat_Int] at CL
  clear h hc hR
  unfold tp
  go_enter Tryd.func42, Tryd.ntmps42
  go_wp2_with fail
  refine CN.mono ?_
  rintro e w1 ⟨rfl, hch, b1⟩
  have s1 : ChS w1 w.heap.size (fun _ => 3) := ⟨hch.congr (fun k hk => by simp) (fun k hk => by unfold setF; simp; omega), fun _ _ => by decide, fun _ _ => by decide⟩
  have S1 := hide s1
  have B1 := hide b1
  clear s1 b1 hch CN c1 hl
  go_wp2_with fail
  try rw [hN] at S1
  refine (CL _ _ S1.out).out.mono ?_
  rintro e w2 ⟨rfl, s2, k2⟩
  have F := hide (show R (.returned (.pointer (some ⟨N, 0, none⟩))) w2 from by
    rw [HR.out, HN.out]
    refine ⟨rfl, s2.congr (fun k hk => by unfold laid; rw [if_pos (by omega)]), ?_⟩
    have := B1.out
    rw [HN.out] at this
    exact below_kept this k2 (fun x hx => by omega) (by have := this.size; rw [HN.out] at this; exact this))
  clear s2 k2 S1 B1 CL
  go_wp2_with fail
  first | exact F.out | (go_ret; exact F.out)
/-- A chunk is kept. -/
def putC (C : Ch) (i : Nat) (x : Nat × (Nat → Nat)) : Ch := fun j => if j = i then some x else C j
theorem putC_same (C : Ch) (i : Nat) (x : Nat × (Nat → Nat)) : putC C i x i = some x := by unfold putC; rw [if_pos rfl]
theorem putC_other {C : Ch} {i j : Nat} {x : Nat × (Nat → Nat)} (h : j ≠ i) : putC C i x j = C j := by unfold putC; rw [if_neg h]
theorem RadAt.upC {w w' : World} {T : Tid} {L : Lv} {C : Ch} (h : RadAt w T L C) {i blk : Nat} {c' : Nat → Nat} (hm : MapG encC w' T.cm (fun q => if q = i then some blk else (C q).map (·.1))) (hc : ChS w' blk c') (k : Kept (fun x => x = T.cm ∨ x = blk) w w')
    (hb : (∃ c, C i = some (blk, c)) ∨ (¬ Foot T C blk ∧ T.B ≤ blk)) : RadAt w' T L (putC C i (blk, c')) := by
  have two := h.two
  have bcm := h.base T.cm (.inl (.inl rfl))
  have bB : T.B ≤ blk := by
    rcases hb with ⟨c, e⟩ | ⟨_, e⟩
    · exact h.base _ (.inl (.inr (.inr ⟨i, blk, c, e, rfl⟩)))
    · exact e
  have ncm : blk ≠ T.cm := by
    rcases hb with ⟨c, e⟩ | ⟨e, _⟩
    · exact (h.apB i blk c e).1
    · exact fun z => e (.inl (.inl z))
  have nmp : ∀ d, d ≤ 6 → blk ≠ T.mp d := fun d hd => by
    rcases hb with ⟨c, e⟩ | ⟨e, _⟩
    · exact (h.apB i blk c e).2 d hd
    · exact fun z => e (.inl (.inr (.inl ⟨d, hd, z⟩)))
  have ntb : T.tb ≠ blk := by
    rcases hb with ⟨c, e⟩ | ⟨e, _⟩
    · exact fun z => h.apT.1 (.inr (.inr ⟨i, blk, c, e, z⟩))
    · exact fun z => e (.inr (.inl z.symm))
  have nlb : T.lb ≠ blk := by
    rcases hb with ⟨c, e⟩ | ⟨e, _⟩
    · exact fun z => h.apT.2 (.inr (.inr ⟨i, blk, c, e, z⟩))
    · exact fun z => e (.inr (.inr z.symm))
  have noth : ∀ j b c, j ≠ i → C j = some (b, c) → b ≠ blk := fun j b c hj e z => by
    rcases hb with ⟨c0, e0⟩ | ⟨e0, _⟩
    · rw [z] at e; exact hj (h.inj j i blk c c0 e e0)
    · exact e0 (.inl (.inr (.inr ⟨j, b, c, e, z.symm⟩)))
  have t0 : T.tb ≠ T.cm := fun z => h.apT.1 (.inl z)
  have l0 : T.lb ≠ T.cm := fun z => h.apT.2 (.inl z)
  have bl : ∀ {x}, x < w.heap.size → x ≠ T.cm → x ≠ blk → w'.heap[x]? = w.heap[x]? := fun hx h1 h2 => k.block _ hx (fun z => z.elim h1 h2)
  have bt := bl (h.lt (x := T.tb) (.inr (.inl rfl))) t0 ntb
  have blb := bl (h.lt (x := T.lb) (.inr (.inr rfl))) l0 nlb
  have cs : ∀ j b c, putC C i (blk, c') j = some (b, c) → (j = i ∧ b = blk ∧ c = c') ∨ (j ≠ i ∧ C j = some (b, c)) := fun j b c e => by
    by_cases z : j = i
    · rw [z, putC_same] at e; cases e; exact .inl ⟨z, rfl, rfl⟩
    · rw [putC_other z] at e; exact .inr ⟨z, e⟩
  have wr : ∀ x, Wr T (putC C i (blk, c')) x → Wr T C x ∨ x = blk := fun x hx => by
    rcases hx with e | ⟨d, hd, e⟩ | ⟨j, b, c, hc, e⟩
    · exact .inl (.inl e)
    · exact .inl (.inr (.inl ⟨d, hd, e⟩))
    · rcases cs j b c hc with ⟨_, e1, _⟩ | ⟨_, e1⟩
      · exact .inr (e.trans e1)
      · exact .inl (.inr (.inr ⟨j, b, c, e1, e⟩))
  refine ⟨h.tab.kept k ⟨by omega, by omega⟩, (cell_block bt 0).trans h.c0, (cell_block bt 1).trans h.c1, fun d' hd' => (cell_block blb d').trans (h.lv d' hd'), fun d' hd' => (h.mp d' hd').kept (bl (h.mp d' hd').lt (h.apC d' hd') (fun z => nmp d' hd' z.symm)), ?_, fun j b c e => ?_, h.apM, h.apC, ⟨fun z => (wr _ z).elim h.apT.1 ntb, fun z => (wr _ z).elim h.apT.2 nlb⟩, fun j b c e => ?_, fun j j' b c c1 e e' => ?_, fun x hx => ?_, h.two⟩
  · have : (fun j => (putC C i (blk, c') j).map (·.1)) = fun q => if q = i then some blk else (C q).map (·.1) := by
      funext q
      by_cases z : q = i
      · rw [z, putC_same, if_pos rfl]; rfl
      · rw [putC_other z, if_neg z]
    rw [this]; exact hm
  · rcases cs j b c e with ⟨_, e1, e2⟩ | ⟨e1, e2⟩
    · rw [e1, e2]; exact hc
    · exact (h.ch j b c e2).kept k (fun z => z.elim (h.apB j b c e2).1 (noth j b c e1 e2))
  · rcases cs j b c e with ⟨_, e1, e2⟩ | ⟨e1, e2⟩
    · rw [e1]; exact ⟨ncm, nmp⟩
    · exact h.apB j b c e2
  · rcases cs j b c e with ⟨z, e1, e2⟩ | ⟨e1, e2⟩
    · rcases cs j' b c1 e' with ⟨z', _, _⟩ | ⟨e3, e4⟩
      · rw [z, z']
      · exact absurd e1 (noth j' b c1 e3 e4)
    · rcases cs j' b c1 e' with ⟨z', e3, _⟩ | ⟨e3, e4⟩
      · exact absurd e3 (noth j b c e1 e2)
      · exact h.inj j j' b c c1 e2 e4
  · rcases hx with hx | hx
    · rcases wr x hx with hx | hx
      · exact h.base x (.inl hx)
      · rw [hx]; exact bB
    · exact h.base x (.inr hx)
end Go.Proofs.YtnclicdnncgdiaaDoor
