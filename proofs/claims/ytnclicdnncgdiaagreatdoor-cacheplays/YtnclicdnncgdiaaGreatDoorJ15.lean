/- J15 of the proof of both laws: texts Xo, Xs, Md, one behind the other. -/
import Derived.Test.YtnclicdnncgdiaaGreatDoorJ14
import Derived.Test.YtnclicdnncgdiaaGreatDoorRows
import Derived.Test.YtnclicdnncgdiaaGreatDoorJ02
import Derived.WalkKit
import Derived.ProofKit
import Derived.OpenShut
import Derived.WalkLawsBesides
import Derived.Deep.Draws
import Derived.Deep.QuietTactic
import Derived.Deep.AppendLies
import Derived.Deep.RegionHeld3
import Derived.Deep.RegionLaw
import Derived.Laws.AppendOwnNone
import Derived.Laws.OwnMore
import Derived.StillTailTactics
import Derived.BigQuiet
import Derived.Outline
import Derived.Maps.AppendAt
import Derived.Carry
import Derived.ChangeSlices
import Derived.Deep.Slices
import Derived.Deep.Strs
/- Package radix: chunk, setInChunk: contracts. -/
namespace Go.Proofs.YtnclicdnncgdiaaGreatDoor
open Go.ChangeShapes Go.WideShapes Go.ChangeAt Go.RowKit Go.Proofs.Bt Go.Shelf Go.Proofs.Rx Go.Maps
set_option linter.unusedVariables false
set_option linter.unusedSimpArgs false

theorem chunk_kept {w : World} {T : Tid} {L : Lv} {C : Ch} (h : RadAt w T L C) (i s : Nat) (hi : i < 18446744073709551616) {blk : Nat} {c : Nat → Nat} (hc : C i = some (blk, c)) :
    Calls Tryz.prog 86 #[tp T, .int .u64 (i : Nat), .int .i64 (s : Nat)] w fun e w' => e = .returned (.pointer (some ⟨blk, 0, none⟩)) ∧ w' = w := by
  have hl := h.cm.looks tyC (zeroC _) i hi
  rw [hc] at hl
  simp only [Option.map_some, valO, encC, Option.isSome_some] at hl
  have c1 := h.c1
  clear h hc
  unfold tp
  go_enter Tryz.func86, Tryz.ntmps86
  go_wp2_with fail
  go_ret
  exact ⟨rfl, rfl⟩
theorem chunk_new {w : World} {T : Tid} {L : Lv} {C : Ch} (h : RadAt w T L C) (i s : Nat) (hi : i < 18446744073709551616) (hs : 1 ≤ s ∧ s ≤ 3) (hc : C i = none) :
    Calls Tryz.prog 86 #[tp T, .int .u64 (i : Nat), .int .i64 (s : Nat)] w fun e w' => e = .returned (.pointer (some ⟨w.heap.size, 0, none⟩)) ∧ ChS w' w.heap.size (fun _ => s) ∧ Below w.heap.size w w' := by
  have hl := h.cm.looks tyC (zeroC _) i hi
  rw [hc] at hl
  simp only [Option.map_none, valO, encC, Option.isSome_none] at hl
  have c1 := h.c1
  have CN := newC_any w
  have CL := fun W b (hW : ChS W b (fun _ => 3)) => hide (lay_any b (fun _ => 3) W hW 0 512 s (by omega) (by omega) hs (.inr (fun _ _ _ z => by cases z)))
  obtain ⟨N, hN⟩ : ∃ N, w.heap.size = N := ⟨_, rfl⟩
  obtain ⟨R, hR⟩ : ∃ R, R = (fun (e : Ending) (w' : World) => e = .returned (.pointer (some ⟨w.heap.size, 0, none⟩)) ∧ ChS w' w.heap.size (fun _ => s) ∧ Below w.heap.size w w') := ⟨_, rfl⟩
  rw [← hR]
  have HR := hide hR
  have HN := hide hN
  simp only [Int.cast_ofNat_Int] at CL
  clear h hc hR
  unfold tp
  go_enter Tryz.func86, Tryz.ntmps86
  go_wp2_with fail
  refine CN.mono ?_
  rintro e w1 ⟨rfl, hch, b1⟩
  have s1 : ChS w1 w.heap.size (fun _ => 3) := ⟨hch.congr (fun k hk => by simp) (fun k hk => by unfold setF; simp; omega), fun _ _ => by decide, fun _ _ => by decide⟩
  have S1 := hide s1
  have B1 := hide b1
  clear s1 b1 hch CN c1 hl
  go_wp2_with fail
  try rw [hN] at S1
  refine (CL _ _ S1.out).out.mono ?_
  rintro e w2 ⟨rfl, s2, k2⟩
  have F := hide (show R (.returned (.pointer (some ⟨N, 0, none⟩))) w2 from by
    rw [HR.out, HN.out]
    refine ⟨rfl, s2.congr (fun k hk => by unfold laid; rw [if_pos (by omega)]), ?_⟩
    have := B1.out
    rw [HN.out] at this
    exact below_kept this k2 (fun x hx => by omega) (by have := this.size; rw [HN.out] at this; exact this))
  clear s2 k2 S1 B1 CL
  go_wp2_with fail
  first | exact F.out | (go_ret; exact F.out)
/-- A chunk is kept. -/
def putC (C : Ch) (i : Nat) (x : Nat × (Nat → Nat)) : Ch := fun j => if j = i then some x else C j
theorem putC_same (C : Ch) (i : Nat) (x : Nat × (Nat → Nat)) : putC C i x i = some x := by unfold putC; rw [if_pos rfl]
theorem putC_other {C : Ch} {i j : Nat} {x : Nat × (Nat → Nat)} (h : j ≠ i) : putC C i x j = C j := by unfold putC; rw [if_neg h]
theorem RadAt.upC {w w' : World} {T : Tid} {L : Lv} {C : Ch} (h : RadAt w T L C) {i blk : Nat} {c' : Nat → Nat} (hm : MapG encC w' T.cm (fun q => if q = i then some blk else (C q).map (·.1))) (hc : ChS w' blk c') (k : Kept (fun x => x = T.cm ∨ x = blk) w w')
    (hb : (∃ c, C i = some (blk, c)) ∨ (¬ Foot T C blk ∧ T.B ≤ blk)) : RadAt w' T L (putC C i (blk, c')) := by
  have two := h.two
  have bcm := h.base T.cm (.inl (.inl rfl))
  have bB : T.B ≤ blk := by
    rcases hb with ⟨c, e⟩ | ⟨_, e⟩
    · exact h.base _ (.inl (.inr (.inr ⟨i, blk, c, e, rfl⟩)))
    · exact e
  have ncm : blk ≠ T.cm := by
    rcases hb with ⟨c, e⟩ | ⟨e, _⟩
    · exact (h.apB i blk c e).1
    · exact fun z => e (.inl (.inl z))
  have nmp : ∀ d, d ≤ 6 → blk ≠ T.mp d := fun d hd => by
    rcases hb with ⟨c, e⟩ | ⟨e, _⟩
    · exact (h.apB i blk c e).2 d hd
    · exact fun z => e (.inl (.inr (.inl ⟨d, hd, z⟩)))
  have ntb : T.tb ≠ blk := by
    rcases hb with ⟨c, e⟩ | ⟨e, _⟩
    · exact fun z => h.apT.1 (.inr (.inr ⟨i, blk, c, e, z⟩))
    · exact fun z => e (.inr (.inl z.symm))
  have nlb : T.lb ≠ blk := by
    rcases hb with ⟨c, e⟩ | ⟨e, _⟩
    · exact fun z => h.apT.2 (.inr (.inr ⟨i, blk, c, e, z⟩))
    · exact fun z => e (.inr (.inr z.symm))
  have noth : ∀ j b c, j ≠ i → C j = some (b, c) → b ≠ blk := fun j b c hj e z => by
    rcases hb with ⟨c0, e0⟩ | ⟨e0, _⟩
    · rw [z] at e; exact hj (h.inj j i blk c c0 e e0)
    · exact e0 (.inl (.inr (.inr ⟨j, b, c, e, z.symm⟩)))
  have t0 : T.tb ≠ T.cm := fun z => h.apT.1 (.inl z)
  have l0 : T.lb ≠ T.cm := fun z => h.apT.2 (.inl z)
  have bl : ∀ {x}, x < w.heap.size → x ≠ T.cm → x ≠ blk → w'.heap[x]? = w.heap[x]? := fun hx h1 h2 => k.block _ hx (fun z => z.elim h1 h2)
  have bt := bl (h.lt (x := T.tb) (.inr (.inl rfl))) t0 ntb
  have blb := bl (h.lt (x := T.lb) (.inr (.inr rfl))) l0 nlb
  have cs : ∀ j b c, putC C i (blk, c') j = some (b, c) → (j = i ∧ b = blk ∧ c = c') ∨ (j ≠ i ∧ C j = some (b, c)) := fun j b c e => by
    by_cases z : j = i
    · rw [z, putC_same] at e; cases e; exact .inl ⟨z, rfl, rfl⟩
    · rw [putC_other z] at e; exact .inr ⟨z, e⟩
  have wr : ∀ x, Wr T (putC C i (blk, c')) x → Wr T C x ∨ x = blk := fun x hx => by
    rcases hx with e | ⟨d, hd, e⟩ | ⟨j, b, c, hc, e⟩
    · exact .inl (.inl e)
    · exact .inl (.inr (.inl ⟨d, hd, e⟩))
    · rcases cs j b c hc with ⟨_, e1, _⟩ | ⟨_, e1⟩
      · exact .inr (e.trans e1)
      · exact .inl (.inr (.inr ⟨j, b, c, e1, e⟩))
  refine ⟨h.tab.kept k ⟨by omega, by omega⟩, (cell_block bt 0).trans h.c0, (cell_block bt 1).trans h.c1, fun d' hd' => (cell_block blb d').trans (h.lv d' hd'), fun d' hd' => (h.mp d' hd').kept (bl (h.mp d' hd').lt (h.apC d' hd') (fun z => nmp d' hd' z.symm)), ?_, fun j b c e => ?_, h.apM, h.apC, ⟨fun z => (wr _ z).elim h.apT.1 ntb, fun z => (wr _ z).elim h.apT.2 nlb⟩, fun j b c e => ?_, fun j j' b c c1 e e' => ?_, fun x hx => ?_, h.two⟩
  · have : (fun j => (putC C i (blk, c') j).map (·.1)) = fun q => if q = i then some blk else (C q).map (·.1) := by
      funext q
      by_cases z : q = i
      · rw [z, putC_same, if_pos rfl]; rfl
      · rw [putC_other z, if_neg z]
    rw [this]; exact hm
  · rcases cs j b c e with ⟨_, e1, e2⟩ | ⟨e1, e2⟩
    · rw [e1, e2]; exact hc
    · exact (h.ch j b c e2).kept k (fun z => z.elim (h.apB j b c e2).1 (noth j b c e1 e2))
  · rcases cs j b c e with ⟨_, e1, e2⟩ | ⟨e1, e2⟩
    · rw [e1]; exact ⟨ncm, nmp⟩
    · exact h.apB j b c e2
  · rcases cs j b c e with ⟨z, e1, e2⟩ | ⟨e1, e2⟩
    · rcases cs j' b c1 e' with ⟨z', _, _⟩ | ⟨e3, e4⟩
      · rw [z, z']
      · exact absurd e1 (noth j' b c1 e3 e4)
    · rcases cs j' b c1 e' with ⟨z', e3, _⟩ | ⟨e3, e4⟩
      · exact absurd e3 (noth j b c e1 e2)
      · exact h.inj j j' b c c1 e2 e4
  · rcases hx with hx | hx
    · rcases wr x hx with hx | hx
      · exact h.base x (.inl hx)
      · rw [hx]; exact bB
    · exact h.base x (.inr hx)
end Go.Proofs.YtnclicdnncgdiaaGreatDoor

/- Package radix: setInChunk: its contract. -/
namespace Go.Proofs.YtnclicdnncgdiaaGreatDoor
open Go.ChangeShapes Go.WideShapes Go.ChangeAt Go.RowKit Go.Proofs.Bt Go.Shelf Go.Proofs.Rx Go.Maps Go.Proofs.Pk
set_option linter.unusedVariables false
set_option linter.unusedSimpArgs false

/-- Pages of a row are made so. -/
def setSt (st : Nat → Nat) (a b s q : Nat) : Nat := if a ≤ q ∧ q < b then s else st q
theorem setSt_in {st : Nat → Nat} {a b s q : Nat} (h : a ≤ q ∧ q < b) : setSt st a b s q = s := if_pos h
theorem setSt_out {st : Nat → Nat} {a b s q : Nat} (h : ¬ (a ≤ q ∧ q < b)) : setSt st a b s q = st q := if_neg h
theorem setSt_four {st : Nat → Nat} {a b s : Nat} (h : Four st) (hs : s ≤ 3) : Four (setSt st a b s) := fun q => by unfold setSt; split; exact hs; exact h q
theorem chunk_any {w : World} {T : Tid} {L : Lv} {C : Ch} {st : Nat → Nat} (h : RadAt w T L C) (h4 : Four st) {i : Nat} {r : Rw} (hG : Rx.Good L C st 0 6 i r) (hi : i < 18446744073709551616) (hp : ∃ q, 512 * i ≤ q ∧ q < 512 * i + 512 ∧ 1 ≤ st q) :
    Calls Tryz.prog 86 #[tp T, .int .u64 (i : Nat), .int .i64 (r.rest : Nat)] w fun e w' => ∃ blk c, e = .returned (.pointer (some ⟨blk, 0, none⟩)) ∧ ChS w' blk c ∧ Below w.heap.size w w' ∧ (∀ k, k < 512 → c k = st (512 * i + k)) ∧ ((∃ c0, C i = some (blk, c0)) ∨ w.heap.size ≤ blk) := by
  cases ha : al r.t (sz 6) with
  | none =>
    obtain ⟨blk, c, hc, hcs⟩ := hG.chunk ha
    exact (chunk_kept h i r.rest hi hc).mono fun e w' ⟨he, hw⟩ => ⟨blk, c, he, by rw [hw]; exact h.ch i blk c hc, by rw [hw]; exact Below.refl _ _, hcs, .inl ⟨c, hc⟩⟩
  | some s =>
    have e := hG.even ha
    have hall := hG.all h4 ha
    have hc := (hG.2.1 s ha).2
    have hr : r.rest = s := by rw [e]; rfl
    obtain ⟨q, q1, q2, q3⟩ := hp
    have e6 : sz 6 = 512 := rfl
    rw [e6] at hall
    have hq := hall q (by omega) (by omega)
    have hs := (al_some ha).1
    rw [hr]
    exact (chunk_new h i s hi ⟨by omega, hs⟩ hc).mono fun e w' ⟨he, hs, hb⟩ => ⟨_, _, he, hs, hb, fun k hk => (hall _ (by omega) (by omega)).symm, .inr (Nat.le_refl _)⟩
theorem kset7 (w : World) (b : Nat) (a0 a1 a2 a3 a4 a5 a6 : Value) : Kept (fun x => x = b) w (((((((w.setCell ⟨b, 0, none⟩ a0).setCell ⟨b, 1, none⟩ a1).setCell ⟨b, 2, none⟩ a2).setCell ⟨b, 3, none⟩ a3).setCell ⟨b, 4, none⟩ a4).setCell ⟨b, 5, none⟩ a5).setCell ⟨b, 6, none⟩ a6) :=
  ((((((kept_set (F := fun x => x = b) w b 0 a0 rfl).trans (kept_set (F := fun x => x = b) _ b 1 a1 rfl) (fun _ _ z => z)).trans (kept_set (F := fun x => x = b) _ b 2 a2 rfl) (fun _ _ z => z)).trans (kept_set (F := fun x => x = b) _ b 3 a3 rfl) (fun _ _ z => z)).trans (kept_set (F := fun x => x = b) _ b 4 a4 rfl) (fun _ _ z => z)).trans (kept_set (F := fun x => x = b) _ b 5 a5 rfl) (fun _ _ z => z)).trans (kept_set (F := fun x => x = b) _ b 6 a6 rfl) (fun _ _ z => z)
theorem row7 {W : World} {b : Nat} {r : Rw} (h : Bk W b 89 #[.int .u64 (r.t.p : Nat), .int .u64 (r.t.f : Nat), .int .u64 (r.t.r : Nat), .int .i64 (r.s : Nat), .int .i64 (r.m : Nat), .int .i64 (r.e : Nat), .int .i64 (r.rest : Nat)]) : (loadVar 89 ⟨b, 0, none⟩).run Tryz.prog W = .ok (rwV r) W := by
  have c0 := h.cell 0 _ rfl
  have c1 := h.cell 1 _ rfl
  have c2 := h.cell 2 _ rfl
  have c3 := h.cell 3 _ rfl
  have c4 := h.cell 4 _ rfl
  have c5 := h.cell 5 _ rfl
  have c6 := h.cell 6 _ rfl
  simp [go_sem, c0, c1, c2, c3, c4, c5, c6, rwV]
/-- What setInChunk leaves. -/
def SicP (T : Tid) (L : Lv) (C : Ch) (st : Nat → Nat) (i : Nat) (w : World) (e : Ending) (w' : World) : Prop :=
  ∃ r' blk c', e = .returned (rwV r') ∧ RadAt w' T L (putC C i (blk, c')) ∧ (∀ k, k < 512 → c' k = st (512 * i + k)) ∧ ((∃ c, C i = some (blk, c)) ∨ w.heap.size ≤ blk) ∧ r'.t = tl st (512 * i) 512 ∧ Su st (512 * i) 512 r' ∧ r'.rest = 0 ∧ Kept (fun x => x = T.cm ∨ ∃ c, C i = some (x, c)) w w'
theorem sumP_su {st : Nat → Nat} {c : Nat → Nat} {i s m e : Nat} (lo : ∀ k, k < 512 → 1 ≤ c k) (hc : ∀ k, k < 512 → c k = st (512 * i + k)) (h : SumP (fun k => decide (c k = 1)) s m e) : SumN (bsy st (512 * i)) 512 s m e := by
  have h0 : SumN (fun k => decide (c k = 1)) 512 s m e := ⟨h.s512, h.e512, h.sc, h.ss, h.ec, h.es, h.mx, h.mn⟩
  refine sumN_congr h0 fun k hk => ?_
  have := lo k hk
  rw [Bool.eq_iff_iff, bsy_true, ← hc k hk, decide_eq_true_eq]
  omega
set_option maxRecDepth 100000 in
set_option maxHeartbeats 2000000 in
theorem setInChunk_any {w : World} {T : Tid} {L : Lv} {C : Ch} {st : Nat → Nat} (h : RadAt w T L C) (h4 : Four st) {i : Nat} {r : Rw} (hG : Rx.Good L C st 0 6 i r) (hi : i < 67108864) (a b s : Nat) (h1 : 512 * i ≤ a) (hab : a < b) (h2 : b ≤ 512 * i + 512) (hs : 1 ≤ s ∧ s ≤ 3)
    (hm : (∀ q, a ≤ q → q < b → st q = 1) ∨ (∀ q, a ≤ q → q < b → 2 ≤ st q)) :
    Calls Tryz.prog 75 #[tp T, .int .u64 (i : Nat), .int .i64 (r.rest : Nat), spanV a b, .int .i64 (s : Nat)] w (SicP T L C (setSt st a b s) i w) := by
  obtain ⟨R, hR⟩ : ∃ R, R = SicP T L C (setSt st a b s) i w := ⟨_, rfl⟩
  rw [← hR]
  obtain ⟨N, hN⟩ : ∃ N, w.heap.size = N := ⟨_, rfl⟩
  obtain ⟨V, hV⟩ : ∃ V, (w.alloc (.cells #[.int .u64 (a : Nat), .int .u64 (b : Nat)] 92)).alloc (.cells #[.int .u64 0, .int .u64 0, .int .u64 0, .int .i64 0, .int .i64 0, .int .i64 0, .int .i64 0] 89) = V := ⟨_, rfl⟩
  have bV : Below w.heap.size w V := by rw [← hV]; exact ((Below.refl _ w).alloc (Nat.le_refl _) _).alloc (by simp) _
  have k0 : Bk V N 92 #[.int .u64 (a : Nat), .int .u64 (b : Nat)] := by unfold Bk; rw [← hV, alloc_at, if_neg (by simp; omega), alloc_at, if_pos hN.symm]
  have k1 : Bk V (N + 1) 89 #[.int .u64 0, .int .u64 0, .int .u64 0, .int .i64 0, .int .i64 0, .int .i64 0, .int .i64 0] := by unfold Bk; rw [← hV, alloc_at, if_pos (by simp; omega)]
  have R0 := hide h
  have RV := hide (h.below bV)
  have CK := hide (chunk_any RV.out h4 hG (by omega) ⟨a, by omega, by omega, by
    rcases hm with z | z
    · rw [z a (by omega) hab]; omega
    · have := z a (by omega) hab; omega⟩)
  have CP := fun X => hide (pages_any (a : Int) (b : Int) (by omega) (by omega) (by omega) X)
  have HR := hide hR
  have HN := hide hN
  have BV := hide bV
  have K0 := hide k0
  have K1 := hide k1
  have HM := hide hm
  have HG := hide hG
  have y0 := k0.cell 0 _ rfl
  have y1 := k0.cell 1 _ rfl
  have a0 : (0 : Int) ≤ a := by omega
  have a1 : (a : Int) < b := by omega
  have a2 : (b : Int) ≤ 34359738368 := by omega
  have m0 : (0 : Int) ≤ (a : Int) % 512 := by omega
  have m1 : (a : Int) % 512 < 512 := by omega
  have m2 : (0 : Int) ≤ (b : Int) - (a : Int) := by omega
  have m3 : (b : Int) - (a : Int) ≤ 512 := by omega
  have HV1 := hide k1.lt
  clear hR h bV k0 k1 hm hG
  unfold tp at CK ⊢
  unfold spanV at CP ⊢
  go_enter Tryz.func75, Tryz.ntmps75
  go_wp2_with fail
  refine CK.out.mono ?_
  rintro e w1 ⟨blk, c, rfl, hch, b1, hcs, hbk⟩
  have R1 := hide (RV.out.below b1)
  have CH := hide hch
  have CS := hide hcs
  have HB := hide hbk
  have B1 := hide b1
  have J0 := hide (K0.out.below b1)
  have J1 := hide (K1.out.below b1)
  have z0 := J0.out.cell 0 _ rfl
  have z1 := J0.out.cell 1 _ rfl
  have l0 := J0.out.lt
  have hx := @ext_cell w1
  have hne := ext_ne w1
  clear hch b1 hcs hbk CK y0 y1 hV K0 K1 RV
  go_wp2_with fail
  refine (wpIn_wide (n := 3)).1 (tail_w 9 (by kernel_rfl) (by kernel_rfl) ?_)
  simp only [List.take_succ_cons, List.take_zero, List.drop_succ_cons, List.drop_zero]
  repeat (first | go_big_quiet_step (exact calm_of (CP _).out) | (refine wpQuiet_step (fun K hK => ?_); go_simp; refine hK _ ?_; clear hK K))
  refine wpQuiet_nil ?_
  rintro _ ⟨n1, rfl⟩
  have CLY := hide (lay_any blk c n1.v (CH.out.below n1.h) (a % 512) (b - a) s (by omega) (by omega) hs (by
    rcases HM.out with z | z
    · exact .inl (fun k k1 k2 => by rw [CS.out k (by omega)]; exact z _ (by omega) (by omega))
    · exact .inr (fun k k1 k2 => by rw [CS.out k (by omega)]; have := z (512 * i + k) (by omega) (by omega); omega)))
  rw [show ((b - a : Nat) : Int) = (b : Int) - (a : Int) by omega, show ((a % 512 : Nat) : Int) = (a : Int) % 512 from rfl] at CLY
  have R2 := R1.out.below n1.h
  have fresh : (∃ c0, C i = some (blk, c0)) ∨ (¬ Foot T C blk ∧ T.B ≤ blk) := by
    rcases HB.out with z | z
    · exact .inl z
    · have h5 : w.heap.size ≤ blk := Nat.le_trans BV.out.size z
      refine .inr ⟨R0.out.foot_lt h5, ?_⟩
      have := R0.out.base T.tb (.inr (.inl rfl))
      have := R0.out.lt (x := T.tb) (.inr (.inl rfl))
      omega
  have nfo : ∀ x, x = T.tb ∨ x = T.lb ∨ x = T.cm → x ≠ blk := fun x hx z => by
    rcases fresh with ⟨c0, e⟩ | ⟨e, _⟩
    · rcases hx with hx | hx | hx
      · exact R0.out.apT.1 (.inr (.inr ⟨i, blk, c0, e, hx ▸ z⟩))
      · exact R0.out.apT.2 (.inr (.inr ⟨i, blk, c0, e, hx ▸ z⟩))
      · exact (R0.out.apB i blk c0 e).1 (z ▸ hx)
    · rcases hx with hx | hx | hx
      · exact e (.inr (.inl (z ▸ hx)))
      · exact e (.inr (.inr (z ▸ hx)))
      · exact e (.inl (.inl (z ▸ hx)))
  have nN : ∀ x, x = N ∨ x = N + 1 → x ≠ blk ∧ x ≠ T.cm := fun x hx => by
    have h6 : w.heap.size ≤ x := by rw [HN.out]; omega
    have h7 : V.heap.size = N + 2 ∨ True := .inr trivial
    refine ⟨fun z => ?_, fun z => R0.out.foot_lt h6 (.inl (.inl z))⟩
    rcases HB.out with ⟨c0, e⟩ | e
    · exact R0.out.foot_lt h6 (.inl (.inr (.inr ⟨i, blk, c0, e, z⟩)))
    · have : N + 1 < V.heap.size := HV1.out
      omega
  have FRE := hide fresh
  have R2H := hide R2
  have J0' := hide (J0.out.below n1.h)
  have J1' := hide (J1.out.below n1.h)
  have B2 := hide (n1.h)
  have NFO := hide nfo
  have NN := hide nN
  clear fresh nfo nN R2 hx hne CP z0 z1 l0
  gi_wp2_with fail
  refine wcall2 CLY.out ?_
  rintro e w3 ⟨rfl, ch3, k3⟩
  have cm3 := R2H.out.cm.kept (k3.block T.cm R2H.out.cm.lt (NFO.out _ (.inr (.inr rfl))))
  obtain ⟨w4, hrun, hm4, hg4⟩ := cm3.put tyC i hi blk
  simp only [encC] at hrun
  have k4 : Kept (fun x => x = T.cm ∨ x = blk) n1.v w4 := (k3.mono (G := fun x => x = T.cm ∨ x = blk) (fun x hx => .inr hx)).trans (Kept.of_grown (F := fun x => x = T.cm ∨ x = blk) hg4 (fun k e => by cases e; exact .inl rfl)) (fun _ _ z => z)
  have ch4 : ChS w4 blk (laid c (a % 512) (b - a) s) := ch3.kept (Kept.of_grown (F := fun x => x = T.cm) hg4 (fun k e => by cases e; rfl)) (fun z => NFO.out T.cm (.inr (.inr rfl)) z.symm)
  have R4 := hide (R2H.out.upC hm4 ch4 k4 FRE.out)
  have q1 : w3.cell? ⟨T.tb, 1, none⟩ = some (.map (some T.cm)) := (cell_block (k3.block T.tb (R2H.out.lt (x := T.tb) (.inr (.inl rfl))) (NFO.out _ (.inl rfl))) 1).trans R2H.out.c1
  have K4 := hide k4
  have C4 := hide ch4
  have HL : ∀ k, k < 512 → laid c (a % 512) (b - a) s k = setSt st a b s (512 * i + k) := fun k hk => by
    unfold laid setSt
    by_cases z : a % 512 ≤ k ∧ k < a % 512 + (b - a)
    · rw [if_pos z, if_pos (by omega)]
    · rw [if_neg z, if_neg (by omega)]; exact CS.out k hk
  have HLH := hide HL
  obtain ⟨c', hc'⟩ : ∃ c', laid c (a % 512) (b - a) s = c' := ⟨_, rfl⟩
  rw [hc'] at C4 HLH R4
  have J4 := hide (J1'.out.kept k4 (fun z => z.elim (NN.out _ (.inr rfl)).2 (NN.out _ (.inr rfl)).1))
  have CT := hide (tallyC_any blk c' w4 C4.out 0 512 (by omega))
  have et : tl c' 0 512 = tl (setSt st a b s) (512 * i) 512 := by
    unfold tl
    have key : ∀ k, k < 512 → c' (0 + k) = setSt st a b s (512 * i + k) := fun k hk => by rw [Nat.zero_add]; exact HLH.out k hk
    rw [cnt_congr (f := inU c') (g := inU (setSt st a b s)) (j := 512 * i) fun k hk => by unfold inU; rw [key k hk], cnt_congr (f := fre c') (g := fre (setSt st a b s)) (j := 512 * i) fun k hk => by unfold fre; rw [key k hk], cnt_congr (f := rel c') (g := rel (setSt st a b s)) (j := 512 * i) fun k hk => by unfold rel; rw [key k hk]]
  have KW := hide (show Kept (fun x => x = T.cm ∨ ∃ c, C i = some (x, c)) w w4 from by
    have h6 : Below w.heap.size w n1.v := (BV.out.trans (B1.out.mono BV.out.size)).trans (B2.out.mono (Nat.le_trans BV.out.size B1.out.size))
    refine (Kept.of_below h6).trans k4 (fun x hx hz => ?_)
    rcases hz with hz | hz
    · exact .inl hz
    · rcases HB.out with ⟨c0, e⟩ | e
      · exact .inr ⟨c0, by rw [hz]; exact e⟩
      · have := BV.out.size; omega)
  have ET := hide et
  obtain ⟨t, ht⟩ : ∃ t, tl c' 0 512 = t := ⟨_, rfl⟩
  rw [ht] at CT ET
  unfold tlV at CT
  simp only [Int.cast_ofNat_Int] at CT
  clear ch3 cm3 hm4 hg4 k4 ch4 HL hc' et ht CLY k3 J0 J1 J0' J1'
  gi_wp2_with fail
  go_wp2_with fail
  refine CT.out.mono ?_
  rintro e w5 ⟨rfl, b5⟩
  have R5 := hide (R4.out.below b5)
  have C5 := hide (C4.out.below b5)
  have J5 := hide (J4.out.below b5)
  have K5 := hide (KW.out.trans (Kept.of_below (F := fun _ => False) b5) (fun _ _ z => z.elim))
  have CSM := hide (sumC_any blk _ _ w5 C5.out.row R5.out.tab)
  clear b5 CT R4 J4 KW
  go_wp2_with fail
  refine CSM.out.mono ?_
  rintro e w6 ⟨s', m', e', rfl, hsum, b6⟩
  have R6 := hide (R5.out.below b6)
  have J6 := hide (J5.out.below b6)
  have K6 := hide (K5.out.trans (Kept.of_below (F := fun _ => False) b6) (fun _ _ z => z.elim))
  have SU := hide (sumP_su (st := setSt st a b s) (i := i) C4.out.lo HLH.out hsum)
  have v0 := J6.out.cell 0 _ rfl
  have v1 := J6.out.cell 1 _ rfl
  have v2 := J6.out.cell 2 _ rfl
  have v3 := J6.out.cell 3 _ rfl
  have v4 := J6.out.cell 4 _ rfl
  have v5 := J6.out.cell 5 _ rfl
  have v6 := J6.out.cell 6 _ rfl
  obtain ⟨f0, f1, f2, f3, f4, f5, f6⟩ := frozen7 J6.out.fz
  have l6 := J6.out.lt
  unfold sumV
  clear hsum b6 CSM J5 K5 C5
  go_wp2_with fail
  have fin := ((((((J6.out.set 0 (.int .u64 (t.p : Nat))).set 1 (.int .u64 (t.f : Nat))).set 2 (.int .u64 (t.r : Nat))).set 3 (.int .i64 (s' : Nat))).set 4 (.int .i64 (m' : Nat))).set 5 (.int .i64 (e' : Nat))).set 6 (.int .i64 0)
  have kf := kset7 w6 (N + 1) (.int .u64 (t.p : Nat)) (.int .u64 (t.f : Nat)) (.int .u64 (t.r : Nat)) (.int .i64 (s' : Nat)) (.int .i64 (m' : Nat)) (.int .i64 (e' : Nat)) (.int .i64 0)
  refine bodyPost_ret (results_c Tryz.results75 _ _ ⟨N + 1, 0, none⟩ (rwV ⟨t, s', m', e', 0⟩) rfl (row7 fin)) rfl ?_
  rw [HR.out]
  have fo : ∀ x, x = N + 1 → ¬ Foot T (putC C i (blk, c')) x ∧ T.B ≤ x := fun x hx => by
    have h6 : w.heap.size ≤ x := by rw [HN.out]; omega
    have h7 := R0.out.base T.tb (.inr (.inl rfl))
    have h8 := R0.out.lt (x := T.tb) (.inr (.inl rfl))
    refine ⟨fun z => ?_, by omega⟩
    rcases z with (z | ⟨d, hd, z⟩ | ⟨j, b', c0, hj, z⟩) | z
    · exact R0.out.foot_lt h6 (.inl (.inl z))
    · exact R0.out.foot_lt h6 (.inl (.inr (.inl ⟨d, hd, z⟩)))
    · by_cases e : j = i
      · rw [e, putC_same] at hj
        cases hj
        exact (NN.out x (.inr hx)).1 z
      · rw [putC_other e] at hj
        exact R0.out.foot_lt h6 (.inl (.inr (.inr ⟨j, b', c0, hj, z⟩)))
    · exact R0.out.foot_lt h6 (.inr z)
  refine ⟨⟨t, s', m', e', 0⟩, blk, c', rfl, R6.out.kept kf fo, HLH.out, ?_, ET.out, SU.out, rfl, K6.out.trans kf (fun x hx hz => by rw [HN.out] at hx; omega)⟩
  rcases HB.out with z | z
  · exact .inl z
  · exact .inr (Nat.le_trans BV.out.size z)
end Go.Proofs.YtnclicdnncgdiaaGreatDoor

/- Summaries in memory. -/
namespace Go.Proofs.YtnclicdnncgdiaaGreatDoor.Mg
open Go.ChangeShapes Go.WideShapes Go.ChangeAt Go.RowKit Go.Proofs.Pk Go.Maps
set_option linter.unusedVariables false
set_option linter.unusedSimpArgs false

theorem hide {p : Prop} (h : p) : Hid p := h
theorem cell_lt {w : World} {b o : Nat} {v : Value} (h : w.cell? ⟨b, o, none⟩ = some v) : b < w.heap.size := World.block_lt_of_cell? w ⟨b, o, none⟩ h
theorem still_tail {P : Program} {id : Nat} {Q : Exit → Act → World → Prop} {a : Act} {w : World} {l : List Oper} (n : Nat) (hm : P.follows .mixedOrders = true) (hB : Region.lexTailB .any l.toArray n = true)
    (h : wpStill P l.toArray w.drew (fun a' => wpList P l.toArray Q (l.drop n) a' w.drew) (l.take n) a) : (Code.region id l.toArray true).wp P Q a w := wp_region_still_tail n hm hB h
theorem still_all {P : Program} {id : Nat} {Q : Exit → Act → World → Prop} {a : Act} {w : World} {l : List Oper} (hm : P.follows .mixedOrders = true) (hB : Region.lexB .any l.toArray = true)
    (h : wpStill P l.toArray w.drew (fun a' => Q .normal a' w.drew) l a) : (Code.region id l.toArray true).wp P Q a w := wp_region_still_lit hm hB h
theorem addr_add0 (b o j : Nat) : (⟨b, o, none⟩ : Addr).add j = ⟨b, o + j, none⟩ := by simp [Addr.add]
theorem spot_none {w : World} {b off : Nat} {sp : Option Nat} {v : Value} (h : w.cell? ⟨b, off, sp⟩ = some v) : sp = none := by
  unfold World.cell? at h
  cases sp with
  | none => rfl
  | some x => split at h <;> simp at h

/-- A summary as a value. -/
def sumV (a : Sm) : Value := .agg #[.int .i64 a.s, .int .i64 a.m, .int .i64 a.e]
/-- A list of summaries in memory. -/
def SumsAt (w : World) (v : Value) (t : List Sm) (T : Nat → Prop) : Prop :=
  ∃ o cap, v = .slice o t.length cap ∧ t.length ≤ cap ∧ cap ≤ 9223372036854775807 ∧ (o = none → cap = 0) ∧ (t ≠ [] → ∃ g off, o = some ⟨g, off, none⟩ ∧ T g ∧ g < w.heap.size ∧
    ∀ i s, t[i]? = some s → w.cell? ⟨g, off + i * 3, none⟩ = some (.int .i64 s.s) ∧ w.cell? ⟨g, off + i * 3 + 1, none⟩ = some (.int .i64 s.m) ∧ w.cell? ⟨g, off + i * 3 + 2, none⟩ = some (.int .i64 s.e))
theorem SumsAt.kept {w w' : World} {v : Value} {t : List Sm} {T : Nat → Prop} (h : SumsAt w v t T) (hs : w.heap.size ≤ w'.heap.size) (hk : ∀ x, T x → x < w.heap.size → w'.heap[x]? = w.heap[x]?) : SumsAt w' v t T := by
  obtain ⟨o, cap, h1, h2, hm, h3, h4⟩ := h
  refine ⟨o, cap, h1, h2, hm, h3, fun z => ?_⟩
  obtain ⟨g, off, e, hT, hl, hc⟩ := h4 z
  have := hk g hT hl
  exact ⟨g, off, e, hT, by omega, fun i s hi => by
    obtain ⟨a, b, c⟩ := hc i s hi
    exact ⟨(World.cell?_of_block this).trans a, (World.cell?_of_block this).trans b, (World.cell?_of_block this).trans c⟩⟩
theorem SumsAt.below {w w' : World} {v : Value} {t : List Sm} {T : Nat → Prop} (h : SumsAt w v t T) (hb : Below w.heap.size w w') : SumsAt w' v t T := h.kept hb.size (fun x _ hx => hb.block x hx)
theorem SumsAt.mono {w : World} {v : Value} {t : List Sm} {T T' : Nat → Prop} (h : SumsAt w v t T) (hT : ∀ x, T x → T' x) : SumsAt w v t T' := by
  obtain ⟨o, cap, h1, h2, hm, h3, h4⟩ := h
  refine ⟨o, cap, h1, h2, hm, h3, fun z => ?_⟩
  obtain ⟨g, off, e, h, k⟩ := h4 z
  exact ⟨g, off, e, hT g h, k⟩
theorem SumsAt.shape {w : World} {v : Value} {t : List Sm} {T : Nat → Prop} (h : SumsAt w v t T) : ∃ o cap, v = .slice o t.length cap ∧ t.length ≤ cap ∧ cap ≤ 9223372036854775807 := by
  obtain ⟨o, cap, e, h2, h3, _⟩ := h
  exact ⟨o, cap, e, h2, h3⟩
theorem SumsAt.at {w w' : World} {o : Option Addr} {len cap : Nat} {t : List Sm} {T : Nat → Prop} (h : SumsAt w (.slice o len cap) t T) (hb : Below w.heap.size w w') {i : Nat} (hi : i < len) : ∃ g off s, o = some ⟨g, off, none⟩ ∧ t[i]? = some s ∧ g < w'.heap.size ∧ w'.cell? ⟨g, off + i * 3, none⟩ = some (.int .i64 s.s) ∧ w'.cell? ⟨g, off + i * 3 + 1, none⟩ = some (.int .i64 s.m) ∧ w'.cell? ⟨g, off + i * 3 + 2, none⟩ = some (.int .i64 s.e) := by
  obtain ⟨o', cap', e, h2, h3, h4, h5⟩ := h
  injection e with e1 e2 e3
  subst e1 e2 e3
  obtain ⟨g, off, rfl, hT, hg, hc⟩ := h5 (fun z => by rw [z] at hi; simp at hi)
  have hx := List.getElem?_eq_getElem hi
  obtain ⟨a, b, c⟩ := hc i _ hx
  exact ⟨g, off, _, rfl, hx, Nat.lt_of_lt_of_le hg hb.size, (hb.cell (p := ⟨g, off + i * 3, none⟩) hg).trans a, (hb.cell (p := ⟨g, off + i * 3 + 1, none⟩) hg).trans b, (hb.cell (p := ⟨g, off + i * 3 + 2, none⟩) hg).trans c⟩
/-- The summaries one by one. -/
def nth (t : List Sm) (i : Nat) : Sm := (t[i]?).getD ⟨0, 0, 0⟩
theorem nth_at {t : List Sm} {i : Nat} {s : Sm} (h : t[i]? = some s) : nth t i = s := by unfold nth; rw [h]; rfl

def flat (t : List Sm) : List Value := t.flatMap fun s => [.int .i64 s.s, .int .i64 s.m, .int .i64 s.e]
theorem flat_len (t : List Sm) : (flat t).length = t.length * 3 := by
  induction t with
  | nil => rfl
  | cons s r ih => simp only [flat, List.flatMap_cons, List.length_append, List.length_cons, List.length_nil] at ih ⊢; omega
theorem flat_one (t : List Sm) : ∀ u ∈ flat t, u.oneCell' = true := by
  intro u hu
  obtain ⟨s, _, h⟩ := List.mem_flatMap.1 hu
  simp at h
  rcases h with rfl | rfl | rfl <;> rfl
theorem flat_get : ∀ (t : List Sm) (j : Nat) (u : Value), (flat t)[j]? = some u → ∃ i s, t[i]? = some s ∧ ((j = i * 3 ∧ u = .int .i64 s.s) ∨ (j = i * 3 + 1 ∧ u = .int .i64 s.m) ∨ (j = i * 3 + 2 ∧ u = .int .i64 s.e))
  | [], j, u, h => by simp [flat] at h
  | s :: r, 0, u, h => ⟨0, s, rfl, Or.inl ⟨rfl, by simp [flat] at h; exact h.symm⟩⟩
  | s :: r, 1, u, h => ⟨0, s, rfl, Or.inr (Or.inl ⟨rfl, by simp [flat] at h; exact h.symm⟩)⟩
  | s :: r, 2, u, h => ⟨0, s, rfl, Or.inr (Or.inr ⟨rfl, by simp [flat] at h; exact h.symm⟩)⟩
  | s :: r, j + 3, u, h => by
    obtain ⟨i, s', h1, h2⟩ := flat_get r j u (by simpa [flat] using h)
    refine ⟨i + 1, s', by simpa using h1, ?_⟩
    rcases h2 with ⟨e, h⟩ | ⟨e, h⟩ | ⟨e, h⟩
    · exact Or.inl ⟨by omega, h⟩
    · exact Or.inr (Or.inl ⟨by omega, h⟩)
    · exact Or.inr (Or.inr ⟨by omega, h⟩)
theorem flat_at : ∀ (t : List Sm) (i : Nat) (s : Sm), t[i]? = some s → (flat t)[i * 3]? = some (.int .i64 s.s) ∧ (flat t)[i * 3 + 1]? = some (.int .i64 s.m) ∧ (flat t)[i * 3 + 2]? = some (.int .i64 s.e)
  | [], i, s, h => by simp at h
  | s0 :: r, 0, s, h => by simp at h; subst h; simp [flat]
  | s0 :: r, i + 1, s, h => by
    obtain ⟨a, b, c⟩ := flat_at r i s (by simpa using h)
    rw [show (i + 1) * 3 = i * 3 + 3 by omega]
    exact ⟨by simpa [flat] using a, by simpa [flat] using b, by simpa [flat] using c⟩
theorem flat_app (t u : List Sm) : flat (t ++ u) = flat t ++ flat u := by unfold flat; rw [List.flatMap_append]
theorem infoS : (Tryz.prog.info? 87).map (fun i => (i.zero, i.size, i.bytes)) = some (some (.agg #[.int .i64 0, .int .i64 0, .int .i64 0]), 3, 24) := by kernel_rfl
theorem info_parts {t : TypeId} {z : Option Value} {s b : Nat} (h : (Tryz.prog.info? t).map (fun i => (i.zero, i.size, i.bytes)) = some (z, s, b)) : ∃ i, Tryz.prog.info? t = some i ∧ i.zero = z ∧ i.size = s ∧ i.bytes = b := by
  cases h' : Tryz.prog.info? t with
  | none => rw [h'] at h; cases h
  | some i => rw [h'] at h; simp at h; exact ⟨i, rfl, h.1, h.2.1, h.2.2⟩
/-- A row of summaries of our own. -/
theorem sums_of_owns {w : World} {base n : Nat} {v : Value} {t : List Sm} (h : w.ownsRow base 87 3 v n (flat t)) : SumsAt w v t (fun x => base ≤ x) ∧ ∃ o c, v = .slice o t.length c := by
  have hl := h.1
  rw [flat_len] at hl
  have hn : t.length = n := by omega
  have H := h
  obtain ⟨_, ⟨rfl, rfl⟩ | ⟨g, cap, cur, rfl, hb, hh, hnc, hcm, hcs, ht⟩⟩ := h
  · obtain rfl := List.eq_nil_of_length_eq_zero hn
    exact ⟨⟨none, 0, rfl, Nat.le_refl _, by omega, fun _ => rfl, fun z => absurd rfl z⟩, none, 0, rfl⟩
  · have hg := (H.lt g rfl)
    refine ⟨⟨_, cap, by rw [hn], by omega, by unfold maxLen at hcm; omega, fun z => by (cases z), fun _ => ⟨g, 0, rfl, hg.1, hg.2, fun i s hi => ?_⟩⟩, _, cap, by rw [hn]⟩
    obtain ⟨a, b, c⟩ := flat_at t i s hi
    have hc := H.cells (g := g) rfl
    have ha := hc _ _ a
    have hb := hc _ _ b
    have hc' := hc _ _ c
    rw [addr_add0] at ha hb hc'
    rw [Nat.add_assoc, Nat.add_assoc]
    exact ⟨ha, hb, hc'⟩
end Go.Proofs.YtnclicdnncgdiaaGreatDoor.Mg
/- bounded, right, endBehind; the reference's Right. -/
namespace Go.Proofs.YtnclicdnncgdiaaGreatDoor.Mg
open Go.ChangeShapes Go.WideShapes Go.ChangeAt Go.RowKit Go.Proofs.Pk Go.Maps
set_option linter.unusedVariables false
set_option linter.unusedSimpArgs false

theorem alloc1 (w : World) (o : Obj) : Below w.heap.size w (w.alloc o) := (Below.refl _ w).alloc (Nat.le_refl _) _
theorem cells_of {w : World} {b : Nat} {cs : Array Value} {t : TypeId} {z : Nat × Nat} (h : w.heap[b]? = some (.cells cs t z)) (i : Nat) : w.cell? ⟨b, i, none⟩ = cs[i]? := by
  unfold World.cell?; rw [h]; rfl
/-- A summary in a box of its own, behind whatever. -/
theorem box_cells {w w' : World} {s m e : Int} (hb : Below (w.alloc (.cells #[.int .i64 s, .int .i64 m, .int .i64 e] 87)).heap.size (w.alloc (.cells #[.int .i64 s, .int .i64 m, .int .i64 e] 87)) w') :
    Below w.heap.size w w' ∧ w'.cell? ⟨w.heap.size, 0, none⟩ = some (.int .i64 s) ∧ w'.cell? ⟨w.heap.size, 1, none⟩ = some (.int .i64 m) ∧ w'.cell? ⟨w.heap.size, 2, none⟩ = some (.int .i64 e) := by
  have hn := heap_alloc_new w (.cells #[.int .i64 s, .int .i64 m, .int .i64 e] 87)
  have hl : w.heap.size < (w.alloc (.cells #[.int .i64 s, .int .i64 m, .int .i64 e] 87)).heap.size := by simp
  refine ⟨(alloc1 _ _).trans (hb.mono (by simp)), ?_, ?_, ?_⟩
  · exact (hb.cell (p := ⟨w.heap.size, 0, none⟩) hl).trans (cells_of hn 0)
  · exact (hb.cell (p := ⟨w.heap.size, 1, none⟩) hl).trans (cells_of hn 1)
  · exact (hb.cell (p := ⟨w.heap.size, 2, none⟩) hl).trans (cells_of hn 2)
theorem bounded_yes (a : Sm) (p : Int) (h : Bnd a p) (w : World) : Calls Tryz.prog 115 #[sumV a, .int .i64 p] w fun e w' => e = .returned (.bool true) ∧ Below w.heap.size w w' := by
  obtain ⟨s, m, e⟩ := a
  obtain ⟨h1, h2, h3, h4, h5, h6⟩ := h
  dsimp only at h1 h2 h3 h4 h5 h6
  unfold sumV
  have d1 : decide (s < 0) = false := decide_eq_false (by omega)
  have d2 : decide (e < 0) = false := decide_eq_false (by omega)
  have d3 : decide (m < s) = false := decide_eq_false (by omega)
  have d4 : decide (m < e) = false := decide_eq_false (by omega)
  have d5 : decide (p < m) = false := decide_eq_false (by omega)
  by_cases c : m < p
  · have d6 : decide (m < p) = true := decide_eq_true c
    clear h1 h2 h3 h4 h5 h6 c
    go_enter Tryz.func115, Tryz.ntmps115
    go_wp2_with fail
    go_ret
    exact ⟨rfl, alloc1 _ _⟩
  · have d6 : decide (m < p) = false := decide_eq_false c
    have d7 : (s == p) = true := beq_iff_eq.2 (by omega)
    have d8 : (e == p) = true := beq_iff_eq.2 (by omega)
    clear h1 h2 h3 h4 h5 h6 c
    go_enter Tryz.func115, Tryz.ntmps115
    go_wp2_with fail
    go_ret
    exact ⟨rfl, alloc1 _ _⟩
theorem bounded_no (a : Sm) (p : Int) (h : ¬ Bnd a p) (w : World) : Calls Tryz.prog 115 #[sumV a, .int .i64 p] w fun e w' => e = .returned (.bool false) ∧ Below w.heap.size w w' := by
  obtain ⟨s, m, e⟩ := a
  unfold Bnd at h
  dsimp only at h
  unfold sumV
  have q : decide (s < 0) = true ∨ decide (s < 0) = false ∧ (decide (e < 0) = true ∨ decide (e < 0) = false ∧ (decide (m < s) = true ∨ decide (m < s) = false ∧ (decide (m < e) = true ∨ decide (m < e) = false ∧ (decide (p < m) = true ∨ decide (p < m) = false ∧ decide (m < p) = false ∧ ((s == p) = false ∨ (s == p) = true ∧ (e == p) = false))))) := by
    simp only [decide_eq_true_eq, decide_eq_false_iff_not, beq_eq_false_iff_ne, beq_iff_eq, ne_eq]
    omega
  clear h
  rcases q with d1 | ⟨d1, d2 | ⟨d2, d3 | ⟨d3, d4 | ⟨d4, d5 | ⟨d5, d6, d7 | ⟨d7, d8⟩⟩⟩⟩⟩⟩
  all_goals
    go_enter Tryz.func115, Tryz.ntmps115
    go_wp2_with fail
    go_ret
    exact ⟨rfl, alloc1 _ _⟩
theorem right_yes (a : Sm) (p : Int) (h : Rgt a p) (h2 : p ≤ 2097152) (w : World) : Calls Tryz.prog 114 #[sumV a, .int .i64 p] w fun e w' => e = .returned (.bool true) ∧ Below w.heap.size w w' := by
  have B := hide h.1
  have hb := h.1
  have hr := h.2
  clear h
  obtain ⟨s, m, e⟩ := a
  obtain ⟨h1, h2, h3, h4, h5, h6⟩ := hb
  dsimp only at h1 h2 h3 h4 h5 h6 hr
  have b1 : 0 ≤ s + e := by omega
  have b2 : s + e ≤ 4194304 := by omega
  have CB := fun w => hide (bounded_yes ⟨s, m, e⟩ p B.out w)
  unfold sumV at CB ⊢
  dsimp only at CB ⊢
  by_cases c : m = p
  · have d : (m == p) = true := beq_iff_eq.2 c
    clear h1 h2 h3 h4 h5 h6 hr B c
    go_enter Tryz.func114, Tryz.ntmps114
    go_wp2_with fail
    refine (CB _).out.mono ?_
    rintro e w' ⟨rfl, hb⟩
    obtain ⟨B, x0, x1, x2⟩ := box_cells hb
    have HB := hide B
    clear hb B CB
    go_wp2_with fail
    go_ret
    exact ⟨rfl, HB.out⟩
  · have d : (m == p) = false := beq_eq_false_iff_ne.2 c
    have d2 : decide (s + e < p) = true := decide_eq_true (by omega)
    clear h6 hr B c h5
    go_enter Tryz.func114, Tryz.ntmps114
    go_wp2_with fail
    refine (CB _).out.mono ?_
    rintro e w' ⟨rfl, hb⟩
    obtain ⟨B, x0, x1, x2⟩ := box_cells hb
    have HB := hide B
    clear hb B CB
    go_wp2_with fail
    go_ret
    exact ⟨rfl, HB.out⟩
theorem right_no (a : Sm) (p : Int) (h : ¬ Rgt a p) (h2 : p ≤ 2097152) (w : World) : Calls Tryz.prog 114 #[sumV a, .int .i64 p] w fun e w' => e = .returned (.bool false) ∧ Below w.heap.size w w' := by
  have H := hide h
  clear h
  by_cases hb : Bnd a p
  · obtain ⟨s, m, e⟩ := a
    have B := hide hb
    have hr : ¬ (m = p ∨ s + e < p) := fun z => H.out ⟨hb, z⟩
    obtain ⟨h1, h2, h3, h4, h5, h6⟩ := hb
    dsimp only at h1 h2 h3 h4 h5 h6 hr
    have b1 : 0 ≤ s + e := by omega
    have b2 : s + e ≤ 4194304 := by omega
    have CB := fun w => hide (bounded_yes ⟨s, m, e⟩ p B.out w)
    unfold sumV at CB ⊢
    dsimp only at CB ⊢
    have d : (m == p) = false := beq_eq_false_iff_ne.2 (by omega)
    have d2 : decide (s + e < p) = false := decide_eq_false (by omega)
    clear h6 hr B h5 H
    go_enter Tryz.func114, Tryz.ntmps114
    go_wp2_with fail
    refine (CB _).out.mono ?_
    rintro e w' ⟨rfl, hb⟩
    obtain ⟨B, x0, x1, x2⟩ := box_cells hb
    have HB := hide B
    clear hb B CB
    go_wp2_with fail
    go_ret
    exact ⟨rfl, HB.out⟩
  · have CB := fun w => hide (bounded_no a p hb w)
    obtain ⟨s, m, e⟩ := a
    unfold sumV at CB ⊢
    dsimp only at CB ⊢
    clear hb H h2
    go_enter Tryz.func114, Tryz.ntmps114
    go_wp2_with fail
    refine (CB _).out.mono ?_
    rintro e w' ⟨rfl, hb⟩
    obtain ⟨B, x0, x1, x2⟩ := box_cells hb
    have HB := hide B
    clear hb B CB
    go_wp2_with fail
    go_ret
    exact ⟨rfl, HB.out⟩
/-- endBehind. -/
theorem end_any (E : Int) (a : Sm) (p : Int) (h1 : 0 ≤ E) (h2 : E ≤ 1000000000) (h3 : 1 ≤ p) (h4 : p ≤ 2097152) (w : World) : Calls Tryz.prog 109 #[.int .i64 E, sumV a, .int .i64 p] w fun e w' => e = .returned (.int .i64 (if a.e = p then E + p else a.e)) ∧ Below w.heap.size w w' := by
  obtain ⟨s, m, e⟩ := a
  unfold sumV
  dsimp only
  by_cases c : e = p
  · have d : (e == p) = true := beq_iff_eq.2 c
    rw [if_pos c]
    clear c
    go_enter Tryz.func109, Tryz.ntmps109
    go_wp2_with fail
    go_ret
    exact ⟨rfl, alloc1 _ _⟩
  · have d : (e == p) = false := beq_eq_false_iff_ne.2 c
    rw [if_neg c]
    clear c
    go_enter Tryz.func109, Tryz.ntmps109
    go_wp2_with fail
    go_ret
    exact ⟨rfl, alloc1 _ _⟩
end Go.Proofs.YtnclicdnncgdiaaGreatDoor.Mg
/- rightRows. -/
namespace Go.Proofs.YtnclicdnncgdiaaGreatDoor.Mg
open Go.ChangeShapes Go.WideShapes Go.ChangeAt Go.RowKit Go.Proofs.Pk Go.Maps
set_option linter.unusedVariables false
set_option linter.unusedSimpArgs false

/-- May there be rows of so many pages, and is each right? -/
structure RR (t : List Sm) (p : Int) : Prop where
  p1 : 1 ≤ p
  p2 : p ≤ 2097152
  len : t.length ≤ 64
  all : ∀ j, j < t.length → Rgt (nth t j) p
def RowsP (t : List Sm) (p : Int) (w : World) (e : Ending) (w' : World) : Prop := (RR t p → e = .returned (.bool true)) ∧ (¬ RR t p → e = .returned (.bool false)) ∧ Below w.heap.size w w'
theorem RowsP.yes {t : List Sm} {p : Int} {w w' : World} (h : RR t p) (hb : Below w.heap.size w w') : RowsP t p w (.returned (.bool true)) w' := ⟨fun _ => rfl, fun z => absurd h z, hb⟩
theorem RowsP.no {t : List Sm} {p : Int} {w w' : World} (h : ¬ RR t p) (hb : Below w.heap.size w w') : RowsP t p w (.returned (.bool false)) w' := ⟨fun z => absurd z h, fun _ => rfl, hb⟩
set_option maxRecDepth 100000 in
theorem rows_core {w : World} {v : Value} {t : List Sm} {T : Nat → Prop} (h : SumsAt w v t T) (p : Int) : Calls Tryz.prog 108 #[v, .int .i64 p] w (RowsP t p w) := by
  obtain ⟨o, cap, rfl, h1, h2⟩ := h.shape
  have H := hide h
  obtain ⟨PO, hPO⟩ : ∃ PO, PO = RowsP t p w := ⟨_, rfl⟩
  rw [← hPO]
  have HP := hide hPO
  obtain ⟨n, hn⟩ : ∃ n, t.length = n := ⟨_, rfl⟩
  have HN := hide hn
  rw [hn] at H h1 ⊢
  clear h hPO hn
  have bad : ¬ (1 ≤ p ∧ p ≤ 2097152 ∧ n ≤ 64) → Hid (PO (.returned (.bool false)) w) := fun z => hide (by rw [HP.out]; exact RowsP.no (fun y => z ⟨y.p1, y.p2, by rw [← HN.out]; exact y.len⟩) (Below.refl _ _))
  have q : decide (p < 1) = true ∨ decide (p < 1) = false ∧ (decide (2097152 < p) = true ∨ decide (2097152 < p) = false ∧ (decide (64 < (n : Int)) = true ∨ decide (64 < (n : Int)) = false)) := by
    simp only [decide_eq_true_eq, decide_eq_false_iff_not]
    omega
  rcases q with d1 | ⟨d1, d2 | ⟨d2, d3 | d3⟩⟩
  · have FN := bad (by simp only [decide_eq_true_eq] at d1; omega)
    clear bad H HP
    go_enter Tryz.func108, Tryz.ntmps108
    go_wp2_with fail
    first | exact FN.out | (go_ret; exact FN.out)
  · have FN := bad (by simp only [decide_eq_true_eq] at d2; omega)
    clear bad H HP
    go_enter Tryz.func108, Tryz.ntmps108
    go_wp2_with fail
    first | exact FN.out | (go_ret; exact FN.out)
  · have FN := bad (by simp only [decide_eq_true_eq] at d3; omega)
    clear bad H HP
    go_enter Tryz.func108, Tryz.ntmps108
    go_wp2_with fail
    first | exact FN.out | (go_ret; exact FN.out)
  · have z1 : 1 ≤ p := by simp only [decide_eq_false_iff_not] at d1; omega
    have z2 : p ≤ 2097152 := by simp only [decide_eq_false_iff_not] at d2; omega
    have z3 : n ≤ 64 := by simp only [decide_eq_false_iff_not] at d3; omega
    clear bad
    go_enter Tryz.func108, Tryz.ntmps108
    go_wp2_with fail
    go_loopw [20] (fun iv wr => ∃ (i : Nat), iv = .int .i64 (i : Int) ∧ i ≤ n ∧ Hid (∀ j, j < i → Rgt (nth t j) p) ∧ Hid (Below w.heap.size w wr)) (fun iv _ => n - (intOf iv).toNat)
    case atStart => exact ⟨0, rfl, Nat.zero_le _, hide (fun j hj => by omega), hide (Below.refl _ _)⟩
    case round =>
      obtain ⟨i, rfl, hi, ha, hB⟩ := hrel
      by_cases hlt : i < n
      · obtain ⟨g, off, x, rfl, hx, hg, c0, c1, c2⟩ := H.out.at hB.out hlt
        have i1 : (i : Int) < (n : Int) := by omega
        have i2 : (0 : Int) ≤ (i : Int) := by omega
        have hxn := nth_at hx
        clear hx
        by_cases e : Rgt x p
        · have CB := fun w => hide (right_yes x p e z2 w)
          have ha' : Hid (∀ j, j < i + 1 → Rgt (nth t j) p) := hide (fun j hj => by
            by_cases z : j = i
            · subst z; rw [hxn]; exact e
            · exact ha.out j (by omega))
          clear hxn e ha
          obtain ⟨s, m, y⟩ := x
          unfold sumV at CB
          dsimp only at CB c0 c1 c2
          go_wp2_with fail
          refine (CB _).out.mono ?_
          rintro e w' ⟨rfl, hb⟩
          have HB := hide (hB.out.trans ((box_cells hb).1.mono hB.out.size))
          clear hb CB
          go_wp2_with fail
          go_roundw
          case rel => exact ⟨i + 1, by go_num, by omega, ha', HB⟩
          case measure => simp [intOf]; omega
        · have CB := fun w => hide (right_no x p e z2 w)
          have NR : Hid (¬ RR t p) := hide (fun z => e (by have := z.all i (by rw [HN.out]; exact hlt); rwa [hxn] at this))
          clear hxn e ha
          obtain ⟨s, m, y⟩ := x
          unfold sumV at CB
          dsimp only at CB c0 c1 c2
          go_wp2_with fail
          refine (CB _).out.mono ?_
          rintro e w' ⟨rfl, hb⟩
          have FN : Hid (PO (.returned (.bool false)) w') := hide (by rw [HP.out]; exact RowsP.no NR.out (hB.out.trans ((box_cells hb).1.mono hB.out.size)))
          clear hb CB
          go_wp2_with fail
          first | exact FN.out | (go_ret; exact FN.out)
      · obtain rfl : i = n := by omega
        have FN : Hid (PO (.returned (.bool true)) wr) := hide (by rw [HP.out]; exact RowsP.yes ⟨z1, z2, by rw [HN.out]; exact z3, fun j hj => ha.out j (by rw [← HN.out]; exact hj)⟩ hB.out)
        have d0 : ¬ (i : Int) < (i : Int) := by omega
        clear ha HP
        go_wp2_with fail
        first | exact FN.out | (go_ret; exact FN.out)
end Go.Proofs.YtnclicdnncgdiaaGreatDoor.Mg
/- Merge. -/
namespace Go.Proofs.YtnclicdnncgdiaaGreatDoor.Mg
open Go.ChangeShapes Go.WideShapes Go.ChangeAt Go.RowKit Go.Proofs.Pk Go.Maps
set_option linter.unusedVariables false
set_option linter.unusedSimpArgs false

theorem set_same {w : World} {b k : Nat} {v u : Value} (h : w.cell? ⟨b, k, none⟩ = some v) : (w.setCell ⟨b, k, none⟩ u).cell? ⟨b, k, none⟩ = some u := World.cell?_setCell_same _ _ _ h
theorem set_other {w : World} {b k j : Nat} {u : Value} (h : j ≠ k) : (w.setCell ⟨b, k, none⟩ u).cell? ⟨b, j, none⟩ = w.cell? ⟨b, j, none⟩ := World.cell?_setCell_other _ _ _ _ (by intro e; have := congrArg Addr.off e; simp at this; omega)
theorem set_far {w : World} {b k x : Nat} {u : Value} (h : x ≠ b) : (w.setCell ⟨b, k, none⟩ u).heap[x]? = w.heap[x]? := Below.heap_setCell _ _ _ _ h
theorem fz_of_block {w w' : World} {x k : Nat} (h : w'.heap[x]? = w.heap[x]?) : w'.frozen? ⟨x, k, none⟩ = w.frozen? ⟨x, k, none⟩ := by simp [World.frozen?, h]
/-- Three numbers in a block of our own. -/
structure Bx (N Q : Nat) (w W : World) (x y z : Int) : Prop where
  be : Below N w W
  le : N ≤ Q
  lt : Q < W.heap.size
  c0 : W.cell? ⟨Q, 0, none⟩ = some (.int .i64 x)
  c1 : W.cell? ⟨Q, 1, none⟩ = some (.int .i64 y)
  c2 : W.cell? ⟨Q, 2, none⟩ = some (.int .i64 z)
  fz : ∀ k, W.frozen? ⟨Q, k, none⟩ = false
theorem Bx.of {N Q : Nat} {w W W' : World} {x y z : Int} (h : Bx N Q w W x y z) (b : Below N w W') (k : W'.heap[Q]? = W.heap[Q]?) : Bx N Q w W' x y z := by
  have hl : Q < W'.heap.size := by
    rw [Array.getElem?_eq_getElem h.lt] at k
    exact (Array.getElem?_eq_some_iff.1 k).1
  exact ⟨b, h.le, hl, (World.cell?_of_block k).trans h.c0, (World.cell?_of_block k).trans h.c1, (World.cell?_of_block k).trans h.c2, fun j => (fz_of_block k).trans (h.fz j)⟩
theorem Bx.next {N Q : Nat} {w W W' : World} {x y z : Int} (h : Bx N Q w W x y z) (k : Below W.heap.size W W') : Bx N Q w W' x y z :=
  h.of (h.be.trans (k.mono (by have := h.lt; have := h.le; omega))) (k.block Q h.lt)
theorem Bx.put {N Q : Nat} {w W : World} {x y z : Int} (h : Bx N Q w W x y z) (k : Nat) (v : Value) : Below N w (W.setCell ⟨Q, k, none⟩ v) :=
  ⟨h.be.os, h.be.tape, h.be.output, by have := h.be.size; simpa using this, fun b hb => (set_far (by have := h.le; omega)).trans (h.be.block b hb)⟩
theorem Bx.set0 {N Q : Nat} {w W : World} {x y z : Int} (h : Bx N Q w W x y z) (v : Int) : Bx N Q w (W.setCell ⟨Q, 0, none⟩ (.int .i64 v)) v y z :=
  ⟨h.put _ _, h.le, by simpa using h.lt, set_same h.c0, (set_other (by decide)).trans h.c1, (set_other (by decide)).trans h.c2, fun k => by rw [World.frozen?_setCell]; exact h.fz k⟩
theorem Bx.set1 {N Q : Nat} {w W : World} {x y z : Int} (h : Bx N Q w W x y z) (v : Int) : Bx N Q w (W.setCell ⟨Q, 1, none⟩ (.int .i64 v)) x v z :=
  ⟨h.put _ _, h.le, by simpa using h.lt, (set_other (by decide)).trans h.c0, set_same h.c1, (set_other (by decide)).trans h.c2, fun k => by rw [World.frozen?_setCell]; exact h.fz k⟩
theorem Bx.set2 {N Q : Nat} {w W : World} {x y z : Int} (h : Bx N Q w W x y z) (v : Int) : Bx N Q w (W.setCell ⟨Q, 2, none⟩ (.int .i64 v)) x y v :=
  ⟨h.put _ _, h.le, by simpa using h.lt, (set_other (by decide)).trans h.c0, (set_other (by decide)).trans h.c1, set_same h.c2, fun k => by rw [World.frozen?_setCell]; exact h.fz k⟩
theorem Bx.far {N Q R : Nat} {w W : World} {x y z : Int} (h : Bx N Q w W x y z) {k : Nat} {v : Value} (hr : Q ≠ R) (b : Below N w (W.setCell ⟨R, k, none⟩ v)) : Bx N Q w (W.setCell ⟨R, k, none⟩ v) x y z := h.of b (set_far hr)
theorem Bx.new {N : Nat} {w W : World} {x y z : Int} (h : Below N w W) (hN : N ≤ W.heap.size) : Bx N W.heap.size w (W.alloc (.cells #[.int .i64 x, .int .i64 y, .int .i64 z] 87)) x y z := by
  have hn := heap_alloc_new W (.cells #[.int .i64 x, .int .i64 y, .int .i64 z] 87)
  exact ⟨h.alloc hN _, hN, by simp, cells_of hn 0, cells_of hn 1, cells_of hn 2, fun k => by unfold World.frozen?; rw [hn]; rfl⟩
def MergeP (t : List Sm) (p : Int) (w : World) (e : Ending) (w' : World) : Prop := (RR t p → e = .returned (.tuple #[sumV (mg p (nth t) t.length), .int .i64 0])) ∧ (¬ RR t p → e = .returned (.tuple #[sumV ⟨0, 0, 0⟩, .int .i64 1])) ∧ Below w.heap.size w w'
theorem Bx.as1 {N Q : Nat} {w W : World} {x y y' z : Int} (h : Bx N Q w W x y z) (e : y = y') : Bx N Q w W x y' z := e ▸ h
set_option maxRecDepth 100000 in
set_option maxHeartbeats 2000000 in
theorem merge_core {w : World} {v : Value} {t : List Sm} {T : Nat → Prop} (h : SumsAt w v t T) (p : Int) : Calls Tryz.prog 97 #[v, .int .i64 p] w (MergeP t p w) := by
  obtain ⟨o, cap, rfl, h1, h2⟩ := h.shape
  have H := hide h
  obtain ⟨PO, hPO⟩ : ∃ PO, PO = MergeP t p w := ⟨_, rfl⟩
  rw [← hPO]
  have HP := hide hPO
  obtain ⟨n, hn⟩ : ∃ n, t.length = n := ⟨_, rfl⟩
  have HN := hide hn
  rw [hn] at H h1 ⊢
  obtain ⟨N, hN⟩ : ∃ N, w.heap.size = N := ⟨_, rfl⟩
  obtain ⟨w1, hw1⟩ : ∃ w1, w1 = w.alloc (.cells #[.int .i64 0, .int .i64 0, .int .i64 0] 87) := ⟨_, rfl⟩
  have S1 : Hid (Bx N N w w1 0 0 0) := hide (by rw [hw1, ← hN]; exact Bx.new (Below.refl _ _) (Nat.le_refl _))
  have HW := hide hw1
  have A1 : Hid (SumsAt w1 (.slice o n cap) t T) := hide (H.out.below (by rw [hw1]; exact alloc1 _ _))
  have HNN := hide hN
  clear h hPO hn hw1 hN
  go_enter Tryz.func97, Tryz.ntmps97
  go_wp2_with fail
  rw [← HW.out]
  refine (rows_core A1.out p).mono ?_
  rintro e w2 ⟨hy, hno, b2⟩
  have S2 := hide (S1.out.next b2)
  rw [HNN.out]
  by_cases r : RR t p
  · obtain rfl := hy r
    have FN : ∀ W (a : Sm), a = mg p (nth t) n → Below N w W → Hid (PO (.returned (.tuple #[sumV a, .int .i64 0])) W) := fun W a ha hW => hide (by rw [HP.out]; exact ⟨fun _ => by rw [ha, HN.out], fun z => absurd r z, by rw [HNN.out]; exact hW⟩)
    obtain ⟨p1, p2, p3, p4⟩ := r
    rw [HN.out] at p3
    have P4 : Hid (∀ j, j < n → Rgt (nth t j) p) := hide (fun j hj => p4 j (by rw [HN.out]; exact hj))
    obtain ⟨Q, hQ⟩ : ∃ Q, w2.heap.size = Q := ⟨_, rfl⟩
    have hNQ : N < Q := by have := S2.out.lt; omega
    obtain ⟨w3, hw3⟩ : ∃ w3, w3 = w2.alloc (.cells #[.int .i64 0, .int .i64 0, .int .i64 0] 87) := ⟨_, rfl⟩
    have S3 : Hid (Bx N Q w w3 0 0 0) := hide (by rw [hw3, ← hQ]; exact Bx.new S2.out.be (by omega))
    have R3 : Hid (Bx N N w w3 0 0 0) := hide (S2.out.next (by rw [hw3]; exact alloc1 _ _))
    have HW3 := hide hw3
    have HQ := hide hQ
    clear hy hno b2 S1 A1 HW S2 p4 HP hw3 hQ
    go_wp2_with fail
    rw [← HW3.out, HQ.out]
    clear HW3 HQ
    go_loopw [16] (fun iv wr => ∃ (i : Nat), iv = .int .i64 (i : Int) ∧ i ≤ n ∧ Hid (Bx N N w wr 0 0 0 ∧ Bx N Q w wr (mg p (nth t) i).s (mg p (nth t) i).m (mg p (nth t) i).e )) (fun iv _ => n - (intOf iv).toNat)
    case atStart => exact ⟨0, rfl, Nat.zero_le _, hide ⟨R3.out, S3.out⟩⟩
    case round =>
      clear R3 S3
      obtain ⟨i, rfl, hi, HH⟩ := hrel
      obtain ⟨hR, hS⟩ := HH.out
      clear HH
      have HR := hide hR
      have HS := hide hS
      have g0 := hS.c0
      have g1 := hS.c1
      have g2 := hS.c2
      have gf0 := hS.fz 0
      have gf1 := hS.fz 1
      have gf2 := hS.fz 2
      clear hR hS
      by_cases hlt : i < n
      · obtain ⟨g, off, x, rfl, hx, hg, c0, c1, c2⟩ := H.out.at (by rw [HNN.out]; exact HS.out.be) hlt
        have i1 : (i : Int) < (n : Int) := by omega
        have i2 : (0 : Int) ≤ (i : Int) := by omega
        have hxn := nth_at hx
        have hr := P4.out i hlt
        rw [hxn] at hr
        have hok := mg_ok p1 i (fun j hj => P4.out j (by omega))
        have em : mg p (nth t) (i + 1) = ⟨if (mg p (nth t) i).s = (i : Int) * p then (mg p (nth t) i).s + x.s else (mg p (nth t) i).s, max (max (mg p (nth t) i).m x.m) ((mg p (nth t) i).e + x.s), if x.e = p then (mg p (nth t) i).e + p else x.e⟩ := by rw [mg, hxn]
        have qb : (i : Int) * p ≤ 134217728 := by
          have : (i : Int) * p ≤ 64 * p := Int.mul_le_mul_of_nonneg_right (by omega) (by omega)
          omega
        have qa : 0 ≤ (i : Int) * p := Int.mul_nonneg i2 (by omega)
        have EM := hide em
        clear hx hxn em
        generalize mg p (nth t) i = a at *
        obtain ⟨s, m, y⟩ := x
        obtain ⟨S, M, E⟩ := a
        dsimp only at *
        obtain ⟨⟨r1, r2, r3, r4, r5, r6⟩, r7⟩ := hr
        obtain ⟨k1, k2, k3, k4, k5, k6, k7⟩ := hok
        dsimp only at r1 r2 r3 r4 r5 r6 r7 k1 k2 k3 k4 k5 k6 k7
        have u1 : S ≤ 134217728 := by omega
        have u2 : M ≤ 134217728 := by omega
        have u3 : E ≤ 134217728 := by omega
        have v1 : s ≤ 2097152 := by omega
        have v2 : m ≤ 2097152 := by omega
        have v3 : y ≤ 2097152 := by omega
        have b1 : 0 ≤ S := k1
        have b2 : 0 ≤ E := k2
        have b3 : 0 ≤ s := r1
        have b4 : 0 ≤ y := r2
        have b5 : 0 ≤ M := by omega
        have b6 : 0 ≤ m := by omega
        have hQl := HS.out.lt
        have hNQ' : N ≠ Q := by omega
        clear r3 r4 r5 r6 r7 k1 k2 k3 k4 k5 k6 k7 r1 r2
        by_cases c : S = (i : Int) * p
        · have dc : (S == (i : Int) * p) = true := beq_iff_eq.2 c
          rw [if_pos c] at EM
          clear c
          go_wp2_with fail
          all_goals
            refine (end_any E ⟨s, m, y⟩ p b2 (by omega) p1 p2 _).mono ?_
            rintro e w5 ⟨rfl, b5⟩
            dsimp only
            have S5 := (((HS.out.set0 (S + s)).set1 _).next (alloc1 _ _)).next b5
            have R5 := (((HR.out.far hNQ' (HS.out.put 0 _)).far hNQ' ((HS.out.set0 (S + s)).put 1 _)).next (alloc1 _ _)).next b5
            obtain ⟨Z, hZ⟩ : ∃ Z, (if y = p then E + p else y) = Z := ⟨_, rfl⟩
            rw [hZ] at EM ⊢
            have q0 := S5.c0
            have q1 := S5.c1
            have q2 := S5.c2
            have qf := S5.fz 2
            have S6 := S5.set2 Z
            have R6 := R5.far hNQ' S6.be
            have SS := hide S6
            have RS := hide R6
            clear S5 R5 S6 R6 b5 hZ
            go_wp2_with fail
            go_roundw
            case rel => exact ⟨i + 1, by go_num, by omega, hide ⟨RS.out, by
              rw [EM.out]
              dsimp only
              exact SS.out.as1 (by omega)⟩⟩
            case measure => simp [intOf]; omega
        · have dc : (S == (i : Int) * p) = false := beq_eq_false_iff_ne.2 c
          rw [if_neg c] at EM
          clear c
          go_wp2_with fail
          all_goals
            refine (end_any E ⟨s, m, y⟩ p b2 (by omega) p1 p2 _).mono ?_
            rintro e w5 ⟨rfl, b5⟩
            dsimp only
            have S5 := ((HS.out.set1 _).next (alloc1 _ _)).next b5
            have R5 := ((HR.out.far hNQ' (HS.out.put 1 _)).next (alloc1 _ _)).next b5
            obtain ⟨Z, hZ⟩ : ∃ Z, (if y = p then E + p else y) = Z := ⟨_, rfl⟩
            rw [hZ] at EM ⊢
            have q0 := S5.c0
            have q1 := S5.c1
            have q2 := S5.c2
            have qf := S5.fz 2
            have S6 := S5.set2 Z
            have R6 := R5.far hNQ' S6.be
            have SS := hide S6
            have RS := hide R6
            clear S5 R5 S6 R6 b5 hZ
            go_wp2_with fail
            go_roundw
            case rel => exact ⟨i + 1, by go_num, by omega, hide ⟨RS.out, by
              rw [EM.out]
              dsimp only
              exact SS.out.as1 (by omega)⟩⟩
            case measure => simp [intOf]; omega
      · obtain rfl : i = n := by omega
        have d0 : ¬ (i : Int) < (i : Int) := by omega
        have r0 := HR.out.c0
        have r1 := HR.out.c1
        have r2 := HR.out.c2
        have rf0 := HR.out.fz 0
        have rf1 := HR.out.fz 1
        have rf2 := HR.out.fz 2
        obtain ⟨S, hSs⟩ : ∃ S, (mg p (nth t) i).s = S := ⟨_, rfl⟩
        obtain ⟨M, hMs⟩ : ∃ S, (mg p (nth t) i).m = S := ⟨_, rfl⟩
        obtain ⟨E, hEs⟩ : ∃ S, (mg p (nth t) i).e = S := ⟨_, rfl⟩
        rw [hSs] at g0
        rw [hMs] at g1
        rw [hEs] at g2
        have F2 := hide (((HR.out.set0 S).set1 M).set2 E)
        have FF := FN _ ⟨S, M, E⟩ (by rw [← hSs, ← hMs, ← hEs]) F2.out.be
        clear FN hSs hMs hEs HR HS H
        go_wp2_with fail
        have e0 := F2.out.c0
        have e1 := F2.out.c1
        have e2 := F2.out.c2
        refine bodyPost_ret (v := .tuple #[sumV ⟨S, M, E⟩, .int .i64 0]) ?_ rfl FF.out
        simp [results, Tryz.results97, go_sem, sumV, Nat.add_assoc, e0, e1, e2, Result.andThen]
  · obtain rfl := hno r
    have FN : ∀ W, Below N w W → Hid (PO (.returned (.tuple #[sumV ⟨0, 0, 0⟩, .int .i64 1])) W) := fun W hW => hide (by rw [HP.out]; exact ⟨fun z => absurd z r, fun _ => rfl, by rw [HNN.out]; exact hW⟩)
    have c0 := S2.out.c0
    have c1 := S2.out.c1
    have c2 := S2.out.c2
    have f0 := S2.out.fz 0
    have f1 := S2.out.fz 1
    have f2 := S2.out.fz 2
    have F2 := hide (((S2.out.set0 0).set1 0).set2 0)
    have FF := FN _ F2.out.be
    clear hy hno b2 r HP S1 A1 HW H FN
    go_wp2_with fail
    have e0 := F2.out.c0
    have e1 := F2.out.c1
    have e2 := F2.out.c2
    refine bodyPost_ret (v := .tuple #[sumV ⟨0, 0, 0⟩, .int .i64 1]) ?_ rfl FF.out
    simp [results, Tryz.results97, go_sem, sumV, Nat.add_assoc, e0, e1, e2, Result.andThen]
end Go.Proofs.YtnclicdnncgdiaaGreatDoor.Mg
