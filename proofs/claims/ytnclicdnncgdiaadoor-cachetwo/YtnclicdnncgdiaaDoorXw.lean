/- Package radix: set; a tree as its callers know it. -/
import Derived.Test.YtnclicdnncgdiaaDoorXv
namespace Go.Proofs.YtnclicdnncgdiaaDoor
open Go.ChangeShapes Go.WideShapes Go.ChangeAt Go.RowKit Go.Proofs.Bt Go.Shelf Go.Proofs.Rx Go.Maps Go.Proofs.Pk
set_option linter.unusedVariables false
set_option linter.unusedSimpArgs false

theorem fld60a (p f g s m e r : Value) (w : World) : (Instr.field 84 (.agg #[p, f, g, s, m, e, r]) 0).run Tryd.prog w = .ok (.agg #[p, f, g]) w := by
  simp [Instr.field, run_underlying Tryd.underlying84, part, go_sem, asAgg]
theorem fld60b (p f g s m e r : Value) (w : World) : (Instr.field 84 (.agg #[p, f, g, s, m, e, r]) 1).run Tryd.prog w = .ok (.agg #[s, m, e]) w := by
  simp [Instr.field, run_underlying Tryd.underlying84, part, go_sem, asAgg]
theorem fld55a (p f g : Value) (w : World) : (Instr.field 60 (.agg #[p, f, g]) 0).run Tryd.prog w = .ok p w := by
  simp [Instr.field, run_underlying Tryd.underlying60, part, go_sem, asAgg]
theorem fld55b (p f g : Value) (w : World) : (Instr.field 60 (.agg #[p, f, g]) 1).run Tryd.prog w = .ok f w := by
  simp [Instr.field, run_underlying Tryd.underlying60, part, go_sem, asAgg]
theorem fld55c (p f g : Value) (w : World) : (Instr.field 60 (.agg #[p, f, g]) 2).run Tryd.prog w = .ok g w := by
  simp [Instr.field, run_underlying Tryd.underlying60, part, go_sem, asAgg]
theorem fld63a (p f : Value) (w : World) : (Instr.field 93 (.agg #[p, f]) 0).run Tryd.prog w = .ok p w := by
  simp [Instr.field, run_underlying Tryd.underlying93, part, go_sem, asAgg]
set_option maxRecDepth 100000 in
theorem set9_any {w : World} {T : Tid} {L : Lv} {C : Ch} {st : Nat → Nat} (h : Tree w T L C st) (p n s : Nat) (hn : 1 ≤ n) (hpn : p + n ≤ 34359738368) (hs : 1 ≤ s ∧ s ≤ 3) (hm : Mono st p (p + n)) :
    Calls Tryd.prog 21 #[tp T, .int .u64 (p : Nat), .int .u64 (n : Nat), .int .i64 (s : Nat)] w fun e w' => e = .returned (.tuple #[]) ∧ (∃ L' C', Tree w' T L' C' (setSt st p (p + n) s) ∧ NewC w.heap.size C C') ∧ Kept (Wr T C) w w' := by
  obtain ⟨R, hR⟩ : ∃ R, R = (fun (e : Ending) (w' : World) => e = .returned (.tuple #[]) ∧ (∃ L' C', Tree w' T L' C' (setSt st p (p + n) s) ∧ NewC w.heap.size C C') ∧ Kept (Wr T C) w w') := ⟨_, rfl⟩
  rw [← hR]
  have HR := hide hR
  have HH := hide h
  have CT := hide (top_any h.rad)
  obtain ⟨r, hr⟩ : ∃ r, row L 0 0 0 = r := ⟨_, rfl⟩
  have e0 : sz 0 = 34359738368 := rfl
  have G0 := h.good
  rw [hr] at CT G0
  have CI := fun X (hX : RadAt X T L C) => hide (setIn_any T 6 0 rfl X L C st hX h.four 0 r p (p + n) s G0 (by rw [e0]; omega) (by omega) hpn (by rw [e0]; omega) (by omega) hs (by
    rw [show max p (0 * sz 0) = p by omega, show min (p + n) ((0 + 1) * sz 0) = p + n by rw [e0]; omega]; exact hm))
  rw [show max p (0 * sz 0) = p by omega, show min (p + n) ((0 + 1) * sz 0) = p + n by rw [e0]; omega] at CI
  have p0 : (0 : Int) ≤ p := by omega
  have n0 : (1 : Int) ≤ n := by omega
  have pn : (p : Int) + (n : Int) ≤ 34359738368 := by omega
  rw [show ((p + n : Nat) : Int) = (p : Int) + (n : Int) from rfl] at CI
  simp only [Int.cast_ofNat_Int] at CI
  unfold tp at CT CI ⊢
  unfold rwV at CT CI
  unfold spanV at CI
  clear hR h hm G0 hr
  go_enter Tryd.func21, Tryd.ntmps21
  go_wp2_with fail
  refine CT.out.mono ?_
  rintro e w1 ⟨rfl, b1⟩
  have B1 := hide b1
  have R1 := hide (HH.out.rad.below b1)
  clear b1 CT
  go_wp2_with fail
  refine (CI _ R1.out).out.mono ?_
  rintro e w2 ⟨r2, L2, C2, rfl, rad2, g2, o2, nc2, k2⟩
  have R2 := hide rad2
  have G2 := hide g2
  have NC2 := hide nc2
  have K2 := hide ((Kept.of_below (F := Wr T C) B1.out).trans k2 (fun _ _ z => z))
  have CK := hide (keep_any rad2 0 0 0 (by omega) (by omega) (by omega) r2)
  have s1 := B1.out.size
  unfold rwV
  unfold tp rwV at CK
  simp only [Int.cast_ofNat_Int] at CK
  clear CI rad2 g2 o2 nc2 k2
  go_wp2_with fail
  refine CK.out.mono ?_
  rintro e w3 ⟨rfl, ⟨o, ho, rad3⟩, k3⟩
  have F := hide (show R (.returned (.tuple #[])) w3 from by
    rw [HR.out]
    refine ⟨rfl, ⟨_, C2, ⟨rad3, ?_, setSt_four HH.out.four hs.2, fun q hq => ?_⟩, NC2.out.mono (by omega)⟩, K2.out.trans k3 (fun x hx hz => .inr (.inl ⟨0, by omega, hz⟩))⟩
    · have er : row (putL L2 0 0 o) 0 0 0 = r2 := by unfold row; rw [putL_same]; exact ho
      rw [er]
      exact G2.out.congr rfl ⟨fun d x hd _ => (putL_other (fun z => by omega)).symm, fun _ _ => rfl, fun _ _ _ => rfl⟩
    · rw [setSt_out (by omega)]; exact HH.out.out q hq)
  clear CK ho rad3 k3
  go_wp2_with fail
  exact bodyPost_ret (v := .tuple #[]) (by simp [results, Tryd.results21, go_sem]) rfl F.out
/-- A tree that lies from B on, whose pages are so, beside blocks O of others. -/
def TreeE (B : Nat) (O : Nat → Prop) (w : World) (tb : Nat) (st : Nat → Nat) : Prop := ∃ T L C, T.tb = tb ∧ T.B = B ∧ Tree w T L C st ∧ ∀ x, O x → ¬ Foot T C x ∧ B ≤ x ∧ x < w.heap.size
theorem TreeE.lt {B : Nat} {O : Nat → Prop} {w : World} {tb : Nat} {st : Nat → Nat} (h : TreeE B O w tb st) : tb < w.heap.size ∧ B ≤ tb ∧ B ≤ w.heap.size := by
  obtain ⟨T, L, C, rfl, rfl, h1, h2⟩ := h
  have := h1.rad.lt (x := T.tb) (.inr (.inl rfl))
  have := h1.rad.base T.tb (.inr (.inl rfl))
  omega
theorem TreeE.four {B : Nat} {O : Nat → Prop} {w : World} {tb : Nat} {st : Nat → Nat} (h : TreeE B O w tb st) : Four st := by
  obtain ⟨T, L, C, rfl, rfl, h1, h2⟩ := h
  exact h1.four
theorem TreeE.out {B : Nat} {O : Nat → Prop} {w : World} {tb : Nat} {st : Nat → Nat} (h : TreeE B O w tb st) : ∀ q, 34359738368 ≤ q → st q = 0 := by
  obtain ⟨T, L, C, rfl, rfl, h1, h2⟩ := h
  exact h1.out
/-- Others make blocks of their own. -/
theorem TreeE.more {B : Nat} {O O' : Nat → Prop} {w w' : World} {tb : Nat} {st : Nat → Nat} (h : TreeE B O w tb st) (hb : Below w.heap.size w w') (hO : ∀ x, O' x → O x ∨ (w.heap.size ≤ x ∧ x < w'.heap.size)) : TreeE B O' w' tb st := by
  have lt := h.lt
  obtain ⟨T, L, C, e1, e2, h1, h2⟩ := h
  refine ⟨T, L, C, e1, e2, h1.below hb, fun x hx => ?_⟩
  have := hb.size
  rcases hO x hx with z | z
  · obtain ⟨a, b, c⟩ := h2 x z
    exact ⟨a, b, by omega⟩
  · exact ⟨h1.rad.foot_lt z.1, by omega, z.2⟩
theorem TreeE.below {B : Nat} {O : Nat → Prop} {w w' : World} {tb : Nat} {st : Nat → Nat} (h : TreeE B O w tb st) (hb : Below w.heap.size w w') : TreeE B O w' tb st := h.more hb (fun x hx => .inl hx)
/-- Others write their blocks. -/
theorem TreeE.kept {B : Nat} {O F : Nat → Prop} {w w' : World} {tb : Nat} {st : Nat → Nat} (h : TreeE B O w tb st) (k : Kept F w w') (hF : ∀ x, F x → O x) : TreeE B O w' tb st := by
  obtain ⟨T, L, C, e1, e2, h1, h2⟩ := h
  refine ⟨T, L, C, e1, e2, ⟨h1.rad.kept k (fun x hx => ⟨(h2 x (hF x hx)).1, by rw [e2]; exact (h2 x (hF x hx)).2.1⟩), h1.good, h1.four, h1.out⟩, fun x hx => ?_⟩
  obtain ⟨a, b, c⟩ := h2 x hx
  have := k.size
  exact ⟨a, b, by omega⟩
/-- What a change of the tree leaves. -/
def Chg (B : Nat) (O : Nat → Prop) (w : World) (tb : Nat) (st : Nat → Nat) (w' : World) : Prop := TreeE B O w' tb st ∧ Kept (fun x => B ≤ x ∧ ¬ O x) w w'
theorem Chg.of {B : Nat} {O : Nat → Prop} {w w' : World} {T : Tid} {L : Lv} {C : Ch} {st0 st : Nat → Nat} (h : Tree w T L C st0) (hB : T.B = B) (hO : ∀ x, O x → ¬ Foot T C x ∧ B ≤ x ∧ x < w.heap.size) (hx : ∃ L' C', Tree w' T L' C' st ∧ NewC w.heap.size C C') (k : Kept (Wr T C) w w') : Chg B O w T.tb st w' := by
  obtain ⟨L', C', h1, nc⟩ := hx
  refine ⟨⟨T, L', C', rfl, hB, h1, fun x hx => ?_⟩, k.mono (fun x hx => ⟨by rw [← hB]; exact h.rad.base x (.inl hx), fun z => (hO x z).1 (.inl hx)⟩)⟩
  obtain ⟨a, b, c⟩ := hO x hx
  have := k.size
  refine ⟨fun z => ?_, b, by omega⟩
  rcases z with z | z
  · rcases nc.wr z with y | y
    · exact a (.inl y)
    · omega
  · exact a (.inr z)
theorem Chg.same {B : Nat} {O : Nat → Prop} {w w' : World} {tb : Nat} {st : Nat → Nat} (h : TreeE B O w tb st) (hb : Below w.heap.size w w') : Chg B O w tb st w' := ⟨h.below hb, Kept.of_below hb⟩
end Go.Proofs.YtnclicdnncgdiaaDoor
