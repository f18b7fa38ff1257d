/- Package slices: partitionEqualOrdered: a contract. -/
import Derived.Test.YtdcjldpbgickmaaSu
namespace Go.Proofs.Ytdcjldpbgickmaa
open Go.ChangeShapes Go.WideShapes Go.ChangeAt Go.RowKit Go.Shelf Go.Proofs.Rx Go.Maps
open Go.Sort (swp ltInt size_swp swp_left swp_right swp_other PermIn)
set_option linter.unusedVariables false
set_option linter.unusedSimpArgs false

set_option maxRecDepth 100000 in
set_option maxHeartbeats 8000000 in
theorem partEq_any {blk off : Nat} {w0 W : World} {d : Array Int} (h : RwU blk off w0 d W) (cap a b pv : Nat) (hpv : a < pv) (hpb : pv < b) (hb : b ≤ d.size) (hsz : d.size < 1152921504606846976) :
    Calls Try.prog 44 #[.slice (some ⟨blk, off, none⟩) d.size cap, .int .i64 (a : Nat), .int .i64 (b : Nat), .int .i64 (pv : Nat)] W fun e W' => e = .returned (.int .i64 ((Go.Sort.partitionEqual ltInt d a b pv).1 : Nat)) ∧ RwU blk off w0 (Go.Sort.partitionEqual ltInt d a b pv).2 W' := by
  obtain ⟨n, hn⟩ : ∃ n, d.size = n := ⟨_, rfl⟩
  rw [hn] at hb hsz ⊢
  obtain ⟨R, hR⟩ : ∃ R : Ending → World → Prop, R = fun e W' => e = .returned (.int .i64 ((Go.Sort.partitionEqual ltInt d a b pv).1 : Nat)) ∧ RwU blk off w0 (Go.Sort.partitionEqual ltInt d a b pv).2 W' := ⟨_, rfl⟩
  rw [← hR]
  obtain ⟨c, hc0⟩ : ∃ c, b - 1 = c := ⟨_, rfl⟩
  have hcI : (b : Int) - 1 = (c : Int) := by omega
  obtain ⟨a1, ha1⟩ : ∃ a1, a + 1 = a1 := ⟨_, rfl⟩
  have haI : (a : Int) + 1 = (a1 : Int) := by omega
  obtain ⟨f0, hf0⟩ : ∃ f0, swp d a pv = f0 := ⟨_, rfl⟩
  have FIN := hide (show ∀ (p : Nat) (e : Array Int), Go.Sort.partEqLoop ltInt a a1 c f0 = (p, e) → ∀ (Y : World), RwU blk off w0 e Y → R (.returned (.int .i64 (p : Nat))) Y from fun p e h1 Y h2 => by
    have h3 : Go.Sort.partitionEqual ltInt d a b pv = (p, e) := by unfold Go.Sort.partitionEqual; rw [hf0, ha1, hc0]; exact h1
    rw [hR, h3]
    exact ⟨rfl, h2⟩)
  have S0 := hide (show f0.size = n from by rw [← hf0, size_swp]; exact hn)
  obtain ⟨G, hG⟩ : ∃ G : Nat → Int, ∀ t, G t = d[t]! := ⟨fun t => d[t]!, fun _ => rfl⟩
  have hc : ∀ t, t < n → W.cell? ⟨blk, off + t, none⟩ = some (.int .u64 (G t)) := fun t ht => by rw [hG]; exact h.cell t (by rw [hn]; exact ht)
  have hf : ∀ t, t < n → W.frozen? ⟨blk, off + t, none⟩ = false := fun t ht => h.fz t (by rw [hn]; exact ht)
  obtain ⟨X1, hX1⟩ : ∃ X1, ((W.setCell ⟨blk, off + a, none⟩ (.int .u64 (G pv))).setCell ⟨blk, off + pv, none⟩ (.int .u64 (G a))).drew = X1 := ⟨_, rfl⟩
  have E0 := hide (show RwU blk off w0 f0 X1 from by
    rw [← hX1, hG, hG, ← hf0]
    exact (h.swap a pv (by omega) (by omega)).drew)
  have an : a < n := by omega
  have pn : pv < n := by omega
  have n1 : ¬ a = pv := by omega
  have n2 : ¬ pv = a := by omega
  have bI : (b : Int) < 1152921504606846976 := by omega
  clear h hn hR hG hf0
  go_enter Try.func44, Try.ntmps44
  go_wp2_with fail
  go_region
  all_goals go_wp2_with fail
  clear hc hf
  go_loopw [9, 10] (fun vi vj Y => ∃ (ii jj : Nat) (e : Array Int), vi = .int .i64 (ii : Nat) ∧ vj = .int .i64 (jj : Nat) ∧ a < ii ∧ ii ≤ jj + 1 ∧ jj < b ∧ Hid (e.size = n) ∧ Hid (RwU blk off w0 e Y) ∧ Hid (Go.Sort.partEqLoop ltInt a ii jj e = Go.Sort.partEqLoop ltInt a a1 c f0)) (fun vi vj _ => (zi vj + 1 - zi vi).toNat)
  case atStart => exact ⟨a1, c, f0, rfl, rfl, by omega, by omega, by omega, S0, E0, hide rfl⟩
  case round =>
    obtain ⟨ii, jj, e, rfl, rfl, e1, e2, e3, ES, EE, EO⟩ := hrel
    go_wp2_with fail
    obtain ⟨G2, hG2⟩ : ∃ G : Nat → Int, ∀ t, G t = e[t]! := ⟨fun t => e[t]!, fun _ => rfl⟩
    have HG2 := hide hG2
    clear hG2
    go_loopw [9] (fun vi Y => ∃ (i : Nat), vi = .int .i64 (i : Nat) ∧ ii ≤ i ∧ i ≤ jj + 1 ∧ Hid (RwU blk off w0 e Y) ∧ Hid (Go.Sort.scanUp (fun x => !ltInt e[a]! x) e jj i = Go.Sort.scanUp (fun x => !ltInt e[a]! x) e jj ii)) (fun vi _ => jj + 1 - (zi vi).toNat)
    case atStart => exact ⟨ii, rfl, Nat.le_refl _, by omega, EE, hide rfl⟩
    case round =>
      obtain ⟨i, rfl, i1, i2, IE, IO⟩ := hrel
      have hc : ∀ t, t < n → wr.cell? ⟨blk, off + t, none⟩ = some (.int .u64 (G2 t)) := fun t ht => by rw [HG2.out]; exact IE.out.cell t (by rw [ES.out]; exact ht)
      have hf : ∀ t, t < n → wr.frozen? ⟨blk, off + t, none⟩ = false := fun t ht => IE.out.fz t (by rw [ES.out]; exact ht)
      by_cases ci : i ≤ jj
      · have di : decide ((i : Int) ≤ (jj : Int)) = true := decide_eq_true (by omega)
        have iN : i < n := by omega
        go_wp2_with fail
        go_quiet (first | (go_at_call 43; refine Calls.quiet_of_same (less_any _ _ _)))
        cases hl : ltInt (G2 a) (G2 i) with
        | false =>
          simp only [Bool.not_false]
          go_wp2_with fail
          have hg := HG2.out
          refine ⟨⟨i + 1, by push_cast; rfl, by omega, by omega, hide (IE.out.drewN _), hide ?_⟩, by simp [zi]; omega⟩
          rw [← IO.out, su_on (fun x => !ltInt e[a]! x) e jj i ci (by show (!ltInt e[a]! e[i]!) = true; rw [← hg, ← hg, hl]; rfl)]
        | true =>
          simp only [Bool.not_true]
          have E2 := hide (IE.out.drewN nq)
          have SU := hide (show Go.Sort.scanUp (fun x => !ltInt e[a]! x) e jj ii = i from by
            have hg := HG2.out
            rw [← IO.out, su_off (fun x => !ltInt e[a]! x) e jj i (.inr (by show (!ltInt e[a]! e[i]!) = false; rw [← hg, ← hg, hl]; rfl))])
          have HL := hide hl
          obtain ⟨X2, hX2⟩ : ∃ X2, wr.drewN nq = X2 := ⟨_, rfl⟩
          rw [hX2] at E2 ⊢
          clear hX2 hc hf hl
          go_wp2_with fail
          go_loopw [10] (fun vj Y => ∃ (j : Nat), vj = .int .i64 (j : Nat) ∧ i ≤ j + 1 ∧ j ≤ jj ∧ Hid (RwU blk off w0 e Y) ∧ Hid (Go.Sort.scanDown (fun x => ltInt e[a]! x) e i j = Go.Sort.scanDown (fun x => ltInt e[a]! x) e i jj)) (fun vj _ => (zi vj).toNat)
          case atStart => exact ⟨jj, rfl, by omega, Nat.le_refl _, E2, hide rfl⟩
          case round =>
            obtain ⟨j, rfl, j1, j2, JE, JO⟩ := hrel
            have hcj : ∀ t, t < n → wr.cell? ⟨blk, off + t, none⟩ = some (.int .u64 (G2 t)) := fun t ht => by rw [HG2.out]; exact JE.out.cell t (by rw [ES.out]; exact ht)
            have hfj : ∀ t, t < n → wr.frozen? ⟨blk, off + t, none⟩ = false := fun t ht => JE.out.fz t (by rw [ES.out]; exact ht)
            by_cases cj : i ≤ j
            · have dj : decide ((i : Int) ≤ (j : Int)) = true := decide_eq_true (by omega)
              have jn : j < n := by omega
              go_wp2_with fail
              go_quiet (first | (go_at_call 43; refine Calls.quiet_of_same (less_any _ _ _)))
              cases hv : ltInt (G2 a) (G2 j) with
              | true =>
                go_wp2_with fail
                have hg := HG2.out
                refine ⟨⟨j - 1, by congr 1; omega, by omega, by omega, hide (JE.out.drewN _), hide ?_⟩, by simp [zi]; omega⟩
                rw [← JO.out, sd_on (fun x => ltInt e[a]! x) e i j (by omega) cj (by show ltInt e[a]! e[j]! = true; rw [← hg, ← hg, hv])]
              | false =>
                have E3 := hide (JE.out.drewN nq)
                have SD := hide (show Go.Sort.scanDown (fun x => ltInt e[a]! x) e i jj = j from by
                  have hg := HG2.out
                  rw [← JO.out, sd_off (fun x => ltInt e[a]! x) e i j (by omega) (.inr (by show ltInt e[a]! e[j]! = false; rw [← hg, ← hg, hv]))])
                obtain ⟨X3, hX3⟩ : ∃ X3, wr.drewN nq = X3 := ⟨_, rfl⟩
                rw [hX3] at E3 ⊢
                have hc3 : ∀ t, t < n → X3.cell? ⟨blk, off + t, none⟩ = some (.int .u64 (G2 t)) := fun t ht => by rw [HG2.out]; exact E3.out.cell t (by rw [ES.out]; exact ht)
                have hf3 : ∀ t, t < n → X3.frozen? ⟨blk, off + t, none⟩ = false := fun t ht => E3.out.fz t (by rw [ES.out]; exact ht)
                clear hX3 hcj hfj
                have cij : ¬ j < i := by omega
                have dg : decide ((j : Int) < (i : Int)) = false := decide_eq_false (by omega)
                have ij : ¬ i = j := fun z => by
                  have q := HL.out
                  rw [z, hv] at q
                  cases q
                have ji : ¬ j = i := fun z => ij z.symm
                have iN : i < n := by omega
                have jN : j < n := by omega
                go_wp2_with fail
                go_region
                all_goals go_wp2_with fail
                have hg := HG2.out
                refine ⟨⟨i + 1, j - 1, swp e i j, by push_cast; rfl, by congr 1; omega, by omega, by omega, by omega, hide (by rw [size_swp]; exact ES.out), hide ?_, hide ?_⟩, by simp [zi]; omega⟩
                · rw [hg, hg]
                  exact (E3.out.swap i j (by rw [ES.out]; omega) (by rw [ES.out]; omega)).drew
                · rw [← EO.out, peq_on ltInt a ii jj i j e SU.out SD.out cij (by omega) (by omega) (by omega)]
            · have dj : decide ((i : Int) ≤ (j : Int)) = false := decide_eq_false (by omega)
              have SD := hide (show Go.Sort.scanDown (fun x => ltInt e[a]! x) e i jj = j from by rw [← JO.out, sd_off (fun x => ltInt e[a]! x) e i j (by omega) (.inl cj)])
              go_wp2_with fail
              go_quiet (first | (go_at_call 43; refine Calls.quiet_of_same (less_any _ _ _)))
              have E3 := hide (JE.out.drewN nq)
              obtain ⟨X3, hX3⟩ : ∃ X3, wr.drewN nq = X3 := ⟨_, rfl⟩
              rw [hX3] at E3 ⊢
              have hc3 : ∀ t, t < n → X3.cell? ⟨blk, off + t, none⟩ = some (.int .u64 (G2 t)) := fun t ht => by rw [HG2.out]; exact E3.out.cell t (by rw [ES.out]; exact ht)
              have hf3 : ∀ t, t < n → X3.frozen? ⟨blk, off + t, none⟩ = false := fun t ht => E3.out.fz t (by rw [ES.out]; exact ht)
              clear hX3 hcj hfj
              have cji : j < i := by omega
              have dg : decide ((j : Int) < (i : Int)) = true := decide_eq_true (by omega)
              have F := hide (FIN.out i e (by rw [← EO.out, peq_end ltInt a ii jj i j e SU.out SD.out cji]) X3 E3.out)
              go_wp2_with fail
              first | exact F.out | (go_ret; exact F.out)
      · have di : decide ((i : Int) ≤ (jj : Int)) = false := decide_eq_false (by omega)
        have SU := hide (show Go.Sort.scanUp (fun x => !ltInt e[a]! x) e jj ii = i from by rw [← IO.out, su_off (fun x => !ltInt e[a]! x) e jj i (.inl ci)])
        go_wp2_with fail
        go_quiet (first | (go_at_call 43; refine Calls.quiet_of_same (less_any _ _ _)))
        have E2 := hide (IE.out.drewN nq)
        obtain ⟨X2, hX2⟩ : ∃ X2, wr.drewN nq = X2 := ⟨_, rfl⟩
        rw [hX2] at E2 ⊢
        clear hX2 hc hf
        go_wp2_with fail
        go_loopw [10] (fun vj Y => ∃ (j : Nat), vj = .int .i64 (j : Nat) ∧ i ≤ j + 1 ∧ j ≤ jj ∧ Hid (RwU blk off w0 e Y) ∧ Hid (Go.Sort.scanDown (fun x => ltInt e[a]! x) e i j = Go.Sort.scanDown (fun x => ltInt e[a]! x) e i jj)) (fun vj _ => (zi vj).toNat)
        case atStart => exact ⟨jj, rfl, by omega, Nat.le_refl _, E2, hide rfl⟩
        case round =>
          obtain ⟨j, rfl, j1, j2, JE, JO⟩ := hrel
          have hcj : ∀ t, t < n → wr.cell? ⟨blk, off + t, none⟩ = some (.int .u64 (G2 t)) := fun t ht => by rw [HG2.out]; exact JE.out.cell t (by rw [ES.out]; exact ht)
          have hfj : ∀ t, t < n → wr.frozen? ⟨blk, off + t, none⟩ = false := fun t ht => JE.out.fz t (by rw [ES.out]; exact ht)
          by_cases cj : i ≤ j
          · have dj : decide ((i : Int) ≤ (j : Int)) = true := decide_eq_true (by omega)
            have jn : j < n := by omega
            go_wp2_with fail
            go_quiet (first | (go_at_call 43; refine Calls.quiet_of_same (less_any _ _ _)))
            cases hv : ltInt (G2 a) (G2 j) with
            | true =>
              go_wp2_with fail
              have hg := HG2.out
              refine ⟨⟨j - 1, by congr 1; omega, by omega, by omega, hide (JE.out.drewN _), hide ?_⟩, by simp [zi]; omega⟩
              rw [← JO.out, sd_on (fun x => ltInt e[a]! x) e i j (by omega) cj (by show ltInt e[a]! e[j]! = true; rw [← hg, ← hg, hv])]
            | false =>
              have E3 := hide (JE.out.drewN nq)
              have SD := hide (show Go.Sort.scanDown (fun x => ltInt e[a]! x) e i jj = j from by
                have hg := HG2.out
                rw [← JO.out, sd_off (fun x => ltInt e[a]! x) e i j (by omega) (.inr (by show ltInt e[a]! e[j]! = false; rw [← hg, ← hg, hv]))])
              obtain ⟨X3, hX3⟩ : ∃ X3, wr.drewN nq = X3 := ⟨_, rfl⟩
              rw [hX3] at E3 ⊢
              have hc3 : ∀ t, t < n → X3.cell? ⟨blk, off + t, none⟩ = some (.int .u64 (G2 t)) := fun t ht => by rw [HG2.out]; exact E3.out.cell t (by rw [ES.out]; exact ht)
              have hf3 : ∀ t, t < n → X3.frozen? ⟨blk, off + t, none⟩ = false := fun t ht => E3.out.fz t (by rw [ES.out]; exact ht)
              clear hX3 hcj hfj
              omega
          · have dj : decide ((i : Int) ≤ (j : Int)) = false := decide_eq_false (by omega)
            have SD := hide (show Go.Sort.scanDown (fun x => ltInt e[a]! x) e i jj = j from by rw [← JO.out, sd_off (fun x => ltInt e[a]! x) e i j (by omega) (.inl cj)])
            go_wp2_with fail
            go_quiet (first | (go_at_call 43; refine Calls.quiet_of_same (less_any _ _ _)))
            have E3 := hide (JE.out.drewN nq)
            obtain ⟨X3, hX3⟩ : ∃ X3, wr.drewN nq = X3 := ⟨_, rfl⟩
            rw [hX3] at E3 ⊢
            have hc3 : ∀ t, t < n → X3.cell? ⟨blk, off + t, none⟩ = some (.int .u64 (G2 t)) := fun t ht => by rw [HG2.out]; exact E3.out.cell t (by rw [ES.out]; exact ht)
            have hf3 : ∀ t, t < n → X3.frozen? ⟨blk, off + t, none⟩ = false := fun t ht => E3.out.fz t (by rw [ES.out]; exact ht)
            clear hX3 hcj hfj
            have cji : j < i := by omega
            have dg : decide ((j : Int) < (i : Int)) = true := decide_eq_true (by omega)
            have F := hide (FIN.out i e (by rw [← EO.out, peq_end ltInt a ii jj i j e SU.out SD.out cji]) X3 E3.out)
            go_wp2_with fail
            first | exact F.out | (go_ret; exact F.out)
end Go.Proofs.Ytdcjldpbgickmaa
