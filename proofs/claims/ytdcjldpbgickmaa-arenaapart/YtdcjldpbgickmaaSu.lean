/- Package slices: partitionOrdered: a contract. -/
import Derived.Test.YtdcjldpbgickmaaSr
namespace Go.Proofs.Ytdcjldpbgickmaa
open Go.ChangeShapes Go.WideShapes Go.ChangeAt Go.RowKit Go.Shelf Go.Proofs.Rx Go.Maps
open Go.Sort (swp ltInt size_swp swp_left swp_right swp_other PermIn)
set_option linter.unusedVariables false
set_option linter.unusedSimpArgs false

section
variable {α : Type} [Inhabited α]
theorem su_on (p : α → Bool) (d : Array α) (j i : Nat) (h : i ≤ j) (hp : p d[i]! = true) : Go.Sort.scanUp p d j i = Go.Sort.scanUp p d j (i + 1) := by
  rw [Go.Sort.scanUp, if_pos (by simp [h, hp])]
theorem su_off (p : α → Bool) (d : Array α) (j i : Nat) (h : ¬ i ≤ j ∨ p d[i]! = false) : Go.Sort.scanUp p d j i = i := by
  rw [Go.Sort.scanUp, if_neg]
  intro z
  rw [Bool.and_eq_true, decide_eq_true_eq] at z
  rcases h with h | h
  · exact h z.1
  · rw [h] at z; cases z.2
theorem sd_on (p : α → Bool) (d : Array α) (i j : Nat) (h0 : 1 ≤ j) (h : i ≤ j) (hp : p d[j]! = true) : Go.Sort.scanDown p d i j = Go.Sort.scanDown p d i (j - 1) := by
  obtain ⟨k, rfl⟩ : ∃ k, j = k + 1 := ⟨j - 1, by omega⟩
  rw [show k + 1 - 1 = k by omega, Go.Sort.scanDown, if_pos (by simp [h, hp])]
theorem sd_off (p : α → Bool) (d : Array α) (i j : Nat) (h1 : 1 ≤ i) (h : ¬ i ≤ j ∨ p d[j]! = false) : Go.Sort.scanDown p d i j = j := by
  cases j with
  | zero => rw [Go.Sort.scanDown]
  | succ k =>
    rw [Go.Sort.scanDown, if_neg]
    intro z
    rw [Bool.and_eq_true, decide_eq_true_eq] at z
    rcases h with h | h
    · exact h z.1
    · rw [h] at z; cases z.2
theorem part_end (lt : α → α → Bool) (a i j i2 j2 : Nat) (d : Array α) (h1 : Go.Sort.scanUp (fun x => lt x d[a]!) d j i = i2) (h2 : Go.Sort.scanDown (fun x => !lt x d[a]!) d i2 j = j2) (h : j2 < i2) : Go.Sort.partLoop lt a i j d = (j2, d) := by
  rw [Go.Sort.partLoop]
  simp only [h1, h2, if_pos h]
theorem part_on (lt : α → α → Bool) (a i j i2 j2 : Nat) (d : Array α) (h1 : Go.Sort.scanUp (fun x => lt x d[a]!) d j i = i2) (h2 : Go.Sort.scanDown (fun x => !lt x d[a]!) d i2 j = j2) (h : ¬ j2 < i2) (h3 : i ≤ i2) (h4 : j2 ≤ j) (h5 : 1 ≤ j2) : Go.Sort.partLoop lt a i j d = Go.Sort.partLoop lt a (i2 + 1) (j2 - 1) (swp d i2 j2) := by
  conv => lhs; rw [Go.Sort.partLoop]
  simp only [h1, h2, if_neg h]
  rw [dif_pos (by omega)]
theorem peq_end (lt : α → α → Bool) (a i j i2 j2 : Nat) (d : Array α) (h1 : Go.Sort.scanUp (fun x => !lt d[a]! x) d j i = i2) (h2 : Go.Sort.scanDown (fun x => lt d[a]! x) d i2 j = j2) (h : j2 < i2) : Go.Sort.partEqLoop lt a i j d = (i2, d) := by
  rw [Go.Sort.partEqLoop]
  simp only [h1, h2, if_pos h]
theorem peq_on (lt : α → α → Bool) (a i j i2 j2 : Nat) (d : Array α) (h1 : Go.Sort.scanUp (fun x => !lt d[a]! x) d j i = i2) (h2 : Go.Sort.scanDown (fun x => lt d[a]! x) d i2 j = j2) (h : ¬ j2 < i2) (h3 : i ≤ i2) (h4 : j2 ≤ j) (h5 : 1 ≤ j2) : Go.Sort.partEqLoop lt a i j d = Go.Sort.partEqLoop lt a (i2 + 1) (j2 - 1) (swp d i2 j2) := by
  conv => lhs; rw [Go.Sort.partEqLoop]
  simp only [h1, h2, if_neg h]
  rw [dif_pos (by omega)]
end
theorem part_gt (d : Array Int) (a b pv i j : Nat) (f : Array Int) (hf : swp d a pv = f) (h1 : Go.Sort.scanUp (fun x => ltInt x f[a]!) f (b - 1) (a + 1) = i) (h2 : Go.Sort.scanDown (fun x => !ltInt x f[a]!) f i (b - 1) = j) (h : j < i) : Go.Sort.partition ltInt d a b pv = (j, true, swp f j a) := by
  unfold Go.Sort.partition
  simp only [hf, h1, h2, if_pos h]
theorem part_le (d : Array Int) (a b pv i j : Nat) (f : Array Int) (p : Nat) (e : Array Int) (hf : swp d a pv = f) (h1 : Go.Sort.scanUp (fun x => ltInt x f[a]!) f (b - 1) (a + 1) = i) (h2 : Go.Sort.scanDown (fun x => !ltInt x f[a]!) f i (b - 1) = j) (h : ¬ j < i) (h3 : Go.Sort.partLoop ltInt a (i + 1) (j - 1) (swp f i j) = (p, e)) : Go.Sort.partition ltInt d a b pv = (p, false, swp e p a) := by
  unfold Go.Sort.partition
  simp only [hf, h1, h2, if_neg h, h3]
set_option maxRecDepth 100000 in
set_option maxHeartbeats 8000000 in
theorem partition_any {blk off : Nat} {w0 W : World} {d : Array Int} (h : RwU blk off w0 d W) (cap a b pv : Nat) (hpv : a < pv) (hpb : pv < b) (hb : b ≤ d.size) (hsz : d.size < 1152921504606846976) :
    Calls Try.prog 45 #[.slice (some ⟨blk, off, none⟩) d.size cap, .int .i64 (a : Nat), .int .i64 (b : Nat), .int .i64 (pv : Nat)] W fun e W' => e = .returned (.tuple #[.int .i64 ((Go.Sort.partition ltInt d a b pv).1 : Nat), .bool (Go.Sort.partition ltInt d a b pv).2.1]) ∧ RwU blk off w0 (Go.Sort.partition ltInt d a b pv).2.2 W' := by
  obtain ⟨n, hn⟩ : ∃ n, d.size = n := ⟨_, rfl⟩
  rw [hn] at hb hsz ⊢
  obtain ⟨R, hR⟩ : ∃ R : Ending → World → Prop, R = fun e W' => e = .returned (.tuple #[.int .i64 ((Go.Sort.partition ltInt d a b pv).1 : Nat), .bool (Go.Sort.partition ltInt d a b pv).2.1]) ∧ RwU blk off w0 (Go.Sort.partition ltInt d a b pv).2.2 W' := ⟨_, rfl⟩
  rw [← hR]
  have FIN := hide (show ∀ (p : Nat) (r : Bool) (e : Array Int), Go.Sort.partition ltInt d a b pv = (p, r, e) → ∀ (Y : World), RwU blk off w0 e Y → R (.returned (.tuple #[.int .i64 (p : Nat), .bool r])) Y from fun p r e h1 Y h2 => by
    rw [hR, h1]
    exact ⟨rfl, h2⟩)
  obtain ⟨c, hc0⟩ : ∃ c, b - 1 = c := ⟨_, rfl⟩
  have hcI : (b : Int) - 1 = (c : Int) := by omega
  obtain ⟨a1, ha1⟩ : ∃ a1, a + 1 = a1 := ⟨_, rfl⟩
  have haI : (a : Int) + 1 = (a1 : Int) := by omega
  obtain ⟨f0, hf0⟩ : ∃ f0, swp d a pv = f0 := ⟨_, rfl⟩
  have PG := hide (fun i j h1 h2 h => part_gt d a b pv i j f0 hf0 h1 h2 h)
  have PL := hide (fun i j p e h1 h2 h h3 => part_le d a b pv i j f0 p e hf0 h1 h2 h h3)
  rw [hc0, ha1] at PG PL
  have S0 := hide (show f0.size = n from by rw [← hf0, size_swp]; exact hn)
  obtain ⟨G, hG⟩ : ∃ G : Nat → Int, ∀ t, G t = d[t]! := ⟨fun t => d[t]!, fun _ => rfl⟩
  have hc : ∀ t, t < n → W.cell? ⟨blk, off + t, none⟩ = some (.int .u64 (G t)) := fun t ht => by rw [hG]; exact h.cell t (by rw [hn]; exact ht)
  have hf : ∀ t, t < n → W.frozen? ⟨blk, off + t, none⟩ = false := fun t ht => h.fz t (by rw [hn]; exact ht)
  obtain ⟨X1, hX1⟩ : ∃ X1, ((W.setCell ⟨blk, off + a, none⟩ (.int .u64 (G pv))).setCell ⟨blk, off + pv, none⟩ (.int .u64 (G a))).drew = X1 := ⟨_, rfl⟩
  have E0 := hide (show RwU blk off w0 f0 X1 from by
    rw [← hX1, hG, hG, ← hf0]
    exact (h.swap a pv (by omega) (by omega)).drew)
  have an : a < n := by omega
  have pn : pv < n := by omega
  have n1 : ¬ a = pv := by omega
  have n2 : ¬ pv = a := by omega
  have bI : (b : Int) < 1152921504606846976 := by omega
  clear h hn hR hG hf0
  go_enter Try.func45, Try.ntmps45
  go_wp2_with fail
  go_region
  all_goals go_wp2_with fail
  clear hc hf
  obtain ⟨G0, hG0⟩ : ∃ G : Nat → Int, ∀ t, G t = f0[t]! := ⟨fun t => f0[t]!, fun _ => rfl⟩
  have HG0 := hide hG0
  clear hG0
  go_loopw [10] (fun vi Y => ∃ (i : Nat), vi = .int .i64 (i : Nat) ∧ a1 ≤ i ∧ i ≤ c + 1 ∧ Hid (RwU blk off w0 f0 Y) ∧ Hid (Go.Sort.scanUp (fun x => ltInt x f0[a]!) f0 c i = Go.Sort.scanUp (fun x => ltInt x f0[a]!) f0 c a1)) (fun vi _ => c + 1 - (zi vi).toNat)
  case atStart => exact ⟨a1, rfl, Nat.le_refl _, by omega, E0, hide rfl⟩
  case round =>
    obtain ⟨i, rfl, i1, i2, IE, IO⟩ := hrel
    have hc : ∀ t, t < n → wr.cell? ⟨blk, off + t, none⟩ = some (.int .u64 (G0 t)) := fun t ht => by rw [HG0.out]; exact IE.out.cell t (by rw [S0.out]; exact ht)
    have hf : ∀ t, t < n → wr.frozen? ⟨blk, off + t, none⟩ = false := fun t ht => IE.out.fz t (by rw [S0.out]; exact ht)
    by_cases ci : i ≤ c
    · have di : decide ((i : Int) ≤ (c : Int)) = true := decide_eq_true (by omega)
      have iN : i < n := by omega
      go_wp2_with fail
      go_quiet (first | (go_at_call 43; refine Calls.quiet_of_same (less_any _ _ _)))
      cases hl : ltInt (G0 i) (G0 a) with
      | true =>
        go_wp2_with fail
        have hg := HG0.out
        refine ⟨⟨i + 1, by push_cast; rfl, by omega, by omega, hide (IE.out.drewN _), hide ?_⟩, by simp [zi]; omega⟩
        rw [← IO.out, su_on (fun x => ltInt x f0[a]!) f0 c i ci (by show ltInt f0[i]! f0[a]! = true; rw [← hg, ← hg, hl])]
      | false =>
        have E2 := hide (IE.out.drewN nq)
        have SU := hide (show Go.Sort.scanUp (fun x => ltInt x f0[a]!) f0 c a1 = i from by
          have hg := HG0.out
          rw [← IO.out, su_off (fun x => ltInt x f0[a]!) f0 c i (.inr (by show ltInt f0[i]! f0[a]! = false; rw [← hg, ← hg, hl]))])
        have HL := hide hl
        obtain ⟨X2, hX2⟩ : ∃ X2, wr.drewN nq = X2 := ⟨_, rfl⟩
        rw [hX2] at E2 ⊢
        clear hX2 hc hf hl
        go_wp2_with fail
        go_loopw [11] (fun vj Y => ∃ (j : Nat), vj = .int .i64 (j : Nat) ∧ i ≤ j + 1 ∧ j ≤ c ∧ Hid (RwU blk off w0 f0 Y) ∧ Hid (Go.Sort.scanDown (fun x => !ltInt x f0[a]!) f0 i j = Go.Sort.scanDown (fun x => !ltInt x f0[a]!) f0 i c)) (fun vj _ => (zi vj).toNat)
        case atStart => exact ⟨c, rfl, by omega, Nat.le_refl _, E2, hide rfl⟩
        case round =>
          obtain ⟨j, rfl, j1, j2, JE, JO⟩ := hrel
          have hcj : ∀ t, t < n → wr.cell? ⟨blk, off + t, none⟩ = some (.int .u64 (G0 t)) := fun t ht => by rw [HG0.out]; exact JE.out.cell t (by rw [S0.out]; exact ht)
          have hfj : ∀ t, t < n → wr.frozen? ⟨blk, off + t, none⟩ = false := fun t ht => JE.out.fz t (by rw [S0.out]; exact ht)
          by_cases cj : i ≤ j
          · have dj : decide ((i : Int) ≤ (j : Int)) = true := decide_eq_true (by omega)
            have jn : j < n := by omega
            go_wp2_with fail
            go_quiet (first | (go_at_call 43; refine Calls.quiet_of_same (less_any _ _ _)))
            cases hv : ltInt (G0 j) (G0 a) with
            | false =>
              simp only [Bool.not_false]
              go_wp2_with fail
              have hg := HG0.out
              refine ⟨⟨j - 1, by congr 1; omega, by omega, by omega, hide (JE.out.drewN _), hide ?_⟩, by simp [zi]; omega⟩
              rw [← JO.out, sd_on (fun x => !ltInt x f0[a]!) f0 i j (by omega) cj (by show (!ltInt f0[j]! f0[a]!) = true; rw [← hg, ← hg, hv]; rfl)]
            | true =>
              simp only [Bool.not_true]
              have E3 := hide (JE.out.drewN nq)
              have SD := hide (show Go.Sort.scanDown (fun x => !ltInt x f0[a]!) f0 i c = j from by
                have hg := HG0.out
                rw [← JO.out, sd_off (fun x => !ltInt x f0[a]!) f0 i j (by omega) (.inr (by show (!ltInt f0[j]! f0[a]!) = false; rw [← hg, ← hg, hv]; rfl))])
              obtain ⟨X3, hX3⟩ : ∃ X3, wr.drewN nq = X3 := ⟨_, rfl⟩
              rw [hX3] at E3 ⊢
              have hc3 : ∀ t, t < n → X3.cell? ⟨blk, off + t, none⟩ = some (.int .u64 (G0 t)) := fun t ht => by rw [HG0.out]; exact E3.out.cell t (by rw [S0.out]; exact ht)
              have hf3 : ∀ t, t < n → X3.frozen? ⟨blk, off + t, none⟩ = false := fun t ht => E3.out.fz t (by rw [S0.out]; exact ht)
              clear hX3 hcj hfj
              have cij : ¬ j < i := by omega
              have dg : decide ((j : Int) < (i : Int)) = false := decide_eq_false (by omega)
              have ij : ¬ i = j := fun z => by
                have q := HL.out
                rw [z, hv] at q
                cases q
              have ji : ¬ j = i := fun z => ij z.symm
              have iN : i < n := by omega
              have jN : j < n := by omega
              obtain ⟨f1, hf1'⟩ : ∃ f1, swp f0 i j = f1 := ⟨_, rfl⟩
              obtain ⟨X4, hX4⟩ : ∃ X4, ((X3.setCell ⟨blk, off + i, none⟩ (.int .u64 (G0 j))).setCell ⟨blk, off + j, none⟩ (.int .u64 (G0 i))).drew = X4 := ⟨_, rfl⟩
              have E4 := hide (show RwU blk off w0 f1 X4 from by
                have hg := HG0.out
                rw [← hX4, hg, hg, ← hf1']
                exact (E3.out.swap i j (by rw [S0.out]; omega) (by rw [S0.out]; omega)).drew)
              have S1 := hide (show f1.size = n from by rw [← hf1', size_swp]; exact S0.out)
              have PLL := hide (show ∀ (p : Nat) (e : Array Int), Go.Sort.partLoop ltInt a (i + 1) (j - 1) f1 = (p, e) → Go.Sort.partition ltInt d a b pv = (p, false, swp e p a) from fun p e q => PL.out i j p e SU.out SD.out cij (by rw [hf1']; exact q))
              obtain ⟨ia, hia⟩ : ∃ ia, i + 1 = ia := ⟨_, rfl⟩
              obtain ⟨jb, hjb⟩ : ∃ jb, j - 1 = jb := ⟨_, rfl⟩
              have hiaI : (i : Int) + 1 = (ia : Int) := by omega
              have hjbI : (j : Int) - 1 = (jb : Int) := by omega
              rw [hia, hjb] at PLL
              have b1 : a < ia := by omega
              have b2 : ia ≤ jb + 1 := by omega
              have b3 : jb < b := by omega
              go_wp2_with fail
              go_region
              all_goals go_wp2_with fail
              clear hf1' hX4 hc3 hf3 hv cij dg dj cj di ci ij ji E3 JE JO SU SD IE IO E2 HL HG0 PG PL
              go_loopw [10, 11] (fun vi vj Y => ∃ (ii jj : Nat) (e : Array Int), vi = .int .i64 (ii : Nat) ∧ vj = .int .i64 (jj : Nat) ∧ a < ii ∧ ii ≤ jj + 1 ∧ jj < b ∧ Hid (e.size = n) ∧ Hid (RwU blk off w0 e Y) ∧ Hid (Go.Sort.partLoop ltInt a ii jj e = Go.Sort.partLoop ltInt a ia jb f1)) (fun vi vj _ => (zi vj + 1 - zi vi).toNat)
              case atStart => exact ⟨ia, jb, f1, rfl, rfl, b1, b2, b3, S1, E4, hide rfl⟩
              case round =>
                obtain ⟨ii, jj, e, rfl, rfl, e1, e2, e3, ES, EE, EO⟩ := hrel
                go_wp2_with fail
                obtain ⟨G2, hG2⟩ : ∃ G : Nat → Int, ∀ t, G t = e[t]! := ⟨fun t => e[t]!, fun _ => rfl⟩
                have HG2 := hide hG2
                clear hG2
                go_loopw [10] (fun vi Y => ∃ (i : Nat), vi = .int .i64 (i : Nat) ∧ ii ≤ i ∧ i ≤ jj + 1 ∧ Hid (RwU blk off w0 e Y) ∧ Hid (Go.Sort.scanUp (fun x => ltInt x e[a]!) e jj i = Go.Sort.scanUp (fun x => ltInt x e[a]!) e jj ii)) (fun vi _ => jj + 1 - (zi vi).toNat)
                case atStart => exact ⟨ii, rfl, Nat.le_refl _, by omega, EE, hide rfl⟩
                case round =>
                  obtain ⟨i, rfl, i1, i2, IE, IO⟩ := hrel
                  have hc : ∀ t, t < n → wr.cell? ⟨blk, off + t, none⟩ = some (.int .u64 (G2 t)) := fun t ht => by rw [HG2.out]; exact IE.out.cell t (by rw [ES.out]; exact ht)
                  have hf : ∀ t, t < n → wr.frozen? ⟨blk, off + t, none⟩ = false := fun t ht => IE.out.fz t (by rw [ES.out]; exact ht)
                  by_cases ci : i ≤ jj
                  · have di : decide ((i : Int) ≤ (jj : Int)) = true := decide_eq_true (by omega)
                    have iN : i < n := by omega
                    go_wp2_with fail
                    go_quiet (first | (go_at_call 43; refine Calls.quiet_of_same (less_any _ _ _)))
                    cases hl : ltInt (G2 i) (G2 a) with
                    | true =>
                      go_wp2_with fail
                      have hg := HG2.out
                      refine ⟨⟨i + 1, by push_cast; rfl, by omega, by omega, hide (IE.out.drewN _), hide ?_⟩, by simp [zi]; omega⟩
                      rw [← IO.out, su_on (fun x => ltInt x e[a]!) e jj i ci (by show ltInt e[i]! e[a]! = true; rw [← hg, ← hg, hl])]
                    | false =>
                      have E2 := hide (IE.out.drewN nq)
                      have SU := hide (show Go.Sort.scanUp (fun x => ltInt x e[a]!) e jj ii = i from by
                        have hg := HG2.out
                        rw [← IO.out, su_off (fun x => ltInt x e[a]!) e jj i (.inr (by show ltInt e[i]! e[a]! = false; rw [← hg, ← hg, hl]))])
                      have HL := hide hl
                      obtain ⟨X2, hX2⟩ : ∃ X2, wr.drewN nq = X2 := ⟨_, rfl⟩
                      rw [hX2] at E2 ⊢
                      clear hX2 hc hf hl
                      go_wp2_with fail
                      go_loopw [11] (fun vj Y => ∃ (j : Nat), vj = .int .i64 (j : Nat) ∧ i ≤ j + 1 ∧ j ≤ jj ∧ Hid (RwU blk off w0 e Y) ∧ Hid (Go.Sort.scanDown (fun x => !ltInt x e[a]!) e i j = Go.Sort.scanDown (fun x => !ltInt x e[a]!) e i jj)) (fun vj _ => (zi vj).toNat)
                      case atStart => exact ⟨jj, rfl, by omega, Nat.le_refl _, E2, hide rfl⟩
                      case round =>
                        obtain ⟨j, rfl, j1, j2, JE, JO⟩ := hrel
                        have hcj : ∀ t, t < n → wr.cell? ⟨blk, off + t, none⟩ = some (.int .u64 (G2 t)) := fun t ht => by rw [HG2.out]; exact JE.out.cell t (by rw [ES.out]; exact ht)
                        have hfj : ∀ t, t < n → wr.frozen? ⟨blk, off + t, none⟩ = false := fun t ht => JE.out.fz t (by rw [ES.out]; exact ht)
                        by_cases cj : i ≤ j
                        · have dj : decide ((i : Int) ≤ (j : Int)) = true := decide_eq_true (by omega)
                          have jn : j < n := by omega
                          go_wp2_with fail
                          go_quiet (first | (go_at_call 43; refine Calls.quiet_of_same (less_any _ _ _)))
                          cases hv : ltInt (G2 j) (G2 a) with
                          | false =>
                            simp only [Bool.not_false]
                            go_wp2_with fail
                            have hg := HG2.out
                            refine ⟨⟨j - 1, by congr 1; omega, by omega, by omega, hide (JE.out.drewN _), hide ?_⟩, by simp [zi]; omega⟩
                            rw [← JO.out, sd_on (fun x => !ltInt x e[a]!) e i j (by omega) cj (by show (!ltInt e[j]! e[a]!) = true; rw [← hg, ← hg, hv]; rfl)]
                          | true =>
                            simp only [Bool.not_true]
                            have E3 := hide (JE.out.drewN nq)
                            have SD := hide (show Go.Sort.scanDown (fun x => !ltInt x e[a]!) e i jj = j from by
                              have hg := HG2.out
                              rw [← JO.out, sd_off (fun x => !ltInt x e[a]!) e i j (by omega) (.inr (by show (!ltInt e[j]! e[a]!) = false; rw [← hg, ← hg, hv]; rfl))])
                            obtain ⟨X3, hX3⟩ : ∃ X3, wr.drewN nq = X3 := ⟨_, rfl⟩
                            rw [hX3] at E3 ⊢
                            have hc3 : ∀ t, t < n → X3.cell? ⟨blk, off + t, none⟩ = some (.int .u64 (G2 t)) := fun t ht => by rw [HG2.out]; exact E3.out.cell t (by rw [ES.out]; exact ht)
                            have hf3 : ∀ t, t < n → X3.frozen? ⟨blk, off + t, none⟩ = false := fun t ht => E3.out.fz t (by rw [ES.out]; exact ht)
                            clear hX3 hcj hfj
                            have cij : ¬ j < i := by omega
                            have dg : decide ((j : Int) < (i : Int)) = false := decide_eq_false (by omega)
                            have ij : ¬ i = j := fun z => by
                              have q := HL.out
                              rw [z, hv] at q
                              cases q
                            have ji : ¬ j = i := fun z => ij z.symm
                            have iN : i < n := by omega
                            have jN : j < n := by omega
                            go_wp2_with fail
                            go_region
                            all_goals go_wp2_with fail
                            have hg := HG2.out
                            refine ⟨⟨i + 1, j - 1, swp e i j, by push_cast; rfl, by congr 1; omega, by omega, by omega, by omega, hide (by rw [size_swp]; exact ES.out), hide ?_, hide ?_⟩, by simp [zi]; omega⟩
                            · rw [hg, hg]
                              exact (E3.out.swap i j (by rw [ES.out]; omega) (by rw [ES.out]; omega)).drew
                            · rw [← EO.out, part_on ltInt a ii jj i j e SU.out SD.out cij (by omega) (by omega) (by omega)]
                        · have dj : decide ((i : Int) ≤ (j : Int)) = false := decide_eq_false (by omega)
                          have SD := hide (show Go.Sort.scanDown (fun x => !ltInt x e[a]!) e i jj = j from by rw [← JO.out, sd_off (fun x => !ltInt x e[a]!) e i j (by omega) (.inl cj)])
                          go_wp2_with fail
                          go_quiet (first | (go_at_call 43; refine Calls.quiet_of_same (less_any _ _ _)))
                          have E3 := hide (JE.out.drewN nq)
                          obtain ⟨X3, hX3⟩ : ∃ X3, wr.drewN nq = X3 := ⟨_, rfl⟩
                          rw [hX3] at E3 ⊢
                          have hc3 : ∀ t, t < n → X3.cell? ⟨blk, off + t, none⟩ = some (.int .u64 (G2 t)) := fun t ht => by rw [HG2.out]; exact E3.out.cell t (by rw [ES.out]; exact ht)
                          have hf3 : ∀ t, t < n → X3.frozen? ⟨blk, off + t, none⟩ = false := fun t ht => E3.out.fz t (by rw [ES.out]; exact ht)
                          clear hX3 hcj hfj
                          have cji : j < i := by omega
                          have PP := hide (PLL.out j e (by rw [← EO.out, part_end ltInt a ii jj i j e SU.out SD.out cji]))
                          have dg : decide ((j : Int) < (i : Int)) = true := decide_eq_true (by omega)
                          by_cases ja : j = a
                          · have ja2 := ja.symm
                            clear ja
                            subst ja2
                            go_wp2_with fail
                            go_region
                            all_goals go_wp2_with fail
                            have hg := HG2.out
                            have F := hide (FIN.out a false _ (PP.out) (((X3.setCell ⟨blk, off + a, none⟩ (.int .u64 (G2 a))).setCell ⟨blk, off + a, none⟩ (.int .u64 (G2 a))).drew) (by
                              rw [hg]
                              exact (E3.out.swap a a (by rw [ES.out]; omega) (by rw [ES.out]; omega)).drew))
                            first | exact F.out | (go_ret2; exact F.out)
                          · have aj : ¬ a = j := fun z => ja z.symm
                            have jn : j < n := by omega
                            go_wp2_with fail
                            go_region
                            all_goals go_wp2_with fail
                            have hg := HG2.out
                            have F := hide (FIN.out j false _ (PP.out) (((X3.setCell ⟨blk, off + j, none⟩ (.int .u64 (G2 a))).setCell ⟨blk, off + a, none⟩ (.int .u64 (G2 j))).drew) (by
                              rw [hg, hg]
                              exact (E3.out.swap j a (by rw [ES.out]; omega) (by rw [ES.out]; omega)).drew))
                            first | exact F.out | (go_ret2; exact F.out)
                  · have di : decide ((i : Int) ≤ (jj : Int)) = false := decide_eq_false (by omega)
                    have SU := hide (show Go.Sort.scanUp (fun x => ltInt x e[a]!) e jj ii = i from by rw [← IO.out, su_off (fun x => ltInt x e[a]!) e jj i (.inl ci)])
                    go_wp2_with fail
                    go_quiet (first | (go_at_call 43; refine Calls.quiet_of_same (less_any _ _ _)))
                    have E2 := hide (IE.out.drewN nq)
                    obtain ⟨X2, hX2⟩ : ∃ X2, wr.drewN nq = X2 := ⟨_, rfl⟩
                    rw [hX2] at E2 ⊢
                    clear hX2 hc hf
                    go_wp2_with fail
                    go_loopw [11] (fun vj Y => ∃ (j : Nat), vj = .int .i64 (j : Nat) ∧ i ≤ j + 1 ∧ j ≤ jj ∧ Hid (RwU blk off w0 e Y) ∧ Hid (Go.Sort.scanDown (fun x => !ltInt x e[a]!) e i j = Go.Sort.scanDown (fun x => !ltInt x e[a]!) e i jj)) (fun vj _ => (zi vj).toNat)
                    case atStart => exact ⟨jj, rfl, by omega, Nat.le_refl _, E2, hide rfl⟩
                    case round =>
                      obtain ⟨j, rfl, j1, j2, JE, JO⟩ := hrel
                      have hcj : ∀ t, t < n → wr.cell? ⟨blk, off + t, none⟩ = some (.int .u64 (G2 t)) := fun t ht => by rw [HG2.out]; exact JE.out.cell t (by rw [ES.out]; exact ht)
                      have hfj : ∀ t, t < n → wr.frozen? ⟨blk, off + t, none⟩ = false := fun t ht => JE.out.fz t (by rw [ES.out]; exact ht)
                      by_cases cj : i ≤ j
                      · have dj : decide ((i : Int) ≤ (j : Int)) = true := decide_eq_true (by omega)
                        have jn : j < n := by omega
                        go_wp2_with fail
                        go_quiet (first | (go_at_call 43; refine Calls.quiet_of_same (less_any _ _ _)))
                        cases hv : ltInt (G2 j) (G2 a) with
                        | false =>
                          simp only [Bool.not_false]
                          go_wp2_with fail
                          have hg := HG2.out
                          refine ⟨⟨j - 1, by congr 1; omega, by omega, by omega, hide (JE.out.drewN _), hide ?_⟩, by simp [zi]; omega⟩
                          rw [← JO.out, sd_on (fun x => !ltInt x e[a]!) e i j (by omega) cj (by show (!ltInt e[j]! e[a]!) = true; rw [← hg, ← hg, hv]; rfl)]
                        | true =>
                          simp only [Bool.not_true]
                          have E3 := hide (JE.out.drewN nq)
                          have SD := hide (show Go.Sort.scanDown (fun x => !ltInt x e[a]!) e i jj = j from by
                            have hg := HG2.out
                            rw [← JO.out, sd_off (fun x => !ltInt x e[a]!) e i j (by omega) (.inr (by show (!ltInt e[j]! e[a]!) = false; rw [← hg, ← hg, hv]; rfl))])
                          obtain ⟨X3, hX3⟩ : ∃ X3, wr.drewN nq = X3 := ⟨_, rfl⟩
                          rw [hX3] at E3 ⊢
                          have hc3 : ∀ t, t < n → X3.cell? ⟨blk, off + t, none⟩ = some (.int .u64 (G2 t)) := fun t ht => by rw [HG2.out]; exact E3.out.cell t (by rw [ES.out]; exact ht)
                          have hf3 : ∀ t, t < n → X3.frozen? ⟨blk, off + t, none⟩ = false := fun t ht => E3.out.fz t (by rw [ES.out]; exact ht)
                          clear hX3 hcj hfj
                          omega
                      · have dj : decide ((i : Int) ≤ (j : Int)) = false := decide_eq_false (by omega)
                        have SD := hide (show Go.Sort.scanDown (fun x => !ltInt x e[a]!) e i jj = j from by rw [← JO.out, sd_off (fun x => !ltInt x e[a]!) e i j (by omega) (.inl cj)])
                        go_wp2_with fail
                        go_quiet (first | (go_at_call 43; refine Calls.quiet_of_same (less_any _ _ _)))
                        have E3 := hide (JE.out.drewN nq)
                        obtain ⟨X3, hX3⟩ : ∃ X3, wr.drewN nq = X3 := ⟨_, rfl⟩
                        rw [hX3] at E3 ⊢
                        have hc3 : ∀ t, t < n → X3.cell? ⟨blk, off + t, none⟩ = some (.int .u64 (G2 t)) := fun t ht => by rw [HG2.out]; exact E3.out.cell t (by rw [ES.out]; exact ht)
                        have hf3 : ∀ t, t < n → X3.frozen? ⟨blk, off + t, none⟩ = false := fun t ht => E3.out.fz t (by rw [ES.out]; exact ht)
                        clear hX3 hcj hfj
                        have cji : j < i := by omega
                        have PP := hide (PLL.out j e (by rw [← EO.out, part_end ltInt a ii jj i j e SU.out SD.out cji]))
                        have dg : decide ((j : Int) < (i : Int)) = true := decide_eq_true (by omega)
                        by_cases ja : j = a
                        · have ja2 := ja.symm
                          clear ja
                          subst ja2
                          go_wp2_with fail
                          go_region
                          all_goals go_wp2_with fail
                          have hg := HG2.out
                          have F := hide (FIN.out a false _ (PP.out) (((X3.setCell ⟨blk, off + a, none⟩ (.int .u64 (G2 a))).setCell ⟨blk, off + a, none⟩ (.int .u64 (G2 a))).drew) (by
                            rw [hg]
                            exact (E3.out.swap a a (by rw [ES.out]; omega) (by rw [ES.out]; omega)).drew))
                          first | exact F.out | (go_ret2; exact F.out)
                        · have aj : ¬ a = j := fun z => ja z.symm
                          have jn : j < n := by omega
                          go_wp2_with fail
                          go_region
                          all_goals go_wp2_with fail
                          have hg := HG2.out
                          have F := hide (FIN.out j false _ (PP.out) (((X3.setCell ⟨blk, off + j, none⟩ (.int .u64 (G2 a))).setCell ⟨blk, off + a, none⟩ (.int .u64 (G2 j))).drew) (by
                            rw [hg, hg]
                            exact (E3.out.swap j a (by rw [ES.out]; omega) (by rw [ES.out]; omega)).drew))
                          first | exact F.out | (go_ret2; exact F.out)
          · have dj : decide ((i : Int) ≤ (j : Int)) = false := decide_eq_false (by omega)
            have SD := hide (show Go.Sort.scanDown (fun x => !ltInt x f0[a]!) f0 i c = j from by rw [← JO.out, sd_off (fun x => !ltInt x f0[a]!) f0 i j (by omega) (.inl cj)])
            go_wp2_with fail
            go_quiet (first | (go_at_call 43; refine Calls.quiet_of_same (less_any _ _ _)))
            have E3 := hide (JE.out.drewN nq)
            obtain ⟨X3, hX3⟩ : ∃ X3, wr.drewN nq = X3 := ⟨_, rfl⟩
            rw [hX3] at E3 ⊢
            have hc3 : ∀ t, t < n → X3.cell? ⟨blk, off + t, none⟩ = some (.int .u64 (G0 t)) := fun t ht => by rw [HG0.out]; exact E3.out.cell t (by rw [S0.out]; exact ht)
            have hf3 : ∀ t, t < n → X3.frozen? ⟨blk, off + t, none⟩ = false := fun t ht => E3.out.fz t (by rw [S0.out]; exact ht)
            clear hX3 hcj hfj
            have cji : j < i := by omega
            have dg : decide ((j : Int) < (i : Int)) = true := decide_eq_true (by omega)
            by_cases ja : j = a
            · have ja2 := ja.symm
              clear ja
              subst ja2
              go_wp2_with fail
              go_region
              all_goals go_wp2_with fail
              have hg := HG0.out
              have F := hide (FIN.out a true _ (PG.out i a SU.out SD.out (by omega)) (((X3.setCell ⟨blk, off + a, none⟩ (.int .u64 (G0 a))).setCell ⟨blk, off + a, none⟩ (.int .u64 (G0 a))).drew) (by
                rw [hg]
                exact (E3.out.swap a a (by rw [S0.out]; omega) (by rw [S0.out]; omega)).drew))
              first | exact F.out | (go_ret2; exact F.out)
            · have aj : ¬ a = j := fun z => ja z.symm
              have jn : j < n := by omega
              go_wp2_with fail
              go_region
              all_goals go_wp2_with fail
              have hg := HG0.out
              have F := hide (FIN.out j true _ (PG.out i j SU.out SD.out (by omega)) (((X3.setCell ⟨blk, off + j, none⟩ (.int .u64 (G0 a))).setCell ⟨blk, off + a, none⟩ (.int .u64 (G0 j))).drew) (by
                rw [hg, hg]
                exact (E3.out.swap j a (by rw [S0.out]; omega) (by rw [S0.out]; omega)).drew))
              first | exact F.out | (go_ret2; exact F.out)
    · have di : decide ((i : Int) ≤ (c : Int)) = false := decide_eq_false (by omega)
      have SU := hide (show Go.Sort.scanUp (fun x => ltInt x f0[a]!) f0 c a1 = i from by rw [← IO.out, su_off (fun x => ltInt x f0[a]!) f0 c i (.inl ci)])
      go_wp2_with fail
      go_quiet (first | (go_at_call 43; refine Calls.quiet_of_same (less_any _ _ _)))
      have E2 := hide (IE.out.drewN nq)
      obtain ⟨X2, hX2⟩ : ∃ X2, wr.drewN nq = X2 := ⟨_, rfl⟩
      rw [hX2] at E2 ⊢
      clear hX2 hc hf
      go_wp2_with fail
      go_loopw [11] (fun vj Y => ∃ (j : Nat), vj = .int .i64 (j : Nat) ∧ i ≤ j + 1 ∧ j ≤ c ∧ Hid (RwU blk off w0 f0 Y) ∧ Hid (Go.Sort.scanDown (fun x => !ltInt x f0[a]!) f0 i j = Go.Sort.scanDown (fun x => !ltInt x f0[a]!) f0 i c)) (fun vj _ => (zi vj).toNat)
      case atStart => exact ⟨c, rfl, by omega, Nat.le_refl _, E2, hide rfl⟩
      case round =>
        obtain ⟨j, rfl, j1, j2, JE, JO⟩ := hrel
        have hcj : ∀ t, t < n → wr.cell? ⟨blk, off + t, none⟩ = some (.int .u64 (G0 t)) := fun t ht => by rw [HG0.out]; exact JE.out.cell t (by rw [S0.out]; exact ht)
        have hfj : ∀ t, t < n → wr.frozen? ⟨blk, off + t, none⟩ = false := fun t ht => JE.out.fz t (by rw [S0.out]; exact ht)
        by_cases cj : i ≤ j
        · have dj : decide ((i : Int) ≤ (j : Int)) = true := decide_eq_true (by omega)
          have jn : j < n := by omega
          go_wp2_with fail
          go_quiet (first | (go_at_call 43; refine Calls.quiet_of_same (less_any _ _ _)))
          cases hv : ltInt (G0 j) (G0 a) with
          | false =>
            simp only [Bool.not_false]
            go_wp2_with fail
            have hg := HG0.out
            refine ⟨⟨j - 1, by congr 1; omega, by omega, by omega, hide (JE.out.drewN _), hide ?_⟩, by simp [zi]; omega⟩
            rw [← JO.out, sd_on (fun x => !ltInt x f0[a]!) f0 i j (by omega) cj (by show (!ltInt f0[j]! f0[a]!) = true; rw [← hg, ← hg, hv]; rfl)]
          | true =>
            simp only [Bool.not_true]
            have E3 := hide (JE.out.drewN nq)
            have SD := hide (show Go.Sort.scanDown (fun x => !ltInt x f0[a]!) f0 i c = j from by
              have hg := HG0.out
              rw [← JO.out, sd_off (fun x => !ltInt x f0[a]!) f0 i j (by omega) (.inr (by show (!ltInt f0[j]! f0[a]!) = false; rw [← hg, ← hg, hv]; rfl))])
            obtain ⟨X3, hX3⟩ : ∃ X3, wr.drewN nq = X3 := ⟨_, rfl⟩
            rw [hX3] at E3 ⊢
            have hc3 : ∀ t, t < n → X3.cell? ⟨blk, off + t, none⟩ = some (.int .u64 (G0 t)) := fun t ht => by rw [HG0.out]; exact E3.out.cell t (by rw [S0.out]; exact ht)
            have hf3 : ∀ t, t < n → X3.frozen? ⟨blk, off + t, none⟩ = false := fun t ht => E3.out.fz t (by rw [S0.out]; exact ht)
            clear hX3 hcj hfj
            omega
        · have dj : decide ((i : Int) ≤ (j : Int)) = false := decide_eq_false (by omega)
          have SD := hide (show Go.Sort.scanDown (fun x => !ltInt x f0[a]!) f0 i c = j from by rw [← JO.out, sd_off (fun x => !ltInt x f0[a]!) f0 i j (by omega) (.inl cj)])
          go_wp2_with fail
          go_quiet (first | (go_at_call 43; refine Calls.quiet_of_same (less_any _ _ _)))
          have E3 := hide (JE.out.drewN nq)
          obtain ⟨X3, hX3⟩ : ∃ X3, wr.drewN nq = X3 := ⟨_, rfl⟩
          rw [hX3] at E3 ⊢
          have hc3 : ∀ t, t < n → X3.cell? ⟨blk, off + t, none⟩ = some (.int .u64 (G0 t)) := fun t ht => by rw [HG0.out]; exact E3.out.cell t (by rw [S0.out]; exact ht)
          have hf3 : ∀ t, t < n → X3.frozen? ⟨blk, off + t, none⟩ = false := fun t ht => E3.out.fz t (by rw [S0.out]; exact ht)
          clear hX3 hcj hfj
          have cji : j < i := by omega
          have dg : decide ((j : Int) < (i : Int)) = true := decide_eq_true (by omega)
          by_cases ja : j = a
          · have ja2 := ja.symm
            clear ja
            subst ja2
            omega
          · have aj : ¬ a = j := fun z => ja z.symm
            have jn : j < n := by omega
            go_wp2_with fail
            go_region
            all_goals go_wp2_with fail
            have hg := HG0.out
            have F := hide (FIN.out j true _ (PG.out i j SU.out SD.out (by omega)) (((X3.setCell ⟨blk, off + j, none⟩ (.int .u64 (G0 a))).setCell ⟨blk, off + a, none⟩ (.int .u64 (G0 j))).drew) (by
              rw [hg, hg]
              exact (E3.out.swap j a (by rw [S0.out]; omega) (by rw [S0.out]; omega)).drew))
            first | exact F.out | (go_ret2; exact F.out)
end Go.Proofs.Ytdcjldpbgickmaa
