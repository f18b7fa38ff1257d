/- J22 of the proof of both laws: texts Zf, Zg, Ze, one behind the other. -/
import Derived.Test.YtnclicdnncgdiaaGreatDoorJ21
/- The reference's tree: Free, Released: contracts. -/
namespace Go.Proofs.YtnclicdnncgdiaaGreatDoor
open Go.ChangeShapes Go.WideShapes Go.ChangeAt Go.RowKit Go.Proofs.Bt Go.Shelf Go.Proofs.Rx Go.Maps Go.Proofs.Pk
set_option linter.unusedVariables false
set_option linter.unusedSimpArgs false

section
variable {F : Nat → Prop} {W : World} {rb : Nat} {st : Nat → Nat} {Q : List (Nat × Nat)} {o : Option Addr} {c : Nat}
theorem Mt.used (h : Mt st Q) {x : Nat × Nat} (hx : x ∈ Q) {k : Nat} (hk : k < 512) : decide (st (512 * x.1 + k) = 1) = !fre st (512 * x.1 + k) := by
  have h1 := h.inn x hx k hk
  have h2 := h.four (512 * x.1 + k)
  unfold fre
  by_cases z : st (512 * x.1 + k) = 1
  · rw [decide_eq_true z, decide_eq_false (by omega)]; rfl
  · rw [decide_eq_false z, decide_eq_true (by omega)]; rfl
theorem Mt.cntU (h : Mt st Q) {x : Nat × Nat} (hx : x ∈ Q) : cnt (pt st x).u 0 512 + cnt (fre st) (512 * x.1) 512 = 512 := by
  rw [cnt_congr (f := (pt st x).u) (g := fun q => !fre st q) (j := 512 * x.1) (fun k hk => by rw [Nat.zero_add]; exact h.used hx hk)]
  exact cnt_not _ _ _
theorem Mt.cntG (x : Nat × Nat) : cnt (pt st x).g 0 512 = cnt (rel st) (512 * x.1) 512 := cnt_congr (fun k hk => by rw [Nat.zero_add]; rfl)
/-- What the first i chunks count. -/
def sumQ (f : Nat × Nat → Nat) (Q : List (Nat × Nat)) (i : Nat) : Nat := ((Q.take i).map f).sum
theorem sumQ_succ (f : Nat × Nat → Nat) {Q : List (Nat × Nat)} {i : Nat} (hi : i < Q.length) : sumQ f Q (i + 1) = sumQ f Q i + f Q[i] := by
  unfold sumQ
  rw [List.take_succ_eq_append_getElem hi, List.map_append, List.sum_append]
  simp
theorem sumQ_le (f : Nat × Nat → Nat) (Q : List (Nat × Nat)) (m : Nat) (hf : ∀ x, f x ≤ m) : ∀ i, sumQ f Q i ≤ m * i := by
  intro i
  induction i with
  | zero => simp [sumQ]
  | succ i ih =>
    rcases Nat.lt_or_ge i Q.length with z | z
    · rw [sumQ_succ f z, Nat.mul_succ]; have := hf Q[i]; omega
    · have e : sumQ f Q (i + 1) = sumQ f Q i := by unfold sumQ; rw [List.take_of_length_le (by omega), List.take_of_length_le z]
      rw [e, Nat.mul_succ]; omega
set_option maxRecDepth 100000 in
set_option maxHeartbeats 1000000 in
theorem r9_free (h : RefAt F W rb st Q o c) (hl : Q.length ≤ 1000000) :
    Calls Tryz.prog 36 #[.pointer (some ⟨rb, 0, none⟩)] W fun e w' => e = .returned (.int .u64 (frT st : Nat)) ∧ ∃ k, w' = W.drewN k := by
  obtain ⟨f, hf⟩ : ∃ f : Nat × Nat → Nat, f = fun x => cnt (fre st) (512 * x.1) 512 := ⟨_, rfl⟩
  have et : frT st = sumQ f Q Q.length := by
    rw [hf]
    unfold sumQ
    rw [List.take_length]
    exact h.mt.count_all (fre st) (fun q hq => by unfold fre; rw [hq]; rfl)
  have fl : ∀ x, f x ≤ 512 := fun x => by rw [hf]; exact cnt_le _ _ _
  rw [et]
  obtain ⟨R, hR⟩ : ∃ R : Ending → World → Prop, R = fun e w' => e = .returned (.int .u64 (sumQ f Q Q.length : Nat)) ∧ ∃ k, w' = W.drewN k := ⟨_, rfl⟩
  rw [← hR]
  have HR := hide hR
  have HH := hide h
  have HF := hide hf
  have SL := hide (sumQ_le f Q 512 fl)
  obtain ⟨L, hL⟩ : ∃ L : Nat, Q.length = L := ⟨_, rfl⟩
  have HL := hide hL
  have l1 : (L : Int) ≤ 1000000 := by omega
  have l0 : 0 ≤ (L : Int) := by omega
  clear hR h hL hf et fl
  go_enter Tryz.func36, Tryz.ntmps36
  go_wp2_with fail
  go_loopw [3, 4] (fun nv iv wr => ∃ n i : Int, nv = .int .i64 n ∧ iv = .int .i64 i ∧ 0 ≤ i ∧ i ≤ L ∧ 0 ≤ n ∧ n ≤ 512 * i ∧ Hid (n = (sumQ f Q i.toNat : Nat) ∧ ∃ k, wr = W.drewN k)) (fun _ iv _ => (L - intOf iv).toNat)
  case atStart => exact ⟨0, 0, rfl, rfl, by omega, by omega, by omega, by omega, hide ⟨by simp [sumQ], 0, rfl⟩⟩
  case round =>
    obtain ⟨n, i, rfl, rfl, i0, i1, n0, n1, HI⟩ := hrel
    obtain ⟨en, k, hk⟩ := HI.out
    have H1 := hide (show RefAt F wr rb st Q o c from by rw [hk]; exact HH.out.drewN k)
    have HK := hide hk
    have EN := hide en
    clear HI en hk
    have c0 := H1.out.cell0
    rw [HL.out] at c0
    by_cases hi : i < L
    · obtain ⟨iN, hiN⟩ : ∃ iN : Nat, i.toNat = iN := ⟨_, rfl⟩
      have hq : iN < Q.length := by have := HL.out; omega
      obtain ⟨b, rfl, -, d1⟩ := H1.out.at hq
      rw [show iN * 2 + 1 = i.toNat * 2 + 1 by omega] at d1
      have bl := H1.out.blk hq
      have NX := hide (show ∀ (n' : Int) (w' : World), n' = n + (f Q[iN] : Nat) → (∃ j, w' = wr.drewN j) → (n' = (sumQ f Q (i + 1).toNat : Nat) ∧ ∃ k, w' = W.drewN k) from fun n' w' e1 e2 => by
        obtain ⟨j, e2⟩ := e2
        refine ⟨?_, k + j, ?_⟩
        · rw [show (i + 1).toNat = iN + 1 by omega, sumQ_succ f hq, e1, EN.out, hiN]; simp
        · rw [e2, HK.out, drewN_add])
      have ev : (512 - (cnt (pt st Q[iN]).u 0 512 : Nat) : Int) = ((f Q[iN] : Nat) : Int) := by
        rw [HF.out]
        have := H1.out.mt.cntU (List.getElem_mem hq); dsimp only; omega
      have fl : f Q[iN] ≤ 512 := by rw [HF.out]; exact cnt_le _ _ _
      obtain ⟨v, hv⟩ : ∃ v : Int, ((f Q[iN] : Nat) : Int) = v := ⟨_, rfl⟩
      rw [hv] at ev NX
      have v0 : 0 ≤ v := by omega
      have v1 : v ≤ 512 := by omega
      have CF := hide (fun X (hX : RcF X Q[iN].2 (pt st Q[iN]).u (pt st Q[iN]).g) => freeR_any _ _ _ X hX)
      rw [ev] at CF
      have BL := hide (fun j => (H1.out.drewN j).blk hq)
      obtain ⟨blk, hblk⟩ : ∃ blk, Q[iN].2 = blk := ⟨_, rfl⟩
      rw [hblk] at CF d1 BL
      clear bl ev fl hv hblk hiN
      go_wp2_with fail
      refine (CF.out wr (BL.out 0)).mono ?_
      rintro e w1 ⟨rfl, hw⟩
      rw [hw]
      have N2 := hide (NX.out (n + v) wr rfl ⟨0, rfl⟩)
      clear hw w1 CF BL NX H1 HH EN
      go_wp2_with fail
      go_roundw
      case rel => exact ⟨n + v, i + 1, by go_num, by go_num, by omega, by omega, by omega, by omega, N2⟩
      case measure => simp [intOf]; omega
    · have F0 := hide (show R (.returned (.int .u64 n)) wr from by
        rw [HR.out]
        refine ⟨?_, k, HK.out⟩
        rw [EN.out, show Q.length = i.toNat by have := HL.out; omega])
      have hd : decide (i < (L : Int)) = false := decide_eq_false hi
      clear hi HR EN H1
      go_wp2_with fail
      first | exact F0.out | (go_ret; exact F0.out)
set_option maxRecDepth 100000 in
set_option maxHeartbeats 1000000 in
theorem r9_released (h : RefAt F W rb st Q o c) (hl : Q.length ≤ 1000000) :
    Calls Tryz.prog 38 #[.pointer (some ⟨rb, 0, none⟩)] W fun e w' => e = .returned (.int .u64 (rlT st : Nat)) ∧ ∃ k, w' = W.drewN k := by
  obtain ⟨f, hf⟩ : ∃ f : Nat × Nat → Nat, f = fun x => cnt (rel st) (512 * x.1) 512 := ⟨_, rfl⟩
  have et : rlT st = sumQ f Q Q.length := by
    rw [hf]
    unfold sumQ
    rw [List.take_length]
    exact h.mt.count_all (rel st) (fun q hq => by unfold rel; rw [hq]; rfl)
  have fl : ∀ x, f x ≤ 512 := fun x => by rw [hf]; exact cnt_le _ _ _
  rw [et]
  obtain ⟨R, hR⟩ : ∃ R : Ending → World → Prop, R = fun e w' => e = .returned (.int .u64 (sumQ f Q Q.length : Nat)) ∧ ∃ k, w' = W.drewN k := ⟨_, rfl⟩
  rw [← hR]
  have HR := hide hR
  have HH := hide h
  have HF := hide hf
  have SL := hide (sumQ_le f Q 512 fl)
  obtain ⟨L, hL⟩ : ∃ L : Nat, Q.length = L := ⟨_, rfl⟩
  have HL := hide hL
  have l1 : (L : Int) ≤ 1000000 := by omega
  have l0 : 0 ≤ (L : Int) := by omega
  clear hR h hL hf et fl
  go_enter Tryz.func38, Tryz.ntmps38
  go_wp2_with fail
  go_loopw [3, 4] (fun nv iv wr => ∃ n i : Int, nv = .int .i64 n ∧ iv = .int .i64 i ∧ 0 ≤ i ∧ i ≤ L ∧ 0 ≤ n ∧ n ≤ 512 * i ∧ Hid (n = (sumQ f Q i.toNat : Nat) ∧ ∃ k, wr = W.drewN k)) (fun _ iv _ => (L - intOf iv).toNat)
  case atStart => exact ⟨0, 0, rfl, rfl, by omega, by omega, by omega, by omega, hide ⟨by simp [sumQ], 0, rfl⟩⟩
  case round =>
    obtain ⟨n, i, rfl, rfl, i0, i1, n0, n1, HI⟩ := hrel
    obtain ⟨en, k, hk⟩ := HI.out
    have H1 := hide (show RefAt F wr rb st Q o c from by rw [hk]; exact HH.out.drewN k)
    have HK := hide hk
    have EN := hide en
    clear HI en hk
    have c0 := H1.out.cell0
    rw [HL.out] at c0
    by_cases hi : i < L
    · obtain ⟨iN, hiN⟩ : ∃ iN : Nat, i.toNat = iN := ⟨_, rfl⟩
      have hq : iN < Q.length := by have := HL.out; omega
      obtain ⟨b, rfl, -, d1⟩ := H1.out.at hq
      rw [show iN * 2 + 1 = i.toNat * 2 + 1 by omega] at d1
      have bl := H1.out.blk hq
      have NX := hide (show ∀ (n' : Int) (w' : World), n' = n + (f Q[iN] : Nat) → (∃ j, w' = wr.drewN j) → (n' = (sumQ f Q (i + 1).toNat : Nat) ∧ ∃ k, w' = W.drewN k) from fun n' w' e1 e2 => by
        obtain ⟨j, e2⟩ := e2
        refine ⟨?_, k + j, ?_⟩
        · rw [show (i + 1).toNat = iN + 1 by omega, sumQ_succ f hq, e1, EN.out, hiN]; simp
        · rw [e2, HK.out, drewN_add])
      have ev : ((cnt (pt st Q[iN]).g 0 512 : Nat) : Int) = ((f Q[iN] : Nat) : Int) := by
        rw [HF.out]
        rw [Mt.cntG]
      have fl : f Q[iN] ≤ 512 := by rw [HF.out]; exact cnt_le _ _ _
      obtain ⟨v, hv⟩ : ∃ v : Int, ((f Q[iN] : Nat) : Int) = v := ⟨_, rfl⟩
      rw [hv] at ev NX
      have v0 : 0 ≤ v := by omega
      have v1 : v ≤ 512 := by omega
      have CF := hide (fun X (hX : RcF X Q[iN].2 (pt st Q[iN]).u (pt st Q[iN]).g) => releasedR_any _ _ _ X hX)
      rw [ev] at CF
      have BL := hide (fun j => (H1.out.drewN j).blk hq)
      obtain ⟨blk, hblk⟩ : ∃ blk, Q[iN].2 = blk := ⟨_, rfl⟩
      rw [hblk] at CF d1 BL
      clear bl ev fl hv hblk hiN
      go_wp2_with fail
      refine (CF.out wr (BL.out 0)).mono ?_
      rintro e w1 ⟨rfl, hw⟩
      rw [hw]
      have N2 := hide (NX.out (n + v) wr rfl ⟨0, rfl⟩)
      clear hw w1 CF BL NX H1 HH EN
      go_wp2_with fail
      go_roundw
      case rel => exact ⟨n + v, i + 1, by go_num, by go_num, by omega, by omega, by omega, by omega, N2⟩
      case measure => simp [intOf]; omega
    · have F0 := hide (show R (.returned (.int .u64 n)) wr from by
        rw [HR.out]
        refine ⟨?_, k, HK.out⟩
        rw [EN.out, show Q.length = i.toNat by have := HL.out; omega])
      have hd : decide (i < (L : Int)) = false := decide_eq_false hi
      clear hi HR EN H1
      go_wp2_with fail
      first | exact F0.out | (go_ret; exact F0.out)
end
end Go.Proofs.YtnclicdnncgdiaaGreatDoor

/- The reference's tree: Scavenge: its contract. -/
namespace Go.Proofs.YtnclicdnncgdiaaGreatDoor
open Go.ChangeShapes Go.WideShapes Go.ChangeAt Go.RowKit Go.Proofs.Bt Go.Shelf Go.Proofs.Rx Go.Maps Go.Proofs.Pk
set_option linter.unusedVariables false
set_option linter.unusedSimpArgs false

section
variable {F : Nat → Prop} {W W' : World} {rb : Nat} {st : Nat → Nat} {Q : List (Nat × Nat)} {o : Option Addr} {c : Nat}
theorem RefAt.scav (h : RefAt F W rb st Q o c) {i : Nat} (hi : i < Q.length) {M x k : Int} (hp : LastP (busy (pt st Q[i]).u (pt st Q[i]).g) M 512 x k) (r : RcF W' Q[i].2 (pt st Q[i]).u (setF (pt st Q[i]).g x.toNat k.toNat)) (kp : Kept (fun b => b = Q[i].2) W W') :
    RefAt F W' rb (setSt st (512 * Q[i].1 + x.toNat) (512 * Q[i].1 + x.toNat + k.toNat) 3) Q o c := by
  have kb : ∀ y, y < W.heap.size → y ≠ Q[i].2 → W'.heap[y]? = W.heap[y]? := fun y hy hne => kp.block y hy hne
  obtain ⟨b0, b1, b2⟩ := last_bounds hp
  have clr : ∀ q, x.toNat ≤ q → q < x.toNat + k.toNat → (pt st Q[i]).u q = false := fun q q1 q2 => by
    rcases hp with ⟨rfl, rfl, _⟩ | ⟨_, a, m, rfl, rfl, _, _, _, h5, _, _⟩
    · omega
    · have := Clr.at h5 (k := q) (by simpa using q1) (by simpa using q2)
      unfold busy at this
      cases hu : (pt st Q[i]).u q
      · rfl
      · rw [hu] at this; cases this
  have m3 : Mt (setSt st (512 * Q[i].1 + x.toNat) (512 * Q[i].1 + x.toNat + k.toNat) 3) Q := h.mt.set (by omega) (fun q q1 q2 => by
    have := h.mt.inn _ (List.getElem_mem hi) (q - 512 * Q[i].1) (by omega)
    rwa [show 512 * Q[i].1 + (q - 512 * Q[i].1) = q by omega] at this)
  refine h.turn (kb rb (h.lt (.inl rfl)) (fun e => h.ne_rb hi e.symm)) (fun y hy => kb y (h.lt (.inr (.inl hy))) (fun e => h.ne_list hi (by rw [hy, e]))) (fun j hj => ?_) m3
  by_cases e : j = i
  · subst e
    refine ⟨r.used.congr fun q hq => ?_, r.gone.congr fun q hq => ?_⟩
    · show decide (st (512 * Q[j].1 + q) = 1) = decide (setSt st _ _ 3 (512 * Q[j].1 + q) = 1)
      by_cases z : x.toNat ≤ q ∧ q < x.toNat + k.toNat
      · rw [setSt_in (by omega)]
        exact clr q z.1 z.2
      · rw [setSt_out (by omega)]
    · show setF (fun q => decide (st (512 * Q[j].1 + q) = 3)) x.toNat k.toNat q = decide (setSt st _ _ 3 (512 * Q[j].1 + q) = 3)
      unfold setF
      by_cases z : x.toNat ≤ q ∧ q < x.toNat + k.toNat
      · rw [setSt_in (by omega), decide_eq_true z, Bool.or_true]; rfl
      · rw [setSt_out (by omega), decide_eq_false z, Bool.or_false]
  · have h1 := h.blk hj
    have e1 := kb Q[j].2 h1.lt (fun z => e (h.mt.injb hj hi z))
    have nq : Q[j].1 ≠ Q[i].1 := fun z => e (h.mt.inj hj hi z)
    refine ⟨(h1.used.block e1).congr fun q hq => ?_, (h1.gone.block e1).congr fun q hq => ?_⟩
    · unfold pt; dsimp only; rw [setSt_out (by omega)]
    · unfold pt; dsimp only; rw [setSt_out (by omega)]
/-- What Scavenge answers and leaves. -/
def ScavRf (F : Nat → Prop) (W : World) (rb : Nat) (st : Nat → Nat) (Q : List (Nat × Nat)) (o : Option Addr) (c : Nat) (most : Nat) (e : Ending) (W' : World) : Prop :=
  (((most = 0 ∨ ∀ q, st q ≠ 2) ∧ e = .returned (.tuple #[.int .u64 0, .int .u64 0]) ∧ RefAt F W' rb st Q o c) ∨
  (1 ≤ most ∧ ∃ (N a m : Nat), (∀ q, 512 * (N + 1) ≤ q → st q ≠ 2) ∧ 1 ≤ m ∧ a + m ≤ 512 ∧ st (512 * N + a) = 2 ∧ LastP (busy (fun k => decide (st (512 * N + k) = 1)) (fun k => decide (st (512 * N + k) = 3))) (min most 512 : Nat) 512 (a : Nat) (m : Nat) ∧ e = .returned (.tuple #[.int .u64 ((512 * N + a : Nat) : Int), .int .u64 (m : Nat)]) ∧ RefAt F W' rb (setSt st (512 * N + a) (512 * N + a + m) 3) Q o c)) ∧ Kept F W W'
/-- A chunk without an idle page. -/
theorem Mt.down (h : Mt st Q) {i : Nat} (hi : i < Q.length) {M : Int} (hM : 1 ≤ M) (hp : LastP (busy (pt st Q[i]).u (pt st Q[i]).g) M 512 0 0) (hz : ∀ q, qof Q (i + 1) ≤ q → st q ≠ 2) : ∀ q, qof Q i ≤ q → st q ≠ 2 := fun q hq => by
  rcases Nat.lt_or_ge q (qof Q (i + 1)) with z | z
  · obtain ⟨g1, g2⟩ := h.gap hi
    rw [qof_succ hi] at z
    rcases Nat.lt_or_ge q (512 * Q[i].1) with y | y
    · rw [g2 q hq y]; decide
    · rcases hp with ⟨_, _, h1⟩ | ⟨_, a, m, e1, e2, h2, _⟩
      · have := (h1.resolve_left (by omega)) (q - 512 * Q[i].1) (by simp; omega)
        unfold busy pt at this
        dsimp only at this
        rw [show 512 * Q[i].1 + (q - 512 * Q[i].1) = q by omega] at this
        intro e
        rw [e] at this
        cases this
      · omega
  · exact hz q z
theorem Mt.hit (h : Mt st Q) {i : Nat} (hi : i < Q.length) {M x k : Int} (hk : 0 < k) (hp : LastP (busy (pt st Q[i]).u (pt st Q[i]).g) M 512 x k) : st (512 * Q[i].1 + x.toNat) = 2 := by
  rcases hp with ⟨e1, _, _⟩ | ⟨_, a, m, rfl, rfl, h2, _, h4, h5, _, _⟩
  · omega
  · have := Clr.at h5 (k := a) (Nat.le_refl _) (by omega)
    unfold busy pt at this
    dsimp only at this
    have h1 := h.inn _ (List.getElem_mem hi) a (by omega)
    have h4 := h.four (512 * Q[i].1 + a)
    rw [Int.toNat_natCast]
    simp only [Bool.or_eq_false_iff, decide_eq_false_iff_not] at this
    omega
set_option maxRecDepth 100000 in
set_option maxHeartbeats 1000000 in
theorem r9_scav (h : RefAt F W rb st Q o c) (hl : Q.length ≤ 1000000) (most : Nat) (hm : most < 18446744073709551616) :
    Calls Tryz.prog 30 #[.pointer (some ⟨rb, 0, none⟩), .int .u64 (most : Nat)] W (ScavRf F W rb st Q o c most) := by
  obtain ⟨R, hR⟩ : ∃ R, R = ScavRf F W rb st Q o c most := ⟨_, rfl⟩
  rw [← hR]
  have HR := hide hR
  have HH := hide h
  obtain ⟨L, hL⟩ : ∃ L : Nat, Q.length = L := ⟨_, rfl⟩
  have HL := hide hL
  have l1 : (L : Int) ≤ 1000000 := by omega
  have l0 : 0 ≤ (L : Int) := by omega
  have c0 := h.cell0
  rw [hL] at c0
  obtain ⟨X, hX⟩ : ∃ X : Int, (most : Int) = X := ⟨_, rfl⟩
  rw [hX]
  obtain ⟨M, hM⟩ : ∃ M : Int, M = min X 512 := ⟨_, rfl⟩
  have m0 : 0 ≤ M := by omega
  have m1 : M ≤ 512 := by omega
  have x0 : 0 ≤ X := by omega
  have x1 : X < 18446744073709551616 := by omega
  have HM := hide (And.intro hX hM)
  have NO := hide (show ∀ W', RefAt F W' rb st Q o c → Kept F W W' → (X = 0 ∨ ∀ q, st q ≠ 2) → R (.returned (.tuple #[.int .u64 0, .int .u64 0])) W' from fun W' h1 h2 h3 => by
    rw [HR.out]
    exact ⟨.inl ⟨h3.imp (fun z => by have := HM.out.1; omega) id, rfl, h1⟩, h2⟩)
  have I0 := hide (show RefAt F W rb st Q o c ∧ Kept F W W ∧ (X = 0 ∨ ∀ q, qof Q ((L : Int) - 1 + 1).toNat ≤ q → st q ≠ 2) from ⟨h, Kept.refl _ _, .inr fun q hq => by
    rw [h.mt.past (x := q) (by rw [show Q.length = ((L : Int) - 1 + 1).toNat by have := HL.out; omega]; exact hq)]
    decide⟩)
  clear hR h hL hX
  by_cases big : 512 < X
  · obtain rfl : M = 512 := by omega
    clear hM
    go_enter Tryz.func30, Tryz.ntmps30
    go_wp2_with fail
    go_loopw [6] (fun iv wr => ∃ i : Int, iv = .int .i64 i ∧ -1 ≤ i ∧ i < L ∧ Hid (RefAt F wr rb st Q o c ∧ Kept F W wr ∧ (X = 0 ∨ ∀ q, qof Q (i + 1).toNat ≤ q → st q ≠ 2))) (fun iv _ => (intOf iv + 1).toNat)
    case atStart => exact ⟨(L : Int) - 1, rfl, by omega, by omega, I0⟩
    case round =>
      clear I0 c0
      obtain ⟨i, rfl, i0, i1, HI⟩ := hrel
      by_cases hi : 0 ≤ i
      · obtain ⟨iN, hiN⟩ : ∃ iN : Nat, i.toNat = iN := ⟨_, rfl⟩
        have hq : iN < Q.length := by have := HL.out; omega
        have c0 := HI.out.1.cell0
        rw [HL.out] at c0
        obtain ⟨b, rfl, d0, d1⟩ := HI.out.1.at hq
        rw [show iN * 2 = i.toNat * 2 by omega] at d0
        rw [show iN * 2 + 1 = i.toNat * 2 + 1 by omega] at d1
        have bl := HI.out.1.blk hq
        have CS := hide (scavR_any _ _ _ wr bl 512 (by omega))
        have ng := HI.out.1.mt.below _ (List.getElem_mem hq)
        have NX := hide (show ∀ (x y : Int) (w1 : World), LastP (busy (pt st Q[iN]).u (pt st Q[iN]).g) 512 512 x y → RcF w1 Q[iN].2 (pt st Q[iN]).u (setF (pt st Q[iN]).g x.toNat y.toNat) → Kept (fun b => b = Q[iN].2) wr w1 → 0 ≤ x ∧ 0 ≤ y ∧ x + y ≤ 512 ∧ (y = 0 → RefAt F w1 rb st Q (some ⟨b, 0, none⟩) c ∧ Kept F W w1 ∧ (X = 0 ∨ ∀ q, qof Q (i - 1 + 1).toNat ≤ q → st q ≠ 2)) ∧ (0 < y → R (.returned (.tuple #[.int .u64 ((Q[iN].1 : Nat) * 512 + x), .int .u64 y])) w1) from fun x y w1 p1 p2 p3 => by
          obtain ⟨b0, b1, b2⟩ := last_bounds p1
          have rn := HI.out.1.scav hq p1 p2 p3
          have kn : Kept F W w1 := HI.out.2.1.trans p3 (fun z _ e => by rw [e]; exact HI.out.1.ft _ (.inr (.inr ⟨_, List.getElem_mem hq, rfl⟩)))
          refine ⟨b0, b1, b2, fun e => ?_, fun e => ?_⟩
          · have ex : x = 0 := by
              rcases p1 with ⟨_, e1, _⟩ | ⟨_, a, m, _, e2, h2, _⟩
              · exact e1
              · omega
            rw [e, ex] at rn p1
            simp only [Int.toNat_zero, Nat.add_zero, setSt_none] at rn
            refine ⟨rn, kn, ?_⟩
            rcases HI.out.2.2 with z | z
            · exact .inl z
            · by_cases z0 : X = 0
              · exact .inl z0
              · refine .inr ?_
                rw [show (i - 1 + 1).toNat = iN by omega]
                exact HI.out.1.mt.down hq (M := 512) (by omega) p1 (by rw [show iN + 1 = (i + 1).toNat by omega]; exact z)
          · rw [HR.out]
            have zz := HI.out.2.2
            have m1 : (1 : Int) ≤ 512 ∧ y ≤ 512 := by
              rcases p1 with ⟨e1, _, _⟩ | ⟨m1, a, m, _, e2, _, m3, _⟩
              · omega
              · exact ⟨m1, by omega⟩
            have hh := HI.out.1.mt.hit hq e p1
            have MX := HM.out
            refine ⟨.inr ⟨by omega, Q[iN].1, x.toNat, y.toNat, fun q hq' => ?_, by omega, by omega, hh, ?_, ?_, ?_⟩, kn⟩
            · rcases zz with z | z
              · omega
              · exact z q (by rw [show (i + 1).toNat = iN + 1 by omega, qof_succ hq]; exact hq')
            · rw [show ((min most 512 : Nat) : Int) = 512 by omega, show ((x.toNat : Nat) : Int) = x by omega, show ((y.toNat : Nat) : Int) = y by omega]
              exact p1
            · rw [show ((512 * Q[iN].1 + x.toNat : Nat) : Int) = (Q[iN].1 : Nat) * 512 + x by omega, show ((y.toNat : Nat) : Int) = y by omega]
            · exact rn)
        have CEL := hide (show ∀ w1, Kept (fun b => b = Q[iN].2) wr w1 → w1.cell? ⟨rb, 0, none⟩ = some (.slice (some ⟨b, 0, none⟩) L c) ∧ w1.cell? ⟨b, i.toNat * 2, none⟩ = some (.int .u64 (Q[iN].1 : Nat)) from fun w1 k1 => ⟨(cell_block (k1.block rb (HI.out.1.lt (.inl rfl)) (fun e => HI.out.1.ne_rb hq e.symm)) 0).trans c0, (cell_block (k1.block b (HI.out.1.lt (.inr (.inl rfl))) (fun e => HI.out.1.ne_list hq (by rw [← e]; rfl))) _).trans d0⟩)
        obtain ⟨NI, hNI⟩ : ∃ NI : Int, ((Q[iN].1 : Nat) : Int) = NI := ⟨_, rfl⟩
        have ni0 : 0 ≤ NI := by omega
        have ni1 : NI < 67108864 := by omega
        generalize hblk : Q[iN].2 = blk at CS d1 NX CEL
        rw [hNI] at NX CEL
        clear d0 bl ng hNI hblk HI hiN
        go_wp2_with fail
        refine CS.out.mono ?_
        rintro e w1 ⟨x, y, rfl, p1, p2, p3⟩
        obtain ⟨x0', y0', xy, FZ, FY⟩ := NX.out x y w1 p1 p2 p3
        obtain ⟨c0, d0⟩ := CEL.out w1 p3
        have HFZ := hide FZ
        have HFY := hide FY
        clear CS NX CEL p1 p2 p3 FZ FY d1
        by_cases hy : 0 < y
        · have F0 := hide (HFY.out hy)
          clear HFZ HFY
          go_wp2_with fail
          first | exact F0.out | (go_wp2_with fail; exact F0.out)
        · have e0 : y = 0 := by omega
          subst e0
          have N2 := hide (HFZ.out rfl)
          clear HFZ HFY hy
          go_wp2_with fail
          go_roundw
          case rel => exact ⟨i - 1, by go_num, by omega, by omega, N2⟩
          case measure => simp [intOf]; omega
      · have e1 : i = -1 := by omega
        have F0 := hide (NO.out wr HI.out.1 HI.out.2.1 (HI.out.2.2.imp id (fun z q => z q (by rw [e1]; exact Nat.zero_le _))))
        have hd : decide (0 ≤ i) = false := decide_eq_false hi
        clear HI NO HR hi
        subst e1
        go_wp2_with fail
        first | exact F0.out | (go_ret2; exact F0.out)
  · obtain rfl : M = X := by omega
    clear hM
    go_enter Tryz.func30, Tryz.ntmps30
    go_wp2_with fail
    go_loopw [6] (fun iv wr => ∃ i : Int, iv = .int .i64 i ∧ -1 ≤ i ∧ i < L ∧ Hid (RefAt F wr rb st Q o c ∧ Kept F W wr ∧ (M = 0 ∨ ∀ q, qof Q (i + 1).toNat ≤ q → st q ≠ 2))) (fun iv _ => (intOf iv + 1).toNat)
    case atStart => exact ⟨(L : Int) - 1, rfl, by omega, by omega, I0⟩
    case round =>
      clear I0 c0
      obtain ⟨i, rfl, i0, i1, HI⟩ := hrel
      by_cases hi : 0 ≤ i
      · obtain ⟨iN, hiN⟩ : ∃ iN : Nat, i.toNat = iN := ⟨_, rfl⟩
        have hq : iN < Q.length := by have := HL.out; omega
        have c0 := HI.out.1.cell0
        rw [HL.out] at c0
        obtain ⟨b, rfl, d0, d1⟩ := HI.out.1.at hq
        rw [show iN * 2 = i.toNat * 2 by omega] at d0
        rw [show iN * 2 + 1 = i.toNat * 2 + 1 by omega] at d1
        have bl := HI.out.1.blk hq
        have CS := hide (scavR_any _ _ _ wr bl M (by omega))
        have ng := HI.out.1.mt.below _ (List.getElem_mem hq)
        have NX := hide (show ∀ (x y : Int) (w1 : World), LastP (busy (pt st Q[iN]).u (pt st Q[iN]).g) M 512 x y → RcF w1 Q[iN].2 (pt st Q[iN]).u (setF (pt st Q[iN]).g x.toNat y.toNat) → Kept (fun b => b = Q[iN].2) wr w1 → 0 ≤ x ∧ 0 ≤ y ∧ x + y ≤ 512 ∧ (y = 0 → RefAt F w1 rb st Q (some ⟨b, 0, none⟩) c ∧ Kept F W w1 ∧ (M = 0 ∨ ∀ q, qof Q (i - 1 + 1).toNat ≤ q → st q ≠ 2)) ∧ (0 < y → R (.returned (.tuple #[.int .u64 ((Q[iN].1 : Nat) * 512 + x), .int .u64 y])) w1) from fun x y w1 p1 p2 p3 => by
          obtain ⟨b0, b1, b2⟩ := last_bounds p1
          have rn := HI.out.1.scav hq p1 p2 p3
          have kn : Kept F W w1 := HI.out.2.1.trans p3 (fun z _ e => by rw [e]; exact HI.out.1.ft _ (.inr (.inr ⟨_, List.getElem_mem hq, rfl⟩)))
          refine ⟨b0, b1, b2, fun e => ?_, fun e => ?_⟩
          · have ex : x = 0 := by
              rcases p1 with ⟨_, e1, _⟩ | ⟨_, a, m, _, e2, h2, _⟩
              · exact e1
              · omega
            rw [e, ex] at rn p1
            simp only [Int.toNat_zero, Nat.add_zero, setSt_none] at rn
            refine ⟨rn, kn, ?_⟩
            rcases HI.out.2.2 with z | z
            · exact .inl z
            · by_cases z0 : M = 0
              · exact .inl z0
              · refine .inr ?_
                rw [show (i - 1 + 1).toNat = iN by omega]
                exact HI.out.1.mt.down hq (M := M) (by omega) p1 (by rw [show iN + 1 = (i + 1).toNat by omega]; exact z)
          · rw [HR.out]
            have zz := HI.out.2.2
            have m1 : (1 : Int) ≤ M ∧ y ≤ M := by
              rcases p1 with ⟨e1, _, _⟩ | ⟨m1, a, m, _, e2, _, m3, _⟩
              · omega
              · exact ⟨m1, by omega⟩
            have hh := HI.out.1.mt.hit hq e p1
            have MX := HM.out
            refine ⟨.inr ⟨by omega, Q[iN].1, x.toNat, y.toNat, fun q hq' => ?_, by omega, by omega, hh, ?_, ?_, ?_⟩, kn⟩
            · rcases zz with z | z
              · omega
              · exact z q (by rw [show (i + 1).toNat = iN + 1 by omega, qof_succ hq]; exact hq')
            · rw [show ((min most 512 : Nat) : Int) = M by omega, show ((x.toNat : Nat) : Int) = x by omega, show ((y.toNat : Nat) : Int) = y by omega]
              exact p1
            · rw [show ((512 * Q[iN].1 + x.toNat : Nat) : Int) = (Q[iN].1 : Nat) * 512 + x by omega, show ((y.toNat : Nat) : Int) = y by omega]
            · exact rn)
        have CEL := hide (show ∀ w1, Kept (fun b => b = Q[iN].2) wr w1 → w1.cell? ⟨rb, 0, none⟩ = some (.slice (some ⟨b, 0, none⟩) L c) ∧ w1.cell? ⟨b, i.toNat * 2, none⟩ = some (.int .u64 (Q[iN].1 : Nat)) from fun w1 k1 => ⟨(cell_block (k1.block rb (HI.out.1.lt (.inl rfl)) (fun e => HI.out.1.ne_rb hq e.symm)) 0).trans c0, (cell_block (k1.block b (HI.out.1.lt (.inr (.inl rfl))) (fun e => HI.out.1.ne_list hq (by rw [← e]; rfl))) _).trans d0⟩)
        obtain ⟨NI, hNI⟩ : ∃ NI : Int, ((Q[iN].1 : Nat) : Int) = NI := ⟨_, rfl⟩
        have ni0 : 0 ≤ NI := by omega
        have ni1 : NI < 67108864 := by omega
        generalize hblk : Q[iN].2 = blk at CS d1 NX CEL
        rw [hNI] at NX CEL
        clear d0 bl ng hNI hblk HI hiN
        go_wp2_with fail
        refine CS.out.mono ?_
        rintro e w1 ⟨x, y, rfl, p1, p2, p3⟩
        obtain ⟨x0', y0', xy, FZ, FY⟩ := NX.out x y w1 p1 p2 p3
        obtain ⟨c0, d0⟩ := CEL.out w1 p3
        have HFZ := hide FZ
        have HFY := hide FY
        clear CS NX CEL p1 p2 p3 FZ FY d1
        by_cases hy : 0 < y
        · have F0 := hide (HFY.out hy)
          clear HFZ HFY
          go_wp2_with fail
          first | exact F0.out | (go_wp2_with fail; exact F0.out)
        · have e0 : y = 0 := by omega
          subst e0
          have N2 := hide (HFZ.out rfl)
          clear HFZ HFY hy
          go_wp2_with fail
          go_roundw
          case rel => exact ⟨i - 1, by go_num, by omega, by omega, N2⟩
          case measure => simp [intOf]; omega
      · have e1 : i = -1 := by omega
        have F0 := hide (NO.out wr HI.out.1 HI.out.2.1 (HI.out.2.2.imp id (fun z q => z q (by rw [e1]; exact Nat.zero_le _))))
        have hd : decide (0 ≤ i) = false := decide_eq_false hi
        clear HI NO HR hi
        subst e1
        go_wp2_with fail
        first | exact F0.out | (go_ret2; exact F0.out)
end
end Go.Proofs.YtnclicdnncgdiaaGreatDoor

/- The reference's tree: Find, First: contracts. -/
namespace Go.Proofs.YtnclicdnncgdiaaGreatDoor
open Go.ChangeShapes Go.WideShapes Go.ChangeAt Go.RowKit Go.Proofs.Bt Go.Shelf Go.Proofs.Rx Go.Maps Go.Proofs.Pk
set_option linter.unusedVariables false
set_option linter.unusedSimpArgs false

/-- What Find answers. -/
def FindRf (st : Nat → Nat) (n : Nat) (W : World) (e : Ending) (w' : World) : Prop :=
  ((∃ p : Nat, First st n p ∧ 1 ≤ n ∧ e = .returned (.tuple #[.int .u64 (p : Nat), .bool true])) ∨ ((n = 0 ∨ ∀ p, ¬ Run st p n) ∧ e = .returned (.tuple #[.int .u64 0, .bool false]))) ∧ ∃ k, w' = W.drewN k
theorem FnI.to {st : Nat → Nat} {n q r q' : Nat} (h : FnI st n q r) (hq : q ≤ q') (hz : ∀ x, q ≤ x → x < q' → st x = 0) (hr : q < q' ∨ r = 0) : ∃ r', (q = q' → r' = r) ∧ (q < q' → r' = 0) ∧ FnI st n q' r' := by
  rcases Nat.lt_or_ge q q' with z | z
  · exact ⟨0, fun e => by omega, fun _ => rfl, h.gap z fun x h1 h2 => by rw [hz x h1 h2]; decide⟩
  · obtain rfl : q = q' := by omega
    exact ⟨r, fun _ => rfl, fun e => by omega, h⟩
section
variable {F : Nat → Prop} {W : World} {rb : Nat} {st : Nat → Nat} {Q : List (Nat × Nat)} {o : Option Addr} {c : Nat}
set_option maxRecDepth 100000 in
set_option maxHeartbeats 2000000 in
theorem findR_any (h : RefAt F W rb st Q o c) (hl : Q.length ≤ 1000000) (n : Int) (n0 : 0 ≤ n) (n1 : n < 18446744073709551616) :
    Calls Tryz.prog 55 #[.pointer (some ⟨rb, 0, none⟩), .int .u64 n] W (FindRf st n.toNat W) := by
  obtain ⟨R, hR⟩ : ∃ R, R = FindRf st n.toNat W := ⟨_, rfl⟩
  rw [← hR]
  have HR := hide hR
  have HH := hide h
  have c0 := h.cell0
  obtain ⟨L, hL⟩ : ∃ L : Nat, Q.length = L := ⟨_, rfl⟩
  rw [hL] at c0
  have HL := hide hL
  have l1 : (L : Int) ≤ 1000000 := by omega
  have l0 : 0 ≤ (L : Int) := by omega
  have NO := hide (show ∀ j, (n.toNat = 0 ∨ ∀ p, ¬ Run st p n.toNat) → R (.returned (.tuple #[.int .u64 0, .bool false])) (W.drewN j) from fun j hz => by rw [HR.out]; exact ⟨.inr ⟨hz, rfl⟩, j, rfl⟩)
  have YES := hide (show ∀ (j : Nat) (p : Int), 0 ≤ p → 1 ≤ n → First st n.toNat p.toNat → R (.returned (.tuple #[.int .u64 p, .bool true])) (W.drewN j) from fun j p hp hn hf => by rw [HR.out]; exact ⟨.inl ⟨p.toNat, hf, by omega, by rw [show ((p.toNat : Nat) : Int) = p by omega]⟩, j, rfl⟩)
  clear hR h hL HR
  by_cases z0 : n = 0
  · subst z0
    have F0 := hide (NO.out 0 (.inl rfl))
    rw [show W.drewN 0 = W from rfl] at F0
    by_cases z1 : (0 : Int) < L
    · have d1 : decide ((0 : Int) < (L : Int)) = true := decide_eq_true z1
      clear NO YES
      go_enter Tryz.func55, Tryz.ntmps55
      go_wp2_with fail
      go_loop [8] (fun v => v = .int .i64 0) (fun v => 0)
      case atStart => rfl
      case round =>
        subst hrel
        go_wp2_with fail
        exact F0.out
    · obtain rfl : L = 0 := by omega
      clear NO YES
      go_enter Tryz.func55, Tryz.ntmps55
      go_wp2_with fail
      go_loop [8] (fun v => v = .int .i64 0) (fun v => 0)
      case atStart => rfl
      case round =>
        subst hrel
        go_wp2_with fail
        exact F0.out
  have n2 : 0 < n := by omega
  have Z0 := hide (FnI.zero (st := st) (n := n.toNat) (by omega))
  clear z0 n0
  go_enter Tryz.func55, Tryz.ntmps55
  go_wp2_with fail
  go_loop [6, 7, 8] (fun rv lv iv => ∃ r la i : Int, rv = .int .u64 r ∧ lv = .int .u64 la ∧ iv = .int .i64 i ∧ 0 ≤ i ∧ i ≤ L ∧ 0 ≤ r ∧ r < n ∧ 0 ≤ la ∧ la < 67108864 ∧ Hid (FnI st n.toNat (qof Q i.toNat) r.toNat) ∧ Hid (0 < i → qof Q i.toNat = 512 * (la.toNat + 1))) (fun _ _ iv => (L - intOf iv).toNat)
  case atStart => exact ⟨0, 0, 0, rfl, rfl, rfl, by omega, by omega, by omega, by omega, by omega, by omega, Z0, hide (fun z => by omega)⟩
  case round =>
    obtain ⟨r, la, i, rfl, rfl, rfl, i0, i1, r0, r1, la0, la1, HI, HA⟩ := hrel
    clear Z0
    by_cases hi : i < L
    · obtain ⟨iN, hiN⟩ : ∃ iN : Nat, i.toNat = iN := ⟨_, rfl⟩
      have hq : iN < Q.length := by have := HL.out; omega
      obtain ⟨b, rfl, d0, d1⟩ := HH.out.at hq
      have CU := hide (fun k (hk : k < 512) => (HH.out.blk hq).used.cell k hk)
      have HIN := hide (HH.out.mt.inn _ (List.getElem_mem hq))
      have H4 := hide HH.out.mt.four
      have ng := HH.out.mt.below _ (List.getElem_mem hq)
      obtain ⟨g1, g2⟩ := HH.out.mt.gap hq
      have QS := hide (qof_succ hq)
      obtain ⟨N, hN⟩ : ∃ N, Q[iN].1 = N := ⟨_, rfl⟩
      obtain ⟨blk, hblk⟩ : ∃ blk, Q[iN].2 = blk := ⟨_, rfl⟩
      unfold pt at CU
      rw [hN] at d0 CU HIN ng g1 g2 QS
      rw [hblk] at d1 CU
      rw [← hiN] at d0 d1 g1 g2
      obtain ⟨NI, hNI⟩ : ∃ NI : Int, (N : Int) = NI := ⟨_, rfl⟩
      rw [hNI] at d0
      have ni0 : 0 ≤ NI := by omega
      have ni1 : NI < 67108864 := by omega
      have HNI := hide hNI
      have G1 := hide g1
      have G2 := hide g2
      have HIN2 := hide hiN
      clear hN hblk ng g1 g2 hq hNI hiN
      by_cases iz : i = 0
      · have dz : decide (0 < i) = false := decide_eq_false (by omega)
        obtain rfl : r = 0 := by have := HI.out.rq; rw [iz] at this; simp [qof] at this; omega
        have FN := hide (show FnI st n.toNat (512 * N) 0 from by
          obtain ⟨r', h1, h2, h3⟩ := HI.out.to G1.out G2.out (.inr rfl)
          have : r' = 0 := by
            rcases Nat.lt_or_ge (qof Q i.toNat) (512 * N) with z | z
            · exact h2 z
            · exact h1 (Nat.le_antisymm G1.out z)
          rwa [this] at h3)
        clear HI HA G1 G2 iz
        go_wp2_with fail
        go_loop [6, 9] (fun rv kv => ∃ r k : Int, rv = .int .u64 r ∧ kv = .int .u64 k ∧ 0 ≤ k ∧ k ≤ 512 ∧ 0 ≤ r ∧ r < n ∧ Hid (FnI st n.toNat (512 * N + k.toNat) r.toNat)) (fun _ kv => (512 - intOf kv).toNat)
        case atStart => exact ⟨0, 0, rfl, rfl, by omega, by omega, by omega, by omega, FN⟩
        case round =>
          obtain ⟨r, k, rfl, rfl, k0, k1, r0, r1, HJ⟩ := hrel
          clear FN
          by_cases hk : k < 512
          · have cu := CU.out k.toNat (by omega)
            have hin := HIN.out k.toNat (by omega)
            have h4 := H4.out (512 * N + k.toNat)
            rw [Nat.zero_add] at cu
            by_cases us : st (512 * N + k.toNat) = 1
            · rw [show decide (st (512 * N + k.toNat) = 1) = true from decide_eq_true us] at cu
              have NX := hide (show FnI st n.toNat (512 * N + (k + 1).toNat) (0 : Int).toNat from by
                have := HJ.out.used (by omega)
                rwa [show 512 * N + k.toNat + 1 = 512 * N + (k + 1).toNat by omega] at this)
              have dn : ((0 : Int) == n) = false := beq_eq_false_iff_ne.2 (by omega)
              clear HJ us hin h4
              go_wp2_with fail
              refine ⟨⟨0, k + 1, rfl, rfl, by omega, by omega, by omega, by omega, NX⟩, ?_⟩
              simp [intOf]; omega
            · rw [show decide (st (512 * N + k.toNat) = 1) = false from decide_eq_false us] at cu
              by_cases hr : r + 1 = n
              · have F0 := hide (YES.out 0 (NI * 512 + k + 1 - n) (by have := HJ.out.rq; have := HNI.out; omega) (by omega) (by
                  have := HJ.out.hit (by omega) (by omega)
                  rwa [show 512 * N + k.toNat + 1 - n.toNat = (NI * 512 + k + 1 - n).toNat by have := HNI.out; omega] at this))
                rw [show W.drewN 0 = W from rfl] at F0
                have s1 : 0 ≤ NI * 512 + k + 1 - n := by have := HJ.out.rq; have := HNI.out; omega
                have dn : (r + 1 == n) = true := beq_iff_eq.2 hr
                clear HJ us hin h4 hr NO YES HH
                go_wp2_with fail
                exact F0.out
              · have NX := hide (show FnI st n.toNat (512 * N + (k + 1).toNat) (r + 1).toNat from by
                  have := HJ.out.free (by omega) (by omega)
                  rwa [show 512 * N + k.toNat + 1 = 512 * N + (k + 1).toNat by omega, show r.toNat + 1 = (r + 1).toNat by omega] at this)
                have dn : (r + 1 == n) = false := beq_eq_false_iff_ne.2 hr
                have r2 : r + 1 < n := by omega
                clear HJ us hin h4 hr
                go_wp2_with fail
                refine ⟨⟨r + 1, k + 1, rfl, rfl, by omega, by omega, by omega, by omega, NX⟩, ?_⟩
                simp [intOf]; omega
          · obtain rfl : k = 512 := by omega
            have NX := hide (show FnI st n.toNat (qof Q (i + 1).toNat) r.toNat ∧ qof Q (i + 1).toNat = 512 * (NI.toNat + 1) from by
              have e : qof Q (i + 1).toNat = 512 * (N + 1) := by rw [show (i + 1).toNat = iN + 1 by have := HIN2.out; omega]; exact QS.out
              rw [e]
              exact ⟨HJ.out, by have := HNI.out; omega⟩)
            clear HJ hk
            go_wp2_with fail
            refine ⟨⟨r, NI, i + 1, rfl, rfl, rfl, by omega, by omega, by omega, by omega, by omega, by omega, hide NX.out.1, hide (fun _ => NX.out.2)⟩, ?_⟩
            simp [intOf]; omega
      have ip : 0 < i := by omega
      clear iz
      have e0 := HA.out ip
      by_cases nz : NI = la + 1
      · have FN := hide (show FnI st n.toNat (512 * N) r.toNat from by
          have h := HI.out
          rwa [show qof Q i.toNat = 512 * N by rw [e0]; have := HNI.out; omega] at h)
        have dz : (NI == la + 1) = true := beq_iff_eq.2 nz
        clear HI HA G1 G2 e0 nz
        go_wp2_with fail
        go_loop [6, 9] (fun rv kv => ∃ r k : Int, rv = .int .u64 r ∧ kv = .int .u64 k ∧ 0 ≤ k ∧ k ≤ 512 ∧ 0 ≤ r ∧ r < n ∧ Hid (FnI st n.toNat (512 * N + k.toNat) r.toNat)) (fun _ kv => (512 - intOf kv).toNat)
        case atStart => exact ⟨r, 0, rfl, rfl, by omega, by omega, by omega, by omega, FN⟩
        case round =>
          obtain ⟨r, k, rfl, rfl, k0, k1, r0, r1, HJ⟩ := hrel
          clear FN
          by_cases hk : k < 512
          · have cu := CU.out k.toNat (by omega)
            have hin := HIN.out k.toNat (by omega)
            have h4 := H4.out (512 * N + k.toNat)
            rw [Nat.zero_add] at cu
            by_cases us : st (512 * N + k.toNat) = 1
            · rw [show decide (st (512 * N + k.toNat) = 1) = true from decide_eq_true us] at cu
              have NX := hide (show FnI st n.toNat (512 * N + (k + 1).toNat) (0 : Int).toNat from by
                have := HJ.out.used (by omega)
                rwa [show 512 * N + k.toNat + 1 = 512 * N + (k + 1).toNat by omega] at this)
              have dn : ((0 : Int) == n) = false := beq_eq_false_iff_ne.2 (by omega)
              clear HJ us hin h4
              go_wp2_with fail
              refine ⟨⟨0, k + 1, rfl, rfl, by omega, by omega, by omega, by omega, NX⟩, ?_⟩
              simp [intOf]; omega
            · rw [show decide (st (512 * N + k.toNat) = 1) = false from decide_eq_false us] at cu
              by_cases hr : r + 1 = n
              · have F0 := hide (YES.out 0 (NI * 512 + k + 1 - n) (by have := HJ.out.rq; have := HNI.out; omega) (by omega) (by
                  have := HJ.out.hit (by omega) (by omega)
                  rwa [show 512 * N + k.toNat + 1 - n.toNat = (NI * 512 + k + 1 - n).toNat by have := HNI.out; omega] at this))
                rw [show W.drewN 0 = W from rfl] at F0
                have s1 : 0 ≤ NI * 512 + k + 1 - n := by have := HJ.out.rq; have := HNI.out; omega
                have dn : (r + 1 == n) = true := beq_iff_eq.2 hr
                clear HJ us hin h4 hr NO YES HH
                go_wp2_with fail
                exact F0.out
              · have NX := hide (show FnI st n.toNat (512 * N + (k + 1).toNat) (r + 1).toNat from by
                  have := HJ.out.free (by omega) (by omega)
                  rwa [show 512 * N + k.toNat + 1 = 512 * N + (k + 1).toNat by omega, show r.toNat + 1 = (r + 1).toNat by omega] at this)
                have dn : (r + 1 == n) = false := beq_eq_false_iff_ne.2 hr
                have r2 : r + 1 < n := by omega
                clear HJ us hin h4 hr
                go_wp2_with fail
                refine ⟨⟨r + 1, k + 1, rfl, rfl, by omega, by omega, by omega, by omega, NX⟩, ?_⟩
                simp [intOf]; omega
          · obtain rfl : k = 512 := by omega
            have NX := hide (show FnI st n.toNat (qof Q (i + 1).toNat) r.toNat ∧ qof Q (i + 1).toNat = 512 * (NI.toNat + 1) from by
              have e : qof Q (i + 1).toNat = 512 * (N + 1) := by rw [show (i + 1).toNat = iN + 1 by have := HIN2.out; omega]; exact QS.out
              rw [e]
              exact ⟨HJ.out, by have := HNI.out; omega⟩)
            clear HJ hk
            go_wp2_with fail
            refine ⟨⟨r, NI, i + 1, rfl, rfl, rfl, by omega, by omega, by omega, by omega, by omega, by omega, hide NX.out.1, hide (fun _ => NX.out.2)⟩, ?_⟩
            simp [intOf]; omega
      · have FN := hide (show FnI st n.toNat (512 * N) 0 from by
          obtain ⟨r', h1, h2, h3⟩ := HI.out.to G1.out G2.out (.inl (by have h1 := G1.out; have := HNI.out; rw [e0] at h1 ⊢; omega))
          rwa [h2 (by have h1 := G1.out; have := HNI.out; rw [e0] at h1 ⊢; omega)] at h3)
        have dz : (NI == la + 1) = false := beq_eq_false_iff_ne.2 nz
        clear HI HA G1 G2 e0 nz
        go_wp2_with fail
        go_loop [6, 9] (fun rv kv => ∃ r k : Int, rv = .int .u64 r ∧ kv = .int .u64 k ∧ 0 ≤ k ∧ k ≤ 512 ∧ 0 ≤ r ∧ r < n ∧ Hid (FnI st n.toNat (512 * N + k.toNat) r.toNat)) (fun _ kv => (512 - intOf kv).toNat)
        case atStart => exact ⟨0, 0, rfl, rfl, by omega, by omega, by omega, by omega, FN⟩
        case round =>
          obtain ⟨r, k, rfl, rfl, k0, k1, r0, r1, HJ⟩ := hrel
          clear FN
          by_cases hk : k < 512
          · have cu := CU.out k.toNat (by omega)
            have hin := HIN.out k.toNat (by omega)
            have h4 := H4.out (512 * N + k.toNat)
            rw [Nat.zero_add] at cu
            by_cases us : st (512 * N + k.toNat) = 1
            · rw [show decide (st (512 * N + k.toNat) = 1) = true from decide_eq_true us] at cu
              have NX := hide (show FnI st n.toNat (512 * N + (k + 1).toNat) (0 : Int).toNat from by
                have := HJ.out.used (by omega)
                rwa [show 512 * N + k.toNat + 1 = 512 * N + (k + 1).toNat by omega] at this)
              have dn : ((0 : Int) == n) = false := beq_eq_false_iff_ne.2 (by omega)
              clear HJ us hin h4
              go_wp2_with fail
              refine ⟨⟨0, k + 1, rfl, rfl, by omega, by omega, by omega, by omega, NX⟩, ?_⟩
              simp [intOf]; omega
            · rw [show decide (st (512 * N + k.toNat) = 1) = false from decide_eq_false us] at cu
              by_cases hr : r + 1 = n
              · have F0 := hide (YES.out 0 (NI * 512 + k + 1 - n) (by have := HJ.out.rq; have := HNI.out; omega) (by omega) (by
                  have := HJ.out.hit (by omega) (by omega)
                  rwa [show 512 * N + k.toNat + 1 - n.toNat = (NI * 512 + k + 1 - n).toNat by have := HNI.out; omega] at this))
                rw [show W.drewN 0 = W from rfl] at F0
                have s1 : 0 ≤ NI * 512 + k + 1 - n := by have := HJ.out.rq; have := HNI.out; omega
                have dn : (r + 1 == n) = true := beq_iff_eq.2 hr
                clear HJ us hin h4 hr NO YES HH
                go_wp2_with fail
                exact F0.out
              · have NX := hide (show FnI st n.toNat (512 * N + (k + 1).toNat) (r + 1).toNat from by
                  have := HJ.out.free (by omega) (by omega)
                  rwa [show 512 * N + k.toNat + 1 = 512 * N + (k + 1).toNat by omega, show r.toNat + 1 = (r + 1).toNat by omega] at this)
                have dn : (r + 1 == n) = false := beq_eq_false_iff_ne.2 hr
                have r2 : r + 1 < n := by omega
                clear HJ us hin h4 hr
                go_wp2_with fail
                refine ⟨⟨r + 1, k + 1, rfl, rfl, by omega, by omega, by omega, by omega, NX⟩, ?_⟩
                simp [intOf]; omega
          · obtain rfl : k = 512 := by omega
            have NX := hide (show FnI st n.toNat (qof Q (i + 1).toNat) r.toNat ∧ qof Q (i + 1).toNat = 512 * (NI.toNat + 1) from by
              have e : qof Q (i + 1).toNat = 512 * (N + 1) := by rw [show (i + 1).toNat = iN + 1 by have := HIN2.out; omega]; exact QS.out
              rw [e]
              exact ⟨HJ.out, by have := HNI.out; omega⟩)
            clear HJ hk
            go_wp2_with fail
            refine ⟨⟨r, NI, i + 1, rfl, rfl, rfl, by omega, by omega, by omega, by omega, by omega, by omega, hide NX.out.1, hide (fun _ => NX.out.2)⟩, ?_⟩
            simp [intOf]; omega
    · have hi' : (L : Int) ≤ i := by omega
      have F0 := hide (NO.out 0 (.inr fun p => HI.out.end (fun x hx => HH.out.mt.past (by rw [show Q.length = i.toNat by have := HL.out; omega]; exact hx)) p))
      rw [show W.drewN 0 = W from rfl] at F0
      have hd : decide (i < (L : Int)) = false := decide_eq_false hi
      clear hi HI HA NO YES HH
      go_wp2_with fail
      exact F0.out
end
end Go.Proofs.YtnclicdnncgdiaaGreatDoor
