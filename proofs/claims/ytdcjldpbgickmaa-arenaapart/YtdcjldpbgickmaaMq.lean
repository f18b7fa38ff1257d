/- The law's own model: set: contracts. -/
import Derived.Test.YtdcjldpbgickmaaMp
namespace Go.Proofs.Ytdcjldpbgickmaa
open Go.ChangeShapes Go.WideShapes Go.ChangeAt Go.RowKit Go.Shelf Go.Proofs.Rx Go.Maps
set_option linter.unusedVariables false
set_option linter.unusedSimpArgs false

attribute [local go_sem] Oper.semAt_some

/-- All chunks of a row of pages are there. -/
def CsIn (cs : List Nat) (p n : Nat) : Prop := ∀ c, p / 512 ≤ c → c ≤ (p + n - 1) / 512 → c ∈ cs
/-- Behind k pages more. -/
structure MoS (N : Nat) (W0 W : World) (xb : Nat) (v0 v1 v2 : Value) (cs ps : List Nat) (is : List Int) (p k : Nat) (id : Int) (u1 u2 : Value) : Prop where
  mo : Mo N W xb v0 u1 u2 cs (ps ++ List.range' p k) (is ++ List.replicate k id)
  kp : Kept (ownM xb v0 v1 v2) W0 W
  ow : ∀ z, ownM xb v0 u1 u2 z → ownM xb v0 v1 v2 z ∨ W0.heap.size ≤ z
section
variable {N : Nat} {W W' : World} {xb : Nat} {v0 v1 v2 : Value} {cs ps : List Nat} {is : List Int}
theorem MoS.step1 {X : World} {p k : Nat} {id : Int} {u1 u2 : Value} (h : MoS N W X xb v0 v1 v2 cs ps is p k id u1 u2) (hN : N ≤ W.heap.size) (hk : ps.length + k < 100000) (ty : TypeId) :
    ∃ g cap Y, (Builtin.append_ #[27, 27] ty #[u1, .slice (some ⟨X.heap.size, 0, none⟩) 1 1]).run Try.prog (X.alloc (.cells #[.int .u64 ((p + k : Nat) : Int)] 35)) = .ok (.slice (some ⟨g, 0, none⟩) (ps.length + k + 1) cap) Y ∧ Bk Y xb 30 #[v0, u1, u2] ∧
      Mo N (Y.setCell ⟨xb, 1, none⟩ (.slice (some ⟨g, 0, none⟩) (ps.length + k + 1) cap)) xb v0 (.slice (some ⟨g, 0, none⟩) (ps.length + k + 1) cap) u2 cs (ps ++ List.range' p (k + 1)) (is ++ List.replicate k id) ∧ Kept (ownM xb v0 v1 v2) W (Y.setCell ⟨xb, 1, none⟩ (.slice (some ⟨g, 0, none⟩) (ps.length + k + 1) cap)) ∧
      ∀ z, ownM xb v0 (.slice (some ⟨g, 0, none⟩) (ps.length + k + 1) cap) u2 z → ownM xb v0 v1 v2 z ∨ W.heap.size ≤ z := by
  have hl : (ps ++ List.range' p k).length = ps.length + k := by simp
  obtain ⟨g, cap, Y, r1, r2, r3, r4, r5⟩ := h.mo.push1 (Nat.le_trans hN h.kp.size) (by rw [hl]; exact hk) (p + k) ty
  rw [hl] at r1 r3 r4 r5
  refine ⟨g, cap, Y, r1, r2, ?_, ?_, fun z hz => ?_⟩
  · have e : ps ++ List.range' p (k + 1) = ps ++ List.range' p k ++ [p + k] := by rw [List.range'_concat, List.append_assoc, Nat.one_mul]
    rw [e]; exact r3
  · exact h.kp.trans r4 (fun z hz u => by
      rcases h.ow z u with v | v
      · exact v
      · omega)
  · rcases r5 z hz with u | u
    · exact h.ow z u
    · exact .inr (Nat.le_trans h.kp.size u)
theorem MoS.step2 {X : World} {p k : Nat} {id : Int} {u1 u2 : Value} (h : Mo N X xb v0 u1 u2 cs (ps ++ List.range' p (k + 1)) (is ++ List.replicate k id)) (hkp : Kept (ownM xb v0 v1 v2) W X) (how : ∀ z, ownM xb v0 u1 u2 z → ownM xb v0 v1 v2 z ∨ W.heap.size ≤ z) (hN : N ≤ W.heap.size) (hk : is.length + k < 100000) (ty : TypeId) :
    ∃ g cap Y, (Builtin.append_ #[28, 28] ty #[u2, .slice (some ⟨X.heap.size, 0, none⟩) 1 1]).run Try.prog (X.alloc (.cells #[.int .i64 id] 3)) = .ok (.slice (some ⟨g, 0, none⟩) (is.length + k + 1) cap) Y ∧ Bk Y xb 30 #[v0, u1, u2] ∧
      MoS N W (Y.setCell ⟨xb, 2, none⟩ (.slice (some ⟨g, 0, none⟩) (is.length + k + 1) cap)) xb v0 v1 v2 cs ps is p (k + 1) id u1 (.slice (some ⟨g, 0, none⟩) (is.length + k + 1) cap) := by
  have hl : (is ++ List.replicate k id).length = is.length + k := by simp
  obtain ⟨g, cap, Y, r1, r2, r3, r4, r5⟩ := h.push2 (Nat.le_trans hN hkp.size) (by rw [hl]; exact hk) id ty
  rw [hl] at r1 r3 r4 r5
  refine ⟨g, cap, Y, r1, r2, ⟨?_, ?_, fun z hz => ?_⟩⟩
  · have e : is ++ List.replicate (k + 1) id = is ++ List.replicate k id ++ [id] := by rw [List.replicate_succ', List.append_assoc]
    rw [e]; exact r3
  · exact hkp.trans r4 (fun z hz u => by
      rcases how z u with v | v
      · exact v
      · omega)
  · rcases r5 z hz with u | u
    · exact how z u
    · exact .inr (Nat.le_trans hkp.size u)
set_option maxRecDepth 100000 in
set_option maxHeartbeats 1000000 in
theorem mo_set_in (h : Mo N W xb v0 v1 v2 cs ps is) (hN : N ≤ W.heap.size) (hc : cs.length ≤ 1000) (p n : Nat) (id : Int) (hn : 0 < n) (hid : 0 ≤ id) (hp : p < 34359738368) (hpn : p + n ≤ 34359738368) (hl : is.length = ps.length) (hb : CsIn cs p n → ps.length + n ≤ 90000) :
    Calls Try.prog 21 #[.pointer (some ⟨xb, 0, none⟩), .int .u64 (p : Nat), .int .u64 (n : Nat), .int .i64 id] W fun e W' =>
      (CsIn cs p n ∧ e = .returned (.int .i64 0) ∧ ∃ u1 u2, MoS N W W' xb v0 v1 v2 cs ps is p n id u1 u2) ∨ (¬ CsIn cs p n ∧ e = .returned (.int .i64 10) ∧ W' = W) := by
  obtain ⟨R, hR⟩ : ∃ R : Ending → World → Prop, R = fun e W' => (CsIn cs p n ∧ e = .returned (.int .i64 0) ∧ ∃ u1 u2, MoS N W W' xb v0 v1 v2 cs ps is p n id u1 u2) ∨ (¬ CsIn cs p n ∧ e = .returned (.int .i64 10) ∧ W' = W) := ⟨_, rfl⟩
  rw [← hR]
  have HR := hide hR
  have HB := hide hb
  have d0 : ((n : Int) == 0) = false := beq_eq_false_iff_ne.2 (by omega)
  have d1 : decide (id < 0) = false := decide_eq_false (by omega)
  have d2 : decide ((34359738368 : Int) ≤ (p : Int)) = false := decide_eq_false (by omega)
  have d3 : decide ((34359738368 : Int) - (p : Int) < (n : Int)) = false := decide_eq_false (by omega)
  obtain ⟨P, hP⟩ : ∃ P : Int, (p : Int) = P := ⟨_, rfl⟩
  obtain ⟨M, hM⟩ : ∃ M : Int, (n : Int) = M := ⟨_, rfl⟩
  rw [hP] at d2 d3 ⊢
  rw [hM] at d0 d3 ⊢
  have u1 : 0 ≤ P := by omega
  have u2 : P < 34359738368 := by omega
  have u3 : 0 ≤ M := by omega
  have u4 : P + M ≤ 34359738368 := by omega
  have u5 : 0 < M := by omega
  have CH := fun (c : Nat) => hide (mo_has h hc c)
  have H := hide h
  have HPM := hide (And.intro (And.intro hP hM) (And.intro hn (And.intro hpn hl)))
  clear h hb hR hP hM hn hp hpn hid hl
  go_enter Try.func21, Try.ntmps21
  go_wp2_with fail
  go_loopw [9] (fun vi X => X = W ∧ ∃ c : Nat, vi = .int .u64 (c : Nat) ∧ p / 512 ≤ c ∧ c ≤ (p + n - 1) / 512 + 1 ∧ Hid (∀ c', p / 512 ≤ c' → c' < c → c' ∈ cs)) (fun vi _ => (p + n - 1) / 512 + 1 - (zi vi).toNat)
  case atStart =>
    obtain ⟨⟨hP, hM⟩, hn, hpn, hl⟩ := HPM.out
    refine ⟨rfl, p / 512, ?_, Nat.le_refl _, by omega, hide (fun c' h1 h2 => by omega)⟩
    rw [← hP]; rfl
  case round =>
    obtain ⟨hX, c, rfl, c0, c1, HN⟩ := hrel
    rw [hX]
    clear hX
    by_cases e : c ≤ (p + n - 1) / 512
    · have hpm := HPM.out
      have d : decide ((c : Int) ≤ (P + M - 1) / 512) = true := decide_eq_true (by omega)
      have c9 : (c : Int) < 67108864 := by omega
      have K1 := CH c
      by_cases q : c ∈ cs
      · have F := hide (show ∀ c', p / 512 ≤ c' → c' < c + 1 → c' ∈ cs from fun c' h1 h2 => by
          by_cases z : c' = c
          · rw [z]; exact q
          · exact HN.out c' h1 (by omega))
        rw [decide_eq_true q] at K1
        have pw : IntKind.u64.wrap ((c : Int) + 1) = (c : Int) + 1 := by rw [IntKind.wrap_u64]; omega
        clear q HN hpm CH
        go_wp2_with fail
        refine K1.out.mono ?_
        rintro r X ⟨rfl, hX⟩
        rw [hX]
        clear hX X K1
        go_wp2_with fail
        exact ⟨⟨trivial, c + 1, by push_cast; rfl, by omega, by omega, F⟩, by simp [zi]; omega⟩
      · have F := hide (show R (.returned (.int .i64 10)) W from by
          rw [HR.out]
          exact .inr ⟨fun z => q (z c c0 e), rfl, rfl⟩)
        rw [decide_eq_false q] at K1
        clear q HN hpm CH
        go_wp2_with fail
        refine K1.out.mono ?_
        rintro r X ⟨rfl, hX⟩
        rw [hX]
        clear hX X K1
        go_wp2_with fail
        first | exact F.out | (go_ret; exact F.out)
    · have hpm := HPM.out
      have d : decide ((c : Int) ≤ (P + M - 1) / 512) = false := decide_eq_false (by omega)
      have AL := hide (show CsIn cs p n from fun c' h1 h2 => HN.out c' h1 (by omega))
      have hbn := HB.out AL.out
      have c9 : (c : Int) ≤ 67108864 := by omega
      have S0 := hide (show MoS N W W xb v0 v1 v2 cs ps is p 0 id v1 v2 from ⟨by simpa using H.out, Kept.refl _ _, fun z hz => .inl hz⟩)
      clear HN CH hpm
      go_wp2_with fail
      go_loopw [10] (fun vi X => ∃ (k : Nat) (w1 w2 : Value), vi = .int .u64 (P + (k : Int)) ∧ k ≤ n ∧ Hid (MoS N W X xb v0 v1 v2 cs ps is p k id w1 w2)) (fun vi _ => (P + M - zi vi).toNat)
      case atStart => exact ⟨0, v1, v2, by simp, by omega, S0⟩
      case round =>
        clear S0
        obtain ⟨k, w1, w2, rfl, hk, HS⟩ := hrel
        have hpm := HPM.out
        by_cases e2 : k < n
        · have dk : decide ((k : Int) < M) = true := decide_eq_true (by omega)
          obtain ⟨g, cap, Y, r1, r2, r3, r4, r5⟩ := HS.out.step1 hN (by omega) 27
          obtain ⟨Z, hZ⟩ : ∃ Z, Y.setCell ⟨xb, 1, none⟩ (.slice (some ⟨g, 0, none⟩) (ps.length + k + 1) cap) = Z := ⟨_, rfl⟩
          rw [hZ] at r3 r4
          obtain ⟨g', cap', Y', t1, t2, t3⟩ := MoS.step2 r3 r4 r5 hN (by omega) 28
          rw [show ((p + k : Nat) : Int) = P + (k : Int) by omega] at r1
          have RUN := hide r1
          have RUN2 := hide t1
          have S1 := hide t3
          have y1 := HS.out.mo.bk.cell 1 w1 rfl
          have l1 := HS.out.mo.bk.lt
          have y2 := r2.cell 1 w1 rfl
          have f2 := r2.fz 1
          have y3 := r3.bk.cell 2 w2 rfl
          have l3 := r3.bk.lt
          have y4 := t2.cell 2 w2 rfl
          have f4 := t2.fz 2
          have k0 : (0 : Int) ≤ (k : Int) := by omega
          have k1 : (k : Int) ≤ 100000 := by omega
          clear r1 r2 r3 r4 r5 t1 t2 t3 hpm HS
          go_wp2_with (at_builtin; first | refine list_append_run (by rfl) (.tmp 52) (.tmp 54) 27 (by rfl) (by rfl) (by rfl) RUN.out ?_ | refine list_append_run (by rfl) (.tmp 62) (.tmp 64) 28 (by rfl) (by rfl) (by rfl) RUN2.out ?_)
          have k2 := of_decide_eq_true dk
          exact ⟨⟨k + 1, _, _, by rw [show P + ((k + 1 : Nat) : Int) = P + (k : Int) + 1 by omega], by omega, S1⟩, by simp [zi]; omega⟩
        · have dk : decide ((k : Int) < M) = false := decide_eq_false (by omega)
          have F := hide (show R (.returned (.int .i64 0)) wr from by
            rw [HR.out]
            have : k = n := by omega
            rw [this] at HS
            exact .inl ⟨AL.out, rfl, w1, w2, HS.out⟩)
          clear hpm HS
          go_wp2_with fail
          first | exact F.out | (go_ret; exact F.out)
set_option maxRecDepth 100000 in
theorem mo_set_arg (p n : Nat) (id : Int) (h : n = 0 ∨ id < 0) :
    Calls Try.prog 21 #[.pointer (some ⟨xb, 0, none⟩), .int .u64 (p : Nat), .int .u64 (n : Nat), .int .i64 id] W fun e W' => e = .returned (.int .i64 1) ∧ W' = W := by
  obtain ⟨P, hP⟩ : ∃ P : Int, (p : Int) = P := ⟨_, rfl⟩
  obtain ⟨M, hM⟩ : ∃ M : Int, (n : Int) = M := ⟨_, rfl⟩
  have alt : ((M == 0) = true) ∨ ((M == 0) = false ∧ decide (id < 0) = true) := by
    by_cases z : M = 0
    · exact .inl (beq_iff_eq.2 z)
    · exact .inr ⟨beq_eq_false_iff_ne.2 z, decide_eq_true (by omega)⟩
  rw [hP, hM]
  clear hP hM h
  rcases alt with d | ⟨d, d2⟩
  all_goals
    go_enter Try.func21, Try.ntmps21
    go_wp2_with fail
    go_ret
    exact ⟨rfl, rfl⟩
set_option maxRecDepth 100000 in
theorem mo_set_out (p n : Nat) (id : Int) (h0 : 0 < n) (h1 : 0 ≤ id) (h : ¬ (p < 34359738368 ∧ p + n ≤ 34359738368)) :
    Calls Try.prog 21 #[.pointer (some ⟨xb, 0, none⟩), .int .u64 (p : Nat), .int .u64 (n : Nat), .int .i64 id] W fun e W' => e = .returned (.int .i64 10) ∧ W' = W := by
  have d0 : ((n : Int) == 0) = false := beq_eq_false_iff_ne.2 (by omega)
  have d1 : decide (id < 0) = false := decide_eq_false (by omega)
  have alt : decide ((34359738368 : Int) ≤ (p : Int)) = true ∨ (decide ((34359738368 : Int) ≤ (p : Int)) = false ∧ (p : Int) < 34359738368 ∧ decide ((34359738368 : Int) - (p : Int) < (n : Int)) = true) := by
    by_cases z : (34359738368 : Int) ≤ (p : Int)
    · exact .inl (decide_eq_true z)
    · exact .inr ⟨decide_eq_false z, by omega, decide_eq_true (by omega)⟩
  have u1 : 0 ≤ (p : Int) := by omega
  generalize (p : Int) = P at *
  generalize (n : Int) = M at *
  clear h h0 h1
  rcases alt with d2 | ⟨d2, u2, d3⟩
  all_goals
    go_enter Try.func21, Try.ntmps21
    go_wp2_with fail
    go_ret
    exact ⟨rfl, rfl⟩
end
end Go.Proofs.Ytdcjldpbgickmaa
