/- ArenaEverywhere: all of it. -/
import Derived.Test.YtdcjldpbgickmaaEva
import Derived.Test.YtdcjldpbgickmaaEvb
import Derived.Test.YtdcjldpbgickmaaEvc
namespace Go.Proofs.Ytdcjldpbgickmaa
open Go.ChangeShapes Go.WideShapes Go.ChangeAt Go.RowKit Go.Shelf Go.Proofs.Rx Go.Maps
set_option linter.unusedVariables false
set_option linter.unusedSimpArgs false

set_option maxRecDepth 100000 in
set_option maxHeartbeats 4000000 in
theorem every_in (c p n a : Nat) (id : Int) (hid : 1 ≤ id) (hn : 1 ≤ n) (hn2 : n ≤ 512) (hp : p + n ≤ 512) (hc : c < 67108864) (ha : a < 18446744073709551616) (W : World) :
    Calls Try.prog 5 #[.int .u64 (c : Nat), .int .u64 (p : Nat), .int .u64 (n : Nat), .int .u64 (a : Nat), .int .i64 id] W fun e W' => e = .returned (.bool true) ∧ Below W.heap.size W W' := by
  obtain ⟨R, hR⟩ : ∃ R : Ending → World → Prop, R = fun e W' => e = .returned (.bool true) ∧ Below W.heap.size W W' := ⟨_, rfl⟩
  rw [← hR]
  have HR := hide hR
  have CN := hide (am_new (N := W.heap.size) (O := fun _ => False) (w := W) (Below.refl _ W) (Nat.le_refl _) (fun _ f => f.elim))
  -- what each call answers
  have n0 : setE (fun _ => false) (512 * c) 1 id = 10 := setE_no (by omega) (by omega) (fun z => by have := z.2.2 (512 * c) (by omega) (by omega); cases this)
  have v0 : setV (fun _ => false) (fun _ => 0) (512 * c) 1 id = fun _ => 0 := setV_no (fun z => by have := z.2.2 (512 * c) (by omega) (by omega); cases this)
  have n1 : addE (fun _ => false) c = 0 := by unfold addE; rw [if_neg (by omega), if_neg (by simp)]
  obtain ⟨C1, hC1⟩ : ∃ C1, addC (fun _ => false) c = C1 := ⟨_, rfl⟩
  have al : AllIn C1 (512 * c + p) n := ⟨by omega, by omega, fun q h1 h2 => by rw [← hC1]; unfold addC; rw [if_pos (by omega)]⟩
  obtain ⟨V1, hV1⟩ : ∃ V1, putI (fun _ => 0) (512 * c + p) (512 * c + p + n) id = V1 := ⟨_, rfl⟩
  have n2 : setE C1 (512 * c + p) n id = 0 := setE_ok (by omega) (by omega) al
  have v2 : setV C1 (fun _ => 0) (512 * c + p) n id = V1 := by rw [setV_ok (by omega) (by omega) al, hV1]
  have n3 : setE C1 (512 * c + p) n 0 = 0 := setE_ok (by omega) (by omega) al
  obtain ⟨V2, hV2⟩ : ∃ V2, setV C1 V1 (512 * c + p) n 0 = V2 := ⟨_, rfl⟩
  have inV : ∀ q, 512 * c + p ≤ q → q < 512 * c + p + n → V1 q = id := fun q h1 h2 => by rw [← hV1]; unfold putI; rw [if_pos ⟨h1, h2⟩]
  have ouV : ∀ q, q < 512 * c + p ∨ 512 * c + p + n ≤ q → V1 q = 0 := fun q h => by rw [← hV1]; unfold putI; rw [if_neg (by omega)]
  have t1 : V1 ((512 * c + p) * 8192 / 8192) = id := inV _ (by omega) (by omega)
  have t2 : V1 (((512 * c + p) * 8192 + n * 8192 - 1) / 8192) = id := inV _ (by omega) (by omega)
  have t3 : 0 < p → V1 (((512 * c + p) * 8192 - 1) / 8192) = 0 := fun z => ouV _ (by omega)
  have t4 : V1 (281474976710656 / 8192) = 0 := ouV _ (by omega)
  have t5 : V1 (18446744073709551615 / 8192) = 0 := ouV _ (by omega)
  have t6 : V2 ((512 * c + p) * 8192 / 8192) = 0 := by rw [← hV2, setV_ok (by omega) (by omega) al]; unfold putI; rw [if_pos (by omega)]
  have t7 : C1 (a / 4194304) = ((a : Int) / 4194304 == (c : Int)) := by
    rw [← hC1]
    unfold addC
    by_cases z : a / 4194304 = c
    · rw [if_pos ⟨hc, z⟩]
      have : (a : Int) / 4194304 = (c : Int) := by omega
      simp [this]
    · rw [if_neg (by omega)]
      have : ¬ (a : Int) / 4194304 = (c : Int) := by omega
      simp [this]
  have t8 : ((512 * c + p) * 8192 ≤ a ∧ a - (512 * c + p) * 8192 < n * 8192 ∧ V1 (a / 8192) = id) ∨ ((512 * c + p) * 8192 ≤ a ∧ ¬ a - (512 * c + p) * 8192 < n * 8192 ∧ V1 (a / 8192) = 0) ∨ (¬ (512 * c + p) * 8192 ≤ a ∧ V1 (a / 8192) = 0) := by
    by_cases z : (512 * c + p) * 8192 ≤ a
    · by_cases y : a - (512 * c + p) * 8192 < n * 8192
      · exact .inl ⟨z, y, inV _ (by omega) (by omega)⟩
      · exact .inr (.inl ⟨z, y, ouV _ (by omega)⟩)
    · exact .inr (.inr ⟨z, ouV _ (by omega)⟩)
  clear inV ouV al
  -- the road
  have d0 : decide (id < 1) = false := decide_eq_false (by omega)
  have d1 : decide ((n : Int) < 1) = false := decide_eq_false (by omega)
  have d2 : decide ((512 : Int) < (n : Int)) = false := decide_eq_false (by omega)
  have d3 : decide ((512 : Int) - (n : Int) < (p : Int)) = false := decide_eq_false (by omega)
  have d4 : decide ((67108864 : Int) ≤ (c : Int)) = false := decide_eq_false (by omega)
  obtain ⟨CI, hCI⟩ : ∃ x : Int, (c : Int) = x := ⟨_, rfl⟩
  obtain ⟨PI, hPI⟩ : ∃ x : Int, (p : Int) = x := ⟨_, rfl⟩
  obtain ⟨NI, hNI⟩ : ∃ x : Int, (n : Int) = x := ⟨_, rfl⟩
  obtain ⟨AI, hAI⟩ : ∃ x : Int, (a : Int) = x := ⟨_, rfl⟩
  have S0 := fun (X : World) (mb : Nat) (h : Am W.heap.size (fun _ => False) W X mb (fun _ => false) (fun _ => 0)) => hide (am_setI h (512 * CI) 1 id (by omega) (by omega))
  have S1 := fun (X : World) (mb : Nat) (h : Am W.heap.size (fun _ => False) W X mb (fun _ => false) (fun _ => 0)) => hide (am_addI h CI (by omega))
  have S2 := fun (X : World) (mb : Nat) (h : Am W.heap.size (fun _ => False) W X mb C1 (fun _ => 0)) => hide (am_setI h (512 * CI + PI) NI id (by omega) (by omega))
  have S3 := fun (X : World) (mb : Nat) (h : Am W.heap.size (fun _ => False) W X mb C1 V1) => hide (am_setI h (512 * CI + PI) NI 0 (by omega) (by omega))
  have A0 := fun (X : World) (mb : Nat) (h : Am W.heap.size (fun _ => False) W X mb C1 V1) => hide (am_atI h AI (by omega) (by omega))
  have A1 := fun (X : World) (mb : Nat) (h : Am W.heap.size (fun _ => False) W X mb C1 V1) => hide (am_atI h ((512 * CI + PI) * 8192) (by omega) (by omega))
  have A2 := fun (X : World) (mb : Nat) (h : Am W.heap.size (fun _ => False) W X mb C1 V1) => hide (am_atI h ((512 * CI + PI) * 8192 + NI * 8192 - 1) (by omega) (by omega))
  have A3 := fun (hz : 0 < p) (X : World) (mb : Nat) (h : Am W.heap.size (fun _ => False) W X mb C1 V1) => hide (am_atI h ((512 * CI + PI) * 8192 - 1) (by omega) (by omega))
  have A4 := fun (X : World) (mb : Nat) (h : Am W.heap.size (fun _ => False) W X mb C1 V1) => hide (am_atI h 281474976710656 (by omega) (by omega))
  have A5 := fun (X : World) (mb : Nat) (h : Am W.heap.size (fun _ => False) W X mb C1 V1) => hide (am_atI h 18446744073709551615 (by omega) (by omega))
  have A6 := fun (X : World) (mb : Nat) (h : Am W.heap.size (fun _ => False) W X mb C1 V2) => hide (am_atI h ((512 * CI + PI) * 8192) (by omega) (by omega))
  have B0 := fun (X : World) (mb : Nat) (h : Am W.heap.size (fun _ => False) W X mb C1 V1) => hide (am_hasI h AI (by omega) (by omega))
  have k1 : (512 * CI).toNat = 512 * c := by omega
  have k2 : (512 * CI + PI).toNat = 512 * c + p := by omega
  have k3 : ((512 * CI + PI) * 8192).toNat = (512 * c + p) * 8192 := by omega
  have k4 : ((512 * CI + PI) * 8192 + NI * 8192 - 1).toNat = (512 * c + p) * 8192 + n * 8192 - 1 := by omega
  have k5 : ((512 * CI + PI) * 8192 - 1).toNat = (512 * c + p) * 8192 - 1 := by omega
  have k6 : CI.toNat = c := by omega
  have k7 : NI.toNat = n := by omega
  have k8 : AI.toNat = a := by omega
  have k9 : (1 : Int).toNat = 1 := rfl
  have ka : (281474976710656 : Int).toNat = 281474976710656 := rfl
  have kb : (18446744073709551615 : Int).toNat = 18446744073709551615 := rfl
  rw [hCI, hAI] at t7
  have t9 : (decide ((512 * CI + PI) * 8192 ≤ AI) = true ∧ decide (AI - (512 * CI + PI) * 8192 < NI * 8192) = true ∧ V1 (a / 8192) = id) ∨ (decide ((512 * CI + PI) * 8192 ≤ AI) = true ∧ decide (AI - (512 * CI + PI) * 8192 < NI * 8192) = false ∧ V1 (a / 8192) = 0) ∨ (decide ((512 * CI + PI) * 8192 ≤ AI) = false ∧ V1 (a / 8192) = 0) := by
    simp only [decide_eq_true_eq, decide_eq_false_iff_not]
    rcases t8 with ⟨z, y, x⟩ | ⟨z, y, x⟩ | ⟨z, x⟩
    · exact .inl ⟨by omega, by omega, x⟩
    · exact .inr (.inl ⟨by omega, by omega, x⟩)
    · exact .inr (.inr ⟨by omega, x⟩)
  have u1 : 0 ≤ CI := by omega
  have u2 : CI < 67108864 := by omega
  have u3 : 0 ≤ PI := by omega
  have u4 : PI + NI ≤ 512 := by omega
  have u5 : 1 ≤ NI := by omega
  have u6 : 0 ≤ AI := by omega
  have u7 : AI < 18446744073709551616 := by omega
  have p9 : (decide (0 < PI) = true ∧ 0 < p) ∨ decide (0 < PI) = false := by
    by_cases z : 0 < p
    · exact .inl ⟨decide_eq_true (by omega), z⟩
    · exact .inr (decide_eq_false (by omega))
  simp only [k1, k2, k3, k4, k5, k6, k7, k8, k9, ka, kb, n0, v0, n1, hC1, n2, v2, n3, hV2, t1, t2, t4, t5, t6, t7] at S0 S1 S2 S3 A0 A1 A2 A3 A4 A5 A6 B0
  rw [hCI, hPI, hNI, hAI]
  rw [hNI] at d1 d2 d3
  rw [hPI] at d3
  rw [hCI] at d4
  clear k1 k2 k3 k4 k5 k6 k7 k8 k9 ka kb n0 v0 n1 hC1 n2 v2 n3 hV1 hV2 t1 t2 t4 t5 t6 t7 t8 hCI hPI hNI hAI hid hn hn2 hp hc ha hR
  have A3' : decide (0 < PI) = true → ∀ (X : World) (mb : Nat), Am W.heap.size (fun _ => False) W X mb C1 V1 → Hid (Calls Try.prog 11 #[.pointer (some ⟨mb, 0, none⟩), .int .u64 ((512 * CI + PI) * 8192 - 1)] X fun e W' => e = .returned (.int .i64 0) ∧ Below X.heap.size X W') := fun z X mb h => by
    rcases p9 with ⟨_, y⟩ | y
    · have := A3 y X mb h
      rw [t3 y] at this
      exact this
    · rw [y] at z; cases z
  have p8 : decide (0 < PI) = true ∨ decide (0 < PI) = false := by rcases p9 with y | y; exact .inl y.1; exact .inr y
  have key : ∀ want, V1 (a / 8192) = want → EvC W R C1 V1 V2 CI PI NI AI id want := fun want hw =>
    ⟨HR.out, S0, S1, S2, S3, by rw [← hw]; exact A0, A1, A2, A3', A4, A5, A6, B0, d0, d1, d2, d3, d4, u1, u2, u3, u4, u5, u6, u7⟩
  rcases t9 with ⟨e1, e2, e3⟩ | ⟨e1, e2, e3⟩ | ⟨e1, e3⟩ <;> rcases p8 with f1 | f1
  · exact ev_a1 (key _ e3) e1 e2 f1
  · exact ev_a2 (key _ e3) e1 e2 f1
  · exact ev_b1 (key _ e3) e1 e2 f1
  · exact ev_b2 (key _ e3) e1 e2 f1
  · exact ev_c1 (key _ e3) e1 f1
  · exact ev_c2 (key _ e3) e1 f1
theorem every_any (c p n a : Nat) (id : Int) (hc : c < 18446744073709551616) (hp : p < 18446744073709551616) (hn : n < 18446744073709551616) (ha : a < 18446744073709551616) (W : World) :
    Calls Try.prog 5 #[.int .u64 (c : Nat), .int .u64 (p : Nat), .int .u64 (n : Nat), .int .u64 (a : Nat), .int .i64 id] W fun e W' => e = .returned (.bool true) ∧ Below W.heap.size W W' := by
  by_cases h : 1 ≤ id ∧ 1 ≤ n ∧ n ≤ 512 ∧ p + n ≤ 512 ∧ c < 67108864
  · exact every_in c p n a id h.1 h.2.1 h.2.2.1 h.2.2.2.1 h.2.2.2.2 ha W
  · refine every_out c p n a id (by omega) W ?_
    simp only [decide_eq_true_eq, decide_eq_false_iff_not]
    omega
theorem nat_of_wf {a : Int} (h : (Lit.int .u64 a).wf = true) : ∃ n : Nat, a = n ∧ n < 18446744073709551616 := by
  have := bounds_u64 h
  exact ⟨a.toNat, by omega, by omega⟩
theorem every_int (w : World) (a0 a1 a2 a3 a4 : Int) (w0 : (Lit.int .u64 a0).wf = true) (w1 : (Lit.int .u64 a1).wf = true) (w2 : (Lit.int .u64 a2).wf = true) (w3 : (Lit.int .u64 a3).wf = true) :
    Calls Try.prog 5 #[.int .u64 a0, .int .u64 a1, .int .u64 a2, .int .u64 a3, .int .i64 a4] w fun e w' => e = .returned (.bool true) ∧ Below w.heap.size w w' := by
  obtain ⟨c, rfl, hc⟩ := nat_of_wf w0
  obtain ⟨p, rfl, hp⟩ := nat_of_wf w1
  obtain ⟨n, rfl, hn⟩ := nat_of_wf w2
  obtain ⟨a, rfl, ha⟩ := nat_of_wf w3
  exact every_any c p n a a4 hc hp hn ha w
end Go.Proofs.Ytdcjldpbgickmaa
