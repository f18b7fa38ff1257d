/- Package arena: the parts of a row of pages, one by one: the iterator's contract. -/
import Derived.Test.YtdcjldpbgickmaaOw
namespace Go.Proofs.Ytdcjldpbgickmaa
open Go.ChangeShapes Go.WideShapes Go.ChangeAt Go.RowKit Go.Shelf Go.Proofs.Rx Go.Maps
set_option linter.unusedVariables false
set_option linter.unusedSimpArgs false

attribute [local go_sem] Oper.semAt_some

theorem range_pre {j N : Nat} (h : j < N) : List.range j ++ [j] <+: List.range N := by
  rw [← List.range_succ]; exact ⟨(List.range (N - (j + 1))).map (j + 1 + ·), by rw [← List.range_add]; congr 1; omega⟩
theorem pre_range {pre : List Nat} {x N : Nat} (h : pre ++ [x] <+: List.range N) : pre = List.range pre.length ∧ x = pre.length ∧ pre.length < N := by
  have hl := h.length_le
  simp at hl
  have h1 : pre ++ [x] = (List.range N).take (pre.length + 1) := by
    have := List.prefix_iff_eq_take.1 h
    simpa using this
  rw [List.take_range, Nat.min_eq_left (by omega), List.range_succ] at h1
  have h2 := List.append_inj h1 (by simp)
  refine ⟨h2.1, ?_, by omega⟩
  simpa using h2.2
/-- Where a part ends that begins at a. -/
def nxt (E a : Nat) : Nat := a + min (512 - a % 512) (E - a)
/-- Where part j begins. -/
def stp (p E : Nat) : Nat → Nat
  | 0 => p
  | j + 1 => nxt E (stp p E j)
theorem nxt_le {E a : Nat} (h : a ≤ E) : nxt E a ≤ E := by unfold nxt; omega
theorem nxt_gt {E a : Nat} (h : a < E) : a < nxt E a := by unfold nxt; omega
theorem stp_le {p E : Nat} (h : p ≤ E) : ∀ j, stp p E j ≤ E
  | 0 => h
  | j + 1 => nxt_le (stp_le h j)
theorem stp_ge {p E : Nat} : ∀ j, p ≤ stp p E j
  | 0 => Nat.le_refl _
  | j + 1 => Nat.le_trans (stp_ge j) (Nat.le_add_right _ _)
theorem stp_end {p E : Nat} (h : p ≤ E) : ∃ m, stp p E m = E ∧ ∀ j, j < m → stp p E j < E := by
  have key : ∀ d j, E - stp p E j ≤ d → (∀ i, i < j → stp p E i < E) → ∃ m, stp p E m = E ∧ ∀ i, i < m → stp p E i < E := by
    intro d
    induction d with
    | zero => exact fun j hd hi => ⟨j, by have := stp_le h j; omega, hi⟩
    | succ d ih =>
      intro j hd hi
      by_cases c : stp p E j < E
      · refine ih (j + 1) ?_ (fun i hij => ?_)
        · have := nxt_gt c
          have : stp p E (j + 1) = nxt E (stp p E j) := rfl
          omega
        · by_cases z : i = j
          · rw [z]; exact c
          · exact hi i (by omega)
      · exact ⟨j, by have := stp_le h j; omega, hi⟩
  exact key _ 0 (Nat.le_refl _) (fun i hi => by omega)
theorem nxt_in {E a : Nat} (h : a < E) {q : Nat} (h1 : a ≤ q) (h2 : q < nxt E a) : q / 512 = a / 512 := by unfold nxt at h2; omega
def encsP (E a : Nat) : Array Value := #[.int .u64 ((a / 512 : Nat) : Int), .agg #[.int .u64 ((a % 512 : Nat) : Int), .int .u64 ((a % 512 + (nxt E a - a) : Nat) : Int)]]
/-- What the iterator reads. -/
structure RdP (B0 B1 p n : Nat) (w : World) : Prop where
  c0 : Boxed w B0 35 (.int .u64 (p : Nat))
  c1 : Boxed w B1 35 (.int .u64 (n : Nat))
theorem parts_any (p n : Nat) (w : World) :
    Calls Try.prog 25 #[.int .u64 (p : Nat), .int .u64 (n : Nat)] w fun e w' => e = .returned (.func (.func 31) #[] #[.pointer (some ⟨w.heap.size, 0, none⟩), .pointer (some ⟨w.heap.size + 1, 0, none⟩)]) ∧ w' = (w.alloc (.cells #[.int .u64 (p : Nat)] 35)).alloc (.cells #[.int .u64 (n : Nat)] 35) := by
  go_enter Try.func25, Try.ntmps25
  go_wp2_with fail
  go_ret
  exact ⟨rfl, rfl⟩
set_option maxRecDepth 100000 in
set_option maxHeartbeats 1000000 in
theorem parts_seq (B0 B1 p n m : Nat) (hE : p + n < 9223372036854775808) (hm : stp p (p + n) m = p + n) (hlt : ∀ j, j < m → stp p (p + n) j < p + n) (k : Nat) :
    SeqB k Try.prog 31 #[.pointer (some ⟨B0, 0, none⟩), .pointer (some ⟨B1, 0, none⟩)] (fun j => encsP (p + n) (stp p (p + n) j)) (RdP B0 B1 p n) (List.range m) := by
  intro l J Jx W hR hJ hY h0
  have r0 := hR _ _ h0
  have c0 := r0.c0.cell
  have c1 := r0.c1.cell
  have HJ := hide hJ
  have HY := hide hY
  have H0 := hide h0
  have HM := hide hm
  have HL := hide hlt
  clear hR hJ hY h0 hm hlt r0
  refine callsIn_of_wp Try.func31 rfl trivial ?_ rfl
  simp only [Try.ntmps31, List.size_toArray, List.length_cons, List.length_nil, Nat.reduceAdd, Nat.reduceSub, Array.replicate_succ, Array.replicate_zero, List.push_toArray, List.append_toArray, List.nil_append, List.cons_append]
  have hx := @ext_cell W
  have hne := ext_ne W
  have l0 : B0 < W.heap.size := World.block_lt_of_cell? W ⟨B0, 0, none⟩ c0
  have l1 : B1 < W.heap.size := World.block_lt_of_cell? W ⟨B1, 0, none⟩ c1
  have e1 : (p : Int) + (n : Int) < 9223372036854775808 := by omega
  obtain ⟨E, hEE⟩ : ∃ E : Nat, p + n = E := ⟨_, rfl⟩
  rw [hEE] at HY HM HL hE
  gi_wp2_with fail
  refine all_w (by kernel_rfl) (by kernel_rfl) ?_
  repeat (refine wpQuiet_step (fun K hK => ?_); go_simp; refine hK _ ?_; clear hK K)
  refine wpQuiet_nil ?_
  rintro _ ⟨w1, rfl⟩
  have J1 := hide (HJ.out _ _ _ H0.out w1.h)
  obtain ⟨W1, hW1⟩ : ∃ W1, w1.v = W1 := ⟨_, rfl⟩
  rw [hW1] at J1 ⊢
  rw [show (p : Int) + (n : Int) = (E : Int) by omega]
  try rw [show IntKind.u64.wrap (E : Int) = (E : Int) by rw [IntKind.wrap_u64]; omega]
  clear hx hne c0 c1 l0 l1 hW1 w1 H0
  gi_wp2_with fail
  gi_loopw [4] (fun xv wr => ∃ (a j : Nat), xv = .int .u64 (a : Nat) ∧ j ≤ m ∧ Hid (a = stp p E j) ∧ Hid (J (List.range j) wr)) (fun xv _ => E - (zi xv).toNat)
  case atStart => exact ⟨p, 0, rfl, by omega, hide rfl, J1⟩
  case round =>
    obtain ⟨a, j, rfl, hj, HE, HJJ⟩ := hrel
    by_cases hlt : j < m
    · have x0 := HL.out j hlt
      rw [← HE.out] at x0
      have d0 : decide ((a : Int) < (E : Int)) = true := decide_eq_true (by omega)
      obtain ⟨fn, tmps, assign, body, hy, hRr⟩ := HY.out (List.range j) j _ (range_pre hlt) HJJ.out
      simp only [encsP] at hy
      rw [← HE.out] at hy
      have HRR := hide hRr
      obtain ⟨b, hb⟩ : ∃ b : Nat, nxt E a = b := ⟨_, rfl⟩
      have g1 : a < b := by rw [← hb]; exact nxt_gt x0
      have g2 : b ≤ E := by rw [← hb]; exact nxt_le (by omega)
      have HS := hide (show b = stp p E (j + 1) from by show b = nxt E (stp p E j); rw [← HE.out, hb])
      rw [hb, show ((a / 512 : Nat) : Int) = (a : Int) / 512 by omega, show ((a % 512 : Nat) : Int) = (a : Int) % 512 by omega, show ((a % 512 + (b - a) : Nat) : Int) = (a : Int) % 512 + ((b : Int) - (a : Int)) by omega] at hy
      obtain ⟨f, hf⟩ : ∃ f : Nat, a % 512 = f := ⟨_, rfl⟩
      have f1 : (f : Int) < 512 := by omega
      have m0 : b = a + min (512 - f) (E - a) := by rw [← hb, ← hf]; rfl
      have hf' : (a : Int) % 512 = (f : Int) := by omega
      rw [hf'] at hy
      have HB := hide (And.intro g1 g2)
      obtain ⟨A, hA⟩ : ∃ A : Int, (a : Int) = A := ⟨_, rfl⟩
      obtain ⟨B, hB⟩ : ∃ B : Int, (b : Int) = B := ⟨_, rfl⟩
      obtain ⟨F, hF⟩ : ∃ F : Int, (f : Int) = F := ⟨_, rfl⟩
      obtain ⟨X, hX⟩ : ∃ X : Int, (E : Int) = X := ⟨_, rfl⟩
      rw [hA] at hf' hy d0
      rw [hA]
      rw [hB] at hy
      rw [hF] at hy f1 hf'
      rw [hX] at d0
      rw [hX]
      have q1 : 0 ≤ A := by omega
      have q2 : A < X := by omega
      have q3 : X < 9223372036854775808 := by omega
      have q4 : 0 ≤ F := by omega
      have q5 : A < B := by omega
      have q6 : B ≤ X := by omega
      by_cases c : 512 - f ≤ E - a
      · have m1 : B - A = 512 - F := by omega
        have d1 : (512 : Int) - F ≤ X - A := by omega
        rw [m1] at hy
        have MM := hide (show A + (512 - F) = B from by omega)
        have BB := hide (And.intro hA (And.intro hB hX))
        clear hb m0 hf hA hB hF hX x0 g1 g2 c
        gi_wp2_with fail
        refine ⟨(fun h => by cases h), HRR.out.mono ?_⟩
        clear HRR hy
        rintro e' w4 (⟨rfl, j4⟩ | ⟨rfl, jx4⟩)
        · have X4 := hide j4
          rw [← List.range_succ] at X4
          clear j4
          gi_wp2_with fail
          have mm := MM.out
          obtain ⟨hA, hB, hX⟩ := BB.out
          refine ⟨⟨b, j + 1, ?_, by omega, HS, X4⟩, ?_⟩
          · rw [mm, ← hB]
          · rw [mm, ← hB, ← hA]
            simp [zi]; omega
        · have X4 := hide jx4
          clear jx4
          gi_wp2_with fail
          refine bodyPost_ret (results_none rfl _ _ _) rfl ?_
          exact ⟨⟨_, rfl⟩, .inr ⟨_, _, range_pre hlt, X4.out⟩⟩
      · have m1 : B - A = X - A := by omega
        have d1 : ¬ (512 : Int) - F ≤ X - A := by omega
        have d2 : X - A ≤ 512 - F := by omega
        rw [m1] at hy
        have MM := hide (show A + (X - A) = B from by omega)
        have BB := hide (And.intro hA (And.intro hB hX))
        clear hb m0 hf hA hB hF hX x0 g1 g2 c
        gi_wp2_with fail
        refine ⟨(fun h => by cases h), HRR.out.mono ?_⟩
        clear HRR hy
        rintro e' w4 (⟨rfl, j4⟩ | ⟨rfl, jx4⟩)
        · have X4 := hide j4
          rw [← List.range_succ] at X4
          clear j4
          gi_wp2_with fail
          have mm := MM.out
          obtain ⟨hA, hB, hX⟩ := BB.out
          refine ⟨⟨b, j + 1, ?_, by omega, HS, X4⟩, ?_⟩
          · rw [mm, ← hB]
          · rw [mm, ← hB, ← hA]
            simp [zi]; omega
        · have X4 := hide jx4
          clear jx4
          gi_wp2_with fail
          refine bodyPost_ret (results_none rfl _ _ _) rfl ?_
          exact ⟨⟨_, rfl⟩, .inr ⟨_, _, range_pre hlt, X4.out⟩⟩
    · obtain rfl : j = m := by omega
      have x0 : a = E := by rw [HE.out, HM.out]
      obtain ⟨X, hX⟩ : ∃ X : Int, (E : Int) = X := ⟨_, rfl⟩
      rw [x0, hX]
      have d0 : decide (X < X) = false := decide_eq_false (by omega)
      clear HE x0 hX
      gi_wp2_with fail
      go_end0
      exact ⟨⟨_, rfl⟩, .inl HJJ.out⟩
end Go.Proofs.Ytdcjldpbgickmaa
