/- Package arena: Chunks, and its iterator: contracts. -/
import Derived.Test.YtdcjldpbgickmaaCh
import Derived.Test.YtdcjldpbgickmaaAm
namespace Go.Proofs.Ytdcjldpbgickmaa
open Go.ChangeShapes Go.WideShapes Go.ChangeAt Go.RowKit Go.Shelf Go.Proofs.Rx Go.Maps
set_option linter.unusedVariables false
set_option linter.unusedSimpArgs false

attribute [local go_sem] Oper.semAt_some

theorem keys_any (kb : Nat) (w : World) : Calls Try.prog 18 #[.map (some kb)] w fun e w' => e = .returned (.func (.func 30) #[] #[.pointer (some ⟨w.heap.size, 0, none⟩)]) ∧ w' = w.alloc (.cells #[.map (some kb)] 49) := by
  go_enter Try.func18, Try.ntmps18
  go_wp2_with fail
  go_ret
  exact ⟨rfl, rfl⟩
/-- What the iterator over the arenas reads. -/
structure RdC (N M B0 : Nat) (v : Value) (L : List Nat) (W : World) : Prop where
  b : Boxed W B0 27 v
  r : RowL N W v L
  hi : M ≤ W.heap.size
  lo : N ≤ B0 ∧ B0 < M
  g : ∀ g n cap, v = .slice (some ⟨g, 0, none⟩) n cap → g < M
theorem RdC.kept {F : Nat → Prop} {N M B0 : Nat} {v : Value} {L : List Nat} {W W' : World} (h : RdC N M B0 v L W) (k : Kept F W W') (hF : ∀ b, F b → b < N ∨ M ≤ b) : RdC N M B0 v L W' :=
  ⟨boxed_kept h.b k (fun z => by have := hF _ z; have := h.lo; omega), h.r.kept k h.hi h.g hF, Nat.le_trans h.hi k.size, h.lo, h.g⟩
set_option maxRecDepth 100000 in
theorem chunks_any {w : World} {mb : Nat} {Φ : Nat → Prop} {C : Nat → Bool} {V : Nat → Int} (h : Ar w mb Φ C V) :
    Calls Try.prog 9 #[.pointer (some ⟨mb, 0, none⟩)] w fun e w' => ∃ (B0 : Nat) (v : Value) (L : List Nat), e = .returned (.func (.func 19) #[] #[.pointer (some ⟨B0, 0, none⟩)]) ∧ (L.Pairwise (· < ·) ∧ ∀ p, p ∈ L ↔ C p = true) ∧ L.length ≤ 67108864 ∧ RdC w.heap.size w'.heap.size B0 v L w' ∧ Below w.heap.size w w' := by
  obtain ⟨kb, G, a, hp⟩ := h.ex
  have c0 := a.top.cell
  have CK := hide (keys_any kb w)
  have w1b : Below w.heap.size w (w.alloc (.cells #[.map (some kb)] 49)) := below_alloc _ _
  have CS := hide (sorted_any w.heap.size kb G (w.alloc (.cells #[.map (some kb)] 49)) (Boxed.new w _ _) (a.map.below w1b))
  have HC := hide (show ∀ p, (p < 18446744073709551616 ∧ (G p).isSome = true) ↔ C p = true from fun p => by
    rw [a.has p]
    exact ⟨fun z => z.2, fun z => ⟨by have := a.lim p z; omega, z⟩⟩)
  have HL := hide (fun p (z : C p = true) => a.lim p z)
  have HB := hide w1b
  obtain ⟨w1, hw1⟩ : ∃ w1, w.alloc (.cells #[.map (some kb)] 49) = w1 := ⟨_, rfl⟩
  rw [hw1] at CS HB CK
  clear a w1b h hp
  go_enter Try.func9, Try.ntmps9
  go_wp2_with fail
  refine CK.out.mono ?_
  rintro r w' ⟨rfl, hw⟩
  rw [hw]
  clear hw CK
  go_wp2_with fail
  refine CS.out.mono ?_
  rintro r w2 ⟨v, L, rfl, h1, h2, hg, h3⟩
  have h2 : RowL w.heap.size w2 v L := by
    rcases h2 with h | ⟨g, cap, e, hn, hc⟩
    · exact .inl h
    · exact .inr ⟨g, cap, e, by rw [← hw1, World.size_alloc] at hn; omega, hc⟩
  have F := hide (show (L.Pairwise (· < ·) ∧ ∀ p, p ∈ L ↔ C p = true) ∧ RowL w.heap.size w2 v L ∧ (∀ g n cap, v = .slice (some ⟨g, 0, none⟩) n cap → g < w2.heap.size) ∧ Below w.heap.size w w2 from ⟨⟨h1.1, fun p => by rw [h1.2 p]; exact HC.out p⟩, h2, hg, HB.out.trans (h3.mono HB.out.size)⟩)
  have shape : v = .slice none 0 0 ∨ ∃ g n cap, v = .slice (some ⟨g, 0, none⟩) n cap := by
    rcases h2 with ⟨a, _⟩ | ⟨g, cap, a, _⟩
    · exact .inl a
    · exact .inr ⟨g, _, cap, a⟩
  clear h1 h2 h3 hg CS HC HB
  rcases shape with hv | ⟨g, n, cap, hv⟩
  all_goals
    rw [hv]
    go_wp2_with fail
    go_ret
    obtain ⟨f1, f2, fg, f3⟩ := F.out
    rw [← hv]
    have bb := below_alloc w2 (.cells #[v] 27)
    exact ⟨w2.heap.size, v, L, rfl, f1, nodup_len _ _ (f1.1.imp (fun h => Nat.ne_of_lt h)) (fun x hx => HL.out x ((f1.2 x).1 hx)), ⟨Boxed.new w2 _ _, f2.below bb, Nat.le_refl _, ⟨f3.size, by rw [World.size_alloc]; omega⟩, fun g n cap z => Nat.lt_of_lt_of_le (fg g n cap z) bb.size⟩, f3.trans (bb.mono f3.size)⟩
def encsC (x : Nat) : Array Value := #[.int .u64 (x : Nat)]
theorem pre_at {L pre : List Nat} {x : Nat} (h : pre ++ [x] <+: L) : pre.length < L.length ∧ L[pre.length]! = x ∧ pre = L.take pre.length := by
  obtain ⟨t, rfl⟩ := h
  refine ⟨by simp, ?_, by simp⟩
  rw [getElem!_pos _ _ (by simp)]
  simp
set_option maxRecDepth 100000 in
set_option maxHeartbeats 1000000 in
theorem chunks_seq (NN MM B0 : Nat) (v : Value) (L : List Nat) (hL : L.length ≤ 67108864) (n : Nat) :
    SeqB n Try.prog 19 #[.pointer (some ⟨B0, 0, none⟩)] encsC (RdC NN MM B0 v L) L := by
  intro l J Jx W hR hJ hY h0
  have r0 := hR _ _ h0
  have shape : ∃ o cap, v = .slice o L.length cap := by
    rcases r0.r with ⟨a, b⟩ | ⟨g, cap, a, _⟩
    · exact ⟨none, 0, by rw [a, b]; rfl⟩
    · exact ⟨_, cap, a⟩
  obtain ⟨o, cap, rfl⟩ := shape
  have c0 := r0.b.cell
  have HR := hide hR
  have HJ := hide hJ
  have HY := hide hY
  have H0 := hide h0
  clear hR hJ hY h0 r0
  refine callsIn_of_wp Try.func19 rfl trivial ?_ rfl
  simp only [Try.ntmps19, List.size_toArray, List.length_cons, List.length_nil, Nat.reduceAdd, Nat.reduceSub, Array.replicate_succ, Array.replicate_zero, List.push_toArray, List.append_toArray, List.nil_append, List.cons_append]
  obtain ⟨m, hm⟩ : ∃ m, L.length = m := ⟨_, rfl⟩
  rw [hm] at c0 HR hL
  have HM := hide hm
  clear hm
  gi_wp2_with fail
  gi_loopw [7] (fun vi wr => ∃ (i : Nat), vi = .int .i64 (i : Nat) ∧ i ≤ m ∧ Hid (J (L.take i) wr)) (fun vi _ => m - (zi vi).toNat)
  case atStart => exact ⟨0, rfl, by omega, hide (by rw [List.take_zero]; exact H0.out)⟩
  case round =>
    obtain ⟨i, rfl, hi, HJJ⟩ := hrel
    clear c0
    by_cases c : i < m
    · have d : decide ((i : Int) < (m : Int)) = true := decide_eq_true (by omega)
      have il : i < L.length := by rw [HM.out]; exact c
      have hp : L.take i ++ [L[i]!] <+: L := by
        rw [getElem!_pos _ i il, List.take_append_getElem il]
        exact List.take_prefix _ _
      have hp2 : L.take i ++ [L[i]!] = L.take (i + 1) := by rw [getElem!_pos _ i il, List.take_append_getElem il]
      obtain ⟨fn, tmps, assign, body, hy, hRr⟩ := HY.out _ _ _ hp HJJ.out
      have rr := (HR.out _ _ HJJ.out).r
      rcases rr with ⟨z, y⟩ | ⟨g, cap', z, -, hcell⟩
      · rw [y] at il; simp at il
      · obtain ⟨rfl, -⟩ : o = some ⟨g, 0, none⟩ ∧ True := by simp at z; exact ⟨z.1, trivial⟩
        have cx := hcell i il
        unfold encU at cx
        simp only [encsC] at hy
        have HRR := hide hRr
        have HP := hide (And.intro hp hp2)
        generalize hX : L[i]! = X at *
        clear hcell hp hp2 hRr z il hX
        gi_wp2_with fail
        first | refine HRR.out.mono ?_ | refine ⟨(fun h => by cases h), HRR.out.mono ?_⟩
        clear HRR hy
        rintro e' w4 (⟨rfl, j4⟩ | ⟨rfl, jx4⟩)
        · have X4 := hide j4
          rw [HP.out.2] at X4
          clear j4
          gi_wp2_with fail
          exact ⟨⟨i + 1, by push_cast; rfl, by omega, X4⟩, by simp [zi]; omega⟩
        · have X4 := hide jx4
          clear jx4
          gi_wp2_with fail
          refine bodyPost_ret (results_none rfl _ _ _) rfl ?_
          exact ⟨⟨_, rfl⟩, .inr ⟨_, _, HP.out.1, X4.out⟩⟩
    · have d : decide ((i : Int) < (m : Int)) = false := decide_eq_false (by omega)
      gi_wp2_with fail
      go_end0
      refine ⟨⟨_, rfl⟩, .inl ?_⟩
      have := HJJ.out
      rw [List.take_of_length_le (by rw [HM.out]; omega)] at this
      exact this
end Go.Proofs.Ytdcjldpbgickmaa
