/- Sum: its contract. -/
import Derived.Test.YtnclicdnncgdiaaDoorLs
namespace Go.Proofs.YtnclicdnncgdiaaDoor
open Go.ChangeShapes Go.WideShapes Go.ChangeAt Go.RowKit Go.Proofs.Bt Go.Shelf
set_option linter.unusedVariables false
set_option linter.unusedSimpArgs false

attribute [local go_sem] Oper.semAt_some

/-- A summary in a block of its own. -/
def SumAt (w : World) (b : Nat) (s m e : Int) : Prop := w.heap[b]? = some (.cells #[.int .i64 s, .int .i64 m, .int .i64 e] 82 (0, 0))
theorem SumAt.lt {w : World} {b : Nat} {s m e : Int} (h : SumAt w b s m e) : b < w.heap.size := (Array.getElem?_eq_some_iff.1 h).1
theorem SumAt.c0 {w : World} {b : Nat} {s m e : Int} (h : SumAt w b s m e) : w.cell? ⟨b, 0, none⟩ = some (.int .i64 s) := by unfold SumAt at h; simp [World.cell?, h]
theorem SumAt.c1 {w : World} {b : Nat} {s m e : Int} (h : SumAt w b s m e) : w.cell? ⟨b, 1, none⟩ = some (.int .i64 m) := by unfold SumAt at h; simp [World.cell?, h]
theorem SumAt.c2 {w : World} {b : Nat} {s m e : Int} (h : SumAt w b s m e) : w.cell? ⟨b, 2, none⟩ = some (.int .i64 e) := by unfold SumAt at h; simp [World.cell?, h]
theorem SumAt.fz {w : World} {b : Nat} {s m e : Int} (h : SumAt w b s m e) (k : Nat) : w.frozen? ⟨b, k, none⟩ = false := by unfold SumAt at h; simp [World.frozen?, h]
theorem SumAt.kept {F : Nat → Prop} {w w' : World} {b : Nat} {s m e : Int} (h : SumAt w b s m e) (k : Kept F w w') (hF : ¬ F b) : SumAt w' b s m e := kept_at k h hF
theorem SumAt.below {w w' : World} {b : Nat} {s m e : Int} (h : SumAt w b s m e) (k : Below w.heap.size w w') : SumAt w' b s m e := (k.block b h.lt).trans h
theorem SumAt.set0 {w : World} {b : Nat} {s m e : Int} (h : SumAt w b s m e) (v : Int) : SumAt (w.setCell ⟨b, 0, none⟩ (.int .i64 v)) b v m e := by
  obtain ⟨hlt, hk⟩ := Array.getElem?_eq_some_iff.1 h
  show (w.heap.modify b _)[b]? = _
  rw [Array.getElem?_eq_getElem (by rw [Array.size_modify]; exact hlt), Array.getElem_modify_self, hk]; rfl
theorem SumAt.set1 {w : World} {b : Nat} {s m e : Int} (h : SumAt w b s m e) (v : Int) : SumAt (w.setCell ⟨b, 1, none⟩ (.int .i64 v)) b s v e := by
  obtain ⟨hlt, hk⟩ := Array.getElem?_eq_some_iff.1 h
  show (w.heap.modify b _)[b]? = _
  rw [Array.getElem?_eq_getElem (by rw [Array.size_modify]; exact hlt), Array.getElem_modify_self, hk]; rfl
theorem SumAt.set2 {w : World} {b : Nat} {s m e : Int} (h : SumAt w b s m e) (v : Int) : SumAt (w.setCell ⟨b, 2, none⟩ (.int .i64 v)) b s m v := by
  obtain ⟨hlt, hk⟩ := Array.getElem?_eq_some_iff.1 h
  show (w.heap.modify b _)[b]? = _
  rw [Array.getElem?_eq_getElem (by rw [Array.size_modify]; exact hlt), Array.getElem_modify_self, hk]; rfl
theorem allocs5 (w : World) (o0 o1 o2 o3 o4 : Obj) (w6 : World) (h : w6 = ((((w.alloc o0).alloc o1).alloc o2).alloc o3).alloc o4) (N : Nat) (hN : w.heap.size = N) :
    w6.heap.size = N + 5 ∧ Below N w w6 ∧ w6.heap[N]? = some o0 ∧ w6.heap[N + 1]? = some o1 ∧ w6.heap[N + 2]? = some o2 ∧ w6.heap[N + 3]? = some o3 ∧ w6.heap[N + 4]? = some o4 := by
  subst h hN
  refine ⟨by simp, ?_, ?_, ?_, ?_, ?_, ?_⟩
  · exact (((((Below.refl _ w).alloc (Nat.le_refl _) _).alloc (by simp) _).alloc (by simp; omega) _).alloc (by simp; omega) _).alloc (by simp; omega) _
  all_goals
    simp only [alloc_at, World.size_alloc]
    (repeat' split) <;> first | rfl | omega | simp_all
/-- Between two rounds of Sum. -/
structure UI (N : Nat) (w : World) (b ro : Nat) (f : Nat → Bool) (pre : List (Nat × Nat)) (W : World) : Prop where
  b0 : SumAt W N 0 0 0
  b1 : ∃ s m e : Nat, SumAt W (N + 1) (s : Nat) (m : Nat) (e : Nat) ∧ SI pre s m e
  rd : Rd b ro (N + 2) (N + 3) (N + 4) f 0 512 W
  be : Below N w W
theorem UI.kept {F : Nat → Prop} {N : Nat} {w : World} {b ro : Nat} {f : Nat → Bool} {pre : List (Nat × Nat)} {W W' : World} (h : UI N w b ro f pre W) (k : Kept F W W') (hN : 0 < N) (hb : b < N) (hF : ∀ x, F x → N + 5 ≤ x) : UI N w b ro f pre W' := by
  obtain ⟨s, m, e, h1, h2⟩ := h.b1
  exact ⟨h.b0.kept k (fun x => by have := hF _ x; omega), ⟨s, m, e, h1.kept k (fun x => by have := hF _ x; omega), h2⟩,
    h.rd.kept k ⟨fun x => by have := hF _ x; omega, fun x => by have := hF _ x; omega⟩ (fun x => by have := hF _ x; omega) (fun x => by have := hF _ x; omega) (fun x => by have := hF _ x; omega) (fun x => by have := hF _ x; omega),
    below_kept h.be k (fun x f => by have := hF _ f; omega) (by have := h.b0.lt; omega)⟩
def sumV (s m e : Int) : Value := .agg #[.int .i64 s, .int .i64 m, .int .i64 e]
def SumR (w : World) (f : Nat → Bool) (r : Ending) (w' : World) : Prop := ∃ s m e : Nat, r = .returned (sumV (s : Nat) (m : Nat) (e : Nat)) ∧ SumP f s m e ∧ Below w.heap.size w w'

set_option maxRecDepth 100000 in
set_option maxHeartbeats 2000000 in
theorem sum_any (b ro : Nat) (f : Nat → Bool) (w : World) (h : RowF w b ro f) (ht : TabW w) :
    Calls Tryd.prog 79 #[.pointer (some ⟨b, ro, none⟩)] w (SumR w f) := by
  obtain ⟨N, hN⟩ : ∃ N, w.heap.size = N := ⟨_, rfl⟩
  have hb := h.lt
  have h0 := ht.lt
  obtain ⟨R, hR⟩ : ∃ R, R = SumR w f := ⟨_, rfl⟩
  rw [← hR]
  have HR := hide hR
  have H := hide h
  have HT := hide ht
  clear hR h ht
  refine (callsIn_wide (n := 3)).1 ?_
  refine callsIn_of_wp_marks Tryd.func79 rfl trivial ?_ rfl
  simp only [Tryd.ntmps79, List.size_toArray, List.length_cons, List.length_nil, Nat.reduceAdd, Nat.reduceSub, Array.replicate_succ, Array.replicate_zero, List.push_toArray, List.append_toArray, List.nil_append, List.cons_append]
  gi_wp2_with fail
  refine wcall2 (clears_any _ _ _ _ _) ?_
  rintro e' w6 ⟨rfl, h6⟩
  obtain ⟨s6, b6, q0, q1, q2, q3, q4⟩ := allocs5 w _ _ _ _ _ w6 h6 N hN
  have f0 : UI N w b ro f [] w6 := ⟨q0, ⟨0, 0, 0, q1, SI.zero⟩, ⟨q2, q3, q4, H.out.below (by rw [hN]; exact b6), HT.out.below (by rw [hN]; exact b6)⟩, b6⟩
  have F0 := hide f0
  clear f0 q0 q1 q2 q3 q4 b6 h6
  gi_wp2_with fail
  simp only [Nat.add_assoc, Nat.reduceAdd]
  have seq := iter_seq b ro (N + 2) (N + 3) (N + 4) f 0 512 (by omega) (by omega) (3 - 1)
  refine range_law (w := w6) rfl (enters_of Tryd.func77 (by kernel_rfl) rfl) seq (fun _ => rfl) (UI N w b ro f) (fun c pre W => False) (fun s A h => h.rd) ?hI ?hIx F0.out ?round ?done ?stop
  case hI =>
    intro s A A' h k
    rw [s6] at k
    exact h.kept k (by omega) (by omega) (fun x hx => by omega)
  case hIx =>
    rintro c s A o' h hl
    exact h
  case round =>
    rintro pre x W ⟨r0, hr0⟩ _ h hp
    rw [s6] at hr0 ⊢
    have hx := (runs_facts (blk f 0 512)).1 x (hp.subset (by simp))
    have x1 := hx.lt
    have x2 := hx.le
    have H := hide h
    have HR0 := hide hr0
    clear h hr0 seq hx hp
    simp only [encs2]
    gi_wp2_with fail
    refine ⟨keepsFrom_of (Kept.refl (fun _ => False) W) (fun b hb e => e), fun r => ?_⟩
    have k2 := Kept.put (F := fun b => b = N + 6) W (N + 5 + 1) (.loop r) rfl
    obtain ⟨W2, hW2⟩ : ∃ W2, W.putObj (N + 5 + 1) (.loop r) = W2 := ⟨_, rfl⟩
    rw [hW2] at k2 ⊢
    have H2 := hide (H.out.kept k2 (by omega) (by omega) (fun b hb => by omega))
    clear k2 hW2
    obtain ⟨s, m, e, B1, hSI⟩ := H2.out.b1
    have hst := hSI.step x
    have c0 := B1.c0
    have c1 := B1.c1
    have c2 := B1.c2
    have g0 := B1.fz 0
    have g1 := B1.fz 1
    have g2 := B1.fz 2
    have HB1 := hide B1
    have HST := hide hst
    clear B1 hSI hst
    have ex : ((x.2 - x.1 : Nat) : Int) = (x.2 : Int) - (x.1 : Int) := by omega
    obtain ⟨X1, hX1⟩ : ∃ X1 : Int, (x.1 : Int) = X1 := ⟨_, rfl⟩
    obtain ⟨X2, hX2⟩ : ∃ X2 : Int, (x.2 : Int) = X2 := ⟨_, rfl⟩
    obtain ⟨M, hM⟩ : ∃ M : Int, (m : Int) = M := ⟨_, rfl⟩
    rw [hX1, hX2] at ex ⊢
    rw [hM] at c1
    have y0 : 0 ≤ X1 := by omega
    have y1 : X1 < X2 := by omega
    have y2 : X2 ≤ 512 := by omega
    have HX1 := hide hX1
    have HX2 := hide hX2
    have EX := hide ex
    have HM := hide hM
    clear hX1 hX2 x1 x2 ex hM
    have fin : ∀ (Wf : World) (s' m' e' : Int), Kept (fun b => b = N + 1) W2 Wf → SumAt Wf (N + 1) s' m' e' → s' = (if X1 = 0 then X2 - X1 else (s : Int)) → m' = max M (X2 - X1) → e' = (if X2 = 512 then X2 - X1 else (e : Int)) →
        KeepsFrom (N + 5) W2 Wf ∧ UI N w b ro f (pre ++ [x]) Wf := by
      intro Wf s' m' e' k hs e1 e2 e3
      have q1 : s' = ((if x.1 = 0 then x.2 - x.1 else s : Nat) : Int) := by
        rw [e1]; have := HX1.out; by_cases h : x.1 = 0
        · rw [if_pos h, if_pos (by omega), EX.out]
        · rw [if_neg h, if_neg (by omega)]
      have q2 : m' = ((max m (x.2 - x.1) : Nat) : Int) := by rw [e2, ← HM.out, ← EX.out]; omega
      have q3 : e' = ((if x.2 = 512 then x.2 - x.1 else e : Nat) : Int) := by
        rw [e3]; have := HX2.out; by_cases h : x.2 = 512
        · rw [if_pos h, if_pos (by omega), EX.out]
        · rw [if_neg h, if_neg (by omega)]
      subst q1 q2 q3
      exact ⟨keepsFrom_of k (fun b hb e => by omega), H2.out.b0.kept k (by omega), ⟨_, _, _, hs, HST.out⟩, H2.out.rd.kept k ⟨by omega, by omega⟩ (by omega) (by omega) (by omega) (by omega), below_kept H2.out.be k (fun b hb => by omega) (by have := H2.out.b0.lt; omega)⟩
    have FIN := hide fin
    clear fin
    have ks := fun (w : World) (k : Nat) (v : Value) => kept_set (F := fun b => b = N + 1) w (N + 1) k v rfl
    have KS := hide ks
    clear ks
    have hc1 : (X1 == 0) = true ∨ (X1 == 0) = false := by cases (X1 == 0) <;> simp
    have hc2 : (X2 == 512) = true ∨ (X2 == 512) = false := by cases (X2 == 512) <;> simp
    rcases hc1 with l1 | l1
    · rcases hc2 with l2 | l2
      · by_cases l3 : M < X2 - X1
        · skip
          gi_wp2_with fail
          refine FIN.out _ _ _ _ (((KS.out _ _ _).trans (KS.out _ _ _) (fun _ _ h => h)).trans (KS.out _ _ _) (fun _ _ h => h)) (((HB1.out.set0 (X2 - X1)).set2 (X2 - X1)).set1 (X2 - X1)) ?_ ?_ ?_
          · rw [if_pos (by simpa using l1)]
          · omega
          · rw [if_pos (by simpa using l2)]
        · have l4 : X2 - X1 ≤ M := by omega
          clear l3
          gi_wp2_with fail
          refine FIN.out _ _ _ _ (((KS.out _ _ _).trans (KS.out _ _ _) (fun _ _ h => h)).trans (KS.out _ _ _) (fun _ _ h => h)) (((HB1.out.set0 (X2 - X1)).set2 (X2 - X1)).set1 (M)) ?_ ?_ ?_
          · rw [if_pos (by simpa using l1)]
          · omega
          · rw [if_pos (by simpa using l2)]
      · by_cases l3 : M < X2 - X1
        · skip
          gi_wp2_with fail
          refine FIN.out _ _ _ _ ((KS.out _ _ _).trans (KS.out _ _ _) (fun _ _ h => h)) ((HB1.out.set0 (X2 - X1)).set1 (X2 - X1)) ?_ ?_ ?_
          · rw [if_pos (by simpa using l1)]
          · omega
          · rw [if_neg (by simpa using l2)]
        · have l4 : X2 - X1 ≤ M := by omega
          clear l3
          gi_wp2_with fail
          refine FIN.out _ _ _ _ ((KS.out _ _ _).trans (KS.out _ _ _) (fun _ _ h => h)) ((HB1.out.set0 (X2 - X1)).set1 (M)) ?_ ?_ ?_
          · rw [if_pos (by simpa using l1)]
          · omega
          · rw [if_neg (by simpa using l2)]
    · rcases hc2 with l2 | l2
      · by_cases l3 : M < X2 - X1
        · skip
          gi_wp2_with fail
          refine FIN.out _ _ _ _ ((KS.out _ _ _).trans (KS.out _ _ _) (fun _ _ h => h)) ((HB1.out.set2 (X2 - X1)).set1 (X2 - X1)) ?_ ?_ ?_
          · rw [if_neg (by simpa using l1)]
          · omega
          · rw [if_pos (by simpa using l2)]
        · have l4 : X2 - X1 ≤ M := by omega
          clear l3
          gi_wp2_with fail
          refine FIN.out _ _ _ _ ((KS.out _ _ _).trans (KS.out _ _ _) (fun _ _ h => h)) ((HB1.out.set2 (X2 - X1)).set1 (M)) ?_ ?_ ?_
          · rw [if_neg (by simpa using l1)]
          · omega
          · rw [if_pos (by simpa using l2)]
      · by_cases l3 : M < X2 - X1
        · skip
          gi_wp2_with fail
          refine FIN.out _ _ _ _ (KS.out _ _ _) (HB1.out.set1 (X2 - X1)) ?_ ?_ ?_
          · rw [if_neg (by simpa using l1)]
          · omega
          · rw [if_neg (by simpa using l2)]
        · have l4 : X2 - X1 ≤ M := by omega
          clear l3
          gi_wp2_with fail
          refine FIN.out _ _ _ _ (KS.out _ _ _) (HB1.out.set1 (M)) ?_ ?_ ?_
          · rw [if_neg (by simpa using l1)]
          · omega
          · rw [if_neg (by simpa using l2)]
  case done =>
    rintro W h hd
    rw [s6] at hd ⊢
    obtain ⟨s, m, e, B1, hSI⟩ := h.b1
    have c0 := B1.c0
    have c1 := B1.c1
    have c2 := B1.c2
    have d0 := h.b0.c0
    have d1 := h.b0.c1
    have d2 := h.b0.c2
    have g0 := h.b0.fz 0
    have g1 := h.b0.fz 1
    have g2 := h.b0.fz 2
    have HH := hide h
    have HD := hide hd
    have HS := hide hSI
    have HB := hide B1
    clear h hd seq B1 hSI
    gi_wp2_with fail
    have ks := fun (w : World) (k : Nat) (v : Value) => kept_set (F := fun b => b = N) w N k v rfl
    have k5 := ((ks W 0 (.int .i64 (s : Nat))).trans (ks _ 1 (.int .i64 (m : Nat))) (fun _ _ h => h)).trans (ks _ 2 (.int .i64 (e : Nat))) (fun _ _ h => h)
    have o4 := ((HH.out.b0.set0 (s : Nat)).set1 (m : Nat)).set2 (e : Nat)
    have d4 := kept_at k5 HD.out (by omega)
    have hlt := HH.out.b0.lt
    have be := below_kept HH.out.be k5 (fun b hb => by omega) (by omega)
    obtain ⟨Wf, hWf⟩ : ∃ Wf, ((W.setCell ⟨N, 0, none⟩ (.int .i64 (s : Nat))).setCell ⟨N, 1, none⟩ (.int .i64 (m : Nat))).setCell ⟨N, 2, none⟩ (.int .i64 (e : Nat)) = Wf := ⟨_, rfl⟩
    rw [hWf] at o4 d4 be ⊢
    have k6 := Kept.put (F := fun b => b = N + 5) Wf (N + 5) (.deferred none) rfl
    have o6 := o4.kept k6 (by omega)
    have r0 := o6.c0
    have r1 := o6.c1
    have r2 := o6.c2
    have B6 := below_kept be k6 (fun b hb => by omega) (by have := o4.lt; omega)
    refine ⟨by simp, .inl ⟨_, _, rfl, run_takeDeferred d4, ?_⟩⟩
    refine ⟨sumV (s : Nat) (m : Nat) (e : Nat), ?_, ?_⟩
    · try simp at r0 r1 r2
      simp [results, Tryd.results79, go_sem, sumV, Nat.add_assoc, r0, r1, r2, Result.andThen]
    · rw [HR.out]
      exact ⟨s, m, e, rfl, HS.out.sum, by rw [hN]; exact B6⟩
  case stop =>
    rintro c pre x W hpre h hd
    exact h.elim
/-- Eight words as a value. -/
def cells8 (g : Nat → Nat) : Array Value := #[.int .u64 ((g 0 : Nat) : Int), .int .u64 ((g 1 : Nat) : Int), .int .u64 ((g 2 : Nat) : Int), .int .u64 ((g 3 : Nat) : Int), .int .u64 ((g 4 : Nat) : Int), .int .u64 ((g 5 : Nat) : Int), .int .u64 ((g 6 : Nat) : Int), .int .u64 ((g 7 : Nat) : Int)]
def words (g : Nat → Nat) : Value := .agg (cells8 g)
end Go.Proofs.YtnclicdnncgdiaaDoor
