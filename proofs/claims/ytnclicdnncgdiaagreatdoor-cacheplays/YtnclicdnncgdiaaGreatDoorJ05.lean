/- J05 of the proof of both laws: texts Su, Ca, Cb, one behind the other. -/
import Derived.Test.YtnclicdnncgdiaaGreatDoorJ04
/- Sum: its contract. -/
namespace Go.Proofs.YtnclicdnncgdiaaGreatDoor
open Go.ChangeShapes Go.WideShapes Go.ChangeAt Go.RowKit Go.Proofs.Bt Go.Shelf
set_option linter.unusedVariables false
set_option linter.unusedSimpArgs false

attribute [local go_sem] Oper.semAt_some

/-- A summary in a block of its own. -/
def SumAt (w : World) (b : Nat) (s m e : Int) : Prop := w.heap[b]? = some (.cells #[.int .i64 s, .int .i64 m, .int .i64 e] 87 (0, 0))
theorem SumAt.lt {w : World} {b : Nat} {s m e : Int} (h : SumAt w b s m e) : b < w.heap.size := (Array.getElem?_eq_some_iff.1 h).1
theorem SumAt.c0 {w : World} {b : Nat} {s m e : Int} (h : SumAt w b s m e) : w.cell? ⟨b, 0, none⟩ = some (.int .i64 s) := by unfold SumAt at h; simp [World.cell?, h]
theorem SumAt.c1 {w : World} {b : Nat} {s m e : Int} (h : SumAt w b s m e) : w.cell? ⟨b, 1, none⟩ = some (.int .i64 m) := by unfold SumAt at h; simp [World.cell?, h]
theorem SumAt.c2 {w : World} {b : Nat} {s m e : Int} (h : SumAt w b s m e) : w.cell? ⟨b, 2, none⟩ = some (.int .i64 e) := by unfold SumAt at h; simp [World.cell?, h]
theorem SumAt.fz {w : World} {b : Nat} {s m e : Int} (h : SumAt w b s m e) (k : Nat) : w.frozen? ⟨b, k, none⟩ = false := by unfold SumAt at h; simp [World.frozen?, h]
theorem SumAt.kept {F : Nat → Prop} {w w' : World} {b : Nat} {s m e : Int} (h : SumAt w b s m e) (k : Kept F w w') (hF : ¬ F b) : SumAt w' b s m e := kept_at k h hF
theorem SumAt.below {w w' : World} {b : Nat} {s m e : Int} (h : SumAt w b s m e) (k : Below w.heap.size w w') : SumAt w' b s m e := (k.block b h.lt).trans h
theorem SumAt.set0 {w : World} {b : Nat} {s m e : Int} (h : SumAt w b s m e) (v : Int) : SumAt (w.setCell ⟨b, 0, none⟩ (.int .i64 v)) b v m e := by
  obtain ⟨hlt, hk⟩ := Array.getElem?_eq_some_iff.1 h
  show (w.heap.modify b _)[b]? = _
  rw [Array.getElem?_eq_getElem (by rw [Array.size_modify]; exact hlt), Array.getElem_modify_self, hk]; rfl
theorem SumAt.set1 {w : World} {b : Nat} {s m e : Int} (h : SumAt w b s m e) (v : Int) : SumAt (w.setCell ⟨b, 1, none⟩ (.int .i64 v)) b s v e := by
  obtain ⟨hlt, hk⟩ := Array.getElem?_eq_some_iff.1 h
  show (w.heap.modify b _)[b]? = _
  rw [Array.getElem?_eq_getElem (by rw [Array.size_modify]; exact hlt), Array.getElem_modify_self, hk]; rfl
theorem SumAt.set2 {w : World} {b : Nat} {s m e : Int} (h : SumAt w b s m e) (v : Int) : SumAt (w.setCell ⟨b, 2, none⟩ (.int .i64 v)) b s m v := by
  obtain ⟨hlt, hk⟩ := Array.getElem?_eq_some_iff.1 h
  show (w.heap.modify b _)[b]? = _
  rw [Array.getElem?_eq_getElem (by rw [Array.size_modify]; exact hlt), Array.getElem_modify_self, hk]; rfl
theorem allocs5 (w : World) (o0 o1 o2 o3 o4 : Obj) (w6 : World) (h : w6 = ((((w.alloc o0).alloc o1).alloc o2).alloc o3).alloc o4) (N : Nat) (hN : w.heap.size = N) :
    w6.heap.size = N + 5 ∧ Below N w w6 ∧ w6.heap[N]? = some o0 ∧ w6.heap[N + 1]? = some o1 ∧ w6.heap[N + 2]? = some o2 ∧ w6.heap[N + 3]? = some o3 ∧ w6.heap[N + 4]? = some o4 := by
  subst h hN
  refine ⟨by simp, ?_, ?_, ?_, ?_, ?_, ?_⟩
  · exact (((((Below.refl _ w).alloc (Nat.le_refl _) _).alloc (by simp) _).alloc (by simp; omega) _).alloc (by simp; omega) _).alloc (by simp; omega) _
  all_goals
    simp only [alloc_at, World.size_alloc]
    (repeat' split) <;> first | rfl | omega | simp_all
/-- Between two rounds of Sum. -/
structure UI (N : Nat) (w : World) (b ro : Nat) (f : Nat → Bool) (pre : List (Nat × Nat)) (W : World) : Prop where
  b0 : SumAt W N 0 0 0
  b1 : ∃ s m e : Nat, SumAt W (N + 1) (s : Nat) (m : Nat) (e : Nat) ∧ SI pre s m e
  rd : Rd b ro (N + 2) (N + 3) (N + 4) f 0 512 W
  be : Below N w W
theorem UI.kept {F : Nat → Prop} {N : Nat} {w : World} {b ro : Nat} {f : Nat → Bool} {pre : List (Nat × Nat)} {W W' : World} (h : UI N w b ro f pre W) (k : Kept F W W') (hN : 0 < N) (hb : b < N) (hF : ∀ x, F x → N + 5 ≤ x) : UI N w b ro f pre W' := by
  obtain ⟨s, m, e, h1, h2⟩ := h.b1
  exact ⟨h.b0.kept k (fun x => by have := hF _ x; omega), ⟨s, m, e, h1.kept k (fun x => by have := hF _ x; omega), h2⟩,
    h.rd.kept k ⟨fun x => by have := hF _ x; omega, fun x => by have := hF _ x; omega⟩ (fun x => by have := hF _ x; omega) (fun x => by have := hF _ x; omega) (fun x => by have := hF _ x; omega) (fun x => by have := hF _ x; omega),
    below_kept h.be k (fun x f => by have := hF _ f; omega) (by have := h.b0.lt; omega)⟩
def sumV (s m e : Int) : Value := .agg #[.int .i64 s, .int .i64 m, .int .i64 e]
def SumR (w : World) (f : Nat → Bool) (r : Ending) (w' : World) : Prop := ∃ s m e : Nat, r = .returned (sumV (s : Nat) (m : Nat) (e : Nat)) ∧ SumP f s m e ∧ Below w.heap.size w w'

set_option maxRecDepth 100000 in
set_option maxHeartbeats 2000000 in
theorem sum_any (b ro : Nat) (f : Nat → Bool) (w : World) (h : RowF w b ro f) (ht : TabW w) :
    Calls Tryz.prog 107 #[.pointer (some ⟨b, ro, none⟩)] w (SumR w f) := by
  obtain ⟨N, hN⟩ : ∃ N, w.heap.size = N := ⟨_, rfl⟩
  have hb := h.lt
  have h0 := ht.lt
  obtain ⟨R, hR⟩ : ∃ R, R = SumR w f := ⟨_, rfl⟩
  rw [← hR]
  have HR := hide hR
  have H := hide h
  have HT := hide ht
  clear hR h ht
  refine (callsIn_wide (n := 3)).1 ?_
  refine callsIn_of_wp_marks Tryz.func107 rfl trivial ?_ rfl
  simp only [Tryz.ntmps107, List.size_toArray, List.length_cons, List.length_nil, Nat.reduceAdd, Nat.reduceSub, Array.replicate_succ, Array.replicate_zero, List.push_toArray, List.append_toArray, List.nil_append, List.cons_append]
  gi_wp2_with fail
  refine wcall2 (clears_any _ _ _ _ _) ?_
  rintro e' w6 ⟨rfl, h6⟩
  obtain ⟨s6, b6, q0, q1, q2, q3, q4⟩ := allocs5 w _ _ _ _ _ w6 h6 N hN
  have f0 : UI N w b ro f [] w6 := ⟨q0, ⟨0, 0, 0, q1, SI.zero⟩, ⟨q2, q3, q4, H.out.below (by rw [hN]; exact b6), HT.out.below (by rw [hN]; exact b6)⟩, b6⟩
  have F0 := hide f0
  clear f0 q0 q1 q2 q3 q4 b6 h6
  gi_wp2_with fail
  simp only [Nat.add_assoc, Nat.reduceAdd]
  have seq := iter_seq b ro (N + 2) (N + 3) (N + 4) f 0 512 (by omega) (by omega) (3 - 1)
  refine range_law (w := w6) rfl (enters_of Tryz.func110 (by kernel_rfl) rfl) seq (fun _ => rfl) (UI N w b ro f) (fun c pre W => False) (fun s A h => h.rd) ?hI ?hIx F0.out ?round ?done ?stop
  case hI =>
    intro s A A' h k
    rw [s6] at k
    exact h.kept k (by omega) (by omega) (fun x hx => by omega)
  case hIx =>
    rintro c s A o' h hl
    exact h
  case round =>
    rintro pre x W ⟨r0, hr0⟩ _ h hp
    rw [s6] at hr0 ⊢
    have hx := (runs_facts (blk f 0 512)).1 x (hp.subset (by simp))
    have x1 := hx.lt
    have x2 := hx.le
    have H := hide h
    have HR0 := hide hr0
    clear h hr0 seq hx hp
    simp only [encs2]
    gi_wp2_with fail
    refine ⟨keepsFrom_of (Kept.refl (fun _ => False) W) (fun b hb e => e), fun r => ?_⟩
    have k2 := Kept.put (F := fun b => b = N + 6) W (N + 5 + 1) (.loop r) rfl
    obtain ⟨W2, hW2⟩ : ∃ W2, W.putObj (N + 5 + 1) (.loop r) = W2 := ⟨_, rfl⟩
    rw [hW2] at k2 ⊢
    have H2 := hide (H.out.kept k2 (by omega) (by omega) (fun b hb => by omega))
    clear k2 hW2
    obtain ⟨s, m, e, B1, hSI⟩ := H2.out.b1
    have hst := hSI.step x
    have c0 := B1.c0
    have c1 := B1.c1
    have c2 := B1.c2
    have g0 := B1.fz 0
    have g1 := B1.fz 1
    have g2 := B1.fz 2
    have HB1 := hide B1
    have HST := hide hst
    clear B1 hSI hst
    have ex : ((x.2 - x.1 : Nat) : Int) = (x.2 : Int) - (x.1 : Int) := by omega
    obtain ⟨X1, hX1⟩ : ∃ X1 : Int, (x.1 : Int) = X1 := ⟨_, rfl⟩
    obtain ⟨X2, hX2⟩ : ∃ X2 : Int, (x.2 : Int) = X2 := ⟨_, rfl⟩
    obtain ⟨M, hM⟩ : ∃ M : Int, (m : Int) = M := ⟨_, rfl⟩
    rw [hX1, hX2] at ex ⊢
    rw [hM] at c1
    have y0 : 0 ≤ X1 := by omega
    have y1 : X1 < X2 := by omega
    have y2 : X2 ≤ 512 := by omega
    have HX1 := hide hX1
    have HX2 := hide hX2
    have EX := hide ex
    have HM := hide hM
    clear hX1 hX2 x1 x2 ex hM
    have fin : ∀ (Wf : World) (s' m' e' : Int), Kept (fun b => b = N + 1) W2 Wf → SumAt Wf (N + 1) s' m' e' → s' = (if X1 = 0 then X2 - X1 else (s : Int)) → m' = max M (X2 - X1) → e' = (if X2 = 512 then X2 - X1 else (e : Int)) →
        KeepsFrom (N + 5) W2 Wf ∧ UI N w b ro f (pre ++ [x]) Wf := by
      intro Wf s' m' e' k hs e1 e2 e3
      have q1 : s' = ((if x.1 = 0 then x.2 - x.1 else s : Nat) : Int) := by
        rw [e1]; have := HX1.out; by_cases h : x.1 = 0
        · rw [if_pos h, if_pos (by omega), EX.out]
        · rw [if_neg h, if_neg (by omega)]
      have q2 : m' = ((max m (x.2 - x.1) : Nat) : Int) := by rw [e2, ← HM.out, ← EX.out]; omega
      have q3 : e' = ((if x.2 = 512 then x.2 - x.1 else e : Nat) : Int) := by
        rw [e3]; have := HX2.out; by_cases h : x.2 = 512
        · rw [if_pos h, if_pos (by omega), EX.out]
        · rw [if_neg h, if_neg (by omega)]
      subst q1 q2 q3
      exact ⟨keepsFrom_of k (fun b hb e => by omega), H2.out.b0.kept k (by omega), ⟨_, _, _, hs, HST.out⟩, H2.out.rd.kept k ⟨by omega, by omega⟩ (by omega) (by omega) (by omega) (by omega), below_kept H2.out.be k (fun b hb => by omega) (by have := H2.out.b0.lt; omega)⟩
    have FIN := hide fin
    clear fin
    have ks := fun (w : World) (k : Nat) (v : Value) => kept_set (F := fun b => b = N + 1) w (N + 1) k v rfl
    have KS := hide ks
    clear ks
    have hc1 : (X1 == 0) = true ∨ (X1 == 0) = false := by cases (X1 == 0) <;> simp
    have hc2 : (X2 == 512) = true ∨ (X2 == 512) = false := by cases (X2 == 512) <;> simp
    rcases hc1 with l1 | l1
    · rcases hc2 with l2 | l2
      · by_cases l3 : M < X2 - X1
        · skip
          gi_wp2_with fail
          refine FIN.out _ _ _ _ (((KS.out _ _ _).trans (KS.out _ _ _) (fun _ _ h => h)).trans (KS.out _ _ _) (fun _ _ h => h)) (((HB1.out.set0 (X2 - X1)).set2 (X2 - X1)).set1 (X2 - X1)) ?_ ?_ ?_
          · rw [if_pos (by simpa using l1)]
          · omega
          · rw [if_pos (by simpa using l2)]
        · have l4 : X2 - X1 ≤ M := by omega
          clear l3
          gi_wp2_with fail
          refine FIN.out _ _ _ _ (((KS.out _ _ _).trans (KS.out _ _ _) (fun _ _ h => h)).trans (KS.out _ _ _) (fun _ _ h => h)) (((HB1.out.set0 (X2 - X1)).set2 (X2 - X1)).set1 (M)) ?_ ?_ ?_
          · rw [if_pos (by simpa using l1)]
          · omega
          · rw [if_pos (by simpa using l2)]
      · by_cases l3 : M < X2 - X1
        · skip
          gi_wp2_with fail
          refine FIN.out _ _ _ _ ((KS.out _ _ _).trans (KS.out _ _ _) (fun _ _ h => h)) ((HB1.out.set0 (X2 - X1)).set1 (X2 - X1)) ?_ ?_ ?_
          · rw [if_pos (by simpa using l1)]
          · omega
          · rw [if_neg (by simpa using l2)]
        · have l4 : X2 - X1 ≤ M := by omega
          clear l3
          gi_wp2_with fail
          refine FIN.out _ _ _ _ ((KS.out _ _ _).trans (KS.out _ _ _) (fun _ _ h => h)) ((HB1.out.set0 (X2 - X1)).set1 (M)) ?_ ?_ ?_
          · rw [if_pos (by simpa using l1)]
          · omega
          · rw [if_neg (by simpa using l2)]
    · rcases hc2 with l2 | l2
      · by_cases l3 : M < X2 - X1
        · skip
          gi_wp2_with fail
          refine FIN.out _ _ _ _ ((KS.out _ _ _).trans (KS.out _ _ _) (fun _ _ h => h)) ((HB1.out.set2 (X2 - X1)).set1 (X2 - X1)) ?_ ?_ ?_
          · rw [if_neg (by simpa using l1)]
          · omega
          · rw [if_pos (by simpa using l2)]
        · have l4 : X2 - X1 ≤ M := by omega
          clear l3
          gi_wp2_with fail
          refine FIN.out _ _ _ _ ((KS.out _ _ _).trans (KS.out _ _ _) (fun _ _ h => h)) ((HB1.out.set2 (X2 - X1)).set1 (M)) ?_ ?_ ?_
          · rw [if_neg (by simpa using l1)]
          · omega
          · rw [if_pos (by simpa using l2)]
      · by_cases l3 : M < X2 - X1
        · skip
          gi_wp2_with fail
          refine FIN.out _ _ _ _ (KS.out _ _ _) (HB1.out.set1 (X2 - X1)) ?_ ?_ ?_
          · rw [if_neg (by simpa using l1)]
          · omega
          · rw [if_neg (by simpa using l2)]
        · have l4 : X2 - X1 ≤ M := by omega
          clear l3
          gi_wp2_with fail
          refine FIN.out _ _ _ _ (KS.out _ _ _) (HB1.out.set1 (M)) ?_ ?_ ?_
          · rw [if_neg (by simpa using l1)]
          · omega
          · rw [if_neg (by simpa using l2)]
  case done =>
    rintro W h hd
    rw [s6] at hd ⊢
    obtain ⟨s, m, e, B1, hSI⟩ := h.b1
    have c0 := B1.c0
    have c1 := B1.c1
    have c2 := B1.c2
    have d0 := h.b0.c0
    have d1 := h.b0.c1
    have d2 := h.b0.c2
    have g0 := h.b0.fz 0
    have g1 := h.b0.fz 1
    have g2 := h.b0.fz 2
    have HH := hide h
    have HD := hide hd
    have HS := hide hSI
    have HB := hide B1
    clear h hd seq B1 hSI
    gi_wp2_with fail
    have ks := fun (w : World) (k : Nat) (v : Value) => kept_set (F := fun b => b = N) w N k v rfl
    have k5 := ((ks W 0 (.int .i64 (s : Nat))).trans (ks _ 1 (.int .i64 (m : Nat))) (fun _ _ h => h)).trans (ks _ 2 (.int .i64 (e : Nat))) (fun _ _ h => h)
    have o4 := ((HH.out.b0.set0 (s : Nat)).set1 (m : Nat)).set2 (e : Nat)
    have d4 := kept_at k5 HD.out (by omega)
    have hlt := HH.out.b0.lt
    have be := below_kept HH.out.be k5 (fun b hb => by omega) (by omega)
    obtain ⟨Wf, hWf⟩ : ∃ Wf, ((W.setCell ⟨N, 0, none⟩ (.int .i64 (s : Nat))).setCell ⟨N, 1, none⟩ (.int .i64 (m : Nat))).setCell ⟨N, 2, none⟩ (.int .i64 (e : Nat)) = Wf := ⟨_, rfl⟩
    rw [hWf] at o4 d4 be ⊢
    have k6 := Kept.put (F := fun b => b = N + 5) Wf (N + 5) (.deferred none) rfl
    have o6 := o4.kept k6 (by omega)
    have r0 := o6.c0
    have r1 := o6.c1
    have r2 := o6.c2
    have B6 := below_kept be k6 (fun b hb => by omega) (by have := o4.lt; omega)
    refine ⟨by simp, .inl ⟨_, _, rfl, run_takeDeferred d4, ?_⟩⟩
    refine ⟨sumV (s : Nat) (m : Nat) (e : Nat), ?_, ?_⟩
    · try simp at r0 r1 r2
      simp [results, Tryz.results107, go_sem, sumV, Nat.add_assoc, r0, r1, r2, Result.andThen]
    · rw [HR.out]
      exact ⟨s, m, e, rfl, HS.out.sum, by rw [hN]; exact B6⟩
  case stop =>
    rintro c pre x W hpre h hd
    exact h.elim
/-- Eight words as a value. -/
def cells8 (g : Nat → Nat) : Array Value := #[.int .u64 ((g 0 : Nat) : Int), .int .u64 ((g 1 : Nat) : Int), .int .u64 ((g 2 : Nat) : Int), .int .u64 ((g 3 : Nat) : Int), .int .u64 ((g 4 : Nat) : Int), .int .u64 ((g 5 : Nat) : Int), .int .u64 ((g 6 : Nat) : Int), .int .u64 ((g 7 : Nat) : Int)]
def words (g : Nat → Nat) : Value := .agg (cells8 g)
end Go.Proofs.YtnclicdnncgdiaaGreatDoor

/- The landed chunk: how it lies, and what its methods answer: contracts. -/
namespace Go.Proofs.YtnclicdnncgdiaaGreatDoor
open Go.ChangeShapes Go.WideShapes Go.ChangeAt Go.RowKit Go.Proofs.Bt Go.Shelf
set_option linter.unusedVariables false
set_option linter.unusedSimpArgs false

/-- A chunk in a block: which pages are used, which are released. -/
structure ChF (w : World) (b : Nat) (u g : Nat → Bool) : Prop where
  used : RowF w b 0 u
  gone : RowF w b 8 g
theorem ChF.lt {w : World} {b : Nat} {u g : Nat → Bool} (h : ChF w b u g) : b < w.heap.size := h.used.lt
theorem ChF.kept {F : Nat → Prop} {w w' : World} {b : Nat} {u g : Nat → Bool} (h : ChF w b u g) (k : Kept F w w') (hF : ¬ F b) : ChF w' b u g := ⟨h.used.kept k hF, h.gone.kept k hF⟩
theorem ChF.below {w w' : World} {b : Nat} {u g : Nat → Bool} (h : ChF w b u g) (k : Below w.heap.size w w') : ChF w' b u g := ⟨h.used.below k, h.gone.below k⟩
theorem RowF.other {w w' : World} {b ro r2 n : Nat} {f : Nat → Bool} (h : RowF w b ro f) (k : Only b r2 n w w') (hr : ro + 8 ≤ r2 ∨ r2 + n ≤ ro) : RowF w' b ro f := by
  obtain ⟨g, h1, h2⟩ := h; exact ⟨g, h1.other k hr, h2⟩
theorem RowF.congr {w : World} {b ro : Nat} {f f' : Nat → Bool} (h : RowF w b ro f) (e : ∀ k, k < 512 → f k = f' k) : RowF w b ro f' := by
  obtain ⟨g, h1, h2⟩ := h; exact ⟨g, h1, fun i hi => (h2 i hi).trans (e i hi)⟩
theorem ChF.setU {w w' : World} {b : Nat} {u u' g : Nat → Bool} (h : ChF w b u g) (k : Only b 0 8 w w') (r : RowF w' b 0 u') : ChF w' b u' g := ⟨r, h.gone.other k (by omega)⟩
theorem ChF.setG {w w' : World} {b : Nat} {u g g' : Nat → Bool} (h : ChF w b u g) (k : Only b 8 8 w w') (r : RowF w' b 8 g') : ChF w' b u g' := ⟨h.used.other k (by omega), r⟩
theorem ChF.congr {w : World} {b : Nat} {u g u' g' : Nat → Bool} (h : ChF w b u g) (e : ∀ k, k < 512 → u k = u' k) (e' : ∀ k, k < 512 → g k = g' k) : ChF w b u' g' := ⟨h.used.congr e, h.gone.congr e'⟩

/-- The pages are right: 8.2. -/
def RightC (i n : Int) : Prop := 0 ≤ i ∧ 0 < n ∧ n ≤ 512 - i
abbrev decR (i n : Int) : Decidable (RightC i n) := by unfold RightC; exact inferInstance
theorem rightC_any (i n : Int) (hi : i ≤ 9223372036854775807) (w : World) :
    Calls Tryz.prog 112 #[.int .i64 i, .int .i64 n] w fun e w' => e = .returned (.bool (@decide (RightC i n) (decR i n))) ∧ w' = w := by
  by_cases h0 : 0 ≤ i
  · by_cases h1 : 0 < n
    · have hd : @decide (RightC i n) (decR i n) = decide (n ≤ 512 - i) := by unfold RightC; simp [h0, h1]
      rw [hd]
      go_enter Tryz.func112, Tryz.ntmps112
      go_wp2
      go_ret
      exact ⟨rfl, rfl⟩
    · have hd : @decide (RightC i n) (decR i n) = false := @decide_eq_false _ (decR i n) (fun h => h1 h.2.1)
      have h2 : n ≤ 0 := by omega
      rw [hd]
      clear hd h1
      go_enter Tryz.func112, Tryz.ntmps112
      go_wp2
      go_ret
      exact ⟨rfl, rfl⟩
  · have hd : @decide (RightC i n) (decR i n) = false := @decide_eq_false _ (decR i n) (fun h => h0 h.1)
    have h2 : i < 0 := by omega
    rw [hd]
    clear hd h0
    go_enter Tryz.func112, Tryz.ntmps112
    go_wp2
    go_ret
    exact ⟨rfl, rfl⟩
theorem count_int (b ro : Nat) (f : Nat → Bool) (w : World) (h : RowF w b ro f) (i n : Int) (hi : 0 ≤ i) (hn : 0 ≤ n) (hin : i + n ≤ 512) :
    Calls Tryz.prog 93 #[.pointer (some ⟨b, ro, none⟩), .int .i64 i, .int .i64 n] w fun e w' => e = .returned (.int .i64 (cnt f i.toNat n.toNat : Nat)) ∧ Below w.heap.size w w' := by
  have := count_any b ro f w h i.toNat n.toNat (by omega)
  rw [show ((i.toNat : Nat) : Int) = i by omega, show ((n.toNat : Nat) : Int) = n by omega] at this
  exact this
theorem set_int (b ro : Nat) (f : Nat → Bool) (w : World) (h : RowF w b ro f) (i n : Int) (hi : 0 ≤ i) (hn : 0 ≤ n) (hin : i + n ≤ 512) :
    Calls Tryz.prog 89 #[.pointer (some ⟨b, ro, none⟩), .int .i64 i, .int .i64 n] w fun e w' => e = .returned (.int .i64 0) ∧ RowF w' b ro (setF f i.toNat n.toNat) ∧ Only b ro 8 w w' := by
  have := set_any b ro f w h i.toNat n.toNat (by omega)
  rw [show ((i.toNat : Nat) : Int) = i by omega, show ((n.toNat : Nat) : Int) = n by omega] at this
  exact this
theorem clear_int (b ro : Nat) (f : Nat → Bool) (w : World) (h : RowF w b ro f) (i n : Int) (hi : 0 ≤ i) (hn : 0 ≤ n) (hin : i + n ≤ 512) :
    Calls Tryz.prog 113 #[.pointer (some ⟨b, ro, none⟩), .int .i64 i, .int .i64 n] w fun e w' => e = .returned (.int .i64 0) ∧ RowF w' b ro (clrF f i.toNat n.toNat) ∧ Only b ro 8 w w' := by
  have := clear_any b ro f w h i.toNat n.toNat (by omega)
  rw [show ((i.toNat : Nat) : Int) = i by omega, show ((n.toNat : Nat) : Int) = n by omega] at this
  exact this

/-! ### Take, Give, Back -/
/-- What Take answers and leaves. -/
def takeS (u g : Nat → Bool) (i n : Int) : Int × Int × (Nat → Bool) × (Nat → Bool) :=
  @ite _ (RightC i n) (decR i n) (if cnt u i.toNat n.toNat = 0 then ((cnt g i.toNat n.toNat : Nat), 0, setF u i.toNat n.toNat, clrF g i.toNat n.toNat) else (0, 32, u, g)) (0, 1, u, g)
def giveS (u g : Nat → Bool) (i n : Int) (gone : Bool) : Int × (Nat → Bool) × (Nat → Bool) :=
  @ite _ (RightC i n) (decR i n) (if cnt u i.toNat n.toNat = n.toNat then (0, clrF u i.toNat n.toNat, if gone then setF g i.toNat n.toNat else g) else (31, u, g)) (1, u, g)
theorem take_any (b : Nat) (u g : Nat → Bool) (w : World) (h : ChF w b u g) (i n : Int) (hi : i ≤ 9223372036854775807) :
    Calls Tryz.prog 104 #[.pointer (some ⟨b, 0, none⟩), .int .i64 i, .int .i64 n] w fun e w' =>
      e = .returned (.tuple #[.int .i64 (takeS u g i n).1, .int .i64 (takeS u g i n).2.1]) ∧ ChF w' b (takeS u g i n).2.2.1 (takeS u g i n).2.2.2 ∧ Kept (fun x => x = b) w w' := by
  have cR := rightC_any i n hi w
  by_cases hr : RightC i n
  · rw [@decide_eq_true _ (decR i n) hr] at cR
    obtain ⟨r0, r1, r2⟩ := hr
    have cC := count_int b 0 u w h.used i n r0 (by omega) (by omega)
    have HC := hide h
    by_cases hz : cnt u i.toNat n.toNat = 0
    · have e : takeS u g i n = (((cnt g i.toNat n.toNat : Nat) : Int), 0, setF u i.toNat n.toNat, clrF g i.toNat n.toNat) := by
        unfold takeS; rw [if_pos ⟨r0, r1, r2⟩, if_pos hz]
      rw [e]
      rw [hz] at cC
      have R := hide ((show 0 ≤ i ∧ 0 ≤ n ∧ i + n ≤ 512 by omega))
      clear e hz h
      obtain ⟨C, hC⟩ : ∃ C : Int, ((cnt g i.toNat n.toNat : Nat) : Int) = C := ⟨_, rfl⟩
      rw [hC]
      have HCC := hide hC
      clear hC
      go_enter Tryz.func104, Tryz.ntmps104
      go_wp2_with fail
      go_at_call 112
      refine cR.mono ?_
      rintro e w' ⟨rfl, hw'⟩; rw [hw']; clear hw' w'
      go_wp2_with fail
      go_at_call 93
      refine cC.mono ?_
      rintro e w1 ⟨rfl, k1⟩
      have HC1 := hide (HC.out.below k1)
      have K1 := hide k1
      clear k1
      go_wp2_with fail
      go_at_call 93
      refine (count_int b 8 g w1 HC1.out.gone i n R.out.1 R.out.2.1 R.out.2.2).mono ?_
      rw [HCC.out]
      rintro e w2 ⟨rfl, k2⟩
      have HC2 := hide (HC1.out.below k2)
      have K2 := hide (K1.out.trans (k2.mono K1.out.size))
      clear k2
      go_wp2_with fail
      go_at_call 89
      refine (set_int b 0 u w2 HC2.out.used i n R.out.1 R.out.2.1 R.out.2.2).mono ?_
      rintro e w3 ⟨rfl, r3, k3⟩
      have HC3 := hide (HC2.out.setU k3 r3)
      have K3 := hide ((Kept.of_below K2.out).trans k3.kept (fun _ _ f => f))
      clear r3 k3
      go_wp2_with fail
      go_at_call 113
      refine (clear_int b 8 g w3 HC3.out.gone i n R.out.1 R.out.2.1 R.out.2.2).mono ?_
      rintro e w4 ⟨rfl, r4, k4⟩
      have HC4 := hide (HC3.out.setG k4 r4)
      have K4 := hide (K3.out.trans k4.kept (fun _ _ f => f))
      clear r4 k4
      go_wp2_with fail
      go_ret2
      exact ⟨rfl, HC4.out, K4.out⟩
    · have e : takeS u g i n = (0, 32, u, g) := by unfold takeS; rw [if_pos ⟨r0, r1, r2⟩, if_neg hz]
      rw [e]
      obtain ⟨C, hC⟩ : ∃ C : Int, ((cnt u i.toNat n.toNat : Nat) : Int) = C := ⟨_, rfl⟩
      have hC0 : 0 < C := by omega
      rw [hC] at cC
      clear e hz hC h
      go_enter Tryz.func104, Tryz.ntmps104
      go_wp2_with fail
      go_at_call 112
      refine cR.mono ?_
      rintro e w' ⟨rfl, hw'⟩; rw [hw']; clear hw' w'
      go_wp2_with fail
      go_at_call 93
      refine cC.mono ?_
      rintro e w1 ⟨rfl, k1⟩
      have HC1 := hide (HC.out.below k1)
      have K1 := hide k1
      clear k1
      go_wp2_with fail
      go_ret2
      exact ⟨rfl, HC1.out, Kept.of_below K1.out⟩
  · rw [@decide_eq_false _ (decR i n) hr] at cR
    have e : takeS u g i n = (0, 1, u, g) := by unfold takeS; rw [if_neg hr]
    rw [e]
    have HC := hide h
    clear e hr h
    go_enter Tryz.func104, Tryz.ntmps104
    go_wp2_with fail
    go_at_call 112
    refine cR.mono ?_
    rintro e w' ⟨rfl, hw'⟩; rw [hw']; clear hw' w'
    go_wp2_with fail
    go_ret2
    exact ⟨rfl, HC.out, Kept.refl _ _⟩
theorem give_any (b : Nat) (u g : Nat → Bool) (w : World) (h : ChF w b u g) (i n : Int) (hi : i ≤ 9223372036854775807) :
    Calls Tryz.prog 105 #[.pointer (some ⟨b, 0, none⟩), .int .i64 i, .int .i64 n] w fun e w' =>
      e = .returned (.int .i64 (giveS u g i n false).1) ∧ ChF w' b (giveS u g i n false).2.1 (giveS u g i n false).2.2 ∧ Kept (fun x => x = b) w w' := by
  have cR := rightC_any i n hi w
  by_cases hr : RightC i n
  · rw [@decide_eq_true _ (decR i n) hr] at cR
    obtain ⟨r0, r1, r2⟩ := hr
    have cC := count_int b 0 u w h.used i n r0 (by omega) (by omega)
    have HC := hide h
    by_cases hz : cnt u i.toNat n.toNat = n.toNat
    · have e : giveS u g i n false = (0, clrF u i.toNat n.toNat, g) := by
        unfold giveS; rw [if_pos ⟨r0, r1, r2⟩, if_pos hz]; rfl
      rw [e]
      rw [hz, show ((n.toNat : Nat) : Int) = n by omega] at cC
      have R := hide ((show 0 ≤ i ∧ 0 ≤ n ∧ i + n ≤ 512 by omega))
      clear e hz h
      go_enter Tryz.func105, Tryz.ntmps105
      go_wp2_with fail
      go_at_call 112
      refine cR.mono ?_
      rintro e w' ⟨rfl, hw'⟩; rw [hw']; clear hw' w'
      go_wp2_with fail
      go_at_call 93
      refine cC.mono ?_
      rintro e w1 ⟨rfl, k1⟩
      have HC1 := hide (HC.out.below k1)
      have K1 := hide k1
      clear k1
      go_wp2_with fail
      go_at_call 113
      refine (clear_int b 0 u w1 HC1.out.used i n R.out.1 R.out.2.1 R.out.2.2).mono ?_
      rintro e w4 ⟨rfl, r4, k4⟩
      have HC4 := hide (HC1.out.setU k4 r4)
      have K4 := hide ((Kept.of_below (F := fun x => x = b) K1.out).trans k4.kept (fun _ _ f => f))
      clear r4 k4
      go_wp2_with fail
      go_ret
      exact ⟨rfl, HC4.out, K4.out⟩
    · have e : giveS u g i n false = (31, u, g) := by unfold giveS; rw [if_pos ⟨r0, r1, r2⟩, if_neg hz]
      rw [e]
      obtain ⟨C, hC⟩ : ∃ C : Int, ((cnt u i.toNat n.toNat : Nat) : Int) = C := ⟨_, rfl⟩
      have hC0 : C < n := by have := cnt_le u i.toNat n.toNat; omega
      rw [hC] at cC
      clear e hz hC h
      go_enter Tryz.func105, Tryz.ntmps105
      go_wp2_with fail
      go_at_call 112
      refine cR.mono ?_
      rintro e w' ⟨rfl, hw'⟩; rw [hw']; clear hw' w'
      go_wp2_with fail
      go_at_call 93
      refine cC.mono ?_
      rintro e w1 ⟨rfl, k1⟩
      have HC1 := hide (HC.out.below k1)
      have K1 := hide k1
      clear k1
      go_wp2_with fail
      go_ret
      exact ⟨rfl, HC1.out, Kept.of_below K1.out⟩
  · rw [@decide_eq_false _ (decR i n) hr] at cR
    have e : giveS u g i n false = (1, u, g) := by unfold giveS; rw [if_neg hr]
    rw [e]
    have HC := hide h
    clear e hr h
    go_enter Tryz.func105, Tryz.ntmps105
    go_wp2_with fail
    go_at_call 112
    refine cR.mono ?_
    rintro e w' ⟨rfl, hw'⟩; rw [hw']; clear hw' w'
    go_wp2_with fail
    go_ret
    exact ⟨rfl, HC.out, Kept.refl _ _⟩
theorem back_any (b : Nat) (u g : Nat → Bool) (w : World) (h : ChF w b u g) (i n : Int) (hi : i ≤ 9223372036854775807) :
    Calls Tryz.prog 106 #[.pointer (some ⟨b, 0, none⟩), .int .i64 i, .int .i64 n] w fun e w' =>
      e = .returned (.int .i64 (giveS u g i n true).1) ∧ ChF w' b (giveS u g i n true).2.1 (giveS u g i n true).2.2 ∧ Kept (fun x => x = b) w w' := by
  have cG := give_any b u g w h i n hi
  by_cases hz : RightC i n ∧ cnt u i.toNat n.toNat = n.toNat
  · have e : giveS u g i n true = (0, clrF u i.toNat n.toNat, setF g i.toNat n.toNat) := by unfold giveS; rw [if_pos hz.1, if_pos hz.2]; rfl
    have e' : giveS u g i n false = (0, clrF u i.toNat n.toNat, g) := by unfold giveS; rw [if_pos hz.1, if_pos hz.2]; rfl
    rw [e]
    rw [e'] at cG
    have R := hide (show 0 ≤ i ∧ 0 ≤ n ∧ i + n ≤ 512 by have := hz.1; unfold RightC at this; omega)
    clear e e' hz h
    go_enter Tryz.func106, Tryz.ntmps106
    go_wp2_with fail
    go_at_call 105
    refine cG.mono ?_
    rintro e w1 ⟨rfl, r1, k1⟩
    have R1 := hide r1
    have K1 := hide k1
    clear r1 k1
    go_wp2_with fail
    go_at_call 89
    refine (set_int b 8 g w1 R1.out.gone i n R.out.1 R.out.2.1 R.out.2.2).mono ?_
    rintro e w2 ⟨rfl, r2, k2⟩
    have HC2 := hide (R1.out.setG k2 r2)
    have K2 := hide (K1.out.trans k2.kept (fun _ _ f => f))
    clear r2 k2
    go_wp2_with fail
    go_ret
    exact ⟨rfl, HC2.out, K2.out⟩
  · have e : giveS u g i n true = giveS u g i n false := by
      unfold giveS
      by_cases hr : RightC i n
      · rw [if_pos hr, if_pos hr, if_neg (fun h => hz ⟨hr, h⟩), if_neg (fun h => hz ⟨hr, h⟩)]
      · rw [if_neg hr, if_neg hr]
    have ne : (giveS u g i n false).1 ≠ 0 := by
      unfold giveS
      by_cases hr : RightC i n
      · rw [if_pos hr, if_neg (fun h => hz ⟨hr, h⟩)]; show (31 : Int) ≠ 0; decide
      · rw [if_neg hr]; show (1 : Int) ≠ 0; decide
    rw [e]
    obtain ⟨E, hE⟩ : ∃ E : Int, (giveS u g i n false).1 = E := ⟨_, rfl⟩
    rw [hE] at cG ne ⊢
    have nb : (E == 0) = false := by simpa using ne
    clear e hz h hE ne
    go_enter Tryz.func106, Tryz.ntmps106
    go_wp2_with fail
    go_at_call 105
    refine cG.mono ?_
    rintro e w1 ⟨rfl, r1, k1⟩
    have R1 := hide r1
    have K1 := hide k1
    clear r1 k1
    go_wp2_with fail
    go_ret
    exact ⟨rfl, R1.out, K1.out⟩
end Go.Proofs.YtnclicdnncgdiaaGreatDoor

/- The landed chunk: New, Find, Sum, Free, Released, Rows: contracts. -/
namespace Go.Proofs.YtnclicdnncgdiaaGreatDoor
open Go.ChangeShapes Go.WideShapes Go.ChangeAt Go.RowKit Go.Proofs.Bt Go.Shelf
set_option linter.unusedVariables false
set_option linter.unusedSimpArgs false

theorem new_row {w : World} {b ro : Nat} {cs : Array Value} {t : TypeId} (h : w.heap[b]? = some (.cells cs t (0, 0))) (hc : ∀ k, k < 8 → cs[ro + k]? = some (.int .u64 0)) : RowF w b ro (fun _ => false) :=
  ⟨fun _ => 0, ⟨fun k hk => by simp [World.cell?, h, hc k hk], fun k hk => by simp [World.frozen?, h], fun _ => by omega⟩, fun i _ => by unfold bitW; simp⟩
def zeros16 : Array Value := #[.int .u64 0, .int .u64 0, .int .u64 0, .int .u64 0, .int .u64 0, .int .u64 0, .int .u64 0, .int .u64 0, .int .u64 0, .int .u64 0, .int .u64 0, .int .u64 0, .int .u64 0, .int .u64 0, .int .u64 0, .int .u64 0]
theorem zeros_at (k : Nat) (hk : k < 16) : zeros16[k]? = some (.int .u64 0) := by
  rw [show zeros16 = Array.replicate 16 (.int .u64 0) from rfl, Array.getElem?_replicate, if_pos hk]
theorem findC_any (b : Nat) (u g : Nat → Bool) (w : World) (h : ChF w b u g) (ht : TabW w) (n from_ : Int) (hn : n ≤ 9223372036854775807) (hf : from_ ≤ 9223372036854775807) :
    Calls Tryz.prog 82 #[.pointer (some ⟨b, 0, none⟩), .int .i64 n, .int .i64 from_] w (FindR w u n from_) := by
  have cC := find_any b 0 u n from_ hn hf w h.used ht
  clear h ht
  go_enter Tryz.func82, Tryz.ntmps82
  go_wp2_with fail
  go_at_call 99
  refine cC.mono ?_
  rintro e w1 ⟨i, ok, rfl, p1, k1⟩
  have K1 := hide k1
  have P1 := hide p1
  clear k1 p1
  go_wp2_with fail
  go_ret2
  exact ⟨i, ok, rfl, P1.out, K1.out⟩
theorem sumC_any (b : Nat) (u g : Nat → Bool) (w : World) (h : ChF w b u g) (ht : TabW w) :
    Calls Tryz.prog 96 #[.pointer (some ⟨b, 0, none⟩)] w (SumR w u) := by
  have HC := hide h
  have HT := hide ht
  clear h ht
  go_enter Tryz.func96, Tryz.ntmps96
  go_wp2_with fail
  go_at_call 107
  have k0 : Below w.heap.size w (w.alloc (Obj.cells #[Value.int IntKind.i64 0, Value.int IntKind.i64 0, Value.int IntKind.i64 0] 87)) := (Below.refl _ w).alloc (Nat.le_refl _) _
  have hz := alloc_at w (Obj.cells #[Value.int IntKind.i64 0, Value.int IntKind.i64 0, Value.int IntKind.i64 0] 87) w.heap.size
  rw [if_pos rfl] at hz
  have hs : (w.alloc (Obj.cells #[Value.int IntKind.i64 0, Value.int IntKind.i64 0, Value.int IntKind.i64 0] 87)).heap.size = w.heap.size + 1 := by simp
  obtain ⟨w0, hw0⟩ : ∃ w0, w0 = w.alloc (Obj.cells #[Value.int IntKind.i64 0, Value.int IntKind.i64 0, Value.int IntKind.i64 0] 87) := ⟨_, rfl⟩
  rw [← hw0] at k0 hz hs ⊢
  refine (sum_any b 0 u w0 (HC.out.below k0).used (HT.out.below k0)).mono ?_
  rintro e w1 ⟨s, m, n, rfl, p1, k1⟩
  have hz1 : SumAt w1 w.heap.size 0 0 0 := (k1.block _ (by omega)).trans hz
  have c0 := hz1.c0
  have c1 := hz1.c1
  have c2 := hz1.c2
  have g0 := hz1.fz 0
  have g1 := hz1.fz 1
  have g2 := hz1.fz 2
  have HZ := hide hz1
  unfold sumV
  have K1 := hide (k0.trans (k1.mono k0.size))
  have P1 := hide p1
  clear k1 p1 k0 hz hs hw0 w0 hz1
  go_wp2_with fail
  have ks := fun (w' : World) (k : Nat) (v : Value) => kept_set (F := fun b => b = w.heap.size) w' w.heap.size k v rfl
  have k5 := ((ks w1 0 (.int .i64 (s : Nat))).trans (ks _ 1 (.int .i64 (m : Nat))) (fun _ _ h => h)).trans (ks _ 2 (.int .i64 (n : Nat))) (fun _ _ h => h)
  have o4 := ((HZ.out.set0 (s : Nat)).set1 (m : Nat)).set2 (n : Nat)
  have B4 := below_kept K1.out k5 (fun x hx => by omega) K1.out.size
  have d0 := o4.c0
  have d1 := o4.c1
  have d2 := o4.c2
  refine bodyPost_ret (v := sumV s m n) ?_ rfl ?_
  · simp [results, Tryz.results96, go_sem, sumV, Nat.add_assoc, d0, d1, d2, Result.andThen]
  · exact ⟨s, m, n, rfl, P1.out, B4⟩
theorem newC_any (w : World) : Calls Tryz.prog 100 #[] w fun e w' => e = .returned (.pointer (some ⟨w.heap.size, 0, none⟩)) ∧ ChF w' w.heap.size (fun _ => false) (setF (fun _ => false) 0 512) ∧ Below w.heap.size w w' := by
  obtain ⟨N, hN⟩ : ∃ N, w.heap.size = N := ⟨_, rfl⟩
  obtain ⟨w0, hw0⟩ : ∃ w0, w0 = w.alloc (.cells zeros16 116) := ⟨_, rfl⟩
  have k0 : Below N w w0 := by rw [hw0, ← hN]; exact (Below.refl _ w).alloc (Nat.le_refl _) _
  have hz : w0.heap[N]? = some (.cells zeros16 116 (0, 0)) := by rw [hw0, ← hN, alloc_at, if_pos rfl]
  have h0 : ChF w0 N (fun _ => false) (fun _ => false) := ⟨new_row hz (fun k hk => zeros_at _ (by omega)), new_row hz (fun k hk => zeros_at _ (by omega))⟩
  have H0 := hide h0
  have K0 := hide k0
  have W0 := hide hw0
  rw [hN]
  clear hw0 k0 hz h0
  go_enter Tryz.func100, Tryz.ntmps100
  go_wp2_with fail
  go_at_call 89
  have e0 := W0.out
  unfold zeros16 at e0
  rw [← e0]
  clear e0 W0
  refine (set_int N 8 (fun _ => false) w0 H0.out.gone 0 512 (by omega) (by omega) (by omega)).mono ?_
  rintro e w1 ⟨rfl, r1, k1⟩
  have HC := hide (H0.out.setG k1 r1)
  have KK := hide (K0.out.trans (k1.kept.below (by have := K0.out.size; omega) (fun x hx => by omega)))
  clear r1 k1
  go_wp2_with fail
  go_ret
  exact ⟨rfl, HC.out, KK.out⟩
theorem RowAt.all0 {w : World} {b : Nat} {g : Nat → Nat} (h : RowAt w b 0 g) : w.cell? ⟨b, 0, none⟩ = some (.int .u64 ((g 0 : Nat) : Int)) ∧ w.cell? ⟨b, 1, none⟩ = some (.int .u64 ((g 1 : Nat) : Int)) ∧ w.cell? ⟨b, 2, none⟩ = some (.int .u64 ((g 2 : Nat) : Int)) ∧ w.cell? ⟨b, 3, none⟩ = some (.int .u64 ((g 3 : Nat) : Int)) ∧ w.cell? ⟨b, 4, none⟩ = some (.int .u64 ((g 4 : Nat) : Int)) ∧ w.cell? ⟨b, 5, none⟩ = some (.int .u64 ((g 5 : Nat) : Int)) ∧ w.cell? ⟨b, 6, none⟩ = some (.int .u64 ((g 6 : Nat) : Int)) ∧ w.cell? ⟨b, 7, none⟩ = some (.int .u64 ((g 7 : Nat) : Int)) :=
  ⟨h.cell 0 (by omega), h.cell 1 (by omega), h.cell 2 (by omega), h.cell 3 (by omega), h.cell 4 (by omega), h.cell 5 (by omega), h.cell 6 (by omega), h.cell 7 (by omega)⟩
theorem RowAt.all8 {w : World} {b : Nat} {g : Nat → Nat} (h : RowAt w b 8 g) : w.cell? ⟨b, 8, none⟩ = some (.int .u64 ((g 0 : Nat) : Int)) ∧ w.cell? ⟨b, 9, none⟩ = some (.int .u64 ((g 1 : Nat) : Int)) ∧ w.cell? ⟨b, 10, none⟩ = some (.int .u64 ((g 2 : Nat) : Int)) ∧ w.cell? ⟨b, 11, none⟩ = some (.int .u64 ((g 3 : Nat) : Int)) ∧ w.cell? ⟨b, 12, none⟩ = some (.int .u64 ((g 4 : Nat) : Int)) ∧ w.cell? ⟨b, 13, none⟩ = some (.int .u64 ((g 5 : Nat) : Int)) ∧ w.cell? ⟨b, 14, none⟩ = some (.int .u64 ((g 6 : Nat) : Int)) ∧ w.cell? ⟨b, 15, none⟩ = some (.int .u64 ((g 7 : Nat) : Int)) :=
  ⟨h.cell 0 (by omega), h.cell 1 (by omega), h.cell 2 (by omega), h.cell 3 (by omega), h.cell 4 (by omega), h.cell 5 (by omega), h.cell 6 (by omega), h.cell 7 (by omega)⟩
theorem RowAt.range {w : World} {b ro : Nat} {g : Nat → Nat} (h : RowAt w b ro g) : w.rangeAt b ro (cells8 g).toList := fun j v hv => by
  have hj : j < 8 := (List.getElem?_eq_some_iff.1 hv).1
  have : (cells8 g).toList[j]? = some (.int .u64 ((g j : Nat) : Int)) := by
    match j, hj with
    | 0, _ | 1, _ | 2, _ | 3, _ | 4, _ | 5, _ | 6, _ | 7, _ => rfl
  rw [this] at hv
  cases hv
  exact h.cell j hj
/-- Eight words stored one by one. -/
def put8 (w : World) (b : Nat) (g : Nat → Nat) : World := ((((((((w.setCell ⟨b, 0, none⟩ (.int .u64 ((g 0 : Nat) : Int))).setCell ⟨b, 1, none⟩ (.int .u64 ((g 1 : Nat) : Int))).setCell ⟨b, 2, none⟩ (.int .u64 ((g 2 : Nat) : Int))).setCell ⟨b, 3, none⟩ (.int .u64 ((g 3 : Nat) : Int))).setCell ⟨b, 4, none⟩ (.int .u64 ((g 4 : Nat) : Int))).setCell ⟨b, 5, none⟩ (.int .u64 ((g 5 : Nat) : Int))).setCell ⟨b, 6, none⟩ (.int .u64 ((g 6 : Nat) : Int))).setCell ⟨b, 7, none⟩ (.int .u64 ((g 7 : Nat) : Int)))
theorem RowAt.put8 {w : World} {b : Nat} {g g' : Nat → Nat} (h : RowAt w b 0 g) (hg : ∀ k, g' k < 18446744073709551616) : RowAt (put8 w b g') b 0 g' := by
  have h0 := h.set 0 (g' 0) (by omega) (hg 0)
  have h1 := h0.set 1 (g' 1) (by omega) (hg 1)
  have h2 := h1.set 2 (g' 2) (by omega) (hg 2)
  have h3 := h2.set 3 (g' 3) (by omega) (hg 3)
  have h4 := h3.set 4 (g' 4) (by omega) (hg 4)
  have h5 := h4.set 5 (g' 5) (by omega) (hg 5)
  have h6 := h5.set 6 (g' 6) (by omega) (hg 6)
  have h7 := h6.set 7 (g' 7) (by omega) (hg 7)
  refine RowAt.congr h7 (fun k hk => ?_) hg
  match k, hk with
  | 0, _ | 1, _ | 2, _ | 3, _ | 4, _ | 5, _ | 6, _ | 7, _ => rfl
theorem kept_put8 (w : World) (b : Nat) (g : Nat → Nat) : Kept (fun x => x = b) w (put8 w b g) := by
  have ks := fun (w' : World) (k : Nat) (v : Value) => kept_set (F := fun x => x = b) w' b k v rfl
  have tr : ∀ {w1 w2 w3 : World}, Kept (fun x => x = b) w1 w2 → Kept (fun x => x = b) w2 w3 → Kept (fun x => x = b) w1 w3 := fun h k => h.trans k (fun _ _ h => h)
  exact tr (tr (tr (tr (tr (tr (tr (ks _ 0 _) (ks _ 1 _)) (ks _ 2 _)) (ks _ 3 _)) (ks _ 4 _)) (ks _ 5 _)) (ks _ 6 _)) (ks _ 7 _)
theorem new8 {w : World} {b : Nat} {g : Nat → Nat} {t : TypeId} (h : w.heap[b]? = some (.cells (cells8 g) t (0, 0))) (hg : ∀ k, g k < 18446744073709551616) : RowAt w b 0 g :=
  ⟨fun k hk => by
    match k, hk with
    | 0, _ | 1, _ | 2, _ | 3, _ | 4, _ | 5, _ | 6, _ | 7, _ => simp [World.cell?, h, cells8], fun k hk => by simp [World.frozen?, h], hg⟩
theorem row_info : (Tryz.prog.info? 114).map (·.size) = some 8 := by kernel_rfl
theorem RowAt.load {w : World} {b ro : Nat} {g : Nat → Nat} (h : RowAt w b ro g) : (loadVar 114 ⟨b, ro, none⟩).run Tryz.prog w = .ok (words g) w :=
  run_loadVar_mid (P := Tryz.prog) w b ro 114 (cells8 g).toList _ h.range Tryz.underlying114 rfl row_info
theorem idx8 (g : Nat → Nat) (k : Nat) (hk : k < 8) (w : World) : (Instr.index 114 (.agg (cells8 g)) (.int .i64 (k : Nat))).run Tryz.prog w = .ok (.int .u64 ((g k : Nat) : Int)) w := by
  obtain rfl | rfl | rfl | rfl | rfl | rfl | rfl | rfl : k = 0 ∨ k = 1 ∨ k = 2 ∨ k = 3 ∨ k = 4 ∨ k = 5 ∨ k = 6 ∨ k = 7 := by omega
  all_goals kernel_rfl
theorem results_one9 {fn : Func} {p : Tmp} {ty : TypeId} (h : fn.results = #[.cell p ty]) (tmps : Array Value) (w : World) (a : Addr) (v : Value) (ha : tmps.getD p undef = .pointer (some a)) (hv : (loadVar ty a).run Tryz.prog w = .ok v w) :
    (results fn tmps).run Tryz.prog w = .ok v w := by
  have hp' : tmps[p]?.getD undef = .pointer (some a) := by simpa using ha
  simp [results, h, hp', asAddr, hv]
theorem results_two {fn : Func} {p q : Tmp} {ty ty' : TypeId} (h : fn.results = #[.cell p ty, .cell q ty']) (tmps : Array Value) (w : World) (a a' : Addr) (v v' : Value) (ha : tmps.getD p undef = .pointer (some a)) (ha' : tmps.getD q undef = .pointer (some a')) (hv : (loadVar ty a).run Tryz.prog w = .ok v w) (hv' : (loadVar ty' a').run Tryz.prog w = .ok v' w) :
    (results fn tmps).run Tryz.prog w = .ok (.tuple #[v, v']) w := by
  have hp' : tmps[p]?.getD undef = .pointer (some a) := by simpa using ha
  have hq' : tmps[q]?.getD undef = .pointer (some a') := by simpa using ha'
  simp [results, h, hp', hq', asAddr, hv, hv']
set_option maxRecDepth 100000 in
set_option maxHeartbeats 4000000 in
theorem rows_any (b : Nat) (u g : Nat → Bool) (w : World) (h : ChF w b u g) :
    Calls Tryz.prog 92 #[.pointer (some ⟨b, 0, none⟩)] w fun e w' => ∃ gu gg : Nat → Nat, e = .returned (.tuple #[words gu, words gg]) ∧ (∀ k, gu k < 18446744073709551616) ∧ (∀ k, gg k < 18446744073709551616) ∧ (∀ i, i < 512 → bitW gu i = u i) ∧ (∀ i, i < 512 → bitW gg i = g i) ∧ Below w.heap.size w w' := by
  obtain ⟨⟨gu, hu, fu⟩, ⟨gg, hg, fg⟩⟩ := h
  obtain ⟨N, hN⟩ : ∃ N, w.heap.size = N := ⟨_, rfl⟩
  have hb := hu.lt
  obtain ⟨w0, hw0⟩ : ∃ w0, w0 = (w.alloc (.cells (cells8 (fun _ => 0)) 114)).alloc (.cells (cells8 (fun _ => 0)) 114) := ⟨_, rfl⟩
  have k0 : Below w.heap.size w w0 := by rw [hw0]; exact ((Below.refl _ w).alloc (Nat.le_refl _) _).alloc (by simp) _
  have z0 : w0.heap[w.heap.size]? = some (.cells (cells8 (fun _ => 0)) 114 (0, 0)) := by rw [hw0, alloc_at, if_neg (by simp), alloc_at, if_pos rfl]
  have z1 : w0.heap[w.heap.size + 1]? = some (.cells (cells8 (fun _ => 0)) 114 (0, 0)) := by rw [hw0, alloc_at, if_pos (by simp)]
  have R := hide (show ∀ W, Below w.heap.size w W → ∃ gu' gg' : Nat → Nat, Ending.returned (.tuple #[words gu, words gg]) = .returned (.tuple #[words gu', words gg']) ∧ (∀ k, gu' k < 18446744073709551616) ∧ (∀ k, gg' k < 18446744073709551616) ∧ (∀ i, i < 512 → bitW gu' i = u i) ∧ (∀ i, i < 512 → bitW gg' i = g i) ∧ Below w.heap.size w W from fun W hW => ⟨gu, gg, rfl, hu.fit, hg.fit, fu, fg, hW⟩)
  have W0 := hide hw0
  have Z0 := hide (new8 z0 (fun _ => by omega))
  have Z1 := hide (new8 z1 (fun _ => by omega))
  have K0 := hide k0
  have HU := hide (hu.below k0)
  have HG := hide (hg.below k0)
  rw [hN] at Z0 Z1
  have n0 : b ≠ N := by omega
  have n1 : b ≠ N + 1 := by omega
  have n2 : N ≠ b := by omega
  have n3 : N + 1 ≠ b := by omega
  clear hw0 z0 z1 k0 hu hg fu fg hb
  go_enter Tryz.func92, Tryz.ntmps92
  go_wp2_with fail
  have e0 := W0.out
  unfold cells8 at e0
  simp only [Int.ofNat_zero, Int.natCast_zero] at e0
  rw [← e0]
  clear e0 W0
  obtain ⟨u0, u1, u2, u3, u4, u5, u6, u7⟩ := HU.out.all0
  obtain ⟨v0, v1, v2, v3, v4, v5, v6, v7⟩ := HG.out.all8
  obtain ⟨x0, x1, x2, x3, x4, x5, x6, x7⟩ := Z0.out.all0
  obtain ⟨y0, y1, y2, y3, y4, y5, y6, y7⟩ := Z1.out.all0
  have p0 := Z0.out.frozen 0 (by omega)
  have p1 := Z0.out.frozen 1 (by omega)
  have p2 := Z0.out.frozen 2 (by omega)
  have p3 := Z0.out.frozen 3 (by omega)
  have p4 := Z0.out.frozen 4 (by omega)
  have p5 := Z0.out.frozen 5 (by omega)
  have p6 := Z0.out.frozen 6 (by omega)
  have p7 := Z0.out.frozen 7 (by omega)
  have q0 := Z1.out.frozen 0 (by omega)
  have q1 := Z1.out.frozen 1 (by omega)
  have q2 := Z1.out.frozen 2 (by omega)
  have q3 := Z1.out.frozen 3 (by omega)
  have q4 := Z1.out.frozen 4 (by omega)
  have q5 := Z1.out.frozen 5 (by omega)
  have q6 := Z1.out.frozen 6 (by omega)
  have q7 := Z1.out.frozen 7 (by omega)
  simp only [Nat.zero_add] at p0 p1 p2 p3 p4 p5 p6 p7 q0 q1 q2 q3 q4 q5 q6 q7
  go_region_held3 (fun w' => w'.cell? ⟨b, 0, none⟩ = some (.int .u64 ((gu 0 : Nat) : Int)) ∧ w'.cell? ⟨b, 1, none⟩ = some (.int .u64 ((gu 1 : Nat) : Int)) ∧ w'.cell? ⟨b, 2, none⟩ = some (.int .u64 ((gu 2 : Nat) : Int)) ∧ w'.cell? ⟨b, 3, none⟩ = some (.int .u64 ((gu 3 : Nat) : Int)) ∧ w'.cell? ⟨b, 4, none⟩ = some (.int .u64 ((gu 4 : Nat) : Int)) ∧ w'.cell? ⟨b, 5, none⟩ = some (.int .u64 ((gu 5 : Nat) : Int)) ∧ w'.cell? ⟨b, 6, none⟩ = some (.int .u64 ((gu 6 : Nat) : Int)) ∧ w'.cell? ⟨b, 7, none⟩ = some (.int .u64 ((gu 7 : Nat) : Int)) ∧ w'.cell? ⟨b, 8, none⟩ = some (.int .u64 ((gg 0 : Nat) : Int)) ∧ w'.cell? ⟨b, 9, none⟩ = some (.int .u64 ((gg 1 : Nat) : Int)) ∧ w'.cell? ⟨b, 10, none⟩ = some (.int .u64 ((gg 2 : Nat) : Int)) ∧ w'.cell? ⟨b, 11, none⟩ = some (.int .u64 ((gg 3 : Nat) : Int)) ∧ w'.cell? ⟨b, 12, none⟩ = some (.int .u64 ((gg 4 : Nat) : Int)) ∧ w'.cell? ⟨b, 13, none⟩ = some (.int .u64 ((gg 5 : Nat) : Int)) ∧ w'.cell? ⟨b, 14, none⟩ = some (.int .u64 ((gg 6 : Nat) : Int)) ∧ w'.cell? ⟨b, 15, none⟩ = some (.int .u64 ((gg 7 : Nat) : Int))) (go_keep) (fail)
  have r0 := (Z0.out.put8 HU.out.fit)
  have kk := kept_put8 w0 N gu
  have r1 := (Z1.out.kept kk (by omega)).put8 HG.out.fit
  have kk2 := kept_put8 (put8 w0 N gu) (N + 1) gg
  have r0' := r0.kept kk2 (by omega)
  have be := below_kept (below_kept K0.out kk (fun x hx => by omega) K0.out.size) kk2 (fun x hx => by omega) (Nat.le_trans K0.out.size kk.size)
  have bd := be.trans ((drew_below _).mono be.size)
  have d0 := r0'.below (drew_below _)
  have d1 := r1.below (drew_below _)
  obtain ⟨Wf, hWf⟩ : ∃ Wf, Wf = (put8 (put8 w0 N gu) (N + 1) gg).drew := ⟨_, rfl⟩
  rw [← hWf] at bd d0 d1
  unfold put8 at hWf
  have HW := hide hWf
  have D0 := hide d0
  have D1 := hide d1
  have BD := hide bd
  rw [← hWf]
  clear hWf d0 d1 bd r0 r1 r0' be kk kk2
  go_wp2_with fail
  exact bodyPost_ret (results_two Tryz.results92 _ Wf ⟨N, 0, none⟩ ⟨N + 1, 0, none⟩ _ _ rfl rfl D0.out.load D1.out.load) rfl (R.out _ BD.out)
set_option maxRecDepth 100000 in
set_option maxHeartbeats 4000000 in
theorem idle_any (b : Nat) (u g : Nat → Bool) (w : World) (h : ChF w b u g) :
    Calls Tryz.prog 87 #[.pointer (some ⟨b, 0, none⟩)] w fun e w' => ∃ gi : Nat → Nat, e = .returned (words gi) ∧ (∀ k, gi k < 18446744073709551616) ∧ (∀ i, i < 512 → bitW gi i = (u i || g i)) ∧ Below w.heap.size w w' := by
  obtain ⟨⟨gu, hu, fu⟩, ⟨gg, hg, fg⟩⟩ := h
  obtain ⟨u0, u1, u2, u3, u4, u5, u6, u7⟩ := hu.all0
  obtain ⟨v0, v1, v2, v3, v4, v5, v6, v7⟩ := hg.all8
  have hb := hu.lt
  obtain ⟨w0, hw0⟩ : ∃ w0, w0 = (w.alloc (.cells (cells8 (fun _ => 0)) 114)).alloc (.cells (cells8 gu) 114) := ⟨_, rfl⟩
  have k0 : Below w.heap.size w w0 := by rw [hw0]; exact ((Below.refl _ w).alloc (Nat.le_refl _) _).alloc (by simp) _
  have z0 : w0.heap[w.heap.size]? = some (.cells (cells8 (fun _ => 0)) 114 (0, 0)) := by rw [hw0, alloc_at, if_neg (by simp), alloc_at, if_pos rfl]
  have z1 : w0.heap[w.heap.size + 1]? = some (.cells (cells8 gu) 114 (0, 0)) := by rw [hw0, alloc_at, if_pos (by simp)]
  obtain ⟨gi, hgi⟩ : ∃ gi : Nat → Nat, gi = fun k => gu k ||| gg k := ⟨_, rfl⟩
  have fi : ∀ k, gi k < 18446744073709551616 := fun k => by rw [hgi]; exact or_lt (hu.fit k) (hg.fit k)
  have bi : ∀ i, i < 512 → bitW gi i = (u i || g i) := fun i hi => by rw [hgi, ← fu i hi, ← fg i hi]; unfold bitW; rw [Nat.testBit_or]
  have R := hide (show ∀ W, Below w.heap.size w W → ∃ gi' : Nat → Nat, Ending.returned (words gi) = .returned (words gi') ∧ (∀ k, gi' k < 18446744073709551616) ∧ (∀ i, i < 512 → bitW gi' i = (u i || g i)) ∧ Below w.heap.size w W from fun W hW => ⟨gi, rfl, fi, bi, hW⟩)
  have W0 := hide hw0
  have Z0 := hide (new8 z0 (fun _ => by omega))
  have Z1 := hide (new8 z1 hu.fit)
  have K0 := hide k0
  have FU := hide hu.fit
  have FG := hide hg.fit
  have GI := hide hgi
  have FI := hide fi
  clear hu hg fu fg hw0 k0 z0 z1 hgi fi bi
  go_enter Tryz.func87, Tryz.ntmps87
  go_wp2
  have e0 := W0.out
  unfold cells8 at e0
  simp only [Int.ofNat_zero, Int.natCast_zero] at e0
  rw [← e0]
  obtain ⟨N, hN⟩ : ∃ N, w.heap.size = N := ⟨_, rfl⟩
  simp only [hN] at Z0 Z1 ⊢
  have HN := hide hN
  clear hN
  clear e0 W0 u0 u1 u2 u3 u4 u5 u6 u7 v0 v1 v2 v3 v4 v5 v6 v7
  go_loopw [14] (fun v wr => ∃ k : Nat, v = .int .i64 (k : Int) ∧ k ≤ 8 ∧ Hid (RowAt wr (N + 1) 0 (fun j => if j < k then gi j else gu j) ∧ RowAt wr N 0 (fun _ => 0) ∧ Below w.heap.size w wr)) (fun v _ => 8 - (intOf v).toNat)
  case atStart => exact ⟨0, rfl, by omega, hide ⟨Z1.out, Z0.out, K0.out⟩⟩
  case round =>
    obtain ⟨k, rfl, hk, HR⟩ := hrel
    by_cases hlt : k < 8
    · have c1 := HR.out.1.cell k hlt
      have f1 := HR.out.1.frozen k hlt
      rw [if_neg (Nat.lt_irrefl k), Nat.zero_add] at c1
      rw [Nat.zero_add] at f1
      have hb := w_or (gu k) (gg k) (FU.out k) (FG.out k)
      have fin : ∀ W, W = wr.setCell ⟨N + 1, k, none⟩ (.int .u64 ((gu k ||| gg k : Nat) : Int)) → Hid (RowAt W (N + 1) 0 (fun j => if j < k + 1 then gi j else gu j) ∧ RowAt W N 0 (fun _ => 0) ∧ Below w.heap.size w W) := fun W hW => by
        have s1 := HR.out.1.set k (gu k ||| gg k) hlt (or_lt (FU.out k) (FG.out k))
        rw [Nat.zero_add, ← hW] at s1
        have k1 : Kept (fun x => x = N + 1) wr W := by rw [hW]; exact kept_set wr (N + 1) k _ rfl
        refine hide ⟨s1.congr (fun j hj => ?_) (fun j => ?_), HR.out.2.1.kept k1 (by omega), below_kept HR.out.2.2 k1 (fun x hx => by have := HN.out; omega) HR.out.2.2.size⟩
        · by_cases e : j = k
          · rw [if_pos e, if_pos (by omega), GI.out, e]
          · rw [if_neg e]
            by_cases l : j < k
            · rw [if_pos l, if_pos (by omega)]
            · rw [if_neg l, if_neg (by omega)]
        · by_cases l : j < k + 1
          · rw [if_pos l]; exact FI.out j
          · rw [if_neg l]; exact FU.out j
      have FIN := hide fin
      clear fin
      have hlt' : (k : Int) < 8 := by omega
      have hx := idx8 gg k hlt wr
      unfold cells8 at hx
      go_wp2_with (simp only [hx])
      refine ⟨⟨k + 1, by rw [Int.natCast_add]; rfl, by omega, ?_⟩, ?_⟩
      · exact FIN.out _ (by first | rfl | rw [hb])
      · simp [intOf]; omega
    · have hk8 : k = 8 := by omega
      subst hk8
      have HH := hide (HR.out.1.congr (g' := gi) (fun j hj => by rw [if_pos hj]) FI.out)
      obtain ⟨u0, u1, u2, u3, u4, u5, u6, u7⟩ := HH.out.all0
      obtain ⟨x0, x1, x2, x3, x4, x5, x6, x7⟩ := HR.out.2.1.all0
      have p0 := HR.out.2.1.frozen 0 (by omega)
      have p1 := HR.out.2.1.frozen 1 (by omega)
      have p2 := HR.out.2.1.frozen 2 (by omega)
      have p3 := HR.out.2.1.frozen 3 (by omega)
      have p4 := HR.out.2.1.frozen 4 (by omega)
      have p5 := HR.out.2.1.frozen 5 (by omega)
      have p6 := HR.out.2.1.frozen 6 (by omega)
      have p7 := HR.out.2.1.frozen 7 (by omega)
      simp only [Nat.zero_add] at p0 p1 p2 p3 p4 p5 p6 p7
      have r1 := HR.out.2.1.put8 FI.out
      have r2 := below_kept HR.out.2.2 (kept_put8 wr N gi) (fun x hx => by have := HN.out; omega) HR.out.2.2.size
      have e0 : put8 wr N gi = put8 wr N gi := rfl
      obtain ⟨Wf, hWf⟩ : ∃ Wf, Wf = put8 wr N gi := ⟨_, rfl⟩
      rw [← hWf] at r1 r2
      unfold put8 at hWf
      have HW := hide hWf
      have R1 := hide r1
      have R2 := hide r2
      clear hWf r1 r2 e0 hlt hk
      go_wp2_with fail
      rw [← HW.out]
      exact bodyPost_ret (results_one9 Tryz.results87 _ Wf ⟨N, 0, none⟩ _ rfl R1.out.load) rfl (R.out _ R2.out)
end Go.Proofs.YtnclicdnncgdiaaGreatDoor
