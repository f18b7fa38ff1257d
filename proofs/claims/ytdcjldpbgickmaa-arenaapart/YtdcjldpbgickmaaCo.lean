/- slices.AppendSeq, slices.Collect over a map's keys: contracts. -/
import Derived.Test.YtdcjldpbgickmaaKy
import Derived.Deep.AppendLies
namespace Go.Proofs.Ytdcjldpbgickmaa
open Go.ChangeShapes Go.WideShapes Go.ChangeAt Go.RowKit Go.Shelf Go.Proofs.Rx Go.Maps
set_option linter.unusedVariables false
set_option linter.unusedSimpArgs false

attribute [local go_sem] Oper.semAt_some

def encU (x : Nat) : Value := .int .u64 (x : Nat)
theorem infoU : (Try.prog.info? 35).map (fun i => (i.zero, i.size, i.bytes)) = some (some (.int .u64 0), 1, 8) := by kernel_rfl
theorem own_eq {g0 g n c : Nat} (h : (Value.slice (some ⟨g0, 0, none⟩) n c).ownBlock = some g) : g0 = g := by simpa [Value.ownBlock] using h
theorem owns_kept {F : Nat → Prop} {W W' : World} {M e sz n : Nat} {v : Value} {xs : List Value} (h : W.ownsRow M e sz v n xs) (k : Kept F W W') (hF : ∀ g, v.ownBlock = some g → ¬ F g) : W'.ownsRow M e sz v n xs := by
  refine ⟨h.1, ?_⟩
  rcases h.2 with ⟨a, b⟩ | ⟨g, cap, cur, a, b, c, d⟩
  · exact .inl ⟨a, b⟩
  · exact .inr ⟨g, cap, cur, a, b, kept_at k c (hF g (by rw [a]; rfl)), d⟩
/-- Between two rounds of AppendSeq. -/
structure AK (N : Nat) (w : World) (pre : List Nat) (W : World) : Prop where
  row : ∃ v, Boxed W N 27 v ∧ W.ownsRow N 35 1 v pre.length (pre.map encU) ∧ ∀ g, v.ownBlock = some g → N + 3 ≤ g
  be : Below N w W
theorem AK.kept {F : Nat → Prop} {N : Nat} {w : World} {pre : List Nat} {W W' : World} (h : AK N w pre W) (k : Kept F W W') (hF : ∀ b, F b → b = N + 1 ∨ b = N + 2) : AK N w pre W' := by
  obtain ⟨v, h1, h2, h3⟩ := h.row
  have nf : ∀ g, v.ownBlock = some g → ¬ F g := fun g hg f => by have := hF g f; have := h3 g hg; omega
  exact ⟨⟨v, boxed_kept h1 k (fun f => by have := hF _ f; omega), owns_kept h2 k nf, h3⟩, below_kept h.be k (fun b f => by have := hF _ f; omega) (by have := box_lt h1; omega)⟩
theorem AK.abides (N : Nat) (w : World) : AbidesFrom (N + 3) (AK N w) := fun s W W' row h hg hrow => by
  obtain ⟨v, h1, h2, h3⟩ := h.row
  have hrow' : ∀ r, row = some r → ∃ o : Obj, W.heap[r]? = some o ∧ o.isWalk = true := fun r e => (hrow r e).2
  have kk : Kept (fun b => row = some b) W W' := Kept.of_grown hg (fun k e => e)
  refine ⟨⟨v, boxed_kept h1 kk (fun e => by have := (hrow N e).1; omega), owns_kept h2 kk (fun g hg2 e => ?_), h3⟩, below_kept h.be kk (fun b e => by have := (hrow b e).1; omega) (by have := box_lt h1; omega)⟩
  obtain ⟨o, ho, hw⟩ := hrow' g e
  rcases h2.2 with ⟨z, _⟩ | ⟨g', cap, cur, z1, z2, z3, z4⟩
  · rw [z] at hg2; simp [Value.ownBlock] at hg2
  · rw [z1] at hg2
    rw [← own_eq hg2, z3] at ho
    cases ho
    cases hw
set_option maxRecDepth 100000 in
set_option maxHeartbeats 4000000 in
theorem appendKeys_any (Bm kb : Nat) (G : Nat → Option (Int × Option Nat)) (w : World) (hB : Boxed w Bm 49 (.map (some kb))) (hM : MapG encO w kb G) :
    Calls Try.prog 34 #[.slice none 0 0, .func (.func 30) #[] #[.pointer (some ⟨Bm, 0, none⟩)]] w fun e w' =>
      ∃ (v : Value) (L : List Nat), e = .returned v ∧ (L.Nodup ∧ ∀ p, p ∈ L ↔ (p < 18446744073709551616 ∧ (G p).isSome = true)) ∧ w'.ownsRow w.heap.size 35 1 v L.length (L.map encU) ∧ Below w.heap.size w w' := by
  obtain ⟨i0, hi, hz0, hz1, hz2⟩ := info_parts infoU
  obtain ⟨N, hN⟩ : ∃ N, w.heap.size = N := ⟨_, rfl⟩
  have RD := hide (show ∀ A, Below N w A → Boxed A Bm 49 (.map (some kb)) ∧ MapG encO A kb G from fun A hA => by
    rw [← hN] at hA
    exact ⟨boxed_block hB (hA.block _ (box_lt hB)), hM.below hA⟩)
  have SEQ := hide (keys_seq Bm kb G 2 (by omega))
  clear hB hM
  refine (callsIn_wide (n := 3)).1 ?_
  refine callsIn_of_wp_marks Try.func34 rfl trivial ?_ rfl
  simp only [Try.ntmps34, List.size_toArray, List.length_cons, List.length_nil, Nat.reduceAdd, Nat.reduceSub, Array.replicate_succ, Array.replicate_zero, List.push_toArray, List.append_toArray, List.nil_append, List.cons_append]
  gi_wp2_with fail
  obtain ⟨w5, h5⟩ : ∃ w5, w.alloc (.cells #[.slice none 0 0] 27) = w5 := ⟨_, rfl⟩
  have s5 : w5.heap.size = N + 1 := by rw [← h5]; simp [hN]
  have b5 : Below N w w5 := by rw [← h5, ← hN]; exact (Below.refl _ w).alloc (Nat.le_refl _) _
  have f0 : AK N w [] w5 := ⟨⟨_, by rw [← h5, ← hN]; exact Boxed.new w _ _, World.ownsRow_nil _ _ _ _, fun g hg => by simp [Value.ownBlock] at hg⟩, b5⟩
  have F0 := hide f0
  rw [h5]
  clear f0 b5 h5
  refine range_map (w := w5) rfl (enters_of Try.func30 (by kernel_rfl) rfl) SEQ.out rfl (AK N w) (fun s A h => RD.out A h.be) ?hI ?hA F0.out ?round ?done
  case hI =>
    intro s A A' h k
    rw [s5] at k
    exact h.kept k (fun b hb => by omega)
  case hA => rw [s5]; exact AK.abides N w
  case round =>
    rintro pre x W ⟨r0, hr0⟩ hd0 h hx hlen
    rw [s5] at hr0 hd0 ⊢
    have hlW : N + 2 < W.heap.size := (Array.getElem?_eq_some_iff.1 hr0).1
    have H := hide h
    have HR0 := hide hr0
    have HD0 := hide hd0
    clear h hr0 hd0
    gi_wp2_with fail
    refine ⟨Two.refl _ _, KeepsWalks.refl _, fun r => ?_⟩
    obtain ⟨v, hv, hrow, hfar⟩ := H.out.row
    obtain ⟨W2, hW2⟩ : ∃ W2, W.putObj (N + 1 + 1) (.loop r) = W2 := ⟨_, rfl⟩
    have k2 : Kept (fun b => b = N + 2) W W2 := by rw [← hW2]; exact Kept.put W (N + 1 + 1) _ rfl
    have hl2 : W2.heap[N + 2]? = some (.loop r) := by rw [← hW2]; exact World.putObj_heap_same hlW
    have hd2 : W2.heap[N + 1]? = some (.deferred (some [])) := kept_at k2 HD0.out (by omega)
    have hv2 := boxed_kept hv k2 (by omega)
    have hrow2 := owns_kept hrow k2 (fun g e => by have := hfar g e; omega)
    have hB2 := below_kept H.out.be k2 (fun b hb => by omega) (by omega)
    have hs2 := k2.size
    rw [hW2]
    have cb := hv2.cell
    have MM : N ≤ W2.heap.size := by omega
    have nb : ∀ g, v.ownBlock = some g → g ≠ N + 1 ∧ g ≠ N + 2 := fun g e => by have := hfar g e; omega
    have shape : v = .slice none 0 0 ∨ ∃ g cap, v = .slice (some ⟨g, 0, none⟩) pre.length cap := by
      rcases hrow.2 with ⟨a, b⟩ | ⟨g, cap, cur, a, b, c, d⟩
      · exact .inl a
      · exact .inr ⟨g, cap, a⟩
    have HV2 := hide hv2
    have HROW2 := hide hrow2
    have HB2 := hide hB2
    have HL2 := hide hl2
    have HD2 := hide hd2
    have NB := hide nb
    clear hW2 k2 hv2 hrow2 hrow hv hfar hB2 hl2 hd2 nb
    have FINR := hide (show ∀ (v' : Value) (w1 : World) (o : Obj), w1.ownsRow N 35 1 v' (pre.length + 1) (pre.map encU ++ [encU x]) → (W2.alloc o).grownBy w1 v.ownBlock → ∀ act, endM (N + 1) (AK N w) (pre ++ [x]) W2 .normal act (w1.setCell ⟨N, 0, none⟩ v') from fun v' w1 o hown' hgrow act => by
      obtain ⟨hv1, hv3, hr3, hk3, hb3⟩ := HV2.out.appended (tmp := o) (by decide) HROW2.out MM (Nat.le_refl _) hown' hgrow
      have k3 : Kept (fun b => v.ownBlock = some b ∨ b = N) W2 (w1.setCell ⟨N, 0, none⟩ v') :=
        ((Kept.of_below (below_alloc W2 _)).trans (Kept.of_grown hgrow (fun k e => .inl e)) (fun _ _ h => h)).trans (kept_set w1 N 0 _ (.inr rfl)) (fun _ _ h => h)
      have d3 := kept_at k3 HD2.out (fun z => by rcases z with z | z; exact (NB.out _ z).1 rfl; omega)
      have l3 := kept_at k3 HL2.out (fun z => by rcases z with z | z; exact (NB.out _ z).2 rfl; omega)
      refine ⟨fun k hk ob ho => ?_, ⟨k3.size, fun k ob ho hw => ?_⟩, ⟨⟨v', hv3, ?_, ?_⟩, HB2.out.trans hb3⟩⟩
      · rcases hk with rfl | rfl
        · exact kept_at k3 ho (fun z => by rcases z with z | z; exact (NB.out _ z).1 rfl; omega)
        · exact kept_at k3 ho (fun z => by rcases z with z | z; exact (NB.out _ z).2 rfl; omega)
      · refine kept_at k3 ho (fun z => ?_)
        rcases z with z | z
        · rcases HROW2.out.2 with ⟨a, b⟩ | ⟨g, cap, cur, a, b, c, d⟩
          · rw [a] at z; simp [Value.ownBlock] at z
          · rw [a] at z
            rw [← own_eq z, c] at ho
            cases ho; cases hw
        · have := HV2.out
          rw [z, show W2.heap[N]? = _ from HV2.out] at ho
          cases ho; cases hw
      · rw [List.length_append, List.length_singleton, List.map_append]; exact hr3
      · intro b hb
        rcases hr3.2 with ⟨z, _⟩ | ⟨q, qc, cur, q1, q2, q3, q4⟩
        · rw [z] at hb; simp [Value.ownBlock] at hb
        · rw [q1] at hb
          have e := own_eq hb
          subst e
          have n0 : q ≠ N := fun e => hv3.not_row (by decide) hr3 (by rw [q1, ← e]; rfl)
          have n1 : q ≠ N + 1 := fun e => by have h := d3; rw [← e, q3] at h; cases h
          have n2 : q ≠ N + 2 := fun e => by have h := l3; rw [← e, q3] at h; cases h
          omega)
    have HX := hide hx
    clear hx
    have law := fun (act : Act) => @FINR.out
    rcases shape with rfl | ⟨g, cap, rfl⟩
    all_goals
      gi_wp2_with (gi_at_builtin; refine wpListIn_append_own _ rfl _ _ 27 rfl N 35 i0 (.int .u64 0) 1 8 Try.underlying27 hi hz0 hz1 hz2 rfl (by decide) _ _ _ rfl (HROW2.out.alloc _) ⟨W2.heap.size, 0, none⟩ 1 1 [encU x] rfl rfl (World.news_of_block (World.alloc_heap_new W2 _)) (fun u hu => by simp at hu; subst hu; rfl) (by unfold maxLen; omega) (by omega) (by simp; omega) ?_; intro v' w1 hown' hgrow _; obtain ⟨g', cap', hv'⟩ := ownsRow_succ hown'; obtain ⟨hv1, hv3, hr3, hk3, hb3⟩ := HV2.out.appended (by decide) HROW2.out MM (Nat.le_refl _) hown' hgrow; have hc1 := hv1.cell; have hf1 := hv1.frozen; have FF := hide (FINR.out v' w1 _ hown' hgrow); clear hv1 hv3 hr3 hk3 hb3 hown' hgrow; subst hv')
      exact FF.out _
  case done =>
    rintro L W hL h hd
    rw [s5] at hd ⊢
    obtain ⟨v, hv, hrow, hfar⟩ := h.row
    have cb := hv.cell
    have k6 := Kept.put (F := fun b => b = N + 1) W (N + 1) (.deferred none) rfl
    have r6 := owns_kept hrow k6 (fun g e => by have := hfar g e; omega)
    have b6 := below_kept h.be k6 (fun b hb => by omega) (by have := box_lt hv; omega)
    have R6 := hide r6
    have B6 := hide b6
    have HD := hide hd
    have HL := hide hL
    have shape : v = .slice none 0 0 ∨ ∃ g cap, v = .slice (some ⟨g, 0, none⟩) L.length cap := by
      rcases hrow.2 with ⟨a, b⟩ | ⟨g, cap, cur, a, b, c, d⟩
      · exact .inl a
      · exact .inr ⟨g, cap, a⟩
    clear r6 b6 k6 hd h hrow hfar hv hL
    rcases shape with rfl | ⟨g, cap, rfl⟩
    all_goals
      gi_wp2_with fail
      refine ⟨by simp, .inl ⟨_, _, rfl, run_takeDeferred HD.out, ?_⟩⟩
      exact ⟨_, results_tmp (t := 4) rfl _ _ _, _, L, rfl, HL.out, by rw [hN]; exact R6.out, by rw [hN]; exact B6.out⟩
end Go.Proofs.Ytdcjldpbgickmaa
