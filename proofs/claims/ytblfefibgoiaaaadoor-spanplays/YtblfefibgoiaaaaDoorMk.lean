/- slices.AppendSeq over the iterator; Make, Table. -/
import Derived.Test.YtblfefibgoiaaaaDoorFd
import Derived.Deep.AppendLies
namespace Go.Proofs.YtblfefibgoiaaaaDoor
open Go.ChangeShapes Go.WideShapes Go.ChangeAt Go.RowKit Go.Proofs.Cl Go.Shelf
set_option linter.unusedVariables false
set_option linter.unusedSimpArgs false

attribute [local go_sem] Oper.semAt_some

/-- Classes as the cells of their row. -/
def flatC (l : List Cls) : List Value := l.flatMap fun c => [.int .i64 (c.size : Nat), .int .i64 (c.pages : Nat), .int .i64 (c.slots : Nat), .int .u32 (c.magic : Nat)]
theorem flatC_len (l : List Cls) : (flatC l).length = l.length * 4 := by
  induction l with
  | nil => rfl
  | cons a l ih => simp only [flatC, List.flatMap_cons, List.length_append, List.length_cons, List.length_nil] at ih ⊢; omega
theorem flatC_append (a b : List Cls) : flatC (a ++ b) = flatC a ++ flatC b := by simp [flatC]
theorem flatC_one (c : Cls) : flatC [c] = [.int .i64 (c.size : Nat), .int .i64 (c.pages : Nat), .int .i64 (c.slots : Nat), .int .u32 (c.magic : Nat)] := rfl
theorem infoC : (Tryd.prog.info? 54).map (fun i => (i.zero, i.size, i.bytes)) = some (some (.agg #[.int .i64 0, .int .i64 0, .int .i64 0, .int .u32 0]), 4, 32) := by kernel_rfl
theorem flatC_one' (l : List Cls) : ∀ u ∈ flatC l, u.oneCell' = true := by
  intro u hu
  simp only [flatC, List.mem_flatMap] at hu
  obtain ⟨c, _, h⟩ := hu
  simp at h
  rcases h with rfl | rfl | rfl | rfl <;> rfl

theorem own_eq {g0 g n c : Nat} (h : (Value.slice (some ⟨g0, 0, none⟩) n c).ownBlock = some g) : g0 = g := by simpa [Value.ownBlock] using h
/-- Between two rounds of AppendSeq. -/
structure AI (M N page most Bp Bm : Nat) (w : World) (pre : List Cls) (W : World) : Prop where
  row : ∃ v, Boxed W N 50 v ∧ W.ownsRow M 54 4 v (pre.length + 1) (flatC (zeroC :: pre)) ∧ ∀ g, v.ownBlock = some g → g < N ∨ N + 3 ≤ g ∧ ¬ Box4 W g
  b : Below M w W
  p : Boxed W Bp 3 (.int .i64 page)
  m : Boxed W Bm 3 (.int .i64 most)
theorem owns_kept {F : Nat → Prop} {W W' : World} {M e sz n : Nat} {v : Value} {xs : List Value} (h : W.ownsRow M e sz v n xs) (k : Kept F W W') (hF : ∀ g, v.ownBlock = some g → ¬ F g) : W'.ownsRow M e sz v n xs := by
  refine ⟨h.1, ?_⟩
  rcases h.2 with ⟨a, b⟩ | ⟨g, cap, cur, a, b, c, d⟩
  · exact .inl ⟨a, b⟩
  · exact .inr ⟨g, cap, cur, a, b, kept_at k c (hF g (by rw [a]; rfl)), d⟩
theorem AI.kept {F : Nat → Prop} {M N page most Bp Bm : Nat} {w : World} {pre : List Cls} {W W' : World} (h : AI M N page most Bp Bm w pre W) (k : Kept F W W') (hM : M ≤ N) (hp : Bp < N) (hm : Bm < N) (hF : ∀ b, F b → N + 1 ≤ b ∧ (b < N + 3 ∨ Box4 W b)) : AI M N page most Bp Bm w pre W' := by
  obtain ⟨v, h1, h2, h3⟩ := h.row
  have nf : ∀ g, v.ownBlock = some g → ¬ F g := fun g hg f => by
    have := hF g f
    rcases h3 g hg with z | z
    · omega
    · rcases this.2 with y | y
      · omega
      · exact z.2 y
  refine ⟨⟨v, boxed_kept h1 k (fun f => by have := hF _ f; omega), owns_kept h2 k nf, fun g hg => ?_⟩, below_kept h.b k (fun b f => by have := hF _ f; omega) (by have := box_lt h1; omega), boxed_kept h.p k (fun f => by have := hF _ f; omega), boxed_kept h.m k (fun f => by have := hF _ f; omega)⟩
  rcases h3 g hg with z | z
  · exact .inl z
  · refine .inr ⟨z.1, fun hb => z.2 ?_⟩
    have hl := (h2.lt g hg).2
    exact box4_block hb (k.block g hl (nf g hg)).symm

set_option maxRecDepth 100000 in
set_option maxHeartbeats 4000000 in
theorem appendSeq_any (page most : Nat) (hp : 1024 ≤ page) (hp2 : page ≤ 65536) (hm : 64 ≤ most) (hm2 : most ≤ 262144) (M Bp Bm : Nat) (w : World) (hM : M ≤ w.heap.size) (xp : Boxed w Bp 3 (.int .i64 page)) (xm : Boxed w Bm 3 (.int .i64 most)) (v0 : Value)
    (hv0 : w.ownsRow M 54 4 v0 1 (flatC [zeroC])) :
    Calls Tryd.prog 60 #[v0, .func (.func 64) #[] #[.pointer (some ⟨Bm, 0, none⟩), .pointer (some ⟨Bp, 0, none⟩)]] w fun e w' =>
      ∃ v, e = .returned v ∧ w'.ownsRow M 54 4 v (make page most).length (flatC (make page most)) ∧ Below M w w' := by
  obtain ⟨i0, hi, hz0, hz1, hz2⟩ := info_parts infoC
  obtain ⟨g0, cap0, rfl⟩ := ownsRow_succ hv0
  have len := classes_len page most
  have lb := box_lt xp
  have lm := box_lt xm
  refine (callsIn_wide (n := 3)).1 ?_
  refine callsIn_of_wp_marks Tryd.func60 rfl trivial ?_ rfl
  simp only [Tryd.ntmps60, List.size_toArray, List.length_cons, List.length_nil, Nat.reduceAdd, Nat.reduceSub, Array.replicate_succ, Array.replicate_zero, List.push_toArray, List.append_toArray, List.nil_append, List.cons_append]
  gi_wp2_with fail
  obtain ⟨N, hN⟩ : ∃ N, w.heap.size = N := ⟨_, rfl⟩
  obtain ⟨w5, h5⟩ : ∃ w5, w.alloc (.cells #[.slice (some ⟨g0, 0, none⟩) 1 cap0] 50) = w5 := ⟨_, rfl⟩
  have s5 : w5.heap.size = N + 1 := by rw [← h5]; simp [hN]
  have b5 : Below M w w5 := by rw [← h5]; exact (Below.refl _ w).alloc hM _
  have q0 : Boxed w5 N 50 (.slice (some ⟨g0, 0, none⟩) 1 cap0) := by rw [← h5, ← hN]; exact Boxed.new w _ _
  have q1 : w5.ownsRow M 54 4 (.slice (some ⟨g0, 0, none⟩) 1 cap0) 1 (flatC [zeroC]) := by rw [← h5]; exact hv0.alloc _
  have q3 : Boxed w5 Bp 3 (.int .i64 page) := by rw [← h5]; exact xp.alloc _
  have q4 : Boxed w5 Bm 3 (.int .i64 most) := by rw [← h5]; exact xm.alloc _
  have seq := iter_seq page most hp hp2 hm hm2 (3 - 1) (N + 1) Bp Bm w5 (by omega) q3 q4
  have f0 : AI M N page most Bp Bm w [] w5 := ⟨⟨_, q0, q1, fun g hg => .inl (by rw [← own_eq hg]; have := (hv0.lt g0 rfl).2; omega)⟩, b5, q3, q4⟩
  rw [h5, hN]
  refine range_law (w := w5) rfl (enters_of Tryd.func64 (by kernel_rfl) rfl) seq keeps_t ?hKb (Below.refl _ _) (fun _ => rfl) (AI M N page most Bp Bm w) (fun _ _ _ => False) ?hI (fun _ _ _ _ h _ => h) f0 ?round ?done (fun _ _ _ _ h _ => h.elim)
  case hKb =>
    intro W o' hl hr
    rw [s5] at hl hr ⊢
    refine keeps_of (Kept.put (F := fun b => b = N + 2) W (N + 1 + 1) o' rfl) (by omega) (by omega) (by omega) (by omega) ?_
    rintro b _ ⟨cs, h1, _⟩ rfl
    cases hr _ h1
  case hI =>
    intro s A A' h k
    rw [s5] at k
    exact h.kept k (by omega) (by omega) (by omega) (fun b hb => by rcases hb with ⟨a, b | b⟩; exact ⟨a, .inl (by omega)⟩; exact ⟨a, .inr b⟩)
  case round =>
    rintro pre x W ⟨r0, hr0⟩ hd0 h hlen
    rw [s5] at hr0 hd0 ⊢
    have hlW : N + 2 < W.heap.size := (Array.getElem?_eq_some_iff.1 hr0).1
    have H := hide h
    have HR0 := hide hr0
    have HD0 := hide hd0
    clear h hr0 hd0 seq f0 q0 q1 q3 q4 b5 h5
    simp only [cv]
    gi_wp2_with fail
    refine ⟨(KeepsOthers.alloc _ _).from _, fun r => ?_⟩
    obtain ⟨v, hv, hrow, hfar⟩ := H.out.row
    obtain ⟨g, cap, rfl⟩ := ownsRow_succ hrow
    obtain ⟨W1, hW1⟩ : ∃ W1, W.alloc (.cells #[.int .i64 (x.size : Nat), .int .i64 (x.pages : Nat), .int .i64 (x.slots : Nat), .int .u32 (x.magic : Nat)] 54) = W1 := ⟨_, rfl⟩
    obtain ⟨W2, hW2⟩ : ∃ W2, W1.putObj (N + 1 + 1) (.loop r) = W2 := ⟨_, rfl⟩
    have s1 : W1.heap.size = W.heap.size + 1 := by rw [← hW1]; simp
    have k1 : Kept (fun b => b = N + 2) W W1 := by rw [← hW1]; exact Kept.of_below (below_alloc _ _)
    have k2 : Kept (fun b => b = N + 2) W1 W2 := by rw [← hW2]; exact Kept.put W1 (N + 1 + 1) _ rfl
    have kk := k1.trans k2 (fun _ _ h => h)
    have hng : g ≠ N + 2 := fun e => by
      rcases hfar g rfl with z | z <;> omega
    have hng1 : g ≠ N + 1 := fun e => by
      rcases hfar g rfl with z | z <;> omega
    have hv2 := boxed_kept hv kk (by omega)
    have hrow2 := owns_kept hrow kk (fun g' e => by rw [← own_eq e]; exact hng)
    have c1 : ClsAt W1 W.heap.size (cc x) := by rw [← hW1]; exact World.alloc_heap_new W _
    have c2 := cls_kept c1 k2 (by omega)
    have hB2 := below_kept H.out.b kk (fun b hb => by omega) (by omega)
    have s2 := hB2.size
    have hs2 := k2.size
    rw [hW1, hW2]
    have HL2 : Hid (∃ r, W2.heap[N + 2]? = some (.loop r)) := ⟨r, by rw [← hW2]; exact World.putObj_heap_same (by rw [s1]; omega)⟩
    have cb := hv2.cell
    have x0 := cls_cell c2 0
    have x1 := cls_cell c2 1
    have x2 := cls_cell c2 2
    have x3 := cls_cell c2 3
    simp only [cc] at x0 x1 x2 x3
    have pl : pre.length < most / 8 + 2 := by omega
    have KK := hide kk
    have HV2 := hide hv2
    have HROW2 := hide hrow2
    have HROW := hide hrow
    have HV := hide hv
    have HFAR := hide hfar
    have HB2 := hide hB2
    have MM : M ≤ W2.heap.size := by omega
    clear hW1 hW2 k1 k2 kk hv2 hrow2 hrow hv hfar hB2 c1 c2
    gi_wp2_with (gi_at_builtin; refine wpListIn_append_own _ rfl _ _ 50 rfl M 54 i0 (.agg #[.int .i64 0, .int .i64 0, .int .i64 0, .int .u32 0]) 4 32 Tryd.underlying50 hi hz0 hz1 hz2 rfl (by decide) _ _ _ rfl (HROW2.out.alloc _) ⟨W2.heap.size, 0, none⟩ 1 1 (flatC [x]) rfl (flatC_len [x]) (World.news_of_block (World.alloc_heap_new W2 _)) (flatC_one' [x]) (by unfold maxLen; omega) (by omega) (by simp; omega) ?_; intro v' w1 hown' hgrow _; obtain ⟨g', cap', rfl⟩ := ownsRow_succ hown'; obtain ⟨hv1, hv3, hr3, hk3, hb3⟩ := HV2.out.appended (by decide) HROW2.out MM (by omega) hown' hgrow; have hc1 := hv1.cell; have hf1 := hv1.frozen)
    have k3 : Kept (fun b => b = g ∨ b = N) W2 (w1.setCell ⟨N, 0, none⟩ (.slice (some ⟨g', 0, none⟩) (pre.length + 1 + 1) cap')) :=
      ((Kept.of_below (below_alloc W2 _)).trans (Kept.of_grown hgrow (fun k e => .inl (own_eq e).symm)) (fun _ _ h => h)).trans (kept_set w1 N 0 _ (.inr rfl)) (fun _ _ h => h)
    have k4 : Kept (fun b => b = g ∨ b = N ∨ b = N + 2) W _ := (KK.out.mono (fun b h => .inr (.inr h))).trans k3 (fun _ _ h => by rcases h with h | h; exact .inl h; exact .inr (.inl h))
    have hgp : g ≠ Bp := fun e => H.out.p.not_row (by decide) HROW.out (by rw [← e]; rfl)
    have hgm : g ≠ Bm := fun e => H.out.m.not_row (by decide) HROW.out (by rw [← e]; rfl)
    have lp := box_lt H.out.p
    have ln := box_lt H.out.m
    have d3 : (w1.setCell ⟨N, 0, none⟩ (.slice (some ⟨g', 0, none⟩) (pre.length + 1 + 1) cap')).heap[N + 1]? = some (.deferred (some [])) := kept_at k4 HD0.out (by omega)
    have l3 : ∃ r, (w1.setCell ⟨N, 0, none⟩ (.slice (some ⟨g', 0, none⟩) (pre.length + 1 + 1) cap')).heap[N + 2]? = some (.loop r) := by
      have hl2 : ∃ r, W2.heap[N + 2]? = some (.loop r) := HL2.out
      obtain ⟨r, hl2⟩ := hl2
      exact ⟨r, kept_at k3 hl2 (by omega)⟩
    obtain ⟨r3, l3⟩ := l3
    have e3 : flatC (zeroC :: (pre ++ [x])) = flatC (zeroC :: pre) ++ flatC [x] := by rw [← List.cons_append, flatC_append]
    refine ⟨hk3.from _, ?_, ⟨⟨_, hv3, ?_, ?_⟩, HB2.out.trans hb3, boxed_kept H.out.p k4 (by omega), boxed_kept H.out.m k4 (by omega)⟩⟩
    · refine keeps_of k4 lp ln (by omega) (by omega) (fun b hb hx e => ?_)
      rcases e with e | e | e
      · subst e
        rcases HFAR.out b rfl with z | z
        · omega
        · exact z.2 hx
      · omega
      · subst e; exact not_box HR0.out rfl hx
    · rw [e3, List.length_append, List.length_singleton]; exact hr3
    · intro b hb
      have e := own_eq hb
      subst e
      rcases hr3.2 with ⟨z, _⟩ | ⟨q, qc, cur, q1, q2, q3, q4, q5, q6, q7⟩
      · cases z
      · obtain ⟨rfl, _, rfl⟩ : g' = q ∧ pre.length + 1 + 1 = pre.length + 1 + 1 ∧ cap' = qc := by simp at q1; exact ⟨q1.1, rfl, q1.2⟩
        have n0 : g' ≠ N := fun e => hv3.not_row (by decide) hr3 (by rw [← e]; rfl)
        have n1 : g' ≠ N + 1 := fun e => by have h := d3; rw [← e, q3] at h; cases h
        have n2 : g' ≠ N + 2 := fun e => by have h := l3; rw [← e, q3] at h; cases h
        by_cases hlt : g' < N
        · exact .inl hlt
        · refine .inr ⟨by omega, fun ⟨cs, c1, c2⟩ => ?_⟩
          rw [q3] at c1
          cases c1
          omega
  case done =>
    rintro xs W rfl h hd
    rw [s5] at hd ⊢
    obtain ⟨v, hv, hrow, hfar⟩ := h.row
    obtain ⟨g, cap, rfl⟩ := ownsRow_succ hrow
    have cb := hv.cell
    have hng1 : g ≠ N + 1 := fun e => by
      rcases hfar g rfl with z | z <;> omega
    have k6 := Kept.put (F := fun b => b = N + 1) W (N + 1) (.deferred none) rfl
    have r6 := owns_kept hrow k6 (fun g' e => by rw [← own_eq e]; exact hng1)
    have b6 := below_kept h.b k6 (fun b hb => by omega) (by have := box_lt hv; omega)
    have R6 := hide r6
    have B6 := hide b6
    have HD := hide hd
    clear r6 b6 k6 hd h seq f0 q0 q1 q3 q4 b5 h5 hrow hfar hv
    gi_wp2_with fail
    refine ⟨by simp, .inl ⟨_, _, rfl, run_takeDeferred HD.out, ?_⟩⟩
    exact ⟨_, results_tmp (t := 4) rfl _ _ _, .slice (some ⟨g, 0, none⟩) _ cap, rfl, R6.out, B6.out⟩
end Go.Proofs.YtblfefibgoiaaaaDoor
