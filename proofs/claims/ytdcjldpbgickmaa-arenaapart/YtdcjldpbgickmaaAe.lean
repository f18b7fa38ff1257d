/- act: chunks till one: a contract. -/
import Derived.Test.YtdcjldpbgickmaaAc
import Derived.Test.YtdcjldpbgickmaaRi
namespace Go.Proofs.Ytdcjldpbgickmaa
open Go.ChangeShapes Go.WideShapes Go.ChangeAt Go.RowKit Go.Shelf Go.Proofs.Rx Go.Maps
set_option linter.unusedVariables false
set_option linter.unusedSimpArgs false

attribute [local go_sem] Oper.semAt_some

/-- Within the range: so many were told, the last of them l. -/
structure QI (N S M : Nat) (Ψ : Nat → Prop) (w : World) (mb xb : Nat) (x : ActV) (v0 v1 v2 : Value) (C : Nat → Bool) (V : Nat → Int) (cs ps : List Nat) (is : List Int) (B0 : Nat) (v : Value) (L : List Nat) (k l : Nat) (W : World) : Prop where
  pr : Pr N W mb xb Ψ v0 v1 v2 C V cs ps is
  fr : Fr S xb x W
  bn : Boxed W (S + 3) 3 (.int .i64 (k : Nat))
  bl : Boxed W (S + 4) 35 (.int .u64 (l : Nat))
  rd : RdC (S + 5) M B0 v L W
  be : Below S w W
  le : S + 5 ≤ M
section
variable {N S M : Nat} {Ψ : Nat → Prop} {w W W' : World} {mb xb : Nat} {x : ActV} {v0 v1 v2 : Value} {C : Nat → Bool} {V : Nat → Int} {cs ps : List Nat} {is : List Int} {B0 : Nat} {v : Value} {L : List Nat} {k l : Nat}
theorem QI.kept {G : Nat → Prop} (h : QI N S M Ψ w mb xb x v0 v1 v2 C V cs ps is B0 v L k l W) (kk : Kept G W W') (hG : ∀ z, G z → M ≤ z) (hP : ∀ z, fpP Ψ xb v0 v1 v2 z → z < S) : QI N S M Ψ w mb xb x v0 v1 v2 C V cs ps is B0 v L k l W' := by
  have hl := h.le
  have nf : ∀ z, z < M → ¬ G z := fun z hz f => by have := hG z f; omega
  exact ⟨h.pr.kept kk (fun z hz => nf z (by have := hP z hz; omega)), h.fr.kept kk (fun z h1 h2 => nf z (by omega)), boxed_kept h.bn kk (nf _ (by omega)), boxed_kept h.bl kk (nf _ (by omega)), h.rd.kept kk (fun z hz => .inr (hG z hz)), below_kept h.be kk (fun z hz => by have := hG z hz; omega) (by have := h.rd.hi; omega), h.le⟩
theorem QI.below (h : QI N S M Ψ w mb xb x v0 v1 v2 C V cs ps is B0 v L k l W) (kk : Below W.heap.size W W') (hP : ∀ z, fpP Ψ xb v0 v1 v2 z → z < S) : QI N S M Ψ w mb xb x v0 v1 v2 C V cs ps is B0 v L k l W' :=
  h.kept (Kept.of_below (F := fun _ => False) kk) (fun _ f => f.elim) hP
theorem QI.setl (h : QI N S M Ψ w mb xb x v0 v1 v2 C V cs ps is B0 v L k l W) (hP : ∀ z, fpP Ψ xb v0 v1 v2 z → z < S) (y : Nat) : QI N S M Ψ w mb xb x v0 v1 v2 C V cs ps is B0 v L k y (W.setCell ⟨S + 4, 0, none⟩ (.int .u64 (y : Nat))) := by
  have hl := h.le
  have kk := kept_set (F := fun z => z = S + 4) W (S + 4) 0 (.int .u64 (y : Nat)) rfl
  exact ⟨h.pr.kept kk (fun z hz => by have := hP z hz; omega), h.fr.kept kk (fun z h1 h2 => by omega), boxed_kept h.bn kk (by omega), h.bl.set _, h.rd.kept kk (fun z hz => by omega), below_kept h.be kk (fun z hz => by omega) (by have := h.rd.hi; omega), h.le⟩
theorem QI.setn (h : QI N S M Ψ w mb xb x v0 v1 v2 C V cs ps is B0 v L k l W) (hP : ∀ z, fpP Ψ xb v0 v1 v2 z → z < S) (y : Nat) : QI N S M Ψ w mb xb x v0 v1 v2 C V cs ps is B0 v L y l (W.setCell ⟨S + 3, 0, none⟩ (.int .i64 (y : Nat))) := by
  have hl := h.le
  have kk := kept_set (F := fun z => z = S + 3) W (S + 3) 0 (.int .i64 (y : Nat)) rfl
  exact ⟨h.pr.kept kk (fun z hz => by have := hP z hz; omega), h.fr.kept kk (fun z h1 h2 => by omega), h.bn.set _, boxed_kept h.bl kk (by omega), h.rd.kept kk (fun z hz => by omega), below_kept h.be kk (fun z hz => by omega) (by have := h.rd.hi; omega), h.le⟩
end
section
variable {N : Nat} {w W : World} {mb xb : Nat} {F : Nat → Prop} {a b : Nat}
set_option maxRecDepth 100000 in
set_option maxHeartbeats 4000000 in
theorem act_4 (h : PX N w mb xb F a b) (hN : N ≤ w.heap.size) (ha : a < 1000) (x : ActV) (hw : x.what = 4) :
    Calls Try.prog 10 #[.pointer (some ⟨mb, 0, none⟩), .pointer (some ⟨xb, 0, none⟩), actV x] w fun e W' => e = .returned (.bool true) ∧ ∃ F', PX N W' mb xb F' (a + 1) b ∧ To w W' F F' := by
  obtain ⟨R, hR⟩ : ∃ R : Ending → World → Prop, R = fun e W' => e = .returned (.bool true) ∧ ∃ F', PX N W' mb xb F' (a + 1) b ∧ To w W' F F' := ⟨_, rfl⟩
  rw [← hR]
  obtain ⟨S, hS⟩ : ∃ S, w.heap.size = S := ⟨_, rfl⟩
  obtain ⟨w0, h0⟩ : ∃ w0, ((w.alloc (.cells #[.pointer (some ⟨xb, 0, none⟩)] 26)).alloc (.cells #[.int .i64 x.what, .int .u64 (x.a : Nat), .int .u64 (x.n : Nat), .int .i64 x.id] 37)).alloc (.cells #[.bool false] 4) = w0 := ⟨_, rfl⟩
  obtain ⟨p0, f0, b0, s0, fl⟩ := fr_new h x S hS w0 h0
  obtain ⟨Ψ, v0, v1, v2, C, V, cs, ps, is, pr, hF, l1, l2⟩ := p0
  have HP := hide (show ∀ z, fpP Ψ xb v0 v1 v2 z → z < S from fun z hz => fl z ((hF z).2 hz))
  have FIN := hide (show ∀ W2, Pr N W2 mb xb Ψ v0 v1 v2 C V cs ps is → Below S w W2 → R (.returned (.bool true)) W2 from fun W2 p t => by
    rw [hR]
    exact ⟨rfl, F, ⟨Ψ, v0, v1, v2, C, V, cs, ps, is, p, hF, by omega, l2⟩, Kept.of_below (by rw [hS]; exact t), fun z hz => .inl hz⟩)
  have HC := hide (show cs.length ≤ 1000 ∧ cs.Nodup ∧ ∀ c, C c = decide (c ∈ cs) from ⟨by omega, pr.rel.nd, pr.rel.c⟩)
  have P0 := hide (And.intro pr (And.intro f0 b0))
  unfold actV
  have cw := f0.b1.cell 0 (.int .i64 x.what) rfl
  rw [hw] at cw h0 ⊢
  clear h hR f0 b0 fl pr hF l1 l2
  refine (callsIn_wide (n := 3)).1 ?_
  refine callsIn_of_wp_marks Try.func10 rfl trivial ?_ rfl
  simp only [Try.ntmps10, List.size_toArray, List.length_cons, List.length_nil, Nat.reduceAdd, Nat.reduceSub, Array.replicate_succ, Array.replicate_zero, List.push_toArray, List.append_toArray, List.nil_append, List.cons_append]
  gi_wp2_with fail
  simp only [Nat.add_assoc, Nat.reduceAdd]
  obtain ⟨wl, hwl⟩ : ∃ wl, (w0.alloc (.cells #[.int .i64 0] 3)).alloc (.cells #[.int .u64 0] 35) = wl := ⟨_, rfl⟩
  rw [hwl]
  have kl : Below w0.heap.size w0 wl := by rw [← hwl]; exact ((Below.refl _ w0).alloc (Nat.le_refl _) _).alloc (by simp) _
  have sl : wl.heap.size = S + 5 := by rw [← hwl]; simp [s0]
  have g3 : wl.heap[S + 3]? = some (.cells #[.int .i64 0] 3 (0, 0)) := by
    rw [← hwl]; simp only [alloc_at, World.size_alloc, s0]
    (repeat' split) <;> first | rfl | omega | simp_all
  have g4 : wl.heap[S + 4]? = some (.cells #[.int .u64 0] 35 (0, 0)) := by
    rw [← hwl]; simp only [alloc_at, World.size_alloc, s0]
    (repeat' split) <;> first | rfl | omega | simp_all
  have prl := P0.out.1.kept (Kept.of_below (F := fun _ => False) kl) (fun _ _ f => f)
  have CC := hide (chunks_any prl.ar)
  rw [sl] at CC
  refine wcall2 CC.out ?_
  rintro e w8 ⟨B0, v, L, rfl, f1, f2, f3, f4⟩
  have s8 : S + 5 ≤ w8.heap.size := by rw [← sl]; rw [← sl] at f4; exact f4.size
  obtain ⟨M, hM⟩ : ∃ M, w8.heap.size = M := ⟨_, rfl⟩
  rw [hM] at f3 s8
  have F0 := hide (show QI N S M Ψ w mb xb x v0 v1 v2 C V cs ps is B0 v L 0 0 w8 from by
    have k8 : Kept (fun _ => False) wl w8 := Kept.of_below (by rw [sl]; exact f4)
    exact ⟨prl.kept k8 (fun _ _ f => f), (P0.out.2.1.kept (Kept.of_below (F := fun _ => False) kl) (fun _ _ _ f => f)).kept k8 (fun _ _ _ f => f), kept_at k8 g3 (fun f => f), kept_at k8 g4 (fun f => f), f3,
      (P0.out.2.2.trans (kl.mono (by omega))).trans (f4.mono (by omega)), s8⟩)
  have FL := hide (show (∀ p, p ∈ L → p ∈ cs ∧ p < 67108864) ∧ L.length = cs.length ∧ L.Pairwise (· < ·) from ⟨fun p hp => by
    have := (f1.2 p).1 hp
    refine ⟨?_, ?_⟩
    · rw [HC.out.2.2] at this; exact of_decide_eq_true this
    · obtain ⟨kb, G, aa, _⟩ := prl.ar.ex
      exact aa.lim p this, len_same (f1.1.imp (fun h => Nat.ne_of_lt h)) HC.out.2.1 (fun p => (f1.2 p).trans (by rw [HC.out.2.2]; exact decide_eq_true_iff)), f1.1⟩)
  have SEQ := hide (chunks_seq (S + 5) M B0 v L f2 2)
  have F2 := hide f2
  clear f1 f2 f3 f4 sl s8 g3 g4 prl kl CC P0 hwl wl cw h0 s0 w0
  gi_wp2_with fail
  refine range_law (w := w8) rfl (enters_of Try.func19 (by kernel_rfl) rfl) SEQ.out (fun _ => rfl) (fun pre W => QI N S M Ψ w mb xb x v0 v1 v2 C V cs ps is B0 v L pre.length (lst pre) W)
    (fun cc pre W => cc = .ret ∧ Pr N W mb xb Ψ v0 v1 v2 C V cs ps is ∧ Boxed W (S + 2) 4 (.bool true) ∧ Below S w W ∧ M ≤ W.heap.size) (fun s A h => h.rd) ?hI ?hIx F0.out ?round ?done ?stop
  case hI =>
    intro s A A' h k
    rw [hM] at k
    exact h.kept k (fun x hx => by omega) HP.out
  case hIx =>
    rintro c s A o' ⟨rfl, h1, h2, h3, h4⟩ hl
    rw [hM] at hl ⊢
    have kk := Kept.put (F := fun b => b = M + 1) A (M + 1) o' rfl
    have s8 := F0.out.le
    exact ⟨rfl, h1.kept kk (fun z hz => by have := HP.out z hz; omega), boxed_kept h2 kk (by omega), below_kept h3 kk (fun z hz => by omega) (by omega), Nat.le_trans h4 kk.size⟩
  case round =>
    rintro pre y W ⟨r0, hr0⟩ _ h hp
    rw [hM] at hr0 ⊢
    have hy := FL.out.1 y (hp.subset (by simp))
    have hn : pre.length < 67108864 := by have := (pre_at hp).1; have := F2.out; omega
    have alt : (¬ 0 < pre.length) ∨ (0 < pre.length ∧ ¬ y ≤ lst pre) := by
      by_cases z : pre = []
      · exact .inl (by rw [z]; decide)
      · exact .inr ⟨List.length_pos_iff.2 z, by have := lst_lt FL.out.2.2 hp z; omega⟩
    have HE := hide (show (pre ++ [y]).length = pre.length + 1 ∧ lst (pre ++ [y]) = y from ⟨by simp, lst_one _ _⟩)
    obtain ⟨n, en⟩ : ∃ n, pre.length = n := ⟨_, rfl⟩
    obtain ⟨l, el⟩ : ∃ l, lst pre = l := ⟨_, rfl⟩
    rw [en] at HE h hn alt
    rw [el] at h alt
    have H1 := hide h
    have HY := hide hy
    have x9 := hy.2
    clear h hr0 hp hy en el
    simp only [encsC]
    gi_wp2_with fail
    refine ⟨keepsFrom_of (Kept.refl (fun _ => False) W) (fun b hb e => e), fun r => ?_⟩
    have k2 := Kept.put (F := fun b => b = M + 1) W (M + 1) (.loop r) rfl
    obtain ⟨W2, hW2⟩ : ∃ W2, W.putObj (M + 1) (.loop r) = W2 := ⟨_, rfl⟩
    rw [hW2] at k2 ⊢
    have H2 := hide (H1.out.kept k2 (fun b hb => by omega) HP.out)
    have CH := hide (mo_has H2.out.pr.mo HC.out.1 y)
    rw [decide_eq_true HY.out.1] at CH
    have cx := H2.out.fr.b0.cell
    have cn := H2.out.bn.cell
    have cl := H2.out.bl.cell
    clear k2 hW2 H1 HY
    rcases alt with a1 | ⟨a1, a2⟩
    · gi_wp2_with fail
      refine wcall_r CH.out ?_
      rintro e W4 ⟨rfl, hW4⟩
      rw [hW4]
      clear hW4 W4 CH cx cn cl
      have cl := H2.out.bl.cell
      have fl := H2.out.bl.frozen
      have cn := H2.out.bn.cell
      have ci := H2.out.fr.b1.cell 3 (.int .i64 x.id) rfl
      have fn := H2.out.bn.frozen
      have cr := H2.out.fr.b2.cell
      have fr := H2.out.fr.b2.frozen
      have H5 := hide (H2.out.setl HP.out y)
      have H6 := hide (H5.out.setn HP.out (n + 1))
      have k6 := hide ((kept_set (F := fun b => b = S + 3 ∨ b = S + 4 ∨ b = S + 2) W2 (S + 4) 0 (.int .u64 (y : Nat)) (.inr (.inl rfl))).trans (kept_set (F := fun b => b = S + 3 ∨ b = S + 4 ∨ b = S + 2) (W2.setCell ⟨S + 4, 0, none⟩ (.int .u64 (y : Nat))) (S + 3) 0 (.int .i64 ((n + 1 : Nat) : Int)) (.inl rfl)) (fun _ _ f => f))
      have wn : IntKind.i64.wrap ((n : Int) + 1) = ((n + 1 : Nat) : Int) := by rw [IntKind.wrap_i64]; omega
      obtain ⟨n1, en1⟩ : ∃ n1 : Int, ((n + 1 : Nat) : Int) = n1 := ⟨_, rfl⟩
      obtain ⟨D, hD⟩ : ∃ D, x.id = D := ⟨_, rfl⟩
      rw [hD] at ci
      rw [en1] at H6 k6 wn
      clear H2 H5 en1 hD
      by_cases es : n1 = D
      · have ee : (n1 == D) = true := beq_iff_eq.2 es
        clear es
        gi_wp2_with fail
        have kk := kept_set (F := fun b => b = S + 3 ∨ b = S + 4 ∨ b = S + 2) ((W2.setCell ⟨S + 4, 0, none⟩ (.int .u64 (y : Nat))).setCell ⟨S + 3, 0, none⟩ (.int .i64 n1)) (S + 2) 0 (.bool true) (.inr (.inr rfl))
        have s8 := H6.out.le
        have h8 := H6.out.rd.hi
        exact ⟨keepsFrom_of (k6.out.trans kk (fun _ _ f => f)) (fun b hb e => by omega), rfl, H6.out.pr.kept kk (fun z hz => by have := HP.out z hz; omega), H6.out.fr.b2.set (.bool true), below_kept H6.out.be kk (fun z hz => by omega) (by omega), Nat.le_trans h8 kk.size⟩
      · have ee : (n1 == D) = false := beq_eq_false_iff_ne.2 es
        clear es
        gi_wp2_with fail
        exact ⟨keepsFrom_of k6.out (fun b hb e => by have := H6.out.le; omega), by
          show QI N S M Ψ w mb xb x v0 v1 v2 C V cs ps is B0 v L (pre ++ [y]).length (lst (pre ++ [y])) _
          rw [HE.out.1, HE.out.2]; exact H6.out⟩
    · gi_wp2_with fail
      refine wcall_r CH.out ?_
      rintro e W4 ⟨rfl, hW4⟩
      rw [hW4]
      clear hW4 W4 CH cx cn cl
      have cl := H2.out.bl.cell
      have fl := H2.out.bl.frozen
      have cn := H2.out.bn.cell
      have ci := H2.out.fr.b1.cell 3 (.int .i64 x.id) rfl
      have fn := H2.out.bn.frozen
      have cr := H2.out.fr.b2.cell
      have fr := H2.out.fr.b2.frozen
      have H5 := hide (H2.out.setl HP.out y)
      have H6 := hide (H5.out.setn HP.out (n + 1))
      have k6 := hide ((kept_set (F := fun b => b = S + 3 ∨ b = S + 4 ∨ b = S + 2) W2 (S + 4) 0 (.int .u64 (y : Nat)) (.inr (.inl rfl))).trans (kept_set (F := fun b => b = S + 3 ∨ b = S + 4 ∨ b = S + 2) (W2.setCell ⟨S + 4, 0, none⟩ (.int .u64 (y : Nat))) (S + 3) 0 (.int .i64 ((n + 1 : Nat) : Int)) (.inl rfl)) (fun _ _ f => f))
      have wn : IntKind.i64.wrap ((n : Int) + 1) = ((n + 1 : Nat) : Int) := by rw [IntKind.wrap_i64]; omega
      obtain ⟨n1, en1⟩ : ∃ n1 : Int, ((n + 1 : Nat) : Int) = n1 := ⟨_, rfl⟩
      obtain ⟨D, hD⟩ : ∃ D, x.id = D := ⟨_, rfl⟩
      rw [hD] at ci
      rw [en1] at H6 k6 wn
      clear H2 H5 en1 hD
      by_cases es : n1 = D
      · have ee : (n1 == D) = true := beq_iff_eq.2 es
        clear es
        gi_wp2_with fail
        have kk := kept_set (F := fun b => b = S + 3 ∨ b = S + 4 ∨ b = S + 2) ((W2.setCell ⟨S + 4, 0, none⟩ (.int .u64 (y : Nat))).setCell ⟨S + 3, 0, none⟩ (.int .i64 n1)) (S + 2) 0 (.bool true) (.inr (.inr rfl))
        have s8 := H6.out.le
        have h8 := H6.out.rd.hi
        exact ⟨keepsFrom_of (k6.out.trans kk (fun _ _ f => f)) (fun b hb e => by omega), rfl, H6.out.pr.kept kk (fun z hz => by have := HP.out z hz; omega), H6.out.fr.b2.set (.bool true), below_kept H6.out.be kk (fun z hz => by omega) (by omega), Nat.le_trans h8 kk.size⟩
      · have ee : (n1 == D) = false := beq_eq_false_iff_ne.2 es
        clear es
        gi_wp2_with fail
        exact ⟨keepsFrom_of k6.out (fun b hb e => by have := H6.out.le; omega), by
          show QI N S M Ψ w mb xb x v0 v1 v2 C V cs ps is B0 v L (pre ++ [y]).length (lst (pre ++ [y])) _
          rw [HE.out.1, HE.out.2]; exact H6.out⟩
  case done =>
    rintro W h hd
    rw [hM] at hd ⊢
    have cn := h.bn.cell
    rw [FL.out.2.1] at cn
    have cx := h.fr.b0.cell
    have cv := h.pr.mo.bk.cell 0 v0 rfl
    have shape : ∃ o cap, v0 = .slice o cs.length cap := by
      rcases row_cells h.pr.mo.r0 (by simp) with ⟨a, b⟩ | ⟨g, cap, a, _⟩
      · exact ⟨none, 0, by rw [a, b]⟩
      · exact ⟨_, cap, a⟩
    obtain ⟨o, cap, hv⟩ := shape
    rw [hv] at cv
    have cr := h.fr.b2.cell
    have fr := h.fr.b2.frozen
    have HH := hide h
    have HD := hide hd
    clear h hd SEQ F0 FL F2 hv
    have lS := box_lt HH.out.fr.b0
    have l3 := box_lt HH.out.bn
    have lx := HH.out.pr.mo.bk.lt
    have hx := @ext_cell W
    have hne := ext_ne W
    gi_wp2_with fail
    refine tail_w 7 (by kernel_rfl) (by kernel_rfl) ?_
    simp only [List.take_succ_cons, List.take_zero, List.drop_succ_cons, List.drop_zero]
    repeat (refine wpQuiet_step (fun K hK => ?_); go_simp; refine hK _ ?_; clear hK K)
    refine wpQuiet_nil ?_
    rintro _ ⟨n3, rfl⟩
    have H3 := hide (HH.out.below n3.h HP.out)
    have D3 := hide ((n3.h.block M (Array.getElem?_eq_some_iff.1 HD.out).1).trans HD.out)
    generalize n3.v = Z at *
    clear n3 hx hne HH HD cn cx cv cr fr lS l3 lx
    have cr := H3.out.fr.b2.cell
    have fr := H3.out.fr.b2.frozen
    have s8 := H3.out.le
    have h8 := H3.out.rd.hi
    gi_wp2_with fail
    have k5 := kept_set (F := fun b => b = S + 2) Z (S + 2) 0 (.bool true) rfl
    have r5 := H3.out.fr.b2.set (.bool true)
    have d5 := kept_at k5 D3.out (by omega)
    have p5 := H3.out.pr.kept k5 (fun z hz => by have := HP.out z hz; omega)
    have e5 := below_kept H3.out.be k5 (fun b hb => by omega) (by omega)
    have z5 := k5.size
    generalize Z.setCell ⟨S + 2, 0, none⟩ (.bool true) = Z5 at *
    have k6 := Kept.put (F := fun b => b = M) Z5 M (.deferred none) rfl
    have r6 := boxed_kept r5 k6 (by omega)
    have p6 := p5.kept k6 (fun z hz => by have := HP.out z hz; omega)
    have e6 := below_kept e5 k6 (fun b hb => by omega) (by omega)
    refine ⟨by simp, .inl ⟨_, _, rfl, run_takeDeferred d5, ?_⟩⟩
    exact ⟨.bool true, results_c Try.results10 _ _ ⟨S + 2, 0, none⟩ _ rfl (loadB r6), FIN.out _ p6 e6⟩
  case stop =>
    rintro c pre y W hpre ⟨rfl, h1, h2, h3, h4⟩ hd
    rw [hM] at hd ⊢
    have s8 := F0.out.le
    have k6 := Kept.put (F := fun b => b = M) W M (.deferred none) rfl
    have r1 := boxed_kept h2 k6 (by omega)
    have P6 := hide (h1.kept k6 (fun z hz => by have := HP.out z hz; omega))
    have B6 := hide (below_kept h3 k6 (fun b hb => by omega) (by omega))
    have R1 := hide r1
    have HD := hide hd
    clear hd SEQ hpre k6 r1 h1 h2 h3 h4 F0 FL F2
    gi_wp2_with fail
    refine ⟨by simp, .inl ⟨_, _, rfl, run_takeDeferred HD.out, ?_⟩⟩
    exact ⟨.bool true, results_c Try.results10 _ _ ⟨S + 2, 0, none⟩ _ rfl (loadB R1.out), FIN.out _ P6.out B6.out⟩
end
end Go.Proofs.Ytdcjldpbgickmaa
