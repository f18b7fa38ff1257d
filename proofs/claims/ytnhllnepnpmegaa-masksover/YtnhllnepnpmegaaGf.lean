/- The tree of pieces: split, put: contracts. -/
import Derived.Test.YtnhllnepnpmegaaGe
namespace Go.Proofs.Ytnhllnepnpmegaa
open Go.ChangeShapes Go.WideShapes Go.ChangeAt Go.RowKit Go.Shelf Go.Proofs.Rx Go.Maps Go.Proofs.Bt
set_option linter.unusedVariables false
set_option linter.unusedSimpArgs false

attribute [local go_sem] Oper.semAt_some

theorem fresh {W : World} {A B L' : List Nd} (hB : ∀ y ∈ B, y.b < W.heap.size) (d : ∀ v ∈ A, ∀ y ∈ B, v.b ≠ y.b) (fr : Fr W A L') : ∀ z ∈ L', ∀ y ∈ B, z.b ≠ y.b := fun z hz y hy e => by
  rcases (fr z hz).1 with ⟨v, hv, ev⟩ | u
  · exact d v hv y hy (ev.trans e)
  · have := hB y hy
    omega
theorem cnt_part (g : Nat → Bool) {a b c : Nat} (h1 : a ≤ b) (h2 : b ≤ c) : cnt g a (b - a) + cnt g b (c - b) = cnt g a (c - a) := by
  rw [show c - a = (b - a) + (c - b) by omega, cnt_add, show a + (b - a) = b by omega]
theorem split_mid {W W2 W3 W4 : World} {lo hi A b1 b2 : Nat} {l r : Tr} {x : Nd} {t1 t2 : Tr} (hT : TAt W (.node l x r)) (un : Un (Tr.node l x r).list) (gd : Good lo hi (Tr.node l x r).list) (h1 : x.fi < A) (h2 : A < x.en) (h3 : A % 512 = 0) (n1 : W.heap.size ≤ b1) (n2 : b1 < b2)
    (k0 : Below W.heap.size W W2) (lt1 : b1 < W2.heap.size)
    (ta : TAt W3 t1) (e1 : t1.list = l.list ++ keep ⟨b1, x.fi, A, x.T, x.u, cnt x.g x.fi (A - x.fi), x.g, x.fb⟩) (k3 : Kept (inB (l.list ++ [⟨b1, x.fi, A, x.T, x.u, cnt x.g x.fi (A - x.fi), x.g, x.fb⟩])) W2 W3)
    (tt : TAt W4 t2) (e2 : t2.list = keep ⟨b2, A, x.en, x.T, x.u, cnt x.g A (x.en - A), x.g, x.fb⟩ ++ r.list) (k4 : Kept (inB (⟨b2, A, x.en, x.T, x.u, cnt x.g A (x.en - A), x.g, x.fb⟩ :: r.list)) W3 W4) : SplitR lo hi A (Tr.node l x r).list W (.returned (.tuple #[t1.ptr, t2.ptr])) W4 := by
  have ltW := hT.lt
  have c1 := Good.cut gd
  obtain ⟨x1, x2, x3, x4, x5, x6, x7⟩ := c1.2
  obtain ⟨p1, hp1⟩ : ∃ p : Nd, p = ⟨b1, x.fi, A, x.T, x.u, cnt x.g x.fi (A - x.fi), x.g, x.fb⟩ := ⟨_, rfl⟩
  obtain ⟨p2, hp2⟩ : ∃ p : Nd, p = ⟨b2, A, x.en, x.T, x.u, cnt x.g A (x.en - A), x.g, x.fb⟩ := ⟨_, rfl⟩
  rw [← hp1] at e1 k3
  rw [← hp2] at e2 k4
  have kp1 := Good.kp (lo := x.fi) (hi := A) (x := p1) (by rw [hp1]; exact Nat.le_refl _) (by rw [hp1]; exact h1) (by rw [hp1]; exact x3) (by rw [hp1]; exact h3) (by rw [hp1]) (by rw [hp1]; exact Nat.le_refl _)
  have kp2 := Good.kp (lo := A) (hi := x.en) (x := p2) (by rw [hp2]; exact Nat.le_refl _) (by rw [hp2]; exact h2) (by rw [hp2]; exact h3) (by rw [hp2]; exact x4) (by rw [hp2]) (by rw [hp2]; exact Nat.le_refl _)
  have f1 : p1.fi = x.fi ∧ p1.en = A ∧ p1.g = x.g ∧ p1.b = b1 ∧ p1.frm = x.frm := by rw [hp1]; exact ⟨rfl, rfl, rfl, rfl, rfl⟩
  have f2 : p2.fi = A ∧ p2.en = x.en ∧ p2.g = x.g ∧ p2.b = b2 ∧ p2.frm = x.frm := by rw [hp2]; exact ⟨rfl, rfl, rfl, rfl, rfl⟩
  clear hp1 hp2
  obtain ⟨a1, a2, a3, a4, a5⟩ := f1
  obtain ⟨d1, d2, d3, d4, d5⟩ := f2
  have hmem : ∀ z, z ∈ l.list ∨ z = x ∨ z ∈ r.list → z ∈ (Tr.node l x r).list := fun z h => by rw [Tr.list]; simp; exact h
  have un3 : Un (t1.list ++ t2.list) := by
    obtain ⟨u1, u2, u3⟩ := Un.app.1 un
    obtain ⟨u4, u5⟩ := Un.cons.1 u2
    have q1 : Un (keep p1 ++ keep p2) := by
      unfold keep
      split <;> split
      · exact Un.nil
      · exact List.pairwise_singleton _ _
      · exact List.pairwise_singleton _ _
      · exact Un.cons.2 ⟨fun y hy => by simp at hy; rw [hy, a4, d4]; omega, List.pairwise_singleton _ _⟩
    obtain ⟨q2, q3, q4⟩ := Un.app.1 q1
    rw [e1, e2]
    refine Un.app.2 ⟨Un.app.2 ⟨u1, q2, fun v hv y hy => ?_⟩, Un.app.2 ⟨q3, u5, fun v hv y hy => ?_⟩, fun v hv y hy => ?_⟩
    · rw [keep_mem hy, a4]
      have := ltW v (hmem v (.inl hv)); omega
    · rw [keep_mem hv, d4]
      have := ltW y (hmem y (.inr (.inr hy))); omega
    · rcases List.mem_append.1 hv with hv | hv <;> rcases List.mem_append.1 hy with hy | hy
      · rw [keep_mem hy, d4]
        have := ltW v (hmem v (.inl hv)); omega
      · exact u3 v hv y (List.mem_cons_of_mem _ hy)
      · exact q4 v hv y hy
      · rw [keep_mem hv, a4]
        have := ltW y (hmem y (.inr (.inr hy))); omega
  have g1 : Good lo A t1.list := by rw [e1]; exact Good.app c1.1 kp1.1
  have g2 : Good A hi t2.list := by rw [e2]; exact Good.app kp2.1 x7
  refine ⟨t1, t2, rfl, ta.kept k4 (fun z hz hin => ?_), tt, un3, g1, g2, fun w hw => ?_, fun w hw => ?_, fun z hz => ?_, ?_⟩
  · rw [e1] at hz
    obtain ⟨u1, u2, u3⟩ := Un.app.1 un
    rcases inB_cons.1 hin with h | ⟨v, hv, ev⟩
    · rw [d4] at h
      rcases List.mem_append.1 hz with hz | hz
      · have := ltW z (hmem z (.inl hz)); omega
      · rw [keep_mem hz, a4] at h; omega
    · rcases List.mem_append.1 hz with hz | hz
      · exact u3 z hz v (List.mem_cons_of_mem _ hv) ev.symm
      · rw [keep_mem hz, a4] at ev
        have := ltW v (hmem v (.inr (.inr hv))); omega
  · rw [e1, fnOf_app c1.1 kp1.1, Tr.list, fnOf_app c1.1 c1.2]
    split
    · rfl
    · rename_i c
      rw [kp1.2 w (by omega) (by omega), a3, fnOf, if_pos (by omega)]
  · rw [e2, fnOf_app kp2.1 x7, Tr.list, fnOf_app c1.1 c1.2, if_neg (show ¬ w < x.fi by omega), fnOf]
    split
    · rename_i c
      rw [kp2.2 w (by omega) (by omega), d3, if_pos (by omega)]
    · rw [if_neg (by omega)]
  · rw [e1, e2] at hz
    simp only [List.mem_append] at hz
    rcases hz with (hz | hz) | (hz | hz)
    · exact ⟨.inl ⟨z, hmem z (.inl hz), rfl⟩, z, hmem z (.inl hz), rfl⟩
    · rw [keep_mem hz]
      exact ⟨.inr (by rw [a4]; exact n1), x, hmem x (.inr (.inl rfl)), a5.symm⟩
    · rw [keep_mem hz]
      exact ⟨.inr (by rw [d4]; omega), x, hmem x (.inr (.inl rfl)), d5.symm⟩
    · exact ⟨.inl ⟨z, hmem z (.inr (.inr hz)), rfl⟩, z, hmem z (.inr (.inr hz)), rfl⟩
  · refine ((Kept.of_below k0).trans k3 (fun z hz hin => ?_)).trans k4 (fun z hz hin => ?_)
    · rcases inB_app.1 hin with ⟨v, hv, ev⟩ | h
      · exact ⟨v, hmem v (.inl hv), ev⟩
      · rcases inB_cons.1 h with h | ⟨v, hv, _⟩
        · rw [a4] at h; omega
        · cases hv
    · rcases inB_cons.1 hin with h | ⟨v, hv, ev⟩
      · rw [d4] at h; omega
      · exact ⟨v, hmem v (.inr (.inr hv)), ev⟩
theorem split_any : ∀ (t : Tr) (W : World) (lo hi A : Nat), TAt W t → Forms W t.list → Un t.list → Good lo hi t.list → lo ≤ A → A ≤ hi → A % 512 = 0 → hi ≤ 35184372088832 →
    Calls Try.prog 39 #[t.ptr, .int .u64 (A : Nat)] W (SplitR lo hi A t.list W)
  | .nil, W, lo, hi, A, hT, hF, un, gd, hlo, hhi, hA, hM => by
    refine (split_0 (A := (A : Int))).mono ?_
    rintro e W' ⟨rfl, rfl⟩
    exact ⟨.nil, .nil, rfl, trivial, trivial, Un.nil, hlo, hhi, fun _ _ => rfl, fun _ _ => rfl, (fun z hz => by cases hz), Kept.refl _ _⟩
  | .node l x r, W, lo, hi, A, hT, hF, un, gd, hlo, hhi, hA, hM => by
    obtain ⟨hx, hl, hr⟩ := id hT
    have c1 := Good.cut gd
    obtain ⟨x1, x2, x3, x4, x5, x6, x7⟩ := c1.2
    have a0 : W.cell? ⟨x.b, 0, none⟩ = some (.int .u64 (x.fi : Nat)) := Bk.cell hx 0 _ rfl
    have a1 : W.cell? ⟨x.b, 1, none⟩ = some (.int .u64 (x.en : Nat)) := Bk.cell hx 1 _ rfl
    have a2 : W.cell? ⟨x.b, 2, none⟩ = some (.iface x.T x.u) := Bk.cell hx 2 _ rfl
    have a6 : W.cell? ⟨x.b, 6, none⟩ = some l.ptr := Bk.cell hx 6 _ rfl
    have a7 : W.cell? ⟨x.b, 7, none⟩ = some r.ptr := Bk.cell hx 7 _ rfl
    obtain ⟨u1, u2, u3⟩ := Un.app.1 un
    obtain ⟨u4, u5⟩ := Un.cons.1 u2
    have ltW := hT.lt
    have hen : x.en ≤ hi := x7.le
    have unl : Un (l.list ++ x :: r.list) := un
    obtain ⟨ql, hql⟩ := l.ptr_form
    obtain ⟨qr, hqr⟩ := r.ptr_form
    by_cases c : A ≤ x.fi
    · rw [hql] at a6
      refine split_1 a0 a6 (by rw [decide_eq_true_iff]; omega) ?_
      rw [← hql]
      refine (split_any l W lo x.fi A hl (fun z hz => hF z (by rw [Tr.list]; exact List.mem_append_left _ hz)) u1 c1.1 hlo c hA (by omega)).mono ?_
      rintro e W1 ⟨t1, b, rfl, ta, tb, unb, g1, g2, f1, f2, fr, k⟩
      obtain ⟨q1, hq1⟩ := t1.ptr_form
      obtain ⟨q2, hq2⟩ := b.ptr_form
      have x' := Nd.at.kept hx k (fun ⟨w, hw, e⟩ => unl.out (.inl hw) e)
      have r' := hr.kept k (fun w hw ⟨v, hv, e⟩ => u3 v hv w (List.mem_cons_of_mem _ hw) e)
      refine ⟨q1, q2, qr, by rw [hq1, hq2], ?_, ?_⟩
      · have := Bk.cell x' 7 _ rfl
        rwa [hqr] at this
      rw [← hq2, ← hqr]
      have fx := fresh (B := x :: r.list) (fun y hy => ltW y (by rw [Tr.list]; exact List.mem_append_right _ hy)) u3 fr
      refine (join_any x' tb r' (Un.app.2 ⟨(Un.app.1 unb).2.1, u2, fun z hz y hy => fx z (List.mem_append_right _ hz) y hy⟩) ((Good.app g2 c1.2).bd hM) g2.pos x7.pos).mono ?_
      rintro e W2 ⟨t2, rfl, tt, e2, k2⟩
      refine ⟨_, rfl, ?_⟩
      rw [← hq1]
      exact split_left hT un gd c ta tb unb g1 g2 f1 f2 fr k tt (by rw [e2, keep, if_neg x6]; simp) k2
    by_cases c2 : x.en ≤ A
    · rw [hqr] at a7
      refine split_2 a0 a1 a7 (by rw [decide_eq_false_iff_not]; omega) (by rw [decide_eq_true_iff]; omega) ?_
      rw [← hqr]
      refine (split_any r W x.en hi A hr (fun z hz => hF z (by rw [Tr.list]; exact List.mem_append_right _ (List.mem_cons_of_mem _ hz))) u5 x7 c2 hhi hA hM).mono ?_
      rintro e W1 ⟨a, t2, rfl, ta, tb, unb, g1, g2, f1, f2, fr, k⟩
      obtain ⟨q1, hq1⟩ := a.ptr_form
      obtain ⟨q2, hq2⟩ := t2.ptr_form
      have x' := Nd.at.kept hx k (fun ⟨w, hw, e⟩ => unl.out (.inr hw) e)
      have l' := hl.kept k (fun w hw ⟨v, hv, e⟩ => u3 w hw v (List.mem_cons_of_mem _ hv) e.symm)
      refine ⟨q1, q2, ql, by rw [hq1, hq2], ?_, ?_⟩
      · have := Bk.cell x' 6 _ rfl
        rwa [hql] at this
      rw [← hq1, ← hql]
      have unlx : Un ((l.list ++ [x]) ++ r.list) := by simpa using unl
      have fx := fresh (B := l.list ++ [x]) (fun y hy => ltW y (by rw [Tr.list]; simp at hy ⊢; grind)) (fun v hv y hy => fun e => (Un.app.1 unlx).2.2 y hy v hv e.symm) fr
      have gx : Good lo x.en (l.list ++ [x]) := Good.app c1.1 (B := [x]) ⟨x1, x2, x3, x4, x5, x6, Nat.le_refl _⟩
      have eq1 : l.list ++ x :: a.list = (l.list ++ [x]) ++ a.list := by simp
      refine (join_any x' l' ta (by rw [eq1]; exact Un.app.2 ⟨(Un.app.1 unlx).1, (Un.app.1 unb).1, fun y hy z hz e => fx z (List.mem_append_left _ hz) y hy e.symm⟩) (by rw [eq1]; exact (Good.app gx g1).bd (by omega)) c1.1.pos g1.pos).mono ?_
      rintro e W2 ⟨t1, rfl, tt, e2, k2⟩
      refine ⟨_, rfl, ?_⟩
      rw [← hq2]
      exact split_right hT un gd c2 ta tb unb g1 g2 f1 f2 fr k tt (by rw [e2, keep, if_neg x6]; simp) k2
    · have d0 := drew_below W
      have fx0 : FormAt W x.T x.u x.g x.fb := hF x (by rw [Tr.list]; simp)
      refine split_3 a0 a1 a2 (by rw [decide_eq_false_iff_not]; omega) (by rw [decide_eq_false_iff_not]; omega) ?_
      refine (newPiece_any (fx0.below d0) x.fi A (by omega) (by omega)).mono ?_
      rintro e W1 ⟨b1, rfl, n1, p1, k1⟩
      have k01 : Below W.heap.size W W1 := d0.trans (k1.mono d0.size)
      have x1' := Nd.at.below hx k01
      refine ⟨b1, rfl, Bk.cell x1' 0 _ rfl, Bk.cell x1' 1 _ rfl, Bk.cell x1' 2 _ rfl, ?_⟩
      refine (newPiece_any (fx0.below k01) A x.en (by omega) (by omega)).mono ?_
      rintro e W2 ⟨b2, rfl, n2, p2, k2⟩
      have k02 : Below W.heap.size W W2 := k01.trans (k2.mono k01.size)
      have x2' := Nd.at.below hx k02
      have a6' : W2.cell? ⟨x.b, 6, none⟩ = some l.ptr := Bk.cell x2' 6 _ rfl
      have a7' : W2.cell? ⟨x.b, 7, none⟩ = some r.ptr := Bk.cell x2' 7 _ rfl
      rw [hql] at a6'
      rw [hqr] at a7'
      refine ⟨b2, rfl, Bk.cell x2' 0 _ rfl, Bk.cell x2' 1 _ rfl, Bk.cell x2' 2 _ rfl, ql, qr, a6', a7', ?_⟩
      have d3 := drew_below W2
      have k03 : Below W.heap.size W W2.drew := k02.trans (d3.mono k02.size)
      have lt1 : b1 < W1.heap.size := Bk.lt p1
      have lt2 : b2 < W2.heap.size := Bk.lt p2
      have l3 := hl.below k03
      have p13 := Nd.at.below (Nd.at.below p1 k2) d3
      have bdl := (gd.bd hM)
      have w1 := cnt_part x.g (a := x.fi) (b := A) (c := x.en) (by omega) (by omega)
      have bdA : Bd (l.list ++ [⟨b1, x.fi, A, x.T, x.u, cnt x.g x.fi (A - x.fi), x.g, x.fb⟩]) := by
        obtain ⟨y1, y2⟩ := bdl
        rw [Tr.list, List.length_append, List.length_cons] at y1
        rw [Tr.list, owns_app, owns_cons] at y2
        exact ⟨by rw [List.length_append, List.length_singleton]; omega, by rw [owns_app, owns_cons, owns_nil]; show owns l.list + (cnt x.g x.fi (A - x.fi) + 0) < _; omega⟩
      have bdB : Bd ([] ++ ⟨b2, A, x.en, x.T, x.u, cnt x.g A (x.en - A), x.g, x.fb⟩ :: r.list) := by
        obtain ⟨y1, y2⟩ := bdl
        rw [Tr.list, List.length_append, List.length_cons] at y1
        rw [Tr.list, owns_app, owns_cons] at y2
        exact ⟨by rw [List.nil_append, List.length_cons]; omega, by rw [List.nil_append, owns_cons]; show cnt x.g A (x.en - A) + owns r.list < _; omega⟩
      have bne : ∀ w ∈ (Tr.node l x r).list, w.b ≠ b1 ∧ w.b ≠ b2 := fun w hw => by
        have := ltW w hw
        have := d0.size
        have := k1.size
        have s1 := k01.size
        exact ⟨by omega, by omega⟩
      rw [← hql]
      have unA : Un (l.list ++ [⟨b1, x.fi, A, x.T, x.u, cnt x.g x.fi (A - x.fi), x.g, x.fb⟩]) := Un.app.2 ⟨u1, List.pairwise_singleton _ _, fun z hz y hy => by simp at hy; rw [hy]; exact (bne z (by rw [Tr.list]; exact List.mem_append_left _ hz)).1⟩
      refine (join_any (r := .nil) p13 l3 trivial unA bdA c1.1.pos (fun z hz => by cases hz)).mono ?_
      rintro e W3 ⟨t1, rfl, ta, e1, k3⟩
      obtain ⟨q3, hq3⟩ := t1.ptr_form
      have x3' := Nd.at.kept (Nd.at.below x2' d3) k3 (fun h => by
        rcases inB_app.1 h with ⟨v, hv, ev⟩ | h
        · exact unl.out (.inl hv) ev
        · rcases inB_cons.1 h with h | ⟨v, hv, _⟩
          · exact (bne x (by rw [Tr.list]; simp)).1 h
          · cases hv)
      have a6'' : W3.cell? ⟨x.b, 6, none⟩ = some l.ptr := Bk.cell x3' 6 _ rfl
      have a7'' : W3.cell? ⟨x.b, 7, none⟩ = some r.ptr := Bk.cell x3' 7 _ rfl
      rw [hqr] at a7''
      refine ⟨q3, by rw [hq3], a6'', a7'', ?_⟩
      have r3 := (hr.below k03).kept k3 (fun w hw h => by
        rcases inB_app.1 h with ⟨v, hv, ev⟩ | h
        · exact u3 v hv w (List.mem_cons_of_mem _ hw) ev
        · rcases inB_cons.1 h with h | ⟨v, hv, _⟩
          · exact (bne w (by rw [Tr.list]; simp [hw])).1 h
          · cases hv)
      have p23 := Nd.at.kept (Nd.at.below p2 d3) k3 (fun h => by
        rcases inB_app.1 h with ⟨v, hv, ev⟩ | h
        · exact (bne v (by rw [Tr.list]; exact List.mem_append_left _ hv)).2 ev
        · rcases inB_cons.1 h with h | ⟨v, hv, _⟩
          · have h : b2 = b1 := h
            omega
          · cases hv)
      rw [← hqr]
      refine (join_any (l := .nil) p23 trivial r3 (Un.app.2 ⟨Un.nil, Un.cons.2 ⟨fun y hy e => (bne y (by rw [Tr.list]; simp [hy])).2 e.symm, u5⟩, fun z hz => by cases hz⟩) bdB (fun z hz => by cases hz) x7.pos).mono ?_
      rintro e W4 ⟨t2, rfl, tt, e2, k4⟩
      have x4' := Nd.at.kept x3' k4 (fun h => by
        rcases inB_cons.1 h with h | ⟨v, hv, ev⟩
        · exact (bne x (by rw [Tr.list]; simp)).2 h
        · exact unl.out (.inr hv) ev)
      refine ⟨_, rfl, Bk.cell x4' 6 _ rfl, Bk.cell x4' 7 _ rfl, ?_⟩
      rw [← hq3]
      exact split_mid hT un gd (by omega) (by omega) hA (by have := d0.size; omega) (by omega) k03 (by have := d3.size; have := k2.size; omega) ta (by rw [e1]; simp [Tr.list]) k3 tt (by rw [e2]; simp [Tr.list]) k4
end Go.Proofs.Ytnhllnepnpmegaa
