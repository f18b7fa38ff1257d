/- J08 of the proof of both laws: texts Ge, Gf, Gg, one behind the other. -/
import Derived.Test.YtnhllnepnpmegaaJ07
/- The tree of pieces: split: contract. -/
namespace Go.Proofs.Ytnhllnepnpmegaa
open Go.ChangeShapes Go.WideShapes Go.ChangeAt Go.RowKit Go.Shelf Go.Proofs.Rx Go.Maps Go.Proofs.Bt
set_option linter.unusedVariables false
set_option linter.unusedSimpArgs false

attribute [local go_sem] Oper.semAt_some

/-- A piece's form. -/
def Nd.frm (x : Nd) : Nat × Value × (Nat → Bool) × List Nat := (x.T, x.u, x.g, x.fb)
def FQ (W : World) (q : Nat × Value × (Nat → Bool) × List Nat) : Prop := FormAt W q.1 q.2.1 q.2.2.1 q.2.2.2
def Forms (W : World) (L : List Nd) : Prop := ∀ x ∈ L, FQ W x.frm
/-- Old pieces, or new ones. -/
def Fr (W : World) (L L' : List Nd) : Prop := ∀ x ∈ L', (inB L x.b ∨ W.heap.size ≤ x.b) ∧ ∃ y ∈ L, y.frm = x.frm
theorem FQ.kept {F : Nat → Prop} {W W' : World} {q} (h : FQ W q) (k : Kept F W W') (n : ∀ z ∈ q.2.2.2, ¬ F z) : FQ W' q := FormAt.kept h k n
theorem Forms.apart {W : World} {L : List Nd} {t : Tr} (h : Forms W L) (ht : TAt W t) : ∀ x ∈ L, ∀ z ∈ x.fb, ¬ inB t.list z := fun x hx z hz ⟨y, hy, e⟩ => by
  obtain ⟨vs, hv⟩ := ht.type y hy
  rw [e] at hv
  exact FormAt.type (h x hx) z hz vs hv
theorem Forms.kept {W W' : World} {L : List Nd} {t : Tr} (h : Forms W L) (ht : TAt W t) (k : Kept (inB t.list) W W') : Forms W' L := fun x hx => (h x hx).kept k (h.apart ht x hx)
theorem Forms.of {W : World} {L L' : List Nd} {V : World} (h : Forms W L) (f : Fr V L L') : Forms W L' := fun x hx => by
  obtain ⟨_, y, hy, e⟩ := f x hx
  rw [← e]; exact h y hy
theorem Forms.below {W W' : World} {L : List Nd} (h : Forms W L) (k : Below W.heap.size W W') : Forms W' L := fun x hx => FormAt.below (h x hx) k
def SplitR (lo hi A : Nat) (L : List Nd) (W : World) (e : Ending) (W' : World) : Prop := ∃ t1 t2 : Tr, e = .returned (.tuple #[t1.ptr, t2.ptr]) ∧ TAt W' t1 ∧ TAt W' t2 ∧ Un (t1.list ++ t2.list) ∧ Good lo A t1.list ∧ Good A hi t2.list ∧
  (∀ w, w < A → fnOf t1.list w = fnOf L w) ∧ (∀ w, A ≤ w → fnOf t2.list w = fnOf L w) ∧ Fr W L (t1.list ++ t2.list) ∧ Kept (inB L) W W'
theorem Un.comm {A B : List Nd} (h : Un (A ++ B)) : Un (B ++ A) := by
  obtain ⟨a, b, c⟩ := Un.app.1 h
  exact Un.app.2 ⟨b, a, fun x hx y hy e => c y hy x hx e.symm⟩
theorem keep_mem {x y : Nd} (h : y ∈ keep x) : y = x := by
  have := (keep_sub x).subset h
  simpa using this
/-- Below x. -/
theorem split_left {W W1 W2 : World} {lo hi A : Nat} {l r : Tr} {x : Nd} {t1 b t2 : Tr} (hT : TAt W (.node l x r)) (un : Un (Tr.node l x r).list) (gd : Good lo hi (Tr.node l x r).list) (hA : A ≤ x.fi)
    (ta : TAt W1 t1) (tb : TAt W1 b) (unb : Un (t1.list ++ b.list)) (g1 : Good lo A t1.list) (g2 : Good A x.fi b.list) (f1 : ∀ w, w < A → fnOf t1.list w = fnOf l.list w) (f2 : ∀ w, A ≤ w → fnOf b.list w = fnOf l.list w) (fr : Fr W l.list (t1.list ++ b.list)) (k : Kept (inB l.list) W W1)
    (tt : TAt W2 t2) (e2 : t2.list = b.list ++ x :: r.list) (k2 : Kept (inB (b.list ++ x :: r.list)) W1 W2) : SplitR lo hi A (Tr.node l x r).list W (.returned (.tuple #[t1.ptr, t2.ptr])) W2 := by
  have ltW := hT.lt
  have c1 := Good.cut gd
  have unx : ∀ z ∈ t1.list ++ b.list, ∀ y ∈ x :: r.list, z.b ≠ y.b := fun z hz y hy e => by
    rcases (fr z hz).1 with ⟨v, hv, ev⟩ | u
    · exact (Un.app.1 un).2.2 v hv y hy (ev.trans e)
    · have := ltW y (by rw [Tr.list]; exact List.mem_append_right _ hy)
      omega
  obtain ⟨u1, u2, u3⟩ := Un.app.1 unb
  have un3 : Un (t1.list ++ t2.list) := by
    rw [e2, ← List.append_assoc]
    exact Un.app.2 ⟨unb, (Un.app.1 un).2.1, unx⟩
  refine ⟨t1, t2, rfl, ta.kept k2 (fun z hz hin => ?_), tt, un3, g1, ?_, fun w hw => ?_, fun w hw => ?_, fun z hz => ?_, ?_⟩
  · obtain ⟨v, hv, ev⟩ := hin
    rw [← e2] at hv
    exact (Un.app.1 un3).2.2 z hz v hv ev.symm
  · rw [e2]; exact Good.app g2 c1.2
  · rw [f1 w hw, Tr.list, fnOf_app c1.1 c1.2, if_pos (by omega)]
  · rw [e2, fnOf_app g2 c1.2, Tr.list, fnOf_app c1.1 c1.2]
    split
    · exact f2 w hw
    · rfl
  · rw [e2, ← List.append_assoc] at hz
    rcases List.mem_append.1 hz with hz | hz
    · obtain ⟨a, y, hy, ey⟩ := fr z hz
      refine ⟨a.imp (fun h => inB_sub (fun v hv => by rw [Tr.list]; exact List.mem_append_left _ hv) h) (fun h => h), y, by rw [Tr.list]; exact List.mem_append_left _ hy, ey⟩
    · exact ⟨.inl ⟨z, by rw [Tr.list]; exact List.mem_append_right _ hz, rfl⟩, z, by rw [Tr.list]; exact List.mem_append_right _ hz, rfl⟩
  · refine (k.mono fun z hz => inB_sub (fun v hv => by rw [Tr.list]; exact List.mem_append_left _ hv) hz).trans k2 (fun z hz hin => ?_)
    rcases inB_app.1 hin with ⟨v, hv, ev⟩ | h
    · rcases (fr v (List.mem_append_right _ hv)).1 with u | u
      · rw [← ev]; exact inB_sub (fun v hv => by rw [Tr.list]; exact List.mem_append_left _ hv) u
      · omega
    · exact inB_sub (fun v hv => by rw [Tr.list]; exact List.mem_append_right _ hv) h
/-- Behind x. -/
theorem split_right {W W1 W2 : World} {lo hi A : Nat} {l r : Tr} {x : Nd} {a t2 t1 : Tr} (hT : TAt W (.node l x r)) (un : Un (Tr.node l x r).list) (gd : Good lo hi (Tr.node l x r).list) (hA : x.en ≤ A)
    (ta : TAt W1 a) (tb : TAt W1 t2) (unb : Un (a.list ++ t2.list)) (g1 : Good x.en A a.list) (g2 : Good A hi t2.list) (f1 : ∀ w, w < A → fnOf a.list w = fnOf r.list w) (f2 : ∀ w, A ≤ w → fnOf t2.list w = fnOf r.list w) (fr : Fr W r.list (a.list ++ t2.list)) (k : Kept (inB r.list) W W1)
    (tt : TAt W2 t1) (e2 : t1.list = l.list ++ x :: a.list) (k2 : Kept (inB (l.list ++ x :: a.list)) W1 W2) : SplitR lo hi A (Tr.node l x r).list W (.returned (.tuple #[t1.ptr, t2.ptr])) W2 := by
  have ltW := hT.lt
  have c1 := Good.cut gd
  obtain ⟨x1, x2, x3, x4, x5, x6, x7⟩ := c1.2
  have un' : Un ((l.list ++ [x]) ++ r.list) := by have := un; rw [Tr.list] at this; simpa using this
  have unx : ∀ y ∈ l.list ++ [x], ∀ z ∈ a.list ++ t2.list, y.b ≠ z.b := fun y hy z hz e => by
    rcases (fr z hz).1 with ⟨v, hv, ev⟩ | u
    · exact (Un.app.1 un').2.2 y hy v hv (e.trans ev.symm)
    · have := ltW y (by rw [Tr.list]; simp at hy ⊢; grind)
      omega
  have e3 : t1.list = (l.list ++ [x]) ++ a.list := by rw [e2]; simp
  have gx : Good lo x.en (l.list ++ [x]) := Good.app c1.1 (B := [x]) ⟨x1, x2, x3, x4, x5, x6, Nat.le_refl _⟩
  have e4 : (Tr.node l x r).list = (l.list ++ [x]) ++ r.list := by rw [Tr.list]; simp
  have un3 : Un (t1.list ++ t2.list) := by
    rw [e3, List.append_assoc]
    exact Un.app.2 ⟨(Un.app.1 un').1, unb, unx⟩
  refine ⟨t1, t2, rfl, tt, tb.kept k2 (fun z hz hin => ?_), un3, ?_, g2, fun w hw => ?_, fun w hw => ?_, fun z hz => ?_, ?_⟩
  · obtain ⟨v, hv, ev⟩ := hin
    rw [← e2] at hv
    exact (Un.app.1 un3).2.2 v hv z hz ev
  · rw [e3]; exact Good.app gx g1
  · rw [e3, e4, fnOf_app gx g1, fnOf_app gx x7]
    split
    · rfl
    · exact f1 w hw
  · rw [f2 w hw, e4, fnOf_app gx x7, if_neg (by omega)]
  · rw [e3, List.append_assoc] at hz
    rcases List.mem_append.1 hz with hz | hz
    · have hm : z ∈ (Tr.node l x r).list := by rw [e4]; exact List.mem_append_left _ hz
      exact ⟨.inl ⟨z, hm, rfl⟩, z, hm, rfl⟩
    · obtain ⟨b, y, hy, ey⟩ := fr z hz
      refine ⟨b.imp (fun h => inB_sub (fun v hv => by rw [e4]; exact List.mem_append_right _ hv) h) (fun h => h), y, by rw [e4]; exact List.mem_append_right _ hy, ey⟩
  · refine (k.mono fun z hz => inB_sub (fun v hv => by rw [e4]; exact List.mem_append_right _ hv) hz).trans k2 (fun z hz hin => ?_)
    rw [show l.list ++ x :: a.list = (l.list ++ [x]) ++ a.list by simp] at hin
    rcases inB_app.1 hin with h | ⟨v, hv, ev⟩
    · exact inB_sub (fun v hv => by rw [e4]; exact List.mem_append_left _ hv) h
    · rcases (fr v (List.mem_append_left _ hv)).1 with u | u
      · rw [← ev]; exact inB_sub (fun v hv => by rw [e4]; exact List.mem_append_right _ hv) u
      · omega
end Go.Proofs.Ytnhllnepnpmegaa

/- The tree of pieces: split, put: contracts. -/
namespace Go.Proofs.Ytnhllnepnpmegaa
open Go.ChangeShapes Go.WideShapes Go.ChangeAt Go.RowKit Go.Shelf Go.Proofs.Rx Go.Maps Go.Proofs.Bt
set_option linter.unusedVariables false
set_option linter.unusedSimpArgs false

attribute [local go_sem] Oper.semAt_some

theorem fresh {W : World} {A B L' : List Nd} (hB : ∀ y ∈ B, y.b < W.heap.size) (d : ∀ v ∈ A, ∀ y ∈ B, v.b ≠ y.b) (fr : Fr W A L') : ∀ z ∈ L', ∀ y ∈ B, z.b ≠ y.b := fun z hz y hy e => by
  rcases (fr z hz).1 with ⟨v, hv, ev⟩ | u
  · exact d v hv y hy (ev.trans e)
  · have := hB y hy
    omega
theorem cnt_part (g : Nat → Bool) {a b c : Nat} (h1 : a ≤ b) (h2 : b ≤ c) : cnt g a (b - a) + cnt g b (c - b) = cnt g a (c - a) := by
  rw [show c - a = (b - a) + (c - b) by omega, cnt_add, show a + (b - a) = b by omega]
theorem split_mid {W W2 W3 W4 : World} {lo hi A b1 b2 : Nat} {l r : Tr} {x : Nd} {t1 t2 : Tr} (hT : TAt W (.node l x r)) (un : Un (Tr.node l x r).list) (gd : Good lo hi (Tr.node l x r).list) (h1 : x.fi < A) (h2 : A < x.en) (h3 : A % 512 = 0) (n1 : W.heap.size ≤ b1) (n2 : b1 < b2)
    (k0 : Below W.heap.size W W2) (lt1 : b1 < W2.heap.size)
    (ta : TAt W3 t1) (e1 : t1.list = l.list ++ keep ⟨b1, x.fi, A, x.T, x.u, cnt x.g x.fi (A - x.fi), x.g, x.fb⟩) (k3 : Kept (inB (l.list ++ [⟨b1, x.fi, A, x.T, x.u, cnt x.g x.fi (A - x.fi), x.g, x.fb⟩])) W2 W3)
    (tt : TAt W4 t2) (e2 : t2.list = keep ⟨b2, A, x.en, x.T, x.u, cnt x.g A (x.en - A), x.g, x.fb⟩ ++ r.list) (k4 : Kept (inB (⟨b2, A, x.en, x.T, x.u, cnt x.g A (x.en - A), x.g, x.fb⟩ :: r.list)) W3 W4) : SplitR lo hi A (Tr.node l x r).list W (.returned (.tuple #[t1.ptr, t2.ptr])) W4 := by
  have ltW := hT.lt
  have c1 := Good.cut gd
  obtain ⟨x1, x2, x3, x4, x5, x6, x7⟩ := c1.2
  obtain ⟨p1, hp1⟩ : ∃ p : Nd, p = ⟨b1, x.fi, A, x.T, x.u, cnt x.g x.fi (A - x.fi), x.g, x.fb⟩ := ⟨_, rfl⟩
  obtain ⟨p2, hp2⟩ : ∃ p : Nd, p = ⟨b2, A, x.en, x.T, x.u, cnt x.g A (x.en - A), x.g, x.fb⟩ := ⟨_, rfl⟩
  rw [← hp1] at e1 k3
  rw [← hp2] at e2 k4
  have kp1 := Good.kp (lo := x.fi) (hi := A) (x := p1) (by rw [hp1]; exact Nat.le_refl _) (by rw [hp1]; exact h1) (by rw [hp1]; exact x3) (by rw [hp1]; exact h3) (by rw [hp1]) (by rw [hp1]; exact Nat.le_refl _)
  have kp2 := Good.kp (lo := A) (hi := x.en) (x := p2) (by rw [hp2]; exact Nat.le_refl _) (by rw [hp2]; exact h2) (by rw [hp2]; exact h3) (by rw [hp2]; exact x4) (by rw [hp2]) (by rw [hp2]; exact Nat.le_refl _)
  have f1 : p1.fi = x.fi ∧ p1.en = A ∧ p1.g = x.g ∧ p1.b = b1 ∧ p1.frm = x.frm := by rw [hp1]; exact ⟨rfl, rfl, rfl, rfl, rfl⟩
  have f2 : p2.fi = A ∧ p2.en = x.en ∧ p2.g = x.g ∧ p2.b = b2 ∧ p2.frm = x.frm := by rw [hp2]; exact ⟨rfl, rfl, rfl, rfl, rfl⟩
  clear hp1 hp2
  obtain ⟨a1, a2, a3, a4, a5⟩ := f1
  obtain ⟨d1, d2, d3, d4, d5⟩ := f2
  have hmem : ∀ z, z ∈ l.list ∨ z = x ∨ z ∈ r.list → z ∈ (Tr.node l x r).list := fun z h => by rw [Tr.list]; simp; exact h
  have un3 : Un (t1.list ++ t2.list) := by
    obtain ⟨u1, u2, u3⟩ := Un.app.1 un
    obtain ⟨u4, u5⟩ := Un.cons.1 u2
    have q1 : Un (keep p1 ++ keep p2) := by
      unfold keep
      split <;> split
      · exact Un.nil
      · exact List.pairwise_singleton _ _
      · exact List.pairwise_singleton _ _
      · exact Un.cons.2 ⟨fun y hy => by simp at hy; rw [hy, a4, d4]; omega, List.pairwise_singleton _ _⟩
    obtain ⟨q2, q3, q4⟩ := Un.app.1 q1
    rw [e1, e2]
    refine Un.app.2 ⟨Un.app.2 ⟨u1, q2, fun v hv y hy => ?_⟩, Un.app.2 ⟨q3, u5, fun v hv y hy => ?_⟩, fun v hv y hy => ?_⟩
    · rw [keep_mem hy, a4]
      have := ltW v (hmem v (.inl hv)); omega
    · rw [keep_mem hv, d4]
      have := ltW y (hmem y (.inr (.inr hy))); omega
    · rcases List.mem_append.1 hv with hv | hv <;> rcases List.mem_append.1 hy with hy | hy
      · rw [keep_mem hy, d4]
        have := ltW v (hmem v (.inl hv)); omega
      · exact u3 v hv y (List.mem_cons_of_mem _ hy)
      · exact q4 v hv y hy
      · rw [keep_mem hv, a4]
        have := ltW y (hmem y (.inr (.inr hy))); omega
  have g1 : Good lo A t1.list := by rw [e1]; exact Good.app c1.1 kp1.1
  have g2 : Good A hi t2.list := by rw [e2]; exact Good.app kp2.1 x7
  refine ⟨t1, t2, rfl, ta.kept k4 (fun z hz hin => ?_), tt, un3, g1, g2, fun w hw => ?_, fun w hw => ?_, fun z hz => ?_, ?_⟩
  · rw [e1] at hz
    obtain ⟨u1, u2, u3⟩ := Un.app.1 un
    rcases inB_cons.1 hin with h | ⟨v, hv, ev⟩
    · rw [d4] at h
      rcases List.mem_append.1 hz with hz | hz
      · have := ltW z (hmem z (.inl hz)); omega
      · rw [keep_mem hz, a4] at h; omega
    · rcases List.mem_append.1 hz with hz | hz
      · exact u3 z hz v (List.mem_cons_of_mem _ hv) ev.symm
      · rw [keep_mem hz, a4] at ev
        have := ltW v (hmem v (.inr (.inr hv))); omega
  · rw [e1, fnOf_app c1.1 kp1.1, Tr.list, fnOf_app c1.1 c1.2]
    split
    · rfl
    · rename_i c
      rw [kp1.2 w (by omega) (by omega), a3, fnOf, if_pos (by omega)]
  · rw [e2, fnOf_app kp2.1 x7, Tr.list, fnOf_app c1.1 c1.2, if_neg (show ¬ w < x.fi by omega), fnOf]
    split
    · rename_i c
      rw [kp2.2 w (by omega) (by omega), d3, if_pos (by omega)]
    · rw [if_neg (by omega)]
  · rw [e1, e2] at hz
    simp only [List.mem_append] at hz
    rcases hz with (hz | hz) | (hz | hz)
    · exact ⟨.inl ⟨z, hmem z (.inl hz), rfl⟩, z, hmem z (.inl hz), rfl⟩
    · rw [keep_mem hz]
      exact ⟨.inr (by rw [a4]; exact n1), x, hmem x (.inr (.inl rfl)), a5.symm⟩
    · rw [keep_mem hz]
      exact ⟨.inr (by rw [d4]; omega), x, hmem x (.inr (.inl rfl)), d5.symm⟩
    · exact ⟨.inl ⟨z, hmem z (.inr (.inr hz)), rfl⟩, z, hmem z (.inr (.inr hz)), rfl⟩
  · refine ((Kept.of_below k0).trans k3 (fun z hz hin => ?_)).trans k4 (fun z hz hin => ?_)
    · rcases inB_app.1 hin with ⟨v, hv, ev⟩ | h
      · exact ⟨v, hmem v (.inl hv), ev⟩
      · rcases inB_cons.1 h with h | ⟨v, hv, _⟩
        · rw [a4] at h; omega
        · cases hv
    · rcases inB_cons.1 hin with h | ⟨v, hv, ev⟩
      · rw [d4] at h; omega
      · exact ⟨v, hmem v (.inr (.inr hv)), ev⟩
theorem split_any : ∀ (t : Tr) (W : World) (lo hi A : Nat), TAt W t → Forms W t.list → Un t.list → Good lo hi t.list → lo ≤ A → A ≤ hi → A % 512 = 0 → hi ≤ 35184372088832 →
    Calls Try.prog 39 #[t.ptr, .int .u64 (A : Nat)] W (SplitR lo hi A t.list W)
  | .nil, W, lo, hi, A, hT, hF, un, gd, hlo, hhi, hA, hM => by
    refine (split_0 (A := (A : Int))).mono ?_
    rintro e W' ⟨rfl, rfl⟩
    exact ⟨.nil, .nil, rfl, trivial, trivial, Un.nil, hlo, hhi, fun _ _ => rfl, fun _ _ => rfl, (fun z hz => by cases hz), Kept.refl _ _⟩
  | .node l x r, W, lo, hi, A, hT, hF, un, gd, hlo, hhi, hA, hM => by
    obtain ⟨hx, hl, hr⟩ := id hT
    have c1 := Good.cut gd
    obtain ⟨x1, x2, x3, x4, x5, x6, x7⟩ := c1.2
    have a0 : W.cell? ⟨x.b, 0, none⟩ = some (.int .u64 (x.fi : Nat)) := Bk.cell hx 0 _ rfl
    have a1 : W.cell? ⟨x.b, 1, none⟩ = some (.int .u64 (x.en : Nat)) := Bk.cell hx 1 _ rfl
    have a2 : W.cell? ⟨x.b, 2, none⟩ = some (.iface x.T x.u) := Bk.cell hx 2 _ rfl
    have a6 : W.cell? ⟨x.b, 6, none⟩ = some l.ptr := Bk.cell hx 6 _ rfl
    have a7 : W.cell? ⟨x.b, 7, none⟩ = some r.ptr := Bk.cell hx 7 _ rfl
    obtain ⟨u1, u2, u3⟩ := Un.app.1 un
    obtain ⟨u4, u5⟩ := Un.cons.1 u2
    have ltW := hT.lt
    have hen : x.en ≤ hi := x7.le
    have unl : Un (l.list ++ x :: r.list) := un
    obtain ⟨ql, hql⟩ := l.ptr_form
    obtain ⟨qr, hqr⟩ := r.ptr_form
    by_cases c : A ≤ x.fi
    · rw [hql] at a6
      refine split_1 a0 a6 (by rw [decide_eq_true_iff]; omega) ?_
      rw [← hql]
      refine (split_any l W lo x.fi A hl (fun z hz => hF z (by rw [Tr.list]; exact List.mem_append_left _ hz)) u1 c1.1 hlo c hA (by omega)).mono ?_
      rintro e W1 ⟨t1, b, rfl, ta, tb, unb, g1, g2, f1, f2, fr, k⟩
      obtain ⟨q1, hq1⟩ := t1.ptr_form
      obtain ⟨q2, hq2⟩ := b.ptr_form
      have x' := Nd.at.kept hx k (fun ⟨w, hw, e⟩ => unl.out (.inl hw) e)
      have r' := hr.kept k (fun w hw ⟨v, hv, e⟩ => u3 v hv w (List.mem_cons_of_mem _ hw) e)
      refine ⟨q1, q2, qr, by rw [hq1, hq2], ?_, ?_⟩
      · have := Bk.cell x' 7 _ rfl
        rwa [hqr] at this
      rw [← hq2, ← hqr]
      have fx := fresh (B := x :: r.list) (fun y hy => ltW y (by rw [Tr.list]; exact List.mem_append_right _ hy)) u3 fr
      refine (join_any x' tb r' (Un.app.2 ⟨(Un.app.1 unb).2.1, u2, fun z hz y hy => fx z (List.mem_append_right _ hz) y hy⟩) ((Good.app g2 c1.2).bd hM) g2.pos x7.pos).mono ?_
      rintro e W2 ⟨t2, rfl, tt, e2, k2⟩
      refine ⟨_, rfl, ?_⟩
      rw [← hq1]
      exact split_left hT un gd c ta tb unb g1 g2 f1 f2 fr k tt (by rw [e2, keep, if_neg x6]; simp) k2
    by_cases c2 : x.en ≤ A
    · rw [hqr] at a7
      refine split_2 a0 a1 a7 (by rw [decide_eq_false_iff_not]; omega) (by rw [decide_eq_true_iff]; omega) ?_
      rw [← hqr]
      refine (split_any r W x.en hi A hr (fun z hz => hF z (by rw [Tr.list]; exact List.mem_append_right _ (List.mem_cons_of_mem _ hz))) u5 x7 c2 hhi hA hM).mono ?_
      rintro e W1 ⟨a, t2, rfl, ta, tb, unb, g1, g2, f1, f2, fr, k⟩
      obtain ⟨q1, hq1⟩ := a.ptr_form
      obtain ⟨q2, hq2⟩ := t2.ptr_form
      have x' := Nd.at.kept hx k (fun ⟨w, hw, e⟩ => unl.out (.inr hw) e)
      have l' := hl.kept k (fun w hw ⟨v, hv, e⟩ => u3 w hw v (List.mem_cons_of_mem _ hv) e.symm)
      refine ⟨q1, q2, ql, by rw [hq1, hq2], ?_, ?_⟩
      · have := Bk.cell x' 6 _ rfl
        rwa [hql] at this
      rw [← hq1, ← hql]
      have unlx : Un ((l.list ++ [x]) ++ r.list) := by simpa using unl
      have fx := fresh (B := l.list ++ [x]) (fun y hy => ltW y (by rw [Tr.list]; simp at hy ⊢; grind)) (fun v hv y hy => fun e => (Un.app.1 unlx).2.2 y hy v hv e.symm) fr
      have gx : Good lo x.en (l.list ++ [x]) := Good.app c1.1 (B := [x]) ⟨x1, x2, x3, x4, x5, x6, Nat.le_refl _⟩
      have eq1 : l.list ++ x :: a.list = (l.list ++ [x]) ++ a.list := by simp
      refine (join_any x' l' ta (by rw [eq1]; exact Un.app.2 ⟨(Un.app.1 unlx).1, (Un.app.1 unb).1, fun y hy z hz e => fx z (List.mem_append_left _ hz) y hy e.symm⟩) (by rw [eq1]; exact (Good.app gx g1).bd (by omega)) c1.1.pos g1.pos).mono ?_
      rintro e W2 ⟨t1, rfl, tt, e2, k2⟩
      refine ⟨_, rfl, ?_⟩
      rw [← hq2]
      exact split_right hT un gd c2 ta tb unb g1 g2 f1 f2 fr k tt (by rw [e2, keep, if_neg x6]; simp) k2
    · have d0 := drew_below W
      have fx0 : FormAt W x.T x.u x.g x.fb := hF x (by rw [Tr.list]; simp)
      refine split_3 a0 a1 a2 (by rw [decide_eq_false_iff_not]; omega) (by rw [decide_eq_false_iff_not]; omega) ?_
      refine (newPiece_any (fx0.below d0) x.fi A (by omega) (by omega)).mono ?_
      rintro e W1 ⟨b1, rfl, n1, p1, k1⟩
      have k01 : Below W.heap.size W W1 := d0.trans (k1.mono d0.size)
      have x1' := Nd.at.below hx k01
      refine ⟨b1, rfl, Bk.cell x1' 0 _ rfl, Bk.cell x1' 1 _ rfl, Bk.cell x1' 2 _ rfl, ?_⟩
      refine (newPiece_any (fx0.below k01) A x.en (by omega) (by omega)).mono ?_
      rintro e W2 ⟨b2, rfl, n2, p2, k2⟩
      have k02 : Below W.heap.size W W2 := k01.trans (k2.mono k01.size)
      have x2' := Nd.at.below hx k02
      have a6' : W2.cell? ⟨x.b, 6, none⟩ = some l.ptr := Bk.cell x2' 6 _ rfl
      have a7' : W2.cell? ⟨x.b, 7, none⟩ = some r.ptr := Bk.cell x2' 7 _ rfl
      rw [hql] at a6'
      rw [hqr] at a7'
      refine ⟨b2, rfl, Bk.cell x2' 0 _ rfl, Bk.cell x2' 1 _ rfl, Bk.cell x2' 2 _ rfl, ql, qr, a6', a7', ?_⟩
      have d3 := drew_below W2
      have k03 : Below W.heap.size W W2.drew := k02.trans (d3.mono k02.size)
      have lt1 : b1 < W1.heap.size := Bk.lt p1
      have lt2 : b2 < W2.heap.size := Bk.lt p2
      have l3 := hl.below k03
      have p13 := Nd.at.below (Nd.at.below p1 k2) d3
      have bdl := (gd.bd hM)
      have w1 := cnt_part x.g (a := x.fi) (b := A) (c := x.en) (by omega) (by omega)
      have bdA : Bd (l.list ++ [⟨b1, x.fi, A, x.T, x.u, cnt x.g x.fi (A - x.fi), x.g, x.fb⟩]) := by
        obtain ⟨y1, y2⟩ := bdl
        rw [Tr.list, List.length_append, List.length_cons] at y1
        rw [Tr.list, owns_app, owns_cons] at y2
        exact ⟨by rw [List.length_append, List.length_singleton]; omega, by rw [owns_app, owns_cons, owns_nil]; show owns l.list + (cnt x.g x.fi (A - x.fi) + 0) < _; omega⟩
      have bdB : Bd ([] ++ ⟨b2, A, x.en, x.T, x.u, cnt x.g A (x.en - A), x.g, x.fb⟩ :: r.list) := by
        obtain ⟨y1, y2⟩ := bdl
        rw [Tr.list, List.length_append, List.length_cons] at y1
        rw [Tr.list, owns_app, owns_cons] at y2
        exact ⟨by rw [List.nil_append, List.length_cons]; omega, by rw [List.nil_append, owns_cons]; show cnt x.g A (x.en - A) + owns r.list < _; omega⟩
      have bne : ∀ w ∈ (Tr.node l x r).list, w.b ≠ b1 ∧ w.b ≠ b2 := fun w hw => by
        have := ltW w hw
        have := d0.size
        have := k1.size
        have s1 := k01.size
        exact ⟨by omega, by omega⟩
      rw [← hql]
      have unA : Un (l.list ++ [⟨b1, x.fi, A, x.T, x.u, cnt x.g x.fi (A - x.fi), x.g, x.fb⟩]) := Un.app.2 ⟨u1, List.pairwise_singleton _ _, fun z hz y hy => by simp at hy; rw [hy]; exact (bne z (by rw [Tr.list]; exact List.mem_append_left _ hz)).1⟩
      refine (join_any (r := .nil) p13 l3 trivial unA bdA c1.1.pos (fun z hz => by cases hz)).mono ?_
      rintro e W3 ⟨t1, rfl, ta, e1, k3⟩
      obtain ⟨q3, hq3⟩ := t1.ptr_form
      have x3' := Nd.at.kept (Nd.at.below x2' d3) k3 (fun h => by
        rcases inB_app.1 h with ⟨v, hv, ev⟩ | h
        · exact unl.out (.inl hv) ev
        · rcases inB_cons.1 h with h | ⟨v, hv, _⟩
          · exact (bne x (by rw [Tr.list]; simp)).1 h
          · cases hv)
      have a6'' : W3.cell? ⟨x.b, 6, none⟩ = some l.ptr := Bk.cell x3' 6 _ rfl
      have a7'' : W3.cell? ⟨x.b, 7, none⟩ = some r.ptr := Bk.cell x3' 7 _ rfl
      rw [hqr] at a7''
      refine ⟨q3, by rw [hq3], a6'', a7'', ?_⟩
      have r3 := (hr.below k03).kept k3 (fun w hw h => by
        rcases inB_app.1 h with ⟨v, hv, ev⟩ | h
        · exact u3 v hv w (List.mem_cons_of_mem _ hw) ev
        · rcases inB_cons.1 h with h | ⟨v, hv, _⟩
          · exact (bne w (by rw [Tr.list]; simp [hw])).1 h
          · cases hv)
      have p23 := Nd.at.kept (Nd.at.below p2 d3) k3 (fun h => by
        rcases inB_app.1 h with ⟨v, hv, ev⟩ | h
        · exact (bne v (by rw [Tr.list]; exact List.mem_append_left _ hv)).2 ev
        · rcases inB_cons.1 h with h | ⟨v, hv, _⟩
          · have h : b2 = b1 := h
            omega
          · cases hv)
      rw [← hqr]
      refine (join_any (l := .nil) p23 trivial r3 (Un.app.2 ⟨Un.nil, Un.cons.2 ⟨fun y hy e => (bne y (by rw [Tr.list]; simp [hy])).2 e.symm, u5⟩, fun z hz => by cases hz⟩) bdB (fun z hz => by cases hz) x7.pos).mono ?_
      rintro e W4 ⟨t2, rfl, tt, e2, k4⟩
      have x4' := Nd.at.kept x3' k4 (fun h => by
        rcases inB_cons.1 h with h | ⟨v, hv, ev⟩
        · exact (bne x (by rw [Tr.list]; simp)).2 h
        · exact unl.out (.inr hv) ev)
      refine ⟨_, rfl, Bk.cell x4' 6 _ rfl, Bk.cell x4' 7 _ rfl, ?_⟩
      rw [← hq3]
      exact split_mid hT un gd (by omega) (by omega) hA (by have := d0.size; omega) (by omega) k03 (by have := d3.size; have := k2.size; omega) ta (by rw [e1]; simp [Tr.list]) k3 tt (by rw [e2]; simp [Tr.list]) k4
end Go.Proofs.Ytnhllnepnpmegaa

/- The tree of pieces: put, formAt: contracts. -/
namespace Go.Proofs.Ytnhllnepnpmegaa
open Go.ChangeShapes Go.WideShapes Go.ChangeAt Go.RowKit Go.Shelf Go.Proofs.Rx Go.Maps Go.Proofs.Bt
set_option linter.unusedVariables false
set_option linter.unusedSimpArgs false

attribute [local go_sem] Oper.semAt_some

/-- The tree of a row of pieces, whole. -/
structure TrOk (W : World) (t : Tr) : Prop where
  at_ : TAt W t
  fm : Forms W t.list
  un : Un t.list
  gd : Good 0 35184372088832 t.list
theorem TrOk.kept {W W' : World} {t : Tr} {F : Nat → Prop} (h : TrOk W t) (k : Kept F W W') (n1 : ∀ x ∈ t.list, ¬ F x.b) (n2 : ∀ x ∈ t.list, ∀ z ∈ x.fb, ¬ F z) : TrOk W' t := ⟨h.at_.kept k n1, fun x hx => FormAt.kept (h.fm x hx) k (n2 x hx), h.un, h.gd⟩
theorem TrOk.below {W W' : World} {t : Tr} (h : TrOk W t) (k : Below W.heap.size W W') : TrOk W' t := ⟨h.at_.below k, h.fm.below k, h.un, h.gd⟩
def PutR (t : Tr) (first en : Nat) (q : Nat × Value × (Nat → Bool) × List Nat) (W : World) (e : Ending) (W' : World) : Prop := ∃ t' : Tr, e = .returned t'.ptr ∧ TrOk W' t' ∧ (∀ w, fnOf t'.list w = if first ≤ w ∧ w < en then q.2.2.1 w else fnOf t.list w) ∧
  (∀ x ∈ t'.list, (inB t.list x.b ∨ W.heap.size ≤ x.b) ∧ ((∃ y ∈ t.list, y.frm = x.frm) ∨ x.frm = q)) ∧ Kept (inB t.list) W W'
theorem form_kept {W W' : World} {t : Tr} {q} (h : FQ W q) (ht : TAt W t) (k : Kept (inB t.list) W W') : FQ W' q := h.kept k fun z hz ⟨y, hy, e⟩ => by
  obtain ⟨vs, hv⟩ := ht.type y hy
  rw [e] at hv
  exact FormAt.type h z hz vs hv

theorem put_any {W : World} {t : Tr} {T : Nat} {u : Value} {g : Nat → Bool} {fb : List Nat} (h : TrOk W t) (hf : FormAt W T u g fb) (first en : Nat) (h1 : first < en) (h2 : en ≤ 35184372088832) (m1 : first % 512 = 0) (m2 : en % 512 = 0) :
    Calls Try.prog 34 #[t.ptr, .int .u64 (first : Nat), .int .u64 (en : Nat), .iface T u] W (PutR t first en (T, u, g, fb) W) := by
  obtain ⟨ql, hql⟩ := t.ptr_form
  rw [hql]
  refine put_core ?_
  rw [← hql]
  refine (split_any t W 0 35184372088832 first h.at_ h.fm h.un h.gd (Nat.zero_le _) (by omega) m1 (Nat.le_refl _)).mono ?_
  rintro e W1 ⟨t1, t2, rfl, ta, tb, unb, g1, g2, f1, f2, fr, k1⟩
  obtain ⟨q1, hq1⟩ := t1.ptr_form
  obtain ⟨q2, hq2⟩ := t2.ptr_form
  refine ⟨q1, q2, by rw [hq1, hq2], ?_⟩
  rw [← hq2]
  obtain ⟨u1, u2, u3⟩ := Un.app.1 unb
  have fm1 : Forms W1 (t1.list ++ t2.list) := (h.fm.kept h.at_ k1).of fr
  have hf1 : FQ W1 (T, u, g, fb) := form_kept (q := (T, u, g, fb)) hf h.at_ k1
  refine (split_any t2 W1 first 35184372088832 en tb (fun x hx => fm1 x (List.mem_append_right _ hx)) u2 g2 (by omega) h2 m2 (Nat.le_refl _)).mono ?_
  rintro e W2 ⟨t3, t4, rfl, tc, td, und, g3, g4, f3, f4, fr2, k2⟩
  obtain ⟨q3, hq3⟩ := t3.ptr_form
  obtain ⟨q4, hq4⟩ := t4.ptr_form
  refine ⟨q3, q4, by rw [hq3, hq4], ?_⟩
  have hf2 : FQ W2 (T, u, g, fb) := form_kept hf1 tb k2
  have fm2 : Forms W2 (t1.list ++ t2.list) := fm1.kept tb k2
  have t1' : TAt W2 t1 := ta.kept k2 (fun x hx ⟨v, hv, ev⟩ => u3 x hx v hv ev.symm)
  refine (newPiece_any (T := T) (u := u) (g := g) (fb := fb) hf2 first en (by omega) h2).mono ?_
  rintro e W3 ⟨b1, rfl, n1, p1, k3⟩
  refine ⟨b1, rfl, ?_⟩
  rw [← hq1, ← hq4]
  obtain ⟨p, hp⟩ : ∃ p : Nd, p = ⟨b1, first, en, T, u, cnt g first (en - first), g, fb⟩ := ⟨_, rfl⟩
  rw [← hp] at p1
  have pb : p.b = b1 := by rw [hp]
  have pf : p.frm = (T, u, g, fb) := by rw [hp]; rfl
  have kp := Good.kp (lo := first) (hi := en) (x := p) (by rw [hp]; exact Nat.le_refl _) (by rw [hp]; exact h1) (by rw [hp]; exact m1) (by rw [hp]; exact m2) (by rw [hp]) (by rw [hp]; exact Nat.le_refl _)
  have pg : ∀ w, first ≤ w → w < en → fnOf (keep p) w = g w := fun w w1 w2 => by
    have := kp.2 w (by rw [hp]; exact w1) (by rw [hp]; exact w2)
    rw [this, hp]
  have pown : p.own ≤ en - first := by rw [hp]; exact cnt_le _ _ _
  clear hp
  have lt2 := t1'.lt
  have lt4 := td.lt
  have lt1 := ta.lt
  have x14 : ∀ x ∈ t1.list, ∀ y ∈ t4.list, x.b ≠ y.b := fun x hx y hy e => by
    rcases (fr2 y (List.mem_append_right _ hy)).1 with ⟨v, hv, ev⟩ | v
    · exact u3 x hx v hv (e.trans ev.symm)
    · have := lt1 x hx; omega
  have unj : Un (t1.list ++ p :: t4.list) := Un.app.2 ⟨u1, Un.cons.2 ⟨fun y hy e => by have := lt4 y hy; omega, (Un.app.1 und).2.1⟩, fun x hx y hy e => by
    rcases List.mem_cons.1 hy with v | v
    · have := lt2 x hx; rw [v, pb] at e; omega
    · exact x14 x hx y v e⟩
  have bd1 := Good.bd g1 (by omega)
  have bdj : Bd (t1.list ++ p :: t4.list) := by
    have o1 := g1.owns
    have o4 := g4.owns
    have l1 := g1.len512
    have l4 := g4.len512
    refine ⟨?_, ?_⟩
    · rw [List.length_append, List.length_cons]
      clear o1 o4 pown
      have := (Nat.le_div_iff_mul_le (show 0 < 512 by decide)).2 l1
      have := (Nat.le_div_iff_mul_le (show 0 < 512 by decide)).2 l4
      clear l1 l4
      omega
    · rw [owns_app, owns_cons]
      clear l1 l4
      omega
  rw [← pb]
  refine (join_any (x := p) p1 (t1'.below k3) (td.below k3) unj bdj g1.pos g4.pos).mono ?_
  rintro e W4 ⟨t', rfl, tt, e', k4⟩
  have size1 := k1.size
  have size2 := k2.size
  have fm4 : ∀ x ∈ t'.list, (inB t.list x.b ∨ W.heap.size ≤ x.b) ∧ ((∃ y ∈ t.list, y.frm = x.frm) ∨ x.frm = (T, u, g, fb)) := fun x hx => by
    rw [e'] at hx
    simp only [List.mem_append] at hx
    rcases hx with (hx | hx) | hx
    · exact ⟨(fr x (List.mem_append_left _ hx)).1, .inl (fr x (List.mem_append_left _ hx)).2⟩
    · rw [keep_mem hx, pb]
      exact ⟨.inr (Nat.le_trans size1 (Nat.le_trans size2 n1)), .inr pf⟩
    · obtain ⟨a, y, hy, ey⟩ := fr2 x (List.mem_append_right _ hx)
      obtain ⟨a', z, hz, ez⟩ := fr y (List.mem_append_right _ hy)
      refine ⟨?_, .inl ⟨z, hz, ez.trans ey⟩⟩
      rcases a with ⟨v, hv, ev⟩ | a
      · rw [← ev]; exact (fr v (List.mem_append_right _ hv)).1
      · exact .inr (Nat.le_trans size1 a)
  have gdj : Good 0 35184372088832 t'.list := by rw [e', List.append_assoc]; exact Good.app g1 (Good.app kp.1 g4)
  have k12 : Kept (inB t.list) W W2 := k1.trans k2 (fun z hz ⟨v, hv, ev⟩ => by
    rcases (fr v (List.mem_append_right _ hv)).1 with a | a
    · rw [← ev]; exact a
    · omega)
  have k14 : Kept (inB t.list) W W4 := (k12.trans (Kept.of_below (F := fun _ => False) k3) (fun _ _ f => f.elim)).trans k4 (fun z hz hin => by
    rcases inB_app.1 hin with ⟨v, hv, ev⟩ | hin
    · rcases (fr v (List.mem_append_left _ hv)).1 with a | a
      · rw [← ev]; exact a
      · omega
    · rcases inB_cons.1 hin with hin | ⟨v, hv, ev⟩
      · omega
      · rcases (fr2 v (List.mem_append_right _ hv)).1 with ⟨y, hy, ey⟩ | a
        · rcases (fr y (List.mem_append_right _ hy)).1 with b | b
          · rw [← ev, ← ey]; exact b
          · omega
        · omega)
  refine ⟨⟨t', rfl, ⟨tt, fun x hx => ?_, by
      have : (t1.list ++ keep p ++ t4.list).Sublist (t1.list ++ p :: t4.list) := by
        rw [List.append_assoc]
        exact (List.Sublist.refl _).append ((keep_sub p).append (List.Sublist.refl _))
      rw [e']; exact unj.sub this, gdj⟩, fun w => ?_, fm4, k14⟩, _, rfl⟩
  · have hq : FQ W x.frm ∨ x.frm = (T, u, g, fb) := by
      rcases (fm4 x hx).2 with ⟨y, hy, ey⟩ | e
      · left; rw [← ey]; exact h.fm y hy
      · exact .inr e
    rcases hq with hq | hq
    · exact form_kept hq h.at_ k14
    · rw [hq]; exact form_kept (q := (T, u, g, fb)) hf h.at_ k14
  · rw [e', List.append_assoc, fnOf_app g1 (Good.app kp.1 g4)]
    split
    · rename_i c
      rw [if_neg (by omega)]; exact f1 w c
    · rename_i c
      rw [fnOf_app kp.1 g4]
      split
      · rename_i c2
        rw [if_pos (by omega)]; exact pg w (by omega) c2
      · rename_i c2
        rw [if_neg (by omega), f4 w (by omega), f2 w (by omega)]
end Go.Proofs.Ytnhllnepnpmegaa
