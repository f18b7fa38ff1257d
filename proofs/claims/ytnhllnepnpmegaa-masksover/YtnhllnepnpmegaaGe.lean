/- The tree of pieces: split: contract. -/
import Derived.Test.YtnhllnepnpmegaaGd
namespace Go.Proofs.Ytnhllnepnpmegaa
open Go.ChangeShapes Go.WideShapes Go.ChangeAt Go.RowKit Go.Shelf Go.Proofs.Rx Go.Maps Go.Proofs.Bt
set_option linter.unusedVariables false
set_option linter.unusedSimpArgs false

attribute [local go_sem] Oper.semAt_some

/-- A piece's form. -/
def Nd.frm (x : Nd) : Nat × Value × (Nat → Bool) × List Nat := (x.T, x.u, x.g, x.fb)
def FQ (W : World) (q : Nat × Value × (Nat → Bool) × List Nat) : Prop := FormAt W q.1 q.2.1 q.2.2.1 q.2.2.2
def Forms (W : World) (L : List Nd) : Prop := ∀ x ∈ L, FQ W x.frm
/-- Old pieces, or new ones. -/
def Fr (W : World) (L L' : List Nd) : Prop := ∀ x ∈ L', (inB L x.b ∨ W.heap.size ≤ x.b) ∧ ∃ y ∈ L, y.frm = x.frm
theorem FQ.kept {F : Nat → Prop} {W W' : World} {q} (h : FQ W q) (k : Kept F W W') (n : ∀ z ∈ q.2.2.2, ¬ F z) : FQ W' q := FormAt.kept h k n
theorem Forms.apart {W : World} {L : List Nd} {t : Tr} (h : Forms W L) (ht : TAt W t) : ∀ x ∈ L, ∀ z ∈ x.fb, ¬ inB t.list z := fun x hx z hz ⟨y, hy, e⟩ => by
  obtain ⟨vs, hv⟩ := ht.type y hy
  rw [e] at hv
  exact FormAt.type (h x hx) z hz vs hv
theorem Forms.kept {W W' : World} {L : List Nd} {t : Tr} (h : Forms W L) (ht : TAt W t) (k : Kept (inB t.list) W W') : Forms W' L := fun x hx => (h x hx).kept k (h.apart ht x hx)
theorem Forms.of {W : World} {L L' : List Nd} {V : World} (h : Forms W L) (f : Fr V L L') : Forms W L' := fun x hx => by
  obtain ⟨_, y, hy, e⟩ := f x hx
  rw [← e]; exact h y hy
theorem Forms.below {W W' : World} {L : List Nd} (h : Forms W L) (k : Below W.heap.size W W') : Forms W' L := fun x hx => FormAt.below (h x hx) k
def SplitR (lo hi A : Nat) (L : List Nd) (W : World) (e : Ending) (W' : World) : Prop := ∃ t1 t2 : Tr, e = .returned (.tuple #[t1.ptr, t2.ptr]) ∧ TAt W' t1 ∧ TAt W' t2 ∧ Un (t1.list ++ t2.list) ∧ Good lo A t1.list ∧ Good A hi t2.list ∧
  (∀ w, w < A → fnOf t1.list w = fnOf L w) ∧ (∀ w, A ≤ w → fnOf t2.list w = fnOf L w) ∧ Fr W L (t1.list ++ t2.list) ∧ Kept (inB L) W W'
theorem Un.comm {A B : List Nd} (h : Un (A ++ B)) : Un (B ++ A) := by
  obtain ⟨a, b, c⟩ := Un.app.1 h
  exact Un.app.2 ⟨b, a, fun x hx y hy e => c y hy x hx e.symm⟩
theorem keep_mem {x y : Nd} (h : y ∈ keep x) : y = x := by
  have := (keep_sub x).subset h
  simpa using this
/-- Below x. -/
theorem split_left {W W1 W2 : World} {lo hi A : Nat} {l r : Tr} {x : Nd} {t1 b t2 : Tr} (hT : TAt W (.node l x r)) (un : Un (Tr.node l x r).list) (gd : Good lo hi (Tr.node l x r).list) (hA : A ≤ x.fi)
    (ta : TAt W1 t1) (tb : TAt W1 b) (unb : Un (t1.list ++ b.list)) (g1 : Good lo A t1.list) (g2 : Good A x.fi b.list) (f1 : ∀ w, w < A → fnOf t1.list w = fnOf l.list w) (f2 : ∀ w, A ≤ w → fnOf b.list w = fnOf l.list w) (fr : Fr W l.list (t1.list ++ b.list)) (k : Kept (inB l.list) W W1)
    (tt : TAt W2 t2) (e2 : t2.list = b.list ++ x :: r.list) (k2 : Kept (inB (b.list ++ x :: r.list)) W1 W2) : SplitR lo hi A (Tr.node l x r).list W (.returned (.tuple #[t1.ptr, t2.ptr])) W2 := by
  have ltW := hT.lt
  have c1 := Good.cut gd
  have unx : ∀ z ∈ t1.list ++ b.list, ∀ y ∈ x :: r.list, z.b ≠ y.b := fun z hz y hy e => by
    rcases (fr z hz).1 with ⟨v, hv, ev⟩ | u
    · exact (Un.app.1 un).2.2 v hv y hy (ev.trans e)
    · have := ltW y (by rw [Tr.list]; exact List.mem_append_right _ hy)
      omega
  obtain ⟨u1, u2, u3⟩ := Un.app.1 unb
  have un3 : Un (t1.list ++ t2.list) := by
    rw [e2, ← List.append_assoc]
    exact Un.app.2 ⟨unb, (Un.app.1 un).2.1, unx⟩
  refine ⟨t1, t2, rfl, ta.kept k2 (fun z hz hin => ?_), tt, un3, g1, ?_, fun w hw => ?_, fun w hw => ?_, fun z hz => ?_, ?_⟩
  · obtain ⟨v, hv, ev⟩ := hin
    rw [← e2] at hv
    exact (Un.app.1 un3).2.2 z hz v hv ev.symm
  · rw [e2]; exact Good.app g2 c1.2
  · rw [f1 w hw, Tr.list, fnOf_app c1.1 c1.2, if_pos (by omega)]
  · rw [e2, fnOf_app g2 c1.2, Tr.list, fnOf_app c1.1 c1.2]
    split
    · exact f2 w hw
    · rfl
  · rw [e2, ← List.append_assoc] at hz
    rcases List.mem_append.1 hz with hz | hz
    · obtain ⟨a, y, hy, ey⟩ := fr z hz
      refine ⟨a.imp (fun h => inB_sub (fun v hv => by rw [Tr.list]; exact List.mem_append_left _ hv) h) (fun h => h), y, by rw [Tr.list]; exact List.mem_append_left _ hy, ey⟩
    · exact ⟨.inl ⟨z, by rw [Tr.list]; exact List.mem_append_right _ hz, rfl⟩, z, by rw [Tr.list]; exact List.mem_append_right _ hz, rfl⟩
  · refine (k.mono fun z hz => inB_sub (fun v hv => by rw [Tr.list]; exact List.mem_append_left _ hv) hz).trans k2 (fun z hz hin => ?_)
    rcases inB_app.1 hin with ⟨v, hv, ev⟩ | h
    · rcases (fr v (List.mem_append_right _ hv)).1 with u | u
      · rw [← ev]; exact inB_sub (fun v hv => by rw [Tr.list]; exact List.mem_append_left _ hv) u
      · omega
    · exact inB_sub (fun v hv => by rw [Tr.list]; exact List.mem_append_right _ hv) h
/-- Behind x. -/
theorem split_right {W W1 W2 : World} {lo hi A : Nat} {l r : Tr} {x : Nd} {a t2 t1 : Tr} (hT : TAt W (.node l x r)) (un : Un (Tr.node l x r).list) (gd : Good lo hi (Tr.node l x r).list) (hA : x.en ≤ A)
    (ta : TAt W1 a) (tb : TAt W1 t2) (unb : Un (a.list ++ t2.list)) (g1 : Good x.en A a.list) (g2 : Good A hi t2.list) (f1 : ∀ w, w < A → fnOf a.list w = fnOf r.list w) (f2 : ∀ w, A ≤ w → fnOf t2.list w = fnOf r.list w) (fr : Fr W r.list (a.list ++ t2.list)) (k : Kept (inB r.list) W W1)
    (tt : TAt W2 t1) (e2 : t1.list = l.list ++ x :: a.list) (k2 : Kept (inB (l.list ++ x :: a.list)) W1 W2) : SplitR lo hi A (Tr.node l x r).list W (.returned (.tuple #[t1.ptr, t2.ptr])) W2 := by
  have ltW := hT.lt
  have c1 := Good.cut gd
  obtain ⟨x1, x2, x3, x4, x5, x6, x7⟩ := c1.2
  have un' : Un ((l.list ++ [x]) ++ r.list) := by have := un; rw [Tr.list] at this; simpa using this
  have unx : ∀ y ∈ l.list ++ [x], ∀ z ∈ a.list ++ t2.list, y.b ≠ z.b := fun y hy z hz e => by
    rcases (fr z hz).1 with ⟨v, hv, ev⟩ | u
    · exact (Un.app.1 un').2.2 y hy v hv (e.trans ev.symm)
    · have := ltW y (by rw [Tr.list]; simp at hy ⊢; grind)
      omega
  have e3 : t1.list = (l.list ++ [x]) ++ a.list := by rw [e2]; simp
  have gx : Good lo x.en (l.list ++ [x]) := Good.app c1.1 (B := [x]) ⟨x1, x2, x3, x4, x5, x6, Nat.le_refl _⟩
  have e4 : (Tr.node l x r).list = (l.list ++ [x]) ++ r.list := by rw [Tr.list]; simp
  have un3 : Un (t1.list ++ t2.list) := by
    rw [e3, List.append_assoc]
    exact Un.app.2 ⟨(Un.app.1 un').1, unb, unx⟩
  refine ⟨t1, t2, rfl, tt, tb.kept k2 (fun z hz hin => ?_), un3, ?_, g2, fun w hw => ?_, fun w hw => ?_, fun z hz => ?_, ?_⟩
  · obtain ⟨v, hv, ev⟩ := hin
    rw [← e2] at hv
    exact (Un.app.1 un3).2.2 v hv z hz ev
  · rw [e3]; exact Good.app gx g1
  · rw [e3, e4, fnOf_app gx g1, fnOf_app gx x7]
    split
    · rfl
    · exact f1 w hw
  · rw [f2 w hw, e4, fnOf_app gx x7, if_neg (by omega)]
  · rw [e3, List.append_assoc] at hz
    rcases List.mem_append.1 hz with hz | hz
    · have hm : z ∈ (Tr.node l x r).list := by rw [e4]; exact List.mem_append_left _ hz
      exact ⟨.inl ⟨z, hm, rfl⟩, z, hm, rfl⟩
    · obtain ⟨b, y, hy, ey⟩ := fr z hz
      refine ⟨b.imp (fun h => inB_sub (fun v hv => by rw [e4]; exact List.mem_append_right _ hv) h) (fun h => h), y, by rw [e4]; exact List.mem_append_right _ hy, ey⟩
  · refine (k.mono fun z hz => inB_sub (fun v hv => by rw [e4]; exact List.mem_append_right _ hv) hz).trans k2 (fun z hz hin => ?_)
    rw [show l.list ++ x :: a.list = (l.list ++ [x]) ++ a.list by simp] at hin
    rcases inB_app.1 hin with h | ⟨v, hv, ev⟩
    · exact inB_sub (fun v hv => by rw [e4]; exact List.mem_append_left _ hv) h
    · rcases (fr v (List.mem_append_left _ hv)).1 with u | u
      · rw [← ev]; exact inB_sub (fun v hv => by rw [e4]; exact List.mem_append_right _ hv) u
      · omega
end Go.Proofs.Ytnhllnepnpmegaa
