/- The tree of pieces: put, formAt: contracts. -/
import Derived.Test.YtnhllnepnpmegaaGf
namespace Go.Proofs.Ytnhllnepnpmegaa
open Go.ChangeShapes Go.WideShapes Go.ChangeAt Go.RowKit Go.Shelf Go.Proofs.Rx Go.Maps Go.Proofs.Bt
set_option linter.unusedVariables false
set_option linter.unusedSimpArgs false

attribute [local go_sem] Oper.semAt_some

/-- The tree of a row of pieces, whole. -/
structure TrOk (W : World) (t : Tr) : Prop where
  at_ : TAt W t
  fm : Forms W t.list
  un : Un t.list
  gd : Good 0 35184372088832 t.list
theorem TrOk.kept {W W' : World} {t : Tr} {F : Nat → Prop} (h : TrOk W t) (k : Kept F W W') (n1 : ∀ x ∈ t.list, ¬ F x.b) (n2 : ∀ x ∈ t.list, ∀ z ∈ x.fb, ¬ F z) : TrOk W' t := ⟨h.at_.kept k n1, fun x hx => FormAt.kept (h.fm x hx) k (n2 x hx), h.un, h.gd⟩
theorem TrOk.below {W W' : World} {t : Tr} (h : TrOk W t) (k : Below W.heap.size W W') : TrOk W' t := ⟨h.at_.below k, h.fm.below k, h.un, h.gd⟩
def PutR (t : Tr) (first en : Nat) (q : Nat × Value × (Nat → Bool) × List Nat) (W : World) (e : Ending) (W' : World) : Prop := ∃ t' : Tr, e = .returned t'.ptr ∧ TrOk W' t' ∧ (∀ w, fnOf t'.list w = if first ≤ w ∧ w < en then q.2.2.1 w else fnOf t.list w) ∧
  (∀ x ∈ t'.list, (inB t.list x.b ∨ W.heap.size ≤ x.b) ∧ ((∃ y ∈ t.list, y.frm = x.frm) ∨ x.frm = q)) ∧ Kept (inB t.list) W W'
theorem form_kept {W W' : World} {t : Tr} {q} (h : FQ W q) (ht : TAt W t) (k : Kept (inB t.list) W W') : FQ W' q := h.kept k fun z hz ⟨y, hy, e⟩ => by
  obtain ⟨vs, hv⟩ := ht.type y hy
  rw [e] at hv
  exact FormAt.type h z hz vs hv

theorem put_any {W : World} {t : Tr} {T : Nat} {u : Value} {g : Nat → Bool} {fb : List Nat} (h : TrOk W t) (hf : FormAt W T u g fb) (first en : Nat) (h1 : first < en) (h2 : en ≤ 35184372088832) (m1 : first % 512 = 0) (m2 : en % 512 = 0) :
    Calls Try.prog 34 #[t.ptr, .int .u64 (first : Nat), .int .u64 (en : Nat), .iface T u] W (PutR t first en (T, u, g, fb) W) := by
  obtain ⟨ql, hql⟩ := t.ptr_form
  rw [hql]
  refine put_core ?_
  rw [← hql]
  refine (split_any t W 0 35184372088832 first h.at_ h.fm h.un h.gd (Nat.zero_le _) (by omega) m1 (Nat.le_refl _)).mono ?_
  rintro e W1 ⟨t1, t2, rfl, ta, tb, unb, g1, g2, f1, f2, fr, k1⟩
  obtain ⟨q1, hq1⟩ := t1.ptr_form
  obtain ⟨q2, hq2⟩ := t2.ptr_form
  refine ⟨q1, q2, by rw [hq1, hq2], ?_⟩
  rw [← hq2]
  obtain ⟨u1, u2, u3⟩ := Un.app.1 unb
  have fm1 : Forms W1 (t1.list ++ t2.list) := (h.fm.kept h.at_ k1).of fr
  have hf1 : FQ W1 (T, u, g, fb) := form_kept (q := (T, u, g, fb)) hf h.at_ k1
  refine (split_any t2 W1 first 35184372088832 en tb (fun x hx => fm1 x (List.mem_append_right _ hx)) u2 g2 (by omega) h2 m2 (Nat.le_refl _)).mono ?_
  rintro e W2 ⟨t3, t4, rfl, tc, td, und, g3, g4, f3, f4, fr2, k2⟩
  obtain ⟨q3, hq3⟩ := t3.ptr_form
  obtain ⟨q4, hq4⟩ := t4.ptr_form
  refine ⟨q3, q4, by rw [hq3, hq4], ?_⟩
  have hf2 : FQ W2 (T, u, g, fb) := form_kept hf1 tb k2
  have fm2 : Forms W2 (t1.list ++ t2.list) := fm1.kept tb k2
  have t1' : TAt W2 t1 := ta.kept k2 (fun x hx ⟨v, hv, ev⟩ => u3 x hx v hv ev.symm)
  refine (newPiece_any (T := T) (u := u) (g := g) (fb := fb) hf2 first en (by omega) h2).mono ?_
  rintro e W3 ⟨b1, rfl, n1, p1, k3⟩
  refine ⟨b1, rfl, ?_⟩
  rw [← hq1, ← hq4]
  obtain ⟨p, hp⟩ : ∃ p : Nd, p = ⟨b1, first, en, T, u, cnt g first (en - first), g, fb⟩ := ⟨_, rfl⟩
  rw [← hp] at p1
  have pb : p.b = b1 := by rw [hp]
  have pf : p.frm = (T, u, g, fb) := by rw [hp]; rfl
  have kp := Good.kp (lo := first) (hi := en) (x := p) (by rw [hp]; exact Nat.le_refl _) (by rw [hp]; exact h1) (by rw [hp]; exact m1) (by rw [hp]; exact m2) (by rw [hp]) (by rw [hp]; exact Nat.le_refl _)
  have pg : ∀ w, first ≤ w → w < en → fnOf (keep p) w = g w := fun w w1 w2 => by
    have := kp.2 w (by rw [hp]; exact w1) (by rw [hp]; exact w2)
    rw [this, hp]
  have pown : p.own ≤ en - first := by rw [hp]; exact cnt_le _ _ _
  clear hp
  have lt2 := t1'.lt
  have lt4 := td.lt
  have lt1 := ta.lt
  have x14 : ∀ x ∈ t1.list, ∀ y ∈ t4.list, x.b ≠ y.b := fun x hx y hy e => by
    rcases (fr2 y (List.mem_append_right _ hy)).1 with ⟨v, hv, ev⟩ | v
    · exact u3 x hx v hv (e.trans ev.symm)
    · have := lt1 x hx; omega
  have unj : Un (t1.list ++ p :: t4.list) := Un.app.2 ⟨u1, Un.cons.2 ⟨fun y hy e => by have := lt4 y hy; omega, (Un.app.1 und).2.1⟩, fun x hx y hy e => by
    rcases List.mem_cons.1 hy with v | v
    · have := lt2 x hx; rw [v, pb] at e; omega
    · exact x14 x hx y v e⟩
  have bd1 := Good.bd g1 (by omega)
  have bdj : Bd (t1.list ++ p :: t4.list) := by
    have o1 := g1.owns
    have o4 := g4.owns
    have l1 := g1.len512
    have l4 := g4.len512
    refine ⟨?_, ?_⟩
    · rw [List.length_append, List.length_cons]
      clear o1 o4 pown
      have := (Nat.le_div_iff_mul_le (show 0 < 512 by decide)).2 l1
      have := (Nat.le_div_iff_mul_le (show 0 < 512 by decide)).2 l4
      clear l1 l4
      omega
    · rw [owns_app, owns_cons]
      clear l1 l4
      omega
  rw [← pb]
  refine (join_any (x := p) p1 (t1'.below k3) (td.below k3) unj bdj g1.pos g4.pos).mono ?_
  rintro e W4 ⟨t', rfl, tt, e', k4⟩
  have size1 := k1.size
  have size2 := k2.size
  have fm4 : ∀ x ∈ t'.list, (inB t.list x.b ∨ W.heap.size ≤ x.b) ∧ ((∃ y ∈ t.list, y.frm = x.frm) ∨ x.frm = (T, u, g, fb)) := fun x hx => by
    rw [e'] at hx
    simp only [List.mem_append] at hx
    rcases hx with (hx | hx) | hx
    · exact ⟨(fr x (List.mem_append_left _ hx)).1, .inl (fr x (List.mem_append_left _ hx)).2⟩
    · rw [keep_mem hx, pb]
      exact ⟨.inr (Nat.le_trans size1 (Nat.le_trans size2 n1)), .inr pf⟩
    · obtain ⟨a, y, hy, ey⟩ := fr2 x (List.mem_append_right _ hx)
      obtain ⟨a', z, hz, ez⟩ := fr y (List.mem_append_right _ hy)
      refine ⟨?_, .inl ⟨z, hz, ez.trans ey⟩⟩
      rcases a with ⟨v, hv, ev⟩ | a
      · rw [← ev]; exact (fr v (List.mem_append_right _ hv)).1
      · exact .inr (Nat.le_trans size1 a)
  have gdj : Good 0 35184372088832 t'.list := by rw [e', List.append_assoc]; exact Good.app g1 (Good.app kp.1 g4)
  have k12 : Kept (inB t.list) W W2 := k1.trans k2 (fun z hz ⟨v, hv, ev⟩ => by
    rcases (fr v (List.mem_append_right _ hv)).1 with a | a
    · rw [← ev]; exact a
    · omega)
  have k14 : Kept (inB t.list) W W4 := (k12.trans (Kept.of_below (F := fun _ => False) k3) (fun _ _ f => f.elim)).trans k4 (fun z hz hin => by
    rcases inB_app.1 hin with ⟨v, hv, ev⟩ | hin
    · rcases (fr v (List.mem_append_left _ hv)).1 with a | a
      · rw [← ev]; exact a
      · omega
    · rcases inB_cons.1 hin with hin | ⟨v, hv, ev⟩
      · omega
      · rcases (fr2 v (List.mem_append_right _ hv)).1 with ⟨y, hy, ey⟩ | a
        · rcases (fr y (List.mem_append_right _ hy)).1 with b | b
          · rw [← ev, ← ey]; exact b
          · omega
        · omega)
  refine ⟨⟨t', rfl, ⟨tt, fun x hx => ?_, by
      have : (t1.list ++ keep p ++ t4.list).Sublist (t1.list ++ p :: t4.list) := by
        rw [List.append_assoc]
        exact (List.Sublist.refl _).append ((keep_sub p).append (List.Sublist.refl _))
      rw [e']; exact unj.sub this, gdj⟩, fun w => ?_, fm4, k14⟩, _, rfl⟩
  · have hq : FQ W x.frm ∨ x.frm = (T, u, g, fb) := by
      rcases (fm4 x hx).2 with ⟨y, hy, ey⟩ | e
      · left; rw [← ey]; exact h.fm y hy
      · exact .inr e
    rcases hq with hq | hq
    · exact form_kept hq h.at_ k14
    · rw [hq]; exact form_kept (q := (T, u, g, fb)) hf h.at_ k14
  · rw [e', List.append_assoc, fnOf_app g1 (Good.app kp.1 g4)]
    split
    · rename_i c
      rw [if_neg (by omega)]; exact f1 w c
    · rename_i c
      rw [fnOf_app kp.1 g4]
      split
      · rename_i c2
        rw [if_pos (by omega)]; exact pg w (by omega) c2
      · rename_i c2
        rw [if_neg (by omega), f4 w (by omega), f2 w (by omega)]
end Go.Proofs.Ytnhllnepnpmegaa
