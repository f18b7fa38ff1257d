/- The tree of pieces: settle: contract. -/
import Derived.Test.YtnhllnepnpmegaaTu
namespace Go.Proofs.Ytnhllnepnpmegaa
open Go.ChangeShapes Go.WideShapes Go.ChangeAt Go.RowKit Go.Shelf Go.Proofs.Rx Go.Maps
set_option linter.unusedVariables false
set_option linter.unusedSimpArgs false

attribute [local go_sem] Oper.semAt_some

/-- What a call answers that makes a tree of a list's pieces. -/
def TreeR (L K : List Nd) (W : World) (e : Ending) (W' : World) : Prop := ∃ t : Tr, e = .returned t.ptr ∧ TAt W' t ∧ t.list = L ∧ Kept (inB K) W W'
theorem dd_below (W : World) : Below W.heap.size W W.drew.drew := ⟨rfl, rfl, rfl, Nat.le_refl _, fun _ _ => rfl⟩
theorem Un.out {A B : List Nd} {x z : Nd} (un : Un (A ++ x :: B)) (h : z ∈ A ∨ z ∈ B) : ¬ z.b = x.b := by
  obtain ⟨u1, u2, u3⟩ := Un.app.1 un
  obtain ⟨u4, u5⟩ := Un.cons.1 u2
  rcases h with h | h
  · exact u3 z h x List.mem_cons_self
  · exact fun e => u4 z h e.symm
section
variable {W : World} {x : Nd} {s h : Int} {l r : Tr}
theorem settle_any (hx : x.at W s h l.ptr r.ptr) (hl : TAt W l) (hr : TAt W r) (un : Un (l.list ++ x :: r.list)) (bd : Bd (l.list ++ x :: r.list)) :
    Calls Try.prog 44 #[.pointer (some ⟨x.b, 0, none⟩)] W (TreeR (l.list ++ x :: r.list) (l.list ++ x :: r.list) W) := by
  have bl := l.hgt_le
  have br := r.hgt_le
  have bz := bd.1
  rw [List.length_append, List.length_cons] at bz
  have d1 := drew_below W
  have d2 := dd_below W
  obtain ⟨u1, u2, u3⟩ := Un.app.1 un
  obtain ⟨u4, u5⟩ := Un.cons.1 u2
  have a6 := Bk.cell hx 6 _ rfl
  have a7 := Bk.cell hx 7 _ rfl
  have xd := Nd.at.below hx d2
  have ld := hl.below d2
  have rd := hr.below d2
  have t1 := tall_any (hl.below d1)
  have t2 := tall_any (hr.below d1)
  by_cases e2 : ((l.hgt : Nat) : Int) - (r.hgt : Nat) = 2
  · cases l with
    | nil => exfalso; simp only [Tr.hgt] at e2; omega
    | node ll y lr =>
      obtain ⟨hy, hll, hlr⟩ := id hl
      obtain ⟨yd, lld, lrd⟩ := id ld
      obtain ⟨qr, hqr⟩ := r.ptr_form
      rw [hqr] at a7 t2
      have t3 := tall_any lld
      have t4 := tall_any lrd
      have c6 := Bk.cell hy 6 _ rfl
      have c7 := Bk.cell hy 7 _ rfl
      obtain ⟨q1, hq1⟩ := ll.ptr_form
      obtain ⟨q2, hq2⟩ := lr.ptr_form
      rw [hq1] at c6 t3
      rw [hq2] at c7 t4
      by_cases ab : ll.hgt < lr.hgt
      · cases lr with
        | nil => exfalso; simp only [Tr.hgt] at ab; omega
        | node a z b =>
          obtain ⟨zd, ad, bbd⟩ := lrd
          have eL : ll.list ++ y :: (a.list ++ z :: b.list) ++ x :: r.list = (Tr.node ll y (.node a z b)).list ++ x :: r.list := by simp [Tr.list]
          have eM : (Tr.node ll y a).list ++ z :: (b.list ++ x :: r.list) = (Tr.node ll y (.node a z b)).list ++ x :: r.list := by simp [Tr.list]
          have un' := un
          rw [← eL] at un'
          have bd' := bd
          rw [← eL] at bd'
          refine settle_2a (P2 := fun W' => TAt W' (.node (.node ll y a) z b) ∧ Kept (inB (ll.list ++ y :: (a.list ++ z :: b.list))) W.drew.drew W') a6 a7 c6 c7 t1 t2 t3 t4 (by omega) (by omega) (by omega) (by omega) (by rw [e2]; rfl) (by rw [decide_eq_true_iff]; omega)
            (turnLeft_any yd lld zd ad bbd (Un.app.1 un').1 (bd'.sub (List.sublist_append_left _ _))) ?_
          rintro W' ⟨t, k⟩
          have nx : ¬ inB (ll.list ++ y :: (a.list ++ z :: b.list)) x.b := fun ⟨w, hw, e⟩ => (Un.app.1 un').2.2 w hw x (by simp) e
          have x' := xd.kept k nx
          have r' := rd.kept k (fun w hw ⟨v, hv, e⟩ => (Un.app.1 un').2.2 v hv w (by simp [hw]) e)
          refine ⟨⟨_, Bk.cell x' 6 _ rfl⟩, Bk.fz x' 6, ?_⟩
          have ks := kept_set (F := fun z => z = x.b) W' x.b 6 (.pointer (some ⟨z.b, 0, none⟩)) rfl
          have nt : ∀ w ∈ (Tr.node (.node ll y a) z b).list, ¬ w.b = x.b := fun w hw => un.out (.inl (by simp [Tr.list] at hw ⊢; grind))
          have t' := t.kept ks nt
          obtain ⟨z2, t2', b2⟩ := id t'
          refine (turnRight_any (x := x) (y := z) (ll := .node ll y a) (lr := b) (r := r) (show x.at _ s h (Tr.node (.node ll y a) z b).ptr r.ptr from x'.left) (r'.kept ks (fun w hw => un.out (.inr hw))) z2 t2' b2 (by rw [eM]; exact un) (by rw [eM]; exact bd)).mono ?_
          rintro e W3 ⟨rfl, t3, k3⟩
          refine ⟨⟨.node (.node ll y a) z (.node b x r), rfl, t3, ?_, ?_⟩, _, rfl⟩
          · simp [Tr.list]
          · rw [eM] at k3
            refine (((Kept.of_below d2).trans (k.mono fun w hw => ?_) (fun _ _ h => h)).trans (ks.mono fun w hw => ?_) (fun _ _ h => h)).trans k3 (fun _ _ h => h)
            · exact inB_sub (fun v hv => by simp [Tr.list] at hv ⊢; grind) hw
            · exact ⟨x, by simp, hw.symm⟩
      · refine settle_2b a6 a7 c6 c7 t1 t2 t3 t4 (by omega) (by omega) (by omega) (by omega) (by rw [e2]; rfl) (by rw [decide_eq_false_iff_not]; omega) ?_
        have eM : ll.list ++ y :: (lr.list ++ x :: r.list) = (Tr.node ll y lr).list ++ x :: r.list := by simp [Tr.list]
        refine (turnRight_any xd rd yd lld lrd (by rw [eM]; exact un) (by rw [eM]; exact bd)).mono ?_
        rintro e W3 ⟨rfl, t3, k3⟩
        refine ⟨⟨.node ll y (.node lr x r), rfl, t3, ?_, ?_⟩, _, rfl⟩
        · simp [Tr.list]
        · rw [eM] at k3
          exact (Kept.of_below d2).trans k3 (fun _ _ h => h)
  · by_cases e3 : ((l.hgt : Nat) : Int) - (r.hgt : Nat) = -2
    · cases r with
      | nil => exfalso; simp only [Tr.hgt] at e3; omega
      | node rl y rr =>
        obtain ⟨hy, hrl, hrr⟩ := id hr
        obtain ⟨yd, rld, rrd⟩ := id rd
        obtain ⟨ql, hql⟩ := l.ptr_form
        rw [hql] at a6 t1
        have t3 := tall_any rrd
        have t4 := tall_any rld
        have c6 := Bk.cell hy 6 _ rfl
        have c7 := Bk.cell hy 7 _ rfl
        obtain ⟨q1, hq1⟩ := rr.ptr_form
        obtain ⟨q2, hq2⟩ := rl.ptr_form
        rw [hq1] at c7 t3
        rw [hq2] at c6 t4
        by_cases ab : rr.hgt < rl.hgt
        · cases rl with
          | nil => exfalso; simp only [Tr.hgt] at ab; omega
          | node a z b =>
            obtain ⟨zd, ad, bbd⟩ := rld
            have eM : l.list ++ x :: (a.list ++ z :: (Tr.node b y rr).list) = l.list ++ x :: (Tr.node (.node a z b) y rr).list := by simp [Tr.list]
            have eL : a.list ++ z :: (b.list ++ y :: rr.list) = (Tr.node (.node a z b) y rr).list := by simp [Tr.list]
            have u5' := u5
            rw [← eL] at u5'
            have bd' : Bd (a.list ++ z :: (b.list ++ y :: rr.list)) := by rw [eL]; exact bd.sub ((List.sublist_cons_self _ _).trans (List.sublist_append_right _ _))
            refine settle_3a (P2 := fun W' => TAt W' (.node a z (.node b y rr)) ∧ Kept (inB (a.list ++ z :: (b.list ++ y :: rr.list))) W.drew.drew W') a7 a6 c7 c6 t2 t1 t3 t4 (by omega) (by omega) (by omega) (by omega) (by simp only [beq_eq_false_iff_ne]; exact e2) (by rw [e3]; rfl) (by rw [decide_eq_true_iff]; omega)
              (turnRight_any yd rrd zd ad bbd u5' bd') ?_
            rintro W' ⟨t, k⟩
            have nx : ¬ inB (a.list ++ z :: (b.list ++ y :: rr.list)) x.b := fun ⟨w, hw, e⟩ => un.out (.inr (by rw [← eL]; exact hw)) e
            have x' := xd.kept k nx
            have l' := ld.kept k (fun w hw ⟨v, hv, e⟩ => u3 w hw v (by rw [← eL]; simp at hv ⊢; grind) e.symm)
            refine ⟨⟨_, Bk.cell x' 7 _ rfl⟩, Bk.fz x' 7, ?_⟩
            have ks := kept_set (F := fun z => z = x.b) W' x.b 7 (.pointer (some ⟨z.b, 0, none⟩)) rfl
            have nt : ∀ w ∈ (Tr.node a z (.node b y rr)).list, ¬ w.b = x.b := fun w hw => un.out (.inr (by simp [Tr.list] at hw ⊢; grind))
            have t' := t.kept ks nt
            obtain ⟨z2, a2, t2'⟩ := id t'
            refine (turnLeft_any (x := x) (y := z) (l := l) (rl := a) (rr := .node b y rr) (show x.at _ s h l.ptr (Tr.node a z (.node b y rr)).ptr from x'.right) (l'.kept ks (fun w hw => un.out (.inl hw))) z2 a2 t2' (by rw [eM]; exact un) (by rw [eM]; exact bd)).mono ?_
            rintro e W3 ⟨rfl, t3, k3⟩
            refine ⟨⟨.node (.node l x a) z (.node b y rr), rfl, t3, ?_, ?_⟩, _, rfl⟩
            · simp [Tr.list]
            · rw [eM] at k3
              refine (((Kept.of_below d2).trans (k.mono fun w hw => ?_) (fun _ _ h => h)).trans (ks.mono fun w hw => ?_) (fun _ _ h => h)).trans k3 (fun _ _ h => h)
              · exact inB_sub (fun v hv => by simp [Tr.list] at hv ⊢; grind) hw
              · exact ⟨x, by simp, hw.symm⟩
        · refine settle_3b a7 a6 c7 c6 t2 t1 t3 t4 (by omega) (by omega) (by omega) (by omega) (by simp only [beq_eq_false_iff_ne]; exact e2) (by rw [e3]; rfl) (by rw [decide_eq_false_iff_not]; omega) ?_
          refine (turnLeft_any xd ld yd rld rrd un bd).mono ?_
          rintro e W3 ⟨rfl, t3, k3⟩
          refine ⟨⟨.node (.node l x rl) y rr, rfl, t3, ?_, (Kept.of_below d2).trans k3 (fun _ _ h => h)⟩, _, rfl⟩
          simp [Tr.list]
    · obtain ⟨ql, hql⟩ := l.ptr_form
      obtain ⟨qr, hqr⟩ := r.ptr_form
      rw [hql] at a6 t1
      rw [hqr] at a7 t2
      refine settle_4 a6 a7 t1 t2 (by omega) (by omega) (by omega) (by omega) (by simp only [beq_eq_false_iff_ne]; exact e2) (by simp only [beq_eq_false_iff_ne]; exact e3) ?_
      refine (measure_any (Nd.at.below hx d1) (hl.below d1) (hr.below d1) un bd).mono ?_
      rintro e W3 ⟨rfl, t3, k3⟩
      refine ⟨rfl, .node l x r, rfl, t3, rfl, (Kept.of_below d1).trans (k3.mono fun w hw => ⟨x, by simp, hw.symm⟩) (fun _ _ h => h)⟩
end
end Go.Proofs.Ytnhllnepnpmegaa
