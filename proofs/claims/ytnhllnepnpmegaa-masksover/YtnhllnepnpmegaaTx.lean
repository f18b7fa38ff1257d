/- The tree of pieces: join, link, pop: contracts. -/
import Derived.Test.YtnhllnepnpmegaaTw
namespace Go.Proofs.Ytnhllnepnpmegaa
open Go.ChangeShapes Go.WideShapes Go.ChangeAt Go.RowKit Go.Shelf Go.Proofs.Rx Go.Maps
set_option linter.unusedVariables false
set_option linter.unusedSimpArgs false

def Pos (L : List Nd) : Prop := ∀ x ∈ L, x.own ≠ 0
def keep (x : Nd) : List Nd := if x.own = 0 then [] else [x]
theorem keep_sub (x : Nd) : (keep x).Sublist [x] := by
  unfold keep
  split
  · exact List.nil_sublist _
  · exact List.Sublist.refl _
theorem treeR_v {L K : List Nd} {W W' : World} {e : Ending} (h : TreeR L K W e W') : TreeR L K W e W' ∧ ∃ v, e = .returned v := by
  obtain ⟨t, rfl, r⟩ := h
  exact ⟨⟨t, rfl, r⟩, _, rfl⟩
theorem TreeR.from {L K K0 M : List Nd} {W W1 W' : World} {e : Ending} (h : TreeR L K W1 e W') (k : Kept (inB K0) W W1) (s0 : ∀ x ∈ K0, x ∈ M) (s1 : ∀ x ∈ K, x ∈ M) : TreeR L M W e W' := by
  obtain ⟨t, e1, e2, e3, e4⟩ := h
  exact ⟨t, e1, e2, e3, (k.mono fun z hz => inB_sub s0 hz).trans (e4.mono fun z hz => inB_sub s1 hz) (fun _ _ h => h)⟩
theorem TreeR.as {L L' K M : List Nd} {W W' : World} {e : Ending} (h : TreeR L K W e W') (eL : L = L') (s1 : ∀ x ∈ K, x ∈ M) : TreeR L' M W e W' := by
  obtain ⟨t, e1, e2, e3, e4⟩ := h
  exact ⟨t, e1, e2, by rw [e3, eL], e4.mono fun z hz => inB_sub s1 hz⟩
def PopR (t : Tr) (W : World) (e : Ending) (W' : World) : Prop := ∃ y t' s h a c, t.list = y :: t'.list ∧ e = .returned (.tuple #[.pointer (some ⟨y.b, 0, none⟩), t'.ptr]) ∧ TAt W' t' ∧ y.at W' s h a c ∧ Kept (inB t.list) W W'
def JoinS (n : Nat) : Prop := ∀ (W : World) (x : Nd) (s h : Int) (a c : Value) (l r : Tr), l.list.length + r.list.length ≤ n → x.at W s h a c → TAt W l → TAt W r → Un (l.list ++ x :: r.list) → Bd (l.list ++ x :: r.list) → Pos l.list → Pos r.list →
  Calls Try.prog 40 #[l.ptr, .pointer (some ⟨x.b, 0, none⟩), r.ptr] W (TreeR (l.list ++ keep x ++ r.list) (l.list ++ x :: r.list) W)
def LinkS (n : Nat) : Prop := ∀ (W : World) (l r : Tr), l.list.length + r.list.length ≤ n → TAt W l → TAt W r → Un (l.list ++ r.list) → Bd (l.list ++ r.list) → Pos l.list → Pos r.list →
  Calls Try.prog 42 #[l.ptr, r.ptr] W (TreeR (l.list ++ r.list) (l.list ++ r.list) W)
def PopS (n : Nat) : Prop := ∀ (W : World) (l : Tr) (x : Nd) (r : Tr), (Tr.node l x r).list.length ≤ n → TAt W (.node l x r) → Un (Tr.node l x r).list → Bd (Tr.node l x r).list → Pos (Tr.node l x r).list →
  Calls Try.prog 45 #[.pointer (some ⟨x.b, 0, none⟩)] W (PopR (.node l x r) W)
theorem pop_step (n : Nat) (IP : ∀ m, m < n → PopS m) (IJ : ∀ m, m < n → JoinS m) : PopS n := by
  intro W l x r hn hT un bd ps
  obtain ⟨hx, hl, hr⟩ := id hT
  have a6 := Bk.cell hx 6 _ rfl
  have a7 := Bk.cell hx 7 _ rfl
  cases l with
  | nil =>
    obtain ⟨qr, hq⟩ := r.ptr_form
    rw [hq] at a7
    refine (pop_0 a6 a7).mono ?_
    rintro e W' ⟨rfl, rfl⟩
    exact ⟨x, r, _, _, _, _, by simp [Tr.list], by rw [hq], hr.below (drew_below W), Nd.at.below hx (drew_below W), Kept.of_below (drew_below W)⟩
  | node l1 y l2 =>
    have hlen : (Tr.node l1 y l2).list.length + 1 + r.list.length ≤ n := by rw [Tr.list, List.length_append, List.length_cons] at hn; omega
    have unL : Un (Tr.node l1 y l2).list := (Un.app.1 un).1
    refine pop_1 a6 (((IP _ (show (Tr.node l1 y l2).list.length < n by omega)) W l1 y l2 (Nat.le_refl _) hl unL (bd.sub (List.sublist_append_left _ _)) (fun z hz => ps z (List.mem_append_left _ hz))).mono ?_)
    rintro e W' ⟨y', t', s, h, a, c, eL, rfl, tt, yy, k⟩
    obtain ⟨q2, hq2⟩ := t'.ptr_form
    obtain ⟨qd, hqd⟩ := r.ptr_form
    have un' : Un (y' :: (t'.list ++ x :: r.list)) := by have := un; rw [Tr.list, eL] at this; exact this
    have bd' : Bd (y' :: (t'.list ++ x :: r.list)) := by have := bd; rw [Tr.list, eL] at this; exact this
    have x' := Nd.at.kept hx k (fun ⟨w, hw, e⟩ => un.out (.inl hw) e)
    have r' := hr.kept k (fun w hw ⟨v, hv, e⟩ => (Un.app.1 un).2.2 v hv w (by simp [hw]) e)
    refine ⟨_, q2, by rw [hq2], qd, ?_, ?_⟩
    · have := Bk.cell x' 7 _ rfl
      rwa [hqd] at this
    have ll : (Tr.node l1 y l2).list.length = t'.list.length + 1 := by rw [eL, List.length_cons]
    have ox : x.own ≠ 0 := ps x (by simp [Tr.list])
    rw [← hq2, ← hqd]
    refine ((IJ (t'.list.length + r.list.length) (by omega)) W' x _ _ _ _ t' r (Nat.le_refl _) x' tt r' (Un.cons.1 un').2 (bd'.sub (List.sublist_cons_self _ _)) (fun z hz => ps z (by rw [Tr.list, eL]; simp [hz])) (fun z hz => ps z (by simp [Tr.list, hz]))).mono ?_
    rintro e W2 ⟨t2, rfl, tt2, e2, k2⟩
    refine ⟨_, rfl, y', t2, s, h, a, c, ?_, rfl, tt2, yy.kept k2 (fun ⟨w, hw, e⟩ => (Un.cons.1 un').1 w hw e.symm), (k.mono fun z hz => ?_).trans (k2.mono fun z hz => ?_) (fun _ _ h => h)⟩
    · rw [e2, Tr.list, eL, keep, if_neg ox]; simp
    · exact inB_sub (fun w hw => by rw [Tr.list]; exact List.mem_append_left _ hw) hz
    · exact inB_sub (fun w hw => by rw [Tr.list, eL]; exact List.mem_cons_of_mem _ hw) hz
theorem link_step (n : Nat) (IP : PopS n) (IJ : ∀ m, m < n → JoinS m) : LinkS n := by
  intro W l r hn hl hr un bd p1 p2
  obtain ⟨ql, hq⟩ := l.ptr_form
  cases r with
  | nil =>
    rw [hq]
    refine (link_0 (ql := ql)).mono ?_
    rintro e W' ⟨rfl, rfl⟩
    exact ⟨l, by rw [hq], hl, by simp [Tr.list], Kept.refl _ _⟩
  | node r1 y r2 =>
    rw [hq]
    show Calls Try.prog _ #[.pointer ql, .pointer (some ⟨y.b, 0, none⟩)] W _
    refine link_1 ((IP W r1 y r2 (by omega) hr (Un.app.1 un).2.1 (bd.sub (List.sublist_append_right _ _)) p2).mono ?_)
    rintro e W' ⟨y', t', s, h, a, c, eL, rfl, tt, yy, k⟩
    obtain ⟨q2, hq2⟩ := t'.ptr_form
    refine ⟨_, q2, by rw [hq2], ?_⟩
    rw [← hq, ← hq2]
    have un' : Un (l.list ++ y' :: t'.list) := by rw [← eL]; exact un
    have bd' : Bd (l.list ++ y' :: t'.list) := by rw [← eL]; exact bd
    have ll : (Tr.node r1 y r2).list.length = t'.list.length + 1 := by rw [eL, List.length_cons]
    have oy : y'.own ≠ 0 := p2 y' (by rw [eL]; simp)
    refine ((IJ (l.list.length + t'.list.length) (by omega)) W' y' _ _ _ _ l t' (Nat.le_refl _) yy (hl.kept k (fun w hw ⟨v, hv, e⟩ => (Un.app.1 un).2.2 w hw v hv e.symm)) tt un' bd' p1 (fun z hz => p2 z (by rw [eL]; simp [hz]))).mono ?_
    intro e W2 h2
    refine treeR_v ((h2.as ?_ (M := l.list ++ (Tr.node r1 y r2).list) (fun z hz => by rw [eL]; exact hz)).from k (fun z hz => List.mem_append_right _ hz) (fun z hz => hz))
    rw [eL, keep, if_neg oy]; simp
theorem join_step (n : Nat) (IL : LinkS n) (IJ : ∀ m, m < n → JoinS m) : JoinS n := by
  intro W x s h a c l r hn hx hl hr un bd p1 p2
  obtain ⟨ql, hql⟩ := l.ptr_form
  obtain ⟨qr, hqr⟩ := r.ptr_form
  have a3 : W.cell? ⟨x.b, 3, none⟩ = some (.int .u64 (x.own : Nat)) := Bk.cell hx 3 _ rfl
  have bl := l.hgt_le
  have br := r.hgt_le
  have bz := bd.1
  rw [List.length_append, List.length_cons] at bz
  by_cases o0 : x.own = 0
  · rw [o0] at a3
    rw [hql, hqr]
    refine join_0 a3 ?_
    rw [← hql, ← hqr]
    have sb : (l.list ++ r.list).Sublist (l.list ++ x :: r.list) := (List.Sublist.refl _).append (List.sublist_cons_self _ _)
    refine (IL W l r hn hl hr (un.sub sb) (bd.sub sb) p1 p2).mono ?_
    intro e W2 h2
    exact treeR_v (h2.as (by rw [keep, if_pos o0]; simp) (fun z hz => sb.subset hz))
  have o1 : (((x.own : Nat) : Int) == 0) = false := by rw [beq_eq_false_iff_ne]; omega
  have t1 := tall_any hl
  have t2 := tall_any hr
  by_cases c1 : r.hgt + 1 < l.hgt
  · cases l with
    | nil => exfalso; simp only [Tr.hgt] at c1; omega
    | node ll y lr =>
      obtain ⟨hy, hll, hlr⟩ := id hl
      obtain ⟨qd, hqd⟩ := lr.ptr_form
      have c7 := Bk.cell hy 7 _ rfl
      rw [hqd] at c7
      rw [hqr] at t2
      have hlen : ll.list.length + 1 + lr.list.length + r.list.length ≤ n := by rw [Tr.list, List.length_append, List.length_cons] at hn; omega
      rw [hqr]
      refine join_1 a3 o1 c7 t1 t2 (by omega) (by omega) (by omega) (by omega) (by rw [decide_eq_true_iff]; omega) ?_
      rw [← hqd, ← hqr]
      have eA : (Tr.node ll y lr).list ++ x :: r.list = ll.list ++ y :: (lr.list ++ x :: r.list) := by simp [Tr.list]
      have unA := un
      rw [eA] at unA
      have bdA := bd
      rw [eA] at bdA
      have sb1 : (lr.list ++ x :: r.list).Sublist (ll.list ++ y :: (lr.list ++ x :: r.list)) := (List.sublist_cons_self _ _).trans (List.sublist_append_right _ _)
      refine ((IJ (lr.list.length + r.list.length) (by omega)) W x s h a c lr r (Nat.le_refl _) hx hlr hr (unA.sub sb1) (bdA.sub sb1) (fun z hz => p1 z (by simp [Tr.list, hz])) p2).mono ?_
      rintro e W' ⟨t, rfl, tt, et, k⟩
      obtain ⟨qz, hqz⟩ := t.ptr_form
      have y' := Nd.at.kept hy k (fun ⟨w, hw, e⟩ => unA.out (.inr hw) e)
      have ll' := hll.kept k (fun w hw ⟨v, hv, e⟩ => (Un.app.1 unA).2.2 w hw v (by simp at hv ⊢; grind) e.symm)
      refine ⟨qz, by rw [hqz], ⟨_, Bk.cell y' 7 _ rfl⟩, Bk.fz y' 7, ?_⟩
      have ks := kept_set (F := fun z => z = y.b) W' y.b 7 (.pointer qz) rfl
      have sb2 : (ll.list ++ y :: t.list).Sublist (ll.list ++ y :: (lr.list ++ x :: r.list)) := by
        rw [et, keep, if_neg o0]
        simp
      refine (settle_any (x := y) (l := ll) (r := t) (by rw [hqz]; exact y'.right) (ll'.kept ks (fun w hw => unA.out (.inl hw))) (tt.kept ks (fun w hw => unA.out (.inr (by rw [et, keep, if_neg o0] at hw; simp at hw ⊢; grind)))) (unA.sub sb2) (bdA.sub sb2)).mono ?_
      intro e W2 h2
      refine treeR_v (((h2.as ?_ (M := (Tr.node ll y lr).list ++ x :: r.list) (fun z hz => by rw [eA]; exact sb2.subset hz)).from (K0 := [y]) (ks.mono fun z hz => ⟨y, by simp, hz.symm⟩) (fun z hz => by rw [eA]; simp at hz; simp [hz]) (fun z hz => hz)).from k (fun z hz => by rw [eA]; exact sb1.subset hz) (fun z hz => hz))
      rw [et, Tr.list]; simp
  by_cases c2 : l.hgt + 1 < r.hgt
  · cases r with
    | nil => exfalso; simp only [Tr.hgt] at c2; omega
    | node rl y rr =>
      obtain ⟨hy, hrl, hrr⟩ := id hr
      obtain ⟨qd, hqd⟩ := rl.ptr_form
      have c6 := Bk.cell hy 6 _ rfl
      rw [hqd] at c6
      rw [hql] at t1
      have hlen : l.list.length + 1 + rl.list.length + rr.list.length ≤ n := by rw [Tr.list, List.length_append, List.length_cons] at hn; omega
      rw [hql]
      refine join_2 a3 o1 c6 t1 t2 (by omega) (by omega) (by omega) (by omega) (by rw [decide_eq_false_iff_not]; omega) (by rw [decide_eq_true_iff]; omega) ?_
      rw [← hqd, ← hql]
      have eA : l.list ++ x :: (Tr.node rl y rr).list = (l.list ++ x :: rl.list) ++ y :: rr.list := by simp [Tr.list]
      have unA := un
      rw [eA] at unA
      have bdA := bd
      rw [eA] at bdA
      have sb1 : (l.list ++ x :: rl.list).Sublist ((l.list ++ x :: rl.list) ++ y :: rr.list) := List.sublist_append_left _ _
      refine ((IJ (l.list.length + rl.list.length) (by omega)) W x s h a c l rl (Nat.le_refl _) hx hl hrl (unA.sub sb1) (bdA.sub sb1) p1 (fun z hz => p2 z (by simp [Tr.list, hz]))).mono ?_
      rintro e W' ⟨t, rfl, tt, et, k⟩
      obtain ⟨qz, hqz⟩ := t.ptr_form
      have y' := Nd.at.kept hy k (fun ⟨w, hw, e⟩ => unA.out (.inl hw) e)
      have rr' := hrr.kept k (fun w hw ⟨v, hv, e⟩ => (Un.app.1 unA).2.2 v hv w (by simp [hw]) e)
      refine ⟨qz, by rw [hqz], ⟨_, Bk.cell y' 6 _ rfl⟩, Bk.fz y' 6, ?_⟩
      have ks := kept_set (F := fun z => z = y.b) W' y.b 6 (.pointer qz) rfl
      have sb2 : (t.list ++ y :: rr.list).Sublist ((l.list ++ x :: rl.list) ++ y :: rr.list) := by
        rw [et, keep, if_neg o0]
        simp
      refine (settle_any (x := y) (l := t) (r := rr) (by rw [hqz]; exact y'.left) (tt.kept ks (fun w hw => unA.out (.inl (by rw [et, keep, if_neg o0] at hw; simp at hw ⊢; grind)))) (rr'.kept ks (fun w hw => unA.out (.inr hw))) (unA.sub sb2) (bdA.sub sb2)).mono ?_
      intro e W2 h2
      refine treeR_v (((h2.as ?_ (M := l.list ++ x :: (Tr.node rl y rr).list) (fun z hz => by rw [eA]; exact sb2.subset hz)).from (K0 := [y]) (ks.mono fun z hz => ⟨y, by simp, hz.symm⟩) (fun z hz => by rw [eA]; simp at hz; simp [hz]) (fun z hz => hz)).from k (fun z hz => by rw [eA]; exact sb1.subset hz) (fun z hz => hz))
      rw [et, Tr.list]; simp
  · rw [hql] at t1
    rw [hqr] at t2
    rw [hql, hqr]
    have x1 := Nd.at.left (v := .pointer ql) hx
    refine join_3 a3 o1 (Bk.cell hx 6 _ rfl) (Bk.fz hx 6) (Bk.cell x1 7 _ rfl) (Bk.fz x1 7) t1 t2 (by omega) (by omega) (by omega) (by omega) (by rw [decide_eq_false_iff_not]; omega) (by rw [decide_eq_false_iff_not]; omega) ?_
    have x2 := Nd.at.right (v := .pointer qr) x1
    have ks : Kept (fun z => z = x.b) W ((W.setCell ⟨x.b, 6, none⟩ (.pointer ql)).setCell ⟨x.b, 7, none⟩ (.pointer qr)) := (kept_set (F := fun z => z = x.b) _ x.b 6 _ rfl).trans (kept_set (F := fun z => z = x.b) _ x.b 7 _ rfl) (fun _ _ h => h)
    refine (settle_any (x := x) (l := l) (r := r) (by rw [hql, hqr]; exact x2) (hl.kept ks (fun w hw => un.out (.inl hw))) (hr.kept ks (fun w hw => un.out (.inr hw))) un bd).mono ?_
    intro e W2 h2
    refine treeR_v ((h2.as (by rw [keep, if_neg o0]; simp) (fun z hz => hz)).from (K0 := [x]) (ks.mono fun z hz => ⟨x, by simp, hz.symm⟩) (fun z hz => by simp at hz; simp [hz]) (fun z hz => hz))
theorem all_steps : ∀ n, JoinS n ∧ LinkS n ∧ PopS n := by
  intro n
  induction n using Nat.strongRecOn with
  | _ n ih =>
    have p := pop_step n (fun m hm => (ih m hm).2.2) (fun m hm => (ih m hm).1)
    have l := link_step n p (fun m hm => (ih m hm).1)
    exact ⟨join_step n l (fun m hm => (ih m hm).1), l, p⟩
/-- join. -/
theorem join_any {W : World} {x : Nd} {s h : Int} {a c : Value} {l r : Tr} (hx : x.at W s h a c) (hl : TAt W l) (hr : TAt W r) (un : Un (l.list ++ x :: r.list)) (bd : Bd (l.list ++ x :: r.list)) (p1 : Pos l.list) (p2 : Pos r.list) :
    Calls Try.prog 40 #[l.ptr, .pointer (some ⟨x.b, 0, none⟩), r.ptr] W (TreeR (l.list ++ keep x ++ r.list) (l.list ++ x :: r.list) W) := (all_steps _).1 W x s h a c l r (Nat.le_refl _) hx hl hr un bd p1 p2
end Go.Proofs.Ytnhllnepnpmegaa
