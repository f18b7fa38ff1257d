/- The tree of pieces: measure of trees, turnLeft, turnRight: contracts. -/
import Derived.Test.YtnhllnepnpmegaaTr
namespace Go.Proofs.Ytnhllnepnpmegaa
open Go.ChangeShapes Go.WideShapes Go.ChangeAt Go.RowKit Go.Shelf Go.Proofs.Rx Go.Maps
set_option linter.unusedVariables false
set_option linter.unusedSimpArgs false

attribute [local go_sem] Oper.semAt_some

/-- All blocks are unlike. -/
def Un (L : List Nd) : Prop := L.Pairwise (fun x y => x.b ≠ y.b)
/-- So few, and so few pointers, that nothing wraps round. -/
def Bd (L : List Nd) : Prop := L.length < 1099511627776 ∧ owns L < 1152921504606846976
theorem Un.app {A B : List Nd} : Un (A ++ B) ↔ Un A ∧ Un B ∧ ∀ x ∈ A, ∀ y ∈ B, x.b ≠ y.b := List.pairwise_append
theorem Un.cons {x : Nd} {B : List Nd} : Un (x :: B) ↔ (∀ y ∈ B, x.b ≠ y.b) ∧ Un B := List.pairwise_cons
theorem Un.nil : Un [] := List.Pairwise.nil
theorem Un.sub {A B : List Nd} (h : Un B) (s : A.Sublist B) : Un A := List.Pairwise.sublist s h
theorem owns_sub {A B : List Nd} (s : A.Sublist B) : owns A ≤ owns B := by
  induction s with
  | slnil => exact Nat.le_refl _
  | cons a _ ih => rw [owns_cons]; omega
  | cons_cons a _ ih => rw [owns_cons, owns_cons]; omega
theorem Bd.sub {A B : List Nd} (h : Bd B) (s : A.Sublist B) : Bd A := ⟨Nat.lt_of_le_of_lt s.length_le h.1, Nat.lt_of_le_of_lt (owns_sub s) h.2⟩
theorem inB_app {A B : List Nd} {z : Nat} : inB (A ++ B) z ↔ inB A z ∨ inB B z := by
  unfold inB
  constructor
  · rintro ⟨x, hx, e⟩
    rcases List.mem_append.1 hx with u | u
    · exact .inl ⟨x, u, e⟩
    · exact .inr ⟨x, u, e⟩
  · rintro (⟨x, hx, e⟩ | ⟨x, hx, e⟩)
    · exact ⟨x, List.mem_append_left _ hx, e⟩
    · exact ⟨x, List.mem_append_right _ hx, e⟩
theorem inB_cons {x : Nd} {B : List Nd} {z : Nat} : inB (x :: B) z ↔ z = x.b ∨ inB B z := by
  unfold inB
  constructor
  · rintro ⟨y, hy, e⟩
    rcases List.mem_cons.1 hy with u | u
    · exact .inl (by rw [← e, u])
    · exact .inr ⟨y, u, e⟩
  · rintro (e | ⟨y, hy, e⟩)
    · exact ⟨x, List.mem_cons_self, e.symm⟩
    · exact ⟨y, List.mem_cons_of_mem _ hy, e⟩
theorem inB_sub {A B : List Nd} (s : ∀ x ∈ A, x ∈ B) {z : Nat} (h : inB A z) : inB B z := by
  obtain ⟨x, hx, e⟩ := h
  exact ⟨x, s x hx, e⟩
theorem Tr.ptr_form : ∀ t : Tr, ∃ q, t.ptr = .pointer q
  | .nil => ⟨_, rfl⟩
  | .node _ _ _ => ⟨_, rfl⟩
section
variable {W : World} {x y : Nd} {s h s' h' : Int} {l r rl rr : Tr}
theorem Nd.at.left {W : World} {x : Nd} {s h : Int} {l r v : Value} (hx : x.at W s h l r) : x.at (W.setCell ⟨x.b, 6, none⟩ v) s h v r := Bk.set hx 6 v
theorem Nd.at.right {W : World} {x : Nd} {s h : Int} {l r v : Value} (hx : x.at W s h l r) : x.at (W.setCell ⟨x.b, 7, none⟩ v) s h l v := Bk.set hx 7 v
theorem Nd.at.kept {F : Nat → Prop} {W W' : World} {x : Nd} {s h : Int} {l r : Value} (hx : x.at W s h l r) (k : Kept F W W') (hF : ¬ F x.b) : x.at W' s h l r := Bk.kept hx k hF
theorem Nd.at.below {W W' : World} {x : Nd} {s h : Int} {l r : Value} (hx : x.at W s h l r) (k : Below W.heap.size W W') : x.at W' s h l r := Bk.below hx k
theorem measure_any (hx : x.at W s h l.ptr r.ptr) (hl : TAt W l) (hr : TAt W r) (un : Un (l.list ++ x :: r.list)) (bd : Bd (l.list ++ x :: r.list)) :
    Calls Try.prog 48 #[.pointer (some ⟨x.b, 0, none⟩)] W fun e W' => e = .returned (.tuple #[]) ∧ TAt W' (.node l x r) ∧ Kept (fun z => z = x.b) W W' := by
  obtain ⟨u1, u2, u3⟩ := Un.app.1 un
  obtain ⟨u4, u5⟩ := Un.cons.1 u2
  have nl : ∀ y ∈ l.list, ¬ y.b = x.b := fun y hy => u3 y hy x List.mem_cons_self
  have nr : ∀ y ∈ r.list, ¬ y.b = x.b := fun y hy e => u4 y hy e.symm
  obtain ⟨b1, b2⟩ := bd
  rw [List.length_append, List.length_cons] at b1
  rw [owns_app, owns_cons, ← Tr.sum_list, ← Tr.sum_list] at b2
  have e1 := l.hgt_le
  have e2 := r.hgt_le
  refine (measure_core (M := ((max l.hgt r.hgt : Nat) : Int)) hx l.ptr r.ptr _ _ l.hgt r.hgt l.sum r.sum x.own rfl rfl rfl rfl rfl (fun W' k => tall_any (hl.kept k nl)) (fun W' k => tall_any (hr.kept k nr)) (fun W' k => pointers_any (hl.kept k nl)) (fun W' k => pointers_any (hr.kept k nr)) (by omega) (by omega) (by omega) (by omega) (by omega) (by omega) (by omega) (by omega) (by omega)).mono ?_
  rintro e W' ⟨rfl, hb, k⟩
  refine ⟨rfl, ⟨?_, hl.kept k nl, hr.kept k nr⟩, k⟩
  have e3 : (1 + ((max l.hgt r.hgt : Nat) : Int)) = (((Tr.node l x r).hgt : Nat) : Int) := by rw [Tr.hgt]; omega
  have e4 : ((l.sum : Nat) : Int) + (x.own : Nat) + (r.sum : Nat) = (((Tr.node l x r).sum : Nat) : Int) := by rw [Tr.sum]; omega
  rw [e3, e4] at hb
  exact hb
theorem turnLeft_any (hx : x.at W s h l.ptr (Tr.node rl y rr).ptr) (hl : TAt W l) (hy : y.at W s' h' rl.ptr rr.ptr) (h1 : TAt W rl) (h2 : TAt W rr) (un : Un (l.list ++ x :: (rl.list ++ y :: rr.list))) (bd : Bd (l.list ++ x :: (rl.list ++ y :: rr.list))) :
    Calls Try.prog 46 #[.pointer (some ⟨x.b, 0, none⟩)] W fun e W' => e = .returned (.pointer (some ⟨y.b, 0, none⟩)) ∧ TAt W' (.node (.node l x rl) y rr) ∧ Kept (inB (l.list ++ x :: (rl.list ++ y :: rr.list))) W W' := by
  obtain ⟨u1, u2, u3⟩ := Un.app.1 un
  obtain ⟨u4, u5⟩ := Un.cons.1 u2
  obtain ⟨u6, u7, u8⟩ := Un.app.1 u5
  obtain ⟨u9, u10⟩ := Un.cons.1 u7
  have ne : x.b ≠ y.b := u4 y (by simp)
  obtain ⟨W1, hW1⟩ : ∃ W1, (W.setCell ⟨x.b, 7, none⟩ rl.ptr).setCell ⟨y.b, 6, none⟩ (.pointer (some ⟨x.b, 0, none⟩)) = W1 := ⟨_, rfl⟩
  have k1 : Kept (fun z => z = x.b ∨ z = y.b) W W1 := by
    rw [← hW1]
    exact (kept_set (F := fun z => z = x.b ∨ z = y.b) _ x.b 7 _ (.inl rfl)).trans (kept_set (F := fun z => z = x.b ∨ z = y.b) _ y.b 6 _ (.inr rfl)) (fun _ _ h => h)
  have x1 : x.at W1 s h l.ptr rl.ptr := by rw [← hW1]; exact Bk.other hx.right ne 6 _
  have y1 : y.at W1 s' h' (Tr.node l x rl).ptr rr.ptr := by rw [← hW1]; exact Nd.at.left (Bk.other hy ne.symm 7 _)
  have l1 : TAt W1 l := hl.kept k1 (fun z hz e => by
    rcases e with e | e
    · exact u3 z hz x (by simp) e
    · exact u3 z hz y (by simp) e)
  have r1 : TAt W1 rl := h1.kept k1 (fun z hz e => by
    rcases e with e | e
    · exact u4 z (by simp [hz]) e.symm
    · exact u8 z hz y (by simp) e)
  have rr1 : TAt W1 rr := h2.kept k1 (fun z hz e => by
    rcases e with e | e
    · exact u4 z (by simp [hz]) e.symm
    · exact u9 z hz e.symm)
  have un1 : Un (l.list ++ x :: rl.list) := un.sub ((List.Sublist.refl _).append (List.Sublist.cons_cons _ (List.sublist_append_left _ _)))
  have bd1 : Bd (l.list ++ x :: rl.list) := bd.sub ((List.Sublist.refl _).append (List.Sublist.cons_cons _ (List.sublist_append_left _ _)))
  have C1 := measure_any x1 l1 r1 un1 bd1
  have eL : (Tr.node l x rl).list ++ y :: rr.list = l.list ++ x :: (rl.list ++ y :: rr.list) := by simp [Tr.list]
  have C2 : ∀ W2, (TAt W2 (.node l x rl) ∧ Kept (fun z => z = x.b) W1 W2) → Calls Try.prog 48 #[.pointer (some ⟨y.b, 0, none⟩)] W2 fun e W' => e = .returned (.tuple #[]) ∧ TAt W' (.node (.node l x rl) y rr) ∧ Kept (inB (l.list ++ x :: (rl.list ++ y :: rr.list))) W W' := fun W2 ⟨t2, k2⟩ => by
    refine (measure_any (l := .node l x rl) (r := rr) (y1.kept k2 (fun e => ne e.symm)) t2 (rr1.kept k2 (fun z hz e => u4 z (by simp [hz]) e.symm)) (by rw [eL]; exact un) (by rw [eL]; exact bd)).mono ?_
    rintro e W3 ⟨rfl, t3, k3⟩
    refine ⟨rfl, t3, ?_⟩
    have i1 : inB (l.list ++ x :: (rl.list ++ y :: rr.list)) x.b := ⟨x, by simp, rfl⟩
    have i2 : inB (l.list ++ x :: (rl.list ++ y :: rr.list)) y.b := ⟨y, by simp, rfl⟩
    refine ((k1.mono (fun z hz => ?_)).trans k2 (fun z _ hz => ?_)).trans k3 (fun z _ hz => ?_)
    · rcases hz with rfl | rfl
      · exact i1
      · exact i2
    · rw [hz]; exact i1
    · rw [hz]; exact i2
  have a7 : W.cell? ⟨x.b, 7, none⟩ = some (.pointer (some ⟨y.b, 0, none⟩)) := Bk.cell hx 7 _ rfl
  have b6 : W.cell? ⟨y.b, 6, none⟩ = some rl.ptr := Bk.cell hy 6 _ rfl
  have f7 : W.frozen? ⟨x.b, 7, none⟩ = false := Bk.fz hx 7
  have g6 : (W.setCell ⟨x.b, 7, none⟩ rl.ptr).frozen? ⟨y.b, 6, none⟩ = false := Bk.fz (Bk.other hy ne.symm 7 _) 6
  have b6' : (W.setCell ⟨x.b, 7, none⟩ rl.ptr).cell? ⟨y.b, 6, none⟩ = some rl.ptr := Bk.cell (Bk.other hy ne.symm 7 _) 6 _ rfl
  obtain ⟨P2, hP2⟩ : ∃ P : World → Prop, (fun W2 => TAt W2 (.node l x rl) ∧ Kept (fun z => z = x.b) W1 W2) = P := ⟨_, rfl⟩
  obtain ⟨P3, hP3⟩ : ∃ P : World → Prop, (fun W' => TAt W' (.node (.node l x rl) y rr) ∧ Kept (inB (l.list ++ x :: (rl.list ++ y :: rr.list))) W W') = P := ⟨_, rfl⟩
  have hP2' := fun W' => congrFun hP2 W'
  have hP3' := fun W' => congrFun hP3 W'
  simp only [hP2', hP3'] at C1 C2 ⊢
  obtain ⟨b, hb⟩ : ∃ b, x.b = b := ⟨_, rfl⟩
  obtain ⟨c, hc⟩ : ∃ b, y.b = b := ⟨_, rfl⟩
  obtain ⟨q, hR⟩ := rl.ptr_form
  rw [hb] at a7 f7 g6 b6' hW1 C1 ⊢
  rw [hc] at a7 b6 g6 b6' hW1 C2 ⊢
  rw [hR] at b6 g6 b6' hW1
  have HW := hide hW1
  have HC1 := hide C1
  have HC2 := hide C2
  clear hP2 hP3 hP2' hP3' C1 C2 hx hl hy h1 h2 un bd u1 u2 u3 u4 u5 u6 u7 u8 u9 u10 ne k1 x1 y1 l1 r1 rr1 un1 bd1 eL hb hc hR hW1
  go_enter Try.func46, Try.ntmps46
  go_wp2_with fail
  rw [HW.out]
  refine HC1.out.mono ?_
  rintro e W2 ⟨rfl, p2⟩
  go_wp2_with fail
  refine (HC2.out W2 p2).mono ?_
  rintro e W3 ⟨rfl, p3⟩
  go_wp2_with fail
  go_ret
  exact ⟨rfl, p3⟩
end
end Go.Proofs.Ytnhllnepnpmegaa
