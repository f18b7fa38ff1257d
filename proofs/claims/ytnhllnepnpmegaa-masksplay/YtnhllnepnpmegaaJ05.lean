/- J05 of the proof of both laws: texts Tr, Ts, Tu, one behind the other. -/
import Derived.Test.YtnhllnepnpmegaaJ02
/- The tree of pieces: plain, and how it lies; tall, pointers, measure: contracts. -/
namespace Go.Proofs.Ytnhllnepnpmegaa
open Go.ChangeShapes Go.WideShapes Go.ChangeAt Go.RowKit Go.Shelf Go.Proofs.Rx Go.Maps
set_option linter.unusedVariables false
set_option linter.unusedSimpArgs false

attribute [local go_sem] Oper.semAt_some

/-- A piece: its block, its words, its form (as a value, as a function, its blocks), how many of its words are pointers. -/
structure Nd where
  b : Nat
  fi : Nat
  en : Nat
  T : Nat
  u : Value
  own : Nat
  g : Nat → Bool
  fb : List Nat
inductive Tr where
  | nil
  | node (l : Tr) (x : Nd) (r : Tr)
def Tr.ptr : Tr → Value
  | .nil => .pointer none
  | .node _ x _ => .pointer (some ⟨x.b, 0, none⟩)
def Tr.hgt : Tr → Nat
  | .nil => 0
  | .node l _ r => 1 + max l.hgt r.hgt
def Tr.sum : Tr → Nat
  | .nil => 0
  | .node l x r => l.sum + x.own + r.sum
def Tr.list : Tr → List Nd
  | .nil => []
  | .node l x r => l.list ++ x :: r.list
def Nd.vs (x : Nd) (s h : Int) (l r : Value) : Array Value := #[.int .u64 (x.fi : Nat), .int .u64 (x.en : Nat), .iface x.T x.u, .int .u64 (x.own : Nat), .int .u64 s, .int .i64 h, l, r]
/-- A piece in memory, whatever it says of those below it. -/
def Nd.at (W : World) (x : Nd) (s h : Int) (l r : Value) : Prop := Bk W x.b 78 (x.vs s h l r)
def TAt (W : World) : Tr → Prop
  | .nil => True
  | .node l x r => x.at W (Tr.node l x r).sum (Tr.node l x r).hgt l.ptr r.ptr ∧ TAt W l ∧ TAt W r
/-- The blocks of pieces. -/
def inB (L : List Nd) (z : Nat) : Prop := ∃ x ∈ L, x.b = z
def owns (L : List Nd) : Nat := (L.map Nd.own).sum
theorem owns_nil : owns [] = 0 := rfl
theorem owns_cons (x : Nd) (L : List Nd) : owns (x :: L) = x.own + owns L := by simp [owns]
theorem owns_app (L M : List Nd) : owns (L ++ M) = owns L + owns M := by simp [owns]
theorem Tr.sum_list : ∀ t : Tr, t.sum = owns t.list
  | .nil => rfl
  | .node l x r => by rw [Tr.sum, Tr.list, owns_app, owns_cons, l.sum_list, r.sum_list]; omega
theorem Tr.hgt_le : ∀ t : Tr, t.hgt ≤ t.list.length
  | .nil => Nat.le_refl _
  | .node l x r => by
    have := l.hgt_le
    have := r.hgt_le
    rw [Tr.hgt, Tr.list, List.length_append, List.length_cons]
    omega
theorem TAt.kept {F : Nat → Prop} {W W' : World} (k : Kept F W W') : ∀ {t : Tr}, TAt W t → (∀ x ∈ t.list, ¬ F x.b) → TAt W' t
  | .nil, _, _ => trivial
  | .node l x r, ⟨h, hl, hr⟩, n => ⟨Bk.kept h k (n x (by simp [Tr.list])), hl.kept k (fun y hy => n y (by simp [Tr.list, hy])), hr.kept k (fun y hy => n y (by simp [Tr.list, hy]))⟩
theorem TAt.below {W W' : World} {t : Tr} (h : TAt W t) (k : Below W.heap.size W W') : TAt W' t := h.kept (F := fun _ => False) (Kept.of_below k) (fun _ _ f => f)
theorem TAt.lt : ∀ {W : World} {t : Tr}, TAt W t → ∀ x ∈ t.list, x.b < W.heap.size
  | W, .node l y r, ⟨h, hl, hr⟩, x, hx => by
    simp only [Tr.list, List.mem_append, List.mem_cons] at hx
    rcases hx with u | u | u
    · exact hl.lt x u
    · rw [u]; exact Bk.lt h
    · exact hr.lt x u
/-- Blocks of pieces are of their type. -/
theorem TAt.type : ∀ {W : World} {t : Tr}, TAt W t → ∀ x ∈ t.list, ∃ vs, Bk W x.b 78 vs
  | W, .node l y r, ⟨h, hl, hr⟩, x, hx => by
    simp only [Tr.list, List.mem_append, List.mem_cons] at hx
    rcases hx with u | u | u
    · exact hl.type x u
    · rw [u]; exact ⟨_, h⟩
    · exact hr.type x u
/-! ### tall, pointers, measure -/
theorem tall_any {W : World} {t : Tr} (h : TAt W t) : Calls Try.prog 43 #[t.ptr] W fun e W' => e = .returned (.int .i64 (t.hgt : Nat)) ∧ W' = W := by
  cases t with
  | nil =>
    show Calls Try.prog _ #[.pointer none] W _
    go_enter Try.func43, Try.ntmps43
    go_wp2_with fail
    go_ret
    exact ⟨rfl, rfl⟩
  | node l x r =>
    have c := Bk.cell h.1 5 _ rfl
    show Calls Try.prog _ #[.pointer (some ⟨x.b, 0, none⟩)] W _
    obtain ⟨H, hH⟩ : ∃ H : Int, (((Tr.node l x r).hgt : Nat) : Int) = H := ⟨_, rfl⟩
    rw [hH] at c ⊢
    obtain ⟨b, hb⟩ : ∃ b, x.b = b := ⟨_, rfl⟩
    rw [hb] at c ⊢
    clear h hH hb
    go_enter Try.func43, Try.ntmps43
    go_wp2_with fail
    go_ret
    exact ⟨rfl, rfl⟩
theorem pointers_any {W : World} {t : Tr} (h : TAt W t) : Calls Try.prog 36 #[t.ptr] W fun e W' => e = .returned (.int .u64 (t.sum : Nat)) ∧ W' = W := by
  cases t with
  | nil =>
    show Calls Try.prog _ #[.pointer none] W _
    go_enter Try.func36, Try.ntmps36
    go_wp2_with fail
    go_ret
    exact ⟨rfl, rfl⟩
  | node l x r =>
    have c := Bk.cell h.1 4 _ rfl
    show Calls Try.prog _ #[.pointer (some ⟨x.b, 0, none⟩)] W _
    obtain ⟨H, hH⟩ : ∃ H : Int, (((Tr.node l x r).sum : Nat) : Int) = H := ⟨_, rfl⟩
    rw [hH] at c ⊢
    obtain ⟨b, hb⟩ : ∃ b, x.b = b := ⟨_, rfl⟩
    rw [hb] at c ⊢
    clear h hH hb
    go_enter Try.func36, Try.ntmps36
    go_wp2_with fail
    go_ret
    exact ⟨rfl, rfl⟩
set_option maxRecDepth 100000 in
theorem measure_core {W : World} {b : Nat} {vs : Array Value} (hb : Bk W b 78 vs) (PL PR z4 z5 : Value) (HL HR SL SR OW M : Int) (v6 : vs[6]? = some PL) (v7 : vs[7]? = some PR) (v3 : vs[3]? = some (.int .u64 OW)) (v4 : vs[4]? = some z4) (v5 : vs[5]? = some z5)
    (ctl : ∀ W', Kept (fun z => z = b) W W' → Calls Try.prog 43 #[PL] W' fun e w => e = .returned (.int .i64 HL) ∧ w = W')
    (ctr : ∀ W', Kept (fun z => z = b) W W' → Calls Try.prog 43 #[PR] W' fun e w => e = .returned (.int .i64 HR) ∧ w = W')
    (cpl : ∀ W', Kept (fun z => z = b) W W' → Calls Try.prog 36 #[PL] W' fun e w => e = .returned (.int .u64 SL) ∧ w = W')
    (cpr : ∀ W', Kept (fun z => z = b) W W' → Calls Try.prog 36 #[PR] W' fun e w => e = .returned (.int .u64 SR) ∧ w = W')
    (hM : HR ≤ HL ∧ M = HL ∨ HL < HR ∧ M = HR)
    (h0 : 0 ≤ HL) (h1 : HL < 2199023255552) (h2 : 0 ≤ HR) (h3 : HR < 2199023255552) (s0 : 0 ≤ SL) (s1 : 0 ≤ SR) (s2 : 0 ≤ OW) (s3 : SL + OW + SR < 4611686018427387904) :
    Calls Try.prog 48 #[.pointer (some ⟨b, 0, none⟩)] W fun e W' => e = .returned (.tuple #[]) ∧ Bk W' b 78 ((vs.setIfInBounds 5 (.int .i64 (1 + M))).setIfInBounds 4 (.int .u64 (SL + OW + SR))) ∧ Kept (fun z => z = b) W W' := by
  have d1 : Bk W.drew b 78 vs := Bk.below hb (drew_below W)
  have a6 : W.cell? ⟨b, 6, none⟩ = some PL := hb.cell 6 _ v6
  have a7 : W.cell? ⟨b, 7, none⟩ = some PR := hb.cell 7 _ v7
  have a5 : W.cell? ⟨b, 5, none⟩ = some z5 := hb.cell 5 _ v5
  have f1 : W.frozen? ⟨b, 5, none⟩ = false := hb.fz 5
  have k1 : Kept (fun z => z = b) W W.drew := Kept.of_below (drew_below W)
  have X1 := ctl _ k1
  have X2 := ctr _ k1
  have q6 : (vs.setIfInBounds 5 (.int .i64 (1 + M)))[6]? = some PL := by rw [Array.getElem?_setIfInBounds_ne (by decide)]; exact v6
  have q7 : (vs.setIfInBounds 5 (.int .i64 (1 + M)))[7]? = some PR := by rw [Array.getElem?_setIfInBounds_ne (by decide)]; exact v7
  have q3 : (vs.setIfInBounds 5 (.int .i64 (1 + M)))[3]? = some (.int .u64 OW) := by rw [Array.getElem?_setIfInBounds_ne (by decide)]; exact v3
  have q4 : (vs.setIfInBounds 5 (.int .i64 (1 + M)))[4]? = some z4 := by rw [Array.getElem?_setIfInBounds_ne (by decide)]; exact v4
  obtain ⟨W2, hW2⟩ : ∃ W2, (W.setCell ⟨b, 5, none⟩ (.int .i64 (1 + M))).drew = W2 := ⟨_, rfl⟩
  have d2 : Bk W2 b 78 (vs.setIfInBounds 5 (.int .i64 (1 + M))) := by rw [← hW2]; exact (hb.set 5 _).below (drew_below _)
  have k2 : Kept (fun z => z = b) W W2 := by rw [← hW2]; exact (kept_set (F := fun z => z = b) _ b 5 _ rfl).trans (Kept.of_below (drew_below _)) (fun _ _ h => h)
  have k3 : Kept (fun z => z = b) W W2.drew := k2.trans (Kept.of_below (drew_below _)) (fun _ _ h => h)
  have X3 := cpl _ k3
  have X4 := cpr _ k3
  have b6 : W2.cell? ⟨b, 6, none⟩ = some PL := d2.cell 6 _ q6
  have b7 : W2.cell? ⟨b, 7, none⟩ = some PR := d2.cell 7 _ q7
  have b3 : W2.cell? ⟨b, 3, none⟩ = some (.int .u64 OW) := d2.cell 3 _ q3
  have b4 : W2.cell? ⟨b, 4, none⟩ = some z4 := d2.cell 4 _ q4
  have g4 : W2.frozen? ⟨b, 4, none⟩ = false := d2.fz 4
  have FIN := hide (show Bk (W2.setCell ⟨b, 4, none⟩ (.int .u64 (SL + OW + SR))).drew b 78 ((vs.setIfInBounds 5 (.int .i64 (1 + M))).setIfInBounds 4 (.int .u64 (SL + OW + SR))) ∧ Kept (fun z => z = b) W (W2.setCell ⟨b, 4, none⟩ (.int .u64 (SL + OW + SR))).drew from
    ⟨(d2.set 4 _).below (drew_below _), k3.trans (kept_set (F := fun z => z = b) _ b 4 _ rfl) (fun _ _ h => h)⟩)
  generalize hV : (vs.setIfInBounds 5 (.int .i64 (1 + M))).setIfInBounds 4 (.int .u64 (SL + OW + SR)) = V at FIN ⊢
  have HW2 := hide hW2
  clear hb d1 v6 v7 v3 v4 v5 q6 q7 q3 q4 d2 k1 k2 k3 ctl ctr cpl cpr hV hW2
  rcases hM with ⟨c, rfl⟩ | ⟨c, rfl⟩
  all_goals
    go_enter Try.func48, Try.ntmps48
    go_wp2_with fail
    refine still_tail 13 (by kernel_rfl) (by kernel_rfl) ?_
    simp only [List.take_succ_cons, List.take_zero, List.drop_succ_cons, List.drop_zero]
    repeat still_step
    still_call X1
    repeat still_step
    still_call X2
    repeat still_step
    refine wpStill_nil ?_
    go_wp2_with fail
    all_goals first
      | (exfalso; omega)
      | (rw [HW2.out]
         refine still_tail 17 (by kernel_rfl) (by kernel_rfl) ?_
         simp only [List.take_succ_cons, List.take_zero, List.drop_succ_cons, List.drop_zero]
         repeat still_step
         still_call X3
         repeat still_step
         still_call X4
         repeat still_step
         refine wpStill_nil ?_
         go_wp2_with fail
         go_end0
         exact ⟨rfl, FIN.out⟩)
end Go.Proofs.Ytnhllnepnpmegaa

/- The tree of pieces: measure of trees, turnLeft, turnRight: contracts. -/
namespace Go.Proofs.Ytnhllnepnpmegaa
open Go.ChangeShapes Go.WideShapes Go.ChangeAt Go.RowKit Go.Shelf Go.Proofs.Rx Go.Maps
set_option linter.unusedVariables false
set_option linter.unusedSimpArgs false

attribute [local go_sem] Oper.semAt_some

/-- All blocks are unlike. -/
def Un (L : List Nd) : Prop := L.Pairwise (fun x y => x.b ≠ y.b)
/-- So few, and so few pointers, that nothing wraps round. -/
def Bd (L : List Nd) : Prop := L.length < 1099511627776 ∧ owns L < 1152921504606846976
theorem Un.app {A B : List Nd} : Un (A ++ B) ↔ Un A ∧ Un B ∧ ∀ x ∈ A, ∀ y ∈ B, x.b ≠ y.b := List.pairwise_append
theorem Un.cons {x : Nd} {B : List Nd} : Un (x :: B) ↔ (∀ y ∈ B, x.b ≠ y.b) ∧ Un B := List.pairwise_cons
theorem Un.nil : Un [] := List.Pairwise.nil
theorem Un.sub {A B : List Nd} (h : Un B) (s : A.Sublist B) : Un A := List.Pairwise.sublist s h
theorem owns_sub {A B : List Nd} (s : A.Sublist B) : owns A ≤ owns B := by
  induction s with
  | slnil => exact Nat.le_refl _
  | cons a _ ih => rw [owns_cons]; omega
  | cons_cons a _ ih => rw [owns_cons, owns_cons]; omega
theorem Bd.sub {A B : List Nd} (h : Bd B) (s : A.Sublist B) : Bd A := ⟨Nat.lt_of_le_of_lt s.length_le h.1, Nat.lt_of_le_of_lt (owns_sub s) h.2⟩
theorem inB_app {A B : List Nd} {z : Nat} : inB (A ++ B) z ↔ inB A z ∨ inB B z := by
  unfold inB
  constructor
  · rintro ⟨x, hx, e⟩
    rcases List.mem_append.1 hx with u | u
    · exact .inl ⟨x, u, e⟩
    · exact .inr ⟨x, u, e⟩
  · rintro (⟨x, hx, e⟩ | ⟨x, hx, e⟩)
    · exact ⟨x, List.mem_append_left _ hx, e⟩
    · exact ⟨x, List.mem_append_right _ hx, e⟩
theorem inB_cons {x : Nd} {B : List Nd} {z : Nat} : inB (x :: B) z ↔ z = x.b ∨ inB B z := by
  unfold inB
  constructor
  · rintro ⟨y, hy, e⟩
    rcases List.mem_cons.1 hy with u | u
    · exact .inl (by rw [← e, u])
    · exact .inr ⟨y, u, e⟩
  · rintro (e | ⟨y, hy, e⟩)
    · exact ⟨x, List.mem_cons_self, e.symm⟩
    · exact ⟨y, List.mem_cons_of_mem _ hy, e⟩
theorem inB_sub {A B : List Nd} (s : ∀ x ∈ A, x ∈ B) {z : Nat} (h : inB A z) : inB B z := by
  obtain ⟨x, hx, e⟩ := h
  exact ⟨x, s x hx, e⟩
theorem Tr.ptr_form : ∀ t : Tr, ∃ q, t.ptr = .pointer q
  | .nil => ⟨_, rfl⟩
  | .node _ _ _ => ⟨_, rfl⟩
section
variable {W : World} {x y : Nd} {s h s' h' : Int} {l r rl rr : Tr}
theorem Nd.at.left {W : World} {x : Nd} {s h : Int} {l r v : Value} (hx : x.at W s h l r) : x.at (W.setCell ⟨x.b, 6, none⟩ v) s h v r := Bk.set hx 6 v
theorem Nd.at.right {W : World} {x : Nd} {s h : Int} {l r v : Value} (hx : x.at W s h l r) : x.at (W.setCell ⟨x.b, 7, none⟩ v) s h l v := Bk.set hx 7 v
theorem Nd.at.kept {F : Nat → Prop} {W W' : World} {x : Nd} {s h : Int} {l r : Value} (hx : x.at W s h l r) (k : Kept F W W') (hF : ¬ F x.b) : x.at W' s h l r := Bk.kept hx k hF
theorem Nd.at.below {W W' : World} {x : Nd} {s h : Int} {l r : Value} (hx : x.at W s h l r) (k : Below W.heap.size W W') : x.at W' s h l r := Bk.below hx k
theorem measure_any (hx : x.at W s h l.ptr r.ptr) (hl : TAt W l) (hr : TAt W r) (un : Un (l.list ++ x :: r.list)) (bd : Bd (l.list ++ x :: r.list)) :
    Calls Try.prog 48 #[.pointer (some ⟨x.b, 0, none⟩)] W fun e W' => e = .returned (.tuple #[]) ∧ TAt W' (.node l x r) ∧ Kept (fun z => z = x.b) W W' := by
  obtain ⟨u1, u2, u3⟩ := Un.app.1 un
  obtain ⟨u4, u5⟩ := Un.cons.1 u2
  have nl : ∀ y ∈ l.list, ¬ y.b = x.b := fun y hy => u3 y hy x List.mem_cons_self
  have nr : ∀ y ∈ r.list, ¬ y.b = x.b := fun y hy e => u4 y hy e.symm
  obtain ⟨b1, b2⟩ := bd
  rw [List.length_append, List.length_cons] at b1
  rw [owns_app, owns_cons, ← Tr.sum_list, ← Tr.sum_list] at b2
  have e1 := l.hgt_le
  have e2 := r.hgt_le
  refine (measure_core (M := ((max l.hgt r.hgt : Nat) : Int)) hx l.ptr r.ptr _ _ l.hgt r.hgt l.sum r.sum x.own rfl rfl rfl rfl rfl (fun W' k => tall_any (hl.kept k nl)) (fun W' k => tall_any (hr.kept k nr)) (fun W' k => pointers_any (hl.kept k nl)) (fun W' k => pointers_any (hr.kept k nr)) (by omega) (by omega) (by omega) (by omega) (by omega) (by omega) (by omega) (by omega) (by omega)).mono ?_
  rintro e W' ⟨rfl, hb, k⟩
  refine ⟨rfl, ⟨?_, hl.kept k nl, hr.kept k nr⟩, k⟩
  have e3 : (1 + ((max l.hgt r.hgt : Nat) : Int)) = (((Tr.node l x r).hgt : Nat) : Int) := by rw [Tr.hgt]; omega
  have e4 : ((l.sum : Nat) : Int) + (x.own : Nat) + (r.sum : Nat) = (((Tr.node l x r).sum : Nat) : Int) := by rw [Tr.sum]; omega
  rw [e3, e4] at hb
  exact hb
theorem turnLeft_any (hx : x.at W s h l.ptr (Tr.node rl y rr).ptr) (hl : TAt W l) (hy : y.at W s' h' rl.ptr rr.ptr) (h1 : TAt W rl) (h2 : TAt W rr) (un : Un (l.list ++ x :: (rl.list ++ y :: rr.list))) (bd : Bd (l.list ++ x :: (rl.list ++ y :: rr.list))) :
    Calls Try.prog 46 #[.pointer (some ⟨x.b, 0, none⟩)] W fun e W' => e = .returned (.pointer (some ⟨y.b, 0, none⟩)) ∧ TAt W' (.node (.node l x rl) y rr) ∧ Kept (inB (l.list ++ x :: (rl.list ++ y :: rr.list))) W W' := by
  obtain ⟨u1, u2, u3⟩ := Un.app.1 un
  obtain ⟨u4, u5⟩ := Un.cons.1 u2
  obtain ⟨u6, u7, u8⟩ := Un.app.1 u5
  obtain ⟨u9, u10⟩ := Un.cons.1 u7
  have ne : x.b ≠ y.b := u4 y (by simp)
  obtain ⟨W1, hW1⟩ : ∃ W1, (W.setCell ⟨x.b, 7, none⟩ rl.ptr).setCell ⟨y.b, 6, none⟩ (.pointer (some ⟨x.b, 0, none⟩)) = W1 := ⟨_, rfl⟩
  have k1 : Kept (fun z => z = x.b ∨ z = y.b) W W1 := by
    rw [← hW1]
    exact (kept_set (F := fun z => z = x.b ∨ z = y.b) _ x.b 7 _ (.inl rfl)).trans (kept_set (F := fun z => z = x.b ∨ z = y.b) _ y.b 6 _ (.inr rfl)) (fun _ _ h => h)
  have x1 : x.at W1 s h l.ptr rl.ptr := by rw [← hW1]; exact Bk.other hx.right ne 6 _
  have y1 : y.at W1 s' h' (Tr.node l x rl).ptr rr.ptr := by rw [← hW1]; exact Nd.at.left (Bk.other hy ne.symm 7 _)
  have l1 : TAt W1 l := hl.kept k1 (fun z hz e => by
    rcases e with e | e
    · exact u3 z hz x (by simp) e
    · exact u3 z hz y (by simp) e)
  have r1 : TAt W1 rl := h1.kept k1 (fun z hz e => by
    rcases e with e | e
    · exact u4 z (by simp [hz]) e.symm
    · exact u8 z hz y (by simp) e)
  have rr1 : TAt W1 rr := h2.kept k1 (fun z hz e => by
    rcases e with e | e
    · exact u4 z (by simp [hz]) e.symm
    · exact u9 z hz e.symm)
  have un1 : Un (l.list ++ x :: rl.list) := un.sub ((List.Sublist.refl _).append (List.Sublist.cons_cons _ (List.sublist_append_left _ _)))
  have bd1 : Bd (l.list ++ x :: rl.list) := bd.sub ((List.Sublist.refl _).append (List.Sublist.cons_cons _ (List.sublist_append_left _ _)))
  have C1 := measure_any x1 l1 r1 un1 bd1
  have eL : (Tr.node l x rl).list ++ y :: rr.list = l.list ++ x :: (rl.list ++ y :: rr.list) := by simp [Tr.list]
  have C2 : ∀ W2, (TAt W2 (.node l x rl) ∧ Kept (fun z => z = x.b) W1 W2) → Calls Try.prog 48 #[.pointer (some ⟨y.b, 0, none⟩)] W2 fun e W' => e = .returned (.tuple #[]) ∧ TAt W' (.node (.node l x rl) y rr) ∧ Kept (inB (l.list ++ x :: (rl.list ++ y :: rr.list))) W W' := fun W2 ⟨t2, k2⟩ => by
    refine (measure_any (l := .node l x rl) (r := rr) (y1.kept k2 (fun e => ne e.symm)) t2 (rr1.kept k2 (fun z hz e => u4 z (by simp [hz]) e.symm)) (by rw [eL]; exact un) (by rw [eL]; exact bd)).mono ?_
    rintro e W3 ⟨rfl, t3, k3⟩
    refine ⟨rfl, t3, ?_⟩
    have i1 : inB (l.list ++ x :: (rl.list ++ y :: rr.list)) x.b := ⟨x, by simp, rfl⟩
    have i2 : inB (l.list ++ x :: (rl.list ++ y :: rr.list)) y.b := ⟨y, by simp, rfl⟩
    refine ((k1.mono (fun z hz => ?_)).trans k2 (fun z _ hz => ?_)).trans k3 (fun z _ hz => ?_)
    · rcases hz with rfl | rfl
      · exact i1
      · exact i2
    · rw [hz]; exact i1
    · rw [hz]; exact i2
  have a7 : W.cell? ⟨x.b, 7, none⟩ = some (.pointer (some ⟨y.b, 0, none⟩)) := Bk.cell hx 7 _ rfl
  have b6 : W.cell? ⟨y.b, 6, none⟩ = some rl.ptr := Bk.cell hy 6 _ rfl
  have f7 : W.frozen? ⟨x.b, 7, none⟩ = false := Bk.fz hx 7
  have g6 : (W.setCell ⟨x.b, 7, none⟩ rl.ptr).frozen? ⟨y.b, 6, none⟩ = false := Bk.fz (Bk.other hy ne.symm 7 _) 6
  have b6' : (W.setCell ⟨x.b, 7, none⟩ rl.ptr).cell? ⟨y.b, 6, none⟩ = some rl.ptr := Bk.cell (Bk.other hy ne.symm 7 _) 6 _ rfl
  obtain ⟨P2, hP2⟩ : ∃ P : World → Prop, (fun W2 => TAt W2 (.node l x rl) ∧ Kept (fun z => z = x.b) W1 W2) = P := ⟨_, rfl⟩
  obtain ⟨P3, hP3⟩ : ∃ P : World → Prop, (fun W' => TAt W' (.node (.node l x rl) y rr) ∧ Kept (inB (l.list ++ x :: (rl.list ++ y :: rr.list))) W W') = P := ⟨_, rfl⟩
  have hP2' := fun W' => congrFun hP2 W'
  have hP3' := fun W' => congrFun hP3 W'
  simp only [hP2', hP3'] at C1 C2 ⊢
  obtain ⟨b, hb⟩ : ∃ b, x.b = b := ⟨_, rfl⟩
  obtain ⟨c, hc⟩ : ∃ b, y.b = b := ⟨_, rfl⟩
  obtain ⟨q, hR⟩ := rl.ptr_form
  rw [hb] at a7 f7 g6 b6' hW1 C1 ⊢
  rw [hc] at a7 b6 g6 b6' hW1 C2 ⊢
  rw [hR] at b6 g6 b6' hW1
  have HW := hide hW1
  have HC1 := hide C1
  have HC2 := hide C2
  clear hP2 hP3 hP2' hP3' C1 C2 hx hl hy h1 h2 un bd u1 u2 u3 u4 u5 u6 u7 u8 u9 u10 ne k1 x1 y1 l1 r1 rr1 un1 bd1 eL hb hc hR hW1
  go_enter Try.func46, Try.ntmps46
  go_wp2_with fail
  rw [HW.out]
  refine HC1.out.mono ?_
  rintro e W2 ⟨rfl, p2⟩
  go_wp2_with fail
  refine (HC2.out W2 p2).mono ?_
  rintro e W3 ⟨rfl, p3⟩
  go_wp2_with fail
  go_ret
  exact ⟨rfl, p3⟩
end
end Go.Proofs.Ytnhllnepnpmegaa

/- The tree of pieces: turnRight; settle's walks. -/
namespace Go.Proofs.Ytnhllnepnpmegaa
open Go.ChangeShapes Go.WideShapes Go.ChangeAt Go.RowKit Go.Shelf Go.Proofs.Rx Go.Maps
set_option linter.unusedVariables false
set_option linter.unusedSimpArgs false

attribute [local go_sem] Oper.semAt_some

section
variable {W : World} {x y : Nd} {s h s' h' : Int} {r ll lr : Tr}
theorem turnRight_any (hx : x.at W s h (Tr.node ll y lr).ptr r.ptr) (hr : TAt W r) (hy : y.at W s' h' ll.ptr lr.ptr) (h1 : TAt W ll) (h2 : TAt W lr) (un : Un (ll.list ++ y :: (lr.list ++ x :: r.list))) (bd : Bd (ll.list ++ y :: (lr.list ++ x :: r.list))) :
    Calls Try.prog 47 #[.pointer (some ⟨x.b, 0, none⟩)] W fun e W' => e = .returned (.pointer (some ⟨y.b, 0, none⟩)) ∧ TAt W' (.node ll y (.node lr x r)) ∧ Kept (inB (ll.list ++ y :: (lr.list ++ x :: r.list))) W W' := by
  obtain ⟨u1, u2, u3⟩ := Un.app.1 un
  obtain ⟨u4, u5⟩ := Un.cons.1 u2
  obtain ⟨u6, u7, u8⟩ := Un.app.1 u5
  obtain ⟨u9, u10⟩ := Un.cons.1 u7
  have ne : y.b ≠ x.b := u4 x (by simp)
  obtain ⟨W1, hW1⟩ : ∃ W1, (W.setCell ⟨x.b, 6, none⟩ lr.ptr).setCell ⟨y.b, 7, none⟩ (.pointer (some ⟨x.b, 0, none⟩)) = W1 := ⟨_, rfl⟩
  have k1 : Kept (fun z => z = x.b ∨ z = y.b) W W1 := by
    rw [← hW1]
    exact (kept_set (F := fun z => z = x.b ∨ z = y.b) _ x.b 6 _ (.inl rfl)).trans (kept_set (F := fun z => z = x.b ∨ z = y.b) _ y.b 7 _ (.inr rfl)) (fun _ _ h => h)
  have x1 : x.at W1 s h lr.ptr r.ptr := by rw [← hW1]; exact Bk.other hx.left ne.symm 7 _
  have y1 : y.at W1 s' h' ll.ptr (Tr.node lr x r).ptr := by rw [← hW1]; exact Nd.at.right (Bk.other hy ne 6 _)
  have l1 : TAt W1 ll := h1.kept k1 (fun z hz e => by
    rcases e with e | e
    · exact u3 z hz x (by simp) e
    · exact u3 z hz y (by simp) e)
  have r1 : TAt W1 lr := h2.kept k1 (fun z hz e => by
    rcases e with e | e
    · exact u8 z hz x (by simp) e
    · exact u4 z (by simp [hz]) e.symm)
  have rr1 : TAt W1 r := hr.kept k1 (fun z hz e => by
    rcases e with e | e
    · exact u9 z hz e.symm
    · exact u4 z (by simp [hz]) e.symm)
  have un1 : Un (lr.list ++ x :: r.list) := u5
  have bd1 : Bd (lr.list ++ x :: r.list) := bd.sub ((List.sublist_cons_self _ _).trans (List.sublist_append_right _ _))
  have C1 := measure_any x1 r1 rr1 un1 bd1
  have C2 : ∀ W2, (TAt W2 (.node lr x r) ∧ Kept (fun z => z = x.b) W1 W2) → Calls Try.prog 48 #[.pointer (some ⟨y.b, 0, none⟩)] W2 fun e W' => e = .returned (.tuple #[]) ∧ TAt W' (.node ll y (.node lr x r)) ∧ Kept (inB (ll.list ++ y :: (lr.list ++ x :: r.list))) W W' := fun W2 ⟨t2, k2⟩ => by
    refine (measure_any (l := ll) (r := .node lr x r) (y1.kept k2 ne) (l1.kept k2 (fun z hz e => u3 z hz x (by simp) e)) t2 un bd).mono ?_
    rintro e W3 ⟨rfl, t3, k3⟩
    refine ⟨rfl, t3, ?_⟩
    have i1 : inB (ll.list ++ y :: (lr.list ++ x :: r.list)) x.b := ⟨x, by simp, rfl⟩
    have i2 : inB (ll.list ++ y :: (lr.list ++ x :: r.list)) y.b := ⟨y, by simp, rfl⟩
    refine ((k1.mono (fun z hz => ?_)).trans k2 (fun z _ hz => ?_)).trans k3 (fun z _ hz => ?_)
    · rcases hz with rfl | rfl
      · exact i1
      · exact i2
    · rw [hz]; exact i1
    · rw [hz]; exact i2
  have a7 : W.cell? ⟨x.b, 6, none⟩ = some (.pointer (some ⟨y.b, 0, none⟩)) := Bk.cell hx 6 _ rfl
  have b6 : W.cell? ⟨y.b, 7, none⟩ = some lr.ptr := Bk.cell hy 7 _ rfl
  have f7 : W.frozen? ⟨x.b, 6, none⟩ = false := Bk.fz hx 6
  have g6 : (W.setCell ⟨x.b, 6, none⟩ lr.ptr).frozen? ⟨y.b, 7, none⟩ = false := Bk.fz (Bk.other hy ne 6 _) 7
  have b6' : (W.setCell ⟨x.b, 6, none⟩ lr.ptr).cell? ⟨y.b, 7, none⟩ = some lr.ptr := Bk.cell (Bk.other hy ne 6 _) 7 _ rfl
  obtain ⟨P2, hP2⟩ : ∃ P : World → Prop, (fun W2 => TAt W2 (.node lr x r) ∧ Kept (fun z => z = x.b) W1 W2) = P := ⟨_, rfl⟩
  obtain ⟨P3, hP3⟩ : ∃ P : World → Prop, (fun W' => TAt W' (.node ll y (.node lr x r)) ∧ Kept (inB (ll.list ++ y :: (lr.list ++ x :: r.list))) W W') = P := ⟨_, rfl⟩
  have hP2' := fun W' => congrFun hP2 W'
  have hP3' := fun W' => congrFun hP3 W'
  simp only [hP2', hP3'] at C1 C2 ⊢
  obtain ⟨b, hb⟩ : ∃ b, x.b = b := ⟨_, rfl⟩
  obtain ⟨c, hc⟩ : ∃ b, y.b = b := ⟨_, rfl⟩
  obtain ⟨q, hR⟩ := lr.ptr_form
  rw [hb] at a7 f7 g6 b6' hW1 C1 ⊢
  rw [hc] at a7 b6 g6 b6' hW1 C2 ⊢
  rw [hR] at b6 g6 b6' hW1
  have HW := hide hW1
  have HC1 := hide C1
  have HC2 := hide C2
  clear hP2 hP3 hP2' hP3' C1 C2 hx hr hy h1 h2 un bd u1 u2 u3 u4 u5 u6 u7 u8 u9 u10 ne k1 x1 y1 l1 r1 rr1 un1 bd1 hb hc hR hW1
  go_enter Try.func47, Try.ntmps47
  go_wp2_with fail
  rw [HW.out]
  refine HC1.out.mono ?_
  rintro e W2 ⟨rfl, p2⟩
  go_wp2_with fail
  refine (HC2.out W2 p2).mono ?_
  rintro e W3 ⟨rfl, p3⟩
  go_wp2_with fail
  go_ret
  exact ⟨rfl, p3⟩
end
/-! ### settle's walks -/
section
variable {W : World} {b c d : Nat} {qr q1 q2 qz : Option Addr} {HL HR A B : Int} {P2 : World → Prop} {R3 : Ending → World → Prop}
set_option maxRecDepth 100000 in
theorem settle_2a (a6 : W.cell? ⟨b, 6, none⟩ = some (.pointer (some ⟨c, 0, none⟩))) (a7 : W.cell? ⟨b, 7, none⟩ = some (.pointer qr)) (c6 : W.cell? ⟨c, 6, none⟩ = some (.pointer q1)) (c7 : W.cell? ⟨c, 7, none⟩ = some (.pointer q2))
    (t1 : Calls Try.prog 43 #[.pointer (some ⟨c, 0, none⟩)] W.drew fun e w => e = .returned (.int .i64 HL) ∧ w = W.drew) (t2 : Calls Try.prog 43 #[.pointer qr] W.drew fun e w => e = .returned (.int .i64 HR) ∧ w = W.drew)
    (t3 : Calls Try.prog 43 #[.pointer q1] W.drew.drew fun e w => e = .returned (.int .i64 A) ∧ w = W.drew.drew) (t4 : Calls Try.prog 43 #[.pointer q2] W.drew.drew fun e w => e = .returned (.int .i64 B) ∧ w = W.drew.drew)
    (l0 : 0 ≤ HL) (l1 : HL < 2199023255552) (r0 : 0 ≤ HR) (r1 : HR < 2199023255552) (d2 : (HL - HR == 2) = true) (ab : decide (A < B) = true)
    (C1 : Calls Try.prog 46 #[.pointer (some ⟨c, 0, none⟩)] W.drew.drew fun e W' => e = .returned (.pointer qz) ∧ P2 W')
    (C2 : ∀ W', P2 W' → (∃ v, W'.cell? ⟨b, 6, none⟩ = some v) ∧ W'.frozen? ⟨b, 6, none⟩ = false ∧ Calls Try.prog 47 #[.pointer (some ⟨b, 0, none⟩)] (W'.setCell ⟨b, 6, none⟩ (.pointer qz)) fun e W'' => R3 e W'' ∧ ∃ v, e = .returned v) :
    Calls Try.prog 44 #[.pointer (some ⟨b, 0, none⟩)] W R3 := by
  have HC1 := hide C1
  have HC2 := hide C2
  clear C1 C2
  go_enter Try.func44, Try.ntmps44
  go_wp2_with fail
  refine still_all (by kernel_rfl) (by kernel_rfl) ?_
  repeat still_step
  still_call t1
  repeat still_step
  still_call t2
  repeat still_step
  refine wpStill_nil ?_
  go_wp2_with fail
  refine still_all (by kernel_rfl) (by kernel_rfl) ?_
  repeat still_step
  still_call t3
  repeat still_step
  still_call t4
  repeat still_step
  refine wpStill_nil ?_
  go_wp2_with fail
  refine HC1.out.mono ?_
  rintro e W2 ⟨rfl, p2⟩
  obtain ⟨⟨v, hv⟩, hf, c3⟩ := HC2.out W2 p2
  have HC3 := hide c3
  clear c3 HC1 HC2 p2
  go_wp2_with fail
  refine HC3.out.mono ?_
  rintro e W3 ⟨r3, v3, rfl⟩
  go_wp2_with fail
  first | exact r3 | (go_ret; exact r3)
set_option maxRecDepth 100000 in
theorem settle_2b (a6 : W.cell? ⟨b, 6, none⟩ = some (.pointer (some ⟨c, 0, none⟩))) (a7 : W.cell? ⟨b, 7, none⟩ = some (.pointer qr)) (c6 : W.cell? ⟨c, 6, none⟩ = some (.pointer q1)) (c7 : W.cell? ⟨c, 7, none⟩ = some (.pointer q2))
    (t1 : Calls Try.prog 43 #[.pointer (some ⟨c, 0, none⟩)] W.drew fun e w => e = .returned (.int .i64 HL) ∧ w = W.drew) (t2 : Calls Try.prog 43 #[.pointer qr] W.drew fun e w => e = .returned (.int .i64 HR) ∧ w = W.drew)
    (t3 : Calls Try.prog 43 #[.pointer q1] W.drew.drew fun e w => e = .returned (.int .i64 A) ∧ w = W.drew.drew) (t4 : Calls Try.prog 43 #[.pointer q2] W.drew.drew fun e w => e = .returned (.int .i64 B) ∧ w = W.drew.drew)
    (l0 : 0 ≤ HL) (l1 : HL < 2199023255552) (r0 : 0 ≤ HR) (r1 : HR < 2199023255552) (d2 : (HL - HR == 2) = true) (ab : decide (A < B) = false)
    (C2 : Calls Try.prog 47 #[.pointer (some ⟨b, 0, none⟩)] W.drew.drew fun e W'' => R3 e W'' ∧ ∃ v, e = .returned v) :
    Calls Try.prog 44 #[.pointer (some ⟨b, 0, none⟩)] W R3 := by
  have HC2 := hide C2
  clear C2
  go_enter Try.func44, Try.ntmps44
  go_wp2_with fail
  refine still_all (by kernel_rfl) (by kernel_rfl) ?_
  repeat still_step
  still_call t1
  repeat still_step
  still_call t2
  repeat still_step
  refine wpStill_nil ?_
  go_wp2_with fail
  refine still_all (by kernel_rfl) (by kernel_rfl) ?_
  repeat still_step
  still_call t3
  repeat still_step
  still_call t4
  repeat still_step
  refine wpStill_nil ?_
  go_wp2_with fail
  refine HC2.out.mono ?_
  rintro e W3 ⟨r3, v3, rfl⟩
  go_wp2_with fail
  first | exact r3 | (go_ret; exact r3)
set_option maxRecDepth 100000 in
theorem settle_3a (a6 : W.cell? ⟨b, 7, none⟩ = some (.pointer (some ⟨c, 0, none⟩))) (a7 : W.cell? ⟨b, 6, none⟩ = some (.pointer qr)) (c6 : W.cell? ⟨c, 7, none⟩ = some (.pointer q1)) (c7 : W.cell? ⟨c, 6, none⟩ = some (.pointer q2))
    (t1 : Calls Try.prog 43 #[.pointer (some ⟨c, 0, none⟩)] W.drew fun e w => e = .returned (.int .i64 HR) ∧ w = W.drew) (t2 : Calls Try.prog 43 #[.pointer qr] W.drew fun e w => e = .returned (.int .i64 HL) ∧ w = W.drew)
    (t3 : Calls Try.prog 43 #[.pointer q1] W.drew.drew fun e w => e = .returned (.int .i64 A) ∧ w = W.drew.drew) (t4 : Calls Try.prog 43 #[.pointer q2] W.drew.drew fun e w => e = .returned (.int .i64 B) ∧ w = W.drew.drew)
    (l0 : 0 ≤ HL) (l1 : HL < 2199023255552) (r0 : 0 ≤ HR) (r1 : HR < 2199023255552) (d2 : (HL - HR == 2) = false) (d3 : (HL - HR == -2) = true) (ab : decide (A < B) = true)
    (C1 : Calls Try.prog 47 #[.pointer (some ⟨c, 0, none⟩)] W.drew.drew fun e W' => e = .returned (.pointer qz) ∧ P2 W')
    (C2 : ∀ W', P2 W' → (∃ v, W'.cell? ⟨b, 7, none⟩ = some v) ∧ W'.frozen? ⟨b, 7, none⟩ = false ∧ Calls Try.prog 46 #[.pointer (some ⟨b, 0, none⟩)] (W'.setCell ⟨b, 7, none⟩ (.pointer qz)) fun e W'' => R3 e W'' ∧ ∃ v, e = .returned v) :
    Calls Try.prog 44 #[.pointer (some ⟨b, 0, none⟩)] W R3 := by
  have HC1 := hide C1
  have HC2 := hide C2
  clear C1 C2
  go_enter Try.func44, Try.ntmps44
  go_wp2_with fail
  refine still_all (by kernel_rfl) (by kernel_rfl) ?_
  repeat still_step
  still_call t2
  repeat still_step
  still_call t1
  repeat still_step
  refine wpStill_nil ?_
  go_wp2_with fail
  refine still_all (by kernel_rfl) (by kernel_rfl) ?_
  repeat still_step
  still_call t3
  repeat still_step
  still_call t4
  repeat still_step
  refine wpStill_nil ?_
  go_wp2_with fail
  refine HC1.out.mono ?_
  rintro e W2 ⟨rfl, p2⟩
  obtain ⟨⟨v, hv⟩, hf, c3⟩ := HC2.out W2 p2
  have HC3 := hide c3
  clear c3 HC1 HC2 p2
  go_wp2_with fail
  refine HC3.out.mono ?_
  rintro e W3 ⟨r3, v3, rfl⟩
  go_wp2_with fail
  first | exact r3 | (go_ret; exact r3)
set_option maxRecDepth 100000 in
theorem settle_3b (a6 : W.cell? ⟨b, 7, none⟩ = some (.pointer (some ⟨c, 0, none⟩))) (a7 : W.cell? ⟨b, 6, none⟩ = some (.pointer qr)) (c6 : W.cell? ⟨c, 7, none⟩ = some (.pointer q1)) (c7 : W.cell? ⟨c, 6, none⟩ = some (.pointer q2))
    (t1 : Calls Try.prog 43 #[.pointer (some ⟨c, 0, none⟩)] W.drew fun e w => e = .returned (.int .i64 HR) ∧ w = W.drew) (t2 : Calls Try.prog 43 #[.pointer qr] W.drew fun e w => e = .returned (.int .i64 HL) ∧ w = W.drew)
    (t3 : Calls Try.prog 43 #[.pointer q1] W.drew.drew fun e w => e = .returned (.int .i64 A) ∧ w = W.drew.drew) (t4 : Calls Try.prog 43 #[.pointer q2] W.drew.drew fun e w => e = .returned (.int .i64 B) ∧ w = W.drew.drew)
    (l0 : 0 ≤ HL) (l1 : HL < 2199023255552) (r0 : 0 ≤ HR) (r1 : HR < 2199023255552) (d2 : (HL - HR == 2) = false) (d3 : (HL - HR == -2) = true) (ab : decide (A < B) = false)
    (C2 : Calls Try.prog 46 #[.pointer (some ⟨b, 0, none⟩)] W.drew.drew fun e W'' => R3 e W'' ∧ ∃ v, e = .returned v) :
    Calls Try.prog 44 #[.pointer (some ⟨b, 0, none⟩)] W R3 := by
  have HC2 := hide C2
  clear C2
  go_enter Try.func44, Try.ntmps44
  go_wp2_with fail
  refine still_all (by kernel_rfl) (by kernel_rfl) ?_
  repeat still_step
  still_call t2
  repeat still_step
  still_call t1
  repeat still_step
  refine wpStill_nil ?_
  go_wp2_with fail
  refine still_all (by kernel_rfl) (by kernel_rfl) ?_
  repeat still_step
  still_call t3
  repeat still_step
  still_call t4
  repeat still_step
  refine wpStill_nil ?_
  go_wp2_with fail
  refine HC2.out.mono ?_
  rintro e W3 ⟨r3, v3, rfl⟩
  go_wp2_with fail
  first | exact r3 | (go_ret; exact r3)
set_option maxRecDepth 100000 in
theorem settle_4 (a6 : W.cell? ⟨b, 6, none⟩ = some (.pointer q1)) (a7 : W.cell? ⟨b, 7, none⟩ = some (.pointer qr))
    (t1 : Calls Try.prog 43 #[.pointer q1] W.drew fun e w => e = .returned (.int .i64 HL) ∧ w = W.drew) (t2 : Calls Try.prog 43 #[.pointer qr] W.drew fun e w => e = .returned (.int .i64 HR) ∧ w = W.drew)
    (l0 : 0 ≤ HL) (l1 : HL < 2199023255552) (r0 : 0 ≤ HR) (r1 : HR < 2199023255552) (d2 : (HL - HR == 2) = false) (d3 : (HL - HR == -2) = false)
    (C2 : Calls Try.prog 48 #[.pointer (some ⟨b, 0, none⟩)] W.drew fun e W'' => e = .returned (.tuple #[]) ∧ R3 (.returned (.pointer (some ⟨b, 0, none⟩))) W'') :
    Calls Try.prog 44 #[.pointer (some ⟨b, 0, none⟩)] W R3 := by
  have HC2 := hide C2
  clear C2
  go_enter Try.func44, Try.ntmps44
  go_wp2_with fail
  refine still_all (by kernel_rfl) (by kernel_rfl) ?_
  repeat still_step
  still_call t1
  repeat still_step
  still_call t2
  repeat still_step
  refine wpStill_nil ?_
  go_wp2_with fail
  refine HC2.out.mono ?_
  rintro e W3 ⟨rfl, r3⟩
  go_wp2_with fail
  first | exact r3 | (go_ret; exact r3)
end
end Go.Proofs.Ytnhllnepnpmegaa
