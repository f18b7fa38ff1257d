/- The tree of pieces: plain, and how it lies; tall, pointers, measure: contracts. -/
import Derived.Test.YtnhllnepnpmegaaHq
namespace Go.Proofs.Ytnhllnepnpmegaa
open Go.ChangeShapes Go.WideShapes Go.ChangeAt Go.RowKit Go.Shelf Go.Proofs.Rx Go.Maps
set_option linter.unusedVariables false
set_option linter.unusedSimpArgs false

attribute [local go_sem] Oper.semAt_some

/-- A piece: its block, its words, its form (as a value, as a function, its blocks), how many of its words are pointers. -/
structure Nd where
  b : Nat
  fi : Nat
  en : Nat
  T : Nat
  u : Value
  own : Nat
  g : Nat → Bool
  fb : List Nat
inductive Tr where
  | nil
  | node (l : Tr) (x : Nd) (r : Tr)
def Tr.ptr : Tr → Value
  | .nil => .pointer none
  | .node _ x _ => .pointer (some ⟨x.b, 0, none⟩)
def Tr.hgt : Tr → Nat
  | .nil => 0
  | .node l _ r => 1 + max l.hgt r.hgt
def Tr.sum : Tr → Nat
  | .nil => 0
  | .node l x r => l.sum + x.own + r.sum
def Tr.list : Tr → List Nd
  | .nil => []
  | .node l x r => l.list ++ x :: r.list
def Nd.vs (x : Nd) (s h : Int) (l r : Value) : Array Value := #[.int .u64 (x.fi : Nat), .int .u64 (x.en : Nat), .iface x.T x.u, .int .u64 (x.own : Nat), .int .u64 s, .int .i64 h, l, r]
/-- A piece in memory, whatever it says of those below it. -/
def Nd.at (W : World) (x : Nd) (s h : Int) (l r : Value) : Prop := Bk W x.b 78 (x.vs s h l r)
def TAt (W : World) : Tr → Prop
  | .nil => True
  | .node l x r => x.at W (Tr.node l x r).sum (Tr.node l x r).hgt l.ptr r.ptr ∧ TAt W l ∧ TAt W r
/-- The blocks of pieces. -/
def inB (L : List Nd) (z : Nat) : Prop := ∃ x ∈ L, x.b = z
def owns (L : List Nd) : Nat := (L.map Nd.own).sum
theorem owns_nil : owns [] = 0 := rfl
theorem owns_cons (x : Nd) (L : List Nd) : owns (x :: L) = x.own + owns L := by simp [owns]
theorem owns_app (L M : List Nd) : owns (L ++ M) = owns L + owns M := by simp [owns]
theorem Tr.sum_list : ∀ t : Tr, t.sum = owns t.list
  | .nil => rfl
  | .node l x r => by rw [Tr.sum, Tr.list, owns_app, owns_cons, l.sum_list, r.sum_list]; omega
theorem Tr.hgt_le : ∀ t : Tr, t.hgt ≤ t.list.length
  | .nil => Nat.le_refl _
  | .node l x r => by
    have := l.hgt_le
    have := r.hgt_le
    rw [Tr.hgt, Tr.list, List.length_append, List.length_cons]
    omega
theorem TAt.kept {F : Nat → Prop} {W W' : World} (k : Kept F W W') : ∀ {t : Tr}, TAt W t → (∀ x ∈ t.list, ¬ F x.b) → TAt W' t
  | .nil, _, _ => trivial
  | .node l x r, ⟨h, hl, hr⟩, n => ⟨Bk.kept h k (n x (by simp [Tr.list])), hl.kept k (fun y hy => n y (by simp [Tr.list, hy])), hr.kept k (fun y hy => n y (by simp [Tr.list, hy]))⟩
theorem TAt.below {W W' : World} {t : Tr} (h : TAt W t) (k : Below W.heap.size W W') : TAt W' t := h.kept (F := fun _ => False) (Kept.of_below k) (fun _ _ f => f)
theorem TAt.lt : ∀ {W : World} {t : Tr}, TAt W t → ∀ x ∈ t.list, x.b < W.heap.size
  | W, .node l y r, ⟨h, hl, hr⟩, x, hx => by
    simp only [Tr.list, List.mem_append, List.mem_cons] at hx
    rcases hx with u | u | u
    · exact hl.lt x u
    · rw [u]; exact Bk.lt h
    · exact hr.lt x u
/-- Blocks of pieces are of their type. -/
theorem TAt.type : ∀ {W : World} {t : Tr}, TAt W t → ∀ x ∈ t.list, ∃ vs, Bk W x.b 78 vs
  | W, .node l y r, ⟨h, hl, hr⟩, x, hx => by
    simp only [Tr.list, List.mem_append, List.mem_cons] at hx
    rcases hx with u | u | u
    · exact hl.type x u
    · rw [u]; exact ⟨_, h⟩
    · exact hr.type x u
/-! ### tall, pointers, measure -/
theorem tall_any {W : World} {t : Tr} (h : TAt W t) : Calls Try.prog 43 #[t.ptr] W fun e W' => e = .returned (.int .i64 (t.hgt : Nat)) ∧ W' = W := by
  cases t with
  | nil =>
    show Calls Try.prog _ #[.pointer none] W _
    go_enter Try.func43, Try.ntmps43
    go_wp2_with fail
    go_ret
    exact ⟨rfl, rfl⟩
  | node l x r =>
    have c := Bk.cell h.1 5 _ rfl
    show Calls Try.prog _ #[.pointer (some ⟨x.b, 0, none⟩)] W _
    obtain ⟨H, hH⟩ : ∃ H : Int, (((Tr.node l x r).hgt : Nat) : Int) = H := ⟨_, rfl⟩
    rw [hH] at c ⊢
    obtain ⟨b, hb⟩ : ∃ b, x.b = b := ⟨_, rfl⟩
    rw [hb] at c ⊢
    clear h hH hb
    go_enter Try.func43, Try.ntmps43
    go_wp2_with fail
    go_ret
    exact ⟨rfl, rfl⟩
theorem pointers_any {W : World} {t : Tr} (h : TAt W t) : Calls Try.prog 36 #[t.ptr] W fun e W' => e = .returned (.int .u64 (t.sum : Nat)) ∧ W' = W := by
  cases t with
  | nil =>
    show Calls Try.prog _ #[.pointer none] W _
    go_enter Try.func36, Try.ntmps36
    go_wp2_with fail
    go_ret
    exact ⟨rfl, rfl⟩
  | node l x r =>
    have c := Bk.cell h.1 4 _ rfl
    show Calls Try.prog _ #[.pointer (some ⟨x.b, 0, none⟩)] W _
    obtain ⟨H, hH⟩ : ∃ H : Int, (((Tr.node l x r).sum : Nat) : Int) = H := ⟨_, rfl⟩
    rw [hH] at c ⊢
    obtain ⟨b, hb⟩ : ∃ b, x.b = b := ⟨_, rfl⟩
    rw [hb] at c ⊢
    clear h hH hb
    go_enter Try.func36, Try.ntmps36
    go_wp2_with fail
    go_ret
    exact ⟨rfl, rfl⟩
set_option maxRecDepth 100000 in
theorem measure_core {W : World} {b : Nat} {vs : Array Value} (hb : Bk W b 78 vs) (PL PR z4 z5 : Value) (HL HR SL SR OW M : Int) (v6 : vs[6]? = some PL) (v7 : vs[7]? = some PR) (v3 : vs[3]? = some (.int .u64 OW)) (v4 : vs[4]? = some z4) (v5 : vs[5]? = some z5)
    (ctl : ∀ W', Kept (fun z => z = b) W W' → Calls Try.prog 43 #[PL] W' fun e w => e = .returned (.int .i64 HL) ∧ w = W')
    (ctr : ∀ W', Kept (fun z => z = b) W W' → Calls Try.prog 43 #[PR] W' fun e w => e = .returned (.int .i64 HR) ∧ w = W')
    (cpl : ∀ W', Kept (fun z => z = b) W W' → Calls Try.prog 36 #[PL] W' fun e w => e = .returned (.int .u64 SL) ∧ w = W')
    (cpr : ∀ W', Kept (fun z => z = b) W W' → Calls Try.prog 36 #[PR] W' fun e w => e = .returned (.int .u64 SR) ∧ w = W')
    (hM : HR ≤ HL ∧ M = HL ∨ HL < HR ∧ M = HR)
    (h0 : 0 ≤ HL) (h1 : HL < 2199023255552) (h2 : 0 ≤ HR) (h3 : HR < 2199023255552) (s0 : 0 ≤ SL) (s1 : 0 ≤ SR) (s2 : 0 ≤ OW) (s3 : SL + OW + SR < 4611686018427387904) :
    Calls Try.prog 48 #[.pointer (some ⟨b, 0, none⟩)] W fun e W' => e = .returned (.tuple #[]) ∧ Bk W' b 78 ((vs.setIfInBounds 5 (.int .i64 (1 + M))).setIfInBounds 4 (.int .u64 (SL + OW + SR))) ∧ Kept (fun z => z = b) W W' := by
  have d1 : Bk W.drew b 78 vs := Bk.below hb (drew_below W)
  have a6 : W.cell? ⟨b, 6, none⟩ = some PL := hb.cell 6 _ v6
  have a7 : W.cell? ⟨b, 7, none⟩ = some PR := hb.cell 7 _ v7
  have a5 : W.cell? ⟨b, 5, none⟩ = some z5 := hb.cell 5 _ v5
  have f1 : W.frozen? ⟨b, 5, none⟩ = false := hb.fz 5
  have k1 : Kept (fun z => z = b) W W.drew := Kept.of_below (drew_below W)
  have X1 := ctl _ k1
  have X2 := ctr _ k1
  have q6 : (vs.setIfInBounds 5 (.int .i64 (1 + M)))[6]? = some PL := by rw [Array.getElem?_setIfInBounds_ne (by decide)]; exact v6
  have q7 : (vs.setIfInBounds 5 (.int .i64 (1 + M)))[7]? = some PR := by rw [Array.getElem?_setIfInBounds_ne (by decide)]; exact v7
  have q3 : (vs.setIfInBounds 5 (.int .i64 (1 + M)))[3]? = some (.int .u64 OW) := by rw [Array.getElem?_setIfInBounds_ne (by decide)]; exact v3
  have q4 : (vs.setIfInBounds 5 (.int .i64 (1 + M)))[4]? = some z4 := by rw [Array.getElem?_setIfInBounds_ne (by decide)]; exact v4
  obtain ⟨W2, hW2⟩ : ∃ W2, (W.setCell ⟨b, 5, none⟩ (.int .i64 (1 + M))).drew = W2 := ⟨_, rfl⟩
  have d2 : Bk W2 b 78 (vs.setIfInBounds 5 (.int .i64 (1 + M))) := by rw [← hW2]; exact (hb.set 5 _).below (drew_below _)
  have k2 : Kept (fun z => z = b) W W2 := by rw [← hW2]; exact (kept_set (F := fun z => z = b) _ b 5 _ rfl).trans (Kept.of_below (drew_below _)) (fun _ _ h => h)
  have k3 : Kept (fun z => z = b) W W2.drew := k2.trans (Kept.of_below (drew_below _)) (fun _ _ h => h)
  have X3 := cpl _ k3
  have X4 := cpr _ k3
  have b6 : W2.cell? ⟨b, 6, none⟩ = some PL := d2.cell 6 _ q6
  have b7 : W2.cell? ⟨b, 7, none⟩ = some PR := d2.cell 7 _ q7
  have b3 : W2.cell? ⟨b, 3, none⟩ = some (.int .u64 OW) := d2.cell 3 _ q3
  have b4 : W2.cell? ⟨b, 4, none⟩ = some z4 := d2.cell 4 _ q4
  have g4 : W2.frozen? ⟨b, 4, none⟩ = false := d2.fz 4
  have FIN := hide (show Bk (W2.setCell ⟨b, 4, none⟩ (.int .u64 (SL + OW + SR))).drew b 78 ((vs.setIfInBounds 5 (.int .i64 (1 + M))).setIfInBounds 4 (.int .u64 (SL + OW + SR))) ∧ Kept (fun z => z = b) W (W2.setCell ⟨b, 4, none⟩ (.int .u64 (SL + OW + SR))).drew from
    ⟨(d2.set 4 _).below (drew_below _), k3.trans (kept_set (F := fun z => z = b) _ b 4 _ rfl) (fun _ _ h => h)⟩)
  generalize hV : (vs.setIfInBounds 5 (.int .i64 (1 + M))).setIfInBounds 4 (.int .u64 (SL + OW + SR)) = V at FIN ⊢
  have HW2 := hide hW2
  clear hb d1 v6 v7 v3 v4 v5 q6 q7 q3 q4 d2 k1 k2 k3 ctl ctr cpl cpr hV hW2
  rcases hM with ⟨c, rfl⟩ | ⟨c, rfl⟩
  all_goals
    go_enter Try.func48, Try.ntmps48
    go_wp2_with fail
    refine still_tail 13 (by kernel_rfl) (by kernel_rfl) ?_
    simp only [List.take_succ_cons, List.take_zero, List.drop_succ_cons, List.drop_zero]
    repeat still_step
    still_call X1
    repeat still_step
    still_call X2
    repeat still_step
    refine wpStill_nil ?_
    go_wp2_with fail
    all_goals first
      | (exfalso; omega)
      | (rw [HW2.out]
         refine still_tail 17 (by kernel_rfl) (by kernel_rfl) ?_
         simp only [List.take_succ_cons, List.take_zero, List.drop_succ_cons, List.drop_zero]
         repeat still_step
         still_call X3
         repeat still_step
         still_call X4
         repeat still_step
         refine wpStill_nil ?_
         go_wp2_with fail
         go_end0
         exact ⟨rfl, FIN.out⟩)
end Go.Proofs.Ytnhllnepnpmegaa
