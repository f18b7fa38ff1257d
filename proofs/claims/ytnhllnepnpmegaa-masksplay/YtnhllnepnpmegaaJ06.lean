/- J06 of the proof of both laws: texts Tv, Tw, Tx, one behind the other. -/
import Derived.Test.YtnhllnepnpmegaaJ05
/- The tree of pieces: settle: contract. -/
namespace Go.Proofs.Ytnhllnepnpmegaa
open Go.ChangeShapes Go.WideShapes Go.ChangeAt Go.RowKit Go.Shelf Go.Proofs.Rx Go.Maps
set_option linter.unusedVariables false
set_option linter.unusedSimpArgs false

attribute [local go_sem] Oper.semAt_some

/-- What a call answers that makes a tree of a list's pieces. -/
def TreeR (L K : List Nd) (W : World) (e : Ending) (W' : World) : Prop := ∃ t : Tr, e = .returned t.ptr ∧ TAt W' t ∧ t.list = L ∧ Kept (inB K) W W'
theorem dd_below (W : World) : Below W.heap.size W W.drew.drew := ⟨rfl, rfl, rfl, Nat.le_refl _, fun _ _ => rfl⟩
theorem Un.out {A B : List Nd} {x z : Nd} (un : Un (A ++ x :: B)) (h : z ∈ A ∨ z ∈ B) : ¬ z.b = x.b := by
  obtain ⟨u1, u2, u3⟩ := Un.app.1 un
  obtain ⟨u4, u5⟩ := Un.cons.1 u2
  rcases h with h | h
  · exact u3 z h x List.mem_cons_self
  · exact fun e => u4 z h e.symm
section
variable {W : World} {x : Nd} {s h : Int} {l r : Tr}
theorem settle_any (hx : x.at W s h l.ptr r.ptr) (hl : TAt W l) (hr : TAt W r) (un : Un (l.list ++ x :: r.list)) (bd : Bd (l.list ++ x :: r.list)) :
    Calls Try.prog 44 #[.pointer (some ⟨x.b, 0, none⟩)] W (TreeR (l.list ++ x :: r.list) (l.list ++ x :: r.list) W) := by
  have bl := l.hgt_le
  have br := r.hgt_le
  have bz := bd.1
  rw [List.length_append, List.length_cons] at bz
  have d1 := drew_below W
  have d2 := dd_below W
  obtain ⟨u1, u2, u3⟩ := Un.app.1 un
  obtain ⟨u4, u5⟩ := Un.cons.1 u2
  have a6 := Bk.cell hx 6 _ rfl
  have a7 := Bk.cell hx 7 _ rfl
  have xd := Nd.at.below hx d2
  have ld := hl.below d2
  have rd := hr.below d2
  have t1 := tall_any (hl.below d1)
  have t2 := tall_any (hr.below d1)
  by_cases e2 : ((l.hgt : Nat) : Int) - (r.hgt : Nat) = 2
  · cases l with
    | nil => exfalso; simp only [Tr.hgt] at e2; omega
    | node ll y lr =>
      obtain ⟨hy, hll, hlr⟩ := id hl
      obtain ⟨yd, lld, lrd⟩ := id ld
      obtain ⟨qr, hqr⟩ := r.ptr_form
      rw [hqr] at a7 t2
      have t3 := tall_any lld
      have t4 := tall_any lrd
      have c6 := Bk.cell hy 6 _ rfl
      have c7 := Bk.cell hy 7 _ rfl
      obtain ⟨q1, hq1⟩ := ll.ptr_form
      obtain ⟨q2, hq2⟩ := lr.ptr_form
      rw [hq1] at c6 t3
      rw [hq2] at c7 t4
      by_cases ab : ll.hgt < lr.hgt
      · cases lr with
        | nil => exfalso; simp only [Tr.hgt] at ab; omega
        | node a z b =>
          obtain ⟨zd, ad, bbd⟩ := lrd
          have eL : ll.list ++ y :: (a.list ++ z :: b.list) ++ x :: r.list = (Tr.node ll y (.node a z b)).list ++ x :: r.list := by simp [Tr.list]
          have eM : (Tr.node ll y a).list ++ z :: (b.list ++ x :: r.list) = (Tr.node ll y (.node a z b)).list ++ x :: r.list := by simp [Tr.list]
          have un' := un
          rw [← eL] at un'
          have bd' := bd
          rw [← eL] at bd'
          refine settle_2a (P2 := fun W' => TAt W' (.node (.node ll y a) z b) ∧ Kept (inB (ll.list ++ y :: (a.list ++ z :: b.list))) W.drew.drew W') a6 a7 c6 c7 t1 t2 t3 t4 (by omega) (by omega) (by omega) (by omega) (by rw [e2]; rfl) (by rw [decide_eq_true_iff]; omega)
            (turnLeft_any yd lld zd ad bbd (Un.app.1 un').1 (bd'.sub (List.sublist_append_left _ _))) ?_
          rintro W' ⟨t, k⟩
          have nx : ¬ inB (ll.list ++ y :: (a.list ++ z :: b.list)) x.b := fun ⟨w, hw, e⟩ => (Un.app.1 un').2.2 w hw x (by simp) e
          have x' := xd.kept k nx
          have r' := rd.kept k (fun w hw ⟨v, hv, e⟩ => (Un.app.1 un').2.2 v hv w (by simp [hw]) e)
          refine ⟨⟨_, Bk.cell x' 6 _ rfl⟩, Bk.fz x' 6, ?_⟩
          have ks := kept_set (F := fun z => z = x.b) W' x.b 6 (.pointer (some ⟨z.b, 0, none⟩)) rfl
          have nt : ∀ w ∈ (Tr.node (.node ll y a) z b).list, ¬ w.b = x.b := fun w hw => un.out (.inl (by simp [Tr.list] at hw ⊢; grind))
          have t' := t.kept ks nt
          obtain ⟨z2, t2', b2⟩ := id t'
          refine (turnRight_any (x := x) (y := z) (ll := .node ll y a) (lr := b) (r := r) (show x.at _ s h (Tr.node (.node ll y a) z b).ptr r.ptr from x'.left) (r'.kept ks (fun w hw => un.out (.inr hw))) z2 t2' b2 (by rw [eM]; exact un) (by rw [eM]; exact bd)).mono ?_
          rintro e W3 ⟨rfl, t3, k3⟩
          refine ⟨⟨.node (.node ll y a) z (.node b x r), rfl, t3, ?_, ?_⟩, _, rfl⟩
          · simp [Tr.list]
          · rw [eM] at k3
            refine (((Kept.of_below d2).trans (k.mono fun w hw => ?_) (fun _ _ h => h)).trans (ks.mono fun w hw => ?_) (fun _ _ h => h)).trans k3 (fun _ _ h => h)
            · exact inB_sub (fun v hv => by simp [Tr.list] at hv ⊢; grind) hw
            · exact ⟨x, by simp, hw.symm⟩
      · refine settle_2b a6 a7 c6 c7 t1 t2 t3 t4 (by omega) (by omega) (by omega) (by omega) (by rw [e2]; rfl) (by rw [decide_eq_false_iff_not]; omega) ?_
        have eM : ll.list ++ y :: (lr.list ++ x :: r.list) = (Tr.node ll y lr).list ++ x :: r.list := by simp [Tr.list]
        refine (turnRight_any xd rd yd lld lrd (by rw [eM]; exact un) (by rw [eM]; exact bd)).mono ?_
        rintro e W3 ⟨rfl, t3, k3⟩
        refine ⟨⟨.node ll y (.node lr x r), rfl, t3, ?_, ?_⟩, _, rfl⟩
        · simp [Tr.list]
        · rw [eM] at k3
          exact (Kept.of_below d2).trans k3 (fun _ _ h => h)
  · by_cases e3 : ((l.hgt : Nat) : Int) - (r.hgt : Nat) = -2
    · cases r with
      | nil => exfalso; simp only [Tr.hgt] at e3; omega
      | node rl y rr =>
        obtain ⟨hy, hrl, hrr⟩ := id hr
        obtain ⟨yd, rld, rrd⟩ := id rd
        obtain ⟨ql, hql⟩ := l.ptr_form
        rw [hql] at a6 t1
        have t3 := tall_any rrd
        have t4 := tall_any rld
        have c6 := Bk.cell hy 6 _ rfl
        have c7 := Bk.cell hy 7 _ rfl
        obtain ⟨q1, hq1⟩ := rr.ptr_form
        obtain ⟨q2, hq2⟩ := rl.ptr_form
        rw [hq1] at c7 t3
        rw [hq2] at c6 t4
        by_cases ab : rr.hgt < rl.hgt
        · cases rl with
          | nil => exfalso; simp only [Tr.hgt] at ab; omega
          | node a z b =>
            obtain ⟨zd, ad, bbd⟩ := rld
            have eM : l.list ++ x :: (a.list ++ z :: (Tr.node b y rr).list) = l.list ++ x :: (Tr.node (.node a z b) y rr).list := by simp [Tr.list]
            have eL : a.list ++ z :: (b.list ++ y :: rr.list) = (Tr.node (.node a z b) y rr).list := by simp [Tr.list]
            have u5' := u5
            rw [← eL] at u5'
            have bd' : Bd (a.list ++ z :: (b.list ++ y :: rr.list)) := by rw [eL]; exact bd.sub ((List.sublist_cons_self _ _).trans (List.sublist_append_right _ _))
            refine settle_3a (P2 := fun W' => TAt W' (.node a z (.node b y rr)) ∧ Kept (inB (a.list ++ z :: (b.list ++ y :: rr.list))) W.drew.drew W') a7 a6 c7 c6 t2 t1 t3 t4 (by omega) (by omega) (by omega) (by omega) (by simp only [beq_eq_false_iff_ne]; exact e2) (by rw [e3]; rfl) (by rw [decide_eq_true_iff]; omega)
              (turnRight_any yd rrd zd ad bbd u5' bd') ?_
            rintro W' ⟨t, k⟩
            have nx : ¬ inB (a.list ++ z :: (b.list ++ y :: rr.list)) x.b := fun ⟨w, hw, e⟩ => un.out (.inr (by rw [← eL]; exact hw)) e
            have x' := xd.kept k nx
            have l' := ld.kept k (fun w hw ⟨v, hv, e⟩ => u3 w hw v (by rw [← eL]; simp at hv ⊢; grind) e.symm)
            refine ⟨⟨_, Bk.cell x' 7 _ rfl⟩, Bk.fz x' 7, ?_⟩
            have ks := kept_set (F := fun z => z = x.b) W' x.b 7 (.pointer (some ⟨z.b, 0, none⟩)) rfl
            have nt : ∀ w ∈ (Tr.node a z (.node b y rr)).list, ¬ w.b = x.b := fun w hw => un.out (.inr (by simp [Tr.list] at hw ⊢; grind))
            have t' := t.kept ks nt
            obtain ⟨z2, a2, t2'⟩ := id t'
            refine (turnLeft_any (x := x) (y := z) (l := l) (rl := a) (rr := .node b y rr) (show x.at _ s h l.ptr (Tr.node a z (.node b y rr)).ptr from x'.right) (l'.kept ks (fun w hw => un.out (.inl hw))) z2 a2 t2' (by rw [eM]; exact un) (by rw [eM]; exact bd)).mono ?_
            rintro e W3 ⟨rfl, t3, k3⟩
            refine ⟨⟨.node (.node l x a) z (.node b y rr), rfl, t3, ?_, ?_⟩, _, rfl⟩
            · simp [Tr.list]
            · rw [eM] at k3
              refine (((Kept.of_below d2).trans (k.mono fun w hw => ?_) (fun _ _ h => h)).trans (ks.mono fun w hw => ?_) (fun _ _ h => h)).trans k3 (fun _ _ h => h)
              · exact inB_sub (fun v hv => by simp [Tr.list] at hv ⊢; grind) hw
              · exact ⟨x, by simp, hw.symm⟩
        · refine settle_3b a7 a6 c7 c6 t2 t1 t3 t4 (by omega) (by omega) (by omega) (by omega) (by simp only [beq_eq_false_iff_ne]; exact e2) (by rw [e3]; rfl) (by rw [decide_eq_false_iff_not]; omega) ?_
          refine (turnLeft_any xd ld yd rld rrd un bd).mono ?_
          rintro e W3 ⟨rfl, t3, k3⟩
          refine ⟨⟨.node (.node l x rl) y rr, rfl, t3, ?_, (Kept.of_below d2).trans k3 (fun _ _ h => h)⟩, _, rfl⟩
          simp [Tr.list]
    · obtain ⟨ql, hql⟩ := l.ptr_form
      obtain ⟨qr, hqr⟩ := r.ptr_form
      rw [hql] at a6 t1
      rw [hqr] at a7 t2
      refine settle_4 a6 a7 t1 t2 (by omega) (by omega) (by omega) (by omega) (by simp only [beq_eq_false_iff_ne]; exact e2) (by simp only [beq_eq_false_iff_ne]; exact e3) ?_
      refine (measure_any (Nd.at.below hx d1) (hl.below d1) (hr.below d1) un bd).mono ?_
      rintro e W3 ⟨rfl, t3, k3⟩
      refine ⟨rfl, .node l x r, rfl, t3, rfl, (Kept.of_below d1).trans (k3.mono fun w hw => ⟨x, by simp, hw.symm⟩) (fun _ _ h => h)⟩
end
end Go.Proofs.Ytnhllnepnpmegaa

/- The tree of pieces: the walks of join, link, pop. -/
namespace Go.Proofs.Ytnhllnepnpmegaa
open Go.ChangeShapes Go.WideShapes Go.ChangeAt Go.RowKit Go.Shelf Go.Proofs.Rx Go.Maps
set_option linter.unusedVariables false
set_option linter.unusedSimpArgs false

attribute [local go_sem] Oper.semAt_some

section
variable {W : World} {b c : Nat} {ql qr qd qz v1 v2 : Option Addr} {HL HR OW : Int} {P2 : World → Prop} {R3 : Ending → World → Prop}
theorem join_0 (a3 : W.cell? ⟨b, 3, none⟩ = some (.int .u64 0))
    (C : Calls Try.prog 42 #[.pointer ql, .pointer qr] W fun e W' => R3 e W' ∧ ∃ v, e = .returned v) :
    Calls Try.prog 40 #[.pointer ql, .pointer (some ⟨b, 0, none⟩), .pointer qr] W R3 := by
  have HC := hide C
  clear C
  go_enter Try.func40, Try.ntmps40
  go_wp2_with fail
  refine HC.out.mono ?_
  rintro e W3 ⟨r3, v3, rfl⟩
  go_wp2_with fail
  first | exact r3 | (go_ret; exact r3)
set_option maxRecDepth 100000 in
theorem join_1 (a3 : W.cell? ⟨b, 3, none⟩ = some (.int .u64 OW)) (o1 : (OW == 0) = false) (c7 : W.cell? ⟨c, 7, none⟩ = some (.pointer qd))
    (t1 : Calls Try.prog 43 #[.pointer (some ⟨c, 0, none⟩)] W fun e w => e = .returned (.int .i64 HL) ∧ w = W) (t2 : Calls Try.prog 43 #[.pointer qr] W fun e w => e = .returned (.int .i64 HR) ∧ w = W)
    (l0 : 0 ≤ HL) (l1 : HL < 2199023255552) (r0 : 0 ≤ HR) (r1 : HR < 2199023255552) (d1 : decide (HR + 1 < HL) = true)
    (C1 : Calls Try.prog 40 #[.pointer qd, .pointer (some ⟨b, 0, none⟩), .pointer qr] W fun e W' => ∃ qz, e = .returned (.pointer qz) ∧ (∃ v, W'.cell? ⟨c, 7, none⟩ = some v) ∧ W'.frozen? ⟨c, 7, none⟩ = false ∧ Calls Try.prog 44 #[.pointer (some ⟨c, 0, none⟩)] (W'.setCell ⟨c, 7, none⟩ (.pointer qz)) fun e W'' => R3 e W'' ∧ ∃ v, e = .returned v) :
    Calls Try.prog 40 #[.pointer (some ⟨c, 0, none⟩), .pointer (some ⟨b, 0, none⟩), .pointer qr] W R3 := by
  have HC := hide C1
  have T1 := hide t1
  have T2 := hide t2
  clear C1 t1 t2
  go_enter Try.func40, Try.ntmps40
  go_wp2_with fail
  refine T1.out.mono ?_
  rintro e w ⟨rfl, hw⟩; rw [hw]; clear hw w
  go_wp2_with fail
  refine T2.out.mono ?_
  rintro e w ⟨rfl, hw⟩; rw [hw]; clear hw w
  go_wp2_with fail
  refine HC.out.mono ?_
  rintro e W2 ⟨qz, rfl, ⟨v, hv⟩, hf, C3⟩
  have HC3 := hide C3
  clear C3 HC T1 T2
  go_wp2_with fail
  refine HC3.out.mono ?_
  rintro e W3 ⟨r3, v3, rfl⟩
  go_wp2_with fail
  first | exact r3 | (go_ret; exact r3)
set_option maxRecDepth 100000 in
theorem join_2 (a3 : W.cell? ⟨b, 3, none⟩ = some (.int .u64 OW)) (o1 : (OW == 0) = false) (c6 : W.cell? ⟨c, 6, none⟩ = some (.pointer qd))
    (t1 : Calls Try.prog 43 #[.pointer ql] W fun e w => e = .returned (.int .i64 HL) ∧ w = W) (t2 : Calls Try.prog 43 #[.pointer (some ⟨c, 0, none⟩)] W fun e w => e = .returned (.int .i64 HR) ∧ w = W)
    (l0 : 0 ≤ HL) (l1 : HL < 2199023255552) (r0 : 0 ≤ HR) (r1 : HR < 2199023255552) (d1 : decide (HR + 1 < HL) = false) (d2 : decide (HL + 1 < HR) = true)
    (C1 : Calls Try.prog 40 #[.pointer ql, .pointer (some ⟨b, 0, none⟩), .pointer qd] W fun e W' => ∃ qz, e = .returned (.pointer qz) ∧ (∃ v, W'.cell? ⟨c, 6, none⟩ = some v) ∧ W'.frozen? ⟨c, 6, none⟩ = false ∧ Calls Try.prog 44 #[.pointer (some ⟨c, 0, none⟩)] (W'.setCell ⟨c, 6, none⟩ (.pointer qz)) fun e W'' => R3 e W'' ∧ ∃ v, e = .returned v) :
    Calls Try.prog 40 #[.pointer ql, .pointer (some ⟨b, 0, none⟩), .pointer (some ⟨c, 0, none⟩)] W R3 := by
  have HC := hide C1
  have T1 := hide t1
  have T2 := hide t2
  clear C1 t1 t2
  go_enter Try.func40, Try.ntmps40
  go_wp2_with fail
  refine T1.out.mono ?_
  rintro e w ⟨rfl, hw⟩; rw [hw]; clear hw w
  go_wp2_with fail
  refine T2.out.mono ?_
  rintro e w ⟨rfl, hw⟩; rw [hw]; clear hw w
  go_wp2_with fail
  refine T2.out.mono ?_
  rintro e w ⟨rfl, hw⟩; rw [hw]; clear hw w
  go_wp2_with fail
  refine T1.out.mono ?_
  rintro e w ⟨rfl, hw⟩; rw [hw]; clear hw w
  go_wp2_with fail
  refine HC.out.mono ?_
  rintro e W2 ⟨qz, rfl, ⟨v, hv⟩, hf, C3⟩
  have HC3 := hide C3
  clear C3 HC T1 T2
  go_wp2_with fail
  refine HC3.out.mono ?_
  rintro e W3 ⟨r3, v3, rfl⟩
  go_wp2_with fail
  first | exact r3 | (go_ret; exact r3)
set_option maxRecDepth 100000 in
theorem join_3 {z6 z7 : Value} (a3 : W.cell? ⟨b, 3, none⟩ = some (.int .u64 OW)) (o1 : (OW == 0) = false) (a6 : W.cell? ⟨b, 6, none⟩ = some z6) (f6 : W.frozen? ⟨b, 6, none⟩ = false) (a7 : (W.setCell ⟨b, 6, none⟩ (.pointer ql)).cell? ⟨b, 7, none⟩ = some z7) (f7 : (W.setCell ⟨b, 6, none⟩ (.pointer ql)).frozen? ⟨b, 7, none⟩ = false)
    (t1 : Calls Try.prog 43 #[.pointer ql] W fun e w => e = .returned (.int .i64 HL) ∧ w = W) (t2 : Calls Try.prog 43 #[.pointer qr] W fun e w => e = .returned (.int .i64 HR) ∧ w = W)
    (l0 : 0 ≤ HL) (l1 : HL < 2199023255552) (r0 : 0 ≤ HR) (r1 : HR < 2199023255552) (d1 : decide (HR + 1 < HL) = false) (d2 : decide (HL + 1 < HR) = false)
    (C1 : Calls Try.prog 44 #[.pointer (some ⟨b, 0, none⟩)] ((W.setCell ⟨b, 6, none⟩ (.pointer ql)).setCell ⟨b, 7, none⟩ (.pointer qr)) fun e W'' => R3 e W'' ∧ ∃ v, e = .returned v) :
    Calls Try.prog 40 #[.pointer ql, .pointer (some ⟨b, 0, none⟩), .pointer qr] W R3 := by
  have HC := hide C1
  have T1 := hide t1
  have T2 := hide t2
  clear C1 t1 t2
  go_enter Try.func40, Try.ntmps40
  go_wp2_with fail
  refine T1.out.mono ?_
  rintro e w ⟨rfl, hw⟩; rw [hw]; clear hw w
  go_wp2_with fail
  refine T2.out.mono ?_
  rintro e w ⟨rfl, hw⟩; rw [hw]; clear hw w
  go_wp2_with fail
  refine T2.out.mono ?_
  rintro e w ⟨rfl, hw⟩; rw [hw]; clear hw w
  go_wp2_with fail
  refine T1.out.mono ?_
  rintro e w ⟨rfl, hw⟩; rw [hw]; clear hw w
  go_wp2_with fail
  refine HC.out.mono ?_
  rintro e W3 ⟨r3, v3, rfl⟩
  go_wp2_with fail
  first | exact r3 | (go_ret; exact r3)
theorem link_0 : Calls Try.prog 42 #[.pointer ql, .pointer none] W fun e W' => e = .returned (.pointer ql) ∧ W' = W := by
  go_enter Try.func42, Try.ntmps42
  go_wp2_with fail
  go_ret
  exact ⟨rfl, rfl⟩
theorem link_1 (C1 : Calls Try.prog 45 #[.pointer (some ⟨c, 0, none⟩)] W fun e W' => ∃ q1 q2, e = .returned (.tuple #[.pointer q1, .pointer q2]) ∧ Calls Try.prog 40 #[.pointer ql, .pointer q1, .pointer q2] W' fun e W'' => R3 e W'' ∧ ∃ v, e = .returned v) :
    Calls Try.prog 42 #[.pointer ql, .pointer (some ⟨c, 0, none⟩)] W R3 := by
  have HC := hide C1
  clear C1
  go_enter Try.func42, Try.ntmps42
  go_wp2_with fail
  refine HC.out.mono ?_
  rintro e W2 ⟨q1, q2, rfl, C3⟩
  have HC3 := hide C3
  clear C3 HC
  go_wp2_with fail
  refine HC3.out.mono ?_
  rintro e W3 ⟨r3, v3, rfl⟩
  go_wp2_with fail
  first | exact r3 | (go_ret; exact r3)
theorem pop_0 (a6 : W.cell? ⟨b, 6, none⟩ = some (.pointer none)) (a7 : W.cell? ⟨b, 7, none⟩ = some (.pointer qr)) :
    Calls Try.prog 45 #[.pointer (some ⟨b, 0, none⟩)] W fun e W' => e = .returned (.tuple #[.pointer (some ⟨b, 0, none⟩), .pointer qr]) ∧ W' = W.drew := by
  go_enter Try.func45, Try.ntmps45
  go_wp2_with fail
  refine still_all (by kernel_rfl) (by kernel_rfl) ?_
  repeat still_step
  refine wpStill_nil ?_
  go_wp2_with fail
  go_ret2
  exact ⟨rfl, rfl⟩
theorem pop_1 (a6 : W.cell? ⟨b, 6, none⟩ = some (.pointer (some ⟨c, 0, none⟩)))
    (C1 : Calls Try.prog 45 #[.pointer (some ⟨c, 0, none⟩)] W fun e W' => ∃ q1 q2, e = .returned (.tuple #[.pointer q1, .pointer q2]) ∧ ∃ qd, W'.cell? ⟨b, 7, none⟩ = some (.pointer qd) ∧ Calls Try.prog 40 #[.pointer q2, .pointer (some ⟨b, 0, none⟩), .pointer qd] W' fun e W'' => ∃ v, e = .returned v ∧ R3 (.returned (.tuple #[.pointer q1, v])) W'') :
    Calls Try.prog 45 #[.pointer (some ⟨b, 0, none⟩)] W R3 := by
  have HC := hide C1
  clear C1
  go_enter Try.func45, Try.ntmps45
  go_wp2_with fail
  refine HC.out.mono ?_
  rintro e W2 ⟨q1, q2, rfl, qd, hd, C3⟩
  have HC3 := hide C3
  clear C3 HC
  go_wp2_with fail
  refine HC3.out.mono ?_
  rintro e W3 ⟨v3, rfl, r3⟩
  go_wp2_with fail
  first | exact r3 | (go_ret2; exact r3)
end
end Go.Proofs.Ytnhllnepnpmegaa

/- The tree of pieces: join, link, pop: contracts. -/
namespace Go.Proofs.Ytnhllnepnpmegaa
open Go.ChangeShapes Go.WideShapes Go.ChangeAt Go.RowKit Go.Shelf Go.Proofs.Rx Go.Maps
set_option linter.unusedVariables false
set_option linter.unusedSimpArgs false

def Pos (L : List Nd) : Prop := ∀ x ∈ L, x.own ≠ 0
def keep (x : Nd) : List Nd := if x.own = 0 then [] else [x]
theorem keep_sub (x : Nd) : (keep x).Sublist [x] := by
  unfold keep
  split
  · exact List.nil_sublist _
  · exact List.Sublist.refl _
theorem treeR_v {L K : List Nd} {W W' : World} {e : Ending} (h : TreeR L K W e W') : TreeR L K W e W' ∧ ∃ v, e = .returned v := by
  obtain ⟨t, rfl, r⟩ := h
  exact ⟨⟨t, rfl, r⟩, _, rfl⟩
theorem TreeR.from {L K K0 M : List Nd} {W W1 W' : World} {e : Ending} (h : TreeR L K W1 e W') (k : Kept (inB K0) W W1) (s0 : ∀ x ∈ K0, x ∈ M) (s1 : ∀ x ∈ K, x ∈ M) : TreeR L M W e W' := by
  obtain ⟨t, e1, e2, e3, e4⟩ := h
  exact ⟨t, e1, e2, e3, (k.mono fun z hz => inB_sub s0 hz).trans (e4.mono fun z hz => inB_sub s1 hz) (fun _ _ h => h)⟩
theorem TreeR.as {L L' K M : List Nd} {W W' : World} {e : Ending} (h : TreeR L K W e W') (eL : L = L') (s1 : ∀ x ∈ K, x ∈ M) : TreeR L' M W e W' := by
  obtain ⟨t, e1, e2, e3, e4⟩ := h
  exact ⟨t, e1, e2, by rw [e3, eL], e4.mono fun z hz => inB_sub s1 hz⟩
def PopR (t : Tr) (W : World) (e : Ending) (W' : World) : Prop := ∃ y t' s h a c, t.list = y :: t'.list ∧ e = .returned (.tuple #[.pointer (some ⟨y.b, 0, none⟩), t'.ptr]) ∧ TAt W' t' ∧ y.at W' s h a c ∧ Kept (inB t.list) W W'
def JoinS (n : Nat) : Prop := ∀ (W : World) (x : Nd) (s h : Int) (a c : Value) (l r : Tr), l.list.length + r.list.length ≤ n → x.at W s h a c → TAt W l → TAt W r → Un (l.list ++ x :: r.list) → Bd (l.list ++ x :: r.list) → Pos l.list → Pos r.list →
  Calls Try.prog 40 #[l.ptr, .pointer (some ⟨x.b, 0, none⟩), r.ptr] W (TreeR (l.list ++ keep x ++ r.list) (l.list ++ x :: r.list) W)
def LinkS (n : Nat) : Prop := ∀ (W : World) (l r : Tr), l.list.length + r.list.length ≤ n → TAt W l → TAt W r → Un (l.list ++ r.list) → Bd (l.list ++ r.list) → Pos l.list → Pos r.list →
  Calls Try.prog 42 #[l.ptr, r.ptr] W (TreeR (l.list ++ r.list) (l.list ++ r.list) W)
def PopS (n : Nat) : Prop := ∀ (W : World) (l : Tr) (x : Nd) (r : Tr), (Tr.node l x r).list.length ≤ n → TAt W (.node l x r) → Un (Tr.node l x r).list → Bd (Tr.node l x r).list → Pos (Tr.node l x r).list →
  Calls Try.prog 45 #[.pointer (some ⟨x.b, 0, none⟩)] W (PopR (.node l x r) W)
theorem pop_step (n : Nat) (IP : ∀ m, m < n → PopS m) (IJ : ∀ m, m < n → JoinS m) : PopS n := by
  intro W l x r hn hT un bd ps
  obtain ⟨hx, hl, hr⟩ := id hT
  have a6 := Bk.cell hx 6 _ rfl
  have a7 := Bk.cell hx 7 _ rfl
  cases l with
  | nil =>
    obtain ⟨qr, hq⟩ := r.ptr_form
    rw [hq] at a7
    refine (pop_0 a6 a7).mono ?_
    rintro e W' ⟨rfl, rfl⟩
    exact ⟨x, r, _, _, _, _, by simp [Tr.list], by rw [hq], hr.below (drew_below W), Nd.at.below hx (drew_below W), Kept.of_below (drew_below W)⟩
  | node l1 y l2 =>
    have hlen : (Tr.node l1 y l2).list.length + 1 + r.list.length ≤ n := by rw [Tr.list, List.length_append, List.length_cons] at hn; omega
    have unL : Un (Tr.node l1 y l2).list := (Un.app.1 un).1
    refine pop_1 a6 (((IP _ (show (Tr.node l1 y l2).list.length < n by omega)) W l1 y l2 (Nat.le_refl _) hl unL (bd.sub (List.sublist_append_left _ _)) (fun z hz => ps z (List.mem_append_left _ hz))).mono ?_)
    rintro e W' ⟨y', t', s, h, a, c, eL, rfl, tt, yy, k⟩
    obtain ⟨q2, hq2⟩ := t'.ptr_form
    obtain ⟨qd, hqd⟩ := r.ptr_form
    have un' : Un (y' :: (t'.list ++ x :: r.list)) := by have := un; rw [Tr.list, eL] at this; exact this
    have bd' : Bd (y' :: (t'.list ++ x :: r.list)) := by have := bd; rw [Tr.list, eL] at this; exact this
    have x' := Nd.at.kept hx k (fun ⟨w, hw, e⟩ => un.out (.inl hw) e)
    have r' := hr.kept k (fun w hw ⟨v, hv, e⟩ => (Un.app.1 un).2.2 v hv w (by simp [hw]) e)
    refine ⟨_, q2, by rw [hq2], qd, ?_, ?_⟩
    · have := Bk.cell x' 7 _ rfl
      rwa [hqd] at this
    have ll : (Tr.node l1 y l2).list.length = t'.list.length + 1 := by rw [eL, List.length_cons]
    have ox : x.own ≠ 0 := ps x (by simp [Tr.list])
    rw [← hq2, ← hqd]
    refine ((IJ (t'.list.length + r.list.length) (by omega)) W' x _ _ _ _ t' r (Nat.le_refl _) x' tt r' (Un.cons.1 un').2 (bd'.sub (List.sublist_cons_self _ _)) (fun z hz => ps z (by rw [Tr.list, eL]; simp [hz])) (fun z hz => ps z (by simp [Tr.list, hz]))).mono ?_
    rintro e W2 ⟨t2, rfl, tt2, e2, k2⟩
    refine ⟨_, rfl, y', t2, s, h, a, c, ?_, rfl, tt2, yy.kept k2 (fun ⟨w, hw, e⟩ => (Un.cons.1 un').1 w hw e.symm), (k.mono fun z hz => ?_).trans (k2.mono fun z hz => ?_) (fun _ _ h => h)⟩
    · rw [e2, Tr.list, eL, keep, if_neg ox]; simp
    · exact inB_sub (fun w hw => by rw [Tr.list]; exact List.mem_append_left _ hw) hz
    · exact inB_sub (fun w hw => by rw [Tr.list, eL]; exact List.mem_cons_of_mem _ hw) hz
theorem link_step (n : Nat) (IP : PopS n) (IJ : ∀ m, m < n → JoinS m) : LinkS n := by
  intro W l r hn hl hr un bd p1 p2
  obtain ⟨ql, hq⟩ := l.ptr_form
  cases r with
  | nil =>
    rw [hq]
    refine (link_0 (ql := ql)).mono ?_
    rintro e W' ⟨rfl, rfl⟩
    exact ⟨l, by rw [hq], hl, by simp [Tr.list], Kept.refl _ _⟩
  | node r1 y r2 =>
    rw [hq]
    show Calls Try.prog _ #[.pointer ql, .pointer (some ⟨y.b, 0, none⟩)] W _
    refine link_1 ((IP W r1 y r2 (by omega) hr (Un.app.1 un).2.1 (bd.sub (List.sublist_append_right _ _)) p2).mono ?_)
    rintro e W' ⟨y', t', s, h, a, c, eL, rfl, tt, yy, k⟩
    obtain ⟨q2, hq2⟩ := t'.ptr_form
    refine ⟨_, q2, by rw [hq2], ?_⟩
    rw [← hq, ← hq2]
    have un' : Un (l.list ++ y' :: t'.list) := by rw [← eL]; exact un
    have bd' : Bd (l.list ++ y' :: t'.list) := by rw [← eL]; exact bd
    have ll : (Tr.node r1 y r2).list.length = t'.list.length + 1 := by rw [eL, List.length_cons]
    have oy : y'.own ≠ 0 := p2 y' (by rw [eL]; simp)
    refine ((IJ (l.list.length + t'.list.length) (by omega)) W' y' _ _ _ _ l t' (Nat.le_refl _) yy (hl.kept k (fun w hw ⟨v, hv, e⟩ => (Un.app.1 un).2.2 w hw v hv e.symm)) tt un' bd' p1 (fun z hz => p2 z (by rw [eL]; simp [hz]))).mono ?_
    intro e W2 h2
    refine treeR_v ((h2.as ?_ (M := l.list ++ (Tr.node r1 y r2).list) (fun z hz => by rw [eL]; exact hz)).from k (fun z hz => List.mem_append_right _ hz) (fun z hz => hz))
    rw [eL, keep, if_neg oy]; simp
theorem join_step (n : Nat) (IL : LinkS n) (IJ : ∀ m, m < n → JoinS m) : JoinS n := by
  intro W x s h a c l r hn hx hl hr un bd p1 p2
  obtain ⟨ql, hql⟩ := l.ptr_form
  obtain ⟨qr, hqr⟩ := r.ptr_form
  have a3 : W.cell? ⟨x.b, 3, none⟩ = some (.int .u64 (x.own : Nat)) := Bk.cell hx 3 _ rfl
  have bl := l.hgt_le
  have br := r.hgt_le
  have bz := bd.1
  rw [List.length_append, List.length_cons] at bz
  by_cases o0 : x.own = 0
  · rw [o0] at a3
    rw [hql, hqr]
    refine join_0 a3 ?_
    rw [← hql, ← hqr]
    have sb : (l.list ++ r.list).Sublist (l.list ++ x :: r.list) := (List.Sublist.refl _).append (List.sublist_cons_self _ _)
    refine (IL W l r hn hl hr (un.sub sb) (bd.sub sb) p1 p2).mono ?_
    intro e W2 h2
    exact treeR_v (h2.as (by rw [keep, if_pos o0]; simp) (fun z hz => sb.subset hz))
  have o1 : (((x.own : Nat) : Int) == 0) = false := by rw [beq_eq_false_iff_ne]; omega
  have t1 := tall_any hl
  have t2 := tall_any hr
  by_cases c1 : r.hgt + 1 < l.hgt
  · cases l with
    | nil => exfalso; simp only [Tr.hgt] at c1; omega
    | node ll y lr =>
      obtain ⟨hy, hll, hlr⟩ := id hl
      obtain ⟨qd, hqd⟩ := lr.ptr_form
      have c7 := Bk.cell hy 7 _ rfl
      rw [hqd] at c7
      rw [hqr] at t2
      have hlen : ll.list.length + 1 + lr.list.length + r.list.length ≤ n := by rw [Tr.list, List.length_append, List.length_cons] at hn; omega
      rw [hqr]
      refine join_1 a3 o1 c7 t1 t2 (by omega) (by omega) (by omega) (by omega) (by rw [decide_eq_true_iff]; omega) ?_
      rw [← hqd, ← hqr]
      have eA : (Tr.node ll y lr).list ++ x :: r.list = ll.list ++ y :: (lr.list ++ x :: r.list) := by simp [Tr.list]
      have unA := un
      rw [eA] at unA
      have bdA := bd
      rw [eA] at bdA
      have sb1 : (lr.list ++ x :: r.list).Sublist (ll.list ++ y :: (lr.list ++ x :: r.list)) := (List.sublist_cons_self _ _).trans (List.sublist_append_right _ _)
      refine ((IJ (lr.list.length + r.list.length) (by omega)) W x s h a c lr r (Nat.le_refl _) hx hlr hr (unA.sub sb1) (bdA.sub sb1) (fun z hz => p1 z (by simp [Tr.list, hz])) p2).mono ?_
      rintro e W' ⟨t, rfl, tt, et, k⟩
      obtain ⟨qz, hqz⟩ := t.ptr_form
      have y' := Nd.at.kept hy k (fun ⟨w, hw, e⟩ => unA.out (.inr hw) e)
      have ll' := hll.kept k (fun w hw ⟨v, hv, e⟩ => (Un.app.1 unA).2.2 w hw v (by simp at hv ⊢; grind) e.symm)
      refine ⟨qz, by rw [hqz], ⟨_, Bk.cell y' 7 _ rfl⟩, Bk.fz y' 7, ?_⟩
      have ks := kept_set (F := fun z => z = y.b) W' y.b 7 (.pointer qz) rfl
      have sb2 : (ll.list ++ y :: t.list).Sublist (ll.list ++ y :: (lr.list ++ x :: r.list)) := by
        rw [et, keep, if_neg o0]
        simp
      refine (settle_any (x := y) (l := ll) (r := t) (by rw [hqz]; exact y'.right) (ll'.kept ks (fun w hw => unA.out (.inl hw))) (tt.kept ks (fun w hw => unA.out (.inr (by rw [et, keep, if_neg o0] at hw; simp at hw ⊢; grind)))) (unA.sub sb2) (bdA.sub sb2)).mono ?_
      intro e W2 h2
      refine treeR_v (((h2.as ?_ (M := (Tr.node ll y lr).list ++ x :: r.list) (fun z hz => by rw [eA]; exact sb2.subset hz)).from (K0 := [y]) (ks.mono fun z hz => ⟨y, by simp, hz.symm⟩) (fun z hz => by rw [eA]; simp at hz; simp [hz]) (fun z hz => hz)).from k (fun z hz => by rw [eA]; exact sb1.subset hz) (fun z hz => hz))
      rw [et, Tr.list]; simp
  by_cases c2 : l.hgt + 1 < r.hgt
  · cases r with
    | nil => exfalso; simp only [Tr.hgt] at c2; omega
    | node rl y rr =>
      obtain ⟨hy, hrl, hrr⟩ := id hr
      obtain ⟨qd, hqd⟩ := rl.ptr_form
      have c6 := Bk.cell hy 6 _ rfl
      rw [hqd] at c6
      rw [hql] at t1
      have hlen : l.list.length + 1 + rl.list.length + rr.list.length ≤ n := by rw [Tr.list, List.length_append, List.length_cons] at hn; omega
      rw [hql]
      refine join_2 a3 o1 c6 t1 t2 (by omega) (by omega) (by omega) (by omega) (by rw [decide_eq_false_iff_not]; omega) (by rw [decide_eq_true_iff]; omega) ?_
      rw [← hqd, ← hql]
      have eA : l.list ++ x :: (Tr.node rl y rr).list = (l.list ++ x :: rl.list) ++ y :: rr.list := by simp [Tr.list]
      have unA := un
      rw [eA] at unA
      have bdA := bd
      rw [eA] at bdA
      have sb1 : (l.list ++ x :: rl.list).Sublist ((l.list ++ x :: rl.list) ++ y :: rr.list) := List.sublist_append_left _ _
      refine ((IJ (l.list.length + rl.list.length) (by omega)) W x s h a c l rl (Nat.le_refl _) hx hl hrl (unA.sub sb1) (bdA.sub sb1) p1 (fun z hz => p2 z (by simp [Tr.list, hz]))).mono ?_
      rintro e W' ⟨t, rfl, tt, et, k⟩
      obtain ⟨qz, hqz⟩ := t.ptr_form
      have y' := Nd.at.kept hy k (fun ⟨w, hw, e⟩ => unA.out (.inl hw) e)
      have rr' := hrr.kept k (fun w hw ⟨v, hv, e⟩ => (Un.app.1 unA).2.2 v hv w (by simp [hw]) e)
      refine ⟨qz, by rw [hqz], ⟨_, Bk.cell y' 6 _ rfl⟩, Bk.fz y' 6, ?_⟩
      have ks := kept_set (F := fun z => z = y.b) W' y.b 6 (.pointer qz) rfl
      have sb2 : (t.list ++ y :: rr.list).Sublist ((l.list ++ x :: rl.list) ++ y :: rr.list) := by
        rw [et, keep, if_neg o0]
        simp
      refine (settle_any (x := y) (l := t) (r := rr) (by rw [hqz]; exact y'.left) (tt.kept ks (fun w hw => unA.out (.inl (by rw [et, keep, if_neg o0] at hw; simp at hw ⊢; grind)))) (rr'.kept ks (fun w hw => unA.out (.inr hw))) (unA.sub sb2) (bdA.sub sb2)).mono ?_
      intro e W2 h2
      refine treeR_v (((h2.as ?_ (M := l.list ++ x :: (Tr.node rl y rr).list) (fun z hz => by rw [eA]; exact sb2.subset hz)).from (K0 := [y]) (ks.mono fun z hz => ⟨y, by simp, hz.symm⟩) (fun z hz => by rw [eA]; simp at hz; simp [hz]) (fun z hz => hz)).from k (fun z hz => by rw [eA]; exact sb1.subset hz) (fun z hz => hz))
      rw [et, Tr.list]; simp
  · rw [hql] at t1
    rw [hqr] at t2
    rw [hql, hqr]
    have x1 := Nd.at.left (v := .pointer ql) hx
    refine join_3 a3 o1 (Bk.cell hx 6 _ rfl) (Bk.fz hx 6) (Bk.cell x1 7 _ rfl) (Bk.fz x1 7) t1 t2 (by omega) (by omega) (by omega) (by omega) (by rw [decide_eq_false_iff_not]; omega) (by rw [decide_eq_false_iff_not]; omega) ?_
    have x2 := Nd.at.right (v := .pointer qr) x1
    have ks : Kept (fun z => z = x.b) W ((W.setCell ⟨x.b, 6, none⟩ (.pointer ql)).setCell ⟨x.b, 7, none⟩ (.pointer qr)) := (kept_set (F := fun z => z = x.b) _ x.b 6 _ rfl).trans (kept_set (F := fun z => z = x.b) _ x.b 7 _ rfl) (fun _ _ h => h)
    refine (settle_any (x := x) (l := l) (r := r) (by rw [hql, hqr]; exact x2) (hl.kept ks (fun w hw => un.out (.inl hw))) (hr.kept ks (fun w hw => un.out (.inr hw))) un bd).mono ?_
    intro e W2 h2
    refine treeR_v ((h2.as (by rw [keep, if_neg o0]; simp) (fun z hz => hz)).from (K0 := [x]) (ks.mono fun z hz => ⟨x, by simp, hz.symm⟩) (fun z hz => by simp at hz; simp [hz]) (fun z hz => hz))
theorem all_steps : ∀ n, JoinS n ∧ LinkS n ∧ PopS n := by
  intro n
  induction n using Nat.strongRecOn with
  | _ n ih =>
    have p := pop_step n (fun m hm => (ih m hm).2.2) (fun m hm => (ih m hm).1)
    have l := link_step n p (fun m hm => (ih m hm).1)
    exact ⟨join_step n l (fun m hm => (ih m hm).1), l, p⟩
/-- join. -/
theorem join_any {W : World} {x : Nd} {s h : Int} {a c : Value} {l r : Tr} (hx : x.at W s h a c) (hl : TAt W l) (hr : TAt W r) (un : Un (l.list ++ x :: r.list)) (bd : Bd (l.list ++ x :: r.list)) (p1 : Pos l.list) (p2 : Pos r.list) :
    Calls Try.prog 40 #[l.ptr, .pointer (some ⟨x.b, 0, none⟩), r.ptr] W (TreeR (l.list ++ keep x ++ r.list) (l.list ++ x :: r.list) W) := (all_steps _).1 W x s h a c l r (Nat.le_refl _) hx hl hr un bd p1 p2
end Go.Proofs.Ytnhllnepnpmegaa
