/- The tree of pieces: turnRight; settle's walks. -/
import Derived.Test.YtnhllnepnpmegaaTs
namespace Go.Proofs.Ytnhllnepnpmegaa
open Go.ChangeShapes Go.WideShapes Go.ChangeAt Go.RowKit Go.Shelf Go.Proofs.Rx Go.Maps
set_option linter.unusedVariables false
set_option linter.unusedSimpArgs false

attribute [local go_sem] Oper.semAt_some

section
variable {W : World} {x y : Nd} {s h s' h' : Int} {r ll lr : Tr}
theorem turnRight_any (hx : x.at W s h (Tr.node ll y lr).ptr r.ptr) (hr : TAt W r) (hy : y.at W s' h' ll.ptr lr.ptr) (h1 : TAt W ll) (h2 : TAt W lr) (un : Un (ll.list ++ y :: (lr.list ++ x :: r.list))) (bd : Bd (ll.list ++ y :: (lr.list ++ x :: r.list))) :
    Calls Try.prog 47 #[.pointer (some ⟨x.b, 0, none⟩)] W fun e W' => e = .returned (.pointer (some ⟨y.b, 0, none⟩)) ∧ TAt W' (.node ll y (.node lr x r)) ∧ Kept (inB (ll.list ++ y :: (lr.list ++ x :: r.list))) W W' := by
  obtain ⟨u1, u2, u3⟩ := Un.app.1 un
  obtain ⟨u4, u5⟩ := Un.cons.1 u2
  obtain ⟨u6, u7, u8⟩ := Un.app.1 u5
  obtain ⟨u9, u10⟩ := Un.cons.1 u7
  have ne : y.b ≠ x.b := u4 x (by simp)
  obtain ⟨W1, hW1⟩ : ∃ W1, (W.setCell ⟨x.b, 6, none⟩ lr.ptr).setCell ⟨y.b, 7, none⟩ (.pointer (some ⟨x.b, 0, none⟩)) = W1 := ⟨_, rfl⟩
  have k1 : Kept (fun z => z = x.b ∨ z = y.b) W W1 := by
    rw [← hW1]
    exact (kept_set (F := fun z => z = x.b ∨ z = y.b) _ x.b 6 _ (.inl rfl)).trans (kept_set (F := fun z => z = x.b ∨ z = y.b) _ y.b 7 _ (.inr rfl)) (fun _ _ h => h)
  have x1 : x.at W1 s h lr.ptr r.ptr := by rw [← hW1]; exact Bk.other hx.left ne.symm 7 _
  have y1 : y.at W1 s' h' ll.ptr (Tr.node lr x r).ptr := by rw [← hW1]; exact Nd.at.right (Bk.other hy ne 6 _)
  have l1 : TAt W1 ll := h1.kept k1 (fun z hz e => by
    rcases e with e | e
    · exact u3 z hz x (by simp) e
    · exact u3 z hz y (by simp) e)
  have r1 : TAt W1 lr := h2.kept k1 (fun z hz e => by
    rcases e with e | e
    · exact u8 z hz x (by simp) e
    · exact u4 z (by simp [hz]) e.symm)
  have rr1 : TAt W1 r := hr.kept k1 (fun z hz e => by
    rcases e with e | e
    · exact u9 z hz e.symm
    · exact u4 z (by simp [hz]) e.symm)
  have un1 : Un (lr.list ++ x :: r.list) := u5
  have bd1 : Bd (lr.list ++ x :: r.list) := bd.sub ((List.sublist_cons_self _ _).trans (List.sublist_append_right _ _))
  have C1 := measure_any x1 r1 rr1 un1 bd1
  have C2 : ∀ W2, (TAt W2 (.node lr x r) ∧ Kept (fun z => z = x.b) W1 W2) → Calls Try.prog 48 #[.pointer (some ⟨y.b, 0, none⟩)] W2 fun e W' => e = .returned (.tuple #[]) ∧ TAt W' (.node ll y (.node lr x r)) ∧ Kept (inB (ll.list ++ y :: (lr.list ++ x :: r.list))) W W' := fun W2 ⟨t2, k2⟩ => by
    refine (measure_any (l := ll) (r := .node lr x r) (y1.kept k2 ne) (l1.kept k2 (fun z hz e => u3 z hz x (by simp) e)) t2 un bd).mono ?_
    rintro e W3 ⟨rfl, t3, k3⟩
    refine ⟨rfl, t3, ?_⟩
    have i1 : inB (ll.list ++ y :: (lr.list ++ x :: r.list)) x.b := ⟨x, by simp, rfl⟩
    have i2 : inB (ll.list ++ y :: (lr.list ++ x :: r.list)) y.b := ⟨y, by simp, rfl⟩
    refine ((k1.mono (fun z hz => ?_)).trans k2 (fun z _ hz => ?_)).trans k3 (fun z _ hz => ?_)
    · rcases hz with rfl | rfl
      · exact i1
      · exact i2
    · rw [hz]; exact i1
    · rw [hz]; exact i2
  have a7 : W.cell? ⟨x.b, 6, none⟩ = some (.pointer (some ⟨y.b, 0, none⟩)) := Bk.cell hx 6 _ rfl
  have b6 : W.cell? ⟨y.b, 7, none⟩ = some lr.ptr := Bk.cell hy 7 _ rfl
  have f7 : W.frozen? ⟨x.b, 6, none⟩ = false := Bk.fz hx 6
  have g6 : (W.setCell ⟨x.b, 6, none⟩ lr.ptr).frozen? ⟨y.b, 7, none⟩ = false := Bk.fz (Bk.other hy ne 6 _) 7
  have b6' : (W.setCell ⟨x.b, 6, none⟩ lr.ptr).cell? ⟨y.b, 7, none⟩ = some lr.ptr := Bk.cell (Bk.other hy ne 6 _) 7 _ rfl
  obtain ⟨P2, hP2⟩ : ∃ P : World → Prop, (fun W2 => TAt W2 (.node lr x r) ∧ Kept (fun z => z = x.b) W1 W2) = P := ⟨_, rfl⟩
  obtain ⟨P3, hP3⟩ : ∃ P : World → Prop, (fun W' => TAt W' (.node ll y (.node lr x r)) ∧ Kept (inB (ll.list ++ y :: (lr.list ++ x :: r.list))) W W') = P := ⟨_, rfl⟩
  have hP2' := fun W' => congrFun hP2 W'
  have hP3' := fun W' => congrFun hP3 W'
  simp only [hP2', hP3'] at C1 C2 ⊢
  obtain ⟨b, hb⟩ : ∃ b, x.b = b := ⟨_, rfl⟩
  obtain ⟨c, hc⟩ : ∃ b, y.b = b := ⟨_, rfl⟩
  obtain ⟨q, hR⟩ := lr.ptr_form
  rw [hb] at a7 f7 g6 b6' hW1 C1 ⊢
  rw [hc] at a7 b6 g6 b6' hW1 C2 ⊢
  rw [hR] at b6 g6 b6' hW1
  have HW := hide hW1
  have HC1 := hide C1
  have HC2 := hide C2
  clear hP2 hP3 hP2' hP3' C1 C2 hx hr hy h1 h2 un bd u1 u2 u3 u4 u5 u6 u7 u8 u9 u10 ne k1 x1 y1 l1 r1 rr1 un1 bd1 hb hc hR hW1
  go_enter Try.func47, Try.ntmps47
  go_wp2_with fail
  rw [HW.out]
  refine HC1.out.mono ?_
  rintro e W2 ⟨rfl, p2⟩
  go_wp2_with fail
  refine (HC2.out W2 p2).mono ?_
  rintro e W3 ⟨rfl, p3⟩
  go_wp2_with fail
  go_ret
  exact ⟨rfl, p3⟩
end
/-! ### settle's walks -/
section
variable {W : World} {b c d : Nat} {qr q1 q2 qz : Option Addr} {HL HR A B : Int} {P2 : World → Prop} {R3 : Ending → World → Prop}
set_option maxRecDepth 100000 in
theorem settle_2a (a6 : W.cell? ⟨b, 6, none⟩ = some (.pointer (some ⟨c, 0, none⟩))) (a7 : W.cell? ⟨b, 7, none⟩ = some (.pointer qr)) (c6 : W.cell? ⟨c, 6, none⟩ = some (.pointer q1)) (c7 : W.cell? ⟨c, 7, none⟩ = some (.pointer q2))
    (t1 : Calls Try.prog 43 #[.pointer (some ⟨c, 0, none⟩)] W.drew fun e w => e = .returned (.int .i64 HL) ∧ w = W.drew) (t2 : Calls Try.prog 43 #[.pointer qr] W.drew fun e w => e = .returned (.int .i64 HR) ∧ w = W.drew)
    (t3 : Calls Try.prog 43 #[.pointer q1] W.drew.drew fun e w => e = .returned (.int .i64 A) ∧ w = W.drew.drew) (t4 : Calls Try.prog 43 #[.pointer q2] W.drew.drew fun e w => e = .returned (.int .i64 B) ∧ w = W.drew.drew)
    (l0 : 0 ≤ HL) (l1 : HL < 2199023255552) (r0 : 0 ≤ HR) (r1 : HR < 2199023255552) (d2 : (HL - HR == 2) = true) (ab : decide (A < B) = true)
    (C1 : Calls Try.prog 46 #[.pointer (some ⟨c, 0, none⟩)] W.drew.drew fun e W' => e = .returned (.pointer qz) ∧ P2 W')
    (C2 : ∀ W', P2 W' → (∃ v, W'.cell? ⟨b, 6, none⟩ = some v) ∧ W'.frozen? ⟨b, 6, none⟩ = false ∧ Calls Try.prog 47 #[.pointer (some ⟨b, 0, none⟩)] (W'.setCell ⟨b, 6, none⟩ (.pointer qz)) fun e W'' => R3 e W'' ∧ ∃ v, e = .returned v) :
    Calls Try.prog 44 #[.pointer (some ⟨b, 0, none⟩)] W R3 := by
  have HC1 := hide C1
  have HC2 := hide C2
  clear C1 C2
  go_enter Try.func44, Try.ntmps44
  go_wp2_with fail
  refine still_all (by kernel_rfl) (by kernel_rfl) ?_
  repeat still_step
  still_call t1
  repeat still_step
  still_call t2
  repeat still_step
  refine wpStill_nil ?_
  go_wp2_with fail
  refine still_all (by kernel_rfl) (by kernel_rfl) ?_
  repeat still_step
  still_call t3
  repeat still_step
  still_call t4
  repeat still_step
  refine wpStill_nil ?_
  go_wp2_with fail
  refine HC1.out.mono ?_
  rintro e W2 ⟨rfl, p2⟩
  obtain ⟨⟨v, hv⟩, hf, c3⟩ := HC2.out W2 p2
  have HC3 := hide c3
  clear c3 HC1 HC2 p2
  go_wp2_with fail
  refine HC3.out.mono ?_
  rintro e W3 ⟨r3, v3, rfl⟩
  go_wp2_with fail
  first | exact r3 | (go_ret; exact r3)
set_option maxRecDepth 100000 in
theorem settle_2b (a6 : W.cell? ⟨b, 6, none⟩ = some (.pointer (some ⟨c, 0, none⟩))) (a7 : W.cell? ⟨b, 7, none⟩ = some (.pointer qr)) (c6 : W.cell? ⟨c, 6, none⟩ = some (.pointer q1)) (c7 : W.cell? ⟨c, 7, none⟩ = some (.pointer q2))
    (t1 : Calls Try.prog 43 #[.pointer (some ⟨c, 0, none⟩)] W.drew fun e w => e = .returned (.int .i64 HL) ∧ w = W.drew) (t2 : Calls Try.prog 43 #[.pointer qr] W.drew fun e w => e = .returned (.int .i64 HR) ∧ w = W.drew)
    (t3 : Calls Try.prog 43 #[.pointer q1] W.drew.drew fun e w => e = .returned (.int .i64 A) ∧ w = W.drew.drew) (t4 : Calls Try.prog 43 #[.pointer q2] W.drew.drew fun e w => e = .returned (.int .i64 B) ∧ w = W.drew.drew)
    (l0 : 0 ≤ HL) (l1 : HL < 2199023255552) (r0 : 0 ≤ HR) (r1 : HR < 2199023255552) (d2 : (HL - HR == 2) = true) (ab : decide (A < B) = false)
    (C2 : Calls Try.prog 47 #[.pointer (some ⟨b, 0, none⟩)] W.drew.drew fun e W'' => R3 e W'' ∧ ∃ v, e = .returned v) :
    Calls Try.prog 44 #[.pointer (some ⟨b, 0, none⟩)] W R3 := by
  have HC2 := hide C2
  clear C2
  go_enter Try.func44, Try.ntmps44
  go_wp2_with fail
  refine still_all (by kernel_rfl) (by kernel_rfl) ?_
  repeat still_step
  still_call t1
  repeat still_step
  still_call t2
  repeat still_step
  refine wpStill_nil ?_
  go_wp2_with fail
  refine still_all (by kernel_rfl) (by kernel_rfl) ?_
  repeat still_step
  still_call t3
  repeat still_step
  still_call t4
  repeat still_step
  refine wpStill_nil ?_
  go_wp2_with fail
  refine HC2.out.mono ?_
  rintro e W3 ⟨r3, v3, rfl⟩
  go_wp2_with fail
  first | exact r3 | (go_ret; exact r3)
set_option maxRecDepth 100000 in
theorem settle_3a (a6 : W.cell? ⟨b, 7, none⟩ = some (.pointer (some ⟨c, 0, none⟩))) (a7 : W.cell? ⟨b, 6, none⟩ = some (.pointer qr)) (c6 : W.cell? ⟨c, 7, none⟩ = some (.pointer q1)) (c7 : W.cell? ⟨c, 6, none⟩ = some (.pointer q2))
    (t1 : Calls Try.prog 43 #[.pointer (some ⟨c, 0, none⟩)] W.drew fun e w => e = .returned (.int .i64 HR) ∧ w = W.drew) (t2 : Calls Try.prog 43 #[.pointer qr] W.drew fun e w => e = .returned (.int .i64 HL) ∧ w = W.drew)
    (t3 : Calls Try.prog 43 #[.pointer q1] W.drew.drew fun e w => e = .returned (.int .i64 A) ∧ w = W.drew.drew) (t4 : Calls Try.prog 43 #[.pointer q2] W.drew.drew fun e w => e = .returned (.int .i64 B) ∧ w = W.drew.drew)
    (l0 : 0 ≤ HL) (l1 : HL < 2199023255552) (r0 : 0 ≤ HR) (r1 : HR < 2199023255552) (d2 : (HL - HR == 2) = false) (d3 : (HL - HR == -2) = true) (ab : decide (A < B) = true)
    (C1 : Calls Try.prog 47 #[.pointer (some ⟨c, 0, none⟩)] W.drew.drew fun e W' => e = .returned (.pointer qz) ∧ P2 W')
    (C2 : ∀ W', P2 W' → (∃ v, W'.cell? ⟨b, 7, none⟩ = some v) ∧ W'.frozen? ⟨b, 7, none⟩ = false ∧ Calls Try.prog 46 #[.pointer (some ⟨b, 0, none⟩)] (W'.setCell ⟨b, 7, none⟩ (.pointer qz)) fun e W'' => R3 e W'' ∧ ∃ v, e = .returned v) :
    Calls Try.prog 44 #[.pointer (some ⟨b, 0, none⟩)] W R3 := by
  have HC1 := hide C1
  have HC2 := hide C2
  clear C1 C2
  go_enter Try.func44, Try.ntmps44
  go_wp2_with fail
  refine still_all (by kernel_rfl) (by kernel_rfl) ?_
  repeat still_step
  still_call t2
  repeat still_step
  still_call t1
  repeat still_step
  refine wpStill_nil ?_
  go_wp2_with fail
  refine still_all (by kernel_rfl) (by kernel_rfl) ?_
  repeat still_step
  still_call t3
  repeat still_step
  still_call t4
  repeat still_step
  refine wpStill_nil ?_
  go_wp2_with fail
  refine HC1.out.mono ?_
  rintro e W2 ⟨rfl, p2⟩
  obtain ⟨⟨v, hv⟩, hf, c3⟩ := HC2.out W2 p2
  have HC3 := hide c3
  clear c3 HC1 HC2 p2
  go_wp2_with fail
  refine HC3.out.mono ?_
  rintro e W3 ⟨r3, v3, rfl⟩
  go_wp2_with fail
  first | exact r3 | (go_ret; exact r3)
set_option maxRecDepth 100000 in
theorem settle_3b (a6 : W.cell? ⟨b, 7, none⟩ = some (.pointer (some ⟨c, 0, none⟩))) (a7 : W.cell? ⟨b, 6, none⟩ = some (.pointer qr)) (c6 : W.cell? ⟨c, 7, none⟩ = some (.pointer q1)) (c7 : W.cell? ⟨c, 6, none⟩ = some (.pointer q2))
    (t1 : Calls Try.prog 43 #[.pointer (some ⟨c, 0, none⟩)] W.drew fun e w => e = .returned (.int .i64 HR) ∧ w = W.drew) (t2 : Calls Try.prog 43 #[.pointer qr] W.drew fun e w => e = .returned (.int .i64 HL) ∧ w = W.drew)
    (t3 : Calls Try.prog 43 #[.pointer q1] W.drew.drew fun e w => e = .returned (.int .i64 A) ∧ w = W.drew.drew) (t4 : Calls Try.prog 43 #[.pointer q2] W.drew.drew fun e w => e = .returned (.int .i64 B) ∧ w = W.drew.drew)
    (l0 : 0 ≤ HL) (l1 : HL < 2199023255552) (r0 : 0 ≤ HR) (r1 : HR < 2199023255552) (d2 : (HL - HR == 2) = false) (d3 : (HL - HR == -2) = true) (ab : decide (A < B) = false)
    (C2 : Calls Try.prog 46 #[.pointer (some ⟨b, 0, none⟩)] W.drew.drew fun e W'' => R3 e W'' ∧ ∃ v, e = .returned v) :
    Calls Try.prog 44 #[.pointer (some ⟨b, 0, none⟩)] W R3 := by
  have HC2 := hide C2
  clear C2
  go_enter Try.func44, Try.ntmps44
  go_wp2_with fail
  refine still_all (by kernel_rfl) (by kernel_rfl) ?_
  repeat still_step
  still_call t2
  repeat still_step
  still_call t1
  repeat still_step
  refine wpStill_nil ?_
  go_wp2_with fail
  refine still_all (by kernel_rfl) (by kernel_rfl) ?_
  repeat still_step
  still_call t3
  repeat still_step
  still_call t4
  repeat still_step
  refine wpStill_nil ?_
  go_wp2_with fail
  refine HC2.out.mono ?_
  rintro e W3 ⟨r3, v3, rfl⟩
  go_wp2_with fail
  first | exact r3 | (go_ret; exact r3)
set_option maxRecDepth 100000 in
theorem settle_4 (a6 : W.cell? ⟨b, 6, none⟩ = some (.pointer q1)) (a7 : W.cell? ⟨b, 7, none⟩ = some (.pointer qr))
    (t1 : Calls Try.prog 43 #[.pointer q1] W.drew fun e w => e = .returned (.int .i64 HL) ∧ w = W.drew) (t2 : Calls Try.prog 43 #[.pointer qr] W.drew fun e w => e = .returned (.int .i64 HR) ∧ w = W.drew)
    (l0 : 0 ≤ HL) (l1 : HL < 2199023255552) (r0 : 0 ≤ HR) (r1 : HR < 2199023255552) (d2 : (HL - HR == 2) = false) (d3 : (HL - HR == -2) = false)
    (C2 : Calls Try.prog 48 #[.pointer (some ⟨b, 0, none⟩)] W.drew fun e W'' => e = .returned (.tuple #[]) ∧ R3 (.returned (.pointer (some ⟨b, 0, none⟩))) W'') :
    Calls Try.prog 44 #[.pointer (some ⟨b, 0, none⟩)] W R3 := by
  have HC2 := hide C2
  clear C2
  go_enter Try.func44, Try.ntmps44
  go_wp2_with fail
  refine still_all (by kernel_rfl) (by kernel_rfl) ?_
  repeat still_step
  still_call t1
  repeat still_step
  still_call t2
  repeat still_step
  refine wpStill_nil ?_
  go_wp2_with fail
  refine HC2.out.mono ?_
  rintro e W3 ⟨rfl, r3⟩
  go_wp2_with fail
  first | exact r3 | (go_ret; exact r3)
end
end Go.Proofs.Ytnhllnepnpmegaa
