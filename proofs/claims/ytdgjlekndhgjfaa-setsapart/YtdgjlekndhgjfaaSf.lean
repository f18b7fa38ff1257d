/- Package sets: drop: contract. -/
import Derived.Test.YtdgjlekndhgjfaaSe
namespace Go.Proofs.Ytdgjlekndhgjfaa
open Go.ChangeShapes Go.WideShapes Go.ChangeAt Go.RowKit Go.Shelf Go.Proofs.Rx Go.Maps Go.Proofs.Hm
set_option linter.unusedVariables false
set_option linter.unusedSimpArgs false

attribute [local go_sem] Oper.semAt_some

section
variable {W W' : World} {s c m : Nat} {G : Gh} {L : List On}
/-- Behind a drop. -/
def Out (W W' : World) (s c m : Nat) (G : Gh) (L : List On) : Prop := (∃ G2, Parts W' s c G2 ∧ Rel c G2 L ∧ To W W' (Foot G s) (Foot G2 s)) ∧ W'.cell? ⟨m, 0, none⟩ = some (.int .i64 (G.x m).id)
theorem drop_done {W0 : World} {GB : Gh} (R : Rel c G L) (P : Plain G) (hm : m ∈ G.ms) (eB : ∃ M0 M1, GB = { G with M0 := M0, M1 := M1 } ∧ (∀ i, M0 i = if i = (G.x m).id then none else G.M0 i) ∧ ∀ b, M1 b = if b = (G.x m).base then none else G.M1 b)
    (A : SideRemoved W0 W' s c GB (G.x m).d m (G.x m).kd) (t : To W W0 (Foot G s) (Foot GB s)) : Out W W' s c m G (L.erase (G.one m)) := by
  obtain ⟨M0, M1, rfl, hM0, hM1⟩ := eB
  have hd := R.d2 m hm
  have ok := (R.onk _ _ hd).2 ⟨m, hm, rfl, rfl⟩
  obtain ⟨v1, l1, p1, v2, l2, p2, pm1, pm2, h2, t2⟩ := A
  have pm1 : l1.Perm ((G.l (G.x m).d (some (G.x m).kd)).erase m) := pm1
  have pm2 : l2.Perm ((G.l (G.x m).d none).erase m) := pm2
  obtain ⟨G3, hG3⟩ : ∃ G3 : Gh, G3 = ((if l1 = [] then (Gh.upd { G with M0 := M0, M1 := M1 } (G.x m).d (some (G.x m).kd) v1 l1 (G.l (G.x m).d (some (G.x m).kd)) p1).go (G.x m).d (G.x m).kd else Gh.upd { G with M0 := M0, M1 := M1 } (G.x m).d (some (G.x m).kd) v1 l1 (G.l (G.x m).d (some (G.x m).kd)) p1).upd (G.x m).d none v2 l2 (G.l (G.x m).d none) p2) := ⟨_, rfl⟩
  have hl3 : ∀ d' o', G3.l d' o' = if d' = (G.x m).d ∧ o' = none then l2 else if d' = (G.x m).d ∧ o' = some (G.x m).kd then l1 else G.l d' o' := fun d' o' => by
    rw [hG3]
    split <;> rfl
  have ho3 : ∀ d' o', G3.on d' o' = if l1 = [] ∧ d' = (G.x m).d ∧ o' = some (G.x m).kd then false else G.on d' o' := fun d' o' => by
    rw [hG3]
    by_cases e : l1 = []
    · rw [if_pos e]
      show (if d' = (G.x m).d ∧ o' = some (G.x m).kd then false else G.on d' o') = _
      simp [e]
    · rw [if_neg e]
      show G.on d' o' = _
      rw [if_neg (fun u => e u.1)]
  have hms3 : G3.ms = G.ms := by rw [hG3]; split <;> rfl
  have hx3 : G3.x = G.x := by rw [hG3]; split <;> rfl
  have hg3 : G3.g = G.g := by rw [hG3]; split <;> rfl
  have hM03 : G3.M0 = M0 := by rw [hG3]; split <;> rfl
  have hM13 : G3.M1 = M1 := by rw [hG3]; split <;> rfl
  have h3 : Parts W' s c G3 := by rw [hG3]; exact h2
  have t3 : To W0 W' (Foot { G with M0 := M0, M1 := M1 } s) (Foot G3 s) := by rw [hG3]; exact t2
  have n1 : m ∉ l1 := fun e => (List.Nodup.not_mem_erase (P.nd _ _ hd ok)) (pm1.mem_iff.1 e)
  have n2 : m ∉ l2 := fun e => (List.Nodup.not_mem_erase (P.nd _ _ hd (P.on0 _ hd))) (pm2.mem_iff.1 e)
  clear hG3 h2 t2
  have nl : ∀ d o, d < 2 → G3.on d o = true → m ∉ G3.l d o := fun d o h1 h2 e => by
    have sb := h3.pl.sub d o h1 h2 m e
    rw [hx3] at sb
    rw [hl3] at e
    by_cases e1 : d = (G.x m).d ∧ o = none
    · rw [if_pos e1] at e; exact n2 e
    · rw [if_neg e1] at e
      by_cases e2 : d = (G.x m).d ∧ o = some (G.x m).kd
      · rw [if_pos e2] at e; exact n1 e
      · cases o with
        | none => exact e1 ⟨sb.2.1.symm, rfl⟩
        | some k => exact e2 ⟨sb.2.1.symm, by rw [sb.2.2 k rfl]⟩
  obtain ⟨h4, t4⟩ := h3.gone nl
  refine ⟨⟨_, h4, R.less P hm (by show G3.ms.erase m = _; rw [hms3]) (fun z _ => by show G3.x z = _; rw [hx3]) hg3 (fun i => by show G3.M0 i = _; rw [hM03]; exact hM0 i) (fun b => by show G3.M1 b = _; rw [hM13]; exact hM1 b) (fun d o h1 h2 z hz hzl => ?_) (fun d k h1 => ?_), (t.trans t3).trans t4⟩, ?_⟩
  · show z ∈ G3.l d o
    rw [hl3]
    by_cases e1 : d = (G.x m).d ∧ o = none
    · rw [if_pos e1]
      rw [e1.1, e1.2] at hzl
      exact pm2.mem_iff.2 ((List.mem_erase_of_ne hz).2 hzl)
    · rw [if_neg e1]
      by_cases e2 : d = (G.x m).d ∧ o = some (G.x m).kd
      · rw [if_pos e2]
        rw [e2.1, e2.2] at hzl
        exact pm1.mem_iff.2 ((List.mem_erase_of_ne hz).2 hzl)
      · rw [if_neg e2]; exact hzl
  · show G3.on d (some k) = true ↔ _
    rw [ho3]
    by_cases e2 : d = (G.x m).d ∧ k = (G.x m).kd
    · obtain ⟨rfl, rfl⟩ := e2
      by_cases e : l1 = []
      · rw [if_pos ⟨e, rfl, rfl⟩]
        refine ⟨fun u => (by cases u), fun ⟨z, z1, z2, z3, z4⟩ => ?_⟩
        have zl := R.mem _ _ hd ok z z1 z3 (fun k hk => by cases hk; exact z4)
        have := pm1.mem_iff.2 ((List.mem_erase_of_ne z2).2 zl)
        rw [e] at this; cases this
      · rw [if_neg (fun u => e u.1)]
        refine ⟨fun _ => ?_, fun _ => ok⟩
        obtain ⟨z, hz⟩ := List.exists_mem_of_ne_nil l1 e
        have z1 := pm1.mem_iff.1 hz
        have z2 : z ≠ m := fun u => n1 (by rw [← u]; exact hz)
        have sb := P.sub _ _ hd ok z (List.mem_of_mem_erase z1)
        exact ⟨z, sb.1, z2, sb.2.1, sb.2.2 _ rfl⟩
    · rw [if_neg (fun u => e2 ⟨u.2.1, Option.some.inj u.2.2⟩), R.onk d k h1]
      constructor
      · rintro ⟨z, z1, z2, z3⟩
        exact ⟨z, z1, fun u => e2 ⟨by rw [← z2, u], by rw [← z3, u]⟩, z2, z3⟩
      · rintro ⟨z, z1, _, z2, z3⟩
        exact ⟨z, z1, z2, z3⟩
  · have := (h3.mb m (by rw [hms3]; exact hm)).cell 0 _ rfl
    rw [hx3] at this
    exact this
set_option maxRecDepth 100000 in
theorem sets_drop (h : Parts W s c G) (R : Rel c G L) (hc : c ≤ 5000) (hm : m ∈ G.ms) :
    Calls Try.prog 30 #[.pointer (some ⟨s, 0, none⟩), .pointer (some ⟨m, 0, none⟩)] W fun e W' => e = .returned (.tuple #[]) ∧ Out W W' s c m G (L.erase (G.one m)) := by
  have h1 := h.below (drew_below W)
  have ib := R.ib m hm
  have hd2 := R.d2 m hm
  have a0 : W.cell? ⟨s, 0, none⟩ = some (.map (some G.b0)) := h1.sb.cell 0 _ rfl
  obtain ⟨-, -, -, a1, -, -⟩ := mem_cells h1 hm
  obtain ⟨Wa, ra, ma, ga⟩ := h1.m0.del tyI 0 (p := (G.x m).id) ⟨by omega, by omega⟩
  obtain ⟨h2, t2⟩ := h1.map0 (c' := c) (Nat.le_refl _) ma ga
  have h2 := h2.below (drew_below Wa)
  have b0 : Wa.cell? ⟨s, 1, none⟩ = some (.map (some G.b1)) := h2.sb.cell 1 _ rfl
  obtain ⟨-, -, -, -, b1, -⟩ := mem_cells h2 hm
  obtain ⟨Wb, rb, mb, gb⟩ := h2.m1.del tyN 0 (p := (G.x m).base) (h.pl.lim m hm)
  obtain ⟨h3, t3⟩ := h2.map1 (c' := c) (Nat.le_refl _) mb gb
  have h3 := h3.below (drew_below Wb)
  obtain ⟨GB, hGB⟩ : ∃ GB : Gh, GB = { ({ G with M0 := fun q => if q = (G.x m).id then none else G.M0 q } : Gh) with M1 := fun q => if q = (G.x m).base then none else G.M1 q } := ⟨_, rfl⟩
  have h4 : Parts Wb.drew s c GB := by rw [hGB]; exact h3
  have tt : To W Wb.drew (Foot G s) (Foot GB s) := by
    have q1 := (To.of_below (drew_below W) (Foot G s)).trans t2
    have q2 := (q1.trans (To.of_below (drew_below Wa) _)).trans t3
    have q3 := q2.trans (To.of_below (drew_below Wb) _)
    rw [hGB]
    exact q3
  have eB : ∃ M0 M1, GB = { G with M0 := M0, M1 := M1 } ∧ (∀ i, M0 i = if i = (G.x m).id then none else G.M0 i) ∧ ∀ b, M1 b = if b = (G.x m).base then none else G.M1 b := ⟨_, _, hGB, fun _ => rfl, fun _ => rfl⟩
  have xB : GB.x = G.x := by rw [hGB]
  have lB : ∀ d o, GB.l d o = G.l d o := fun d o => by rw [hGB]
  have oB : ∀ d o, GB.on d o = G.on d o := fun d o => by rw [hGB]
  have ok := (R.onk _ _ hd2).2 ⟨m, hm, rfl, rfl⟩
  have ln : ∀ d o, d < 2 → G.on d o = true → (G.l d o).length < 100000 := fun d o hd ho => by
    have := sub_len (h.pl.nd d o hd ho) (fun z hz => (h.pl.sub d o hd ho z hz).1)
    have := R.len
    omega
  have kbd : -9223372036854775808 ≤ (G.x m).kd.c ∧ (G.x m).kd.c ≤ 9223372036854775807 := ⟨by omega, by omega⟩
  have CS : Calls Try.prog 35 #[.pointer (some ⟨s, 2 + 4 * (G.x m).d, none⟩), .pointer (some ⟨m, 0, none⟩)] Wb.drew fun e W' => e = .returned (.tuple #[]) ∧ Out W W' s c m G (L.erase (G.one m)) :=
    (side_remove h4 hd2 (k := (G.x m).kd) (by rw [xB]) kbd (by rw [oB]; exact ok) (by rw [lB]; exact R.mem _ _ hd2 ok m hm rfl (fun k hk => by cases hk; rfl)) (by rw [lB]; exact R.mem _ _ hd2 (h.pl.on0 _ hd2) m hm rfl (fun k hk => by cases hk)) (by rw [lB]; exact ln _ _ hd2 ok) (by rw [lB]; exact ln _ _ hd2 (h.pl.on0 _ hd2))).mono fun e W' ⟨he, a⟩ => ⟨he, drop_done R h.pl hm eB a tt⟩
  obtain ⟨-, -, -, -, -, d1⟩ := mem_cells h4 (m := m) (by rw [hGB]; exact hm)
  rw [xB] at d1
  rw [show keyI.kv (G.x m).id = .int .i64 (G.x m).id from rfl] at ra
  rw [show keyN.kv (G.x m).base = .int .u64 ((G.x m).base : Nat) from rfl] at rb
  obtain ⟨PI, hPI⟩ : ∃ P : World → Prop, (fun W' => Out W W' s c m G (L.erase (G.one m))) = P := ⟨_, rfl⟩
  have hPI' : ∀ W', Out W W' s c m G (L.erase (G.one m)) = PI W' := fun W' => congrFun hPI W'
  simp only [hPI'] at CS ⊢
  obtain ⟨d, hd⟩ : ∃ d, (G.x m).d = d := ⟨_, rfl⟩
  obtain ⟨id, hid⟩ : ∃ i, (G.x m).id = i := ⟨_, rfl⟩
  obtain ⟨bs, hbs⟩ : ∃ i, (G.x m).base = i := ⟨_, rfl⟩
  rw [hd] at CS d1 hd2
  have CC := hide CS
  have e0 : (W.drew).cell? ⟨s, 0, none⟩ = some (.map (some G.b0)) := a0
  have e1 : (W.drew).cell? ⟨m, 0, none⟩ = some (.int .i64 (G.x m).id) := a1
  have e3 : (Wa.drew).cell? ⟨s, 1, none⟩ = some (.map (some G.b1)) := b0
  have e4 : (Wa.drew).cell? ⟨m, 1, none⟩ = some (.int .u64 ((G.x m).base : Nat)) := b1
  have d1' : Wb.cell? ⟨m, 5, none⟩ = some (.int .i64 (d : Nat)) := d1
  have a1' : W.cell? ⟨m, 0, none⟩ = some (.int .i64 (G.x m).id) := a1
  have b1' : Wa.cell? ⟨m, 1, none⟩ = some (.int .u64 ((G.x m).base : Nat)) := b1
  obtain ⟨q0, hq0⟩ : ∃ q, G.b0 = q := ⟨_, rfl⟩
  obtain ⟨q1, hq1⟩ : ∃ q, G.b1 = q := ⟨_, rfl⟩
  rw [hq0] at a0 e0 ra
  rw [hid] at a1 a1' e1 ra
  rw [hq1] at b0 e3
  rw [hbs] at b1 b1' e4 rb
  rw [show ({ G with M0 := fun q => if q = (G.x m).id then none else G.M0 q } : Gh).b1 = q1 from hq1] at rb
  have RA := hide ra
  have RB := hide rb
  clear hPI hPI' CS h R hc hm h1 ma ga h2 t2 mb gb h3 t3 hGB h4 tt eB xB lB oB ok ln kbd ra rb hd hid hbs hq0 hq1 ib
  rcases (show d = 0 ∨ d = 1 by omega) with rfl | rfl
  all_goals
    clear hd2
    go_enter Try.func30, Try.ntmps30
    go_wp2_with fail
    refine still_tail 8 (by kernel_rfl) (by kernel_rfl) ?_
    simp only [List.take_succ_cons, List.take_zero, List.drop_succ_cons, List.drop_zero]
    repeat still_step
    refine wpStill_nil ?_
    have ra := RA.out
    go_wp2_with fail
    clear ra RA a0 e0 e1 a1 a1'
    refine still_tail 8 (by kernel_rfl) (by kernel_rfl) ?_
    simp only [List.take_succ_cons, List.take_zero, List.drop_succ_cons, List.drop_zero]
    repeat still_step
    refine wpStill_nil ?_
    have rb := RB.out
    go_wp2_with fail
    clear rb RB b0 e3 e4 b1 b1'
    refine still_tail 9 (by kernel_rfl) (by kernel_rfl) ?_
    simp only [List.take_succ_cons, List.take_zero, List.drop_succ_cons, List.drop_zero]
    repeat still_step
    refine wpStill_nil ?_
    go_wp2_with fail
    refine CC.out.mono ?_
    rintro e W2 ⟨rfl, a⟩
    clear CC
    go_wp2_with fail
    go_end0
    exact ⟨rfl, a⟩
end
end Go.Proofs.Ytdgjlekndhgjfaa
