/- Package sets: add and drop: contracts. -/
import Derived.Test.YtdgjlekndhgjfaaSo
namespace Go.Proofs.Ytdgjlekndhgjfaa
open Go.ChangeShapes Go.WideShapes Go.ChangeAt Go.RowKit Go.Shelf Go.Proofs.Rx Go.Maps Go.Proofs.Hm
set_option linter.unusedVariables false
set_option linter.unusedSimpArgs false

attribute [local go_sem] Oper.semAt_some

theorem sub_len : ∀ {l l' : List Nat}, l.Nodup → (∀ z, z ∈ l → z ∈ l') → l.length ≤ l'.length
  | [], _, _, _ => Nat.zero_le _
  | a :: l, l', h, hs => by
    rw [List.nodup_cons] at h
    have t := sub_len (l' := l'.erase a) h.2 (fun z hz => (List.mem_erase_of_ne (fun e => h.1 (by rw [← e]; exact hz))).2 (hs z (List.mem_cons_of_mem _ hz)))
    have ha := hs a List.mem_cons_self
    rw [List.length_erase_of_mem ha] at t
    have := List.length_pos_of_mem ha
    rw [List.length_cons]
    omega
section
variable {W W' : World} {s c m : Nat} {G : Gh} {L : List On} {y : Mem}
theorem foot_born {G : Gh} {s m z : Nat} {y : Mem} (h : Foot (G.born m y) s z) : Foot G s z ∨ z = m := by
  rcases h with e | e | e
  · exact .inl (.inl e)
  · have e' : z ∈ G.ms ++ [m] := e
    rcases List.mem_append.1 e' with u | u
    · exact .inl (.inr (.inl u))
    · exact .inr (List.mem_singleton.1 u)
  · exact .inl (.inr (.inr e))
/-- Behind an add. -/
def PutIn (W W' : World) (s c m : Nat) (G : Gh) (L : List On) : Prop := ∃ G2, Parts W' s c G2 ∧ Rel c G2 L ∧ To W W' (fun z => Foot G s z ∨ z = m) (Foot G2 s)
theorem gs_l (G : Gh) (d : Nat) (k : Kd) (v1 v2 : Value) (l1 l2 T1 T2 : List Nat) (p1 p2 : Nat → Int) (d' : Nat) (o' : Option Kd) : ((G.upd d (some k) v1 l1 T1 p1).upd d none v2 l2 T2 p2).l d' o' = if d' = d ∧ o' = none then l2 else if d' = d ∧ o' = some k then l1 else G.l d' o' := rfl
/-- Behind a side's add: the list. -/
theorem put_on {W0 : World} {c0 : Nat} {GB : Gh} (R : Rel c0 G L) (P : Plain G) (hc : c0 + 1 ≤ c) (nm : m ∉ G.ms) (eB : ∃ M0 M1, GB = { (G.born m y) with M0 := M0, M1 := M1 } ∧ (∀ i, M0 i = if i = y.id then some m else G.M0 i) ∧ ∀ b, M1 b = if b = y.base then some () else G.M1 b)
    (hy : y.d < 2 ∧ (1 ≤ y.id ∧ y.id ≤ 9223372036854775807) ∧ 0 ≤ y.kd.c ∧ y.kd.c ≤ 67) (n0 : G.M0 y.id = none) (n1 : G.M1 y.base = none) (ho : G.on y.d (some y.kd) = true) (A : SideAdded W0 W' s c GB y.d m y.kd) (t : To W W0 (fun z => Foot G s z ∨ z = m) (Foot GB s)) :
    PutIn W W' s c m G (L ++ [⟨y.id, y.base, y.kd, decide (y.d = G.g)⟩]) := by
  obtain ⟨M0, M1, rfl, hM0, hM1⟩ := eB
  obtain ⟨v1, l1, p1, v2, l2, p2, pm1, pm2, h2, t2⟩ := A
  refine ⟨_, h2, R.more P (y := y) (m := m) hc nm rfl (fun z hz => ?_) ?_ rfl hM0 hM1 (fun d o hd hoo z hz => ?_) (fun o hoo => ?_) (fun d k hd => ?_) hy n0 n1, t.trans t2⟩
  · show (if z = m then y else G.x z) = _
    rw [if_neg (fun e => nm (by rw [← e]; exact hz))]
  · show (if m = m then y else G.x m) = _
    rw [if_pos rfl]
  · rw [gs_l]
    by_cases e1 : d = y.d ∧ o = none
    · rw [if_pos e1]
      refine pm2.mem_iff.2 (List.mem_cons_of_mem _ ?_)
      rw [e1.1, e1.2] at hz
      exact hz
    · rw [if_neg e1]
      by_cases e2 : d = y.d ∧ o = some y.kd
      · rw [if_pos e2]
        refine pm1.mem_iff.2 (List.mem_cons_of_mem _ ?_)
        rw [e2.1, e2.2] at hz
        exact hz
      · rw [if_neg e2]; exact hz
  · rw [gs_l]
    cases o with
    | none => rw [if_pos ⟨rfl, rfl⟩]; exact pm2.mem_iff.2 List.mem_cons_self
    | some k => rw [hoo k rfl, if_neg (by simp), if_pos ⟨rfl, rfl⟩]; exact pm1.mem_iff.2 List.mem_cons_self
  · show G.on d (some k) = true ↔ _
    constructor
    · exact .inl
    · rintro (u | ⟨u1, u2⟩)
      · exact u
      · rw [u1, u2]; exact ho
theorem put_new {W0 : World} {c0 : Nat} {GB : Gh} (R : Rel c0 G L) (P : Plain G) (hc : c0 + 1 ≤ c + 1) (nm : m ∉ G.ms) (eB : ∃ M0 M1, GB = { (G.born m y) with M0 := M0, M1 := M1 } ∧ (∀ i, M0 i = if i = y.id then some m else G.M0 i) ∧ ∀ b, M1 b = if b = y.base then some () else G.M1 b)
    (hy : y.d < 2 ∧ (1 ≤ y.id ∧ y.id ≤ 9223372036854775807) ∧ 0 ≤ y.kd.c ∧ y.kd.c ≤ 67) (n0 : G.M0 y.id = none) (n1 : G.M1 y.base = none) (ho : G.on y.d (some y.kd) = false) (A : NewAdded W0 W' s c GB y.d m y.kd) (t : To W W0 (fun z => Foot G s z ∨ z = m) (Foot GB s)) :
    PutIn W W' s (c + 1) m G (L ++ [⟨y.id, y.base, y.kd, decide (y.d = G.g)⟩]) := by
  obtain ⟨M0, M1, rfl, hM0, hM1⟩ := eB
  obtain ⟨hb, Wc, ⟨_, _, t1⟩, v1, l1, p1, v2, l2, p2, pm1, pm2, h2, t2⟩ := A
  rw [(come_l _ y.d y.kd hb).2.1] at pm2
  refine ⟨_, h2, R.more P (y := y) (m := m) hc nm rfl (fun z hz => ?_) ?_ rfl hM0 hM1 (fun d o hd hoo z hz => ?_) (fun o hoo => ?_) (fun d k hd => ?_) hy n0 n1, (t.trans t1).trans t2⟩
  · show (if z = m then y else G.x z) = _
    rw [if_neg (fun e => nm (by rw [← e]; exact hz))]
  · show (if m = m then y else G.x m) = _
    rw [if_pos rfl]
  · rw [gs_l]
    by_cases e1 : d = y.d ∧ o = none
    · rw [if_pos e1]
      refine pm2.mem_iff.2 (List.mem_cons_of_mem _ ?_)
      rw [e1.1, e1.2] at hz
      exact hz
    · rw [if_neg e1]
      by_cases e2 : d = y.d ∧ o = some y.kd
      · rw [e2.1, e2.2, ho] at hoo; cases hoo
      · rw [if_neg e2]
        show z ∈ (if d = y.d ∧ o = some y.kd then [] else G.l d o)
        rw [if_neg e2]; exact hz
  · rw [gs_l]
    cases o with
    | none => rw [if_pos ⟨rfl, rfl⟩]; exact pm2.mem_iff.2 List.mem_cons_self
    | some k => rw [hoo k rfl, if_neg (by simp), if_pos ⟨rfl, rfl⟩]; exact pm1.mem_iff.2 List.mem_cons_self
  · show (if d = y.d ∧ some k = some y.kd then true else G.on d (some k)) = true ↔ _
    by_cases e : d = y.d ∧ some k = some y.kd
    · rw [if_pos e]
      exact ⟨fun _ => .inr ⟨e.1, Option.some.inj e.2⟩, fun _ => rfl⟩
    · rw [if_neg e]
      exact ⟨.inl, fun u => u.resolve_right (fun ⟨u1, u2⟩ => e ⟨u1, by rw [u2]⟩)⟩
theorem PutIn.mono {c' : Nat} (h : PutIn W W' s c m G L) (hc : c ≤ c') : PutIn W W' s c' m G L := by
  obtain ⟨G2, a, R, t⟩ := h
  exact ⟨G2, a.mono hc, ⟨R.nd, R.L, R.g2, R.d2, R.mem, R.onk, R.m0, R.m1, R.bd, R.ib, Nat.le_trans R.len hc⟩, t⟩
set_option maxRecDepth 100000 in
theorem sets_add (h : Parts W s c G) (R : Rel c G L) (hc : c ≤ 5000) (hB : Bk W m 74 (memV y 0 0)) (hf : ¬ Foot G s m)
    (hy : y.d < 2 ∧ (1 ≤ y.id ∧ y.id ≤ 9223372036854775807) ∧ 0 ≤ y.kd.c ∧ y.kd.c ≤ 67) (hyb : y.base < 18446744073709551616) (n0 : G.M0 y.id = none) (n1 : G.M1 y.base = none) :
    Calls Try.prog 27 #[.pointer (some ⟨s, 0, none⟩), .pointer (some ⟨m, 0, none⟩)] W fun e W' => e = .returned (.tuple #[]) ∧ PutIn W W' s (c + 3) m G (L ++ [⟨y.id, y.base, y.kd, decide (y.d = G.g)⟩]) := by
  have nm : m ∉ G.ms := fun e => hf (.inr (.inl e))
  have h1 := (h.born hB hf hyb).below (drew_below W)
  have mx : (G.born m y).x m = y := by
    show (if m = m then y else G.x m) = y
    rw [if_pos rfl]
  have mm : m ∈ (G.born m y).ms := List.mem_append_right _ (List.mem_singleton.2 rfl)
  have a0 : W.cell? ⟨s, 0, none⟩ = some (.map (some G.b0)) := h1.sb.cell 0 _ rfl
  obtain ⟨-, -, -, a1, -, -⟩ := mem_cells h1 mm
  rw [mx] at a1
  obtain ⟨Wa, ra, ma, ga⟩ := h1.m0.put tyI (by omega) (p := y.id) ⟨by omega, by omega⟩ m
  obtain ⟨h2, t2⟩ := h1.map0 (c' := c + 1) (by omega) ma ga
  have h2 := h2.below (drew_below Wa)
  have b0 : Wa.cell? ⟨s, 1, none⟩ = some (.map (some G.b1)) := h2.sb.cell 1 _ rfl
  obtain ⟨-, -, -, -, b1, -⟩ := mem_cells h2 mm
  rw [show ({ G.born m y with M0 := fun q => if q = y.id then some m else (G.born m y).M0 q } : Gh).x m = y from mx] at b1
  obtain ⟨Wb, rb, mb, gb⟩ := h2.m1.put tyN (by omega) (p := y.base) hyb ()
  obtain ⟨h3, t3⟩ := h2.map1 (c' := c + 2) (by omega) mb gb
  have h3 := h3.below (drew_below Wb)
  obtain ⟨GB, hGB⟩ : ∃ GB : Gh, GB = { ({ G.born m y with M0 := fun q => if q = y.id then some m else (G.born m y).M0 q } : Gh) with M1 := fun q => if q = y.base then some () else (G.born m y).M1 q } := ⟨_, rfl⟩
  have h4 : Parts Wb.drew s (c + 2) GB := by rw [hGB]; exact h3
  have tt : To W Wb.drew (fun z => Foot G s z ∨ z = m) (Foot GB s) := by
    have q1 := (To.of_below (drew_below W) (Foot (G.born m y) s)).trans t2
    have q2 := (q1.trans (To.of_below (drew_below Wa) _)).trans t3
    have q3 := q2.trans (To.of_below (drew_below Wb) _)
    rw [hGB]
    exact ⟨q3.1.mono (fun z hz => foot_born hz), fun z hz => (q3.2 z hz).imp foot_born id⟩
  have eB : ∃ M0 M1, GB = { (G.born m y) with M0 := M0, M1 := M1 } ∧ (∀ i, M0 i = if i = y.id then some m else G.M0 i) ∧ ∀ b, M1 b = if b = y.base then some () else G.M1 b := ⟨_, _, hGB, fun _ => rfl, fun _ => rfl⟩
  have xB : GB.x m = y := by rw [hGB]; exact mx
  have lB : ∀ d o, GB.l d o = G.l d o := fun d o => by rw [hGB]; rfl
  have oB : ∀ d o, GB.on d o = G.on d o := fun d o => by rw [hGB]; rfl
  have mB : m ∈ GB.ms := by rw [hGB]; exact mm
  have nl : ∀ d o, d < 2 → G.on d o = true → m ∉ G.l d o := fun d o hd ho e => nm (h.pl.sub d o hd ho m e).1
  have ln : ∀ d o, d < 2 → G.on d o = true → (G.l d o).length + 1 < 100000 := fun d o hd ho => by
    have := sub_len (h.pl.nd d o hd ho) (fun z hz => (h.pl.sub d o hd ho z hz).1)
    have := R.len
    omega
  have kbd : -9223372036854775808 ≤ y.kd.c ∧ y.kd.c ≤ 9223372036854775807 := ⟨by omega, by omega⟩
  have CS : Calls Try.prog 34 #[.pointer (some ⟨s, 2 + 4 * y.d, none⟩), .pointer (some ⟨m, 0, none⟩)] Wb.drew fun e W' => e = .returned (.tuple #[]) ∧ PutIn W W' s (c + 3) m G (L ++ [⟨y.id, y.base, y.kd, decide (y.d = G.g)⟩]) := by
    cases ho : G.on y.d (some y.kd) with
    | true =>
      refine (side_add_on h4 hy.1 mB (k := y.kd) (by rw [xB]) (by rw [xB]) kbd (by rw [oB]; exact ho) (by rw [lB]; exact nl _ _ hy.1 ho) (by rw [lB]; exact nl _ _ hy.1 (h.pl.on0 _ hy.1)) (by rw [lB]; exact ln _ _ hy.1 ho) (by rw [lB]; exact ln _ _ hy.1 (h.pl.on0 _ hy.1))).mono fun e W' ⟨he, a⟩ => ⟨he, ?_⟩
      exact (put_on R h.pl (by omega) nm eB hy n0 n1 ho a tt).mono (by omega)
    | false =>
      refine (side_add_new h4 (by omega) hy.1 mB (k := y.kd) (by rw [xB]) (by rw [xB]) kbd (by rw [oB]; exact ho) (by rw [lB]; exact nl _ _ hy.1 (h.pl.on0 _ hy.1)) (by rw [lB]; exact ln _ _ hy.1 (h.pl.on0 _ hy.1))).mono fun e W' ⟨he, a⟩ => ⟨he, ?_⟩
      exact put_new R h.pl (by omega) nm eB hy n0 n1 ho a tt
  obtain ⟨-, -, -, -, -, d1⟩ := mem_cells h4 mB
  rw [xB] at d1
  rw [show keyI.kv y.id = .int .i64 y.id from rfl, show encPt.val m = .pointer (some ⟨m, 0, none⟩) from rfl] at ra
  rw [show keyN.kv y.base = .int .u64 (y.base : Nat) from rfl, show encNo.val () = .agg #[] from rfl] at rb
  have hd2 := hy.1
  obtain ⟨PI, hPI⟩ : ∃ P : World → Prop, (fun W' => PutIn W W' s (c + 3) m G (L ++ [⟨y.id, y.base, y.kd, decide (y.d = G.g)⟩])) = P := ⟨_, rfl⟩
  have hPI' : ∀ W', PutIn W W' s (c + 3) m G (L ++ [⟨y.id, y.base, y.kd, decide (y.d = G.g)⟩]) = PI W' := fun W' => congrFun hPI W'
  simp only [hPI'] at CS ⊢
  obtain ⟨d, hd⟩ : ∃ d, y.d = d := ⟨_, rfl⟩
  obtain ⟨id, hid⟩ : ∃ i, y.id = i := ⟨_, rfl⟩
  obtain ⟨bs, hbs⟩ : ∃ i, y.base = i := ⟨_, rfl⟩
  rw [hd] at CS d1 hd2
  rw [hid] at a1 ra
  rw [hbs] at b1 rb
  have CC := hide CS
  have e0 : (W.drew).cell? ⟨s, 0, none⟩ = some (.map (some G.b0)) := a0
  have e1 : (W.drew).cell? ⟨m, 0, none⟩ = some (.int .i64 id) := a1
  have e3 : (Wa.drew).cell? ⟨s, 1, none⟩ = some (.map (some G.b1)) := b0
  have e4 : (Wa.drew).cell? ⟨m, 1, none⟩ = some (.int .u64 (bs : Nat)) := b1
  have d1' : Wb.cell? ⟨m, 5, none⟩ = some (.int .i64 (d : Nat)) := d1
  have a1' : W.cell? ⟨m, 0, none⟩ = some (.int .i64 id) := a1
  have b1' : Wa.cell? ⟨m, 1, none⟩ = some (.int .u64 (bs : Nat)) := b1
  have RA := hide ra
  have RB := hide rb
  obtain ⟨q0, hq0⟩ : ∃ q, G.b0 = q := ⟨_, rfl⟩
  obtain ⟨q1, hq1⟩ : ∃ q, G.b1 = q := ⟨_, rfl⟩
  rw [hq0] at a0 e0
  rw [hq1] at b0 e3
  rw [show (G.born m y).b0 = q0 from hq0] at RA
  rw [show ({ G.born m y with M0 := fun q => if q = y.id then some m else (G.born m y).M0 q } : Gh).b1 = q1 from hq1] at RB
  clear hPI hPI' CS h R hc hB hf hy hyb n0 n1 nm h1 mx mm ma ga h2 t2 mb gb h3 t3 hGB h4 tt eB xB lB oB mB nl ln kbd ra rb hd hid hbs hq0 hq1
  rcases (show d = 0 ∨ d = 1 by omega) with rfl | rfl
  all_goals
    clear hd2
    go_enter Try.func27, Try.ntmps27
    go_wp2_with fail
    refine still_tail 9 (by kernel_rfl) (by kernel_rfl) ?_
    simp only [List.take_succ_cons, List.take_zero, List.drop_succ_cons, List.drop_zero]
    repeat still_step
    refine wpStill_nil ?_
    have ra := RA.out
    go_wp2_with fail
    clear ra RA a0 e0 e1 a1 a1'
    refine still_tail 9 (by kernel_rfl) (by kernel_rfl) ?_
    simp only [List.take_succ_cons, List.take_zero, List.drop_succ_cons, List.drop_zero]
    repeat still_step
    refine wpStill_nil ?_
    have rb := RB.out
    go_wp2_with fail
    clear rb RB b0 e3 e4 b1 b1'
    refine still_tail 9 (by kernel_rfl) (by kernel_rfl) ?_
    simp only [List.take_succ_cons, List.take_zero, List.drop_succ_cons, List.drop_zero]
    repeat still_step
    refine wpStill_nil ?_
    go_wp2_with fail
    refine CC.out.mono ?_
    rintro e W2 ⟨rfl, a⟩
    clear CC
    go_wp2_with fail
    go_end0
    exact ⟨rfl, a⟩
end
end Go.Proofs.Ytdgjlekndhgjfaa
