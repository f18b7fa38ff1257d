/- Package sets: a side's remove: contract. -/
import Derived.Test.YtdgjlekndhgjfaaSc
namespace Go.Proofs.Ytdgjlekndhgjfaa
open Go.ChangeShapes Go.WideShapes Go.ChangeAt Go.RowKit Go.Shelf Go.Proofs.Rx Go.Maps Go.Proofs.Hm
set_option linter.unusedVariables false
set_option linter.unusedSimpArgs false

attribute [local go_sem] Oper.semAt_some

section
variable {W W' : World} {s c d m : Nat} {G : Gh} {k : Kd}
/-- Behind the removal from the kind's heap; the kind goes with its last one. -/
def KindLeft (W W' : World) (s c : Nat) (G : Gh) (d m : Nat) (k : Kd) : Prop :=
  ∃ v1 l1 p1, l1.Perm ((G.l d (some k)).erase m) ∧
    Parts W' s c (if l1 = [] then (G.upd d (some k) v1 l1 (G.l d (some k)) p1).go d k else G.upd d (some k) v1 l1 (G.l d (some k)) p1) ∧
    To W W' (Foot G s) (Foot (if l1 = [] then (G.upd d (some k) v1 l1 (G.l d (some k)) p1).go d k else G.upd d (some k) v1 l1 (G.l d (some k)) p1) s)
def SideRemoved (W W' : World) (s c : Nat) (G : Gh) (d m : Nat) (k : Kd) : Prop :=
  ∃ v1 l1 p1 v2 l2 p2, l1.Perm ((G.l d (some k)).erase m) ∧ l2.Perm ((G.l d none).erase m) ∧
    Parts W' s c ((if l1 = [] then (G.upd d (some k) v1 l1 (G.l d (some k)) p1).go d k else G.upd d (some k) v1 l1 (G.l d (some k)) p1).upd d none v2 l2 (G.l d none) p2) ∧
    To W W' (Foot G s) (Foot ((if l1 = [] then (G.upd d (some k) v1 l1 (G.l d (some k)) p1).go d k else G.upd d (some k) v1 l1 (G.l d (some k)) p1).upd d none v2 l2 (G.l d none) p2) s)
theorem second_remove (A : KindLeft W W' s c G d m k) (hd : d < 2) (hm : m ∈ G.l d none) (hl : (G.l d none).length < 100000) :
    Calls Try.prog 39 #[.pointer (some ⟨s, 2 + 4 * d, none⟩), .pointer (some ⟨m, 0, none⟩)] W' fun e W2 => e = .returned (.tuple #[]) ∧ SideRemoved W W2 s c G d m k := by
  obtain ⟨v1, l1, p1, pm, h1, t1⟩ := A
  have e : (if l1 = [] then (G.upd d (some k) v1 l1 (G.l d (some k)) p1).go d k else G.upd d (some k) v1 l1 (G.l d (some k)) p1).l d none = G.l d none := by
    split
    · exact upd_l_none G d k v1 l1 (G.l d (some k)) p1
    · exact upd_l_none G d k v1 l1 (G.l d (some k)) p1
  refine (heap_remove (o := none) h1 hd (h1.pl.on0 d hd) (by rw [e]; exact hm) (by rw [e]; exact hl)).mono fun e' W2 ⟨he, v2, l2, p2, pm2, h2, t2⟩ => ?_
  rw [e] at pm2 h2 t2
  exact ⟨he, v1, l1, p1, v2, l2, p2, pm, pm2, h2, t1.trans t2⟩
theorem upd_l_same (G : Gh) (d : Nat) (o : Option Kd) (v' : Value) (l' T : List Nat) (p' : Nat → Int) : (G.upd d o v' l' T p').l d o = l' := by
  show (if d = d ∧ o = o then l' else G.l d o) = _
  rw [if_pos ⟨rfl, rfl⟩]
theorem side_remove (h : Parts W s c G) (hd : d < 2) (hk : (G.x m).kd = k) (hkb : -9223372036854775808 ≤ k.c ∧ k.c ≤ 9223372036854775807) (ho : G.on d (some k) = true) (hm : m ∈ G.l d (some k)) (hm0 : m ∈ G.l d none) (hl : (G.l d (some k)).length < 100000) (hl0 : (G.l d none).length < 100000) :
    Calls Try.prog 35 #[.pointer (some ⟨s, 2 + 4 * d, none⟩), .pointer (some ⟨m, 0, none⟩)] W fun e W' => e = .returned (.tuple #[]) ∧ SideRemoved W W' s c G d m k := by
  have hms := (h.pl.sub d (some k) hd ho m hm).1
  have c1 := fun n => kinds_cell (h.below (drewN_below W n)) hd
  obtain ⟨y2, y3, y4, -, -, -⟩ := mem_cells h hms
  simp only [hk] at y2 y3 y4
  have l0 := fun n => ((h.below (drewN_below W n)).m2 d hd).look tyK (zeroH (W.drewN n)) (p := k) hkb
  rw [show (if G.on d (some k) = true then some (G.kb d k) else none) = some (G.kb d k) by rw [ho]; rfl] at l0
  rw [show valO encPt (some (G.kb d k)) = .pointer (some ⟨G.kb d k, 0, none⟩) from rfl, show keyK.kv k = kdV k from rfl] at l0
  have C1 := hide (fun n => (heap_remove (o := some k) (h.below (drewN_below W n)) hd ho hm hl).mono (R' := fun e W' => e = .returned (.tuple #[]) ∧ Removed W W' s c G d (some k) m) fun e W' ⟨he, a⟩ => ⟨he, a.from n⟩)
  rw [show hbI s G d (some k) = G.kb d k from rfl, show offI d (some k) = 0 from rfl] at C1
  have C2 := hide (fun W' (A : KindLeft W W' s c G d m k) => second_remove A hd hm0 hl0)
  obtain ⟨o, hoo⟩ : ∃ o, 2 + 4 * d = o := ⟨_, rfl⟩
  rw [hoo] at c1 C2 ⊢
  obtain ⟨hb, hhb⟩ : ∃ hb, G.kb d k = hb := ⟨_, rfl⟩
  obtain ⟨mb, hmb⟩ : ∃ mb, G.mb d = mb := ⟨_, rfl⟩
  have cA : W.cell? ⟨s, o + 3, none⟩ = some (.map (some (G.mb d))) := c1 0
  have KK := hide (show (∀ W1, Removed W W1 s c G d (some k) m →
      (Calls Try.prog 28 #[.pointer (some ⟨hb, 0, none⟩)] W1 (fun e W2 => e = .returned (.pointer none) ∧ W2 = W1) ∧ W1.drew.cell? ⟨s, o + 3, none⟩ = some (.map (some mb)) ∧ (W1.drew.cell? ⟨m, 2, none⟩ = some (.int .i64 k.c) ∧ W1.drew.cell? ⟨m, 3, none⟩ = some (.bool k.a) ∧ W1.drew.cell? ⟨m, 4, none⟩ = some (.bool k.f)) ∧
        ∃ W2, (Builtin.delete_ #[56, 72] 0 #[.map (some mb), kdV k]).run Try.prog W1.drew = .ok (.tuple #[]) W2 ∧ KindLeft W W2 s c G d m k) ∨
      ((∃ m1, Calls Try.prog 28 #[.pointer (some ⟨hb, 0, none⟩)] W1 (fun e W2 => e = .returned (.pointer (some ⟨m1, 0, none⟩)) ∧ W2 = W1)) ∧ KindLeft W W1 s c G d m k)) from by
    rintro W1 ⟨v1, l1, p1, pm, h1, t1⟩
    have H := (h1.hpc hd (o := some k) ho).hp
    rw [upd_l_same, show hbI s (G.upd d (some k) v1 l1 (G.l d (some k)) p1) d (some k) = hb from hhb, show offI d (some k) = 0 from rfl] at H
    by_cases e : l1 = []
    · rw [e] at H
      obtain ⟨z2, z3, z4, -, -, -⟩ := mem_cells (h1.below (drew_below W1)) hms
      have kd1 : (G.upd d (some k) v1 l1 (G.l d (some k)) p1).x m = G.x m := rfl
      rw [kd1, hk] at z2 z3 z4
      have z0 := kinds_cell (h1.below (drew_below W1)) hd
      obtain ⟨W2, r, m2, g⟩ := ((h1.below (drew_below W1)).m2 d hd).del tyK 0 (p := k) hkb
      rw [show (G.upd d (some k) v1 l1 (G.l d (some k)) p1).mb d = mb from hmb] at r z0
      rw [hoo] at z0
      obtain ⟨p2, t2⟩ := (h1.below (drew_below W1)).go hd m2 g
      refine .inl ⟨first_none H, z0, ⟨z2, z3, z4⟩, W2, r, v1, l1, p1, pm, ?_, ?_⟩
      · rw [if_pos e]; exact p2
      · rw [if_pos e]; exact (t1.trans (To.of_below (drew_below W1) _)).trans t2
    · refine .inr ⟨⟨_, first_some H (List.length_pos_iff.2 e)⟩, v1, l1, p1, pm, ?_, ?_⟩
      · rw [if_neg e]; exact h1
      · rw [if_neg e]; exact t1)
  rw [hmb] at l0 cA
  rw [hhb] at l0 C1
  unfold kdV at l0 KK
  obtain ⟨RA, hRA⟩ : ∃ R : World → Prop, (fun W' => SideRemoved W W' s c G d m k) = R := ⟨_, rfl⟩
  have hRA' : ∀ W', SideRemoved W W' s c G d m k = RA W' := fun W' => congrFun hRA W'
  simp only [hRA'] at C2 ⊢
  obtain ⟨KL, hKL⟩ : ∃ R : World → Prop, (fun W' => KindLeft W W' s c G d m k) = R := ⟨_, rfl⟩
  have hKL' : ∀ W', KindLeft W W' s c G d m k = KL W' := fun W' => congrFun hKL W'
  simp only [hKL'] at C2 KK
  obtain ⟨RM, hRM⟩ : ∃ R : World → Prop, (fun W' => Removed W W' s c G d (some k) m) = R := ⟨_, rfl⟩
  have hRM' : ∀ W', Removed W W' s c G d (some k) m = RM W' := fun W' => congrFun hRM W'
  simp only [hRM'] at C1 KK
  clear hRA hRA' hKL hKL' hRM hRM' h hd hk hkb ho hm hm0 hl hl0 hms c1 hoo hhb hmb
  obtain ⟨kc, ka, kf⟩ := k
  simp only [] at l0 y2 y3 y4 KK
  go_enter Try.func35, Try.ntmps35
  go_wp2_with fail
  go_quiet (fail)
  go_wp2_with fail
  refine (C1.out _).mono ?_
  rintro e W1 ⟨rfl, a⟩
  have K1 := KK.out W1 a
  clear C1 KK a l0 y2 y3 y4 cA
  rcases K1 with ⟨cf, z0, ⟨z2, z3, z4⟩, W2, r, kl⟩ | ⟨⟨m1, cf⟩, kl⟩
  · have CF := hide cf
    have CC := hide (C2.out _ kl)
    have RUN := hide r
    clear cf kl C2 r
    go_wp2_with fail
    refine CF.out.mono ?_
    rintro e W3 ⟨rfl, hw⟩
    rw [hw]
    clear hw CF
    go_wp2_with fail
    refine still_tail 8 (by kernel_rfl) (by kernel_rfl) ?_
    simp only [List.take_succ_cons, List.take_zero, List.drop_succ_cons, List.drop_zero]
    repeat still_step
    refine wpStill_nil ?_
    have r := RUN.out
    go_wp2_with fail
    refine CC.out.mono ?_
    rintro e W2 ⟨rfl, a⟩
    clear CC
    go_wp2_with fail
    go_end0
    exact ⟨rfl, a⟩
  · have CF := hide cf
    have CC := hide (C2.out _ kl)
    clear cf kl C2
    go_wp2_with fail
    refine CF.out.mono ?_
    rintro e W3 ⟨rfl, hw⟩
    rw [hw]
    clear hw CF
    go_wp2_with fail
    refine CC.out.mono ?_
    rintro e W2 ⟨rfl, a⟩
    clear CC
    go_wp2_with fail
    go_end0
    exact ⟨rfl, a⟩
end
end Go.Proofs.Ytdgjlekndhgjfaa
