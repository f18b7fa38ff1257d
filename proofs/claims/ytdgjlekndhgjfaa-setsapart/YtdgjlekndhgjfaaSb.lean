/- Package sets: a side's add and remove: contracts. -/
import Derived.Test.YtdgjlekndhgjfaaSa
import Derived.Test.YtdgjlekndhgjfaaHaA
import Derived.Test.YtdgjlekndhgjfaaHaK
import Derived.Laws.EntriesVeiled
namespace Go.Proofs.Ytdgjlekndhgjfaa
open Go.ChangeShapes Go.WideShapes Go.ChangeAt Go.RowKit Go.Shelf Go.Proofs.Rx Go.Maps Go.Proofs.Hm
set_option linter.unusedVariables false
set_option linter.unusedSimpArgs false

attribute [local go_sem] Oper.semAt_some

section
variable {W W' : World} {s c d m : Nat} {G : Gh} {k : Kd}
/-- Behind an add, a removal. -/
def Added (W W' : World) (s c : Nat) (G : Gh) (d : Nat) (o : Option Kd) (m : Nat) : Prop :=
  ∃ v' l' p', l'.Perm (m :: G.l d o) ∧ Parts W' s c (G.upd d o v' l' (m :: G.l d o) p') ∧ To W W' (Foot G s) (Foot (G.upd d o v' l' (m :: G.l d o) p') s)
def Removed (W W' : World) (s c : Nat) (G : Gh) (d : Nat) (o : Option Kd) (m : Nat) : Prop :=
  ∃ v' l' p', l'.Perm ((G.l d o).erase m) ∧ Parts W' s c (G.upd d o v' l' (G.l d o) p') ∧ To W W' (Foot G s) (Foot (G.upd d o v' l' (G.l d o) p') s)
theorem Added.from {o : Option Kd} (n : Nat) (h : Added (W.drewN n) W' s c G d o m) : Added W W' s c G d o m := by
  obtain ⟨v, l, p, a1, a2, a3⟩ := h
  exact ⟨v, l, p, a1, a2, (To.of_below (drewN_below W n) _).trans a3⟩
theorem Removed.from {o : Option Kd} (n : Nat) (h : Removed (W.drewN n) W' s c G d o m) : Removed W W' s c G d o m := by
  obtain ⟨v, l, p, a1, a2, a3⟩ := h
  exact ⟨v, l, p, a1, a2, (To.of_below (drewN_below W n) _).trans a3⟩
theorem heap_add (h : Parts W s c G) {d : Nat} {o : Option Kd} (hd : d < 2) (ho : G.on d o = true) {m : Nat} (hm : m ∈ G.ms) (hx : (G.x m).d = d ∧ ∀ k, o = some k → (G.x m).kd = k) (hn : m ∉ G.l d o) (hl : (G.l d o).length + 1 < 100000) :
    Calls Try.prog 38 #[.pointer (some ⟨hbI s G d o, offI d o, none⟩), .pointer (some ⟨m, 0, none⟩)] W fun e W' => e = .returned (.tuple #[]) ∧ Added W W' s c G d o m := by
  have C := h.hpc hd ho
  have bm := h.mb m hm
  have t := h.tgm hm
  have n2 : (G.v d o).ownBlock ≠ some m := fun e => ((h.row d o hd ho).tg e).ne t (by decide) rfl
  have lim : G.B m < 18446744073709551616 := h.pl.lim m hm
  cases o with
  | none => exact (addA C (h.pl.ord d none hd ho) m (G.p false m) hn (by rw [show (6 : Nat) = pkI none from rfl, q_set]; exact bm) rfl rfl lim (t.ne h.sb.tg (by decide)) n2 hl).mono fun e W' ⟨he, a⟩ => ⟨he, h.added hd ho hm hx a⟩
  | some k => exact (addK C (h.pl.ord d (some k) hd ho) m (G.p true m) hn (by rw [show (7 : Nat) = pkI (some k) from rfl, q_set]; exact bm) rfl rfl lim (t.ne (h.hk d k hd ho).tg (by decide)) n2 hl).mono fun e W' ⟨he, a⟩ => ⟨he, h.added hd ho hm hx a⟩
theorem heap_remove (h : Parts W s c G) {d : Nat} {o : Option Kd} (hd : d < 2) (ho : G.on d o = true) {m : Nat} (hm : m ∈ G.l d o) (hl : (G.l d o).length < 100000) :
    Calls Try.prog 39 #[.pointer (some ⟨hbI s G d o, offI d o, none⟩), .pointer (some ⟨m, 0, none⟩)] W fun e W' => e = .returned (.tuple #[]) ∧ Removed W W' s c G d o m := by
  have C := h.hpc hd ho
  cases o with
  | none => exact (removeA C (h.pl.ord d none hd ho) m hm hl).mono fun e W' ⟨he, a⟩ => ⟨he, h.removed hd ho hm a⟩
  | some k => exact (removeK C (h.pl.ord d (some k) hd ho) m hm hl).mono fun e W' ⟨he, a⟩ => ⟨he, h.removed hd ho hm a⟩
theorem kinds_cell (h : Parts W s c G) {d : Nat} (hd : d < 2) : W.cell? ⟨s, 2 + 4 * d + 3, none⟩ = some (.map (some (G.mb d))) := by
  rcases (show d = 0 ∨ d = 1 by omega) with rfl | rfl
  · exact h.sb.cell 5 _ rfl
  · exact h.sb.cell 9 _ rfl
theorem load_heap {b : Nat} {x y z : Value} (h : Bk W b 55 #[x, y, z]) : (loadVar 55 ⟨b, 0, none⟩).run Try.prog W = .ok (.agg #[x, y, z]) W := by
  have e0 := h.cell 0 _ rfl
  have e1 := h.cell 1 _ rfl
  have e2 := h.cell 2 _ rfl
  simp [go_sem, Nat.add_assoc, e0, e1, e2, Result.andThen]
theorem byBase_any (W : World) (pf : Nat) : Calls Try.prog 31 #[.func (.func pf) #[] #[]] W fun e W' => e = .returned (.agg (Hv (.slice none 0 0) pf)) ∧ Below W.heap.size W W' := by
  obtain ⟨WA, hWA⟩ : ∃ WA, W.alloc (.cells #[.slice none 0 0, .nilFunc, .nilFunc] 55) = WA := ⟨_, rfl⟩
  have kb : Bk WA W.heap.size 55 #[.slice none 0 0, .nilFunc, .nilFunc] := by rw [← hWA]; exact World.alloc_heap_new W _
  have bA : Below W.heap.size W WA := by rw [← hWA]; exact below_alloc W _
  obtain ⟨ab, hab⟩ : ∃ ab, W.heap.size = ab := ⟨_, rfl⟩
  rw [hab] at kb
  have y0 := kb.cell 0 _ rfl
  have y1 := kb.cell 1 _ rfl
  have y2 := kb.cell 2 _ rfl
  have z0 := kb.fz 0
  have z1 := kb.fz 1
  have z2 := kb.fz 2
  have k1 := kb.set 0 (.slice none 0 0)
  have k2 := k1.set 1 cmpV
  have u1 := k1.cell 1 _ rfl
  have v1 := k1.fz 1
  have u2 := k2.cell 2 _ rfl
  have v2 := k2.fz 2
  have KB := hide ((kb.set 0 (.slice none 0 0)).set 1 cmpV |>.set 2 (.func (.func pf) #[] #[]))
  have FB := hide (show Below W.heap.size W (((WA.setCell ⟨ab, 0, none⟩ (.slice none 0 0)).setCell ⟨ab, 1, none⟩ cmpV).setCell ⟨ab, 2, none⟩ (.func (.func pf) #[] #[])) from ((bA.setCell (by show W.heap.size ≤ ab; omega) _).setCell (by show W.heap.size ≤ ab; omega) _).setCell (by show W.heap.size ≤ ab; omega) _)
  have HH := hide (And.intro hab hWA)
  unfold Hv
  unfold cmpV at KB FB u2 v2 ⊢
  clear hab hWA bA kb k1 k2
  go_enter Try.func31, Try.ntmps31
  go_upto_region 1 with fail
  rw [HH.out.2, HH.out.1]
  go_wp2_with fail
  exact bodyPost_ret (results_c Try.results31 _ _ ⟨ab, 0, none⟩ _ rfl (load_heap KB.out)) rfl ⟨rfl, FB.out⟩
/-- What m's block tells. -/
theorem mem_cells (h : Parts W s c G) {m : Nat} (hm : m ∈ G.ms) : W.cell? ⟨m, 2, none⟩ = some (.int .i64 (G.x m).kd.c) ∧ W.cell? ⟨m, 3, none⟩ = some (.bool (G.x m).kd.a) ∧ W.cell? ⟨m, 4, none⟩ = some (.bool (G.x m).kd.f) ∧ W.cell? ⟨m, 0, none⟩ = some (.int .i64 (G.x m).id) ∧ W.cell? ⟨m, 1, none⟩ = some (.int .u64 ((G.x m).base : Nat)) ∧ W.cell? ⟨m, 5, none⟩ = some (.int .i64 ((G.x m).d : Nat)) :=
  ⟨(h.mb m hm).cell 2 _ rfl, (h.mb m hm).cell 3 _ rfl, (h.mb m hm).cell 4 _ rfl, (h.mb m hm).cell 0 _ rfl, (h.mb m hm).cell 1 _ rfl, (h.mb m hm).cell 5 _ rfl⟩
/-- Behind a side's add: added to its kind's heap first. -/
def SideAdded (W W' : World) (s c : Nat) (G : Gh) (d m : Nat) (k : Kd) : Prop :=
  ∃ v1 l1 p1 v2 l2 p2, l1.Perm (m :: G.l d (some k)) ∧ l2.Perm (m :: G.l d none) ∧
    Parts W' s c ((G.upd d (some k) v1 l1 (m :: G.l d (some k)) p1).upd d none v2 l2 (m :: G.l d none) p2) ∧
    To W W' (Foot G s) (Foot ((G.upd d (some k) v1 l1 (m :: G.l d (some k)) p1).upd d none v2 l2 (m :: G.l d none) p2) s)
theorem upd_l_none (G : Gh) (d : Nat) (k : Kd) (v' : Value) (l' T : List Nat) (p' : Nat → Int) : (G.upd d (some k) v' l' T p').l d none = G.l d none := by
  show (if d = d ∧ none = some k then l' else G.l d none) = _
  rw [if_neg (by simp)]
/-- The second add, behind the first. -/
theorem second_add (A : Added W W' s c G d (some k) m) (hd : d < 2) (hm : m ∈ G.ms) (hx : (G.x m).d = d) (hn0 : m ∉ G.l d none) (hl0 : (G.l d none).length + 1 < 100000) :
    Calls Try.prog 38 #[.pointer (some ⟨s, 2 + 4 * d, none⟩), .pointer (some ⟨m, 0, none⟩)] W' fun e W2 => e = .returned (.tuple #[]) ∧ SideAdded W W2 s c G d m k := by
  obtain ⟨v1, l1, p1, pm, h1, t1⟩ := A
  have e := upd_l_none G d k v1 l1 (m :: G.l d (some k)) p1
  refine (heap_add (o := none) h1 hd (h1.pl.on0 d hd) hm ⟨hx, fun k e => by cases e⟩ (by rw [e]; exact hn0) (by rw [e]; exact hl0)).mono fun e' W2 ⟨he, v2, l2, p2, pm2, h2, t2⟩ => ?_
  rw [e] at pm2 h2 t2
  exact ⟨he, v1, l1, p1, v2, l2, p2, pm, pm2, h2, t1.trans t2⟩
theorem side_add_on (h : Parts W s c G) {d : Nat} (hd : d < 2) {m : Nat} (hm : m ∈ G.ms) {k : Kd} (hx : (G.x m).d = d) (hk : (G.x m).kd = k) (hkb : -9223372036854775808 ≤ k.c ∧ k.c ≤ 9223372036854775807) (ho : G.on d (some k) = true) (hn : m ∉ G.l d (some k)) (hn0 : m ∉ G.l d none)
    (hl : (G.l d (some k)).length + 1 < 100000) (hl0 : (G.l d none).length + 1 < 100000) :
    Calls Try.prog 34 #[.pointer (some ⟨s, 2 + 4 * d, none⟩), .pointer (some ⟨m, 0, none⟩)] W fun e W' => e = .returned (.tuple #[]) ∧ SideAdded W W' s c G d m k := by
  have c1 := fun n => kinds_cell (h.below (drewN_below W n)) hd
  obtain ⟨y2, y3, y4, -, -, -⟩ := mem_cells h hm
  rw [hk] at y2 y3 y4
  have l0 := fun n => ((h.below (drewN_below W n)).m2 d hd).look tyK (zeroH (W.drewN n)) (p := k) hkb
  rw [show (if G.on d (some k) = true then some (G.kb d k) else none) = some (G.kb d k) by rw [ho]; rfl] at l0
  rw [show valO encPt (some (G.kb d k)) = .pointer (some ⟨G.kb d k, 0, none⟩) from rfl, show keyK.kv k = kdV k from rfl] at l0
  have C1 := hide (fun n => (heap_add (o := some k) (h.below (drewN_below W n)) hd ho hm ⟨hx, fun k' e => by cases e; exact hk⟩ hn hl).mono (R' := fun e W' => e = .returned (.tuple #[]) ∧ Added W W' s c G d (some k) m) fun e W' ⟨he, a⟩ => ⟨he, a.from n⟩)
  have C2 := hide (fun W' (A : Added W W' s c G d (some k) m) => second_add A hd hm hx hn0 hl0)
  rw [show hbI s G d (some k) = G.kb d k from rfl, show offI d (some k) = 0 from rfl] at C1
  have c1' := c1 0
  obtain ⟨o, hoo⟩ : ∃ o, 2 + 4 * d = o := ⟨_, rfl⟩
  obtain ⟨hb, hhb⟩ : ∃ hb, G.kb d k = hb := ⟨_, rfl⟩
  rw [hhb] at l0 C1
  rw [hoo] at c1 C2 ⊢
  unfold kdV at l0
  obtain ⟨R, hR⟩ : ∃ R : World → Prop, (fun W' => SideAdded W W' s c G d m k) = R := ⟨_, rfl⟩
  have hR' : ∀ W', SideAdded W W' s c G d m k = R W' := fun W' => congrFun hR W'
  simp only [hR'] at C2 ⊢
  obtain ⟨kc, ka, kf⟩ := k
  simp only [] at l0 y2 y3 y4
  have cA : W.cell? ⟨s, o + 3, none⟩ = some (.map (some (G.mb d))) := c1 0
  obtain ⟨mb, hmb⟩ : ∃ mb, G.mb d = mb := ⟨_, rfl⟩
  rw [hmb] at l0 cA
  clear h hd hm hx hk ho hn hn0 hl hl0 hoo hhb hR hR' c1 c1' hmb hkb
  go_enter Try.func34, Try.ntmps34
  go_wp2_with fail
  go_quiet (fail)
  go_wp2_with fail
  refine (C1.out _).mono ?_
  rintro e W1 ⟨rfl, a⟩
  have CC := hide (C2.out W1 a)
  clear a C1 C2
  go_wp2_with fail
  refine CC.out.mono ?_
  rintro e W2 ⟨rfl, a⟩
  clear CC
  go_wp2_with fail
  go_end0
  exact ⟨rfl, a⟩
end
end Go.Proofs.Ytdgjlekndhgjfaa
