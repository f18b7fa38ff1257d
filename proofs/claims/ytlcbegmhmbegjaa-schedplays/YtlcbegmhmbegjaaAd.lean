/- A task's next step, and the end of all. -/
import Derived.Test.YtlcbegmhmbegjaaWe
import Derived.Defers
import Derived.Recover
import Derived.Laws.Pointers
namespace Go.Proofs.Ytlcbegmhmbegjaa
open Go.ChangeShapes Go.WideShapes Go.ChangeAt Go.RowKit Go.Proofs.Sc Go.Maps
set_option linter.unusedVariables false
set_option linter.unusedSimpArgs false

variable {w w' : World} {b : Nat} {S : Sc} {v0 v3 : Value} {bh bc n : Nat} {vs : List Value} {T : Nat → Prop}
set_option maxRecDepth 100000 in
theorem catch_end (p q b : Nat) (x y : Value) (w : World) (cp : w.cell? ⟨p, 0, none⟩ = some (.pointer (some ⟨b, 0, none⟩))) (cq : w.cell? ⟨q, 0, none⟩ = some x) (fq : w.frozen? ⟨q, 0, none⟩ = false) (cb : w.cell? ⟨b, 4, none⟩ = some y) (fb : w.frozen? ⟨b, 4, none⟩ = false) (hqb : q ≠ b) :
    CallsD Try.prog 33 #[.pointer (some ⟨p, 0, none⟩), .pointer (some ⟨q, 0, none⟩)] (.panicking [{ v := .iface 61 (.agg #[]), recovered := false }]) w fun e u' w' =>
      e = .returned (.tuple #[]) ∧ u' = .panicking [{ v := .iface 61 (.agg #[]), recovered := true }] ∧ w' = ((w.setCell ⟨b, 4, none⟩ (.bool true)).setCell ⟨q, 0, none⟩ (.int .i64 20)).alloc (.cells #[] 61) := by
  have hpl := cell_lt cp
  have hql := cell_lt cq
  have hbl := cell_lt cb
  refine callsD_of_wpS Try.func33 rfl fun c₀ cs hu => ?_
  apply wpS_seq
  apply wpS_region
  simp [wpOpsS, go_sem, recoverD, hu, Try.ntmps33, Exit.thenS, Array.replicate]
  refine wpS_of_wp ?_
  clear hu
  have hta : ∀ (v : Value) (w : World), (Instr.typeAssert (.iface 61 v) 20 61 true).run Try.prog w = .ok (.tuple #[v, .bool true]) w := fun _ _ => rfl
  go_wp2_with fail
  cases c₀
  simp_all [bodyPostS, results, Try.results33]
theorem catch_idle (p q : Addr) (w : World) :
    CallsD Try.prog 33 #[.pointer (some p), .pointer (some q)] .returning w fun e u' w' => e = .returned (.tuple #[]) ∧ u' = .returning ∧ w' = w := by
  refine callsD_of_wpS Try.func33 rfl fun c₀ cs hu => ?_
  apply wpS_seq
  apply wpS_region
  simp [wpOpsS, go_sem, recoverD, hu, Try.ntmps33, Exit.thenS, Array.replicate]
  refine wpS_of_wp ?_
  go_wp2_with fail
  cases c₀
  simp_all [bodyPostS, results, Try.results33]
/-- A machine that has gone on: its blocks were its own, or are new. -/
def Went (w : World) (b : Nat) (S' : Sc) (v0 v3 : Value) (bh bc n : Nat) (T : Nat → Prop) (w' : World) : Prop :=
  ∃ v3' vs', Lies w' b S' v0 v3' bh bc n vs' T ∧ Kept (Foot b bh bc v0 v3 T) w w' ∧ ∀ x, v3'.ownBlock = some x → v3.ownBlock = some x ∨ w.heap.size ≤ x
theorem act_ahead (S : Sc) (i : Nat) (s : Stp) : (actS S i s).ahead = S.ahead := by
  unfold actS
  repeat' split
  all_goals rfl
theorem box2 (w : World) (x y : Value) (t u : TypeId) : Below w.heap.size w ((w.alloc (.cells #[x] t)).alloc (.cells #[y] u)) ∧ ((w.alloc (.cells #[x] t)).alloc (.cells #[y] u)).cell? ⟨w.heap.size, 0, none⟩ = some x ∧ ((w.alloc (.cells #[x] t)).alloc (.cells #[y] u)).cell? ⟨w.heap.size + 1, 0, none⟩ = some y ∧ ((w.alloc (.cells #[x] t)).alloc (.cells #[y] u)).frozen? ⟨w.heap.size + 1, 0, none⟩ = false ∧ ((w.alloc (.cells #[x] t)).alloc (.cells #[y] u)).heap.size = w.heap.size + 2 := by
  have e : (w.alloc (.cells #[x] t)).heap.size = w.heap.size + 1 := by simp
  refine ⟨((Below.refl _ _).alloc (Nat.le_refl _) _).alloc (by simp) _, ?_, ?_, ?_, by simp⟩
  · rw [World.cell?_alloc_lt _ _ _ (by simp), World.cell?_alloc_new]; rfl
  · rw [← e, World.cell?_alloc_new]; rfl
  · have h := heap_alloc_new (w.alloc (.cells #[x] t)) (.cells #[y] u)
    rw [← e]
    simp only [World.frozen?, h]
    rfl
theorem advance_bad (l : Lies w b S v0 v3 bh bc n vs T) (wf : Wf S) (i : Nat) (a x : Int) (r : List Stp) (hi : S.ahead[i]? = some (⟨2, a, x⟩ :: r)) (hh : S.hold a ≠ some i) :
    Calls Try.prog 22 #[.pointer (some ⟨b, 0, none⟩), .int .i64 (i : Int)] w fun e w' => e = .returned (.int .i64 20) ∧ Went w b { S with over := true } v0 v3 bh bc n T w' := by
  have hmf : ∀ (fn : Fn) (first cap : Array Value) (w : World), (Instr.makeFunc fn first cap).run Try.prog w = .ok (.func fn first cap) w := fun _ _ _ _ => rfl
  have hil : i < S.ahead.length := (List.getElem?_eq_some_iff.1 hi).1
  have hi64 : (i : Int) ≤ 64 := by have := wf.tasks; omega
  have hmem : (⟨2, a, x⟩ :: r) ∈ S.ahead := List.mem_of_getElem? hi
  have hok := wf.ok _ hmem ⟨2, a, x⟩ (by simp)
  obtain ⟨bx, bx0, bx1, bx2, bxs⟩ := box2 w (.pointer (some ⟨b, 0, none⟩)) (.int .i64 0) 26 27
  obtain ⟨W0, hW0⟩ : ∃ W0, W0 = (w.alloc (.cells #[.pointer (some ⟨b, 0, none⟩)] 26)).alloc (.cells #[.int .i64 0] 27) := ⟨_, rfl⟩
  rw [← hW0] at bx bx0 bx1 bx2 bxs
  have l0 := l.below bx
  have ld := l.below bx.drew
  have D := hide (do_bad ld wf i hi64 a x hok.a hh)
  have hbl := l.lt (Or.inl rfl)
  obtain ⟨g, cap, v, e0, cv, _, hv, _⟩ := l0.at hi
  obtain ⟨o, cap2, rfl, h2, h3, h4, h5⟩ := hv
  obtain ⟨gs, off, rfl, _, hgs, hc⟩ := h5 (by simp)
  obtain ⟨q0, q1, q2⟩ := hc 0 ⟨2, a, x⟩ rfl
  rw [Nat.zero_mul, Nat.add_zero] at q0 q1 q2
  subst e0
  have c0 := l0.c0
  obtain ⟨k, hk⟩ : ∃ k, S.ahead.length = k := ⟨_, rfl⟩
  have tk := wf.tasks
  obtain ⟨j, hj⟩ : ∃ j, ((⟨2, a, x⟩ : Stp) :: r).length = j := ⟨_, rfl⟩
  have j0 : 0 < j := by rw [← hj]; simp
  rw [hj] at cv h2
  rw [hk] at c0 hil tk
  have i1 : (i : Int) < (k : Int) := by omega
  have i2 : (0 : Int) ≤ (i : Int) := by omega
  have j1 : (0 : Int) < (j : Int) := by omega
  have FL : Hid (∀ y, Foot b bh bc (.slice (some ⟨g, 0, none⟩) S.ahead.length cap) v3 T y → y < w.heap.size) := hide (fun y hy => l.lt hy)
  have HW0 := hide hW0
  have L := hide ld
  have BX := hide bx
  have BXS := hide bxs
  obtain ⟨PO, hPO⟩ : ∃ PO, PO = Went w b { S with over := true } (.slice (some ⟨g, 0, none⟩) S.ahead.length cap) v3 bh bc n T := ⟨_, rfl⟩
  rw [← hPO]
  have FN := hide hPO
  clear hPO hW0 l l0 ld bx hc h4 h5 hh hmem hok hk hj hgs wf hi
  go_enter_defers Try.func22, Try.ntmps22
  go_wp2_with fail
  rw [← HW0.out]
  refine still_tail 11 (by kernel_rfl) (by kernel_rfl) ?_
  simp only [List.take_succ_cons, List.take_zero, List.drop_succ_cons, List.drop_zero]
  repeat still_step
  refine wpStill_nil ?_
  go_wp2_with fail
  refine D.out.mono ?_
  rintro e w2 ⟨rfl, B2⟩
  obtain ⟨p1, p2⟩ := bcell B2
  have hds : W0.drew.heap.size = w.heap.size + 2 := bxs
  have cp := (p1 w.heap.size 0 (by omega)).trans bx0
  have cq := (p1 (w.heap.size + 1) 0 (by omega)).trans bx1
  have fq := (p2 (w.heap.size + 1) 0 (by omega)).trans bx2
  have cb := (p1 b 4 (by omega)).trans L.out.c4
  have fb := (p2 b 4 (by omega)).trans (L.out.fz 4)
  have b2 := cell_lt cq
  have HB2 := hide B2
  clear p1 p2 B2 D
  go_wp2_with fail
  refine leaves_cons (f := 33) (args := #[.pointer (some ⟨w.heap.size, 0, none⟩), .pointer (some ⟨w.heap.size + 1, 0, none⟩)]) (by simp) (by simp [go_sem]) ?_
  refine (catch_end w.heap.size (w.heap.size + 1) b _ _ _ cp cq fq cb fb (by omega)).mono ?_
  rintro e u' w'' ⟨rfl, rfl, rfl⟩
  have cr : ((w2.setCell ⟨b, 4, none⟩ (.bool true)).setCell ⟨w.heap.size + 1, 0, none⟩ (.int .i64 20)).cell? ⟨w.heap.size + 1, 0, none⟩ = some (.int .i64 20) := set_same ((World.cell?_of_block (set_far (show w.heap.size + 1 ≠ b by omega))).trans cq)
  simp [Leaves, settle, results, Try.results22, go_sem, b2, cr]
  rw [FN.out]
  have B3 : Below w.heap.size w w2 := (BX.out.drew).trans (HB2.out.mono (by rw [hds]; omega))
  have L2 := L.out.below HB2.out
  have hbn : b ≠ w.heap.size + 1 := by omega
  have K2 : Kept (Foot b bh bc (.slice (some ⟨g, 0, none⟩) S.ahead.length cap) v3 T) w (w2.setCell ⟨b, 4, none⟩ (.bool true)) := below_kept B3 (Kept.of_set _ b 4 _ (Or.inl rfl))
  have L3 := L2.stop
  have hs2 : w.heap.size + 2 ≤ w2.heap.size := by have := HB2.out.size; omega
  refine ⟨v3, vs, L3.kept (by simp) (fun y hy => ?_), ?_, fun y hy => Or.inl hy⟩
  · have := FL.out y hy
    rw [Below.heap_alloc _ _ _ (by simp; omega), set_far (show y ≠ w.heap.size + 1 by omega)]
  · refine K2.trans (G := fun y => y = w.heap.size + 1) ?_ (fun y hy => Or.inr (by omega))
    exact ⟨rfl, rfl, rfl, by simp, fun y hy hn => by rw [Below.heap_alloc _ _ _ (by simpa using hy), set_far hn]⟩
/-- What is left of a task's steps behind the first. -/
theorem steps_tail {w : World} {gs off cap j : Nat} {s : Stp} {r : List Stp} {T : Nat → Prop} (hT : T gs) (hg : gs < w.heap.size) (hj : (s :: r).length = j) (hc : ∀ (i : Nat) (s' : Stp), (s :: r)[i]? = some s' → w.cell? ⟨gs, off + i * 3, none⟩ = some (.int .i64 s'.op) ∧ w.cell? ⟨gs, off + i * 3 + 1, none⟩ = some (.int .i64 s'.a) ∧ w.cell? ⟨gs, off + i * 3 + 2, none⟩ = some (.int .i64 s'.b)) (h2 : j ≤ cap) (h3 : cap ≤ 9223372036854775807) :
    StepsAt w (.slice (some ⟨gs, off + 3, none⟩) (j - 1) (cap - 1)) r T := by
  have hr : r.length = j - 1 := by simp at hj; omega
  refine ⟨_, cap - 1, by rw [hr], by omega, by omega, fun z => by (cases z), fun _ => ⟨gs, off + 3, rfl, hT, hg, fun i s' hi => ?_⟩⟩
  have := hc (i + 1) s' (by simpa using hi)
  rw [show off + (i + 1) * 3 = off + 3 + i * 3 by omega] at this
  exact this
theorem steps_last {w : World} {ad : Addr} {r : List Stp} {T : Nat → Prop} (hr : r.length = 0) : StepsAt w (.slice (some ad) 0 0) r T := by
  obtain rfl := List.eq_nil_of_length_eq_zero hr
  exact ⟨_, 0, rfl, Nat.le_refl _, by omega, fun _ => rfl, fun z => absurd rfl z⟩
theorem Kept.cell {F : Nat → Prop} {w w' : World} (h : Kept F w w') {x k : Nat} (hx : x < w.heap.size) (hn : ¬ F x) : w'.cell? ⟨x, k, none⟩ = w.cell? ⟨x, k, none⟩ := World.cell?_of_block (h.block x hx hn)
theorem Kept.fz {F : Nat → Prop} {w w' : World} (h : Kept F w w') {x k : Nat} (hx : x < w.heap.size) (hn : ¬ F x) : w'.frozen? ⟨x, k, none⟩ = w.frozen? ⟨x, k, none⟩ := fz_of_block (h.block x hx hn)
theorem go_done {w0 w2 : World} {S' : Sc} {g cap : Nat} {v3' : Value} {i : Nat} {t r : List Stp} {v u : Value} (L2 : Lies w2 b S' (.slice (some ⟨g, 0, none⟩) S.ahead.length cap) v3' bh bc n vs T) (K2 : Kept (Foot b bh bc (.slice (some ⟨g, 0, none⟩) S.ahead.length cap) v3 T) w0.drew w2) (N2 : ∀ x, v3'.ownBlock = some x → v3.ownBlock = some x ∨ w0.drew.heap.size ≤ x)
    (BX : Below w.heap.size w w0) (hs : w0.heap.size = w.heap.size + 2) (FL : ∀ y, Foot b bh bc (.slice (some ⟨g, 0, none⟩) S.ahead.length cap) v3 T y → y < w.heap.size) (hi : S.ahead[i]? = some t) (ha : S'.ahead = S.ahead) (hv : StepsAt w2 v r T) :
    Went w b { S' with ahead := S.ahead.set i r } (.slice (some ⟨g, 0, none⟩) S.ahead.length cap) v3 bh bc n T ((w2.drew.setCell ⟨g, i, none⟩ v).setCell ⟨w.heap.size + 1, 0, none⟩ u) := by
  have hds : w0.drew.heap.size = w.heap.size + 2 := hs
  have B0 : Below w.heap.size w w0.drew := BX.drew
  have k2 := K2.size
  have Ld : Lies w2.drew b S' (.slice (some ⟨g, 0, none⟩) S.ahead.length cap) v3' bh bc n vs T := L2.below (drew_below _)
  have vd : StepsAt w2.drew v r T := hv.kept (Nat.le_refl _) (fun x _ _ => rfl)
  rw [← ha] at Ld hi
  have L3 := Ld.next hi vd
  rw [ha] at L3
  have f3 : ∀ y, Foot b bh bc (.slice (some ⟨g, 0, none⟩) S.ahead.length cap) v3' T y → y ≠ w.heap.size + 1 := fun y hy => by
    rcases hy with z | z | z | z | z | z
    · have := FL y (Or.inl z); omega
    · have := FL y (Or.inr (Or.inl z)); omega
    · have := FL y (Or.inr (Or.inr (Or.inl z))); omega
    · have := FL y (Or.inr (Or.inr (Or.inr (Or.inl z)))); omega
    · rcases N2 y z with z | z
      · have := FL y (Or.inr (Or.inr (Or.inr (Or.inr (Or.inl z))))); omega
      · omega
    · have := FL y (Or.inr (Or.inr (Or.inr (Or.inr (Or.inr z))))); omega
  refine ⟨v3', _, L3.kept (by simp) (fun y hy => set_far (f3 y hy)), ?_, fun x hx => ?_⟩
  · refine (below_kept B0 K2).trans (G := fun y => Foot b bh bc (.slice (some ⟨g, 0, none⟩) S.ahead.length cap) v3 T y ∨ y = w.heap.size + 1) ?_ (fun y hy => hy.elim Or.inl (fun e => Or.inr (by omega)))
    refine ⟨rfl, rfl, rfl, by show w2.heap.size ≤ _; simp, fun y hy hn => ?_⟩
    rw [set_far (show y ≠ w.heap.size + 1 from fun e => hn (Or.inr e)), set_far (show y ≠ g from fun e => hn (Or.inl (Or.inr (Or.inr (Or.inr (Or.inl (by rw [e]; rfl)))))))]
    rfl
  · rcases N2 x hx with z | z
    · exact Or.inl z
    · right; omega
set_option maxRecDepth 100000 in
theorem advance_ok (l : Lies w b S v0 v3 bh bc n vs T) (wf : Wf S) (hn : n ≤ 20000) (i : Nat) (s : Stp) (r : List Stp) (hi : S.ahead[i]? = some (s :: r)) (hok : ¬ (s.op = 2 ∧ S.hold s.a ≠ some i)) :
    Calls Try.prog 22 #[.pointer (some ⟨b, 0, none⟩), .int .i64 (i : Int)] w fun e w' => e = .returned (.int .i64 0) ∧ Went w b { actS S i s with ahead := S.ahead.set i r } v0 v3 bh bc (n + 1) T w' := by
  have hmf : ∀ (fn : Fn) (first cap : Array Value) (w : World), (Instr.makeFunc fn first cap).run Try.prog w = .ok (.func fn first cap) w := fun _ _ _ _ => rfl
  have hil : i < S.ahead.length := (List.getElem?_eq_some_iff.1 hi).1
  have hi64 : (i : Int) ≤ 64 := by have := wf.tasks; omega
  have hmem : (s :: r) ∈ S.ahead := List.mem_of_getElem? hi
  obtain ⟨bx, bx0, bx1, bx2, bxs⟩ := box2 w (.pointer (some ⟨b, 0, none⟩)) (.int .i64 0) 26 27
  obtain ⟨W0, hW0⟩ : ∃ W0, W0 = (w.alloc (.cells #[.pointer (some ⟨b, 0, none⟩)] 26)).alloc (.cells #[.int .i64 0] 27) := ⟨_, rfl⟩
  rw [← hW0] at bx bx0 bx1 bx2 bxs
  have l0 := l.below bx
  have ld := l.below bx.drew
  have D := hide (do_ok ld wf hn (by have := wf.steps; omega) i hi64 s (wf.ok _ hmem s (by simp)) (wf.known _ hmem s (by simp)) hok)
  have hbl := l.lt (Or.inl rfl)
  obtain ⟨g, cap, v, e0, cv, hvi, hv, hfz⟩ := l0.at hi
  obtain ⟨o, cap2, rfl, h2, h3, h4, h5⟩ := hv
  obtain ⟨gs, off, rfl, hTg, hgs, hc⟩ := h5 (by simp)
  obtain ⟨q0, q1, q2⟩ := hc 0 s rfl
  rw [Nat.zero_mul, Nat.add_zero] at q0 q1 q2
  subst e0
  have c0 := l0.c0
  obtain ⟨k, hk⟩ : ∃ k, S.ahead.length = k := ⟨_, rfl⟩
  have tk := wf.tasks
  obtain ⟨j, hj⟩ : ∃ j, (s :: r).length = j := ⟨_, rfl⟩
  have j0 : 0 < j := by rw [← hj]; simp
  have hjr : r.length = j - 1 := by rw [← hj]; simp
  rw [hj] at cv h2 hvi
  rw [hk] at c0 hil tk
  have i1 : (i : Int) < (k : Int) := by omega
  have i2 : (0 : Int) ≤ (i : Int) := by omega
  have j1 : (0 : Int) < (j : Int) := by omega
  have FL : Hid (∀ y, Foot b bh bc (.slice (some ⟨g, 0, none⟩) S.ahead.length cap) v3 T y → y < w.heap.size) := hide (fun y hy => l.lt hy)
  have HJ := hide hj
  have HJR := hide hjr
  have HI := hide hi
  have HW0 := hide hW0
  have L := hide ld
  have BX := hide bx
  have BXS := hide bxs
  have HVI := hide hvi
  have HTG := hide hTg
  have HK := hide hk
  have HC := hide hc
  obtain ⟨PO, hPO⟩ : ∃ PO, PO = Went w b { actS S i s with ahead := S.ahead.set i r } (.slice (some ⟨g, 0, none⟩) S.ahead.length cap) v3 bh bc (n + 1) T := ⟨_, rfl⟩
  rw [← hPO]
  have FN := hide hPO
  obtain ⟨op, a, x⟩ := s
  simp only at q0 q1 q2
  clear hPO hW0 l l0 ld bx hc h4 h5 hmem hk hj hjr hgs wf hi hvi hTg hfz
  go_enter_defers Try.func22, Try.ntmps22
  go_wp2_with fail
  rw [← HW0.out]
  refine still_tail 11 (by kernel_rfl) (by kernel_rfl) ?_
  simp only [List.take_succ_cons, List.take_zero, List.drop_succ_cons, List.drop_zero]
  repeat still_step
  refine wpStill_nil ?_
  go_wp2_with fail
  refine D.out.mono ?_
  rintro e w2 ⟨rfl, v3', L2, K2, N2⟩
  have hds : W0.drew.heap.size = w.heap.size + 2 := bxs
  have n1 : ¬ Foot b bh bc (.slice (some ⟨g, 0, none⟩) S.ahead.length cap) v3 T w.heap.size := fun z => by have := FL.out _ z; omega
  have n2 : ¬ Foot b bh bc (.slice (some ⟨g, 0, none⟩) S.ahead.length cap) v3 T (w.heap.size + 1) := fun z => by have := FL.out _ z; omega
  have cp := (K2.cell (k := 0) (by omega) n1).trans bx0
  have cq := (K2.cell (k := 0) (by omega) n2).trans bx1
  have fq := (K2.fz (k := 0) (by omega) n2).trans bx2
  have b2 := cell_lt cq
  have hs2 : w.heap.size + 2 ≤ w2.heap.size := by have := K2.size; omega
  have e0 := L2.c0
  have hsz : (actS S i ⟨op, a, x⟩).ahead.length = S.ahead.length := by rw [act_ahead]
  have hai : (actS S i ⟨op, a, x⟩).ahead[i]? = some (⟨op, a, x⟩ :: r) := by rw [act_ahead]; exact HI.out
  rw [HK.out] at e0
  obtain ⟨g', cap', v', e1, cv', hvi', hv', hfz'⟩ := L2.at hai
  rw [hsz] at e1
  injection e1 with e1a e1b e1c
  injection e1a with e1a
  injection e1a with e1a
  subst e1a e1c
  have ev : v' = .slice (some ⟨gs, off, none⟩) j cap2 := by
    have := HVI.out.symm.trans hvi'
    injection this with this
    exact this.symm
  subst ev
  have fg := hfz' i
  have hgl := cell_lt cv'
  obtain ⟨o3, cap3, ee, _, _, _, h6⟩ := hv'
  obtain ⟨gs3, off3, rfl, _, hgs3, hc3⟩ := h6 (by simp)
  injection ee with ee1 ee2 ee3
  injection ee1 with ee1
  injection ee1 with ee1 ee4
  subst ee1 ee4
  have hne : g ≠ w.heap.size + 1 := fun z => n2 (z ▸ Or.inr (Or.inr (Or.inr (Or.inl rfl))))
  have hne0 : g ≠ w.heap.size := fun z => n1 (z ▸ Or.inr (Or.inr (Or.inr (Or.inl rfl))))
  have HL2 := hide L2
  have HK2 := hide K2
  have HN2 := hide N2
  have HC3 := hide hc3
  have HGS := hide hgs3
  have d1 : (1 : Int) ≤ (j : Int) := by omega
  have d2 : (j : Int) ≤ (cap2 : Int) := by omega
  clear L2 K2 N2 D e1b ee2 ee3 hvi' hfz' h6 hc3 hgs3 hai hsz n1 n2 q0 q1 q2 c0 cv hok
  by_cases c1 : cap2 = 1
  · subst c1
    obtain rfl : j = 1 := by omega
    go_wp2_with fail
    refine still_tail 14 (by kernel_rfl) (by kernel_rfl) ?_
    simp only [List.take_succ_cons, List.take_zero, List.drop_succ_cons, List.drop_zero]
    repeat still_step
    refine wpStill_nil ?_
    go_wp2_with fail
    have b3 : w.heap.size + 1 < (w2.drew.setCell ⟨g, i, none⟩ (.slice (some ⟨gs, off, none⟩) 0 0)).heap.size := by simpa using b2
    refine leaves_cons (f := 33) (args := #[.pointer (some ⟨w.heap.size, 0, none⟩), .pointer (some ⟨w.heap.size + 1, 0, none⟩)]) (by simp) (by simp [go_sem]) ?_
    refine (catch_idle _ _ _).mono ?_
    rintro e u' w'' ⟨rfl, rfl, rfl⟩
    have cr : ((w2.setCell ⟨g, i, none⟩ (.slice (some ⟨gs, off, none⟩) 0 0)).setCell ⟨w.heap.size + 1, 0, none⟩ (.int .i64 0)).cell? ⟨w.heap.size + 1, 0, none⟩ = some (.int .i64 0) := set_same ((World.cell?_of_block (set_far (show w.heap.size + 1 ≠ g by omega))).trans cq)
    simp [Leaves, settle, results, Try.results22, go_sem, b2, cr]
    rw [FN.out]
    exact go_done HL2.out HK2.out HN2.out BX.out BXS.out FL.out HI.out (act_ahead _ _ _) (steps_last HJR.out)
  · go_wp2_with fail
    refine still_tail 14 (by kernel_rfl) (by kernel_rfl) ?_
    simp only [List.take_succ_cons, List.take_zero, List.drop_succ_cons, List.drop_zero]
    repeat still_step
    refine wpStill_nil ?_
    go_wp2_with fail
    have b3 : w.heap.size + 1 < (w2.drew.setCell ⟨g, i, none⟩ (.slice (some ⟨gs, off + 3, none⟩) (j - 1) (cap2 - 1))).heap.size := by simpa using b2
    refine leaves_cons (f := 33) (args := #[.pointer (some ⟨w.heap.size, 0, none⟩), .pointer (some ⟨w.heap.size + 1, 0, none⟩)]) (by simp) (by simp [go_sem]) ?_
    refine (catch_idle _ _ _).mono ?_
    rintro e u' w'' ⟨rfl, rfl, rfl⟩
    have cr : ((w2.setCell ⟨g, i, none⟩ (.slice (some ⟨gs, off + 3, none⟩) (j - 1) (cap2 - 1))).setCell ⟨w.heap.size + 1, 0, none⟩ (.int .i64 0)).cell? ⟨w.heap.size + 1, 0, none⟩ = some (.int .i64 0) := set_same ((World.cell?_of_block (set_far (show w.heap.size + 1 ≠ g by omega))).trans cq)
    simp [Leaves, settle, results, Try.results22, go_sem, b2, cr]
    rw [FN.out]
    exact go_done HL2.out HK2.out HN2.out BX.out BXS.out FL.out HI.out (act_ahead _ _ _) (steps_tail HTG.out HGS.out HJ.out HC3.out (by omega) (by omega))
end Go.Proofs.Ytlcbegmhmbegjaa
