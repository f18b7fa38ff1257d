/- The reference: how a machine of it lies in memory; Holder, Cell. -/
import Derived.Test.YtlcbegmhmbegjaaWb
import Derived.Test.YtlcbegmhmbegjaaRq
namespace Go.Proofs.Ytlcbegmhmbegjaa
open Go.ChangeShapes Go.WideShapes Go.ChangeAt Go.RowKit Go.Proofs.Sc Go.Maps
set_option linter.unusedVariables false
set_option linter.unusedSimpArgs false

def pcell (p : Pr) : List Value := [.int .i64 p.name, .int .i64 p.x]
def pcells (l : List Pr) : List Value := l.flatMap pcell
theorem pcells_length (l : List Pr) : (pcells l).length = l.length * 2 := by
  unfold pcells
  induction l with
  | nil => rfl
  | cons a l ih => rw [List.flatMap_cons, List.length_append, ih, List.length_cons, Nat.add_mul]; simp [pcell]; omega
theorem pcells_get (l : List Pr) : ∀ (i : Nat) (p : Pr), l[i]? = some p → (pcells l)[i * 2]? = some (.int .i64 p.name) ∧ (pcells l)[i * 2 + 1]? = some (.int .i64 p.x) := by
  unfold pcells
  induction l with
  | nil => intro i p h; simp at h
  | cons a l ih =>
    intro i p h
    cases i with
    | zero => simp at h; subst h; simp [pcell]
    | succ i =>
      have := ih i p (by simpa using h)
      rw [List.flatMap_cons]
      have e : (pcell a).length = 2 := rfl
      rw [List.getElem?_append_right (by rw [e]; omega), List.getElem?_append_right (by rw [e]; omega), e, show (i + 1) * 2 - 2 = i * 2 by omega, show (i + 1) * 2 + 1 - 2 = i * 2 + 1 by omega]
      exact this
theorem pcells_append (l m : List Pr) : pcells (l ++ m) = pcells l ++ pcells m := by simp [pcells]
theorem pairs_of {w : World} {base : Nat} {v : Value} {l : List Pr} (h : w.ownsRow base 66 2 v l.length (pcells l)) : PairsAt w v l := by
  have own := h
  obtain ⟨hl, ⟨e, z⟩ | ⟨g, cap, cur, e, hb, hh, h1, h2, h3⟩⟩ := h
  · exact ⟨none, 0, by rw [e, z], by omega, by omega, fun y => absurd (List.eq_nil_of_length_eq_zero z) y⟩
  · refine ⟨_, cap, e, h1, by unfold maxLen at h2; omega, fun _ => ⟨g, rfl, (Array.getElem?_eq_some_iff.1 hh).1, fun i p hi => ?_⟩⟩
    have hil := (List.getElem?_eq_some_iff.1 hi).1
    rw [e] at own
    obtain ⟨a, b⟩ := pcells_get l i p hi
    rw [own.cellAt (i * 2) (by omega), own.cellAt (i * 2 + 1) (by omega)]
    exact ⟨a, b⟩

/-- What else holds of the reference's lists. -/
structure OkR (r : Rs) : Prop where
  wf : WfR r
  locks : ∀ p ∈ r.locks, i64 p.name ∧ i64 p.x
  cells : ∀ p ∈ r.cells, i64 p.name ∧ i64 p.x
  few : r.locks.length + r.cells.length + lens (aheadR r) ≤ 10000
theorem OkR.act {r : Rs} (h : OkR r) {i : Nat} {s : Stp} (hs : s.Ok) (hi : i ≤ 64) : (∀ p ∈ (actR r i s).locks, i64 p.name ∧ i64 p.x) ∧ (∀ p ∈ (actR r i s).cells, i64 p.name ∧ i64 p.x) ∧ (actR r i s).locks.length + (actR r i s).cells.length ≤ r.locks.length + r.cells.length + 1 := by
  unfold actR
  split
  · refine ⟨fun p hp => ?_, h.cells, by have := put_length r.locks s.a i; simp only; omega⟩
    rcases mem_put hp with z | z
    · subst z; exact ⟨hs.a, by unfold i64; simp only; omega⟩
    · exact h.locks p z
  · split
    · exact ⟨fun p hp => h.locks p (mem_drop hp), h.cells, by have := drop_length r.locks s.a; simp only; omega⟩
    · split
      · refine ⟨h.locks, fun p hp => ?_, by have := put_length r.cells s.a (IntKind.i64.wrap ((lookL r.cells s.a).getD 0 + s.b)); simp only; omega⟩
        rcases mem_put hp with z | z
        · subst z; exact ⟨hs.a, wrap_i64 _⟩
        · exact h.cells p z
      · split
        · exact ⟨h.locks, h.cells, Nat.le_succ _⟩
        · exact ⟨h.locks, h.cells, Nat.le_succ _⟩
theorem OkR.step {r : Rs} (h : OkR r) (i : Nat) : OkR (stepR r i).2 := by
  have hw := h.wf.step i
  have ha := (stepR_abs h.wf i).2
  have hl : aheadR (stepR r i).2 = (stepS (absR r) i).2.ahead := congrArg Sc.ahead ha
  refine ⟨hw, ?_, ?_, ?_⟩ <;> (try rw [hl]) <;> clear hw hl ha <;> unfold stepR <;> (try unfold stepS)
  all_goals
    have e0 : (absR r).ahead = aheadR r := rfl
    try rw [e0]
    cases e : (aheadR r).getD i [] with
    | nil => first | exact h.locks | exact h.cells | exact h.few
    | cons s q =>
      have e' := getD_some e
      have hi := (List.getElem?_eq_some_iff.1 e').1
      have hT : (aheadR r).length ≤ 64 := h.wf.wf.tasks
      have hok : s.Ok := h.wf.wf.ok _ (List.mem_of_getElem? e') s (by simp)
      have A := h.act (i := i) hok (by omega)
      have hS := lens_set e'
      have eh : (absR r).hold s.a = (lookL r.locks s.a).map Int.toNat := rfl
      simp only [eh]
      split
      · first | exact h.locks | exact h.cells | exact h.few
      · first | exact A.1 | exact A.2.1 | (have := A.2.2; have := h.few; show (actR r i s).locks.length + (actR r i s).cells.length + lens ((aheadR r).set i q) ≤ 10000; omega)

/-- How a machine of the reference lies: each block has a kind of its own. -/
structure RL (w : World) (b : Nat) (r : Rs) (v0 v1 v2 v3 v4 : Value) (vs : List Value) (T : Nat → Prop) (K : Nat → Nat) : Prop where
  c0 : w.cell? ⟨b, 0, none⟩ = some v0
  c1 : w.cell? ⟨b, 1, none⟩ = some v1
  c2 : w.cell? ⟨b, 2, none⟩ = some v2
  c3 : w.cell? ⟨b, 3, none⟩ = some v3
  c4 : w.cell? ⟨b, 4, none⟩ = some v4
  c5 : w.cell? ⟨b, 5, none⟩ = some (.bool r.over)
  fz : ∀ k, w.frozen? ⟨b, k, none⟩ = false
  tasks : w.ownsRow 0 34 1 v0 r.tasks.length vs
  els : ∀ (i : Nat) (t : List Stp), r.tasks[i]? = some t → ∃ v, vs[i]? = some v ∧ StepsAt w v t T
  ats : w.ownsRow 0 3 1 v1 r.at_.length (nats r.at_)
  locks : w.ownsRow 0 66 2 v2 r.locks.length (pcells r.locks)
  cells : w.ownsRow 0 66 2 v3 r.cells.length (pcells r.cells)
  said : w.ownsRow 0 3 1 v4 r.said.length (ints r.said)
  tlt : ∀ x, T x → x < w.heap.size
  kb : K b = 6
  k0 : ∀ x, v0.ownBlock = some x → K x = 0
  k1 : ∀ x, v1.ownBlock = some x → K x = 1
  k2 : ∀ x, v2.ownBlock = some x → K x = 2
  k3 : ∀ x, v3.ownBlock = some x → K x = 3
  k4 : ∀ x, v4.ownBlock = some x → K x = 4
  kt : ∀ x, T x → K x = 5
def RFoot (b : Nat) (v0 v1 v2 v3 v4 : Value) (T : Nat → Prop) (x : Nat) : Prop := x = b ∨ v0.ownBlock = some x ∨ v1.ownBlock = some x ∨ v2.ownBlock = some x ∨ v3.ownBlock = some x ∨ v4.ownBlock = some x ∨ T x
variable {w w' : World} {b : Nat} {r : Rs} {v0 v1 v2 v3 v4 : Value} {vs : List Value} {T : Nat → Prop} {K : Nat → Nat}
theorem RL.lt (h : RL w b r v0 v1 v2 v3 v4 vs T K) {x : Nat} (hx : RFoot b v0 v1 v2 v3 v4 T x) : x < w.heap.size := by
  rcases hx with rfl | e | e | e | e | e | e
  · exact cell_lt h.c0
  · exact (h.tasks.lt x e).2
  · exact (h.ats.lt x e).2
  · exact (h.locks.lt x e).2
  · exact (h.cells.lt x e).2
  · exact (h.said.lt x e).2
  · exact h.tlt x e
theorem RL.kept (h : RL w b r v0 v1 v2 v3 v4 vs T K) (hs : w.heap.size ≤ w'.heap.size) (hk : ∀ x, RFoot b v0 v1 v2 v3 v4 T x → w'.heap[x]? = w.heap[x]?) : RL w' b r v0 v1 v2 v3 v4 vs T K := by
  have hb := hk b (Or.inl rfl)
  have hc : ∀ k, w'.cell? ⟨b, k, none⟩ = w.cell? ⟨b, k, none⟩ := fun k => World.cell?_of_block hb
  refine ⟨(hc 0).trans h.c0, (hc 1).trans h.c1, (hc 2).trans h.c2, (hc 3).trans h.c3, (hc 4).trans h.c4, (hc 5).trans h.c5, fun k => (fz_of_block hb).trans (h.fz k),
    owns_kept h.tasks (fun x e => hk x (by unfold RFoot; simp [e])), fun i t hi => ?_, owns_kept h.ats (fun x e => hk x (by unfold RFoot; simp [e])), owns_kept h.locks (fun x e => hk x (by unfold RFoot; simp [e])),
    owns_kept h.cells (fun x e => hk x (by unfold RFoot; simp [e])), owns_kept h.said (fun x e => hk x (by unfold RFoot; simp [e])), fun x hx => by have := h.tlt x hx; omega, h.kb, h.k0, h.k1, h.k2, h.k3, h.k4, h.kt⟩
  obtain ⟨v, e1, e2⟩ := h.els i t hi
  exact ⟨v, e1, e2.kept hs (fun x hx _ => hk x (by unfold RFoot; simp [hx]))⟩
/-- The reference's machine at m stands for S; its own blocks are F. -/
def RI (w : World) (m : Addr) (r : Rs) (F : Nat → Prop) : Prop := ∃ b v0 v1 v2 v3 v4 vs T K, m = ⟨b, 0, none⟩ ∧ F = RFoot b v0 v1 v2 v3 v4 T ∧ RL w b r v0 v1 v2 v3 v4 vs T K ∧ OkR r
theorem RL.holder (h : RL w b r v0 v1 v2 v3 v4 vs T K) (ok : OkR r) (l : Int) (hl : i64 l) :
    Calls Try.prog 24 #[.pointer (some ⟨b, 0, none⟩), .int .i64 l] w fun e w' => e = .returned (.tuple #[.int .i64 ((lookL r.locks l).getD 0), .bool (lookL r.locks l).isSome]) ∧ w' = w := by
  have C := hide (look_core (pairs_of h.locks) l hl ok.locks)
  have c2 := h.c2
  obtain ⟨hl1, hl2⟩ := hl
  generalize (lookL r.locks l).getD 0 = x at *
  generalize (lookL r.locks l).isSome = y at *
  clear h ok
  go_enter Try.func24, Try.ntmps24
  go_wp2_with fail
  refine C.out.mono ?_
  rintro e w' ⟨rfl, hw'⟩
  rw [hw']
  clear hw' w'
  go_wp2_with fail
  go_ret2
  exact ⟨rfl, rfl⟩
theorem RL.cellAt (h : RL w b r v0 v1 v2 v3 v4 vs T K) (ok : OkR r) (l : Int) (hl : i64 l) :
    Calls Try.prog 27 #[.pointer (some ⟨b, 0, none⟩), .int .i64 l] w fun e w' => e = .returned (.int .i64 ((lookL r.cells l).getD 0)) ∧ w' = w := by
  have C := hide (look_core (pairs_of h.cells) l hl ok.cells)
  have c3 := h.c3
  obtain ⟨hl1, hl2⟩ := hl
  generalize (lookL r.cells l).getD 0 = x at *
  generalize (lookL r.cells l).isSome = y at *
  clear h ok
  go_enter Try.func27, Try.ntmps27
  go_wp2_with fail
  refine C.out.mono ?_
  rintro e w' ⟨rfl, hw'⟩
  rw [hw']
  clear hw' w'
  go_wp2_with fail
  go_ret
  exact ⟨rfl, rfl⟩
end Go.Proofs.Ytlcbegmhmbegjaa
