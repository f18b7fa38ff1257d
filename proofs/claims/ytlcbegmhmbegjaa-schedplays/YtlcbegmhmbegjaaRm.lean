/- The reference as a machine of its own: Go and Play over the plain machine. -/
import Derived.Test.YtlcbegmhmbegjaaRz
import Derived.Test.YtlcbegmhmbegjaaPr
namespace Go.Proofs.Ytlcbegmhmbegjaa
open Go.ChangeShapes Go.WideShapes Go.ChangeAt Go.RowKit Go.Proofs.Sc Go.Maps
set_option linter.unusedVariables false
set_option linter.unusedSimpArgs false

variable {w w' w1 : World} {S : Sc} {m : Addr} {F : Nat → Prop}
/-- The reference's machine is S. -/
def RS : Inv := fun w m S F => ∃ r, absR r = S ∧ RI w m r F
theorem RS.kept (h : RS w m S F) (hs : w.heap.size ≤ w'.heap.size) (hk : ∀ x, F x → w'.heap[x]? = w.heap[x]?) : RS w' m S F := by
  obtain ⟨r, e, h⟩ := h
  exact ⟨r, e, h.kept hs hk⟩
theorem RS.lt (h : RS w m S F) (x : Nat) (hx : F x) : x < w.heap.size := by
  obtain ⟨r, e, h⟩ := h
  exact h.lt x hx
theorem RStep.step {r : Rs} (h : RStep F w w' m r) : Step RS F w w' m (absR r) := by
  obtain ⟨F', a, b, c⟩ := h
  exact ⟨F', ⟨r, rfl, a⟩, b, c⟩
theorem RS.go (h : RS w m S F) (p : Int) (hp : i64 p) :
    Calls Try.prog 11 #[.pointer (some m), .int .i64 p] w fun e w' => e = .returned (.tuple #[.int .i64 ((goS S p).1 : Nat), .int .i64 ((goS S p).2.1 : Nat)]) ∧ Step RS F w w' m (goS S p).2.2 := by
  obtain ⟨r, rfl, b, v0, v1, v2, v3, v4, vs, T, K, rfl, rfl, l, ok⟩ := h
  refine (l.go ok p hp).mono ?_
  intro e w' h
  obtain ⟨h1, r', h2, h3⟩ := h
  refine ⟨h1, ?_⟩
  rw [← h2]
  exact h3.step
theorem StepR.drew (h : Step RS F w w1 m S) : Step RS F w w1.drew m S := by
  obtain ⟨F1, a, b, c⟩ := h
  have hb := drew_below w1
  exact ⟨F1, a.kept hb.size (fun x hx => hb.block x (a.lt x hx)), b.trans (Kept.of_below (F := fun _ => False) hb) (fun x hx => by cases hx), c⟩
theorem RS.below (h : RS w m S F) (hb : Below w.heap.size w w') : RS w' m S F := h.kept hb.size (fun x hx => hb.block x (h.lt x hx))
theorem RS.play (h : RS w m S F) {u : Value} {l : List Int} (hl : IntsAt w u l) (ha : Apart u F) (hn : l.length ≤ 1000000) :
    Calls Try.prog 14 #[.pointer (some m), u] w (PlayP RS F w m S l) :=
  ref_play (fun w S F p h hp => RS.go h p hp) (fun w w' S F h hb => RS.below h hb) h hl ha hn
theorem RS.wf (h : RS w m S F) : Wf S := by
  obtain ⟨r, rfl, b, v0, v1, v2, v3, v4, vs, T, K, rfl, rfl, l, ok⟩ := h
  exact ok.wf.wf
theorem RS.enabled (h : RS w m S F) : Calls Try.prog 23 #[.pointer (some m)] w (AblesP S w) := by
  obtain ⟨r, rfl, b, v0, v1, v2, v3, v4, vs, T, K, rfl, rfl, l, ok⟩ := h
  exact l.enabled ok
theorem RS.left (h : RS w m S F) (t : Int) (ht : i64 t) :
    Calls Try.prog 30 #[.pointer (some m), .int .i64 t] w fun e w' => e = .returned (.tuple #[.int .i64 ((leftS S t).1 : Nat), .int .i64 ((leftS S t).2 : Nat)]) ∧ Below w.heap.size w w' := by
  obtain ⟨r, rfl, b, v0, v1, v2, v3, v4, vs, T, K, rfl, rfl, l, ok⟩ := h
  exact l.left ok t ht
theorem RS.cellAt (h : RS w m S F) (c : Int) (hc : i64 c) :
    Calls Try.prog 27 #[.pointer (some m), .int .i64 c] w fun e w' => e = .returned (.int .i64 (S.cell c)) ∧ w' = w := by
  obtain ⟨r, rfl, b, v0, v1, v2, v3, v4, vs, T, K, rfl, rfl, l, ok⟩ := h
  exact l.cellAt ok c hc
/-- Who holds a lock, as a number. -/
theorem RS.holder (h : RS w m S F) (c : Int) (hc : i64 c) :
    Calls Try.prog 24 #[.pointer (some m), .int .i64 c] w fun e w' => e = .returned (.tuple #[.int .i64 (((S.hold c).getD 0 : Nat) : Int), .bool (S.hold c).isSome]) ∧ w' = w := by
  obtain ⟨r, rfl, b, v0, v1, v2, v3, v4, vs, T, K, rfl, rfl, l, ok⟩ := h
  refine (l.holder ok c hc).mono ?_
  rintro e w' ⟨rfl, h2⟩
  refine ⟨?_, h2⟩
  show _ = Ending.returned (.tuple #[.int .i64 ((((lookL r.locks c).map Int.toNat).getD 0 : Nat) : Int), .bool ((lookL r.locks c).map Int.toNat).isSome])
  cases e : lookL r.locks c with
  | none => rfl
  | some x =>
    have := ok.wf.locks _ (look_mem e)
    simp only at this
    simp [Int.toNat_of_nonneg this]
/-- What the law reads of the reference itself. -/
theorem RS.fields (h : RS w m S F) : ∃ b o cap v4, m = ⟨b, 0, none⟩ ∧ F b ∧ w.cell? ⟨b, 0, none⟩ = some (.slice o S.ahead.length cap) ∧ S.ahead.length ≤ cap ∧ w.cell? ⟨b, 4, none⟩ = some v4 ∧ IntsAt w v4 S.said := by
  obtain ⟨r, rfl, b, v0, v1, v2, v3, v4, vs, T, K, rfl, rfl, l, ok⟩ := h
  obtain ⟨o, cap, e0, hcap⟩ := l.shape
  have hL : (absR r).ahead.length = r.tasks.length := aheadR_length ok.wf.len
  refine ⟨b, o, cap, v4, rfl, Or.inl rfl, ?_, by rw [hL]; exact hcap, l.c4, ?_⟩
  · rw [hL, ← e0]; exact l.c0
  · exact IntsAt.of_owns l.said ok.wf.wf.said
end Go.Proofs.Ytlcbegmhmbegjaa
