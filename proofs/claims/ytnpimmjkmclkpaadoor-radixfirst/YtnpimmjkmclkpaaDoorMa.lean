/- Summaries in memory. -/
import Derived.Test.YtnpimmjkmclkpaaDoorRows
import Derived.WalkKit
import Derived.ProofKit
import Derived.OpenShut
import Derived.WalkLawsBesides
import Derived.Deep.Draws
import Derived.Deep.QuietTactic
import Derived.Deep.AppendLies
import Derived.Deep.RegionHeld3
import Derived.Deep.RegionLaw
import Derived.Laws.AppendOwnNone
import Derived.Laws.OwnMore
import Derived.StillTailTactics
import Derived.BigQuiet
import Derived.Outline
import Derived.Maps.AppendAt
import Derived.Carry
import Derived.ChangeSlices
import Derived.Deep.Slices
import Derived.Deep.Strs
import Derived.Test.YtnpimmjkmclkpaaDoorPk
namespace Go.Proofs.YtnpimmjkmclkpaaDoor.Mg
open Go.ChangeShapes Go.WideShapes Go.ChangeAt Go.RowKit Go.Proofs.Pk Go.Maps
set_option linter.unusedVariables false
set_option linter.unusedSimpArgs false

theorem hide {p : Prop} (h : p) : Hid p := h
theorem cell_lt {w : World} {b o : Nat} {v : Value} (h : w.cell? ⟨b, o, none⟩ = some v) : b < w.heap.size := World.block_lt_of_cell? w ⟨b, o, none⟩ h
theorem still_tail {P : Program} {id : Nat} {Q : Exit → Act → World → Prop} {a : Act} {w : World} {l : List Oper} (n : Nat) (hm : P.follows .mixedOrders = true) (hB : Region.lexTailB .any l.toArray n = true)
    (h : wpStill P l.toArray w.drew (fun a' => wpList P l.toArray Q (l.drop n) a' w.drew) (l.take n) a) : (Code.region id l.toArray true).wp P Q a w := wp_region_still_tail n hm hB h
theorem still_all {P : Program} {id : Nat} {Q : Exit → Act → World → Prop} {a : Act} {w : World} {l : List Oper} (hm : P.follows .mixedOrders = true) (hB : Region.lexB .any l.toArray = true)
    (h : wpStill P l.toArray w.drew (fun a' => Q .normal a' w.drew) l a) : (Code.region id l.toArray true).wp P Q a w := wp_region_still_lit hm hB h
theorem addr_add0 (b o j : Nat) : (⟨b, o, none⟩ : Addr).add j = ⟨b, o + j, none⟩ := by simp [Addr.add]
theorem spot_none {w : World} {b off : Nat} {sp : Option Nat} {v : Value} (h : w.cell? ⟨b, off, sp⟩ = some v) : sp = none := by
  unfold World.cell? at h
  cases sp with
  | none => rfl
  | some x => split at h <;> simp at h

/-- A summary as a value. -/
def sumV (a : Sm) : Value := .agg #[.int .i64 a.s, .int .i64 a.m, .int .i64 a.e]
/-- A list of summaries in memory. -/
def SumsAt (w : World) (v : Value) (t : List Sm) (T : Nat → Prop) : Prop :=
  ∃ o cap, v = .slice o t.length cap ∧ t.length ≤ cap ∧ cap ≤ 9223372036854775807 ∧ (o = none → cap = 0) ∧ (t ≠ [] → ∃ g off, o = some ⟨g, off, none⟩ ∧ T g ∧ g < w.heap.size ∧
    ∀ i s, t[i]? = some s → w.cell? ⟨g, off + i * 3, none⟩ = some (.int .i64 s.s) ∧ w.cell? ⟨g, off + i * 3 + 1, none⟩ = some (.int .i64 s.m) ∧ w.cell? ⟨g, off + i * 3 + 2, none⟩ = some (.int .i64 s.e))
theorem SumsAt.kept {w w' : World} {v : Value} {t : List Sm} {T : Nat → Prop} (h : SumsAt w v t T) (hs : w.heap.size ≤ w'.heap.size) (hk : ∀ x, T x → x < w.heap.size → w'.heap[x]? = w.heap[x]?) : SumsAt w' v t T := by
  obtain ⟨o, cap, h1, h2, hm, h3, h4⟩ := h
  refine ⟨o, cap, h1, h2, hm, h3, fun z => ?_⟩
  obtain ⟨g, off, e, hT, hl, hc⟩ := h4 z
  have := hk g hT hl
  exact ⟨g, off, e, hT, by omega, fun i s hi => by
    obtain ⟨a, b, c⟩ := hc i s hi
    exact ⟨(World.cell?_of_block this).trans a, (World.cell?_of_block this).trans b, (World.cell?_of_block this).trans c⟩⟩
theorem SumsAt.below {w w' : World} {v : Value} {t : List Sm} {T : Nat → Prop} (h : SumsAt w v t T) (hb : Below w.heap.size w w') : SumsAt w' v t T := h.kept hb.size (fun x _ hx => hb.block x hx)
theorem SumsAt.mono {w : World} {v : Value} {t : List Sm} {T T' : Nat → Prop} (h : SumsAt w v t T) (hT : ∀ x, T x → T' x) : SumsAt w v t T' := by
  obtain ⟨o, cap, h1, h2, hm, h3, h4⟩ := h
  refine ⟨o, cap, h1, h2, hm, h3, fun z => ?_⟩
  obtain ⟨g, off, e, h, k⟩ := h4 z
  exact ⟨g, off, e, hT g h, k⟩
theorem SumsAt.shape {w : World} {v : Value} {t : List Sm} {T : Nat → Prop} (h : SumsAt w v t T) : ∃ o cap, v = .slice o t.length cap ∧ t.length ≤ cap ∧ cap ≤ 9223372036854775807 := by
  obtain ⟨o, cap, e, h2, h3, _⟩ := h
  exact ⟨o, cap, e, h2, h3⟩
theorem SumsAt.at {w w' : World} {o : Option Addr} {len cap : Nat} {t : List Sm} {T : Nat → Prop} (h : SumsAt w (.slice o len cap) t T) (hb : Below w.heap.size w w') {i : Nat} (hi : i < len) : ∃ g off s, o = some ⟨g, off, none⟩ ∧ t[i]? = some s ∧ g < w'.heap.size ∧ w'.cell? ⟨g, off + i * 3, none⟩ = some (.int .i64 s.s) ∧ w'.cell? ⟨g, off + i * 3 + 1, none⟩ = some (.int .i64 s.m) ∧ w'.cell? ⟨g, off + i * 3 + 2, none⟩ = some (.int .i64 s.e) := by
  obtain ⟨o', cap', e, h2, h3, h4, h5⟩ := h
  injection e with e1 e2 e3
  subst e1 e2 e3
  obtain ⟨g, off, rfl, hT, hg, hc⟩ := h5 (fun z => by rw [z] at hi; simp at hi)
  have hx := List.getElem?_eq_getElem hi
  obtain ⟨a, b, c⟩ := hc i _ hx
  exact ⟨g, off, _, rfl, hx, Nat.lt_of_lt_of_le hg hb.size, (hb.cell (p := ⟨g, off + i * 3, none⟩) hg).trans a, (hb.cell (p := ⟨g, off + i * 3 + 1, none⟩) hg).trans b, (hb.cell (p := ⟨g, off + i * 3 + 2, none⟩) hg).trans c⟩
/-- The summaries one by one. -/
def nth (t : List Sm) (i : Nat) : Sm := (t[i]?).getD ⟨0, 0, 0⟩
theorem nth_at {t : List Sm} {i : Nat} {s : Sm} (h : t[i]? = some s) : nth t i = s := by unfold nth; rw [h]; rfl

def flat (t : List Sm) : List Value := t.flatMap fun s => [.int .i64 s.s, .int .i64 s.m, .int .i64 s.e]
theorem flat_len (t : List Sm) : (flat t).length = t.length * 3 := by
  induction t with
  | nil => rfl
  | cons s r ih => simp only [flat, List.flatMap_cons, List.length_append, List.length_cons, List.length_nil] at ih ⊢; omega
theorem flat_one (t : List Sm) : ∀ u ∈ flat t, u.oneCell' = true := by
  intro u hu
  obtain ⟨s, _, h⟩ := List.mem_flatMap.1 hu
  simp at h
  rcases h with rfl | rfl | rfl <;> rfl
theorem flat_get : ∀ (t : List Sm) (j : Nat) (u : Value), (flat t)[j]? = some u → ∃ i s, t[i]? = some s ∧ ((j = i * 3 ∧ u = .int .i64 s.s) ∨ (j = i * 3 + 1 ∧ u = .int .i64 s.m) ∨ (j = i * 3 + 2 ∧ u = .int .i64 s.e))
  | [], j, u, h => by simp [flat] at h
  | s :: r, 0, u, h => ⟨0, s, rfl, Or.inl ⟨rfl, by simp [flat] at h; exact h.symm⟩⟩
  | s :: r, 1, u, h => ⟨0, s, rfl, Or.inr (Or.inl ⟨rfl, by simp [flat] at h; exact h.symm⟩)⟩
  | s :: r, 2, u, h => ⟨0, s, rfl, Or.inr (Or.inr ⟨rfl, by simp [flat] at h; exact h.symm⟩)⟩
  | s :: r, j + 3, u, h => by
    obtain ⟨i, s', h1, h2⟩ := flat_get r j u (by simpa [flat] using h)
    refine ⟨i + 1, s', by simpa using h1, ?_⟩
    rcases h2 with ⟨e, h⟩ | ⟨e, h⟩ | ⟨e, h⟩
    · exact Or.inl ⟨by omega, h⟩
    · exact Or.inr (Or.inl ⟨by omega, h⟩)
    · exact Or.inr (Or.inr ⟨by omega, h⟩)
theorem flat_at : ∀ (t : List Sm) (i : Nat) (s : Sm), t[i]? = some s → (flat t)[i * 3]? = some (.int .i64 s.s) ∧ (flat t)[i * 3 + 1]? = some (.int .i64 s.m) ∧ (flat t)[i * 3 + 2]? = some (.int .i64 s.e)
  | [], i, s, h => by simp at h
  | s0 :: r, 0, s, h => by simp at h; subst h; simp [flat]
  | s0 :: r, i + 1, s, h => by
    obtain ⟨a, b, c⟩ := flat_at r i s (by simpa using h)
    rw [show (i + 1) * 3 = i * 3 + 3 by omega]
    exact ⟨by simpa [flat] using a, by simpa [flat] using b, by simpa [flat] using c⟩
theorem flat_app (t u : List Sm) : flat (t ++ u) = flat t ++ flat u := by unfold flat; rw [List.flatMap_append]
theorem infoS : (Tryd.prog.info? 38).map (fun i => (i.zero, i.size, i.bytes)) = some (some (.agg #[.int .i64 0, .int .i64 0, .int .i64 0]), 3, 24) := by kernel_rfl
theorem info_parts {t : TypeId} {z : Option Value} {s b : Nat} (h : (Tryd.prog.info? t).map (fun i => (i.zero, i.size, i.bytes)) = some (z, s, b)) : ∃ i, Tryd.prog.info? t = some i ∧ i.zero = z ∧ i.size = s ∧ i.bytes = b := by
  cases h' : Tryd.prog.info? t with
  | none => rw [h'] at h; cases h
  | some i => rw [h'] at h; simp at h; exact ⟨i, rfl, h.1, h.2.1, h.2.2⟩
/-- A row of summaries of our own. -/
theorem sums_of_owns {w : World} {base n : Nat} {v : Value} {t : List Sm} (h : w.ownsRow base 38 3 v n (flat t)) : SumsAt w v t (fun x => base ≤ x) ∧ ∃ o c, v = .slice o t.length c := by
  have hl := h.1
  rw [flat_len] at hl
  have hn : t.length = n := by omega
  have H := h
  obtain ⟨_, ⟨rfl, rfl⟩ | ⟨g, cap, cur, rfl, hb, hh, hnc, hcm, hcs, ht⟩⟩ := h
  · obtain rfl := List.eq_nil_of_length_eq_zero hn
    exact ⟨⟨none, 0, rfl, Nat.le_refl _, by omega, fun _ => rfl, fun z => absurd rfl z⟩, none, 0, rfl⟩
  · have hg := (H.lt g rfl)
    refine ⟨⟨_, cap, by rw [hn], by omega, by unfold maxLen at hcm; omega, fun z => by (cases z), fun _ => ⟨g, 0, rfl, hg.1, hg.2, fun i s hi => ?_⟩⟩, _, cap, by rw [hn]⟩
    obtain ⟨a, b, c⟩ := flat_at t i s hi
    have hc := H.cells (g := g) rfl
    have ha := hc _ _ a
    have hb := hc _ _ b
    have hc' := hc _ _ c
    rw [addr_add0] at ha hb hc'
    rw [Nat.add_assoc, Nat.add_assoc]
    exact ⟨ha, hb, hc'⟩
end Go.Proofs.YtnpimmjkmclkpaaDoor.Mg
