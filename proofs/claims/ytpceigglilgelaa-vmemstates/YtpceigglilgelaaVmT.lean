/- How a space lies in memory, and what each change leaves of it. -/
import Derived.Test.YtpceigglilgelaaVmS
import Derived.Test.YtpceigglilgelaaVmQ
namespace Go.Proofs.Ytpceigglilgelaa
open Go.ChangeShapes Go.WideShapes Go.ChangeAt Go.RowKit Go.Proofs.Sp

theorem SlB.kept' {w w' : World} {v : Value} {xs : List Value} {g : Nat} (h : SlB w v xs g) (hs : w.heap.size ≤ w'.heap.size) (hg : xs ≠ [] → w'.heap[g]? = w.heap[g]?) : SlB w' v xs g := by
  rcases h with h | ⟨off, cap, h1, h2, h3, h4, h5⟩
  · exact Or.inl h
  · refine Or.inr ⟨off, cap, h1, h2, h3, by omega, fun j u hu => ?_⟩
    have : xs ≠ [] := fun z => by subst z; simp at hu
    rw [World.cell?_of_block (hg this)]; exact h5 j u hu
theorem SlB.lt {w : World} {v : Value} {xs : List Value} {g : Nat} (h : SlB w v xs g) (hx : xs ≠ []) : g < w.heap.size := by
  rcases h with ⟨_, h⟩ | ⟨off, cap, h1, h2, h3, h4, h5⟩
  · exact absurd h hx
  · exact h4
theorem u64s_ne {l : List Nat} : u64s l ≠ [] ↔ l ≠ [] := by simp [u64s]
theorem bools_ne {l : List Bool} : bools l ≠ [] ↔ l ≠ [] := by simp [bools]

/-- A space's own blocks. -/
def Foot (b g0 g1 g2 g bp bf : Nat) (pl : List Nat) (re : List Bool) (fi : List Nat) (MP : Nat → Nat) (x : Nat) : Prop :=
  x = b ∨ (pl ≠ [] ∧ x = g0) ∨ (re ≠ [] ∧ x = g1) ∨ (fi ≠ [] ∧ x = g2) ∨ x = g ∨ WFoot bp bf MP x
structure Lies (w : World) (b : Nat) (pl : List Nat) (re : List Bool) (fi : List Nat) (f : Nat → Nat) (g0 g1 g2 g cap : Nat) (R : List (Nat × Nat)) (bp bf n : Nat) (MP MF : Nat → Nat) (A : Nat → Nat → Nat) : Prop where
  s0 : ∃ v, w.cell? ⟨b, 0, none⟩ = some v ∧ SlB w v (u64s pl) g0
  s1 : ∃ v, w.cell? ⟨b, 1, none⟩ = some v ∧ SlB w v (bools re) g1
  s2 : ∃ v, w.cell? ⟨b, 2, none⟩ = some v ∧ SlB w v (u64s fi) g2
  rows : RowsM w b 3 g cap R f
  words : WordsM w b bp bf n MP MF A
  n0 : g0 ≠ b
  n1 : g1 ≠ b
  n2 : g2 ≠ b
  d0 : pl ≠ [] → g0 ≠ g ∧ ¬ WFoot bp bf MP g0
  d1 : re ≠ [] → g1 ≠ g ∧ ¬ WFoot bp bf MP g1
  d2 : fi ≠ [] → g2 ≠ g ∧ ¬ WFoot bp bf MP g2
  dg : ¬ WFoot bp bf MP g

/-- Nothing old has turned but what was its own; what is its own now was, or is new. -/
structure Moves (F F' : Nat → Prop) (w w' : World) : Prop where
  fr : FrB F w w'
  new : ∀ x, F' x → F x ∨ w.heap.size ≤ x
theorem Moves.trans {F F' F'' : Nat → Prop} {w w' w'' : World} (h : Moves F F' w w') (k : Moves F' F'' w' w'') : Moves F F'' w w'' := by
  have hs := h.fr.size
  refine ⟨⟨k.fr.os.trans h.fr.os, k.fr.tape.trans h.fr.tape, k.fr.output.trans h.fr.output, Nat.le_trans hs k.fr.size, fun x hx hn => ?_⟩, fun x hx => ?_⟩
  · rw [k.fr.block x (by omega) (fun z => by rcases h.new x z with z | z; exact hn z; omega)]
    exact h.fr.block x hx hn
  · rcases k.new x hx with z | z
    · exact h.new x z
    · right; omega
theorem Moves.below {F : Nat → Prop} {w w' : World} (h : Below w.heap.size w w') : Moves F F w w' := ⟨⟨h.os, h.tape, h.output, h.size, fun x hx _ => h.block x hx⟩, fun _ h => Or.inl h⟩
theorem Moves.refl (F : Nat → Prop) (w : World) : Moves F F w w := ⟨FrB.refl _ _, fun _ h => Or.inl h⟩

variable {w w' : World} {b : Nat} {pl : List Nat} {re : List Bool} {fi : List Nat} {f : Nat → Nat} {g0 g1 g2 g cap : Nat} {R : List (Nat × Nat)} {bp bf n : Nat} {MP MF : Nat → Nat} {A : Nat → Nat → Nat}
theorem RowsM.glt (h : RowsM w b 3 g cap R f) : g < w.heap.size := h.holds.row.elim fun _ h => (Array.getElem?_eq_some_iff.1 h.1.heap).1
theorem Lies.lt (h : Lies w b pl re fi f g0 g1 g2 g cap R bp bf n MP MF A) {x : Nat} (hx : Foot b g0 g1 g2 g bp bf pl re fi MP x) : x < w.heap.size := by
  rcases hx with rfl | ⟨z, rfl⟩ | ⟨z, rfl⟩ | ⟨z, rfl⟩ | rfl | z
  · exact cell_lt h.rows.list
  · obtain ⟨v, _, k⟩ := h.s0; exact k.lt (u64s_ne.2 z)
  · obtain ⟨v, _, k⟩ := h.s1; exact k.lt (bools_ne.2 z)
  · obtain ⟨v, _, k⟩ := h.s2; exact k.lt (u64s_ne.2 z)
  · exact h.rows.glt
  · exact (h.words.foot z).1
theorem RowsM.kept (h : RowsM w b 3 g cap R f) (hc : ∀ k, 3 ≤ k → k < 8 → w'.cell? ⟨b, k, none⟩ = w.cell? ⟨b, k, none⟩) (hf : ∀ k, w'.frozen? ⟨b, k, none⟩ = w.frozen? ⟨b, k, none⟩) (hg : w'.heap[g]? = w.heap[g]?) : RowsM w' b 3 g cap R f := by
  refine ⟨(hc 3 (by omega) (by omega)).trans h.list, ?_, fun k hk => (hc _ (by omega) (by omega)).trans (h.cnt k hk), fun k => (hf k).trans (h.fz k), h.seg, h.alt, h.le3, h.ne⟩
  obtain ⟨⟨cur, hr, ht⟩, hl⟩ := h.holds
  exact ⟨⟨cur, ⟨hg.trans hr.heap, hr.len, hr.cap⟩, ht⟩, hl⟩
theorem fz_of_block {w w' : World} {x k : Nat} (h : w'.heap[x]? = w.heap[x]?) : w'.frozen? ⟨x, k, none⟩ = w.frozen? ⟨x, k, none⟩ := by simp [World.frozen?, h]
theorem Lies.kept (h : Lies w b pl re fi f g0 g1 g2 g cap R bp bf n MP MF A) (hs : w.heap.size ≤ w'.heap.size) (hk : ∀ x, Foot b g0 g1 g2 g bp bf pl re fi MP x → w'.heap[x]? = w.heap[x]?) : Lies w' b pl re fi f g0 g1 g2 g cap R bp bf n MP MF A := by
  have hb := hk b (Or.inl rfl)
  have hg := hk g (Or.inr (Or.inr (Or.inr (Or.inr (Or.inl rfl)))))
  have hc : ∀ k, w'.cell? ⟨b, k, none⟩ = w.cell? ⟨b, k, none⟩ := fun k => World.cell?_of_block hb
  refine ⟨?_, ?_, ?_, h.rows.kept (fun k _ _ => hc k) (fun k => fz_of_block hb) hg, h.words.kept (hc 8) (hc 9) (fun x hx => hk x (Or.inr (Or.inr (Or.inr (Or.inr (Or.inr hx)))))), h.n0, h.n1, h.n2, h.d0, h.d1, h.d2, h.dg⟩
  · obtain ⟨v, c, k⟩ := h.s0
    exact ⟨v, (hc 0).trans c, k.kept' hs (fun z => hk _ (Or.inr (Or.inl ⟨u64s_ne.1 z, rfl⟩)))⟩
  · obtain ⟨v, c, k⟩ := h.s1
    exact ⟨v, (hc 1).trans c, k.kept' hs (fun z => hk _ (Or.inr (Or.inr (Or.inl ⟨bools_ne.1 z, rfl⟩))))⟩
  · obtain ⟨v, c, k⟩ := h.s2
    exact ⟨v, (hc 2).trans c, k.kept' hs (fun z => hk _ (Or.inr (Or.inr (Or.inr (Or.inl ⟨u64s_ne.1 z, rfl⟩)))))⟩
theorem Lies.below (h : Lies w b pl re fi f g0 g1 g2 g cap R bp bf n MP MF A) (hk : Below w.heap.size w w') : Lies w' b pl re fi f g0 g1 g2 g cap R bp bf n MP MF A :=
  h.kept hk.size (fun x hx => hk.block x (h.lt hx))
/-- The words have turned. -/
theorem Lies.turn (h : Lies w b pl re fi f g0 g1 g2 g cap R bp bf n MP MF A) {n' : Nat} {Z : Nat → Prop} {W : Nat → Nat → Nat} {MP' MF' : Nat → Nat} {A' : Nat → Nat → Nat} (k : WNow w w' b bp bf n' MP MF Z W MP' MF' A') :
    Lies w' b pl re fi f g0 g1 g2 g cap R bp bf n' MP' MF' A' ∧ Moves (Foot b g0 g1 g2 g bp bf pl re fi MP) (Foot b g0 g1 g2 g bp bf pl re fi MP') w w' := by
  have new : ∀ x, WFoot bp bf MP' x → WFoot bp bf MP x ∨ w.heap.size ≤ x := by
    rintro x (rfl | rfl | ⟨q, hq⟩)
    · exact Or.inl (Or.inl rfl)
    · exact Or.inl (Or.inr (Or.inl rfl))
    · rcases k.old q (by omega) with ⟨r, hr⟩ | z
      · exact Or.inl (Or.inr (Or.inr ⟨r, by omega⟩))
      · right; omega
  have hbl : b < w.heap.size := cell_lt h.rows.list
  have hgl := h.rows.glt
  have bb : w'.heap[b]? = w.heap[b]? := k.fr.block b hbl (fun z => (h.words.foot z).2 rfl)
  have bg : w'.heap[g]? = w.heap[g]? := k.fr.block g hgl h.dg
  have hc : ∀ k, w'.cell? ⟨b, k, none⟩ = w.cell? ⟨b, k, none⟩ := fun k => World.cell?_of_block bb
  have old : ∀ x, x < w.heap.size → ¬ WFoot bp bf MP x → ¬ WFoot bp bf MP' x := fun x hx hn z => by
    rcases new x z with z | z
    · exact hn z
    · omega
  obtain ⟨v0, c0, k0⟩ := h.s0
  obtain ⟨v1, c1, k1⟩ := h.s1
  obtain ⟨v2, c2, k2⟩ := h.s2
  refine ⟨⟨⟨v0, (hc 0).trans c0, k0.kept' k.fr.size fun z => k.fr.block _ (k0.lt z) (h.d0 (u64s_ne.1 z)).2⟩, ⟨v1, (hc 1).trans c1, k1.kept' k.fr.size fun z => k.fr.block _ (k1.lt z) (h.d1 (bools_ne.1 z)).2⟩, ⟨v2, (hc 2).trans c2, k2.kept' k.fr.size fun z => k.fr.block _ (k2.lt z) (h.d2 (u64s_ne.1 z)).2⟩,
    h.rows.kept (fun k _ _ => hc k) (fun k => fz_of_block bb) bg, k.wm, h.n0, h.n1, h.n2, fun z => ⟨(h.d0 z).1, old _ (k0.lt (u64s_ne.2 z)) (h.d0 z).2⟩, fun z => ⟨(h.d1 z).1, old _ (k1.lt (bools_ne.2 z)) (h.d1 z).2⟩, fun z => ⟨(h.d2 z).1, old _ (k2.lt (u64s_ne.2 z)) (h.d2 z).2⟩, old g hgl h.dg⟩, ?_, ?_⟩
  · exact k.fr.mono fun x _ hx => Or.inr (Or.inr (Or.inr (Or.inr (Or.inr hx))))
  · rintro x (hx | hx | hx | hx | hx | hx)
    · exact Or.inl (Or.inl hx)
    · exact Or.inl (Or.inr (Or.inl hx))
    · exact Or.inl (Or.inr (Or.inr (Or.inl hx)))
    · exact Or.inl (Or.inr (Or.inr (Or.inr (Or.inl hx))))
    · exact Or.inl (Or.inr (Or.inr (Or.inr (Or.inr (Or.inl hx)))))
    · rcases new x hx with z | z
      · exact Or.inl (Or.inr (Or.inr (Or.inr (Or.inr (Or.inr z)))))
      · exact Or.inr z
/-- The rows have turned. -/
theorem Lies.rowed (h : Lies w b pl re fi f g0 g1 g2 g cap R bp bf n MP MF A) {f' : Nat → Nat} (k : SetPost b 3 g R f' w w') :
    ∃ g' c' R', Lies w' b pl re fi f' g0 g1 g2 g' c' R' bp bf n MP MF A ∧ R'.length ≤ R.length + 2 ∧ Moves (Foot b g0 g1 g2 g bp bf pl re fi MP) (Foot b g0 g1 g2 g' bp bf pl re fi MP) w w' := by
  obtain ⟨g', c', R', hR, hl, hg, k⟩ := k
  have hbl : b < w.heap.size := cell_lt h.rows.list
  have hgl := h.rows.glt
  obtain ⟨v0, c0, k0⟩ := h.s0
  obtain ⟨v1, c1, k1⟩ := h.s1
  obtain ⟨v2, c2, k2⟩ := h.s2
  have ng : ∀ x, x < w.heap.size → x ≠ g → x ≠ g' := fun x hx hn z => by rcases hg with e | e <;> omega
  have nw : ¬ WFoot bp bf MP g' := fun z => by
    rcases hg with e | e
    · exact h.dg (e ▸ z)
    · have := (h.words.foot z).1; omega
  refine ⟨g', c', R', ⟨⟨v0, (k.cell 0 (by omega)).trans c0, k0.kept' k.size fun z => k.block _ (k0.lt z) h.n0 (h.d0 (u64s_ne.1 z)).1⟩, ⟨v1, (k.cell 1 (by omega)).trans c1, k1.kept' k.size fun z => k.block _ (k1.lt z) h.n1 (h.d1 (bools_ne.1 z)).1⟩, ⟨v2, (k.cell 2 (by omega)).trans c2, k2.kept' k.size fun z => k.block _ (k2.lt z) h.n2 (h.d2 (u64s_ne.1 z)).1⟩,
    hR, h.words.kept (k.cell 8 (by omega)) (k.cell 9 (by omega)) (fun x hx => k.block x (h.words.foot hx).1 (h.words.foot hx).2 (fun e => h.dg (e ▸ hx))), h.n0, h.n1, h.n2, fun z => ⟨ng _ (k0.lt (u64s_ne.2 z)) (h.d0 z).1, (h.d0 z).2⟩, fun z => ⟨ng _ (k1.lt (bools_ne.2 z)) (h.d1 z).1, (h.d1 z).2⟩, fun z => ⟨ng _ (k2.lt (u64s_ne.2 z)) (h.d2 z).1, (h.d2 z).2⟩, nw⟩, hl, ?_, ?_⟩
  · exact ⟨k.os, k.tape, k.output, k.size, fun x hx hn => k.block x hx (fun e => hn (Or.inl e)) (fun e => hn (Or.inr (Or.inr (Or.inr (Or.inr (Or.inl e))))))⟩
  · rintro x (hx | hx | hx | hx | hx | hx)
    · exact Or.inl (Or.inl hx)
    · exact Or.inl (Or.inr (Or.inl hx))
    · exact Or.inl (Or.inr (Or.inr (Or.inl hx)))
    · exact Or.inl (Or.inr (Or.inr (Or.inr (Or.inl hx))))
    · rcases hg with e | e
      · exact Or.inl (Or.inr (Or.inr (Or.inr (Or.inr (Or.inl (hx.trans e))))))
      · right; omega
    · exact Or.inl (Or.inr (Or.inr (Or.inr (Or.inr (Or.inr hx)))))
end Go.Proofs.Ytpceigglilgelaa
