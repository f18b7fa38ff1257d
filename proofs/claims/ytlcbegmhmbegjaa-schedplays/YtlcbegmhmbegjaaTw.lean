/- Two machines beside one another: the landed one and the reference. -/
import Derived.Test.YtlcbegmhmbegjaaRm
import Derived.Test.YtlcbegmhmbegjaaNr
import Derived.Test.YtlcbegmhmbegjaaNc
import Derived.Test.YtlcbegmhmbegjaaAx
namespace Go.Proofs.Ytlcbegmhmbegjaa
open Go.ChangeShapes Go.WideShapes Go.ChangeAt Go.RowKit Go.Proofs.Sc Go.Maps
set_option linter.unusedVariables false
set_option linter.unusedSimpArgs false

/-- The landed machine is S, the reference is R; both lie from lo on, apart. -/
def TW (w0 : World) (lo : Nat) (w : World) (m : Addr) (rb : Nat) (S R : Sc) : Prop :=
  ∃ F G, SI w m S F ∧ RS w ⟨rb, 0, none⟩ R G ∧ (∀ x, F x → ¬ G x) ∧ (∀ x, F x → lo ≤ x) ∧ (∀ x, G x → lo ≤ x) ∧ w0.heap.size ≤ lo ∧ Below w0.heap.size w0 w
variable {w0 w w' : World} {lo : Nat} {m : Addr} {rb : Nat} {S R : Sc}
theorem TW.be (h : TW w0 lo w m rb S R) : Below w0.heap.size w0 w := by obtain ⟨_, _, _, _, _, _, _, _, h⟩ := h; exact h
theorem TW.next (h : TW w0 lo w m rb S R) (hb : Below w.heap.size w w') : TW w0 lo w' m rb S R := by
  obtain ⟨F, G, h1, h2, h3, h4, h5, h6, h7⟩ := h
  exact ⟨F, G, h1.kept hb.size (fun x hx => hb.block x (h1.lt x hx)), h2.below hb, h3, h4, h5, h6, h7.trans (hb.mono h7.size)⟩
theorem TW.set (h : TW w0 lo w m rb S R) {g k : Nat} {v : Value} (hg : w0.heap.size ≤ g) (hl : g < lo) : TW w0 lo (w.setCell ⟨g, k, none⟩ v) m rb S R := by
  obtain ⟨F, G, h1, h2, h3, h4, h5, h6, h7⟩ := h
  exact ⟨F, G, h1.kept (by simp) (fun x hx => set_far' (by have := h4 x hx; omega)), h2.kept (by simp) (fun x hx => set_far' (by have := h5 x hx; omega)), h3, h4, h5, h6, below_set h7 hg⟩
theorem TW.stepS {S' : Sc} {F G : Nat → Prop} (h2 : RS w ⟨rb, 0, none⟩ R G) (h3 : ∀ x, F x → ¬ G x) (h4 : ∀ x, F x → lo ≤ x) (h5 : ∀ x, G x → lo ≤ x) (h6 : w0.heap.size ≤ lo) (h7 : Below w0.heap.size w0 w) (h : Step SI F w w' m S') : TW w0 lo w' m rb S' R := by
  obtain ⟨F', a, b, c⟩ := h
  have s7 := h7.size
  have lo7 : ∀ x, w.heap.size ≤ x → lo ≤ x ∨ x < lo := fun x _ => by omega
  by_cases hlo : lo ≤ w.heap.size
  · refine ⟨F', G, a, h2.kept b.size (fun x hx => b.block x (h2.lt x hx) (fun f => h3 x f hx)), fun x hx g => ?_, fun x hx => ?_, h5, h6, h7.trans (b.below s7 (fun x hx => by have := h4 x hx; omega))⟩
    · rcases c x hx with z | z
      · exact h3 x z g
      · have := h2.lt x g; omega
    · rcases c x hx with z | z
      · exact h4 x z
      · omega
  · exfalso
    obtain ⟨b', o, cap, v4, e, hb', hc, _⟩ := h2.fields
    have := h5 b' hb'
    have := h2.lt b' hb'
    omega
theorem TW.stepR {R' : Sc} {F G : Nat → Prop} (h1 : SI w m S F) (hR : RS w ⟨rb, 0, none⟩ R G) (h3 : ∀ x, F x → ¬ G x) (h4 : ∀ x, F x → lo ≤ x) (h5 : ∀ x, G x → lo ≤ x) (h6 : w0.heap.size ≤ lo) (h7 : Below w0.heap.size w0 w) (h : Step RS G w w' ⟨rb, 0, none⟩ R') : TW w0 lo w' m rb S R' := by
  obtain ⟨G', a, b, c⟩ := h
  have s7 := h7.size
  have hlo : lo ≤ w.heap.size := by
    obtain ⟨b', o, cap, v4, e, hb', hc, _⟩ := hR.fields
    have := h5 b' hb'
    have := hR.lt b' hb'
    omega
  refine ⟨F, G', h1.kept b.size (fun x hx => b.block x (h1.lt x hx) (h3 x hx)), a, fun x hx g => ?_, h4, fun x hx => ?_, h6, h7.trans (b.below s7 (fun x hx => by have := h5 x hx; omega))⟩
  · rcases c x g with z | z
    · exact h3 x hx z
    · have := h1.lt x hx; omega
  · rcases c x hx with z | z
    · exact h5 x z
    · omega
theorem TW.landGo (h : TW w0 lo w m rb S R) (p : Int) (hp : i64 p) :
    Calls Try.prog 10 #[.pointer (some m), .int .i64 p] w fun e w' => e = .returned (.tuple #[.int .i64 ((goS S p).1 : Nat), .int .i64 ((goS S p).2.1 : Nat)]) ∧ TW w0 lo w' m rb (goS S p).2.2 R := by
  obtain ⟨F, G, h1, h2, h3, h4, h5, h6, h7⟩ := h
  exact (h1.go p hp).mono fun e w' ⟨a, b⟩ => ⟨a, TW.stepS h2 h3 h4 h5 h6 h7 b⟩
theorem TW.refGo (h : TW w0 lo w m rb S R) (p : Int) (hp : i64 p) :
    Calls Try.prog 11 #[.pointer (some ⟨rb, 0, none⟩), .int .i64 p] w fun e w' => e = .returned (.tuple #[.int .i64 ((goS R p).1 : Nat), .int .i64 ((goS R p).2.1 : Nat)]) ∧ TW w0 lo w' m rb S (goS R p).2.2 := by
  obtain ⟨F, G, h1, h2, h3, h4, h5, h6, h7⟩ := h
  exact (h2.go p hp).mono fun e w' ⟨a, b⟩ => ⟨a, TW.stepR h1 h2 h3 h4 h5 h6 h7 b⟩
/-- A list that lies below both machines. -/
theorem apart_low {v : Value} {F : Nat → Prop} (hl : ∀ g off n c, v = .slice (some ⟨g, off, none⟩) n c → g < lo) (h : ∀ x, F x → lo ≤ x) : Apart v F := fun g off n c e _ f => by
  have := hl g off n c e
  have := h g f
  omega
theorem TW.landPlay (h : TW w0 lo w m rb S R) {u : Value} {l : List Int} (hl : IntsAt w u l) (ha : ∀ F, SI w m S F → Apart u F) (hn : l.length ≤ 1000000) :
    Calls Try.prog 13 #[.pointer (some m), u] w fun e w' => e = .returned (.tuple #[.int .i64 ((playS S l).1 : Nat), .int .i64 ((playS S l).2.1 : Nat)]) ∧ TW w0 lo w' m rb (playS S l).2.2 R := by
  obtain ⟨F, G, h1, h2, h3, h4, h5, h6, h7⟩ := h
  exact (h1.play hl (ha F h1) hn).mono fun e w' ⟨a, b⟩ => ⟨a, TW.stepS h2 h3 h4 h5 h6 h7 b⟩
theorem TW.refPlay (h : TW w0 lo w m rb S R) {u : Value} {l : List Int} (hl : IntsAt w u l) (ha : ∀ G, RS w ⟨rb, 0, none⟩ R G → (∀ x, G x → lo ≤ x) → Apart u G) (hn : l.length ≤ 1000000) :
    Calls Try.prog 14 #[.pointer (some ⟨rb, 0, none⟩), u] w fun e w' => e = .returned (.tuple #[.int .i64 ((playS R l).1 : Nat), .int .i64 ((playS R l).2.1 : Nat)]) ∧ TW w0 lo w' m rb S (playS R l).2.2 := by
  obtain ⟨F, G, h1, h2, h3, h4, h5, h6, h7⟩ := h
  exact (h2.play hl (ha G h2 h5) hn).mono fun e w' ⟨a, b⟩ => ⟨a, TW.stepR h1 h2 h3 h4 h5 h6 h7 b⟩
theorem RefT.of {G : Nat → Prop} (h : RS w ⟨rb, 0, none⟩ S G) : RefT w rb S where
  en W hW := (h.below hW).enabled
  left W hW t ht := (h.below hW).left t ht
  cell W hW c hc := (h.below hW).cellAt c hc
  hold W hW c hc := (h.below hW).holder c hc
  flds := by
    obtain ⟨b, o, cap, v4, e, hb, c0, _, c4, hi⟩ := h.fields
    injection e with e
    subst e
    have hl := h.lt rb hb
    exact ⟨o, cap, v4, fun W hW => ⟨(hW.cell (p := ⟨rb, 0, none⟩) hl).trans c0, (hW.cell (p := ⟨rb, 4, none⟩) hl).trans c4, hi.below hW⟩⟩
theorem TW.alike (h : TW w0 lo w m rb S S) {nv : Value} {names : List Int} (hn : IntsAt w nv names) :
    Calls Try.prog 12 #[.pointer (some m), .pointer (some ⟨rb, 0, none⟩), nv] w fun e w' => e = .returned (.bool true) ∧ Below w.heap.size w w' := by
  obtain ⟨F, G, h1, h2, h3, h4, h5, h6, h7⟩ := h
  exact alike_core h1 (RefT.of h2) hn
theorem TW.new {w1 w2 w3 : World} {L : List (List Stp)} {F : Nat → Prop} {r : Rs} {G : Nat → Prop} (b1 : Below w0.heap.size w0 w1) (h1 : SI w2 m (initS L) F) (b2 : Below w1.heap.size w1 w2) (hF : ∀ x, F x → w1.heap.size ≤ x) (h2 : absR r = initS L) (h3 : RI w3 ⟨rb, 0, none⟩ r G) (b3 : Below w2.heap.size w2 w3) (hG : ∀ x, G x → w2.heap.size ≤ x) : TW w0 w1.heap.size w3 m rb (initS L) (initS L) := by
  have s1 := b1.size
  have s2 := b2.size
  have b12 := b1.trans (b2.mono s1)
  refine ⟨F, G, h1.kept b3.size (fun x hx => b3.block x (h1.lt x hx)), ⟨r, h2, h3⟩, fun x hx g => ?_, hF, fun x hx => ?_, s1, b12.trans (b3.mono (by omega))⟩
  · have := h1.lt x hx; have := hG x g; omega
  · have := hG x hx; omega
end Go.Proofs.Ytlcbegmhmbegjaa
