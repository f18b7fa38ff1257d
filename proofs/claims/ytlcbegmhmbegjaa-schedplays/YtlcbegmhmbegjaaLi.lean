/- How a machine of the landed package lies in memory. -/
import Derived.Test.YtlcbegmhmbegjaaBs
namespace Go.Proofs.Ytlcbegmhmbegjaa
open Go.ChangeShapes Go.WideShapes Go.ChangeAt Go.RowKit Go.Proofs.Sc Go.Maps
set_option linter.unusedVariables false
set_option linter.unusedSimpArgs false

def heldOf (h : Int → Option Nat) : Int → Option Int := fun l => (h l).map fun i : Nat => (i : Int)
structure Lies (w : World) (b : Nat) (S : Sc) (v0 v3 : Value) (bh bc n : Nat) (vs : List Value) (T : Nat → Prop) : Prop where
  c0 : w.cell? ⟨b, 0, none⟩ = some v0
  c1 : w.cell? ⟨b, 1, none⟩ = some (.map (some bh))
  c2 : w.cell? ⟨b, 2, none⟩ = some (.map (some bc))
  c3 : w.cell? ⟨b, 3, none⟩ = some v3
  c4 : w.cell? ⟨b, 4, none⟩ = some (.bool S.over)
  fz : ∀ k, w.frozen? ⟨b, k, none⟩ = false
  row : w.ownsRow 0 34 1 v0 S.ahead.length vs
  els : ∀ (i : Nat) (t : List Stp), S.ahead[i]? = some t → ∃ v, vs[i]? = some v ∧ StepsAt w v t T
  hold : MapOf w bh n (heldOf S.hold)
  cell : ∃ H, MapOf w bc n H ∧ ∀ c, (H c).getD 0 = S.cell c
  said : w.ownsRow 0 3 1 v3 S.said.length (ints S.said)
  tlt : ∀ x, T x → x < w.heap.size
  nh : bh ≠ b
  nc : bc ≠ b
  nhc : bh ≠ bc
  n0 : ∀ x, v0.ownBlock = some x → x ≠ b ∧ x ≠ bh ∧ x ≠ bc ∧ v3.ownBlock ≠ some x ∧ ¬ T x
  n3 : ∀ x, v3.ownBlock = some x → x ≠ b ∧ x ≠ bh ∧ x ≠ bc ∧ ¬ T x
  nt : ∀ x, T x → x ≠ b ∧ x ≠ bh ∧ x ≠ bc
/-- A machine's own blocks. -/
def Foot (b bh bc : Nat) (v0 v3 : Value) (T : Nat → Prop) (x : Nat) : Prop := x = b ∨ x = bh ∨ x = bc ∨ v0.ownBlock = some x ∨ v3.ownBlock = some x ∨ T x
theorem owns_kept {w w' : World} {base : Nat} {e : TypeId} {size : Nat} {v : Value} {n : Nat} {xs : List Value} (h : w.ownsRow base e size v n xs) (hk : ∀ x, v.ownBlock = some x → w'.heap[x]? = w.heap[x]?) : w'.ownsRow base e size v n xs := by
  obtain ⟨h1, h2 | ⟨g, cap, cur, e1, hb, hh, r⟩⟩ := h
  · exact ⟨h1, Or.inl h2⟩
  · exact ⟨h1, Or.inr ⟨g, cap, cur, e1, hb, (hk g (by rw [e1]; rfl)).trans hh, r⟩⟩
variable {w w' : World} {b : Nat} {S : Sc} {v0 v3 : Value} {bh bc n : Nat} {vs : List Value} {T : Nat → Prop}
theorem Lies.lt (h : Lies w b S v0 v3 bh bc n vs T) {x : Nat} (hx : Foot b bh bc v0 v3 T x) : x < w.heap.size := by
  rcases hx with rfl | rfl | rfl | e | e | e
  · exact cell_lt h.c0
  · exact h.hold.lt
  · obtain ⟨H, k, _⟩ := h.cell; exact k.lt
  · exact (h.row.lt x e).2
  · exact (h.said.lt x e).2
  · exact h.tlt x e
theorem Lies.kept (h : Lies w b S v0 v3 bh bc n vs T) (hs : w.heap.size ≤ w'.heap.size) (hk : ∀ x, Foot b bh bc v0 v3 T x → w'.heap[x]? = w.heap[x]?) : Lies w' b S v0 v3 bh bc n vs T := by
  have hb := hk b (Or.inl rfl)
  have hc : ∀ k, w'.cell? ⟨b, k, none⟩ = w.cell? ⟨b, k, none⟩ := fun k => World.cell?_of_block hb
  obtain ⟨H, k1, k2⟩ := h.cell
  refine ⟨(hc 0).trans h.c0, (hc 1).trans h.c1, (hc 2).trans h.c2, (hc 3).trans h.c3, (hc 4).trans h.c4, fun k => (fz_of_block hb).trans (h.fz k), owns_kept h.row (fun x e => hk x (Or.inr (Or.inr (Or.inr (Or.inl e))))), fun i t hi => ?_, h.hold.kept (hk bh (Or.inr (Or.inl rfl))), ⟨H, k1.kept (hk bc (Or.inr (Or.inr (Or.inl rfl)))), k2⟩, owns_kept h.said (fun x e => hk x (Or.inr (Or.inr (Or.inr (Or.inr (Or.inl e)))))), fun x hx => by have := h.tlt x hx; omega, h.nh, h.nc, h.nhc, h.n0, h.n3, h.nt⟩
  obtain ⟨v, e1, e2⟩ := h.els i t hi
  exact ⟨v, e1, e2.kept hs (fun x hx _ => hk x (Or.inr (Or.inr (Or.inr (Or.inr (Or.inr hx))))))⟩
theorem Lies.below (h : Lies w b S v0 v3 bh bc n vs T) (hb : Below w.heap.size w w') : Lies w' b S v0 v3 bh bc n vs T := h.kept hb.size (fun x hx => hb.block x (h.lt hx))
theorem Lies.more (h : Lies w b S v0 v3 bh bc n vs T) {n' : Nat} (hn : n ≤ n') : Lies w b S v0 v3 bh bc n' vs T := by
  obtain ⟨H, k1, k2⟩ := h.cell
  exact ⟨h.c0, h.c1, h.c2, h.c3, h.c4, h.fz, h.row, h.els, h.hold.mono hn, ⟨H, k1.mono hn, k2⟩, h.said, h.tlt, h.nh, h.nc, h.nhc, h.n0, h.n3, h.nt⟩
/-- The locks have turned. -/
theorem Lies.locks (h : Lies w b S v0 v3 bh bc n vs T) (hg : w.grownBy w' (some bh)) {f : Int → Option Nat} {n' : Nat} (hn : n ≤ n') (hm : MapOf w' bh n' (heldOf f)) : Lies w' b { S with hold := f } v0 v3 bh bc n' vs T := by
  have hk : ∀ x, Foot b bh bc v0 v3 T x → x ≠ bh → w'.heap[x]? = w.heap[x]? := fun x hx hne => hg.block x (h.lt hx) (fun e => hne (by injection e))
  have hb := hk b (Or.inl rfl) (fun e => h.nh e.symm)
  have hc : ∀ k, w'.cell? ⟨b, k, none⟩ = w.cell? ⟨b, k, none⟩ := fun k => World.cell?_of_block hb
  obtain ⟨H, k1, k2⟩ := h.cell
  have hs := hg.size
  refine ⟨(hc 0).trans h.c0, (hc 1).trans h.c1, (hc 2).trans h.c2, (hc 3).trans h.c3, (hc 4).trans h.c4, fun k => (fz_of_block hb).trans (h.fz k), owns_kept h.row (fun x e => hk x (Or.inr (Or.inr (Or.inr (Or.inl e)))) (h.n0 x e).2.1), fun i t hi => ?_, hm, ⟨H, (k1.kept (hk bc (Or.inr (Or.inr (Or.inl rfl))) (fun e => h.nhc e.symm))).mono hn, k2⟩, owns_kept h.said (fun x e => hk x (Or.inr (Or.inr (Or.inr (Or.inr (Or.inl e))))) (h.n3 x e).2.1), fun x hx => by have := h.tlt x hx; omega, h.nh, h.nc, h.nhc, h.n0, h.n3, h.nt⟩
  obtain ⟨v, e1, e2⟩ := h.els i t hi
  exact ⟨v, e1, e2.kept hs (fun x hx _ => hk x (Or.inr (Or.inr (Or.inr (Or.inr (Or.inr hx))))) (h.nt x hx).2.1)⟩
/-- The cells have turned. -/
theorem Lies.cells (h : Lies w b S v0 v3 bh bc n vs T) (hg : w.grownBy w' (some bc)) {f : Int → Int} {H : Int → Option Int} {n' : Nat} (hn : n ≤ n') (hm : MapOf w' bc n' H) (hH : ∀ c, (H c).getD 0 = f c) : Lies w' b { S with cell := f } v0 v3 bh bc n' vs T := by
  have hk : ∀ x, Foot b bh bc v0 v3 T x → x ≠ bc → w'.heap[x]? = w.heap[x]? := fun x hx hne => hg.block x (h.lt hx) (fun e => hne (by injection e))
  have hb := hk b (Or.inl rfl) (fun e => h.nc e.symm)
  have hc : ∀ k, w'.cell? ⟨b, k, none⟩ = w.cell? ⟨b, k, none⟩ := fun k => World.cell?_of_block hb
  have hs := hg.size
  refine ⟨(hc 0).trans h.c0, (hc 1).trans h.c1, (hc 2).trans h.c2, (hc 3).trans h.c3, (hc 4).trans h.c4, fun k => (fz_of_block hb).trans (h.fz k), owns_kept h.row (fun x e => hk x (Or.inr (Or.inr (Or.inr (Or.inl e)))) (h.n0 x e).2.2.1), fun i t hi => ?_, (h.hold.kept (hk bh (Or.inr (Or.inl rfl)) h.nhc)).mono hn, ⟨H, hm, hH⟩, owns_kept h.said (fun x e => hk x (Or.inr (Or.inr (Or.inr (Or.inr (Or.inl e))))) (h.n3 x e).2.2.1), fun x hx => by have := h.tlt x hx; omega, h.nh, h.nc, h.nhc, h.n0, h.n3, h.nt⟩
  obtain ⟨v, e1, e2⟩ := h.els i t hi
  exact ⟨v, e1, e2.kept hs (fun x hx _ => hk x (Or.inr (Or.inr (Or.inr (Or.inr (Or.inr hx))))) (h.nt x hx).2.2)⟩
theorem set_same {w : World} {b k : Nat} {v u : Value} (h : w.cell? ⟨b, k, none⟩ = some v) : (w.setCell ⟨b, k, none⟩ u).cell? ⟨b, k, none⟩ = some u := World.cell?_setCell_same _ _ _ h
theorem set_other {w : World} {b k j : Nat} {u : Value} (h : j ≠ k) : (w.setCell ⟨b, k, none⟩ u).cell? ⟨b, j, none⟩ = w.cell? ⟨b, j, none⟩ := World.cell?_setCell_other _ _ _ _ (by intro e; have := congrArg Addr.off e; simp at this; omega)
theorem set_far {w : World} {b k x : Nat} {u : Value} (h : x ≠ b) : (w.setCell ⟨b, k, none⟩ u).heap[x]? = w.heap[x]? := Below.heap_setCell _ _ _ _ h
/-- A is said. -/
theorem Lies.say (h : Lies w b S v0 v3 bh bc n vs T) (hg : w.grownBy w' v3.ownBlock) {g cap : Nat} {x : Int} (hown : w'.ownsRow 0 3 1 (.slice (some ⟨g, 0, none⟩) (S.said.length + 1) cap) (S.said.length + 1) (ints S.said ++ [.int .i64 x])) (hat : v3.ownBlock = some g ∨ g = w.heap.size) :
    Lies (w'.setCell ⟨b, 3, none⟩ (.slice (some ⟨g, 0, none⟩) (S.said.length + 1) cap)) b { S with said := S.said ++ [x] } v0 (.slice (some ⟨g, 0, none⟩) (S.said.length + 1) cap) bh bc n vs T := by
  have hb : b < w.heap.size := h.lt (Or.inl rfl)
  have hgb : ∀ x, Foot b bh bc v0 v3 T x → v3.ownBlock ≠ some x → x ≠ g := fun y hy hn e => by
    rcases hat with z | z
    · exact hn (e ▸ z)
    · have := h.lt hy; omega
  have nb : v3.ownBlock ≠ some b := fun e => (h.n3 b e).1 rfl
  have nbh : v3.ownBlock ≠ some bh := fun e => (h.n3 bh e).2.1 rfl
  have nbc : v3.ownBlock ≠ some bc := fun e => (h.n3 bc e).2.2.1 rfl
  have nT : ∀ x, T x → v3.ownBlock ≠ some x := fun x hx e => (h.n3 x e).2.2.2 hx
  have n0 : ∀ x, v0.ownBlock = some x → v3.ownBlock ≠ some x := fun x hx => (h.n0 x hx).2.2.2.1
  have hk : ∀ x, Foot b bh bc v0 v3 T x → v3.ownBlock ≠ some x → x ≠ b → (w'.setCell ⟨b, 3, none⟩ (.slice (some ⟨g, 0, none⟩) (S.said.length + 1) cap)).heap[x]? = w.heap[x]? := fun x hx hn hne => by
    rw [set_far hne]; exact hg.block x (h.lt hx) (fun e => hn e.symm)
  have hbb : w'.heap[b]? = w.heap[b]? := hg.block b hb (fun e => nb e.symm)
  have hc : ∀ k, w'.cell? ⟨b, k, none⟩ = w.cell? ⟨b, k, none⟩ := fun k => World.cell?_of_block hbb
  obtain ⟨H, k1, k2⟩ := h.cell
  have hs := hg.size
  have gb : g ≠ b := fun e => hgb b (Or.inl rfl) nb e.symm
  have F0 : ∀ {x}, v0.ownBlock = some x → Foot b bh bc v0 v3 T x := fun e => Or.inr (Or.inr (Or.inr (Or.inl e)))
  have FT : ∀ {x}, T x → Foot b bh bc v0 v3 T x := fun e => Or.inr (Or.inr (Or.inr (Or.inr (Or.inr e))))
  refine ⟨(set_other (by omega)).trans ((hc 0).trans h.c0), (set_other (by omega)).trans ((hc 1).trans h.c1), (set_other (by omega)).trans ((hc 2).trans h.c2), set_same ((hc 3).trans h.c3), (set_other (by omega)).trans ((hc 4).trans h.c4), fun k => by rw [World.frozen?_setCell]; exact (fz_of_block hbb).trans (h.fz k), owns_kept h.row (fun x e => hk x (F0 e) (n0 x e) (h.n0 x e).1), fun i t hi => ?_, h.hold.kept (hk bh (Or.inr (Or.inl rfl)) nbh h.nh), ⟨H, k1.kept (hk bc (Or.inr (Or.inr (Or.inl rfl))) nbc h.nc), k2⟩, ?_, fun x hx => by have := h.tlt x hx; simp; omega, h.nh, h.nc, h.nhc, fun x e => ⟨(h.n0 x e).1, (h.n0 x e).2.1, (h.n0 x e).2.2.1, fun z => ?_, (h.n0 x e).2.2.2.2⟩, fun x e => ?_, h.nt⟩
  · obtain ⟨v, e1, e2⟩ := h.els i t hi
    exact ⟨v, e1, e2.kept (by simp; omega) (fun x hx _ => hk x (FT hx) (nT x hx) (h.nt x hx).1)⟩
  · show World.ownsRow _ 0 _ 1 _ (S.said ++ [x]).length (ints (S.said ++ [x]))
    rw [show (S.said ++ [x]).length = S.said.length + 1 by simp, show ints (S.said ++ [x]) = ints S.said ++ [.int .i64 x] by simp [ints]]
    exact owns_kept hown (fun y hy => set_far (by simp [Value.ownBlock] at hy; omega))
  · simp [Value.ownBlock] at z
    exact hgb x (F0 e) (n0 x e) z.symm
  · simp [Value.ownBlock] at e
    subst e
    exact ⟨gb, fun e => hgb bh (Or.inr (Or.inl rfl)) nbh e.symm, fun e => hgb bc (Or.inr (Or.inr (Or.inl rfl))) nbc e.symm, fun e => hgb g (FT e) (nT g e) rfl⟩
/-- A task has gone on. -/
theorem Lies.next {g cap : Nat} (h : Lies w b S (.slice (some ⟨g, 0, none⟩) S.ahead.length cap) v3 bh bc n vs T) {i : Nat} {t r : List Stp} (hi : S.ahead[i]? = some t) {v : Value} (hv : StepsAt w v r T) :
    Lies (w.setCell ⟨g, i, none⟩ v) b { S with ahead := S.ahead.set i r } (.slice (some ⟨g, 0, none⟩) S.ahead.length cap) v3 bh bc n (vs.set i v) T := by
  obtain ⟨q1, q2, q3, q4, q5⟩ := h.n0 g rfl
  have hb : (w.setCell ⟨g, i, none⟩ v).heap[b]? = w.heap[b]? := set_far (fun e => q1 e.symm)
  have hc : ∀ k, (w.setCell ⟨g, i, none⟩ v).cell? ⟨b, k, none⟩ = w.cell? ⟨b, k, none⟩ := fun k => World.cell?_of_block hb
  obtain ⟨H, k1, k2⟩ := h.cell
  have hl : i < S.ahead.length := (List.getElem?_eq_some_iff.1 hi).1
  have hvl : vs.length = S.ahead.length := by have := h.row.1; omega
  have keep : ∀ {u : Value} {t : List Stp}, StepsAt w u t T → StepsAt (w.setCell ⟨g, i, none⟩ v) u t T := fun k => k.kept (by simp) (fun x hx _ => set_far (fun e => q5 (e ▸ hx)))
  refine ⟨(hc 0).trans h.c0, (hc 1).trans h.c1, (hc 2).trans h.c2, (hc 3).trans h.c3, (hc 4).trans h.c4, fun k => (fz_of_block hb).trans (h.fz k), ?_, fun j t' hj => ?_, h.hold.kept (set_far (fun e => q2 e.symm)), ⟨H, k1.kept (set_far (fun e => q3 e.symm)), k2⟩, owns_kept h.said (fun x e => set_far (fun z => q4 (z ▸ e))), fun x hx => by have := h.tlt x hx; simpa using this, h.nh, h.nc, h.nhc, h.n0, h.n3, h.nt⟩
  · show World.ownsRow _ 0 _ 1 _ (S.ahead.set i r).length _
    rw [List.length_set]
    exact (h.row.stored i v).1
  · by_cases e : j = i
    · subst e
      rw [List.getElem?_set_self hl] at hj
      refine ⟨v, List.getElem?_set_self (by omega), ?_⟩
      cases hj
      exact keep hv
    · rw [List.getElem?_set_ne (fun z => e z.symm)] at hj
      obtain ⟨u, e1, e2⟩ := h.els j t' hj
      exact ⟨u, by rw [List.getElem?_set_ne (fun z => e z.symm)]; exact e1, keep e2⟩
/-- The end of all. -/
theorem Lies.stop (h : Lies w b S v0 v3 bh bc n vs T) : Lies (w.setCell ⟨b, 4, none⟩ (.bool true)) b { S with over := true } v0 v3 bh bc n vs T := by
  obtain ⟨H, k1, k2⟩ := h.cell
  have far : ∀ {x}, x ≠ b → (w.setCell ⟨b, 4, none⟩ (.bool true)).heap[x]? = w.heap[x]? := fun e => set_far e
  refine ⟨(set_other (by omega)).trans h.c0, (set_other (by omega)).trans h.c1, (set_other (by omega)).trans h.c2, (set_other (by omega)).trans h.c3, set_same h.c4, fun k => by rw [World.frozen?_setCell]; exact h.fz k, owns_kept h.row (fun x e => far (h.n0 x e).1), fun i t hi => ?_, h.hold.kept (far h.nh), ⟨H, k1.kept (far h.nc), k2⟩, owns_kept h.said (fun x e => far (h.n3 x e).1), fun x hx => by have := h.tlt x hx; simpa using this, h.nh, h.nc, h.nhc, h.n0, h.n3, h.nt⟩
  obtain ⟨v, e1, e2⟩ := h.els i t hi
  exact ⟨v, e1, e2.kept (by simp) (fun x hx _ => far (h.nt x hx).1)⟩
/-- The invariant: S is what the machine at m is; F are its blocks. -/
def SI (w : World) (m : Addr) (S : Sc) (F : Nat → Prop) : Prop :=
  ∃ b v0 v3 bh bc n vs T, m = ⟨b, 0, none⟩ ∧ F = Foot b bh bc v0 v3 T ∧ Lies w b S v0 v3 bh bc n vs T ∧ Wf S ∧ n + lens S.ahead ≤ 10000
theorem SI.wf {w : World} {m : Addr} {S : Sc} {F : Nat → Prop} (h : SI w m S F) : Wf S := by obtain ⟨_, _, _, _, _, _, _, _, _, _, _, h, _⟩ := h; exact h
theorem SI.lt {w : World} {m : Addr} {S : Sc} {F : Nat → Prop} (h : SI w m S F) : ∀ x, F x → x < w.heap.size := by
  obtain ⟨b, v0, v3, bh, bc, n, vs, T, rfl, rfl, l, _⟩ := h
  exact fun x hx => l.lt hx
theorem SI.kept {w w' : World} {m : Addr} {S : Sc} {F : Nat → Prop} (h : SI w m S F) (hs : w.heap.size ≤ w'.heap.size) (hk : ∀ x, F x → w'.heap[x]? = w.heap[x]?) : SI w' m S F := by
  obtain ⟨b, v0, v3, bh, bc, n, vs, T, rfl, rfl, l, r⟩ := h
  exact ⟨b, v0, v3, bh, bc, n, vs, T, rfl, rfl, l.kept hs hk, r⟩
end Go.Proofs.Ytlcbegmhmbegjaa
