/- alike: both machines tell the same: what it works with. -/
import Derived.Test.YtlcbegmhmbegjaaPl
import Derived.Test.YtlcbegmhmbegjaaLst
import Derived.Test.YtlcbegmhmbegjaaHv
import Derived.OneCell
namespace Go.Proofs.Ytlcbegmhmbegjaa
open Go.ChangeShapes Go.WideShapes Go.ChangeAt Go.RowKit Go.Proofs.Sc Go.Maps
set_option linter.unusedVariables false
set_option linter.unusedSimpArgs false

theorem nats_ints (l : List Nat) : nats l = ints (l.map fun i : Nat => (i : Int)) := by unfold nats ints; rw [List.map_map]; rfl
theorem able_i64 {S : Sc} (wf : Wf S) : ∀ x ∈ (ableS S).map (fun i : Nat => (i : Int)), i64 x := by
  intro x hx
  obtain ⟨i, hi, rfl⟩ := List.mem_map.1 hx
  obtain ⟨s, r, h, _⟩ := able_mem hi
  have := (List.getElem?_eq_some_iff.1 h).1
  have := wf.tasks
  unfold i64; omega
theorem able_len {S : Sc} (wf : Wf S) : (ableS S).length ≤ 64 := by
  unfold ableS
  split
  · exact Nat.zero_le _
  · exact Nat.le_trans (ables_le S _) wf.tasks
/-- The landed machine's Cell and Holder leave the world as it was. -/
theorem SI.cellAt' {w : World} {S : Sc} {m : Addr} {F : Nat → Prop} (h : SI w m S F) (l : Int) (ht : i64 l) :
    Calls Try.prog 31 #[.pointer (some m), .int .i64 l] w fun e w' => e = .returned (.int .i64 (S.cell l)) ∧ w' = w := by
  obtain ⟨b, v0, v3, bh, bc, n, vs, T, rfl, rfl, k, wf, _⟩ := h
  have c1 := k.c2
  have hl := k.look_cell (Below.refl _ _) l ht
  clear k
  go_enter Try.func31, Try.ntmps31
  go_wp2_with fail
  go_ret
  exact ⟨rfl, rfl⟩
theorem set_far' {w : World} {b k x : Nat} {u : Value} (h : x ≠ b) : (w.setCell ⟨b, k, none⟩ u).heap[x]? = w.heap[x]? := Below.heap_setCell _ _ _ _ h
theorem below_set {N : Nat} {w W : World} (h : Below N w W) {g k : Nat} {v : Value} (hg : N ≤ g) : Below N w (W.setCell ⟨g, k, none⟩ v) :=
  ⟨h.os, h.tape, h.output, by have := h.size; simpa using this, fun b hb => (set_far' (by omega)).trans (h.block b hb)⟩
/-- The four lists that alike is told. -/
structure Q4 (w W : World) (a b c d : Value) (n k : Nat) (xa xb xc xd : List Value) (p1 p2 p3 : Nat) : Prop where
  be : Below w.heap.size w W
  o1 : w.heap.size ≤ p1
  o2 : p1 ≤ p2
  o3 : p2 ≤ p3
  o4 : p3 ≤ W.heap.size
  ra : W.ownsRow w.heap.size 3 1 a n xa
  rb : W.ownsRow p1 3 1 b n xb
  rc : W.ownsRow p2 3 1 c k xc
  rd : W.ownsRow p3 3 1 d k xd
  la : ∀ x, a.ownBlock = some x → x < p1
  lb : ∀ x, b.ownBlock = some x → x < p2
  lc : ∀ x, c.ownBlock = some x → x < p3
variable {w W : World} {a b c d : Value} {n k : Nat} {xa xb xc xd : List Value} {p1 p2 p3 : Nat}
theorem Q4.next {W' : World} (h : Q4 w W a b c d n k xa xb xc xd p1 p2 p3) (hb : Below W.heap.size W W') : Q4 w W' a b c d n k xa xb xc xd p1 p2 p3 :=
  ⟨h.be.trans (hb.mono h.be.size), h.o1, h.o2, h.o3, Nat.le_trans h.o4 hb.size, owns_kept h.ra (fun x hx => hb.block x (h.ra.lt x hx).2), owns_kept h.rb (fun x hx => hb.block x (h.rb.lt x hx).2), owns_kept h.rc (fun x hx => hb.block x (h.rc.lt x hx).2), owns_kept h.rd (fun x hx => hb.block x (h.rd.lt x hx).2), h.la, h.lb, h.lc⟩
theorem Q4.setA {g cap : Nat} (h : Q4 w W (.slice (some ⟨g, 0, none⟩) n cap) b c d n k xa xb xc xd p1 p2 p3) (j : Nat) (u : Value) : Q4 w (W.setCell ⟨g, j, none⟩ u) (.slice (some ⟨g, 0, none⟩) n cap) b c d n k (xa.set j u) xb xc xd p1 p2 p3 := by
  have hg := (h.ra.lt g rfl).1
  have l1 := h.la g rfl
  have := h.o2
  have := h.o3
  exact ⟨below_set h.be hg, h.o1, h.o2, h.o3, by have := h.o4; simpa using this, (h.ra.stored j u).1, owns_kept h.rb (fun x hx => set_far' (by have := (h.rb.lt x hx).1; omega)), owns_kept h.rc (fun x hx => set_far' (by have := (h.rc.lt x hx).1; omega)), owns_kept h.rd (fun x hx => set_far' (by have := (h.rd.lt x hx).1; omega)), h.la, h.lb, h.lc⟩
theorem Q4.setB {g cap : Nat} (h : Q4 w W a (.slice (some ⟨g, 0, none⟩) n cap) c d n k xa xb xc xd p1 p2 p3) (j : Nat) (u : Value) : Q4 w (W.setCell ⟨g, j, none⟩ u) a (.slice (some ⟨g, 0, none⟩) n cap) c d n k xa (xb.set j u) xc xd p1 p2 p3 := by
  have hg := (h.rb.lt g rfl).1
  have l1 := h.lb g rfl
  have := h.o1
  have := h.o3
  exact ⟨below_set h.be (by omega), h.o1, h.o2, h.o3, by have := h.o4; simpa using this, owns_kept h.ra (fun x hx => set_far' (by have := h.la x hx; omega)), (h.rb.stored j u).1, owns_kept h.rc (fun x hx => set_far' (by have := (h.rc.lt x hx).1; omega)), owns_kept h.rd (fun x hx => set_far' (by have := (h.rd.lt x hx).1; omega)), h.la, h.lb, h.lc⟩
theorem Q4.setC {g cap : Nat} (h : Q4 w W a b (.slice (some ⟨g, 0, none⟩) k cap) d n k xa xb xc xd p1 p2 p3) (j : Nat) (u : Value) : Q4 w (W.setCell ⟨g, j, none⟩ u) a b (.slice (some ⟨g, 0, none⟩) k cap) d n k xa xb (xc.set j u) xd p1 p2 p3 := by
  have hg := (h.rc.lt g rfl).1
  have l1 := h.lc g rfl
  have := h.o1
  have := h.o2
  exact ⟨below_set h.be (by omega), h.o1, h.o2, h.o3, by have := h.o4; simpa using this, owns_kept h.ra (fun x hx => set_far' (by have := h.la x hx; omega)), owns_kept h.rb (fun x hx => set_far' (by have := h.lb x hx; omega)), (h.rc.stored j u).1, owns_kept h.rd (fun x hx => set_far' (by have := (h.rd.lt x hx).1; omega)), h.la, h.lb, h.lc⟩
theorem Q4.setD {g cap : Nat} (h : Q4 w W a b c (.slice (some ⟨g, 0, none⟩) k cap) n k xa xb xc xd p1 p2 p3) (j : Nat) (u : Value) : Q4 w (W.setCell ⟨g, j, none⟩ u) a b c (.slice (some ⟨g, 0, none⟩) k cap) n k xa xb xc (xd.set j u) p1 p2 p3 := by
  have hg := (h.rd.lt g rfl).1
  have := h.o1
  have := h.o2
  have := h.o3
  exact ⟨below_set h.be (by omega), h.o1, h.o2, h.o3, by have := h.o4; simpa using this, owns_kept h.ra (fun x hx => set_far' (by have := h.la x hx; omega)), owns_kept h.rb (fun x hx => set_far' (by have := h.lb x hx; omega)), owns_kept h.rc (fun x hx => set_far' (by have := h.lc x hx; omega)), (h.rd.stored j u).1, h.la, h.lb, h.lc⟩
theorem owns_base {base base' : Nat} {e : TypeId} {size : Nat} {v : Value} {m : Nat} {xs : List Value} (h : W.ownsRow base e size v m xs) (hb : base' ≤ base) : W.ownsRow base' e size v m xs := by
  obtain ⟨h1, h2 | ⟨g, cap, cur, e1, hb1, r⟩⟩ := h
  · exact ⟨h1, Or.inl h2⟩
  · exact ⟨h1, Or.inr ⟨g, cap, cur, e1, by omega, r⟩⟩
/-- The first i are all v. -/
def Fst (xs : List Value) (i : Nat) (v : Value) : Prop := ∀ j, j < i → xs[j]? = some v
theorem Fst.zero (xs : List Value) (v : Value) : Fst xs 0 v := fun j hj => by omega
theorem Fst.set {xs : List Value} {i : Nat} {v : Value} (h : Fst xs i v) (hl : i < xs.length) : Fst (xs.set i v) (i + 1) v := fun j hj => by
  by_cases z : j = i
  · subst z; rw [List.getElem?_set_self hl]
  · rw [List.getElem?_set_ne (by omega)]; exact h j (by omega)
theorem fz_row {base m : Nat} {e : TypeId} {g cap : Nat} {xs : List Value} (h : W.ownsRow base e 1 (.slice (some ⟨g, 0, none⟩) m cap) m xs) (j : Nat) : W.frozen? ⟨g, j, none⟩ = false := by
  obtain ⟨_, ⟨e1, _⟩ | ⟨g', cap', cur, e1, _, hh, _⟩⟩ := h
  · cases e1
  · injection e1 with e1
    injection e1 with e1
    injection e1 with e1
    subst e1
    unfold World.frozen?; rw [hh]; rfl
/-- append(l, v), of a row of our own. -/
theorem push1 {base : Nat} {v : Value} {m : Nat} {xs : List Value} (h : W.ownsRow base 3 1 v m xs) (hm : m ≤ 1000000) (hb : base ≤ W.heap.size) (x : Int) (ty : TypeId) :
    ∃ g cap W', (Builtin.append_ #[23, 23] ty #[v, .slice (some ⟨W.heap.size, 0, none⟩) 1 1]).run Try.prog (W.alloc (.cells #[.int .i64 x] 3)) = .ok (.slice (some ⟨g, 0, none⟩) (m + 1) cap) W' ∧
      W'.ownsRow base 3 1 (.slice (some ⟨g, 0, none⟩) (m + 1) cap) (m + 1) (xs ++ [.int .i64 x]) ∧ W.heap.size ≤ W'.heap.size ∧ (∀ y, y < W.heap.size → v.ownBlock ≠ some y → W'.heap[y]? = W.heap[y]?) ∧ (v.ownBlock = some g ∨ W.heap.size ≤ g) ∧ W'.os = W.os ∧ W'.tape = W.tape ∧ W'.output = W.output := by
  obtain ⟨i0, hi0, hz0, hz1, hz2⟩ := info_parts infoI
  obtain ⟨V, hV⟩ : ∃ V, V = W.alloc (.cells #[.int .i64 x] 3) := ⟨_, rfl⟩
  have hs : V.heap.size = W.heap.size + 1 := by rw [hV]; simp
  have own : V.ownsRow base 3 1 v m xs := by rw [hV]; exact h.alloc _
  obtain ⟨g, cap, w', r1, o1, g1, hat, hlt⟩ := run_append_lies (P := Try.prog) V 23 ty base 3 i0 _ 1 8 Try.underlying23 hi0 hz0 hz1 hz2 rfl (by decide) v m xs own ⟨W.heap.size, 0, none⟩ 1 1 [.int .i64 x] rfl (by rw [hV]; exact World.news_of_block (heap_alloc_new _ _)) (by intro u hu; simp at hu; subst hu; rfl) (by decide) (by unfold maxLen; omega) (by omega) (by omega) _ rfl
  refine ⟨g, cap, w', by rw [← hV]; exact r1, o1, by have := g1.size; omega, fun y hy hne => ?_, ?_, ?_, ?_, ?_⟩
  · rw [g1.block y (by omega) (fun e => hne e.symm), hV, Below.heap_alloc _ _ _ hy]
  · rcases hat with z | z
    · exact .inl z
    · exact .inr (by omega)
  · rw [g1.os, hV]; rfl
  · rw [g1.tape, hV]; rfl
  · rw [g1.output, hV]; rfl
end Go.Proofs.Ytlcbegmhmbegjaa
