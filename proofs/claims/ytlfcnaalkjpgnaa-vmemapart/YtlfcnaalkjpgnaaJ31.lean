/- J31 of the proof of both laws: texts Pq, Awake, one behind the other. -/
import Derived.Test.YtlfcnaalkjpgnaaJ30
import Derived.Test.YtlfcnaalkjpgnaaJ01
import Derived.Test.YtlfcnaalkjpgnaaJ17
/- One pair of spaces while a law runs: acts one by one; lists of the law's own that are written. -/
namespace Go.Proofs.Ytlfcnaalkjpgnaa
open Go.ChangeShapes Go.WideShapes Go.ChangeAt Go.RowKit Go.Proofs.Sp Go.Maps
set_option linter.unusedVariables false
set_option linter.unusedSimpArgs false

theorem sumR_next (X : Nat → ActV) (i : Nat) : sumR X (i + 1) = sumR X i + if (X i).what = 1 ∧ (X i).n ≤ 134217728 then (X i).n else 0 := by
  by_cases h : (X i).what = 1 ∧ (X i).n ≤ 134217728
  · rw [if_pos h]; exact sum_more h.1 h.2
  · rw [if_neg h]; exact sum_same h
/-- One act more. -/
theorem act_next {W : World} {m r : Addr} {S : Sp} {F G : Nat → Prop} {X : Nat → ActV} {i len : Nat} (h : T W m r S F G (i * 1000000000)) (hp : S.pgs.length ≤ sumR X i) (hl : Light X len) (hi : i < len) (h120 : len ≤ 120) (ok : (X i).Ok) :
    Calls Try.prog 9 #[.pointer (some m), .pointer (some r), .agg #[.int .i64 (X i).what, .int .u64 ((X i).page : Int), .int .u64 ((X i).n : Int), .int .u64 ((X i).x : Int)]] W fun e W' => e = .returned (.bool true) ∧
      ∃ S' F' G', T W' m r S' F' G' ((i + 1) * 1000000000) ∧ S'.pgs.length ≤ sumR X (i + 1) ∧ Kept (fun b => F b ∨ G b) W W' ∧ ∀ b, F' b ∨ G' b → (F b ∨ G b) ∨ W.heap.size ≤ b := by
  have hs := sum_le hl (Nat.le_of_lt hi)
  refine (act3 W m r S F G (i * 1000000000) h (by unfold K9; omega) (by omega) (X i).what (X i).page (X i).n (X i).x (by have := ok.page; unfold two64; omega) (by have := ok.n; unfold two64; omega) (by have := ok.x; unfold two64; omega)
    (fun e hn => by rw [Int.toNat_natCast] at hn ⊢; exact hl.one i hi e hn) (fun e => by have := hl.six i hi e; omega)).mono ?_
  rintro e W' ⟨rfl, F', G', t, kp, hf⟩
  refine ⟨rfl, _, F', G', by rw [show (i + 1) * 1000000000 = i * 1000000000 + 1000000000 by omega]; exact t, ?_, kp, hf⟩
  rw [Int.toNat_natCast, Int.toNat_natCast, Int.toNat_natCast, sumR_next]
  exact Nat.le_trans (act_pages S _ _ _ _) (by omega)

/-! ### Lists of the law's own that are written -/
/-- A row of the law's own: its cells are of a kind. -/
def Row1 (W : World) (o : Option Addr) (n : Nat) (P : Value → Prop) (lo hi : Nat) : Prop :=
  0 < n → ∃ b cur e, o = some ⟨b, 0, none⟩ ∧ lo ≤ b ∧ b < hi ∧ W.heap[b]? = some (.cells cur e (0, 0)) ∧ ∀ i, i < n → ∃ v, cur[i]? = some v ∧ P v
theorem Row1.at {W : World} {o : Option Addr} {n : Nat} {P : Value → Prop} {lo hi : Nat} (h : Row1 W o n P lo hi) {i : Nat} (hi' : i < n) : ∃ b v, o = some ⟨b, 0, none⟩ ∧ lo ≤ b ∧ b < hi ∧ P v ∧ W.cell? ⟨b, i, none⟩ = some v ∧ W.frozen? ⟨b, i, none⟩ = false := by
  obtain ⟨b, cur, e, ho, h1, h2, hh, hc⟩ := h (by omega)
  obtain ⟨v, hv, pv⟩ := hc i hi'
  exact ⟨b, v, ho, h1, h2, pv, by rw [cell_of_row W b i cur e (0, 0) hh]; exact hv, by simp [World.frozen?, hh]⟩
theorem Row1.kept {W W' : World} {o : Option Addr} {n : Nat} {P : Value → Prop} {lo hi : Nat} (h : Row1 W o n P lo hi) (hb : ∀ b, o = some ⟨b, 0, none⟩ → W'.heap[b]? = W.heap[b]?) : Row1 W' o n P lo hi := fun h0 => by
  obtain ⟨b, cur, e, ho, h1, h2, hh, hc⟩ := h h0
  exact ⟨b, cur, e, ho, h1, h2, (hb b ho).trans hh, hc⟩
theorem Row1.set {W : World} {b : Nat} {n : Nat} {P : Value → Prop} {lo hi : Nat} (h : Row1 W (some ⟨b, 0, none⟩) n P lo hi) (i : Nat) (v : Value) (pv : P v) : Row1 (W.setCell ⟨b, i, none⟩ v) (some ⟨b, 0, none⟩) n P lo hi := fun h0 => by
  obtain ⟨b', cur, e, ho, h1, h2, hh, hc⟩ := h h0
  obtain rfl : b = b' := by injection ho with ho; injection ho
  refine ⟨b, cur.setIfInBounds i v, e, rfl, h1, h2, ?_, fun j hj => ?_⟩
  · obtain ⟨hlt, hk⟩ := Array.getElem?_eq_some_iff.1 hh
    show (W.heap.modify b _)[b]? = _
    rw [Array.getElem?_eq_getElem (by rw [Array.size_modify]; exact hlt), Array.getElem_modify_self, hk]
    rfl
  · obtain ⟨u, hu, pu⟩ := hc j hj
    have hjs : j < cur.size := (Array.getElem?_eq_some_iff.1 hu).1
    by_cases e : i = j
    · subst e; exact ⟨v, by rw [Array.getElem?_setIfInBounds_self_of_lt hjs], pv⟩
    · exact ⟨u, by rw [Array.getElem?_setIfInBounds_ne e]; exact hu, pu⟩
def isU (v : Value) : Prop := ∃ x : Int, v = .int .u64 x
def isB (v : Value) : Prop := ∃ x : Bool, v = .bool x
theorem row_of {W : World} {o : Option Addr} {n c lo : Nat} {e : TypeId} {xs : List Value} {P : Value → Prop} (h : W.ownsRow lo e 1 (.slice o n c) n xs) (hx : ∀ v ∈ xs, P v) : Row1 W o n P lo W.heap.size := fun h0 => by
  obtain ⟨hl, ⟨h1, h2⟩ | ⟨g, cap, cur, hv, h1, h2, h3, h4, h5, h6⟩⟩ := h
  · omega
  · injection hv with e1 e2 e3
    refine ⟨g, cur, e, e1, h1, (Array.getElem?_eq_some_iff.1 h2).1, h2, fun i hi => ?_⟩
    have hi2 : i < xs.length := by omega
    have hg : xs[i]? = some xs[i] := List.getElem?_eq_getElem hi2
    refine ⟨xs[i], ?_, hx _ (List.getElem_mem hi2)⟩
    rw [← hg, ← h6, List.getElem?_take_of_lt (by omega), Array.getElem?_toList]
theorem u64s_isU (l : List Nat) : ∀ v ∈ u64s l, isU v := fun v hv => by obtain ⟨n, _, rfl⟩ := List.mem_map.1 hv; exact ⟨_, rfl⟩
theorem bools_isB (l : List Bool) : ∀ v ∈ bools l, isB v := fun v hv => by obtain ⟨n, _, rfl⟩ := List.mem_map.1 hv; exact ⟨_, rfl⟩
/-- While the law writes its own lists. -/
structure Gl (w W : World) (hi : Nat) (o0 : Option Addr) (n0 : Nat) (o1 : Option Addr) (n1 : Nat) (o2 : Option Addr) (n2 : Nat) (m r : Addr) (S : Sp) (F G : Nat → Prop) : Prop where
  r0 : Row1 W o0 n0 isU w.heap.size hi
  r1 : Row1 W o1 n1 isB w.heap.size hi
  r2 : Row1 W o2 n2 isU w.heap.size hi
  d01 : ∀ b, o0 = some ⟨b, 0, none⟩ → o1 ≠ some ⟨b, 0, none⟩
  d02 : ∀ b, o0 = some ⟨b, 0, none⟩ → o2 ≠ some ⟨b, 0, none⟩
  d12 : ∀ b, o1 = some ⟨b, 0, none⟩ → o2 ≠ some ⟨b, 0, none⟩
  t : T W m r S F G 0
  be : Below w.heap.size w W
  fg : ∀ b, F b ∨ G b → hi ≤ b
theorem below_setC {N : Nat} {w W : World} (h : Below N w W) (b i : Nat) (v : Value) (hb : N ≤ b) : Below N w (W.setCell ⟨b, i, none⟩ v) :=
  ⟨h.os, h.tape, h.output, by show _ ≤ (W.setCell ⟨b, i, none⟩ v).heap.size; simp; exact h.size, fun k hk => (Below.heap_setCell _ _ _ _ (by simp; omega)).trans (h.block k hk)⟩
theorem far_set (W : World) (b i k : Nat) (v : Value) (h : k ≠ b) : (W.setCell ⟨b, i, none⟩ v).heap[k]? = W.heap[k]? := Below.heap_setCell _ _ _ _ (by simp; omega)
section
variable {w W : World} {hi : Nat} {o0 o1 o2 : Option Addr} {n0 n1 n2 : Nat} {m r : Addr} {S : Sp} {F G : Nat → Prop}
theorem Gl.far {b i : Nat} {v : Value} (h : Gl w W hi o0 n0 o1 n1 o2 n2 m r S F G) (h2 : b < hi) : T (W.setCell ⟨b, i, none⟩ v) m r S F G 0 :=
  h.t.kept (by simp) (fun k hk => far_set W b i k v (by have := h.fg k hk; omega))
theorem Gl.set0 {b : Nat} (h : Gl w W hi (some ⟨b, 0, none⟩) n0 o1 n1 o2 n2 m r S F G) (i : Nat) (v : Value) (pv : isU v) (h1 : w.heap.size ≤ b) (h2 : b < hi) : Gl w (W.setCell ⟨b, i, none⟩ v) hi (some ⟨b, 0, none⟩) n0 o1 n1 o2 n2 m r S F G :=
  ⟨h.r0.set i v pv, h.r1.kept (fun k hk => far_set W b i k v (fun e => h.d01 b rfl (by rw [hk, e]))), h.r2.kept (fun k hk => far_set W b i k v (fun e => h.d02 b rfl (by rw [hk, e]))), h.d01, h.d02, h.d12, h.far h2, below_setC h.be b i v h1, h.fg⟩
theorem Gl.set1 {b : Nat} (h : Gl w W hi o0 n0 (some ⟨b, 0, none⟩) n1 o2 n2 m r S F G) (i : Nat) (v : Value) (pv : isB v) (h1 : w.heap.size ≤ b) (h2 : b < hi) : Gl w (W.setCell ⟨b, i, none⟩ v) hi o0 n0 (some ⟨b, 0, none⟩) n1 o2 n2 m r S F G :=
  ⟨h.r0.kept (fun k hk => far_set W b i k v (fun e => h.d01 k hk (by rw [e]))), h.r1.set i v pv, h.r2.kept (fun k hk => far_set W b i k v (fun e => h.d12 b rfl (by rw [hk, e]))), h.d01, h.d02, h.d12, h.far h2, below_setC h.be b i v h1, h.fg⟩
theorem Gl.set2 {b : Nat} (h : Gl w W hi o0 n0 o1 n1 (some ⟨b, 0, none⟩) n2 m r S F G) (i : Nat) (v : Value) (pv : isU v) (h1 : w.heap.size ≤ b) (h2 : b < hi) : Gl w (W.setCell ⟨b, i, none⟩ v) hi o0 n0 o1 n1 (some ⟨b, 0, none⟩) n2 m r S F G :=
  ⟨h.r0.kept (fun k hk => far_set W b i k v (fun e => h.d02 k hk (by rw [e]))), h.r1.kept (fun k hk => far_set W b i k v (fun e => h.d12 k hk (by rw [e]))), h.r2.set i v pv, h.d01, h.d02, h.d12, h.far h2, below_setC h.be b i v h1, h.fg⟩
theorem Gl.drew (h : Gl w W hi o0 n0 o1 n1 o2 n2 m r S F G) : Gl w W.drew hi o0 n0 o1 n1 o2 n2 m r S F G :=
  ⟨h.r0.kept (fun _ _ => rfl), h.r1.kept (fun _ _ => rfl), h.r2.kept (fun _ _ => rfl), h.d01, h.d02, h.d12, h.t.below (drew_b W), h.be.trans ((drew_b W).mono h.be.size), h.fg⟩
end
theorem Gl.start {w W1 W2 W3 : World} {o0 o1 o2 : Option Addr} {k0 k1 k2 : Nat} {pl : List Nat} {re : List Bool} {fi : List Nat} {m r : Addr} {F G : Nat → Prop} (g : Gv w W1 (.slice o0 pl.length k0) (.slice o1 re.length k1) (.slice o2 fi.length k2) pl re fi)
    (v : VI W2 m (Sp.new pl re fi) F 0) (kv : Kept (fun _ => False) W1 W2) (hF : ∀ b, F b → W1.heap.size ≤ b) (q : RI W3 r (Sp.new pl re fi) G 0) (kq : Kept (fun _ => False) W2 W3) (hG : ∀ b, G b → W2.heap.size ≤ b) :
    Gl w W3 W1.heap.size o0 pl.length o1 re.length o2 fi.length m r (Sp.new pl re fi) F G := by
  have b2 : Below W1.heap.size W1 W2 := kv.below (Nat.le_refl _) (fun _ f => f.elim)
  have b3 : Below W2.heap.size W2 W3 := kq.below (Nat.le_refl _) (fun _ f => f.elim)
  have z2 := b2.size
  have kk : ∀ b, b < W1.heap.size → W3.heap[b]? = W1.heap[b]? := fun b hb => (b3.block b (by omega)).trans (b2.block b hb)
  have rk : ∀ {o : Option Addr} {n : Nat} {P : Value → Prop}, Row1 W1 o n P w.heap.size W1.heap.size → Row1 W3 o n P w.heap.size W1.heap.size := fun h h0 => by
    obtain ⟨b, cur, e, ho, h1, h2, hh, hc⟩ := h h0
    exact ⟨b, cur, e, ho, h1, h2, (kk b h2).trans hh, hc⟩
  have dd : ∀ {o o' : Option Addr} {n n' c c' : Nat}, (∀ b, (Value.slice o n c).ownBlock = some b → (Value.slice o' n' c').ownBlock ≠ some b) → ∀ b, o = some ⟨b, 0, none⟩ → o' ≠ some ⟨b, 0, none⟩ := fun h b e1 e2 => by
    subst e1; subst e2; exact h b rfl rfl
  refine ⟨rk (row_of g.o0 (u64s_isU pl)), rk (row_of g.o1 (bools_isB re)), rk (row_of g.o2 (u64s_isU fi)), dd g.d01, dd g.d02, dd g.d12, ⟨0, 0, Nat.le_refl _, Nat.le_refl _, vface.kept v b3.size (fun b hb => b3.block b (vface.lt v b hb)), q, fun b hb hg => ?_⟩, g.be.trans ((b2.trans (b3.mono z2)).mono g.be.size), fun b hb => ?_⟩
  · have := vface.lt v b hb; have := hG b hg; omega
  · rcases hb with z | z
    · exact hF b z
    · have := hG b z; omega
end Go.Proofs.Ytlfcnaalkjpgnaa

/- Chapter 3's 'awake': it is true, of whatever package keeps its calls' answers. -/
namespace Go.Proofs.Ytlfcnaalkjpgnaa
open Go.ChangeShapes Go.WideShapes Go.ChangeAt Go.RowKit Go.Proofs.Sp

theorem awake_core {I : Inv} (Fc : Face vm I) (w : World) : Calls Try.prog 11 #[] w fun e w' => e = .returned (.bool true) ∧ Below w.heap.size w w' := by
  obtain ⟨S1, e1, b1⟩ := reserve_new [] [] rfl
  obtain ⟨S2, e2, b2, _⟩ := base_commit (n := 1) b1 (by decide) (by decide) rfl
  have e3 : storeS S2 4194304 5 = (0, putS S2 4194304 5) := store_ok (by decide) (base_st b2 (by decide) (by decide))
  have b3 := base_stored b2 4194304 5
  have e4 : loadS (putS S2 4194304 5) 4194304 = (5, 0) := load_ok (by decide) (base_st b3 (by decide) (by decide))
  obtain ⟨S4, e5, b5⟩ := base_release (n := 1) b3 (by decide) (by decide)
  have e6 := base_st b5 (p := 512) (by decide) (by decide)
  have e7 := (base_count b5 (by decide) (by decide)).2
  generalize putS S2 4194304 5 = S3 at *
  clear b1 b2 b3 b5
  go_enter Try.func11, Try.ntmps11
  go_wp2_with fail
  go_at_call 7
  refine (Fc.jnew (w0 := w) _ _ _ _ [] [] [] (Sl.nil _) (Sl.nil _) (Sl.nil _) (by simp) (by simp) (by decide) (by decide) (by decide) (Below.refl _ _)).mono ?_
  rintro e w1 ⟨m, rfl, j1⟩
  go_wp2_with fail
  go_at_call 16
  refine (Fc.jreserve (a := 0) (b := 512) (by exact e1) j1 (by unfold two64; omega) (by unfold two64; omega) (by decide)).mono ?_
  rintro e w2 ⟨rfl, j2⟩
  go_wp2_with fail
  go_at_call 18
  refine (Fc.jcommit (a := 512) (b := 1) (by exact e2) j2 (by unfold two64; omega) (by unfold two64; omega) (by decide)).mono ?_
  rintro e w3 ⟨rfl, j3⟩
  go_wp2_with fail
  go_at_call 24
  refine (Fc.jstore (a := 4194304) (b := 5) (by exact e3) j3 (by unfold two64; omega) (by unfold two64; omega) (by decide)).mono ?_
  rintro e w4 ⟨rfl, j4⟩
  go_wp2_with fail
  go_at_call 22
  refine (Fc.jload (a := 4194304) (by exact e4) j4 (by unfold two64; omega) (by decide)).mono ?_
  rintro e w5 ⟨rfl, j5⟩
  go_wp2_with fail
  go_at_call 20
  refine (Fc.jrelease (a := 512) (b := 1) (by exact e5) j5 (by unfold two64; omega) (by unfold two64; omega) (by decide)).mono ?_
  rintro e w6 ⟨rfl, j6⟩
  go_wp2_with fail
  go_at_call 30
  refine (Fc.jstate (a := 512) (by exact e6) j6 (by unfold two64; omega) (by decide)).mono ?_
  rintro e w7 ⟨rfl, j7⟩
  go_wp2_with fail
  go_at_call 28
  refine (Fc.jcount (k := 1) (by exact e7) j7 (by omega) (by omega) (by decide)).mono ?_
  rintro e w8 ⟨rfl, j8⟩
  go_wp2_with fail
  go_ret
  exact ⟨rfl, j8.below⟩
end Go.Proofs.Ytlfcnaalkjpgnaa
