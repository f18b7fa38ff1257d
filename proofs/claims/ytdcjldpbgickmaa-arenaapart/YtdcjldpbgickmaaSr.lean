/- Package slices: reverseRangeOrdered, order2Ordered, medianOrdered, medianAdjacentOrdered, choosePivotOrdered: contracts. -/
import Derived.Test.YtdcjldpbgickmaaSo
namespace Go.Proofs.Ytdcjldpbgickmaa
open Go.ChangeShapes Go.WideShapes Go.ChangeAt Go.RowKit Go.Shelf Go.Proofs.Rx Go.Maps
open Go.Sort (swp ltInt size_swp swp_left swp_right swp_other)
set_option linter.unusedVariables false
set_option linter.unusedSimpArgs false

set_option maxRecDepth 100000 in
set_option maxHeartbeats 2000000 in
theorem reverse_any {blk off : Nat} {w0 W : World} {d : Array Int} (h : RwU blk off w0 d W) (cap a b : Nat) (hab : a < b) (hb : b ≤ d.size) (hsz : d.size < 1152921504606846976) :
    Calls Try.prog 41 #[.slice (some ⟨blk, off, none⟩) d.size cap, .int .i64 (a : Nat), .int .i64 (b : Nat)] W fun e W' => e = .returned (.tuple #[]) ∧ RwU blk off w0 (Go.Sort.reverseRange d a b) W' := by
  obtain ⟨n, hn⟩ : ∃ n, d.size = n := ⟨_, rfl⟩
  rw [hn] at hb hsz ⊢
  have H := hide h
  have HN := hide hn
  obtain ⟨c, hc0⟩ : ∃ c, b - 1 = c := ⟨_, rfl⟩
  have hcI : (b : Int) - 1 = (c : Int) := by omega
  have FIN := hide (show ∀ e, Go.Sort.reverseLoop a c d = e → Go.Sort.reverseRange d a b = e from fun e he => by unfold Go.Sort.reverseRange; rw [hc0]; exact he)
  clear h hn
  go_enter Try.func41, Try.ntmps41
  go_wp2_with fail
  go_loopw [6, 7] (fun vi vj X => ∃ (i j : Nat) (e : Array Int), vi = .int .i64 (i : Nat) ∧ vj = .int .i64 (j : Nat) ∧ i ≤ j + 1 ∧ j < b ∧ Hid (e.size = n) ∧ Hid (RwU blk off w0 e X) ∧ Hid (Go.Sort.reverseLoop i j e = Go.Sort.reverseLoop a c d)) (fun vi vj _ => (zi vj + 1 - zi vi).toNat)
  case atStart => exact ⟨a, c, d, rfl, rfl, by omega, by omega, HN, H, hide rfl⟩
  case round =>
    obtain ⟨i, j, e, rfl, rfl, h1, h2, HS, HE, HO⟩ := hrel
    obtain ⟨G, hG⟩ : ∃ G : Nat → Int, ∀ t, G t = e[t]! := ⟨fun t => e[t]!, fun _ => rfl⟩
    have hc : ∀ t, t < n → wr.cell? ⟨blk, off + t, none⟩ = some (.int .u64 (G t)) := fun t ht => by rw [hG]; exact HE.out.cell t (by rw [HS.out]; exact ht)
    have hf : ∀ t, t < n → wr.frozen? ⟨blk, off + t, none⟩ = false := fun t ht => HE.out.fz t (by rw [HS.out]; exact ht)
    have HG := hide hG
    clear hG
    by_cases c1 : i < j
    · have dc : decide ((i : Int) < (j : Int)) = true := decide_eq_true (by omega)
      have xy : ¬ i = j := by omega
      have yx : ¬ j = i := by omega
      have qi : i < n := by omega
      have qj : j < n := by omega
      go_wp2_with fail
      go_region
      all_goals go_wp2_with fail
      have hg := HG.out
      refine ⟨⟨i + 1, j - 1, swp e i j, by push_cast; rfl, by congr 1; omega, by omega, by omega, hide (by rw [size_swp]; exact HS.out), hide ?_, hide ?_⟩, ?_⟩
      · rw [hg, hg]
        exact (HE.out.swap i j (by rw [HS.out]; omega) (by rw [HS.out]; omega)).drew
      · rw [← HO.out]
        conv => rhs; rw [Go.Sort.reverseLoop, if_pos c1]
      · simp [zi]; omega
    · have dc : decide ((i : Int) < (j : Int)) = false := decide_eq_false (by omega)
      go_wp2_with fail
      go_end0
      refine ⟨rfl, ?_⟩
      rw [FIN.out e (by rw [← HO.out, Go.Sort.reverseLoop, if_neg c1])]
      exact HE.out
/-- A box that is new since w0 turns: the row is as it was. -/
theorem RwU.other {blk off : Nat} {w0 W W' : World} {d : Array Int} (h : RwU blk off w0 d W) {sb : Nat} (k : Kept (fun x => x = sb) W W') (h1 : sb ≠ blk) (h2 : w0.heap.size ≤ sb) : RwU blk off w0 d W' := by
  have e := k.block blk h.lt (fun z => h1 z.symm)
  refine ⟨fun t ht => (cell_block e _).trans (h.cell t ht), fun t ht => (fz_block e).trans (h.fz t ht), ⟨h.only.kept.trans k (fun x hx z => by omega), fun j hj => (cell_block e j).trans (h.only.cell j hj), fun j => (fz_block e).trans (h.only.fz j)⟩, Nat.lt_of_lt_of_le h.lt k.size⟩
/-- A row, and a box of a count beside it. -/
structure RwS (blk off : Nat) (w0 : World) (d : Array Int) (sb : Nat) (s : Nat) (W : World) : Prop where
  r : RwU blk off w0 d W
  b : Boxed W sb 3 (.int .i64 (s : Nat))
  ne : sb ≠ blk
  nw : w0.heap.size ≤ sb
theorem RwS.below {blk off : Nat} {w0 W W' : World} {d : Array Int} {sb s : Nat} (h : RwS blk off w0 d sb s W) (k : Below W.heap.size W W') : RwS blk off w0 d sb s W' := ⟨h.r.below k, boxed_block h.b (k.block sb (box_lt h.b)), h.ne, h.nw⟩
theorem RwS.set {blk off : Nat} {w0 W : World} {d : Array Int} {sb s : Nat} (h : RwS blk off w0 d sb s W) (s' : Nat) : RwS blk off w0 d sb s' (W.setCell ⟨sb, 0, none⟩ (.int .i64 (s' : Nat))) :=
  ⟨h.r.other (kept_set (F := fun x => x = sb) W sb 0 _ rfl) h.ne h.nw, h.b.set _, h.ne, h.nw⟩
set_option maxRecDepth 100000 in
theorem order2_any {blk off : Nat} {w0 W : World} {d : Array Int} {sb s : Nat} (h : RwS blk off w0 d sb s W) (cap a b : Nat) (ha : a < d.size) (hb : b < d.size) (hs : s < 1000) :
    Calls Try.prog 54 #[.slice (some ⟨blk, off, none⟩) d.size cap, .int .i64 (a : Nat), .int .i64 (b : Nat), .pointer (some ⟨sb, 0, none⟩)] W fun e W' => ∃ (x y s' : Nat), e = .returned (.tuple #[.int .i64 (x : Nat), .int .i64 (y : Nat)]) ∧ (x = a ∧ y = b ∨ x = b ∧ y = a) ∧ RwS blk off w0 d sb s' W' ∧ s' ≤ s + 1 := by
  obtain ⟨n, hn⟩ : ∃ n, d.size = n := ⟨_, rfl⟩
  obtain ⟨G, hG⟩ : ∃ G : Nat → Int, ∀ t, G t = d[t]! := ⟨fun t => d[t]!, fun _ => rfl⟩
  have hc : ∀ t, t < n → W.cell? ⟨blk, off + t, none⟩ = some (.int .u64 (G t)) := fun t ht => by rw [hG]; exact h.r.cell t (by rw [hn]; exact ht)
  have cb := h.b.cell
  have fb := h.b.frozen
  have H := hide h
  rw [hn] at ha hb ⊢
  clear h hG hn
  go_enter Try.func54, Try.ntmps54
  go_wp2_with fail
  go_quiet (first | (go_at_call 43; refine Calls.quiet_of_same (less_any _ _ _)))
  cases hl : ltInt (G b) (G a) with
  | true =>
    go_wp2_with fail
    go_ret2
    refine ⟨b, a, s + 1, rfl, .inr ⟨rfl, rfl⟩, ?_, by omega⟩
    have := (H.out.below (drewN_below W nq)).set (s + 1)
    rw [Int.natCast_add] at this
    exact this
  | false =>
    go_wp2_with fail
    go_ret2
    exact ⟨a, b, s, rfl, .inl ⟨rfl, rfl⟩, H.out.below (drewN_below _ _), by omega⟩
set_option maxRecDepth 100000 in
theorem median_any {blk off : Nat} {w0 W : World} {d : Array Int} {sb s : Nat} (h : RwS blk off w0 d sb s W) (cap a b c : Nat) (ha : a < d.size) (hb : b < d.size) (hc : c < d.size) (hs : s < 900) :
    Calls Try.prog 52 #[.slice (some ⟨blk, off, none⟩) d.size cap, .int .i64 (a : Nat), .int .i64 (b : Nat), .int .i64 (c : Nat), .pointer (some ⟨sb, 0, none⟩)] W fun e W' => ∃ (x s' : Nat), e = .returned (.int .i64 (x : Nat)) ∧ (x = a ∨ x = b ∨ x = c) ∧ RwS blk off w0 d sb s' W' ∧ s' ≤ s + 3 := by
  have C1 := hide (order2_any h cap a b ha hb (by omega))
  have HB := hide (And.intro ha (And.intro hb hc))
  clear h ha hb hc
  go_enter Try.func52, Try.ntmps52
  go_wp2_with fail
  refine C1.out.mono ?_
  rintro r W1 ⟨x1, y1, s1, rfl, o1, h1, l1⟩
  obtain ⟨ha, hb, hc⟩ := HB.out
  have C2 := hide (order2_any h1 cap y1 c (by omega) hc (by omega))
  have O1 := hide (And.intro o1 l1)
  clear C1 h1 o1 ha hb hc l1
  go_wp2_with fail
  refine C2.out.mono ?_
  rintro r W2 ⟨x2, y2, s2, rfl, o2, h2, l2⟩
  obtain ⟨ha, hb, hc⟩ := HB.out
  obtain ⟨o1, l1⟩ := O1.out
  have C3 := hide (order2_any h2 cap x1 x2 (by omega) (by omega) (by omega))
  have O2 := hide (And.intro o2 l2)
  clear C2 h2 o2 ha hb hc l2 o1 l1
  go_wp2_with fail
  refine C3.out.mono ?_
  rintro r W3 ⟨x3, y3, s3, rfl, o3, h3, l3⟩
  obtain ⟨o1, l1⟩ := O1.out
  obtain ⟨o2, l2⟩ := O2.out
  have F := hide (show (y3 = a ∨ y3 = b ∨ y3 = c) ∧ RwS blk off w0 d sb s3 W3 ∧ s3 ≤ s + 3 from ⟨by omega, h3, by omega⟩)
  clear C3 h3 o3 l3 o2 l2 o1 l1 O1 O2
  go_wp2_with fail
  go_ret
  exact ⟨y3, s3, rfl, F.out⟩
set_option maxRecDepth 100000 in
theorem medianAdj_any {blk off : Nat} {w0 W : World} {d : Array Int} {sb s : Nat} (h : RwS blk off w0 d sb s W) (cap a : Nat) (ha : a + 1 < d.size) (h0 : 1 ≤ a) (hs : s < 900) (hsz : d.size < 1152921504606846976) :
    Calls Try.prog 51 #[.slice (some ⟨blk, off, none⟩) d.size cap, .int .i64 (a : Nat), .pointer (some ⟨sb, 0, none⟩)] W fun e W' => ∃ (x s' : Nat), e = .returned (.int .i64 (x : Nat)) ∧ (a - 1 ≤ x ∧ x ≤ a + 1) ∧ RwS blk off w0 d sb s' W' ∧ s' ≤ s + 3 := by
  have C1 := hide (median_any h cap (a - 1) a (a + 1) (by omega) (by omega) ha hs)
  have e1 : (a : Int) - 1 = ((a - 1 : Nat) : Int) := by omega
  have e2 : (a : Int) + 1 = ((a + 1 : Nat) : Int) := by omega
  obtain ⟨x, hx⟩ : ∃ x, a - 1 = x := ⟨_, rfl⟩
  obtain ⟨y, hy⟩ : ∃ y, a + 1 = y := ⟨_, rfl⟩
  rw [hx] at e1 C1
  rw [hy] at e2 C1
  have b1 : (a : Int) < 1152921504606846976 := by omega
  have HXY := hide (And.intro hx hy)
  clear h ha h0 hx hy
  go_enter Try.func51, Try.ntmps51
  go_wp2_with fail
  refine C1.out.mono ?_
  rintro r W1 ⟨z, s1, rfl, o1, h1, l1⟩
  obtain ⟨hx, hy⟩ := HXY.out
  have F := hide (show (a - 1 ≤ z ∧ z ≤ a + 1) ∧ RwS blk off w0 d sb s1 W1 ∧ s1 ≤ s + 3 from ⟨by omega, h1, by omega⟩)
  clear C1 h1 o1 l1 hx hy
  go_wp2_with fail
  go_ret
  exact ⟨z, s1, rfl, F.out⟩
set_option maxRecDepth 100000 in
set_option maxHeartbeats 2000000 in
theorem pivot_any {blk off : Nat} {w0 W : World} {d : Array Int} (h : RwU blk off w0 d W) (cap a b : Nat) (hab : a + 13 ≤ b) (hb : b ≤ d.size) (hsz : d.size < 1152921504606846976) (hw : w0.heap.size ≤ W.heap.size) :
    Calls Try.prog 40 #[.slice (some ⟨blk, off, none⟩) d.size cap, .int .i64 (a : Nat), .int .i64 (b : Nat)] W fun e W' => ∃ (x k : Nat), e = .returned (.tuple #[.int .i64 (x : Nat), .int .i64 (k : Nat)]) ∧ a + 1 ≤ x ∧ x + 2 ≤ b ∧ k ≤ 2 ∧ RwU blk off w0 d W' := by
  obtain ⟨l, hl⟩ : ∃ l, b - a = l := ⟨_, rfl⟩
  have hlI : (b : Int) - (a : Int) = (l : Int) := by omega
  obtain ⟨q, hq⟩ : ∃ q, l / 4 = q := ⟨_, rfl⟩
  have hqI : (l : Int) / 4 = (q : Int) := by omega
  have hqT : (l : Int).tdiv 4 = (q : Int) := by rw [Int.tdiv_eq_ediv_of_nonneg (by omega)]; omega
  have d1 : decide ((8 : Int) ≤ (l : Int)) = true := decide_eq_true (by omega)
  obtain ⟨sb, hsb⟩ : ∃ sb, W.heap.size = sb := ⟨_, rfl⟩
  have h0 : RwS blk off w0 d sb 0 (W.alloc (.cells #[.int .i64 0] 3)) := ⟨h.below (below_alloc W _), by rw [← hsb]; exact Boxed.new W _ _, by have := h.lt; omega, by omega⟩
  have b1 : (b : Int) < 1152921504606846976 := by omega
  have H0 := hide h0
  have HQ := hide (And.intro hl hq)
  clear h h0 hl hq
  go_enter Try.func40, Try.ntmps40
  by_cases c : 50 ≤ l
  · have d2 : decide ((50 : Int) ≤ (l : Int)) = true := decide_eq_true (by omega)
    have f := HQ.out
    have C1 := hide (medianAdj_any H0.out cap (a + q) (by omega) (by omega) (by omega) hsz)
    rw [Int.natCast_add] at C1
    clear f
    go_wp2_with fail
    refine C1.out.mono ?_
    rintro r W1 ⟨x1, s1, rfl, o1, h1, l1⟩
    have f := HQ.out
    have C2 := hide (medianAdj_any h1 cap (a + q * 2) (by omega) (by omega) (by omega) hsz)
    rw [Int.natCast_add, Int.natCast_mul] at C2
    have O1 := hide (And.intro o1 l1)
    clear f C1 h1 o1 l1
    go_wp2_with fail
    refine C2.out.mono ?_
    rintro r W2 ⟨x2, s2, rfl, o2, h2, l2⟩
    have f := HQ.out
    have g1 := O1.out
    have C3 := hide (medianAdj_any h2 cap (a + q * 3) (by omega) (by omega) (by omega) hsz)
    rw [Int.natCast_add, Int.natCast_mul] at C3
    have O2 := hide (And.intro o2 l2)
    clear f C2 h2 o2 l2 g1
    go_wp2_with fail
    refine C3.out.mono ?_
    rintro r W3 ⟨x3, s3, rfl, o3, h3, l3⟩
    have f := HQ.out
    have g1 := O1.out
    have g2 := O2.out
    have C4 := hide (median_any h3 cap x1 x2 x3 (by omega) (by omega) (by omega) (by omega))
    have O3 := hide (And.intro o3 l3)
    clear f C3 h3 o3 l3 g1 g2
    go_wp2_with fail
    refine C4.out.mono ?_
    rintro r W4 ⟨z9, s9, rfl, o4, h9, l4⟩
    have f := HQ.out
    have g1 := O1.out
    have g2 := O2.out
    have g3 := O3.out
    have o9 : a + 1 ≤ z9 ∧ z9 + 2 ≤ b := by omega
    have l9 : s9 ≤ 100 := by omega
    clear f C4 o4 l4 g1 g2 g3
    obtain ⟨cb, -⟩ := And.intro h9.b.cell trivial
    have H9 := hide h9
    have L9 := hide (And.intro o9 l9)
    clear h9 o9 l9
    have ss : ((s9 : Int) == 0) = true ∨ ((s9 : Int) == 0) = false ∧ (((s9 : Int) == 12) = true ∨ ((s9 : Int) == 12) = false) := by
      cases ((s9 : Int) == 0) <;> cases ((s9 : Int) == 12) <;> simp
    rcases ss with e1 | ⟨e1, e2 | e2⟩
    · go_wp2_with fail
      go_ret2
      exact ⟨z9, 1, rfl, L9.out.1.1, L9.out.1.2, by omega, H9.out.r⟩
    · go_wp2_with fail
      go_ret2
      exact ⟨z9, 2, rfl, L9.out.1.1, L9.out.1.2, by omega, H9.out.r⟩
    · go_wp2_with fail
      go_ret2
      exact ⟨z9, 0, rfl, L9.out.1.1, L9.out.1.2, by omega, H9.out.r⟩
  · have d2 : decide ((50 : Int) ≤ (l : Int)) = false := decide_eq_false (by omega)
    have f := HQ.out
    have C4 := hide (median_any H0.out cap (a + q) (a + q * 2) (a + q * 3) (by omega) (by omega) (by omega) (by omega))
    rw [Int.natCast_add, Int.natCast_add, Int.natCast_add, Int.natCast_mul, Int.natCast_mul] at C4
    clear f
    go_wp2_with fail
    refine C4.out.mono ?_
    rintro r W4 ⟨z9, s9, rfl, o4, h9, l4⟩
    have f := HQ.out
    have o9 : a + 1 ≤ z9 ∧ z9 + 2 ≤ b := by omega
    have l9 : s9 ≤ 100 := by omega
    clear f C4 o4 l4
    obtain ⟨cb, -⟩ := And.intro h9.b.cell trivial
    have H9 := hide h9
    have L9 := hide (And.intro o9 l9)
    clear h9 o9 l9
    have ss : ((s9 : Int) == 0) = true ∨ ((s9 : Int) == 0) = false ∧ (((s9 : Int) == 12) = true ∨ ((s9 : Int) == 12) = false) := by
      cases ((s9 : Int) == 0) <;> cases ((s9 : Int) == 12) <;> simp
    rcases ss with e1 | ⟨e1, e2 | e2⟩
    · go_wp2_with fail
      go_ret2
      exact ⟨z9, 1, rfl, L9.out.1.1, L9.out.1.2, by omega, H9.out.r⟩
    · go_wp2_with fail
      go_ret2
      exact ⟨z9, 2, rfl, L9.out.1.1, L9.out.1.2, by omega, H9.out.r⟩
    · go_wp2_with fail
      go_ret2
      exact ⟨z9, 0, rfl, L9.out.1.1, L9.out.1.2, by omega, H9.out.r⟩
end Go.Proofs.Ytdcjldpbgickmaa
