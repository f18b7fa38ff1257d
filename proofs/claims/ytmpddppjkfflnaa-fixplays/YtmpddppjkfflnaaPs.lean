/- FixPlays: both stores of records, both stores of blocks, beside one another. -/
import Derived.Test.YtmpddppjkfflnaaAw
import Derived.Test.YtmpddppjkfflnaaArg
import Derived.Test.YtmpddppjkfflnaaRx
namespace Go.Proofs.Ytmpddppjkfflnaa
open Go.ChangeShapes Go.WideShapes Go.ChangeAt Go.RowKit Go.Shelf Go.Proofs.Rx Go.Maps
set_option linter.unusedVariables false
set_option linter.unusedSimpArgs false

/-- What both stores of blocks answer, and what both have behind it. -/
theorem bump_both {K M E : Int} (ok : BuOk K M E) (hM : M ≤ 1000) (s a : Int) (ha : a ≤ 9223372036854775807) :
    ∃ n p e M' E' : Int, BuOk K M' E' ∧ M' ≤ M + 1 ∧
      (∀ W bb, BuAt W bb K M E → Calls Try.prog 11 #[.pointer (some ⟨bb, 0, none⟩), .int .i64 s, .int .i64 a] W fun r W' => r = .returned (.tuple #[.int .i64 n, .int .i64 p, .int .i64 e]) ∧ BuTo W W' bb K M' E') ∧
      (∀ W qb, RuAt W qb K M E → Calls Try.prog 12 #[.pointer (some ⟨qb, 0, none⟩), .int .i64 s, .int .i64 a] W fun r W' => r = .returned (.tuple #[.int .i64 n, .int .i64 p, .int .i64 e]) ∧ RuTo W W' qb K M' E') := by
  by_cases q1 : s < 1 ∨ powIn a 1 K = false
  · refine ⟨0, 0, 1, M, E, ok, by omega, fun W bb h => (bt_arg h s a ha q1).mono ?_, fun W qb h => (rt_arg h s a ha q1).mono ?_⟩
    · rintro r W' ⟨rfl, rfl⟩; exact ⟨rfl, h, Kept.refl _ _⟩
    · rintro r W' ⟨rfl, rfl⟩; exact ⟨rfl, h, Kept.refl _ _⟩
  have qs : 1 ≤ s := by omega
  have qa : powIn a 1 K = true := by
    cases z : powIn a 1 K with
    | true => rfl
    | false => exact absurd (.inr z) q1
  by_cases q2 : K < s
  · refine ⟨0, 0, 2, M, E, ok, by omega, fun W bb h => (bt_long h ok.k0 s a ha qa q2).mono ?_, fun W qb h => (rt_long h ok.k0 s a ha qa q2).mono ?_⟩
    · rintro r W' ⟨rfl, rfl⟩; exact ⟨rfl, h, Kept.refl _ _⟩
    · rintro r W' ⟨rfl, rfl⟩; exact ⟨rfl, h, Kept.refl _ _⟩
  have k0 := ok.k0
  have k1 := ok.k1
  have m0 := ok.m0
  obtain ⟨a1, a2, -⟩ := powIn_le qa
  obtain ⟨u1, u2, u3⟩ := upB_facts E a ok.e0 a1
  have e0 := ok.e0
  by_cases q3 : M ≠ 0 ∧ upB E a + s ≤ K
  · exact ⟨M - 1, upB E a, 0, M, upB E a + s, ⟨k0, k1, m0, ok.m1, by omega, q3.2, fun z => absurd z q3.1⟩, by omega, fun W bb h => bt_old h ok s a qa qs q3.1 q3.2, fun W qb h => rt_old h ok s a qa qs (by omega) q3.1 q3.2⟩
  · have hf : M ≠ 0 → K < upB E a + s := fun z => by
      by_cases y : upB E a + s ≤ K
      · exact absurd ⟨z, y⟩ q3
      · omega
    exact ⟨M, 0, 0, M + 1, s, ⟨k0, k1, by omega, by omega, by omega, by omega, fun z => by omega⟩, by omega, fun W bb h => bt_new h ok s a qa qs (by omega) hf, fun W qb h => rt_new h ok s a qa qs (by omega) hf⟩
/-- Where they lie, if they do: blocks of the landed one, of the reference's; sizes. -/
structure PS (N : Nat) (O : Nat → Prop) (w W : World) (fo bo : Option (Nat × Nat × Int)) (L : List Bool) (B : List Nat) (L2 : List Bool) (B2 : List Nat) (M E M2 E2 : Int) : Prop where
  fx : ∀ fb rb s, fo = some (fb, rb, s) → ∃ F G, Fx N W fb F (16384 / s) L B ∧ Rx12 N W rb G s L2 B2 ∧ (∀ z, F z → ¬ G z) ∧ (∀ bb qb K, bo = some (bb, qb, K) → ¬ F bb ∧ ¬ F qb ∧ ¬ G bb ∧ ¬ G qb) ∧ ∀ z, O z → ¬ F z ∧ ¬ G z
  bu : ∀ bb qb K, bo = some (bb, qb, K) → BuAt W bb K M E ∧ RuAt W qb K M2 E2 ∧ bb ≠ qb ∧ N ≤ bb ∧ N ≤ qb ∧ ¬ O bb ∧ ¬ O qb
  ol : ∀ z, O z → z < W.heap.size
  be : Below N w W
  nw : N ≤ W.heap.size
/-- What a call leaves of the law's own blocks. -/
def LeftP (O : Nat → Prop) (W W' : World) : Prop := Kept (fun z => ¬ O z) W W'
section
variable {N : Nat} {O : Nat → Prop} {w W W' : World} {fo bo : Option (Nat × Nat × Int)} {L L2 : List Bool} {B B2 : List Nat} {M E M2 E2 : Int} {fb rb : Nat} {s : Int} {bb qb : Nat} {K : Int} {vs : Array Value} {T : TypeId}
theorem PS.read (h : PS N O w W fo bo L B L2 B2 M E M2 E2) (k : Below W.heap.size W W') : PS N O w W' fo bo L B L2 B2 M E M2 E2 := by
  refine ⟨fun fb rb s e => ?_, fun bb qb K e => ?_, fun z hz => Nat.lt_of_lt_of_le (h.ol z hz) k.size, h.be.trans (k.mono h.nw), Nat.le_trans h.nw k.size⟩
  · obtain ⟨F, G, f, g, d, n, m⟩ := h.fx fb rb s e
    exact ⟨F, G, f.below k, g.below k, d, n, m⟩
  · obtain ⟨b, q, r⟩ := h.bu bb qb K e
    exact ⟨Bk.below b k, Bk.below q k, r⟩
/-- The landed records have turned. -/
theorem PS.fix (h : PS N O w W (some (fb, rb, s)) bo L B L2 B2 M E M2 E2) {L' : List Bool} {B' : List Nat} {F G : Nat → Prop} (f : Fx N W fb F (16384 / s) L B) (g : Rx12 N W rb G s L2 B2) (d : ∀ z, F z → ¬ G z) (n : ∀ bb qb K, bo = some (bb, qb, K) → ¬ F bb ∧ ¬ F qb ∧ ¬ G bb ∧ ¬ G qb) (m : ∀ z, O z → ¬ F z ∧ ¬ G z)
    (t : ∃ F', Fx N W' fb F' (16384 / s) L' B' ∧ To W W' F F') : PS N O w W' (some (fb, rb, s)) bo L' B' L2 B2 M E M2 E2 ∧ LeftP O W W' := by
  obtain ⟨F', f', k, hF⟩ := t
  refine ⟨⟨fun fb1 rb1 s1 e => ?_, fun bb qb K e => ?_, fun z hz => Nat.lt_of_lt_of_le (h.ol z hz) k.size, h.be.trans (k.below h.nw (fun z hz => (f.lt hz).1)), Nat.le_trans h.nw k.size⟩, k.mono (fun z hz o => (m z o).1 hz)⟩
  · cases e
    refine ⟨F', G, f', g.kept k (fun z hz hf => d z hf hz), fun z hz hg => ?_, fun bb qb K e => ?_, fun z o => ⟨fun hz => ?_, (m z o).2⟩⟩
    · rcases hF z hz with y | y
      · exact d z y hg
      · have := (g.lt hg).2; omega
    · obtain ⟨n1, n2, n3, n4⟩ := n bb qb K e
      obtain ⟨b, q, r⟩ := h.bu bb qb K e
      refine ⟨fun z => ?_, fun z => ?_, n3, n4⟩
      · rcases hF bb z with y | y
        · exact n1 y
        · have := Bk.lt b; omega
      · rcases hF qb z with y | y
        · exact n2 y
        · have := Bk.lt q; omega
    · rcases hF z hz with y | y
      · exact (m z o).1 y
      · have := h.ol z o; omega
  · obtain ⟨n1, n2, n3, n4⟩ := n bb qb K e
    obtain ⟨b, q, r⟩ := h.bu bb qb K e
    exact ⟨Bk.kept b k n1, Bk.kept q k n2, r⟩
/-- The reference's records have turned. -/
theorem PS.ref (h : PS N O w W (some (fb, rb, s)) bo L B L2 B2 M E M2 E2) {L' : List Bool} {B' : List Nat} {F G : Nat → Prop} (f : Fx N W fb F (16384 / s) L B) (g : Rx12 N W rb G s L2 B2) (d : ∀ z, F z → ¬ G z) (n : ∀ bb qb K, bo = some (bb, qb, K) → ¬ F bb ∧ ¬ F qb ∧ ¬ G bb ∧ ¬ G qb) (m : ∀ z, O z → ¬ F z ∧ ¬ G z)
    (t : ∃ G', Rx12 N W' rb G' s L' B' ∧ To W W' G G') : PS N O w W' (some (fb, rb, s)) bo L B L' B' M E M2 E2 ∧ LeftP O W W' := by
  obtain ⟨G', g', k, hG⟩ := t
  refine ⟨⟨fun fb1 rb1 s1 e => ?_, fun bb qb K e => ?_, fun z hz => Nat.lt_of_lt_of_le (h.ol z hz) k.size, h.be.trans (k.below h.nw (fun z hz => (g.lt hz).1)), Nat.le_trans h.nw k.size⟩, k.mono (fun z hz o => (m z o).2 hz)⟩
  · cases e
    refine ⟨F, G', f.kept k (fun z hz hg => d z hz hg), g', fun z hz hg => ?_, fun bb qb K e => ?_, fun z o => ⟨(m z o).1, fun hz => ?_⟩⟩
    · rcases hG z hg with y | y
      · exact d z hz y
      · have := (f.lt hz).2; omega
    · obtain ⟨n1, n2, n3, n4⟩ := n bb qb K e
      obtain ⟨b, q, r⟩ := h.bu bb qb K e
      refine ⟨n1, n2, fun z => ?_, fun z => ?_⟩
      · rcases hG bb z with y | y
        · exact n3 y
        · have := Bk.lt b; omega
      · rcases hG qb z with y | y
        · exact n4 y
        · have := Bk.lt q; omega
    · rcases hG z hz with y | y
      · exact (m z o).2 y
      · have := h.ol z o; omega
  · obtain ⟨n1, n2, n3, n4⟩ := n bb qb K e
    obtain ⟨b, q, r⟩ := h.bu bb qb K e
    exact ⟨Bk.kept b k n3, Bk.kept q k n4, r⟩
theorem ps_take (h : PS N O w W (some (fb, rb, s)) bo L B L2 B2 M E M2 E2) (hL : L.length < 100000) :
    Calls Try.prog 14 #[.pointer (some ⟨fb, 0, none⟩)] W fun e W' => e = .returned (.int .i64 (takeI L B)) ∧ PS N O w W' (some (fb, rb, s)) bo (takeL L B) B.tail L2 B2 M E M2 E2 ∧ LeftP O W W' := by
  obtain ⟨F, G, f, g, d, n, m⟩ := h.fx _ _ _ rfl
  refine (fx_take f h.nw hL).mono ?_
  rintro e W' ⟨rfl, t⟩
  exact ⟨rfl, h.fix f g d n m t⟩
theorem ps_rtake (h : PS N O w W (some (fb, rb, s)) bo L B L2 B2 M E M2 E2) (hL : L2.length < 100000) :
    Calls Try.prog 15 #[.pointer (some ⟨rb, 0, none⟩)] W fun e W' => e = .returned (.int .i64 (takeI L2 B2)) ∧ PS N O w W' (some (fb, rb, s)) bo L B (takeL L2 B2) B2.tail M E M2 E2 ∧ LeftP O W W' := by
  obtain ⟨F, G, f, g, d, n, m⟩ := h.fx _ _ _ rfl
  refine (rx_take g h.nw hL).mono ?_
  rintro e W' ⟨rfl, t⟩
  exact ⟨rfl, h.ref f g d n m t⟩
theorem ps_give (h : PS N O w W (some (fb, rb, s)) bo L B L2 B2 M E M2 E2) (hL : L.length ≤ 100000) (i : Int) (h0 : -9223372036854775808 ≤ i) :
    Calls Try.prog 16 #[.pointer (some ⟨fb, 0, none⟩), .int .i64 i] W fun e W' => e = .returned (.int .i64 (giveE L i)) ∧ PS N O w W' (some (fb, rb, s)) bo (giveL L i) (giveB L B i) L2 B2 M E M2 E2 ∧ LeftP O W W' := by
  obtain ⟨F, G, f, g, d, n, m⟩ := h.fx _ _ _ rfl
  refine (fx_give f h.nw hL i h0).mono ?_
  rintro e W' ⟨rfl, t⟩
  exact ⟨rfl, h.fix f g d n m t⟩
theorem ps_rgive (h : PS N O w W (some (fb, rb, s)) bo L B L2 B2 M E M2 E2) (hL : L2.length ≤ 100000) (i : Int) (h0 : -9223372036854775808 ≤ i) :
    Calls Try.prog 17 #[.pointer (some ⟨rb, 0, none⟩), .int .i64 i] W fun e W' => e = .returned (.int .i64 (giveE L2 i)) ∧ PS N O w W' (some (fb, rb, s)) bo L B (giveL L2 i) (giveB L2 B2 i) M E M2 E2 ∧ LeftP O W W' := by
  obtain ⟨F, G, f, g, d, n, m⟩ := h.fx _ _ _ rfl
  refine (rx_give g h.nw hL i h0).mono ?_
  rintro e W' ⟨rfl, t⟩
  exact ⟨rfl, h.ref f g d n m t⟩
theorem ps_live (h : PS N O w W (some (fb, rb, s)) bo L B L2 B2 M E M2 E2) (hL : L.length ≤ 100000) (i : Int) (h0 : -9223372036854775808 ≤ i) :
    Calls Try.prog 18 #[.pointer (some ⟨fb, 0, none⟩), .int .i64 i] W fun e W' => e = .returned (.bool (lv L i)) ∧ W' = W := by
  obtain ⟨F, G, f, g, d, n, m⟩ := h.fx _ _ _ rfl
  exact fx_live f hL i h0
theorem ps_rlive (h : PS N O w W (some (fb, rb, s)) bo L B L2 B2 M E M2 E2) (hL : L2.length ≤ 100000) (i : Int) (h0 : -9223372036854775808 ≤ i) :
    Calls Try.prog 19 #[.pointer (some ⟨rb, 0, none⟩), .int .i64 i] W fun e W' => e = .returned (.bool (lv L2 i)) ∧ W' = W := by
  obtain ⟨F, G, f, g, d, n, m⟩ := h.fx _ _ _ rfl
  exact rx_live g hL i h0
theorem ps_count (h : PS N O w W (some (fb, rb, s)) bo L B L2 B2 M E M2 E2) : Calls Try.prog 20 #[.pointer (some ⟨fb, 0, none⟩)] W fun e W' => e = .returned (.int .i64 ((L.length : Int) - B.length)) ∧ W' = W := by
  obtain ⟨F, G, f, g, d, n, m⟩ := h.fx _ _ _ rfl
  exact fx_count f
theorem ps_rcount (h : PS N O w W (some (fb, rb, s)) bo L B L2 B2 M E M2 E2) (hL : L2.length ≤ 100000) : Calls Try.prog 21 #[.pointer (some ⟨rb, 0, none⟩)] W fun e W' => e = .returned (.int .i64 ((L2.length : Int) - B2.length)) ∧ ∃ j, W' = W.drewN j := by
  obtain ⟨F, G, f, g, d, n, m⟩ := h.fx _ _ _ rfl
  exact rx_count g hL
theorem ps_bytes (h : PS N O w W (some (fb, rb, s)) bo L B L2 B2 M E M2 E2) (hL : L.length ≤ 100000) : Calls Try.prog 22 #[.pointer (some ⟨fb, 0, none⟩)] W fun e W' => e = .returned (.int .i64 (byV L.length (16384 / s))) ∧ ∃ j, W' = W.drewN j := by
  obtain ⟨F, G, f, g, d, n, m⟩ := h.fx _ _ _ rfl
  exact fx_bytes f hL
theorem ps_rbytes (h : PS N O w W (some (fb, rb, s)) bo L B L2 B2 M E M2 E2) (hL : L2.length ≤ 100000) : Calls Try.prog 23 #[.pointer (some ⟨rb, 0, none⟩)] W fun e W' => e = .returned (.int .i64 (byV L2.length (16384 / s))) ∧ ∃ j, W' = W.drewN j := by
  obtain ⟨F, G, f, g, d, n, m⟩ := h.fx _ _ _ rfl
  exact rx_bytes g hL
/-- The landed blocks have turned. -/
theorem PS.bump (h : PS N O w W fo (some (bb, qb, K)) L B L2 B2 M E M2 E2) {M' E' : Int} (t : BuTo W W' bb K M' E') : PS N O w W' fo (some (bb, qb, K)) L B L2 B2 M' E' M2 E2 ∧ LeftP O W W' := by
  obtain ⟨b, q, ne, x1, x2, o1, o2⟩ := h.bu _ _ _ rfl
  refine ⟨⟨fun fb rb s e => ?_, fun bb1 qb1 K1 e => ?_, fun z hz => Nat.lt_of_lt_of_le (h.ol z hz) t.2.size, h.be.trans (t.2.below h.nw (fun z hz => by rw [hz]; exact x1)), Nat.le_trans h.nw t.2.size⟩, t.2.mono (fun z hz o => o1 (hz ▸ o))⟩
  · obtain ⟨F, G, f, g, d, n, m⟩ := h.fx fb rb s e
    obtain ⟨n1, n2, n3, n4⟩ := n _ _ _ rfl
    exact ⟨F, G, f.kept t.2 (fun z hz y => n1 (y ▸ hz)), g.kept t.2 (fun z hz y => n3 (y ▸ hz)), d, n, m⟩
  · cases e
    exact ⟨t.1, Bk.kept q t.2 (fun y => ne y.symm), ne, x1, x2, o1, o2⟩
/-- The reference's blocks have turned. -/
theorem PS.rbump (h : PS N O w W fo (some (bb, qb, K)) L B L2 B2 M E M2 E2) {M' E' : Int} (t : RuTo W W' qb K M' E') : PS N O w W' fo (some (bb, qb, K)) L B L2 B2 M E M' E' ∧ LeftP O W W' := by
  obtain ⟨b, q, ne, x1, x2, o1, o2⟩ := h.bu _ _ _ rfl
  refine ⟨⟨fun fb rb s e => ?_, fun bb1 qb1 K1 e => ?_, fun z hz => Nat.lt_of_lt_of_le (h.ol z hz) t.2.size, h.be.trans (t.2.below h.nw (fun z hz => by rw [hz]; exact x2)), Nat.le_trans h.nw t.2.size⟩, t.2.mono (fun z hz o => o2 (hz ▸ o))⟩
  · obtain ⟨F, G, f, g, d, n, m⟩ := h.fx fb rb s e
    obtain ⟨n1, n2, n3, n4⟩ := n _ _ _ rfl
    exact ⟨F, G, f.kept t.2 (fun z hz y => n2 (y ▸ hz)), g.kept t.2 (fun z hz y => n4 (y ▸ hz)), d, n, m⟩
  · cases e
    exact ⟨Bk.kept b t.2 ne, t.1, ne, x1, x2, o1, o2⟩
/-- A block of the law's own is made. -/
theorem PS.own (h : PS N (fun _ => False) w W fo bo L B L2 B2 M E M2 E2) (hW : W' = W.alloc (.cells vs T)) : PS N (fun z => z = W.heap.size) w W' fo bo L B L2 B2 M E M2 E2 := by
  have k : Below W.heap.size W W' := by rw [hW]; exact below_alloc _ _
  have h' := h.read k
  refine ⟨fun fb rb s e => ?_, fun bb qb K e => ?_, fun z hz => by rw [hz, hW]; simp, h'.be, h'.nw⟩
  · obtain ⟨F, G, f, g, d, n, m⟩ := h.fx fb rb s e
    exact ⟨F, G, f.below k, g.below k, d, n, fun z hz => ⟨fun y => by have := (f.lt y).2; omega, fun y => by have := (g.lt y).2; omega⟩⟩
  · obtain ⟨b, q, ne, x1, x2, -⟩ := h.bu bb qb K e
    have := Bk.lt b
    have := Bk.lt q
    exact ⟨Bk.below b k, Bk.below q k, ne, x1, x2, by omega, by omega⟩
theorem PS.drop (h : PS N O w W fo bo L B L2 B2 M E M2 E2) : PS N (fun _ => False) w W fo bo L B L2 B2 M E M2 E2 := by
  refine ⟨fun fb rb s e => ?_, fun bb qb K e => ?_, fun z hz => hz.elim, h.be, h.nw⟩
  · obtain ⟨F, G, f, g, d, n, m⟩ := h.fx fb rb s e
    exact ⟨F, G, f, g, d, n, fun z hz => hz.elim⟩
  · obtain ⟨b, q, ne, x1, x2, -⟩ := h.bu bb qb K e
    exact ⟨b, q, ne, x1, x2, fun f => f, fun f => f⟩
end
theorem fldA (p f g : Value) (w : World) : (Instr.field 37 (.agg #[p, f, g]) 0).run Try.prog w = .ok p w := by
  simp [Instr.field, run_underlying Try.underlying37, part, go_sem, asAgg]
theorem fldB (p f g : Value) (w : World) : (Instr.field 37 (.agg #[p, f, g]) 1).run Try.prog w = .ok f w := by
  simp [Instr.field, run_underlying Try.underlying37, part, go_sem, asAgg]
theorem fldC (p f g : Value) (w : World) : (Instr.field 37 (.agg #[p, f, g]) 2).run Try.prog w = .ok g w := by
  simp [Instr.field, run_underlying Try.underlying37, part, go_sem, asAgg]
end Go.Proofs.Ytmpddppjkfflnaa
