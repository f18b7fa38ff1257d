/- A law's span beside the law's own blocks; awake. -/
import Derived.Test.YtblfefibgoiaaaaDoorGi
namespace Go.Proofs.YtblfefibgoiaaaaDoor
open Go.ChangeShapes Go.WideShapes Go.ChangeAt Go.RowKit Go.Proofs.Sn Go.Shelf
set_option linter.unusedVariables false
set_option linter.unusedSimpArgs false

/-- A law's span, beside blocks O of its own, and what was there before. -/
structure LS (N : Nat) (w W : World) (sb : Nat) (O : Nat → Prop) (G : Geo) (S : St) : Prop where
  ex : ∃ F, Sp N W sb F G S ∧ ∀ z, O z → ¬ F z
  ol : ∀ z, O z → N ≤ z ∧ z < W.heap.size
  be : Below N w W
  nw : N ≤ W.heap.size
  tab : TabW W
  n0 : 0 < N
/-- What a call leaves of the law's own. -/
def LeftO (O : Nat → Prop) (W W' : World) : Prop := ∃ K, Kept K W W' ∧ ∀ z, O z → ¬ K z
theorem LeftO.refl (O : Nat → Prop) (W : World) : LeftO O W W := ⟨fun _ => False, Kept.refl _ _, fun _ _ f => f⟩
theorem LeftO.of_below {O : Nat → Prop} {W W' : World} (h : Below W.heap.size W W') : LeftO O W W' := ⟨fun _ => False, Kept.of_below h, fun _ _ f => f⟩
theorem LeftO.row {O : Nat → Prop} {W W' : World} (h : LeftO O W W') {M e sz n : Nat} {v : Value} {xs : List Value} (o : W.ownsRow M e sz v n xs) (ho : ∀ g, v.ownBlock = some g → O g) : W'.ownsRow M e sz v n xs := by
  obtain ⟨K, k, hk⟩ := h
  exact owns_kept o k (fun g hg => hk g (ho g hg))
theorem LeftO.bk {O : Nat → Prop} {W W' : World} (h : LeftO O W W') {b : Nat} {t : TypeId} {vs : Array Value} (o : Bk W b t vs) (ho : O b) : Bk W' b t vs := by
  obtain ⟨K, k, hk⟩ := h
  exact o.kept k (hk b ho)
theorem LeftO.mono {O O' : Nat → Prop} {W W' : World} (h : LeftO O W W') (ho : ∀ z, O' z → O z) : LeftO O' W W' := by
  obtain ⟨K, k, hk⟩ := h
  exact ⟨K, k, fun z hz => hk z (ho z hz)⟩
section
variable {N : Nat} {w W W' : World} {sb : Nat} {O : Nat → Prop} {G : Geo} {S S' : St}
theorem LS.step (h : LS N w W sb O G S) {F F' : Nat → Prop} (f : Sp N W sb F G S) (d : ∀ z, O z → ¬ F z) (f' : Sp N W' sb F' G S') (t : To W W' F F') : LS N w W' sb O G S' ∧ LeftO O W W' := by
  have bl : Below N W W' := t.1.below h.nw (fun z hz => (f.lt hz).1)
  refine ⟨⟨⟨F', f', fun z hz y => ?_⟩, fun z hz => ⟨(h.ol z hz).1, Nat.lt_of_lt_of_le (h.ol z hz).2 t.1.size⟩, h.be.trans bl, Nat.le_trans h.nw t.1.size, h.tab.below h.n0 bl, h.n0⟩, F, t.1, d⟩
  rcases t.2 z y with u | u
  · exact d z hz u
  · have := (h.ol z hz).2; omega
theorem LS.read (h : LS N w W sb O G S) (k : Below W.heap.size W W') : LS N w W' sb O G S := by
  obtain ⟨F, f, d⟩ := h.ex
  exact ⟨⟨F, f.below k, d⟩, fun z hz => ⟨(h.ol z hz).1, Nat.lt_of_lt_of_le (h.ol z hz).2 k.size⟩, h.be.trans (k.mono h.nw), Nat.le_trans h.nw k.size, h.tab.below h.n0 (k.mono h.nw), h.n0⟩
/-- The law writes what is its own. -/
theorem LS.own (h : LS N w W sb O G S) (k : Kept O W W') : LS N w W' sb O G S := by
  obtain ⟨F, f, d⟩ := h.ex
  have bl : Below N W W' := k.below h.nw (fun z hz => (h.ol z hz).1)
  exact ⟨⟨F, f.kept k (fun z hz u => d z u hz), d⟩, fun z hz => ⟨(h.ol z hz).1, Nat.lt_of_lt_of_le (h.ol z hz).2 k.size⟩, h.be.trans bl, Nat.le_trans h.nw k.size, h.tab.below h.n0 bl, h.n0⟩
/-- More of its own: what is new since W0. -/
theorem LS.with (h : LS N w W sb O G S) {O' : Nat → Prop} (ho : ∀ z, O' z → N ≤ z ∧ z < W.heap.size) (hd : ∀ F, Sp N W sb F G S → (∀ z, O z → ¬ F z) → ∃ F', Sp N W sb F' G S ∧ ∀ z, O' z → ¬ F' z) : LS N w W sb O' G S := by
  obtain ⟨F, f, d⟩ := h.ex
  exact ⟨hd F f d, ho, h.be, h.nw, h.tab, h.n0⟩
theorem LS.less (h : LS N w W sb O G S) {O' : Nat → Prop} (ho : ∀ z, O' z → O z) : LS N w W sb O' G S := by
  obtain ⟨F, f, d⟩ := h.ex
  exact ⟨⟨F, f, fun z hz => d z (ho z hz)⟩, fun z hz => h.ol z (ho z hz), h.be, h.nw, h.tab, h.n0⟩
/-- Blocks that were made since are the law's own. -/
theorem LS.made (h : LS N w W sb O G S) (k : Below W.heap.size W W') {O' : Nat → Prop} (ho : ∀ z, O' z → O z ∨ (W.heap.size ≤ z ∧ z < W'.heap.size)) : LS N w W' sb O' G S := by
  obtain ⟨F, f, d⟩ := h.ex
  refine ⟨⟨F, f.below k, fun z hz u => ?_⟩, fun z hz => ?_, h.be.trans (k.mono h.nw), Nat.le_trans h.nw k.size, h.tab.below h.n0 (k.mono h.nw), h.n0⟩
  · rcases ho z hz with y | y
    · exact d z y u
    · have := (f.lt u).2; omega
  · rcases ho z hz with y | y
    · exact ⟨(h.ol z y).1, Nat.lt_of_lt_of_le (h.ol z y).2 k.size⟩
    · exact ⟨Nat.le_trans h.nw y.1, y.2⟩
theorem LS.first (h : LS N w W sb O G S) : ∃ k, First S.u S.look k := by
  obtain ⟨F, f, d⟩ := h.ex
  exact f.first
theorem LS.ok (h : LS N w W sb O G S) : SOk G.slots S := by
  obtain ⟨F, f, d⟩ := h.ex
  exact f.ok
theorem LS.g (h : LS N w W sb O G S) : GOk G := by
  obtain ⟨F, f, d⟩ := h.ex
  exact f.g
theorem ls_next_dead (h : LS N w W sb O G S) (hs : S.st = 0) : Calls Tryd.prog 17 #[.pointer (some ⟨sb, 0, none⟩)] W fun e W' => e = .returned (.tuple #[.int .i64 0, .int .i64 33]) ∧ W' = W := by
  obtain ⟨F, f, d⟩ := h.ex
  exact sp_next_dead f hs
theorem ls_next_full (h : LS N w W sb O G S) (hs : S.st ≠ 0) {k : Nat} (hf : First S.u S.look k) (hk : G.slots ≤ k) : Calls Tryd.prog 17 #[.pointer (some ⟨sb, 0, none⟩)] W fun e W' => e = .returned (.tuple #[.int .i64 0, .int .i64 30]) ∧ LS N w W' sb O G S ∧ LeftO O W W' := by
  obtain ⟨F, f, d⟩ := h.ex
  refine (sp_next_full f h.tab hs hf hk).mono ?_
  rintro e W' ⟨rfl, b⟩
  exact ⟨rfl, h.read b, LeftO.of_below b⟩
theorem ls_next (h : LS N w W sb O G S) (hs : S.st ≠ 0) {k : Nat} (hf : First S.u S.look k) (hk : k < G.slots) : Calls Tryd.prog 17 #[.pointer (some ⟨sb, 0, none⟩)] W fun e W' => e = .returned (.tuple #[.int .i64 (k : Nat), .int .i64 0]) ∧ LS N w W' sb O G (S.next k) ∧ LeftO O W W' := by
  obtain ⟨F, f, d⟩ := h.ex
  refine (sp_next f h.nw h.tab hs hf hk).mono ?_
  rintro e W' ⟨rfl, F', f', t⟩
  exact ⟨rfl, h.step f d f' t⟩
theorem ls_give_state (h : LS N w W sb O G S) (hs : S.st ≠ 2) (i : Int) : Calls Tryd.prog 16 #[.pointer (some ⟨sb, 0, none⟩), .int .i64 i] W fun e W' => e = .returned (.int .i64 33) ∧ W' = W := by
  obtain ⟨F, f, d⟩ := h.ex
  exact sp_give_state f hs i
theorem ls_give_arg (h : LS N w W sb O G S) (hs : S.st = 2) (i : Int) (hi : inB G.slots i = false) : Calls Tryd.prog 16 #[.pointer (some ⟨sb, 0, none⟩), .int .i64 i] W fun e W' => e = .returned (.int .i64 1) ∧ W' = W := by
  obtain ⟨F, f, d⟩ := h.ex
  exact sp_give_arg f hs i hi
theorem ls_give_free (h : LS N w W sb O G S) (hs : S.st = 2) (k : Nat) (hk : k < G.slots) (hu : S.u k = false) : Calls Tryd.prog 16 #[.pointer (some ⟨sb, 0, none⟩), .int .i64 (k : Nat)] W fun e W' => e = .returned (.int .i64 31) ∧ W' = W := by
  obtain ⟨F, f, d⟩ := h.ex
  exact sp_give_free f hs k hk hu
theorem ls_give (h : LS N w W sb O G S) (hs : S.st = 2) (k : Nat) (hk : k < G.slots) (hu : S.u k = true) : Calls Tryd.prog 16 #[.pointer (some ⟨sb, 0, none⟩), .int .i64 (k : Nat)] W fun e W' => e = .returned (.int .i64 0) ∧ LS N w W' sb O G (S.give k) ∧ LeftO O W W' := by
  obtain ⟨F, f, d⟩ := h.ex
  refine (sp_give f hs k hk hu).mono ?_
  rintro e W' ⟨rfl, F', f', t⟩
  exact ⟨rfl, h.step f d f' t⟩
theorem ls_mark_state (h : LS N w W sb O G S) (hs : S.st ≠ 1) (i : Int) : Calls Tryd.prog 19 #[.pointer (some ⟨sb, 0, none⟩), .int .i64 i] W fun e W' => e = .returned (.int .i64 33) ∧ W' = W := by
  obtain ⟨F, f, d⟩ := h.ex
  exact sp_mark_state f hs i
theorem ls_mark_arg (h : LS N w W sb O G S) (hs : S.st = 1) (i : Int) (hi : inB G.slots i = false) : Calls Tryd.prog 19 #[.pointer (some ⟨sb, 0, none⟩), .int .i64 i] W fun e W' => e = .returned (.int .i64 1) ∧ W' = W := by
  obtain ⟨F, f, d⟩ := h.ex
  exact sp_mark_arg f hs i hi
theorem ls_mark (h : LS N w W sb O G S) (hs : S.st = 1) (k : Nat) (hk : k < G.slots) : Calls Tryd.prog 19 #[.pointer (some ⟨sb, 0, none⟩), .int .i64 (k : Nat)] W fun e W' => e = .returned (.int .i64 0) ∧ LS N w W' sb O G (S.mark k) ∧ LeftO O W W' := by
  obtain ⟨F, f, d⟩ := h.ex
  refine (sp_mark f h.nw hs k hk).mono ?_
  rintro e W' ⟨rfl, F', f', t⟩
  exact ⟨rfl, h.step f d f' t⟩
theorem ls_sweep_state (h : LS N w W sb O G S) (hs : S.st ≠ 1) : Calls Tryd.prog 18 #[.pointer (some ⟨sb, 0, none⟩)] W fun e W' => e = .returned (.tuple #[.slice none 0 0, .int .i64 33]) ∧ W' = W := by
  obtain ⟨F, f, d⟩ := h.ex
  exact sp_sweep_state f hs
theorem ls_sweep_zombie (h : LS N w W sb O G S) (hs : S.st = 1) (hz : lsF S.m S.u G.slots ≠ []) : Calls Tryd.prog 18 #[.pointer (some ⟨sb, 0, none⟩)] W fun e W' => e = .returned (.tuple #[.slice none 0 0, .int .i64 40]) ∧ LS N w W' sb O G S ∧ LeftO O W W' := by
  obtain ⟨F, f, d⟩ := h.ex
  refine (sp_sweep_zombie f h.tab hs hz).mono ?_
  rintro e W' ⟨rfl, b⟩
  exact ⟨rfl, h.read b, LeftO.of_below b⟩
/-- Behind a sweep: the list that it answers is the law's own. -/
theorem ls_sweep (h : LS N w W sb O G S) (hs : S.st = 1) (hz : lsF S.m S.u G.slots = []) : Calls Tryd.prog 18 #[.pointer (some ⟨sb, 0, none⟩)] W fun e W' => ∃ vr, e = .returned (.tuple #[vr, .int .i64 0]) ∧ W'.ownsRow W.heap.size 3 1 vr (lsF S.u S.m G.slots).length ((lsF S.u S.m G.slots).map encI) ∧ LS N w W' sb (fun z => O z ∨ vr.ownBlock = some z) G S.sweep ∧ LeftO O W W' := by
  obtain ⟨F, f, d⟩ := h.ex
  refine (sp_sweep f h.nw h.tab hs hz).mono ?_
  rintro e W' ⟨vr, rfl, o, F', f', t, n⟩
  obtain ⟨l, left⟩ := h.step f d f' t
  refine ⟨vr, rfl, o, ⟨⟨F', f', fun z hz => ?_⟩, fun z hz => ?_, l.be, l.nw, l.tab, l.n0⟩, left⟩
  · rcases hz with y | y
    · intro u
      rcases t.2 z u with q | q
      · exact d z y q
      · have := (h.ol z y).2; omega
    · exact (n z y).2
  · rcases hz with y | y
    · exact l.ol z y
    · exact ⟨Nat.le_trans h.nw (n z y).1, (own_ge o y).2⟩
theorem ls_die_no (h : LS N w W sb O G S) (hs : S.st = 0 ∨ 0 < Bt.cnt S.u 0 G.slots) : Calls Tryd.prog 26 #[.pointer (some ⟨sb, 0, none⟩)] W fun e W' => e = .returned (.int .i64 33) ∧ W' = W := by
  obtain ⟨F, f, d⟩ := h.ex
  exact sp_die_no f hs
theorem ls_die (h : LS N w W sb O G S) (hs : S.st ≠ 0) (hc : Bt.cnt S.u 0 G.slots = 0) : Calls Tryd.prog 26 #[.pointer (some ⟨sb, 0, none⟩)] W fun e W' => e = .returned (.int .i64 0) ∧ LS N w W' sb O G S.die ∧ LeftO O W W' := by
  obtain ⟨F, f, d⟩ := h.ex
  refine (sp_die f hs hc).mono ?_
  rintro e W' ⟨rfl, F', f', t⟩
  exact ⟨rfl, h.step f d f' t⟩
theorem ls_info (h : LS N w W sb O G S) : Calls Tryd.prog 20 #[.pointer (some ⟨sb, 0, none⟩)] W fun e W' => e = .returned (infoV G S.st (Bt.cnt S.u 0 G.slots)) ∧ Below W.heap.size W W' := by
  obtain ⟨F, f, d⟩ := h.ex
  exact sp_info f
theorem ls_used (h : LS N w W sb O G S) (i : Int) (h0 : -9223372036854775808 ≤ i) (h1 : i ≤ 9223372036854775807) : Calls Tryd.prog 24 #[.pointer (some ⟨sb, 0, none⟩), .int .i64 i] W fun e W' => e = .returned (.bool (uat S.u i)) ∧ W' = W := by
  obtain ⟨F, f, d⟩ := h.ex
  exact sp_used f i h0 h1
theorem ls_marked (h : LS N w W sb O G S) (i : Int) (h0 : -9223372036854775808 ≤ i) (h1 : i ≤ 9223372036854775807) : Calls Tryd.prog 25 #[.pointer (some ⟨sb, 0, none⟩), .int .i64 i] W fun e W' => e = .returned (.bool (uat S.m i)) ∧ W' = W := by
  obtain ⟨F, f, d⟩ := h.ex
  exact sp_marked f i h0 h1
theorem ls_slot_no (h : LS N w W sb O G S) (i : Int) (hi : inB G.slots i = false) : Calls Tryd.prog 23 #[.pointer (some ⟨sb, 0, none⟩), .int .i64 i] W fun e W' => e = .returned (.tuple #[.int .u64 0, .int .i64 1]) ∧ W' = W := by
  obtain ⟨F, f, d⟩ := h.ex
  exact sp_slot_no f i hi
theorem ls_slot (h : LS N w W sb O G S) (k : Nat) (hk : k < G.slots) : Calls Tryd.prog 23 #[.pointer (some ⟨sb, 0, none⟩), .int .i64 (k : Nat)] W fun e W' => e = .returned (.tuple #[.int .u64 ((G.base + k * G.elem : Nat) : Int), .int .i64 0]) ∧ ∃ j, W' = W.drewN j := by
  obtain ⟨F, f, d⟩ := h.ex
  exact sp_slot f k hk
theorem ls_index_no (h : LS N w W sb O G S) (a : Nat) (ha : a < 18446744073709551616) (hi : idxV G a = none) : Calls Tryd.prog 22 #[.pointer (some ⟨sb, 0, none⟩), .int .u64 (a : Nat)] W fun e W' => e = .returned (.tuple #[.int .i64 0, .int .i64 10]) ∧ ∃ j, W' = W.drewN j := by
  obtain ⟨F, f, d⟩ := h.ex
  exact sp_index_no f a ha hi
theorem ls_index (h : LS N w W sb O G S) (a k : Nat) (ha : a < 18446744073709551616) (hi : idxV G a = some k) : Calls Tryd.prog 22 #[.pointer (some ⟨sb, 0, none⟩), .int .u64 (a : Nat)] W fun e W' => e = .returned (.tuple #[.int .i64 (k : Nat), .int .i64 0]) ∧ ∃ j, W' = W.drewN j := by
  obtain ⟨F, f, d⟩ := h.ex
  exact sp_index f a k ha hi
/-- A span that a law makes, beside what the law has already. -/
theorem ls_new (O : Nat → Prop) (ho : ∀ z, O z → N ≤ z ∧ z < W.heap.size) (be : Below N w W) (nw : N ≤ W.heap.size) (tab : TabW W) (n0 : 0 < N) (page pages : Nat) (number : Int) (noptr : Bool) (el : Nat) (h : rpB page pages = true) (he : elemOf pages number = some el) :
    Calls Tryd.prog 9 #[.int .u64 (page : Nat), .int .u64 (pages : Nat), .int .i64 number, .bool noptr] W fun e W' => ∃ sb, e = .returned (.tuple #[.pointer (some ⟨sb, 0, none⟩), .int .i64 0]) ∧ LS N w W' sb O (geo page pages number.toNat noptr el) (St.new 1) ∧ Below W.heap.size W W' := by
  have le := rp_le h
  have ee := elem_le he (by omega)
  refine (new_made page pages number noptr el h he W).mono ?_
  rintro e W' ⟨sb, rfl, hsb, hb, b⟩
  refine ⟨sb, rfl, ⟨⟨_, Sp.made hb (by omega) (geo_ok h (by omega) ee.1 (by omega) (by omega)), fun z hz u => ?_⟩, fun z hz => ⟨(ho z hz).1, Nat.lt_of_lt_of_le (ho z hz).2 b.size⟩, be.trans (b.mono nw), Nat.le_trans nw b.size, tab.below n0 (b.mono nw), n0⟩, b⟩
  have := (ho z hz).2
  omega
theorem ls_manual (O : Nat → Prop) (ho : ∀ z, O z → N ≤ z ∧ z < W.heap.size) (be : Below N w W) (nw : N ≤ W.heap.size) (tab : TabW W) (n0 : 0 < N) (page pages elem : Nat) (h : manB page pages elem = true) (hs : pages * 8192 / elem ≤ 65536) :
    Calls Tryd.prog 11 #[.int .u64 (page : Nat), .int .u64 (pages : Nat), .int .i64 (elem : Nat)] W fun e W' => ∃ sb, e = .returned (.tuple #[.pointer (some ⟨sb, 0, none⟩), .int .i64 0]) ∧ LS N w W' sb O (geo page pages 0 false elem) (St.new 2) ∧ Below W.heap.size W W' := by
  obtain ⟨r, c2, c3, c4⟩ := man_le h
  refine (manual_made page pages elem h W).mono ?_
  rintro e W' ⟨sb, rfl, hsb, hb, b⟩
  refine ⟨sb, rfl, ⟨⟨_, Sp.made hb (by omega) (geo_ok r c2 (by omega) (by omega) hs), fun z hz u => ?_⟩, fun z hz => ⟨(ho z hz).1, Nat.lt_of_lt_of_le (ho z hz).2 b.size⟩, be.trans (b.mono nw), Nat.le_trans nw b.size, tab.below n0 (b.mono nw), n0⟩, b⟩
  have := (ho z hz).2
  omega
end
/-! ### awake -/
theorem aw_elem : elemOf 1 5 = some 48 := by decide +kernel
theorem aw_rp : rpB 512 1 = true := by decide
def awS : St := ((((St.new 1).next 0).next 1).mark 1)
theorem aw_f0 : First (St.new 1).u (St.new 1).look 0 := ⟨Nat.le_refl _, rfl, fun j h1 h2 => by omega⟩
theorem aw_f1 : First ((St.new 1).next 0).u ((St.new 1).next 0).look 1 := ⟨Nat.le_refl _, rfl, fun j h1 h2 => by have : 1 ≤ j := h1; omega⟩
theorem aw_z : lsF awS.m awS.u 170 = [] := by decide +kernel
theorem aw_l : lsF awS.u awS.m 170 = [0] := by decide +kernel
theorem aw_c : Bt.cnt awS.sweep.u 0 170 = 1 := by decide +kernel
set_option maxRecDepth 100000 in
theorem awake13 (W : World) (hT : TabW W) : Calls Tryd.prog 13 #[] W fun e W' => e = .returned (.bool true) ∧ Below W.heap.size W W' := by
  have C0 := hide (ls_new (N := W.heap.size) (w := W) (W := W) (fun _ => False) (fun _ f => f.elim) (Below.refl _ _) (Nat.le_refl _) hT hT.lt 512 1 5 false 48 aw_rp aw_elem)
  rw [show ((512 : Nat) : Int) = 512 from rfl, show ((1 : Nat) : Int) = 1 from rfl] at C0
  have sl : (geo 512 1 5 false 48).slots = 170 := rfl
  clear hT
  go_enter Tryd.func13, Tryd.ntmps13
  go_wp2_with fail
  refine C0.out.mono ?_
  rintro e W1 ⟨sb, rfl, l1, -⟩
  have C1 := hide (ls_next l1 (by decide) aw_f0 (by decide))
  clear C0 l1
  go_wp2_with fail
  refine C1.out.mono ?_
  rintro e W2 ⟨rfl, l2, -⟩
  have C2 := hide (ls_next l2 (by decide) aw_f1 (by decide))
  clear C1 l2
  go_wp2_with fail
  refine C2.out.mono ?_
  rintro e W3 ⟨rfl, l3, -⟩
  have C3 := hide (ls_mark l3 rfl 1 (by decide))
  rw [show ((1 : Nat) : Int) = 1 from rfl] at C3
  clear C2 l3
  go_wp2_with fail
  refine C3.out.mono ?_
  rintro e W4 ⟨rfl, l4, -⟩
  have C4 := hide (ls_sweep l4 rfl aw_z)
  clear C3 l4
  go_wp2_with fail
  refine C4.out.mono ?_
  rintro e W5 ⟨vr, rfl, o5, l5, -⟩
  rw [show lsF ((((St.new 1).next 0).next 1).mark 1).u ((((St.new 1).next 0).next 1).mark 1).m (geo 512 1 (5 : Int).toNat false 48).slots = [0] from aw_l] at o5
  obtain ⟨g, cap, e5, _, _⟩ := o5.form (by decide)
  have C5 := hide (ls_info l5)
  have O5 := hide o5
  have L5 := hide l5
  rw [show Bt.cnt ((((St.new 1).next 0).next 1).mark 1).sweep.u 0 (geo 512 1 (5 : Int).toNat false 48).slots = 1 from aw_c] at C5
  unfold infoV at C5
  subst e5
  clear C4 o5 l5
  go_wp2_with fail
  refine C5.out.mono ?_
  rintro e W6 ⟨rfl, b6⟩
  have x0 : W6.cell? ⟨g, 0, none⟩ = some (.int .i64 0) := by
    have := owns_kept O5.out (Kept.of_below (F := fun _ => False) b6) (fun _ _ f => f)
    exact this.cellAt 0 (by decide)
  have gl : g < W6.heap.size := World.block_lt_of_cell? W6 ⟨g, 0, none⟩ x0
  have B6 := hide (L5.out.be.trans (b6.mono L5.out.nw))
  clear C5 b6
  go_wp2_with fail
  go_ret
  exact ⟨rfl, B6.out.alloc B6.out.size _⟩
end Go.Proofs.YtblfefibgoiaaaaDoor
