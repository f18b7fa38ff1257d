/- A span with what holds of it: contracts for laws. -/
import Derived.Test.YtblfefibgoiaaaaDoorGf
import Derived.Test.YtblfefibgoiaaaaDoorGg
import Derived.Test.YtblfefibgoiaaaaDoorGh
namespace Go.Proofs.YtblfefibgoiaaaaDoor
open Go.ChangeShapes Go.WideShapes Go.ChangeAt Go.RowKit Go.Proofs.Sn Go.Shelf
set_option linter.unusedVariables false
set_option linter.unusedSimpArgs false

structure Sp (N : Nat) (W : World) (sb : Nat) (F : Nat → Prop) (G : Geo) (S : St) : Prop where
  ex : ∃ v1 v2 ws ms, SpAt N W sb v1 v2 G S.st (Bt.cnt S.u 0 G.slots) ws ms S.look ∧ wb ws = S.u ∧ wb ms = S.m ∧ ∀ z, F z ↔ ownS sb v1 v2 z
  ok : SOk G.slots S
  g : GOk G
def St.new (st : Nat) : St := ⟨st, fun _ => false, fun _ => false, 0⟩
def St.next (S : St) (k : Nat) : St := ⟨S.st, upd S.u k true, S.m, k + 1⟩
def St.give (S : St) (k : Nat) : St := ⟨S.st, upd S.u k false, S.m, min S.look k⟩
def St.mark (S : St) (k : Nat) : St := ⟨S.st, S.u, upd S.m k true, S.look⟩
def St.sweep (S : St) : St := ⟨S.st, S.m, fun _ => false, 0⟩
def St.die (S : St) : St := ⟨0, fun _ => false, fun _ => false, S.look⟩
theorem SOk.new (n st : Nat) : SOk n (St.new st) := ⟨fun i h => (by cases h), fun i h => (by cases h), Nat.zero_le _⟩
theorem SOk.next {n : Nat} {S : St} (h : SOk n S) {k : Nat} (hk : k < n) : SOk n (S.next k) :=
  ⟨fun i hi => by
    by_cases e : i = k
    · omega
    · exact h.su i (by have := hi; unfold St.next at this; rwa [show (⟨S.st, upd S.u k true, S.m, k + 1⟩ : St).u = upd S.u k true from rfl, upd_ne _ _ e] at this), h.sm, hk⟩
theorem SOk.give {n : Nat} {S : St} (h : SOk n S) (k : Nat) : SOk n (S.give k) :=
  ⟨fun i hi => by
    by_cases e : i = k
    · have := hi; unfold St.give at this; rw [show (⟨S.st, upd S.u k false, S.m, min S.look k⟩ : St).u = upd S.u k false from rfl, e, upd_self] at this; cases this
    · exact h.su i (by have := hi; unfold St.give at this; rwa [show (⟨S.st, upd S.u k false, S.m, min S.look k⟩ : St).u = upd S.u k false from rfl, upd_ne _ _ e] at this), h.sm, Nat.le_trans (Nat.min_le_left _ _) h.lk⟩
theorem SOk.mark {n : Nat} {S : St} (h : SOk n S) {k : Nat} (hk : k < n) : SOk n (S.mark k) :=
  ⟨h.su, fun i hi => by
    by_cases e : i = k
    · omega
    · exact h.sm i (by have := hi; unfold St.mark at this; rwa [show (⟨S.st, S.u, upd S.m k true, S.look⟩ : St).m = upd S.m k true from rfl, upd_ne _ _ e] at this), h.lk⟩
theorem SOk.sweep {n : Nat} {S : St} (h : SOk n S) : SOk n S.sweep := ⟨h.sm, fun i hi => (by cases hi), Nat.zero_le _⟩
theorem SOk.die {n : Nat} {S : St} (h : SOk n S) : SOk n S.die := ⟨fun i hi => (by cases hi), fun i hi => (by cases hi), h.lk⟩
theorem first_ex {u : Nat → Bool} {n : Nat} (h : ∀ i, u i = true → i < n) : ∀ d i, n - i = d → ∃ k, First u i k
  | 0, i, hd => ⟨i, Nat.le_refl _, by
      cases c : u i with
      | false => rfl
      | true => have := h i c; omega, fun j h1 h2 => by omega⟩
  | d + 1, i, hd => by
    cases c : u i with
    | false => exact ⟨i, Nat.le_refl _, c, fun j h1 h2 => by omega⟩
    | true =>
      obtain ⟨k, h1, h2, h3⟩ := first_ex h d (i + 1) (by omega)
      refine ⟨k, by omega, h2, fun j j1 j2 => ?_⟩
      by_cases e : j = i
      · rw [e]; exact c
      · exact h3 j (by omega) j2
section
variable {N : Nat} {W W' : World} {sb : Nat} {F : Nat → Prop} {G : Geo} {S : St}
theorem Sp.lt (h : Sp N W sb F G S) {z : Nat} (hz : F z) : N ≤ z ∧ z < W.heap.size := by
  obtain ⟨v1, v2, ws, ms, a, _, _, hF⟩ := h.ex
  exact a.own ((hF z).1 hz)
theorem Sp.kept {K : Nat → Prop} (h : Sp N W sb F G S) (k : Kept K W W') (hK : ∀ z, F z → ¬ K z) : Sp N W' sb F G S := by
  obtain ⟨v1, v2, ws, ms, a, b, c, hF⟩ := h.ex
  exact ⟨⟨v1, v2, ws, ms, a.kept k (fun z hz => hK z ((hF z).2 hz)), b, c, hF⟩, h.ok, h.g⟩
theorem Sp.below (h : Sp N W sb F G S) (k : Below W.heap.size W W') : Sp N W' sb F G S := h.kept (Kept.of_below (F := fun _ => False) k) (fun _ _ f => f)
theorem Sp.first (h : Sp N W sb F G S) : ∃ k, First S.u S.look k := first_ex h.ok.su _ _ rfl
theorem Sp.to {v1 v2 : Value} {S' : St} {c : Nat} (hF : ∀ z, F z ↔ ownS sb v1 v2 z) (t : SpTo N W W' sb v1 v2 G S'.st c S'.u S'.m S'.look) (hc : c = Bt.cnt S'.u 0 G.slots) (ok : SOk G.slots S') (g : GOk G) : ∃ F', Sp N W' sb F' G S' ∧ To W W' F F' := by
  obtain ⟨v1', v2', ws', ms', a, b, d, k, n⟩ := t
  rw [hc] at a
  refine ⟨ownS sb v1' v2', ⟨⟨v1', v2', ws', ms', a, b, d, fun _ => Iff.rfl⟩, ok, g⟩, k.mono (fun z hz => (hF z).2 hz), fun z hz => ?_⟩
  rcases n z hz with u | u
  · exact .inl ((hF z).2 u)
  · exact .inr u
theorem cnt_65 {u : Nat → Bool} (g : GOk G) : Bt.cnt u 0 G.slots ≤ 65536 := Nat.le_trans (Bt.cnt_le _ _ _) g.s1
/-! ### Next -/
theorem sp_next_dead (h : Sp N W sb F G S) (hs : S.st = 0) : Calls Tryd.prog 17 #[.pointer (some ⟨sb, 0, none⟩)] W fun e W' => e = .returned (.tuple #[.int .i64 0, .int .i64 33]) ∧ W' = W := by
  obtain ⟨v1, v2, ws, ms, a, b, c, hF⟩ := h.ex
  rw [hs] at a
  exact next_dead a
theorem sp_next_full (h : Sp N W sb F G S) (hT : TabW W) (hs : S.st ≠ 0) {k : Nat} (hf : First S.u S.look k) (hk : G.slots ≤ k) : Calls Tryd.prog 17 #[.pointer (some ⟨sb, 0, none⟩)] W fun e W' => e = .returned (.tuple #[.int .i64 0, .int .i64 30]) ∧ Below W.heap.size W W' := by
  obtain ⟨v1, v2, ws, ms, a, b, c, hF⟩ := h.ex
  have := h.ok.lk
  have := h.g.s1
  exact next_full a hT hs (by omega) (by rw [b]; exact hf) hk
theorem sp_next (h : Sp N W sb F G S) (hN : N ≤ W.heap.size) (hT : TabW W) (hs : S.st ≠ 0) {k : Nat} (hf : First S.u S.look k) (hk : k < G.slots) : Calls Tryd.prog 17 #[.pointer (some ⟨sb, 0, none⟩)] W fun e W' => e = .returned (.tuple #[.int .i64 (k : Nat), .int .i64 0]) ∧ ∃ F', Sp N W' sb F' G (S.next k) ∧ To W W' F F' := by
  obtain ⟨v1, v2, ws, ms, a, b, c, hF⟩ := h.ex
  have lk := h.ok.lk
  have s1 := h.g.s1
  have cc := cnt_upd S.u k true hk
  rw [hf.2.1] at cc
  refine (next_ok a hN hT hs (by omega) (cnt_65 h.g) (by rw [b]; exact hf) hk s1).mono ?_
  rintro e W' ⟨rfl, t⟩
  rw [b, c] at t
  exact ⟨rfl, Sp.to (S' := S.next k) hF t (by show _ = Bt.cnt (upd S.u k true) 0 G.slots; simpa using cc.symm) (h.ok.next hk) h.g⟩
/-! ### Give -/
theorem sp_give_state (h : Sp N W sb F G S) (hs : S.st ≠ 2) (i : Int) : Calls Tryd.prog 16 #[.pointer (some ⟨sb, 0, none⟩), .int .i64 i] W fun e W' => e = .returned (.int .i64 33) ∧ W' = W := by
  obtain ⟨v1, v2, ws, ms, a, b, c, hF⟩ := h.ex
  exact give_state a hs i
theorem sp_give_arg (h : Sp N W sb F G S) (hs : S.st = 2) (i : Int) (hi : inB G.slots i = false) : Calls Tryd.prog 16 #[.pointer (some ⟨sb, 0, none⟩), .int .i64 i] W fun e W' => e = .returned (.int .i64 1) ∧ W' = W := by
  obtain ⟨v1, v2, ws, ms, a, b, c, hF⟩ := h.ex
  rw [hs] at a
  exact give_arg a i hi
theorem sp_give_free (h : Sp N W sb F G S) (hs : S.st = 2) (k : Nat) (hk : k < G.slots) (hu : S.u k = false) : Calls Tryd.prog 16 #[.pointer (some ⟨sb, 0, none⟩), .int .i64 (k : Nat)] W fun e W' => e = .returned (.int .i64 31) ∧ W' = W := by
  obtain ⟨v1, v2, ws, ms, a, b, c, hF⟩ := h.ex
  rw [hs] at a
  exact give_free a h.g.s1 k hk (by rw [b]; exact hu)
theorem sp_give (h : Sp N W sb F G S) (hs : S.st = 2) (k : Nat) (hk : k < G.slots) (hu : S.u k = true) : Calls Tryd.prog 16 #[.pointer (some ⟨sb, 0, none⟩), .int .i64 (k : Nat)] W fun e W' => e = .returned (.int .i64 0) ∧ ∃ F', Sp N W' sb F' G (S.give k) ∧ To W W' F F' := by
  obtain ⟨v1, v2, ws, ms, a, b, c, hF⟩ := h.ex
  have lk := h.ok.lk
  have s1 := h.g.s1
  have cc := cnt_upd S.u k false hk
  rw [hu] at cc
  simp only [Bool.toNat_true, Bool.toNat_false] at cc
  rw [hs] at a
  refine (give_ok a s1 k hk (by rw [b]; exact hu) (by omega) (cnt_65 h.g) (by omega)).mono ?_
  rintro e W' ⟨rfl, t⟩
  rw [b, c] at t
  refine ⟨rfl, Sp.to (S' := S.give k) hF ?_ rfl (h.ok.give k) h.g⟩
  show SpTo N W W' sb v1 v2 G S.st (Bt.cnt (upd S.u k false) 0 G.slots) (upd S.u k false) S.m (min S.look k)
  rw [hs, show Bt.cnt (upd S.u k false) 0 G.slots = Bt.cnt S.u 0 G.slots - 1 by omega]
  exact t
/-! ### Mark -/
theorem sp_mark_state (h : Sp N W sb F G S) (hs : S.st ≠ 1) (i : Int) : Calls Tryd.prog 19 #[.pointer (some ⟨sb, 0, none⟩), .int .i64 i] W fun e W' => e = .returned (.int .i64 33) ∧ W' = W := by
  obtain ⟨v1, v2, ws, ms, a, b, c, hF⟩ := h.ex
  exact mark_state a hs i
theorem sp_mark_arg (h : Sp N W sb F G S) (hs : S.st = 1) (i : Int) (hi : inB G.slots i = false) : Calls Tryd.prog 19 #[.pointer (some ⟨sb, 0, none⟩), .int .i64 i] W fun e W' => e = .returned (.int .i64 1) ∧ W' = W := by
  obtain ⟨v1, v2, ws, ms, a, b, c, hF⟩ := h.ex
  rw [hs] at a
  exact mark_arg a i hi
theorem sp_mark (h : Sp N W sb F G S) (hN : N ≤ W.heap.size) (hs : S.st = 1) (k : Nat) (hk : k < G.slots) : Calls Tryd.prog 19 #[.pointer (some ⟨sb, 0, none⟩), .int .i64 (k : Nat)] W fun e W' => e = .returned (.int .i64 0) ∧ ∃ F', Sp N W' sb F' G (S.mark k) ∧ To W W' F F' := by
  obtain ⟨v1, v2, ws, ms, a, b, c, hF⟩ := h.ex
  rw [hs] at a
  refine (mark_ok a hN h.g.s1 k hk).mono ?_
  rintro e W' ⟨rfl, t⟩
  rw [b, c] at t
  refine ⟨rfl, Sp.to (S' := S.mark k) hF ?_ rfl (h.ok.mark hk) h.g⟩
  show SpTo N W W' sb v1 v2 G S.st (Bt.cnt S.u 0 G.slots) S.u (upd S.m k true) S.look
  rw [hs]
  exact t
/-! ### Sweep -/
theorem sp_sweep_state (h : Sp N W sb F G S) (hs : S.st ≠ 1) : Calls Tryd.prog 18 #[.pointer (some ⟨sb, 0, none⟩)] W fun e W' => e = .returned (.tuple #[.slice none 0 0, .int .i64 33]) ∧ W' = W := by
  obtain ⟨v1, v2, ws, ms, a, b, c, hF⟩ := h.ex
  exact sweep_state a hs
theorem sp_sweep_zombie (h : Sp N W sb F G S) (hT : TabW W) (hs : S.st = 1) (hz : lsF S.m S.u G.slots ≠ []) : Calls Tryd.prog 18 #[.pointer (some ⟨sb, 0, none⟩)] W fun e W' => e = .returned (.tuple #[.slice none 0 0, .int .i64 40]) ∧ Below W.heap.size W W' := by
  obtain ⟨v1, v2, ws, ms, a, b, c, hF⟩ := h.ex
  rw [hs] at a
  refine sweep_zombie a hT ?_
  rw [lsW_eq (n := G.slots) (by rw [c]; exact h.ok.sm), b, c]
  exact hz
theorem sp_sweep (h : Sp N W sb F G S) (hN : N ≤ W.heap.size) (hT : TabW W) (hs : S.st = 1) (hz : lsF S.m S.u G.slots = []) : Calls Tryd.prog 18 #[.pointer (some ⟨sb, 0, none⟩)] W fun e W' => ∃ vr, e = .returned (.tuple #[vr, .int .i64 0]) ∧ W'.ownsRow W.heap.size 3 1 vr (lsF S.u S.m G.slots).length ((lsF S.u S.m G.slots).map encI) ∧ ∃ F', Sp N W' sb F' G S.sweep ∧ To W W' F F' ∧ ∀ z, vr.ownBlock = some z → W.heap.size ≤ z ∧ ¬ F' z := by
  obtain ⟨v1, v2, ws, ms, a, b, c, hF⟩ := h.ex
  have e1 : lsW ms ws (64 * ms.length) = lsF S.m S.u G.slots := by rw [lsW_eq (n := G.slots) (by rw [c]; exact h.ok.sm), b, c]
  have e2 : lsW ws ms (64 * ws.length) = lsF S.u S.m G.slots := by rw [lsW_eq (n := G.slots) (by rw [b]; exact h.ok.su), b, c]
  have sub : ∀ i, S.m i = true → S.u i = true := (lsF_nil h.ok.sm).1 hz
  have cl := cnt_less sub G.slots
  rw [hs] at a
  refine (sweep_ok a hT (e1.trans hz) (by rw [e2]; omega) (cnt_65 h.g) hN).mono ?_
  rintro e W' ⟨vr, rfl, o, t, n⟩
  rw [e2] at o t
  rw [c] at t
  refine ⟨vr, rfl, o, ?_⟩
  obtain ⟨v1', v2', ws', ms', a', b', d', k', n'⟩ := t
  rw [show Bt.cnt S.u 0 G.slots - (lsF S.u S.m G.slots).length = Bt.cnt S.m 0 G.slots by omega] at a'
  refine ⟨ownS sb v1' v2', ⟨⟨v1', v2', ws', ms', by show SpAt N W' sb v1' v2' G S.st _ ws' ms' 0; rw [hs]; exact a', b', d', fun _ => Iff.rfl⟩, h.ok.sweep, h.g⟩, ⟨k'.mono (fun z hz => (hF z).2 hz), fun z hz => ?_⟩, fun z hz => ⟨(n z hz).1, fun y => ?_⟩⟩
  · exact .inl ((hF z).2 (n' z hz))
  · exact (n z hz).2 (n' z y)
/-! ### Die -/
theorem sp_die_no (h : Sp N W sb F G S) (hs : S.st = 0 ∨ 0 < Bt.cnt S.u 0 G.slots) : Calls Tryd.prog 26 #[.pointer (some ⟨sb, 0, none⟩)] W fun e W' => e = .returned (.int .i64 33) ∧ W' = W := by
  obtain ⟨v1, v2, ws, ms, a, b, c, hF⟩ := h.ex
  exact die_no a hs
theorem sp_die (h : Sp N W sb F G S) (hs : S.st ≠ 0) (hc : Bt.cnt S.u 0 G.slots = 0) : Calls Tryd.prog 26 #[.pointer (some ⟨sb, 0, none⟩)] W fun e W' => e = .returned (.int .i64 0) ∧ ∃ F', Sp N W' sb F' G S.die ∧ To W W' F F' := by
  obtain ⟨v1, v2, ws, ms, a, b, c, hF⟩ := h.ex
  rw [hc] at a
  refine (die_ok a hs).mono ?_
  rintro e W' ⟨rfl, t⟩
  exact ⟨rfl, Sp.to (S' := S.die) hF t (Bt.cnt_none (fun _ _ => rfl)).symm h.ok.die h.g⟩
/-! ### What is told -/
theorem sp_info (h : Sp N W sb F G S) : Calls Tryd.prog 20 #[.pointer (some ⟨sb, 0, none⟩)] W fun e W' => e = .returned (infoV G S.st (Bt.cnt S.u 0 G.slots)) ∧ Below W.heap.size W W' := by
  obtain ⟨v1, v2, ws, ms, a, b, c, hF⟩ := h.ex
  exact info_any a
theorem sp_used (h : Sp N W sb F G S) (i : Int) (h0 : -9223372036854775808 ≤ i) (h1 : i ≤ 9223372036854775807) : Calls Tryd.prog 24 #[.pointer (some ⟨sb, 0, none⟩), .int .i64 i] W fun e W' => e = .returned (.bool (uat S.u i)) ∧ W' = W := by
  obtain ⟨v1, v2, ws, ms, a, b, c, hF⟩ := h.ex
  rw [← b]
  exact used_any a i h0 h1
theorem sp_marked (h : Sp N W sb F G S) (i : Int) (h0 : -9223372036854775808 ≤ i) (h1 : i ≤ 9223372036854775807) : Calls Tryd.prog 25 #[.pointer (some ⟨sb, 0, none⟩), .int .i64 i] W fun e W' => e = .returned (.bool (uat S.m i)) ∧ W' = W := by
  obtain ⟨v1, v2, ws, ms, a, b, c, hF⟩ := h.ex
  rw [← c]
  exact marked_any a i h0 h1
theorem sp_slot_no (h : Sp N W sb F G S) (i : Int) (hi : inB G.slots i = false) : Calls Tryd.prog 23 #[.pointer (some ⟨sb, 0, none⟩), .int .i64 i] W fun e W' => e = .returned (.tuple #[.int .u64 0, .int .i64 1]) ∧ W' = W := by
  obtain ⟨v1, v2, ws, ms, a, b, c, hF⟩ := h.ex
  exact slot_no a i hi
theorem sp_slot (h : Sp N W sb F G S) (k : Nat) (hk : k < G.slots) : Calls Tryd.prog 23 #[.pointer (some ⟨sb, 0, none⟩), .int .i64 (k : Nat)] W fun e W' => e = .returned (.tuple #[.int .u64 ((G.base + k * G.elem : Nat) : Int), .int .i64 0]) ∧ ∃ j, W' = W.drewN j := by
  obtain ⟨v1, v2, ws, ms, a, b, c, hF⟩ := h.ex
  exact slot_ok a h.g k hk
theorem sp_index_no (h : Sp N W sb F G S) (a : Nat) (ha : a < 18446744073709551616) (hi : idxV G a = none) : Calls Tryd.prog 22 #[.pointer (some ⟨sb, 0, none⟩), .int .u64 (a : Nat)] W fun e W' => e = .returned (.tuple #[.int .i64 0, .int .i64 10]) ∧ ∃ j, W' = W.drewN j := by
  obtain ⟨v1, v2, ws, ms, a', b, c, hF⟩ := h.ex
  exact index_no a' h.g a ha hi
theorem sp_index (h : Sp N W sb F G S) (a k : Nat) (ha : a < 18446744073709551616) (hi : idxV G a = some k) : Calls Tryd.prog 22 #[.pointer (some ⟨sb, 0, none⟩), .int .u64 (a : Nat)] W fun e W' => e = .returned (.tuple #[.int .i64 (k : Nat), .int .i64 0]) ∧ ∃ j, W' = W.drewN j := by
  obtain ⟨v1, v2, ws, ms, a', b, c, hF⟩ := h.ex
  exact index_ok a' h.g a k ha hi
/-! ### New, Manual -/
theorem geo_ok {page pages cls elem : Nat} {noptr : Bool} (hr : rpB page pages = true) (hp : pages ≤ 134217728) (h8 : 8 ≤ elem) (hl : elem ≤ pages * 8192) (hs : pages * 8192 / elem ≤ 65536) : GOk (geo page pages cls noptr elem) := by
  have le := rp_le hr
  have m := Nat.div_mul_le_self (pages * 8192) elem
  refine ⟨hs, hp, h8, by show elem ≤ _; omega, by show page * 8192 + pages * 8192 / elem * elem ≤ _; omega, ?_⟩
  show (if pages * 8192 ≤ 131072 ∧ elem ≤ 32768 then Cl.magicN elem else 0) = 0 ∨ _
  by_cases c : pages * 8192 ≤ 131072 ∧ elem ≤ 32768
  · refine .inr ⟨?_, c.2, ?_⟩
    · show (if pages * 8192 ≤ 131072 ∧ elem ≤ 32768 then Cl.magicN elem else 0) = _
      rw [if_pos c]; rfl
    · show pages * 8192 / elem * elem ≤ 131072
      omega
  · rw [if_neg c]; exact .inl rfl
theorem Sp.made {page pages st cls elem : Nat} {noptr : Bool} (hb : Bk W sb 78 (made page pages st cls noptr elem)) (hN : N ≤ sb) (g : GOk (geo page pages cls noptr elem)) : Sp N W sb (fun z => z = sb) (geo page pages cls noptr elem) (St.new st) := by
  refine ⟨⟨.slice none 0 0, .slice none 0 0, [], [], ⟨?_, Wr.none _ _, Wr.none _ _, hN, own_none _, own_none _, fun g hg => own_none _, by simp, by simp⟩, funext wb_nil, funext wb_nil, fun z => ⟨.inl, fun h => ?_⟩⟩, SOk.new _ _, g⟩
  · rw [show Bt.cnt (St.new st).u 0 (geo page pages cls noptr elem).slots = 0 from Bt.cnt_none (fun _ _ => rfl)]
    exact hb
  · rcases h with h | h | h
    · exact h
    · exact absurd h (own_none _)
    · exact absurd h (own_none _)
end
end Go.Proofs.YtblfefibgoiaaaaDoor
