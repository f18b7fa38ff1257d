/- J25 of the proof of both laws: texts RefV, RefW, RefWa, one behind the other. -/
import Derived.Test.YtlfcnaalkjpgnaaJ24
/- The reference of chapter 3: Store, of a word of a ready page, with all that it keeps. -/
namespace Go.Proofs.Ytlfcnaalkjpgnaa
open Go.ChangeShapes Go.WideShapes Go.ChangeAt Go.RowKit Go.Proofs.Sp
set_option linter.unusedVariables false
set_option linter.unusedSimpArgs false

def PutP (w : World) (m : Nat) (S' : Sp) (fl : Nat → Nat) (ws : List (Nat × Nat)) (v0 v1 v2 : Value) (o3 : Option Addr) (c3 : Nat) (o4 : Option Addr) (w' : World) : Prop :=
  ∃ ws' o4' c4', RefC w' m S' fl ws' v0 v1 v2 o3 c3 o4' c4' ∧ Apart m v0 v1 v2 o3 o4' ∧ (∀ x, inRef m v0 v1 v2 o3 o4' x → inRef m v0 v1 v2 o3 o4 x ∨ w.heap.size ≤ x) ∧ Kept (inRef m v0 v1 v2 o3 o4) w w' ∧ ws'.length ≤ ws.length + 1
theorem RefC.put {w : World} {m : Nat} {S : Sp} {fl : Nat → Nat} {ws : List (Nat × Nat)} {v0 v1 v2 : Value} {o3 : Option Addr} {c3 : Nat} {o4 : Option Addr} {c4 : Nat} (h : RefC w m S fl ws v0 v1 v2 o3 c3 o4 c4) (ap : Apart m v0 v1 v2 o3 o4) (a b : Int) (ha : 0 ≤ a ∧ a < 18446744073709551616) (hb : 0 ≤ b ∧ b < 18446744073709551616) (k1 : S.pgs.length ≤ 1099511627776) (k2 : ws.length ≤ 1099511627776) (h8 : a.toNat % 8 = 0) (hr : S.st (a.toNat / 8192) = 2) :
    Calls Try.prog 25 #[.pointer (some ⟨m, 0, none⟩), .int .u64 a, .int .u64 b] w fun e w' => e = .returned (.int .i64 0) ∧ PutP w m (putS S a.toNat b.toNat) fl ws v0 v1 v2 o3 c3 o4 w' := by
  have hblk : ∀ x, inRef m v0 v1 v2 o3 o4 x → x < w.heap.size := fun x hx => h.lt x hx
  have c1 := h.load a (by omega) (by omega) (by omega)
  rw [load_ok h8 hr] at c1
  have c2 := fun k => (h.drewN k).wordAt a ha.1 (by omega)
  have eb : ((b.toNat : Nat) : Int) = b := by omega
  have ea : ((a.toNat : Nat) : Int) = a := by omega
  by_cases hf : a.toNat ∈ addrs ws
  · rw [decide_eq_true hf] at c2
    obtain ⟨hp, hg⟩ := pos_get h.rising a.toNat hf
    have hp' : pos (addrs ws) a.toNat < ws.length := by rw [addrs_length] at hp; exact hp
    obtain ⟨g, rfl⟩ : ∃ g, o4 = some ⟨g, 0, none⟩ := by
      obtain ⟨_, hh | ⟨g, cap, cur, hv, _⟩⟩ := h.own4
      · omega
      · exact ⟨g, by injection hv⟩
    have hcell := h.own4.cellAt (pos (addrs ws) a.toNat * 2 + 1) (by omega)
    have hgt := flat_get 2 wcell (fun _ => rfl) ws (pos (addrs ws) a.toNat) 1 hp' (by decide)
    refine (store_found g ws.length c4 (pos (addrs ws) a.toNat) a b _ _ hp' c1 c2 h.h4 (hcell.trans hgt) (h.own4.frozenAt _)).mono fun e w' ⟨he, k, hw⟩ => ⟨he, ?_⟩
    have own := ((h.drewN k).own4.stored (pos (addrs ws) a.toNat * 2 + 1) (.int .u64 b)).1
    have hset := wflat_set ws (pos (addrs ws) a.toNat) a.toNat b.toNat hp' (by rw [← addrs_get ws _ hp']; exact hg)
    rw [eb] at hset
    rw [hset] at own
    have hkp : Kept (fun x => x = g) w w' := by rw [hw]; exact ⟨rfl, rfl, rfl, by simp [World.setCell], fun x _ hx => Below.heap_setCell _ _ _ _ hx⟩
    obtain ⟨q0, q1, q2⟩ := ap.q g rfl
    have hgm : m ≠ g := fun e => ap.m4 (by rw [e]; rfl)
    have q3 : o3.map Addr.block ≠ some g := fun e => (ap.p g e).2.2.2 rfl
    have nm : ∀ x, x ≠ g → inRef m v0 v1 v2 o3 (some ⟨g, 0, none⟩) x → w'.heap[x]? = w.heap[x]? := fun x h1 h2 => hkp.block x (hblk x h2) h1
    have hm' := nm m hgm (Or.inl rfl)
    have hlen : (setW ws a.toNat b.toNat).length = ws.length := by unfold setW; rw [List.length_set]
    have hL := set_logic h.logic a.toNat b.toNat h8 hr (by omega) hf
    have hC : RefC w' m (putS S a.toNat b.toNat) fl (setW ws a.toNat b.toNat) v0 v1 v2 o3 c3 (some ⟨g, 0, none⟩) c4 :=
      ⟨hL.wf, fun k hk => (frozen_kept hm').trans (h.frozen k hk), (cell_kept hm').trans h.h0, (cell_kept hm').trans h.h1, (cell_kept hm').trans h.h2, (cell_kept hm').trans h.h3, by rw [hlen]; exact (cell_kept hm').trans h.h4,
        h.r0.kept hkp.size fun x e => nm x (fun e2 => q0 (by rw [← e2]; exact e)) (Or.inr (Or.inl e)), h.r1.kept hkp.size fun x e => nm x (fun e2 => q1 (by rw [← e2]; exact e)) (Or.inr (Or.inr (Or.inl e))), h.r2.kept hkp.size fun x e => nm x (fun e2 => q2 (by rw [← e2]; exact e)) (Or.inr (Or.inr (Or.inr (Or.inl e)))),
        owns_kept h.own3 fun x e => nm x (fun e2 => q3 (by rw [own_slice] at e; rw [← e2]; exact e)) (Or.inr (Or.inr (Or.inr (Or.inr (Or.inl (by rw [own_slice] at e; exact e)))))), by rw [hlen, hw]; exact own, hL.rising, hL.ready, hL.fill, hL.word⟩
    exact ⟨_, _, _, hC, ap, fun x hx => Or.inl hx, hkp.mono fun x hx => Or.inr (Or.inr (Or.inr (Or.inr (Or.inr (by rw [hx]; rfl))))), by rw [hlen]; omega⟩
  · rw [decide_eq_false hf] at c2
    have hL := ins_logic h.logic a.toNat b.toNat h8 hr (by omega) hf
    have hpl := pos_le (addrs ws) a.toNat
    rw [addrs_length] at hpl
    have hlen : (insW ws a.toNat b.toNat).length = ws.length + 1 := by unfold insW; rw [List.length_append, List.length_append, List.length_take, List.length_drop, Nat.min_eq_left hpl]; simp; omega
    have hcells : wcells (insW ws a.toNat b.toNat) = wcells (ws.take (pos (addrs ws) a.toNat)) ++ [.int .u64 a, .int .u64 b] ++ wcells (ws.drop (pos (addrs ws) a.toNat)) := by
      unfold insW
      rw [wcells_append, wcells_append]
      have : wcells [(a.toNat, b.toNat)] = [.int .u64 a, .int .u64 b] := by
        show [Value.int .u64 ((a.toNat : Nat) : Int), Value.int .u64 ((b.toNat : Nat) : Int)] = _
        rw [ea, eb]
      rw [this]
    have fin : ∀ w' g cp w1, w' = w1.setCell ⟨m, 4, none⟩ (.slice (some ⟨g, 0, none⟩) (insW ws a.toNat b.toNat).length cp) → w1.ownsRow w.heap.size 68 2 (.slice (some ⟨g, 0, none⟩) (insW ws a.toNat b.toNat).length cp) (insW ws a.toNat b.toNat).length (wcells (insW ws a.toNat b.toNat)) → Below w.heap.size w w1 →
        PutP w m (putS S a.toNat b.toNat) fl ws v0 v1 v2 o3 c3 o4 w' := by
      intro w' g cp w1 hw hown hbel
      obtain ⟨hM, hA, hg4, hkp⟩ := h.mem.newWords ap (hblk m (Or.inl rfl)) hblk hbel hown
      rw [← hw] at hM hkp
      have hC := RefM.ref (S := putS S a.toNat b.toNat) hM hL
      exact ⟨_, _, _, hC, hA, inRef_words hg4, hkp.mono fun x hx => Or.inl hx, by rw [hlen]; omega⟩
    obtain ⟨_, hh | ⟨g, cap, cur, hv, hg0, hheap, hnc, hmax, _⟩⟩ := h.own4
    · have ho : o4 = none := by injection hh.1
      have hc : c4 = 0 := by injection hh.1
      have hz : ws = [] := List.eq_nil_of_length_eq_zero hh.2
      subst ho hc hz
      refine (store_nil a b _ c1 c2 h.h4 (h.frozen 4 (by decide)) (hblk m (Or.inl rfl))).mono fun e w' ⟨g, cp, w1, he, hw, hown, hbel⟩ => ⟨he, fin w' g cp w1 ?_ ?_ hbel⟩
      · rw [hlen]; exact hw
      · rw [hlen, hcells]; exact hown
    · have ho : o4 = some ⟨g, 0, none⟩ := by injection hv
      have hc : c4 = cap := by injection hv
      subst ho hc
      have hl2 : pos (addrs ws) a.toNat + 1 + (ws.length - pos (addrs ws) a.toNat) = ws.length + 1 := by omega
      refine (store_walk g ws.length c4 _ ws a b rfl hpl (by omega) hnc _ c1 c2 h.h4 (h.frozen 4 (by decide)) (hblk m (Or.inl rfl)) h.own4).mono fun e w' ⟨g2, cp, w1, he, hw, hown, hbel⟩ => ⟨he, fin w' g2 cp w1 ?_ ?_ hbel⟩
      · rw [hlen, ← hl2]; exact hw
      · rw [hlen, hcells, ← hl2]; exact hown
end Go.Proofs.Ytlfcnaalkjpgnaa

/- The reference of chapter 3: Zero, of a row that is ready. -/
namespace Go.Proofs.Ytlfcnaalkjpgnaa
open Go.ChangeShapes Go.WideShapes Go.ChangeAt Go.RowKit Go.Proofs.Sp
set_option linter.unusedVariables false
set_option linter.unusedSimpArgs false

variable {w : World} {m : Nat} {S : Sp} {fl : Nat → Nat} {ws : List (Nat × Nat)} {v0 v1 v2 : Value} {o3 : Option Addr} {c3 : Nat} {o4 : Option Addr} {c4 : Nat}
/-- How much of the row lies below D. -/
def cov (A B D : Nat) : Nat := min D (A + B) - A
/-- The row is cleared below D; p's block is none of the machine's. -/
def ZI (w : World) (m : Nat) (S : Sp) (fl : Nat → Nat) (L : Nat) (v0 v1 v2 : Value) (o3 : Option Addr) (c3 : Nat) (o4 : Option Addr) (A B D : Nat) (Pb : Nat → Prop) (wr : World) : Prop :=
  ∃ ws' o4' c4', RefC wr m (zAt S fl A B D) fl ws' v0 v1 v2 o3 c3 o4' c4' ∧ Apart m v0 v1 v2 o3 o4' ∧ (∀ x, inRef m v0 v1 v2 o3 o4' x → inRef m v0 v1 v2 o3 o4 x ∨ w.heap.size ≤ x) ∧ Kept (inRef m v0 v1 v2 o3 o4) w wr ∧ 8 * ws'.length ≤ 8 * L + cov A B D ∧ ∀ x, Pb x → x < wr.heap.size ∧ ¬ inRef m v0 v1 v2 o3 o4' x
variable {A B D : Nat} {L : Nat} {Pb : Nat → Prop} {wr : World}
theorem ZI.skip (h : ZI w m S fl L v0 v1 v2 o3 c3 o4 A B D Pb wr) (hD : D % 8 = 0) (hr : ¬ (A ≤ D ∧ D < A + B)) : ZI w m S fl L v0 v1 v2 o3 c3 o4 A B (D + 8) Pb wr := by
  obtain ⟨ws', o4', c4', h1, h2, h3, h4, h5, h6⟩ := h
  exact ⟨ws', o4', c4', h1.zskip hD hr, h2, h3, h4, by unfold cov at *; omega, h6⟩
theorem ZI.page {p E : Nat} (h : ZI w m S fl L v0 v1 v2 o3 c3 o4 A B D Pb wr) (hp : fl p = 0) (hD : D = p * 8192) (hE : E = D + 8192) : ZI w m S fl L v0 v1 v2 o3 c3 o4 A B E Pb wr := by
  obtain ⟨ws', o4', c4', h1, h2, h3, h4, h5, h6⟩ := h
  exact ⟨ws', o4', c4', h1.zpage hp hD hE, h2, h3, h4, by unfold cov at *; omega, h6⟩
theorem ZI.drop (h : ZI w m S fl L v0 v1 v2 o3 c3 o4 A B D Pb wr) : ZI w m S fl L v0 v1 v2 o3 c3 o4 A B D (fun _ => False) wr := by
  obtain ⟨ws', o4', c4', h1, h2, h3, h4, h5, h6⟩ := h
  exact ⟨ws', o4', c4', h1, h2, h3, h4, h5, fun x hx => hx.elim⟩
theorem ZI.next {w' : World} (h : ZI w m S fl L v0 v1 v2 o3 c3 o4 A B D Pb wr) (hb : Below wr.heap.size wr w') : ZI w m S fl L v0 v1 v2 o3 c3 o4 A B D (fun x => wr.heap.size ≤ x ∧ x < w'.heap.size) w' := by
  obtain ⟨ws', o4', c4', h1, h2, h3, h4, h5, h6⟩ := h
  exact ⟨ws', o4', c4', h1.kept hb.size fun x hx => hb.block x (h1.lt x hx), h2, h3, h4.trans (Kept.of_below hb), h5, fun x hx => ⟨hx.2, fun f => by have := h1.lt x f; omega⟩⟩
theorem ZI.put (h : ZI w m S fl L v0 v1 v2 o3 c3 o4 A B D Pb wr) (d : Int) (hd : d.toNat = D) (h0 : 0 ≤ d) (hD : D % 8 = 0) (hAB : (A + B) % 8 = 0) (hr : A ≤ D ∧ D < A + B) (h48 : A + B ≤ 281474976710656) (hB : B ≤ 1073741824) (hL : L ≤ 1000000000000) (hn : S.pgs.length ≤ 1099511627776) (hst : S.st (D / 8192) = 2) :
    Calls Try.prog 25 #[.pointer (some ⟨m, 0, none⟩), .int .u64 d, .int .u64 0] wr fun e w' => e = .returned (.int .i64 0) ∧ ZI w m S fl L v0 v1 v2 o3 c3 o4 A B (D + 8) Pb w' ∧ ∀ x, Pb x → ∀ k, w'.cell? ⟨x, k, none⟩ = wr.cell? ⟨x, k, none⟩ := by
  obtain ⟨ws', o4', c4', h1, h2, h3, h4, h5, h6⟩ := h
  have hc : ws'.length ≤ 1099511627776 := by unfold cov at h5; omega
  refine (h1.put h2 d 0 (by omega) (by omega) hn hc (by rw [hd]; exact hD) (by rw [hd]; exact hst)).mono ?_
  rintro e w' ⟨he, ws2, o42, c42, q1, q2, q3, q4, q5⟩
  rw [hd] at q1
  have s4 := h4.size
  have sq := q4.size
  refine ⟨he, ⟨ws2, o42, c42, q1.zput hD hr, q2, fun x hx => ?_, ⟨q4.os.trans h4.os, q4.tape.trans h4.tape, q4.output.trans h4.output, by omega, fun x hx hn => ?_⟩, by unfold cov at *; omega, fun x hx => ⟨by have := (h6 x hx).1; omega, fun f => ?_⟩⟩, fun x hx k => cell_kept (q4.block x (h6 x hx).1 (h6 x hx).2)⟩
  · rcases q3 x hx with z | z
    · exact h3 x z
    · exact Or.inr (by omega)
  · rw [q4.block x (by omega) (fun f => ?_)]
    · exact h4.block x hx hn
    · rcases h3 x f with z | z
      · exact hn z
      · omega
  · rcases q3 x f with z | z
    · exact (h6 x hx).2 z
    · have := (h6 x hx).1; omega
def ZeroP (w : World) (m : Nat) (S : Sp) (fl : Nat → Nat) (L : Nat) (v0 v1 v2 : Value) (o3 : Option Addr) (c3 : Nat) (o4 : Option Addr) (A B : Nat) (e : Ending) (w' : World) : Prop :=
  e = .returned (.int .i64 0) ∧ ∃ ws' o4' c4', RefC w' m (zerS S A B) fl ws' v0 v1 v2 o3 c3 o4' c4' ∧ Apart m v0 v1 v2 o3 o4' ∧ (∀ x, inRef m v0 v1 v2 o3 o4' x → inRef m v0 v1 v2 o3 o4 x ∨ w.heap.size ≤ x) ∧ Kept (inRef m v0 v1 v2 o3 o4) w w' ∧ 8 * ws'.length ≤ 8 * L + B
set_option maxRecDepth 100000 in
set_option maxHeartbeats 4000000 in
theorem zero_good (g : Nat) (h : RefC w m S fl ws v0 v1 v2 (some ⟨g, 0, none⟩) c3 o4 c4) (ap : Apart m v0 v1 v2 (some ⟨g, 0, none⟩) o4) (a b : Int) (ha : 0 ≤ a) (hb : 0 < b) (ha8 : a % 8 = 0) (hb8 : b % 8 = 0) (hab : a + b ≤ 281474976710656) (hn : S.pgs.length ≤ 1099511627776) (hw : ws.length ≤ 1000000000000) (hB : b ≤ 1073741824)
    (hall : ∀ i, i < ((a + b - 1) / 8192 - a / 8192 + 1).toNat → S.st ((a / 8192).toNat + i) = 2) :
    Calls Try.prog 27 #[.pointer (some ⟨m, 0, none⟩), .int .u64 a, .int .u64 b] w (ZeroP w m S fl ws.length v0 v1 v2 (some ⟨g, 0, none⟩) c3 o4 a.toNat b.toNat) := by
  obtain ⟨f, hf⟩ : ∃ f : Int, a / 8192 = f := ⟨_, rfl⟩
  obtain ⟨t, ht⟩ : ∃ t : Int, (a + b - 1) / 8192 = t := ⟨_, rfl⟩
  rw [hf, ht] at hall
  have f0 : 0 ≤ f := by omega
  have ft : f ≤ t := by omega
  have t0 : t < 34359738368 := by omega
  have cf := h.find f f0 hn
  have h3 := h.h3
  have hmem : ∀ i, i < (t - f + 1).toNat → f.toNat + i ∈ S.pgs := fun i hi => (h.wf.mem _).1 (by rw [hall i hi]; decide)
  have hlen := row_len h.wf.rising f.toNat (t - f + 1).toNat hmem
  have hmm := h.lt m (Or.inl rfl)
  have hgg := h.lt g (Or.inr (Or.inr (Or.inr (Or.inr (Or.inl rfl)))))
  have hrow : ∀ j (hj : j < (t - f + 1).toNat), S.pgs[pos S.pgs f.toNat + j]'(by omega) = f.toNat + j := fun j hj => (row_get h.wf.rising f.toNat j (fun k hk => hmem k (by omega)) (by omega)).2 (hmem j hj)
  have hcells : ∀ j, j < (t - f + 1).toNat → w.cell? ⟨g, (pos S.pgs f.toNat + j) * 3, none⟩ = some (.int .u64 ((f.toNat + j : Nat) : Int)) ∧ w.cell? ⟨g, (pos S.pgs f.toNat + j) * 3 + 1, none⟩ = some (.int .i64 2) ∧ w.cell? ⟨g, (pos S.pgs f.toNat + j) * 3 + 2, none⟩ = some (.int .u64 (fl (f.toNat + j) : Int)) := by
    intro j hj
    obtain ⟨b', off', ho, hc⟩ := h.page (by omega)
    injection ho with ho
    injection ho with e1 e2
    subst e1 e2
    have := hc (pos S.pgs f.toNat + j) (by omega)
    rw [hrow j hj, hall j hj, Nat.zero_add] at this
    exact this
  have hcw : ∀ (W : World) (D : Nat) (ws' : List (Nat × Nat)) (o4' : Option Addr) (c4' : Nat), RefC W m (zAt S fl a.toNat b.toNat D) fl ws' v0 v1 v2 (some ⟨g, 0, none⟩) c3 o4' c4' → ∀ j, j < (t - f + 1).toNat → W.cell? ⟨g, (pos S.pgs f.toNat + j) * 3, none⟩ = some (.int .u64 ((f.toNat + j : Nat) : Int)) ∧ W.cell? ⟨g, (pos S.pgs f.toNat + j) * 3 + 1, none⟩ = some (.int .i64 2) ∧ W.cell? ⟨g, (pos S.pgs f.toNat + j) * 3 + 2, none⟩ = some (.int .u64 (fl (f.toNat + j) : Int)) := by
    intro W D ws' o4' c4' hW j hj
    obtain ⟨b', off', ho, hc'⟩ := hW.page (show 0 < S.pgs.length by omega)
    injection ho with ho
    injection ho with e1 e2
    subst e1 e2
    have hc : ∀ i (hi : i < S.pgs.length), W.cell? ⟨g, 0 + i * 3, none⟩ = some (.int .u64 (S.pgs[i] : Int)) ∧ W.cell? ⟨g, 0 + i * 3 + 1, none⟩ = some (.int .i64 (S.st S.pgs[i] : Int)) ∧ W.cell? ⟨g, 0 + i * 3 + 2, none⟩ = some (.int .u64 (fl S.pgs[i] : Int)) := hc'
    have := hc (pos S.pgs f.toNat + j) (by omega)
    rw [hrow j hj, hall j hj, Nat.zero_add] at this
    exact this
  have HAL := hidR hall
  obtain ⟨q, hq⟩ : ∃ q, q = pos S.pgs f.toNat := ⟨_, rfl⟩
  rw [← hq] at cf hlen hcells hcw
  have HCW := hidR hcw
  have HC := hidR hcells
  have HR := hidR h
  have HA := hidR ap
  obtain ⟨n, hnn⟩ : ∃ n, n = S.pgs.length := ⟨_, rfl⟩
  rw [← hnn] at hn hlen h3
  have HN := hidR hnn
  generalize decide (f.toNat ∈ S.pgs) = d at cf
  have hlen' : (q : Int) + (t - f + 1) ≤ n := by omega
  have hle : t - f < (n : Int) - q := by omega
  have y0 : (a % 8 != 0) = false := by rw [ha8]; rfl
  have y1 : (b % 8 != 0) = false := by rw [hb8]; rfl
  have y2 : (b == 0) = false := beq_eq_false_iff_ne.2 (by omega)
  have y3 : ¬ 281474976710656 ≤ a := by omega
  have y4 : ¬ 281474976710656 - a < b := by omega
  have HF := hidR hf
  have HT := hidR ht
  have CF := hidR cf
  clear hcells hrow hmem hall h hq hlen ap hnn hf ht cf hcw
  go_enter Try.func27, Try.ntmps27
  go_wp2_with fail
  simp only [HF.out, HT.out]
  refine CF.out.mono ?_
  rintro e W ⟨rfl, k, hW⟩
  have BW : Below w.heap.size w W := by rw [hW]; exact ⟨rfl, rfl, rfl, Nat.le_refl _, fun _ _ => rfl⟩
  have g3 := (BW.cell (p := ⟨m, 3, none⟩) hmm).trans h3
  clear hW CF
  go_wp2_with fail
  go_loopw [11] (fun i wr => ∃ j : Int, 0 ≤ j ∧ j ≤ t - f + 1 ∧ i = .int .u64 j ∧ Below w.heap.size w wr) (fun i _ => (t - f + 1 - intOf i).toNat)
  case atStart => exact ⟨0, by omega, by omega, rfl, BW⟩
  case round =>
    clear g3 BW
    obtain ⟨j, hj0, hj1, rfl, hbel⟩ := hrel
    have hsz := hbel.size
    have g3 := (hbel.cell (p := ⟨m, 3, none⟩) hmm).trans h3
    by_cases hjb : j ≤ t - f
    · have hcs := HC.out j.toNat (by omega)
      have e3 : q + j.toNat = ((q : Int) + j).toNat := by omega
      have e4 : ((f.toNat + j.toNat : Nat) : Int) = f + j := by omega
      rw [e3, e4] at hcs
      have g0 := (hbel.cell (p := ⟨g, ((q : Int) + j).toNat * 3, none⟩) hgg).trans hcs.1
      have g1 := (hbel.cell (p := ⟨g, ((q : Int) + j).toNat * 3 + 1, none⟩) hgg).trans hcs.2.1
      have g2 := (hbel.cell (p := ⟨g, ((q : Int) + j).toNat * 3 + 2, none⟩) hgg).trans hcs.2.2
      clear hcs e3 e4
      go_wp2_with fail
      go_roundw
      case rel => exact ⟨j + 1, by omega, by omega, rfl, hbel.alloc hsz _⟩
      case measure => simp [intOf]; omega
    · have RR := hidR (HR.out.kept hsz fun x hx => hbel.block x (HR.out.lt x hx))
      have FG := hidR (RR.out.mem.forget HA.out (fun x hx => RR.out.lt x hx) RR.out.rising a b ha (by omega) hab (by omega))
      have KB := hidR hbel
      clear hbel
      go_wp2_with fail
      go_at_call 46
      refine FG.out.mono ?_
      rintro e w2 ⟨rfl, g4, cp4, M2, A2, hg4, K2⟩
      have L2 := logic_cut (addr := a.toNat) (bytes := b.toNat) RR.out.logic (by omega)
      have R2 : Hid (∃ ws', ws'.length ≤ ws.length ∧ RefC w2 m (zAt S fl a.toNat b.toNat (f.toNat * 8192)) fl ws' v0 v1 v2 (some ⟨g, 0, none⟩) c3 (some ⟨g4, 0, none⟩) cp4) := hidR (by
        refine ⟨cutW ws a.toNat (a.toNat + b.toNat), cutW_length ws _ _ (pos_mono _ (by omega)), RefC.zfirst (RefM.ref (S := zAt S fl a.toNat b.toNat 0) ?_ L2) (by have := HF.out; omega)⟩
        have e : (a + b).toNat = a.toNat + b.toNat := by omega
        rw [e] at M2
        exact M2)
      have Z2 : Hid (ZI w m S fl ws.length v0 v1 v2 (some ⟨g, 0, none⟩) c3 o4 a.toNat b.toNat (f.toNat * 8192) (fun _ => False) w2) := hidR (by
        obtain ⟨ws', l', r'⟩ := R2.out
        refine ⟨ws', some ⟨g4, 0, none⟩, cp4, r', A2, fun x hx => ?_, (Kept.of_below KB.out).trans (K2.mono fun x hx => Or.inl hx), by omega, fun x hx => hx.elim⟩
        rcases inRef_words (o4 := o4) hg4 x hx with z | z
        · exact Or.inl z
        · exact Or.inr (by omega))
      clear FG R2 L2 M2 A2 hg4 K2 RR KB g3
      go_wp2_with fail
      go_loopw [13] (fun i wz => ∃ j : Int, 0 ≤ j ∧ j ≤ t - f + 1 ∧ i = .int .u64 j ∧ Hid (ZI w m S fl ws.length v0 v1 v2 (some ⟨g, 0, none⟩) c3 o4 a.toNat b.toNat ((f + j).toNat * 8192) (fun _ => False) wz)) (fun i _ => (t - f + 1 - intOf i).toNat)
      case atStart => exact ⟨0, by omega, by omega, rfl, by rw [Int.add_zero]; exact Z2⟩
      case round =>
        clear Z2 hjb hj0 hj1 hsz
        obtain ⟨j, hj0, hj1, rfl, HZ⟩ := hrel
        by_cases hjb : j ≤ t - f
        · have hcs : wr.cell? ⟨m, 3, none⟩ = some (.slice (some ⟨g, 0, none⟩) n c3) ∧ wr.cell? ⟨g, ((q : Int) + j).toNat * 3, none⟩ = some (.int .u64 (f + j)) ∧ wr.cell? ⟨g, ((q : Int) + j).toNat * 3 + 1, none⟩ = some (.int .i64 2) ∧ wr.cell? ⟨g, ((q : Int) + j).toNat * 3 + 2, none⟩ = some (.int .u64 (fl (f.toNat + j.toNat) : Int)) := by
            obtain ⟨ws', o4', c4', r', _⟩ := HZ.out
            have h1 := HCW.out wr _ ws' o4' c4' r' j.toNat (by omega)
            have e3 : q + j.toNat = ((q : Int) + j).toNat := by omega
            have e4 : ((f.toNat + j.toNat : Nat) : Int) = f + j := by omega
            rw [e3, e4] at h1
            refine ⟨?_, h1⟩
            rw [HN.out]
            exact r'.h3
          obtain ⟨g3, g0, g1, g2⟩ := hcs
          have HST : Hid (S.st ((f + j).toNat) = 2) := hidR (by have := HAL.out j.toNat (by omega); rw [show f.toNat + j.toNat = (f + j).toNat by omega] at this; exact this)
          obtain ⟨x, hx⟩ : ∃ x, fl (f.toNat + j.toNat) = x := ⟨_, rfl⟩
          rw [hx] at g2
          have HX : Hid (fl ((f + j).toNat) = x) := hidR (by rw [← hx, show f.toNat + j.toNat = (f + j).toNat by omega])
          clear hx
          have ZN := hidR (HZ.out.next ((Below.refl _ wr).alloc (Nat.le_refl _) (.cells #[.int .u64 (f + j), .int .i64 2, .int .u64 (x : Int)] 66)))
          by_cases x0 : x = 0
          · subst x0
            clear HZ
            go_wp2_with fail
            go_roundw
            case rel => exact ⟨j + 1, by omega, by omega, rfl, hidR (ZI.page ZN.out.drop HX.out rfl (by omega))⟩
            case measure => simp [intOf]; omega
          · have dx : ((x : Int) == 0) = false := beq_eq_false_iff_ne.2 (by omega)
            clear HZ
            have ZB : Hid (ZI w m S fl ws.length v0 v1 v2 (some ⟨g, 0, none⟩) c3 o4 a.toNat b.toNat ((f + j) * 8192).toNat (fun x => x = wr.heap.size) (wr.alloc (.cells #[.int .u64 (f + j), .int .i64 2, .int .u64 (x : Int)] 66)) ∧ (wr.alloc (.cells #[.int .u64 (f + j), .int .i64 2, .int .u64 (x : Int)] 66)).cell? ⟨wr.heap.size, 0, none⟩ = some (.int .u64 (f + j))) := hidR (by
              refine ⟨?_, by rw [World.cell?_alloc_new]; rfl⟩
              obtain ⟨ws', o4', c4', r1, r2, r3, r4, r5, r6⟩ := ZN.out
              have e : ((f + j) * 8192).toNat = (f + j).toNat * 8192 := by omega
              rw [e]
              exact ⟨ws', o4', c4', r1, r2, r3, r4, r5, fun y hy => r6 y ⟨by omega, by rw [hy]; simp⟩⟩)
            clear ZN
            go_wp2_with fail
            clear g0 g1 g2 g3
            obtain ⟨WP, hWP⟩ : ∃ WP, WP = wr.alloc (.cells #[.int .u64 (f + j), .int .i64 2, .int .u64 (x : Int)] 66) := ⟨_, rfl⟩
            rw [← hWP] at ZB ⊢
            clear hWP
            obtain ⟨pb, hpb⟩ : ∃ pb, pb = wr.heap.size := ⟨_, rfl⟩
            rw [← hpb] at ZB ⊢
            clear hpb
            go_loopw [15] (fun dv wy => ∃ d : Int, dv = .int .u64 d ∧ (f + j) * 8192 ≤ d ∧ d ≤ (f + j) * 8192 + 8192 ∧ d % 8 = 0 ∧ Hid (ZI w m S fl ws.length v0 v1 v2 (some ⟨g, 0, none⟩) c3 o4 a.toNat b.toNat d.toNat (fun x => x = pb) wy ∧ wy.cell? ⟨pb, 0, none⟩ = some (.int .u64 (f + j)))) (fun dv _ => ((f + j) * 8192 + 8192 - intOf dv).toNat)
            case atStart => exact ⟨(f + j) * 8192, rfl, by omega, by omega, by omega, ZB⟩
            case round =>
              clear ZB
              obtain ⟨d, rfl, hd0, hd1, hd8, HZ⟩ := hrel
              have cpb := HZ.out.2
              have fj : f + j < 34359738368 := by omega
              have fj0 : 0 ≤ f + j := by omega
              by_cases hdl : d < (f + j) * 8192 + 8192
              · by_cases hin : a ≤ d ∧ d < a + b
                · have hi1 := hin.1
                  have hi2 := hin.2
                  have CP := hidR (HZ.out.1.put d rfl (by omega) (by omega) (by omega) (by omega) (by omega) (by omega) hw (by rw [← HN.out]; exact hn) (by rw [show d.toNat / 8192 = (f + j).toNat by omega]; exact HST.out))
                  clear HZ hin
                  go_wp2_with fail
                  go_at_call 25
                  refine CP.out.mono ?_
                  rintro e w5 ⟨rfl, z5, k5⟩
                  have Z5 : Hid (ZI w m S fl ws.length v0 v1 v2 (some ⟨g, 0, none⟩) c3 o4 a.toNat b.toNat (d + 8).toNat (fun x => x = pb) w5 ∧ w5.cell? ⟨pb, 0, none⟩ = some (.int .u64 (f + j))) := hidR ⟨by rw [show (d + 8).toNat = d.toNat + 8 by omega]; exact z5, (k5 pb rfl 0).trans cpb⟩
                  clear CP z5 k5 cpb
                  go_wp2_with fail
                  go_roundw
                  case rel => exact ⟨d + 8, rfl, by omega, by omega, by omega, Z5⟩
                  case measure => simp [intOf]; omega
                · have Z5 : Hid (ZI w m S fl ws.length v0 v1 v2 (some ⟨g, 0, none⟩) c3 o4 a.toNat b.toNat (d + 8).toNat (fun x => x = pb) wr ∧ wr.cell? ⟨pb, 0, none⟩ = some (.int .u64 (f + j))) := hidR ⟨by rw [show (d + 8).toNat = d.toNat + 8 by omega]; exact HZ.out.1.skip (by omega) (by omega), cpb⟩
                  clear HZ
                  by_cases hi1 : a ≤ d
                  · have hi2 : ¬ d < a + b := fun z => hin ⟨hi1, z⟩
                    clear hin
                    go_wp2_with fail
                    go_roundw
                    case rel => exact ⟨d + 8, rfl, by omega, by omega, by omega, Z5⟩
                    case measure => simp [intOf]; omega
                  · clear hin
                    go_wp2_with fail
                    go_roundw
                    case rel => exact ⟨d + 8, rfl, by omega, by omega, by omega, Z5⟩
                    case measure => simp [intOf]; omega
              · have Z6 : Hid (ZI w m S fl ws.length v0 v1 v2 (some ⟨g, 0, none⟩) c3 o4 a.toNat b.toNat ((f + (j + 1)).toNat * 8192) (fun _ => False) wr) := hidR (by
                  have := HZ.out.1.drop
                  rw [show d.toNat = (f + (j + 1)).toNat * 8192 by omega] at this
                  exact this)
                clear HZ
                go_wp2_with fail
                go_roundw
                case rel => exact ⟨j + 1, by omega, by omega, rfl, Z6⟩
                case measure => simp [intOf]; omega
        · have ZE : Hid (ZI w m S fl ws.length v0 v1 v2 (some ⟨g, 0, none⟩) c3 o4 a.toNat b.toNat ((f + j).toNat * 8192) (fun _ => False) wr) := HZ
          clear HZ
          go_wp2_with fail
          go_ret
          obtain ⟨ws', o4', c4', r1, r2, r3, r4, r5, _⟩ := ZE.out
          have hD : a.toNat + b.toNat ≤ (f + j).toNat * 8192 := by have := HT.out; omega
          exact ⟨rfl, ws', o4', c4', r1.zend hD, r2, r3, r4, by unfold cov at r5; omega⟩
end Go.Proofs.Ytlfcnaalkjpgnaa

/- The reference of chapter 3: Zero, where nothing is cleared. -/
namespace Go.Proofs.Ytlfcnaalkjpgnaa
open Go.ChangeShapes Go.WideShapes Go.ChangeAt Go.RowKit Go.Proofs.Sp
set_option linter.unusedVariables false
set_option linter.unusedSimpArgs false

variable {w : World} {m : Nat} {S : Sp} {fl : Nat → Nat} {ws : List (Nat × Nat)} {v0 v1 v2 : Value} {o3 : Option Addr} {c3 : Nat} {o4 : Option Addr} {c4 : Nat}
set_option maxRecDepth 100000 in
theorem zero_faults (h : RefC w m S fl ws v0 v1 v2 o3 c3 o4 c4) (hm : m < w.heap.size) (hb3 : ∀ b, o3.map Addr.block = some b → b < w.heap.size) (a b : Int) (ha : 0 ≤ a) (hb : 0 < b) (ha8 : a % 8 = 0) (hb8 : b % 8 = 0) (hab : a + b ≤ 281474976710656) (hn : S.pgs.length ≤ 1099511627776)
    (hno' : ¬ ∀ i, i < ((a + b - 1) / 8192 - a / 8192 + 1).toNat → S.st ((a / 8192).toNat + i) = 2) :
    Calls Try.prog 27 #[.pointer (some ⟨m, 0, none⟩), .int .u64 a, .int .u64 b] w fun e w' => e = .returned (.int .i64 12) ∧ Below w.heap.size w w' := by
  obtain ⟨f, hf⟩ : ∃ f : Int, a / 8192 = f := ⟨_, rfl⟩
  obtain ⟨t, ht⟩ : ∃ t : Int, (a + b - 1) / 8192 = t := ⟨_, rfl⟩
  rw [hf, ht] at hno'
  have f0 : 0 ≤ f := by omega
  have ft : f ≤ t := by omega
  have t0 : t < 34359738368 := by omega
  have hno : ¬ ∀ i, i < (t - f + 1).toNat → S.st (f.toNat + i) = 2 := hno'
  have cf := h.find f f0 hn
  have h3 := h.h3
  have pp := pos_le S.pgs f.toNat
  have y0 : (a % 8 != 0) = false := by rw [ha8]; rfl
  have y1 : (b % 8 != 0) = false := by rw [hb8]; rfl
  have y2 : (b == 0) = false := beq_eq_false_iff_ne.2 (by omega)
  have y3 : ¬ 281474976710656 ≤ a := by omega
  have y4 : ¬ 281474976710656 - a < b := by omega
  have HF := hidR hf
  have HT := hidR ht
  clear hf ht hno'
  by_cases hlen : t - f < S.pgs.length - pos S.pgs f.toNat
  · obtain ⟨bb, off, rfl, hc⟩ := h.page (by omega)
    have rows := fun i hh hi => row_get h.wf.rising f.toNat i hh hi
    have mem := h.wf.mem
    have hbb : bb < w.heap.size := hb3 bb rfl
    have HC : Hid _ := hc
    have HR : Hid _ := rows
    have HM : Hid _ := mem
    have HNO : Hid _ := hno
    have HL : Hid _ := h.wf.le3
    have HB : Hid _ := h.wf.below
    obtain ⟨q, hq⟩ : ∃ q, q = pos S.pgs f.toNat := ⟨_, rfl⟩
    obtain ⟨n, hnn⟩ : ∃ n, n = S.pgs.length := ⟨_, rfl⟩
    rw [← hq] at cf hlen pp
    rw [← hnn] at hlen h3 hn pp
    have HQ : Hid _ := hq
    have HN : Hid _ := hnn
    generalize decide (f.toNat ∈ S.pgs) = d at cf
    have CF := hidR cf
    clear hc rows mem hno hq hnn h cf
    have hmm := hm
    go_enter Try.func27, Try.ntmps27
    go_wp2_with fail
    simp only [HF.out, HT.out]
    refine CF.out.mono ?_
    rintro e W ⟨rfl, k, hW⟩
    have BW : Below w.heap.size w W := by rw [hW]; exact ⟨rfl, rfl, rfl, Nat.le_refl _, fun _ _ => rfl⟩
    have gg3 := (BW.cell (p := ⟨m, 3, none⟩) hm).trans h3
    clear hW CF
    go_wp2_with fail
    go_loopw [11] (fun i wr => ∃ j : Int, 0 ≤ j ∧ j ≤ t - f + 1 ∧ i = .int .u64 j ∧ Below w.heap.size w wr ∧ Hid (∀ k : Nat, (k : Int) < j → f.toNat + k ∈ S.pgs ∧ S.st (f.toNat + k) = 2)) (fun i _ => (t - f + 1 - intOf i).toNat)
    case atStart => exact ⟨0, by omega, by omega, rfl, BW, fun k hk => absurd hk (by omega)⟩
    case round =>
      clear gg3 BW
      obtain ⟨j, hj0, hj1, rfl, hbel, hgood⟩ := hrel
      by_cases hjb : j ≤ t - f
      · have hidx : q + j.toNat < S.pgs.length := by rw [← HN.out]; omega
        have hcs := HC.out (q + j.toNat) hidx
        have hrow := HR.out j.toNat (fun k hk => (hgood.out k (by omega)).1) (by rw [← HQ.out]; exact hidx)
        have hyb := HB.out _ (List.getElem_mem hidx)
        have hyl := HL.out S.pgs[q + j.toNat]
        have hy : S.pgs[q + j.toNat] = f.toNat + j.toNat ↔ f.toNat + j.toNat ∈ S.pgs := by simp only [HQ.out]; exact hrow
        obtain ⟨y, hye⟩ : ∃ y, y = S.pgs[q + j.toNat] := ⟨_, rfl⟩
        rw [← hye] at hcs hyb hyl hy
        obtain ⟨s, hse⟩ : ∃ s, s = S.st y := ⟨_, rfl⟩
        rw [← hse] at hcs hyl
        have e3 : q + j.toNat = ((q : Int) + j).toNat := by omega
        rw [e3] at hcs
        have g0 := (hbel.cell (p := ⟨bb, off + ((q : Int) + j).toNat * 3, none⟩) hbb).trans hcs.1
        have g1 := (hbel.cell (p := ⟨bb, off + ((q : Int) + j).toNat * 3 + 1, none⟩) hbb).trans hcs.2.1
        have g2 := (hbel.cell (p := ⟨bb, off + ((q : Int) + j).toNat * 3 + 2, none⟩) hbb).trans hcs.2.2
        have g3 := (hbel.cell (p := ⟨m, 3, none⟩) hm).trans h3
        have HY : Hid _ := hy
        have HYE : Hid _ := hye
        have HSE : Hid _ := hse
        have hsz := hbel.size
        clear hcs hrow hy hye hse e3
        by_cases hyy : (y : Int) = f + j
        · have hyn : ((y : Int) != f + j) = false := by simpa using hyy
          have HYY : Hid _ := hyy
          clear hyy
          by_cases hs2 : (s : Int) = 2
          · have hsn : ((s : Int) != 2) = false := by simpa using hs2
            have HS2 : Hid _ := hs2
            clear hs2
            go_wp2_with fail
            go_roundw
            case rel => exact ⟨j + 1, by omega, by omega, rfl, hbel.alloc hsz _, fun k hk => by
              by_cases e : (k : Int) = j
              · have ey : y = f.toNat + k := by have := HYY.out; omega
                have hmem : f.toNat + k ∈ S.pgs := by rw [← ey, HYE.out]; exact List.getElem_mem _
                exact ⟨hmem, by rw [← ey, ← HSE.out]; have := HS2.out; omega⟩
              · exact hgood.out k (by omega)⟩
            case measure => simp [intOf]; omega
          · have hsn : ((s : Int) != 2) = true := by simpa using hs2
            clear hs2
            go_wp2_with fail
            go_ret
            exact ⟨rfl, hbel.alloc hsz _⟩
        · have hyn : ((y : Int) != f + j) = true := by simpa using hyy
          clear hyy
          go_wp2_with fail
          go_ret
          exact ⟨rfl, hbel.alloc hsz _⟩
      · exact absurd (fun i hi => (hgood.out i (by omega)).2) HNO.out
  · have hlen' : (S.pgs.length : Int) - pos S.pgs f.toNat ≤ t - f := by omega
    obtain ⟨q, hq⟩ : ∃ q, q = pos S.pgs f.toNat := ⟨_, rfl⟩
    obtain ⟨n, hnn⟩ : ∃ n, n = S.pgs.length := ⟨_, rfl⟩
    rw [← hq] at cf hlen' pp
    rw [← hnn] at hlen' h3 hn pp
    generalize decide (f.toNat ∈ S.pgs) = d at cf
    have CF := hidR cf
    clear hno hq hnn h hlen cf
    go_enter Try.func27, Try.ntmps27
    go_wp2_with fail
    simp only [HF.out, HT.out]
    refine CF.out.mono ?_
    rintro e W ⟨rfl, k, hW⟩
    have BW : Below w.heap.size w W := by rw [hW]; exact ⟨rfl, rfl, rfl, Nat.le_refl _, fun _ _ => rfl⟩
    have gg3 := (BW.cell (p := ⟨m, 3, none⟩) hm).trans h3
    clear hW CF
    go_wp2_with fail
    go_ret
    exact ⟨rfl, BW⟩
end Go.Proofs.Ytlfcnaalkjpgnaa
