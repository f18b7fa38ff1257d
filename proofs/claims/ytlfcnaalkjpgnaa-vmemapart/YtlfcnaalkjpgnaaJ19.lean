/- J19 of the proof of both laws: texts RefF, RefG, RefH, one behind the other. -/
import Derived.Test.YtlfcnaalkjpgnaaJ18
/- The reference of chapter 3: Release. -/
namespace Go.Proofs.Ytlfcnaalkjpgnaa
open Go.ChangeShapes Go.WideShapes Go.ChangeAt Go.RowKit Go.Proofs.Sp

theorem pos_succ {l : List Nat} (hs : l.Pairwise (· < ·)) {x : Nat} (h : x ∈ l) : pos l (x + 1) = pos l x + 1 := by
  obtain ⟨hp, hg⟩ := pos_get hs x h
  refine pos_at l (x + 1) (pos l x + 1) (by omega) (fun i hi hlt => ?_) (fun i hi hge => ?_)
  · by_cases c : i = pos l x
    · subst c; omega
    · have := (pos_lt hs x i hi).1 (by omega); omega
  · have := List.pairwise_iff_getElem.1 hs (pos l x) i hp hi (by omega)
    omega
theorem pos_row {l : List Nat} (hs : l.Pairwise (· < ·)) (a i : Nat) (h : ∀ j, j < i → a + j ∈ l) : pos l (a + i) = pos l a + i := by
  induction i with
  | zero => rfl
  | succ i ih =>
    have := pos_succ hs (h i (by omega))
    rw [show a + (i + 1) = a + i + 1 by omega, this, ih fun j hj => h j (by omega)]
    omega
/-- The i-th behind the place of a: a + i itself, if it is there, where all ahead of it are. -/
theorem row_get {l : List Nat} (hs : l.Pairwise (· < ·)) (a i : Nat) (h : ∀ j, j < i → a + j ∈ l) (hi : pos l a + i < l.length) : (l[pos l a + i] = a + i ↔ a + i ∈ l) := by
  have e := pos_row hs a i h
  constructor
  · intro h; rw [← h]; exact List.getElem_mem hi
  · intro hm
    obtain ⟨hp, hg⟩ := pos_get hs _ hm
    simp only [e] at hg
    exact hg
theorem row_len {l : List Nat} (hs : l.Pairwise (· < ·)) (a n : Nat) (h : ∀ j, j < n → a + j ∈ l) : pos l a + n ≤ l.length := by
  rw [← pos_row hs a n h]; exact pos_le l _

variable {w : World} {m : Nat} {S : Sp} {fl : Nat → Nat} {ws : List (Nat × Nat)} {v0 v1 v2 : Value} {o3 : Option Addr} {c3 : Nat} {o4 : Option Addr} {c4 : Nat}
set_option maxRecDepth 100000 in
theorem release_fails (h : RefC w m S fl ws v0 v1 v2 o3 c3 o4 c4) (hm : m < w.heap.size) (hb3 : ∀ b, o3.map Addr.block = some b → b < w.heap.size) (a b : Int) (ha : 0 ≤ a ∧ a ≤ 18446744073709551615) (hb : 0 ≤ b ∧ b ≤ 18446744073709551615) (hn : S.pgs.length ≤ 1099511627776)
    (hbad : (releaseS S a.toNat b.toNat).1 ≠ 0) :
    Calls Try.prog 21 #[.pointer (some ⟨m, 0, none⟩), .int .u64 a, .int .u64 b] w fun e w' => e = .returned (.int .i64 ((releaseS S a.toNat b.toNat).1 : Nat)) ∧ Below w.heap.size w w' := by
  have cr := fun w => right_any a b ha hb w
  by_cases hr : Sp.right a.toNat b.toNat
  · rw [decide_eq_true hr] at cr
    have hno : ¬ ∀ i, i < b.toNat → S.st (a.toNat + i) = 2 := by
      intro hh; exact hbad (by rw [release_ok hr hh])
    have hv : (releaseS S a.toNat b.toNat).1 = 33 := by unfold releaseS; rw [if_neg (Classical.not_not.2 hr), if_pos hno]
    rw [hv]
    have cf := h.find a ha.1 hn
    have h3 := h.h3
    have hr' := hr
    unfold Sp.right at hr'
    have pp := pos_le S.pgs a.toNat
    by_cases hlen : b ≤ S.pgs.length - pos S.pgs a.toNat
    · -- the loop finds the first that is not as it must be
      obtain ⟨bb, off, rfl, hc⟩ := h.page (by omega)
      have rows := fun i hh hi => row_get h.wf.rising a.toNat i hh hi
      have mem := h.wf.mem
      have hbb : bb < w.heap.size := hb3 bb rfl
      have HC : Hid _ := hc
      have HR : Hid _ := rows
      have HM : Hid _ := mem
      have HNO : Hid _ := hno
      have HL : Hid _ := h.wf.le3
      have HB : Hid _ := h.wf.below
      obtain ⟨q, hq⟩ : ∃ q, q = pos S.pgs a.toNat := ⟨_, rfl⟩
      obtain ⟨n, hnn⟩ : ∃ n, n = S.pgs.length := ⟨_, rfl⟩
      rw [← hq] at cf hlen pp
      rw [← hnn] at hlen h3 hn pp
      have HQ : Hid _ := hq
      have HN : Hid _ := hnn
      generalize decide (a.toNat ∈ S.pgs) = d at cf
      clear hc rows mem hno hv hbad hq hnn h hr
      have hmm := hm
      go_enter Try.func21, Try.ntmps21
      go_wp2_with (first
        | (go_at_call 36; refine (cr _).mono ?_; rintro e w' ⟨rfl, hw'⟩; rw [hw']; clear hw' w')
        | (go_at_call 39; refine cf.mono ?_; rintro e w' ⟨rfl, k, rfl⟩))
      go_loopw [9] (fun i wr => ∃ j : Int, 0 ≤ j ∧ j ≤ b ∧ i = .int .u64 j ∧ Below w.heap.size w wr ∧ Hid (∀ k : Nat, (k : Int) < j → a.toNat + k ∈ S.pgs ∧ S.st (a.toNat + k) = 2)) (fun i _ => (b - intOf i).toNat)
      case atStart => exact ⟨0, by omega, by omega, rfl, ⟨rfl, rfl, rfl, Nat.le_refl _, fun _ _ => rfl⟩, fun k hk => absurd hk (by omega)⟩
      case round =>
        obtain ⟨j, hj0, hj1, rfl, hbel, hgood⟩ := hrel
        by_cases hjb : j < b
        · have hidx : q + j.toNat < S.pgs.length := by rw [← HN.out]; omega
          have hcs := HC.out (q + j.toNat) hidx
          have hrow := HR.out j.toNat (fun k hk => (hgood.out k (by omega)).1) (by rw [← HQ.out]; exact hidx)
          have hyb := HB.out _ (List.getElem_mem hidx)
          have hyl := HL.out S.pgs[q + j.toNat]
          have hy : S.pgs[q + j.toNat] = a.toNat + j.toNat ↔ a.toNat + j.toNat ∈ S.pgs := by simp only [HQ.out]; exact hrow
          obtain ⟨y, hye⟩ : ∃ y, y = S.pgs[q + j.toNat] := ⟨_, rfl⟩
          rw [← hye] at hcs hyb hyl hy
          obtain ⟨s, hse⟩ : ∃ s, s = S.st y := ⟨_, rfl⟩
          rw [← hse] at hcs hyl
          have e3 : q + j.toNat = ((q : Int) + j).toNat := by omega
          rw [e3] at hcs
          have g0 := (hbel.cell (p := ⟨bb, off + ((q : Int) + j).toNat * 3, none⟩) hbb).trans hcs.1
          have g1 := (hbel.cell (p := ⟨bb, off + ((q : Int) + j).toNat * 3 + 1, none⟩) hbb).trans hcs.2.1
          have g2 := (hbel.cell (p := ⟨bb, off + ((q : Int) + j).toNat * 3 + 2, none⟩) hbb).trans hcs.2.2
          have g3 := (hbel.cell (p := ⟨m, 3, none⟩) hm).trans h3
          have HY : Hid _ := hy
          have HYE : Hid _ := hye
          have HSE : Hid _ := hse
          have hsz := hbel.size
          clear hcs hrow hy hye hse e3
          by_cases hyy : (y : Int) = a + j
          · have hyn : ((y : Int) != a + j) = false := by simpa using hyy
            have HYY : Hid _ := hyy
            clear hyy
            by_cases hs2 : (s : Int) = 2
            · have hsn : ((s : Int) != 2) = false := by simpa using hs2
              have HS2 : Hid _ := hs2
              clear hs2
              go_wp2_with fail
              go_roundw
              case rel => exact ⟨j + 1, by omega, by omega, rfl, hbel.alloc hsz _, fun k hk => by
                by_cases e : (k : Int) = j
                · have ey : y = a.toNat + k := by have := HYY.out; omega
                  have hmem : a.toNat + k ∈ S.pgs := by rw [← ey, HYE.out]; exact List.getElem_mem _
                  exact ⟨hmem, by rw [← ey, ← HSE.out]; have := HS2.out; omega⟩
                · exact hgood.out k (by omega)⟩
              case measure => simp [intOf]; omega
            · have hsn : ((s : Int) != 2) = true := by simpa using hs2
              clear hs2
              go_wp2_with fail
              go_ret
              exact ⟨rfl, hbel.alloc hsz _⟩
          · have hyn : ((y : Int) != a + j) = true := by simpa using hyy
            clear hyy
            go_wp2_with fail
            go_ret
            exact ⟨rfl, hbel.alloc hsz _⟩
        · exact absurd (fun i hi => (hgood.out i (by omega)).2) HNO.out
    · have hlen' : S.pgs.length - pos S.pgs a.toNat < b := by omega
      obtain ⟨q, hq⟩ : ∃ q, q = pos S.pgs a.toNat := ⟨_, rfl⟩
      obtain ⟨n, hnn⟩ : ∃ n, n = S.pgs.length := ⟨_, rfl⟩
      rw [← hq] at cf hlen' pp
      rw [← hnn] at hlen' h3 hn pp
      generalize decide (a.toNat ∈ S.pgs) = d at cf
      clear hno hv hbad hq hnn h hr hlen
      go_enter Try.func21, Try.ntmps21
      go_wp2_with (first
        | (go_at_call 36; refine (cr _).mono ?_; rintro e w' ⟨rfl, hw'⟩; rw [hw']; clear hw' w')
        | (go_at_call 39; refine cf.mono ?_; rintro e w' ⟨rfl, k, rfl⟩))
      go_ret
      exact ⟨rfl, ⟨rfl, rfl, rfl, Nat.le_refl _, fun _ _ => rfl⟩⟩
  · rw [decide_eq_false hr] at cr
    have hv : (releaseS S a.toNat b.toNat).1 = 1 := by unfold releaseS; rw [if_pos hr]
    rw [hv]
    clear hv hr h hbad
    go_enter Try.func21, Try.ntmps21
    go_wp2_with (go_at_call 36; refine (cr _).mono ?_; rintro e w' ⟨rfl, hw'⟩; rw [hw']; clear hw' w')
    go_ret
    exact ⟨rfl, Below.refl _ _⟩
end Go.Proofs.Ytlfcnaalkjpgnaa

/- The reference of chapter 3: Release where all is as it must be. -/
namespace Go.Proofs.Ytlfcnaalkjpgnaa
open Go.ChangeShapes Go.WideShapes Go.ChangeAt Go.RowKit Go.Proofs.Sp

theorem flat_set (l : List Pg) (i : Nat) (t : Pg) (hi : i < l.length) :
    (((l.flatMap pc).set (i * 3) (.int .u64 (t.1 : Int))).set (i * 3 + 1) (.int .i64 (t.2.1 : Int))).set (i * 3 + 2) (.int .u64 (t.2.2 : Int)) = (l.set i t).flatMap pc := by
  have L := flat_length 3 pc (fun _ => rfl) l
  have L' := flat_length 3 pc (fun _ => rfl) (l.set i t)
  rw [List.length_set] at L'
  apply List.ext_getElem?
  intro k
  by_cases hk : k < l.length * 3
  · have hd : k / 3 < l.length := by omega
    have e : k = k / 3 * 3 + k % 3 := by omega
    have hr : k % 3 < 3 := by omega
    have g := flat_get 3 pc (fun _ => rfl) l (k / 3) (k % 3) hd hr
    have g' := flat_get 3 pc (fun _ => rfl) (l.set i t) (k / 3) (k % 3) (by rw [List.length_set]; exact hd) hr
    rw [← e] at g g'
    rw [g']
    by_cases c : k / 3 = i
    · have ce : (l.set i t)[k / 3]'(by rw [List.length_set]; exact hd) = t := by simp [c]
      rw [ce]
      rcases (by omega : k % 3 = 0 ∨ k % 3 = 1 ∨ k % 3 = 2) with r | r | r
      · have : k = i * 3 := by omega
        subst this
        rw [r, List.getElem?_set_ne (by omega), List.getElem?_set_ne (by omega), List.getElem?_set_self (by omega)]; rfl
      · have : k = i * 3 + 1 := by omega
        subst this
        rw [r, List.getElem?_set_ne (by omega), List.getElem?_set_self (by rw [List.length_set]; omega)]; rfl
      · have : k = i * 3 + 2 := by omega
        subst this
        rw [r, List.getElem?_set_self (by rw [List.length_set, List.length_set]; omega)]; rfl
    · have ce : (l.set i t)[k / 3]'(by rw [List.length_set]; exact hd) = l[k / 3] := by rw [List.getElem_set_ne (by omega)]
      rw [ce, List.getElem?_set_ne (by omega), List.getElem?_set_ne (by omega), List.getElem?_set_ne (by omega), g]
  · rw [List.getElem?_eq_none (by rw [List.length_set, List.length_set, List.length_set]; omega), List.getElem?_eq_none (by omega)]
/-- Row by row the pages are other ones. -/
def upd (ps : List Pg) (q : Nat) (f : Nat → Pg) : Nat → List Pg
  | 0 => ps
  | j + 1 => (upd ps q f j).set (q + j) (f j)
theorem upd_length (ps : List Pg) (q : Nat) (f : Nat → Pg) (j : Nat) : (upd ps q f j).length = ps.length := by
  induction j with
  | zero => rfl
  | succ j ih => show ((upd ps q f j).set _ _).length = _; rw [List.length_set, ih]
theorem upd_get (ps : List Pg) (q : Nat) (f : Nat → Pg) (j k : Nat) (hk : k < ps.length) : (upd ps q f j)[k]? = some (if q ≤ k ∧ k < q + j then f (k - q) else ps[k]) := by
  induction j with
  | zero => rw [if_neg (by omega)]; show ps[k]? = _; exact List.getElem?_eq_getElem hk
  | succ j ih =>
    show ((upd ps q f j).set (q + j) (f j))[k]? = _
    by_cases c : k = q + j
    · subst c; rw [List.getElem?_set_self (by rw [upd_length]; exact hk), if_pos (by omega), show q + j - q = j by omega]
    · rw [List.getElem?_set_ne (by omega), ih]
      by_cases d : q ≤ k ∧ k < q + j
      · rw [if_pos d, if_pos (by omega)]
      · rw [if_neg d, if_neg (by omega)]
/-- Three cells of one element are written. -/
theorem owns_set3 {w : World} {g n cap : Nat} {ps : List Pg} (h : w.ownsRow 0 66 3 (.slice (some ⟨g, 0, none⟩) n cap) n (ps.flatMap pc)) (i : Nat) (t : Pg) (hi : i < ps.length) :
    (((w.setCell ⟨g, i * 3, none⟩ (.int .u64 (t.1 : Int))).setCell ⟨g, i * 3 + 1, none⟩ (.int .i64 (t.2.1 : Int))).setCell ⟨g, i * 3 + 2, none⟩ (.int .u64 (t.2.2 : Int))).ownsRow 0 66 3 (.slice (some ⟨g, 0, none⟩) n cap) n ((ps.set i t).flatMap pc) := by
  have a := (h.stored (i * 3) (.int .u64 (t.1 : Int))).1
  have b := (a.stored (i * 3 + 1) (.int .i64 (t.2.1 : Int))).1
  have c := (b.stored (i * 3 + 2) (.int .u64 (t.2.2 : Int))).1
  rw [flat_set ps i t hi] at c
  exact c
theorem kept_set3 (w : World) (g i j k : Nat) (x y z : Value) : Kept (fun b => b = g) w (((w.setCell ⟨g, i, none⟩ x).setCell ⟨g, j, none⟩ y).setCell ⟨g, k, none⟩ z) :=
  ⟨rfl, rfl, rfl, by simp [World.setCell], fun b _ hb => by rw [Below.heap_setCell _ _ _ _ hb, Below.heap_setCell _ _ _ _ hb, Below.heap_setCell _ _ _ _ hb]⟩
theorem Kept.trans {F : Nat → Prop} {a b c : World} (h : Kept F a b) (k : Kept F b c) : Kept F a c :=
  ⟨k.os.trans h.os, k.tape.trans h.tape, k.output.trans h.output, Nat.le_trans h.size k.size, fun x hx hf => (k.block x (Nat.lt_of_lt_of_le hx h.size) hf).trans (h.block x hx hf)⟩
theorem Kept.of_below {F : Nat → Prop} {w w' : World} (h : Below w.heap.size w w') : Kept F w w' := ⟨h.os, h.tape, h.output, h.size, fun b hb _ => h.block b hb⟩
theorem Kept.mono {F G : Nat → Prop} {a b : World} (h : Kept F a b) (hg : ∀ x, F x → G x) : Kept G a b := ⟨h.os, h.tape, h.output, h.size, fun x hx hf => h.block x hx fun hh => hf (hg x hh)⟩
variable {w : World} {m : Nat} {S : Sp} {fl : Nat → Nat} {pl : List Nat} {re : List Bool} {fi : List Nat} {ps : List Pg} {ws : List (Nat × Nat)} {v0 v1 v2 : Value} {o3 : Option Addr} {c3 : Nat} {o4 : Option Addr} {c4 : Nat}
theorem RefM.drewN (h : RefM w m pl re fi ps ws v0 v1 v2 o3 c3 o4 c4) (k : Nat) : RefM (w.drewN k) m pl re fi ps ws v0 v1 v2 o3 c3 o4 c4 :=
  ⟨h.frozen, h.h0, h.h1, h.h2, h.h3, h.h4, h.r0, h.r1, h.r2, h.own3, h.own4⟩
theorem RefM.wordAt (h : RefM w m pl re fi ps ws v0 v1 v2 o3 c3 o4 c4) (hr : (addrs ws).Pairwise (· < ·)) (x : Int) (hx : 0 ≤ x) (hn : ws.length ≤ 1099511627776) :
    Calls Try.prog 51 #[.pointer (some ⟨m, 0, none⟩), .int .u64 x] w fun e w' => e = .returned (.tuple #[.int .i64 (pos (addrs ws) x.toNat : Nat), .bool (decide (x.toNat ∈ addrs ws))]) ∧ ∃ k, w' = w.drewN k :=
  word_core m o4 (addrs ws) c4 x hx w (by rw [addrs_length]; exact hn) (by rw [addrs_length]; exact h.h4) (fun h0 => by
    rw [addrs_length] at h0
    have own := h.own4
    obtain ⟨hl, hh | ⟨g, cap, cur, hv, _⟩⟩ := h.own4
    · omega
    · have ho : o4 = some ⟨g, 0, none⟩ := by injection hv
      subst ho
      refine ⟨g, 0, rfl, fun i hi => ?_⟩
      have hi' : i < ws.length := by rw [addrs_length] at hi; exact hi
      have a := own.cellAt (i * 2 + 0) (by omega)
      have b := flat_get 2 wcell (fun _ => rfl) ws i 0 hi' (by decide)
      rw [addrs_get ws i hi', show 0 + i * 2 = i * 2 + 0 by omega]
      exact a.trans b) hr
theorem RefM.forget (h : RefM w m pl re fi ps ws v0 v1 v2 o3 c3 o4 c4) (ap : Apart m v0 v1 v2 o3 o4) (hb : ∀ b, inRef m v0 v1 v2 o3 o4 b → b < w.heap.size) (hr : (addrs ws).Pairwise (· < ·)) (x y : Int) (hx : 0 ≤ x) (hy : 0 ≤ y) (hxy : x + y ≤ 281474976710656) (hn : ws.length ≤ 1099511627776) :
    Calls Try.prog 46 #[.pointer (some ⟨m, 0, none⟩), .int .u64 x, .int .u64 y] w fun e w' => e = .returned (.tuple #[]) ∧ ∃ g cp, RefM w' m pl re fi ps (ws.take (pos (addrs ws) x.toNat) ++ ws.drop (pos (addrs ws) (x + y).toNat)) v0 v1 v2 o3 c3 (some ⟨g, 0, none⟩) cp ∧
      Apart m v0 v1 v2 o3 (some ⟨g, 0, none⟩) ∧ w.heap.size ≤ g ∧ Kept (fun b => b = m) w w' := by
  have hm : m < w.heap.size := hb m (Or.inl rfl)
  have c1 := fun k => (h.drewN k).wordAt hr x hx hn
  have c2 := fun k => (h.drewN k).wordAt hr (x + y) (by omega) hn
  have l1 := pos_le (addrs ws) x.toNat
  have l2 := pos_le (addrs ws) (x + y).toNat
  rw [addrs_length] at l1 l2
  have mono : pos (addrs ws) x.toNat ≤ pos (addrs ws) (x + y).toNat := by
    unfold pos
    refine List.countP_mono_left fun z _ hz => ?_
    simp only [decide_eq_true_eq] at *
    omega
  have hlen : (ws.take (pos (addrs ws) x.toNat) ++ ws.drop (pos (addrs ws) (x + y).toNat)).length = pos (addrs ws) x.toNat + (ws.length - pos (addrs ws) (x + y).toNat) := by
    rw [List.length_append, List.length_take, List.length_drop, Nat.min_eq_left l1]
  obtain ⟨_, hh | ⟨g, cap, cur, hv, hg0, hheap, hnc, hmax, _⟩⟩ := h.own4
  · have ho : o4 = none := by injection hh.1
    have hc : c4 = 0 := by injection hh.1
    have hz : ws = [] := List.eq_nil_of_length_eq_zero hh.2
    subst ho hc hz
    refine (forget_nil x y hx hy hxy _ _ c1 c2 h.h4 (h.frozen 4 (by decide)) hm).mono fun e w' ⟨g, cp, w1, he, hw, hown, hbel⟩ => ⟨he, g, cp, ?_⟩
    have := h.newWords ap hm hb (ws' := []) hbel hown
    rw [hw]
    exact this
  · have ho : o4 = some ⟨g, 0, none⟩ := by injection hv
    have hc : c4 = cap := by injection hv
    subst ho hc
    refine (forget_walk g ws.length c4 _ _ ws x y hx hy hxy rfl mono l2 hn hnc _ _ c1 c2 h.h4 (h.frozen 4 (by decide)) hm h.own4).mono fun e w' ⟨g2, cp, w1, he, hw, hown, hbel⟩ => ⟨he, g2, cp, ?_⟩
    rw [← hlen] at hown hw
    have := h.newWords ap hm hb hbel hown
    rw [hw]
    exact this
end Go.Proofs.Ytlfcnaalkjpgnaa

/- The reference of chapter 3: Release, whole. -/
namespace Go.Proofs.Ytlfcnaalkjpgnaa
open Go.ChangeShapes Go.WideShapes Go.ChangeAt Go.RowKit Go.Proofs.Sp

variable {w : World} {m : Nat} {S : Sp} {fl : Nat → Nat} {pl : List Nat} {re : List Bool} {fi : List Nat} {ps : List Pg} {ws : List (Nat × Nat)} {v0 v1 v2 : Value} {o3 : Option Addr} {c3 : Nat} {o4 : Option Addr} {c4 : Nat}
/-- Its pages are other ones now, in the same block; nothing else has turned. -/
theorem RefM.newPages {w' : World} {g : Nat} (h : RefM w m pl re fi ps ws v0 v1 v2 (some ⟨g, 0, none⟩) c3 o4 c4) (ap : Apart m v0 v1 v2 (some ⟨g, 0, none⟩) o4) (hb : ∀ b, inRef m v0 v1 v2 (some ⟨g, 0, none⟩) o4 b → b < w.heap.size)
    (hk : Kept (fun b => b = g) w w') {ps' : List Pg} (hl : ps'.length = ps.length) (own : w'.ownsRow 0 66 3 (.slice (some ⟨g, 0, none⟩) ps'.length c3) ps'.length (ps'.flatMap pc)) :
    RefM w' m pl re fi ps' ws v0 v1 v2 (some ⟨g, 0, none⟩) c3 o4 c4 := by
  have nm : ∀ b, b ≠ g → inRef m v0 v1 v2 (some ⟨g, 0, none⟩) o4 b → w'.heap[b]? = w.heap[b]? := fun b h1 h2 => hk.block b (hb b h2) h1
  have hgm : m ≠ g := fun e => ap.m3 (by rw [e]; rfl)
  have hm := nm m hgm (Or.inl rfl)
  obtain ⟨a0, a1, a2, a4⟩ := ap.p g rfl
  refine ⟨fun k hk => (frozen_kept hm).trans (h.frozen k hk), (cell_kept hm).trans h.h0, (cell_kept hm).trans h.h1, (cell_kept hm).trans h.h2, by rw [hl]; exact (cell_kept hm).trans h.h3, (cell_kept hm).trans h.h4,
    h.r0.kept hk.size fun b e => nm b ?_ (Or.inr (Or.inl e)), h.r1.kept hk.size fun b e => nm b ?_ (Or.inr (Or.inr (Or.inl e))), h.r2.kept hk.size fun b e => nm b ?_ (Or.inr (Or.inr (Or.inr (Or.inl e)))), own, owns_kept h.own4 fun b e => nm b ?_ ?_⟩
  · rintro rfl; exact a0 e
  · rintro rfl; exact a1 e
  · rintro rfl; exact a2 e
  · rintro rfl; rw [own_slice] at e; exact a4 e
  · rw [own_slice] at e; exact Or.inr (Or.inr (Or.inr (Or.inr (Or.inr e))))

set_option maxRecDepth 100000 in
theorem release_good (g : Nat) (h : RefC w m S fl ws v0 v1 v2 (some ⟨g, 0, none⟩) c3 o4 c4) (ap : Apart m v0 v1 v2 (some ⟨g, 0, none⟩) o4) (hblk : ∀ b, inRef m v0 v1 v2 (some ⟨g, 0, none⟩) o4 b → b < w.heap.size) (a b : Int) (ha : 0 ≤ a ∧ a ≤ 18446744073709551615) (hb : 0 ≤ b ∧ b ≤ 18446744073709551615) (hn : S.pgs.length ≤ 1099511627776) (hw : ws.length ≤ 1099511627776)
    (hr : Sp.right a.toNat b.toNat) (hall : ∀ i, i < b.toNat → S.st (a.toNat + i) = 2) :
    Calls Try.prog 21 #[.pointer (some ⟨m, 0, none⟩), .int .u64 a, .int .u64 b] w fun e w' => e = .returned (.int .i64 0) ∧ ∃ g4 cp, RefM w' m S.places S.refuse S.fills (upd (pageL S fl) (pos S.pgs a.toNat) (fun j => (a.toNat + j, 3, 0)) b.toNat)
        (ws.take (pos (addrs ws) (a.toNat * 8192)) ++ ws.drop (pos (addrs ws) (a.toNat * 8192 + b.toNat * 8192))) v0 v1 v2 (some ⟨g, 0, none⟩) c3 (some ⟨g4, 0, none⟩) cp ∧ Apart m v0 v1 v2 (some ⟨g, 0, none⟩) (some ⟨g4, 0, none⟩) ∧ w.heap.size ≤ g4 ∧ Kept (fun x => x = m ∨ x = g) w w' := by
  have cr := fun w => right_any a b ha hb w
  rw [decide_eq_true hr] at cr
  have cf := h.find a ha.1 hn
  have h3 := h.h3
  have hr' := hr
  unfold Sp.right at hr'
  have hmem : ∀ i, i < b.toNat → a.toNat + i ∈ S.pgs := fun i hi => (h.wf.mem _).1 (by rw [hall i hi]; decide)
  have hlen := row_len h.wf.rising a.toNat b.toNat hmem
  have hmm := hblk m (Or.inl rfl)
  have hgg := hblk g (Or.inr (Or.inr (Or.inr (Or.inr (Or.inl rfl)))))
  have hrow : ∀ j (hj : j < b.toNat), S.pgs[pos S.pgs a.toNat + j]'(by omega) = a.toNat + j := fun j hj => (row_get h.wf.rising a.toNat j (fun k hk => hmem k (by omega)) (by omega)).2 (hmem j hj)
  -- the cells of the row
  have hcells : ∀ j, j < b.toNat → w.cell? ⟨g, (pos S.pgs a.toNat + j) * 3, none⟩ = some (.int .u64 ((a.toNat + j : Nat) : Int)) ∧ w.cell? ⟨g, (pos S.pgs a.toNat + j) * 3 + 1, none⟩ = some (.int .i64 2) ∧ w.cell? ⟨g, (pos S.pgs a.toNat + j) * 3 + 2, none⟩ = some (.int .u64 (fl (a.toNat + j) : Int)) := by
    intro j hj
    obtain ⟨b', off', ho, hc⟩ := h.page (by omega)
    injection ho with ho
    injection ho with e1 e2
    subst e1 e2
    have := hc (pos S.pgs a.toNat + j) (by omega)
    rw [hrow j hj, hall j hj, Nat.zero_add] at this
    exact this
  have M := h.mem
  have fr : ∀ k, w.frozen? ⟨g, k, none⟩ = false := fun k => h.own3.frozenAt k
  obtain ⟨q, hq⟩ : ∃ q, q = pos S.pgs a.toNat := ⟨_, rfl⟩
  rw [← hq] at cf hlen hcells ⊢
  have HC : Hid _ := hcells
  have HM : Hid _ := M
  have HR : Hid _ := h.rising
  have hpl : (pageL S fl).length = S.pgs.length := by simp [pageL]
  have HPL : Hid _ := hpl
  obtain ⟨n, hnn⟩ : ∃ n, n = S.pgs.length := ⟨_, rfl⟩
  rw [← hnn] at hn hlen h3
  have HN : Hid _ := hnn
  have HA : Hid _ := ap
  have HB : Hid _ := hblk
  have HFR : Hid _ := fr
  generalize decide (a.toNat ∈ S.pgs) = d at cf
  have hlen' : (q : Int) + b ≤ n := by omega
  have hle : b ≤ (n : Int) - q := by omega
  have hab : a + b ≤ 34359738368 := by omega
  have hb0 : 0 < b := by omega
  clear hcells M hpl hnn hrow hmem hall hr hr' h hq hlen ap hblk fr
  go_enter Try.func21, Try.ntmps21
  go_wp2_with (first
    | (go_at_call 36; refine (cr _).mono ?_; rintro e w' ⟨rfl, hw'⟩; rw [hw']; clear hw' w')
    | (go_at_call 39; refine cf.mono ?_; rintro e w' ⟨rfl, k, rfl⟩))
  go_loopw [9] (fun i wr => ∃ j : Int, 0 ≤ j ∧ j ≤ b ∧ i = .int .u64 j ∧ Below w.heap.size w wr) (fun i _ => (b - intOf i).toNat)
  case atStart => exact ⟨0, by omega, by omega, rfl, ⟨rfl, rfl, rfl, Nat.le_refl _, fun _ _ => rfl⟩⟩
  case round =>
    obtain ⟨j, hj0, hj1, rfl, hbel⟩ := hrel
    have hsz := hbel.size
    have g3 := (hbel.cell (p := ⟨m, 3, none⟩) hmm).trans h3
    by_cases hjb : j < b
    · have hcs := HC.out j.toNat (by omega)
      have e3 : q + j.toNat = ((q : Int) + j).toNat := by omega
      have e4 : ((a.toNat + j.toNat : Nat) : Int) = a + j := by omega
      rw [e3, e4] at hcs
      have g0 := (hbel.cell (p := ⟨g, ((q : Int) + j).toNat * 3, none⟩) hgg).trans hcs.1
      have g1 := (hbel.cell (p := ⟨g, ((q : Int) + j).toNat * 3 + 1, none⟩) hgg).trans hcs.2.1
      have g2 := (hbel.cell (p := ⟨g, ((q : Int) + j).toNat * 3 + 2, none⟩) hgg).trans hcs.2.2
      clear hcs e3 e4
      go_wp2_with fail
      go_roundw
      case rel => exact ⟨j + 1, by omega, by omega, rfl, hbel.alloc hsz _⟩
      case measure => simp [intOf]; omega
    · go_wp2_with fail
      have MR : RefM wr m S.places S.refuse S.fills (pageL S fl) ws v0 v1 v2 (some ⟨g, 0, none⟩) c3 o4 c4 := by
        have := HM.out
        exact ⟨fun k hk => (hbel.frozen (p := ⟨m, k, none⟩) hmm).trans (this.frozen k hk), (hbel.cell (p := ⟨m, 0, none⟩) hmm).trans this.h0, (hbel.cell (p := ⟨m, 1, none⟩) hmm).trans this.h1, (hbel.cell (p := ⟨m, 2, none⟩) hmm).trans this.h2, (hbel.cell (p := ⟨m, 3, none⟩) hmm).trans this.h3, (hbel.cell (p := ⟨m, 4, none⟩) hmm).trans this.h4,
          this.r0.kept hsz fun x e => hbel.block x (HB.out x (Or.inr (Or.inl e))), this.r1.kept hsz fun x e => hbel.block x (HB.out x (Or.inr (Or.inr (Or.inl e)))), this.r2.kept hsz fun x e => hbel.block x (HB.out x (Or.inr (Or.inr (Or.inr (Or.inl e))))),
          owns_kept this.own3 fun x e => hbel.block x (HB.out x (Or.inr (Or.inr (Or.inr (Or.inr (Or.inl (by rw [own_slice] at e; exact e))))))), owns_kept this.own4 fun x e => hbel.block x (HB.out x (Or.inr (Or.inr (Or.inr (Or.inr (Or.inr (by rw [own_slice] at e; exact e)))))))⟩
      obtain ⟨W1, hW1⟩ : ∃ W1, wr = W1 := ⟨_, rfl⟩
      rw [hW1] at MR g3 hbel hsz
      rw [hW1]
      clear hW1 wr
      have HMR : Hid _ := MR
      have hown0 := MR.own3
      rw [HPL.out, ← HN.out] at hown0
      have HO0 : Hid _ := hown0
      clear MR hown0
      go_loopw [11] (fun i w2 => ∃ k : Nat, (k : Int) ≤ b ∧ i = .int .i64 (k : Int) ∧ Kept (fun x => x = g) W1 w2 ∧ Hid (w2.ownsRow 0 66 3 (.slice (some ⟨g, 0, none⟩) n c3) n ((upd (pageL S fl) q (fun j => (a.toNat + j, 3, 0)) k).flatMap pc))) (fun i _ => (b - intOf i).toNat)
      case atStart => exact ⟨0, by omega, rfl, ⟨rfl, rfl, rfl, Nat.le_refl _, fun _ _ _ => rfl⟩, HO0⟩
      case round =>
        obtain ⟨k, hk, rfl, hkept, hown⟩ := hrel
        have hmg : m ≠ g := fun e => HA.out.m3 (by rw [e]; rfl)
        have hmr : m < W1.heap.size := by omega
        have k3 : wr.cell? ⟨m, 3, none⟩ = some (.slice (some ⟨g, 0, none⟩) n c3) := (cell_kept (hkept.block m hmr hmg)).trans g3
        by_cases hkb : (k : Int) < b
        · have f0 := hown.out.frozenAt ((q + k) * 3)
          have f1 := hown.out.frozenAt ((q + k) * 3 + 1)
          have f2 := hown.out.frozenAt ((q + k) * 3 + 2)
          have hul : (upd (pageL S fl) q (fun j => (a.toNat + j, 3, 0)) k).length = n := by rw [upd_length, HPL.out, HN.out]
          have hix : q + k < (upd (pageL S fl) q (fun j => (a.toNat + j, 3, 0)) k).length := by rw [hul]; omega
          have at0 := fun r (hr : r < 3) => (hown.out.cellAt ((q + k) * 3 + r) (by omega)).trans (flat_get 3 pc (fun _ => rfl) _ (q + k) r hix hr)
          have d0 := at0 0 (by decide)
          have d1 := at0 1 (by decide)
          have d2 := at0 2 (by decide)
          have own' := owns_set3 hown.out (q + k) (a.toNat + k, 3, 0) hix
          have hcast : (((a.toNat + k : Nat)) : Int) = a + k := by omega
          simp only [hcast] at own'
          have OWN : Hid _ := own'
          generalize (upd (pageL S fl) q (fun j => (a.toNat + j, 3, 0)) k)[q + k] = T at d0 d1 d2
          have d0' : wr.cell? ⟨g, (q + k) * 3, none⟩ = some (.int .u64 (T.1 : Int)) := d0
          have d1' : wr.cell? ⟨g, (q + k) * 3 + 1, none⟩ = some (.int .i64 (T.2.1 : Int)) := d1
          have d2' : wr.cell? ⟨g, (q + k) * 3 + 2, none⟩ = some (.int .u64 (T.2.2 : Int)) := d2
          clear at0 d0 d1 d2 own' hcast hix hul
          go_wp2_with fail
          go_roundw
          case rel => exact ⟨k + 1, by omega, by go_num, hkept.trans (kept_set3 _ _ _ _ _ _ _ _), OWN⟩
          case measure => simp [intOf]; omega
        · have hkb' : k = b.toNat := by omega
          have hul : (upd (pageL S fl) q (fun j => (a.toNat + j, 3, 0)) k).length = n := by rw [upd_length, HPL.out, HN.out]
          have hblk1 : ∀ x, inRef m v0 v1 v2 (some ⟨g, 0, none⟩) o4 x → x < W1.heap.size := fun x hx => by have := HB.out x hx; omega
          have M2 := HMR.out.newPages HA.out hblk1 hkept (ps' := upd (pageL S fl) q (fun j => (a.toNat + j, 3, 0)) k) (by rw [upd_length]) (by rw [hul]; exact hown.out)
          have hblk2 : ∀ x, inRef m v0 v1 v2 (some ⟨g, 0, none⟩) o4 x → x < wr.heap.size := fun x hx => by have := hblk1 x hx; have := hkept.size; omega
          have cfo := M2.forget HA.out hblk2 HR.out (a * 8192) (b * 8192) (by omega) (by omega) (by omega) hw
          have e1 : (a * 8192).toNat = a.toNat * 8192 := by omega
          have e2 : (a * 8192 + b * 8192).toNat = a.toNat * 8192 + b.toNat * 8192 := by omega
          rw [e1, e2, hkb'] at cfo
          have CF : Hid _ := cfo
          have hkbb : ((k : Int)) = b := by omega
          clear M2 cfo e1 e2 hul hblk1 hblk2
          go_wp2_with fail
          go_at_call 46
          refine Calls.mono CF.out ?_
          rintro e w9 ⟨rfl, g4, cp, M9, A9, G9, K9⟩
          go_wp2_with fail
          go_ret
          refine ⟨rfl, g4, cp, M9, A9, by have := hkept.size; omega, ?_⟩
          exact ((Kept.of_below hbel).trans (hkept.mono fun x hx => Or.inr hx)).trans (K9.mono fun x hx => Or.inl hx)
end Go.Proofs.Ytlfcnaalkjpgnaa
