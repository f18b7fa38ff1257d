/- J12 of the proof of both laws: texts VmZa, VmZb, VmZc, one behind the other. -/
import Derived.Test.YtlfcnaalkjpgnaaJ09
import Derived.Test.YtlfcnaalkjpgnaaJ04
import Derived.Maps.Views
/- The landed package's words: zeroPart. -/
namespace Go.Proofs.Ytlfcnaalkjpgnaa
open Go.ChangeShapes Go.WideShapes Go.ChangeAt Go.RowKit Go.Proofs.Sp Go.Maps

theorem zc1 (n : Nat) : (Builtin.zeroCells (Value.int .u64 0).cells n).toList = List.replicate n (.int .u64 0) := by
  apply List.eq_replicate_iff.2
  refine ⟨by simp [size_zeroCells, Value.cells], fun v hv => ?_⟩
  simp only [Builtin.zeroCells, Array.toList_map, List.mem_map] at hv
  obtain ⟨i, hi, rfl⟩ := hv
  simp [Value.cells, Nat.mod_one]
/-- Behind a page's array turned. -/
theorem WNow.over {w w' : World} {b bp bf n : Nat} {MP MF : Nat → Nat} {Z : Nat → Prop} {W : Nat → Nat → Nat} {MP' MF' : Nat → Nat} {A' : Nat → Nat → Nat} (h : WNow w w' b bp bf n MP MF Z W MP' MF' A') {p a : Nat} (ha : MP' p = a + 1) {f : Nat → Nat} {w'' : World} (hA : ArrAt w'' a f)
    (hg : w'.grownBy w'' (some a)) : WNow w w'' b bp bf n MP MF Z (fun q j => if q = p then f j else W q j) MP' MF' (fun q => if q = p then f else A' q) := by
  have sp := h.wm.sep p (by omega)
  rw [ha, Nat.add_sub_cancel] at sp
  have nb : ∀ y, y < w'.heap.size → y ≠ a → w''.heap[y]? = w'.heap[y]? := fun y hy hn => hg.block y hy (by simpa using hn)
  have hbl := cell_lt h.wm.c8
  refine ⟨⟨?_, ?_, h.wm.mp.kept (nb bp h.wm.mp.lt (fun e => sp.2.1 e.symm)), h.wm.mf.kept (nb bf h.wm.mf.lt (fun e => sp.2.2 e.symm)), fun q hq => ?_, h.wm.one, h.wm.sep, h.wm.ne⟩, fun q j hj => ?_, ?_, h.old, h.non⟩
  · rw [World.cell?_of_block (nb b hbl (fun e => sp.1 e.symm))]; exact h.wm.c8
  · rw [World.cell?_of_block (nb b hbl (fun e => sp.1 e.symm))]; exact h.wm.c9
  · by_cases c : q = p
    · subst c
      simp only [if_true]
      rw [ha, Nat.add_sub_cancel]
      exact hA
    · simp only [if_neg c]
      have ar := h.wm.arr q hq
      exact ar.kept (nb _ ar.lt (fun e => c (h.wm.one q p hq (by omega))))
  · have h0 := h.at_ q j hj
    unfold wordAt at h0 ⊢
    by_cases c : q = p
    · subst c
      have : MP' q ≠ 0 := by omega
      simp only [if_neg this, if_true]
    · simp only [c, if_false]
      exact h0
  · refine ⟨hg.os.trans h.fr.os, hg.tape.trans h.fr.tape, hg.output.trans h.fr.output, Nat.le_trans h.fr.size hg.size, fun x hx hn => ?_⟩
    rw [nb x (Nat.lt_of_lt_of_le hx h.fr.size)]
    · exact h.fr.block x hx hn
    · rintro rfl
      rcases h.old p (by omega) with ⟨r, hr⟩ | hr
      · exact hn (Or.inr (Or.inr ⟨r, by omega⟩))
      · omega
theorem arr_clear {w : World} {a : Nat} {f : Nat → Nat} (h : ArrAt w a f) (s t cap : Nat) (hst : s < t) (ht : t ≤ 1024) (ty : TypeId) :
    ∃ w', (Builtin.clear_ #[22] ty #[.slice (some ⟨a, s, none⟩) (t - s) cap]).run Try.prog w = .ok (.tuple #[]) w' ∧ ArrAt w' a (fun j => if s ≤ j ∧ j < t then 0 else f j) ∧ w.grownBy w' (some a) := by
  obtain ⟨arr, h1, h2, h3⟩ := h
  have hrun := run_clear_sized (P := Try.prog) w 22 ty 33 a s (t - s) cap arr.toArray 113 (.int .u64 0) Try.underlying22 (zeroU w) (by omega) h1 (by simp [Value.cells, h2]; omega) (fun v hv => by rw [zc1] at hv; rw [(List.mem_replicate.1 hv).2]; rfl)
  refine ⟨_, hrun, ⟨_, setRow_heap w a _ _ _ _ h1, ?_, fun j hj => ?_⟩, ⟨rfl, rfl, rfl, by simp, fun k _ hk => setRow_other w a k _ (fun e => hk (by rw [e]))⟩⟩
  · rw [zc1]; simp [h2, Value.cells]; omega
  · rw [zc1]
    simp only [Value.cells, List.size_toArray, List.length_singleton, Nat.mul_one]
    show _ = some (Value.int .u64 ((if s ≤ j ∧ j < t then 0 else f j : Nat) : Int))
    by_cases c1 : j < s
    · rw [if_neg (by omega), List.append_assoc, List.getElem?_append_left (by simp; omega), List.getElem?_take, if_pos c1]
      exact h3 j hj
    · by_cases c2 : j < t
      · rw [if_pos ⟨by omega, c2⟩, List.getElem?_append_left (by simp; omega), List.getElem?_append_right (by simp; omega), List.getElem?_replicate, if_pos (by simp; omega)]
        rfl
      · rw [if_neg (by omega), List.getElem?_append_right (by simp; omega), List.getElem?_drop]
        have e : (List.take s arr.toArray.toList ++ List.replicate (t - s) (Value.int .u64 0)).length = t := by simp; omega
        rw [e, show s + (t - s) + (j - t) = j by omega]
        exact h3 j hj
set_option maxRecDepth 100000 in
set_option maxHeartbeats 2000000 in
theorem wpart_core (b bp bf n p s t : Nat) (MP MF : Nat → Nat) (A : Nat → Nat → Nat) (w : World) (h : WordsM w b bp bf n MP MF A) (hn : n ≤ 4398046511104) (hp : p < 18446744073709551616) (hst : s ≤ t) (ht : t ≤ 1024) :
    Calls Try.prog 74 #[.pointer (some ⟨b, 8, none⟩), .int .u64 (p : Int), .int .u64 (s : Int), .int .u64 (t : Int)] w fun e w' => e = .returned (.tuple #[]) ∧ Hid (WPost w w' b bp bf (n + 1) MP MF (fun _ => True) (fun q j => if q = p ∧ s ≤ j ∧ j < t then 0 else wordAt MP MF A q j)) := by
  have c8 := h.c8
  have c9 := h.c9
  by_cases e0 : s = t
  · subst e0
    have FIN : Hid (WPost w w b bp bf (n + 1) MP MF (fun _ => True) (fun q j => if q = p ∧ s ≤ j ∧ j < s then 0 else wordAt MP MF A q j)) :=
      hide ⟨_, _, _, (WNow.refl h _).weak (by omega) (fun _ h => h) (fun q k _ => by rw [if_neg (by omega)])⟩
    clear h
    go_enter Try.func74, Try.ntmps74
    go_wp2_with fail
    ((try simp only [Exit.inBlock, Exit.then]); refine bodyPost_ret (results_none rfl _ _ _) rfl ?_)
    exact ⟨rfl, FIN⟩
  · have be : ((s : Int) == (t : Int)) = false := by simp; omega
    have hlt : s < t := by omega
    obtain ⟨v, hrun, hv⟩ := look_ptr h.mp p hp
    have hnum := look_num h.mf p hp
    have work : (MP p = 0 → MF p ≠ 0) → Calls Try.prog 74 #[.pointer (some ⟨b, 8, none⟩), .int .u64 (p : Int), .int .u64 (s : Int), .int .u64 (t : Int)] w fun e w' => e = .returned (.tuple #[]) ∧ Hid (WPost w w' b bp bf (n + 1) MP MF (fun _ => True) (fun q j => if q = p ∧ s ≤ j ∧ j < t then 0 else wordAt MP MF A q j)) := by
      intro hh
      have HH := hide hh
      have AC := hide (array_core b bp bf n p MP MF A w h hp hn)
      have s1 : (s : Int) ≤ (t : Int) := by omega
      have t1 : (t : Int) ≤ 1024 := by omega
      have FIN : Hid (∀ (w' : World) (y : Nat) (MP' MF' : Nat → Nat) (A' : Nat → Nat → Nat), MP' p = y + 1 → WNow w w' b bp bf (n + 1) MP MF (fun q => q ≠ p) (wordAt MP MF A) MP' MF' A' → ∃ w2, (Builtin.clear_ #[22] 0 #[.slice (some ⟨y, s, none⟩) (t - s) (1024 - s)]).run Try.prog w' = .ok (.tuple #[]) w2 ∧ Hid (WPost w w2 b bp bf (n + 1) MP MF (fun _ => True) (fun q j => if q = p ∧ s ≤ j ∧ j < t then 0 else wordAt MP MF A q j)) ∧ True) := by
        refine hide (fun w' y MP' MF' A' hy hN => ?_)
        have ar := hN.wm.arr p (by omega)
        rw [hy, Nat.add_sub_cancel] at ar
        obtain ⟨w2, hrun2, hA2, hg2⟩ := arr_clear ar s t (1024 - s) hlt ht 0
        have := hN.over hy hA2 hg2
        refine ⟨w2, hrun2, hide ⟨MP', MF', _, this.wm, fun q j hj => ?_, this.fr, this.old, fun q _ a c => ?_⟩, trivial⟩
        · rw [this.at_ q j hj]
          by_cases c : q = p
          · subst c
            simp only [if_true, true_and]
            have := hN.at_ q j hj
            unfold wordAt at this
            rw [if_neg (by omega)] at this
            rw [this]
            rfl
          · simp only [c, if_false, false_and]
        · have : q ≠ p := by rintro rfl; exact hh a c
          exact hN.non q this a c
      rcases hv with ⟨hz, rfl⟩ | ⟨x, hx, rfl⟩
      · have hm := hh hz
        have bx : ((MF p : Int) == 0) = false := by simp; omega
        clear h hh hm
        go_enter Try.func74, Try.ntmps74
        go_wp2_with (go_at_call 73; refine AC.out.mono ?_; rintro e w' ⟨y, MP', MF', A', rfl, hy, hN⟩; obtain ⟨w2, hcl, hA2, hg2⟩ := FIN.out w' y MP' MF' A' hy.out hN.out)
        go_end0
        exact ⟨rfl, hA2⟩
      · clear h hh hx hnum
        go_enter Try.func74, Try.ntmps74
        go_wp2_with (go_at_call 73; refine AC.out.mono ?_; rintro e w' ⟨y, MP', MF', A', rfl, hy, hN⟩; obtain ⟨w2, hcl, hA2, hg2⟩ := FIN.out w' y MP' MF' A' hy.out hN.out)
        go_end0
        exact ⟨rfl, hA2⟩
    by_cases c : MP p = 0
    · by_cases d : MF p = 0
      · rcases hv with ⟨hz, rfl⟩ | ⟨x, hx, rfl⟩
        · have FIN : Hid (WPost w w b bp bf (n + 1) MP MF (fun _ => True) (fun q j => if q = p ∧ s ≤ j ∧ j < t then 0 else wordAt MP MF A q j)) :=
            hide ⟨_, _, _, (WNow.refl h _).weak (by omega) (fun _ h => h) (fun q k _ => by
              by_cases e : q = p
              · subst e; unfold wordAt; rw [if_pos c, d]; simp
              · simp [e])⟩
          rw [d] at hnum
          clear h work
          go_enter Try.func74, Try.ntmps74
          go_wp2_with fail
          ((try simp only [Exit.inBlock, Exit.then]); refine bodyPost_ret (results_none rfl _ _ _) rfl ?_)
          exact ⟨rfl, FIN⟩
        · omega
      · exact work (fun _ => d)
    · exact work (fun z => absurd z c)
end Go.Proofs.Ytlfcnaalkjpgnaa

/- The landed package's words: drop, forget, zero. -/
namespace Go.Proofs.Ytlfcnaalkjpgnaa
open Go.ChangeShapes Go.WideShapes Go.ChangeAt Go.RowKit Go.Proofs.Sp Go.Maps

/-- A map without its keys from s to t. -/
def cutM (M : Nat → Nat) (s t : Nat) (q : Nat) : Nat := if s ≤ q ∧ q < t then 0 else M q
/-- What is left of a map M, where the keys from s to t that have come are struck. -/
def DropRel (M : Nat → Nat) (s t : Nat) (D : DataW Unit) (left : Lit → Bool) : Prop := ∀ p, p < 18446744073709551616 → D.atKey (key p) (dat 0) = dat (if s ≤ p ∧ p < t ∧ left (key p) = false then 0 else M p)
theorem same_key (p x : Nat) : (key p).sameKey (key x) = decide (p = x) := by
  by_cases c : p = x
  · subst c; simp [key, Lit.sameKey]
  · have : ¬ ((p : Int) = (x : Int)) := by omega
    simp [key, Lit.sameKey, c]
    try omega
theorem drop_start {M : Nat → Nat} {s t : Nat} {D : DataW Unit} (h : ∀ p, p < 18446744073709551616 → D.atKey (key p) (dat 0) = dat (M p)) : DropRel M s t D (Maps.has D) := fun p hp => by
  by_cases c : s ≤ p ∧ p < t ∧ Maps.has D (key p) = false
  · rw [if_pos c, atKey_of_not_has c.2.2]
  · rw [if_neg c]; exact h p hp
theorem drop_stay {M : Nat → Nat} {s t : Nat} {D : DataW Unit} {left : Lit → Bool} (h : DropRel M s t D left) {x : Nat} (hx : ¬ (s ≤ x ∧ x < t)) : DropRel M s t D (fun z => left z && !z.sameKey (key x)) := fun p hp => by
  rw [h p hp]
  congr 1
  simp only [same_key]
  by_cases c : p = x
  · subst c; rw [if_neg (fun z => hx ⟨z.1, z.2.1⟩), if_neg (fun z => hx ⟨z.1, z.2.1⟩)]
  · simp [c]
theorem drop_struck {M : Nat → Nat} {s t : Nat} {D : DataW Unit} {left : Lit → Bool} (h : DropRel M s t D left) {x : Nat} (hx : s ≤ x ∧ x < t) : DropRel M s t (D.del (key x)) (fun z => left z && !z.sameKey (key x)) := fun p hp => by
  by_cases c : p = x
  · subst c
    rw [atKey_del_same, if_pos ⟨hx.1, hx.2, by simp [same_key]⟩]
  · rw [atKey_del_other (fun z => c (key_inj z)), h p hp]
    simp [same_key, c]
theorem drop_end {M : Nat → Nat} {s t : Nat} {D : DataW Unit} {left : Lit → Bool} (h : DropRel M s t D left) (hl : ∀ kl, left kl = false) : ∀ p, p < 18446744073709551616 → D.atKey (key p) (dat 0) = dat (cutM M s t p) := fun p hp => by
  rw [h p hp]; simp [hl, cutM]
theorem u64_wf {x : Int} (h : (Lit.int .u64 x).wf = true) : 0 ≤ x ∧ x < 18446744073709551616 := by
  simp [Lit.wf, IntKind.min, IntKind.max, IntKind.bits, IntKind.signed] at h
  omega
theorem ptr_inv (v : Value) (y : DataW Unit × List MemPlace) (h : ptrElem v = some y) : ∃ c, v = Value.pointer c := by
  unfold ptrElem at h
  split at h
  · exact ⟨_, rfl⟩
  · exact ⟨_, rfl⟩
  · cases h
theorem num_inv (v : Value) (y : DataW Unit × List MemPlace) (h : numElem v = some y) : ∃ c, v = Value.int .u64 c := by
  unfold numElem at h
  split at h
  · exact ⟨_, rfl⟩
  · cases h

set_option maxRecDepth 100000 in
set_option maxHeartbeats 4000000 in
theorem drop_ptr (bm n : Nat) (M : Nat → Nat) (w : World) (h : MapIs w ptrElem bm n M) (hn : n ≤ 4398046511104) (s t : Int) (hs : 0 ≤ s) (hst : s ≤ t) (ht : t < 9223372036854775808) :
    Calls Try.prog 68 #[.map (some bm), .int .u64 s, .int .u64 t] w fun e w' => e = .returned (.tuple #[]) ∧ Hid (MapIs w' ptrElem bm n (cutM M s.toNat t.toNat)) ∧ Hid (w.grownBy w' (some bm)) := by
  obtain ⟨k, hk, hlen⟩ := h.len (ty := 3) Try.underlying47
  have hk' : (k : Int) ≤ 4398046511104 := by omega
  have H := hide h
  by_cases c : (k : Int) < t - s
  · obtain ⟨D, hown, hM⟩ := h
    have ST := hide (drop_start (s := s.toNat) (t := t.toNat) hM)
    clear hM H
    go_enter Try.func68, Try.ntmps68
    go_wp2_with (first
      | (at_range; refine wpList_range_own _ rfl _ 47 rfl 33 97 keyU Try.underlying47 ptrElem bm n _ rfl hown ?_; intro w0 hrg0 hg0 hs0)
      | go_in)
    go_frame
    go_loopw [17] (fun _ wr => ∃ (D : DataW Unit) (left : Lit → Bool) (cnt : Nat), wr.ranges Try.prog 33 ptrElem bm w.heap.size n D left cnt ∧ Hid (DropRel M s.toNat t.toNat D left) ∧ w.grownBy wr (some bm))
      (fun _ wr => wr.rangeLeft bm w.heap.size)
    case atStart => exact ⟨_, _, _, hrg0, ST, hg0.but _⟩
    case round =>
      obtain ⟨D1, left, cnt, hrg, hrel1, hgw⟩ := hrel
      go_wp2_with (first
        | (at_next; refine wpList_next_ranges _ rfl _ rfl 33 keyU ptrElem (Value.int .u64) Value.pointer (fun key _ hkey => by obtain ⟨x, rfl, _⟩ := Maps.keyOf_int_inv Try.underlying33 hkey; exact ⟨x, rfl⟩) ptr_inv bm w.heap.size n _ _ _ rfl hrg ?_ ?_)
        | go_in)
      · intro _ hl0
        have FIN := hide (drop_end hrel1.out hl0)
        have OW := hide hrg.owns
        clear hl0
        go_wp2
        ((try simp only [Exit.inBlock, Exit.then]); refine bodyPost_ret (results_none rfl _ _ _) rfl ?_)
        exact ⟨rfl, hide ⟨_, OW.out, FIN.out⟩, hide hgw⟩
      · intro x v kl yd yp w1 cnt1 hkey hlx hv hat hrg1 hlt hg1 hs1 hen
        have hgw1 := hgw.andThen hg1 (fun j hj => by cases hj; exact Or.inl (Nat.le_refl _))
        obtain ⟨x', ex, rfl, hwx⟩ := Maps.keyOf_int_inv Try.underlying33 hkey
        cases ex
        have hx0 := (u64_wf hwx).1
        have hx1 := (u64_wf hwx).2
        obtain ⟨z, rfl⟩ : ∃ z : Nat, x = (z : Int) := ⟨x.toNat, by omega⟩
        clear hv hat hlx
        by_cases c1 : s ≤ (z : Int)
        · by_cases c2 : (z : Int) < t
          · have hkey' := key_of z (by omega)
            have NX := hide (drop_struck hrel1.out (x := z) ⟨by omega, by omega⟩)
            go_wp2_with (first
              | (at_delete; refine wpList_delete_ranges _ rfl _ _ 47 33 rfl 97 keyU Try.underlying47 ptrElem bm w.heap.size n _ _ _ rfl hrg1 _ _ rfl hkey' ?_; intro w3 cnt3 hrg3 hle hturn; go_frame)
              | go_in)
            rw [show (Lit.int .u64 (z : Int)) = key z from rfl, strike_twice] at hrg3
            go_roundw
            case rel => exact ⟨_, _, cnt3, hrg3, NX, hgw1.andThen hturn.grown (fun j hj => by cases hj; exact Or.inr rfl)⟩
            case measure => rw [hrg3.left_eq, hrg.left_eq]; omega
          · have NX := hide (drop_stay hrel1.out (x := z) (by omega))
            go_wp2_with fail
            go_roundw
            case rel => exact ⟨_, _, cnt1, hrg1, NX, hgw1⟩
            case measure => rw [hrg1.left_eq, hrg.left_eq]; exact hlt
        · have NX := hide (drop_stay hrel1.out (x := z) (by omega))
          go_wp2_with fail
          go_roundw
          case rel => exact ⟨_, _, cnt1, hrg1, NX, hgw1⟩
          case measure => rw [hrg1.left_eq, hrg.left_eq]; exact hlt
  · clear h
    go_enter Try.func68, Try.ntmps68
    go_wp2_with fail
    go_loopw [7] (fun iv wr => ∃ i : Int, iv = .int .u64 i ∧ s ≤ i ∧ i ≤ t ∧ Hid (MapIs wr ptrElem bm n (cutM M s.toNat i.toNat)) ∧ Hid (w.grownBy wr (some bm))) (fun iv _ => (t - intOf iv).toNat)
    case atStart => exact ⟨s, rfl, Int.le_refl _, hst, hide (by have e : cutM M s.toNat s.toNat = M := (by funext q; unfold cutM; rw [if_neg (by omega)]); rw [e]; exact H.out), hide ⟨rfl, rfl, rfl, Nat.le_refl _, fun _ _ _ => rfl⟩⟩
    case round =>
      obtain ⟨i, rfl, i1, i2, hM, hG⟩ := hrel
      by_cases lt : i < t
      · obtain ⟨w2, hdel, m2, g2⟩ := hM.out.del (ty := 0) Try.underlying47 i.toNat (by omega)
        rw [show ((i.toNat : Nat) : Int) = i by omega] at hdel
        have NX : Hid (MapIs w2 ptrElem bm n (cutM M s.toNat (i + 1).toNat)) := by
          have e : cutM M s.toNat (i + 1).toNat = (fun q => if q = i.toNat then 0 else cutM M s.toNat i.toNat q) := by
            funext q
            unfold cutM
            by_cases d : q = i.toNat
            · rw [if_pos d, if_pos (by omega)]
            · rw [if_neg d]
              by_cases d2 : s.toNat ≤ q ∧ q < i.toNat
              · rw [if_pos d2, if_pos (by omega)]
              · rw [if_neg d2, if_neg (by omega)]
          rw [e]; exact m2
        have G2 : Hid (w.grownBy w2 (some bm)) := hide (hG.out.andThen g2 (fun j hj => by cases hj; exact Or.inr rfl))
        clear m2 g2 hM
        go_wp2_with fail
        go_roundw
        case rel => exact ⟨i + 1, rfl, by omega, by omega, NX, G2⟩
        case measure => simp [intOf]; omega
      · obtain rfl : i = t := by omega
        go_wp2_with fail
        go_end0
        exact ⟨rfl, hM, hG⟩

set_option maxRecDepth 100000 in
set_option maxHeartbeats 4000000 in
theorem drop_num (bm n : Nat) (M : Nat → Nat) (w : World) (h : MapIs w numElem bm n M) (hn : n ≤ 4398046511104) (s t : Int) (hs : 0 ≤ s) (hst : s ≤ t) (ht : t < 9223372036854775808) :
    Calls Try.prog 69 #[.map (some bm), .int .u64 s, .int .u64 t] w fun e w' => e = .returned (.tuple #[]) ∧ Hid (MapIs w' numElem bm n (cutM M s.toNat t.toNat)) ∧ Hid (w.grownBy w' (some bm)) := by
  obtain ⟨k, hk, hlen⟩ := h.len (ty := 3) Try.underlying48
  have hk' : (k : Int) ≤ 4398046511104 := by omega
  have H := hide h
  by_cases c : (k : Int) < t - s
  · obtain ⟨D, hown, hM⟩ := h
    have ST := hide (drop_start (s := s.toNat) (t := t.toNat) hM)
    clear hM H
    go_enter Try.func69, Try.ntmps69
    go_wp2_with (first
      | (at_range; refine wpList_range_own _ rfl _ 48 rfl 33 33 keyU Try.underlying48 numElem bm n _ rfl hown ?_; intro w0 hrg0 hg0 hs0)
      | go_in)
    go_frame
    go_loopw [17] (fun _ wr => ∃ (D : DataW Unit) (left : Lit → Bool) (cnt : Nat), wr.ranges Try.prog 33 numElem bm w.heap.size n D left cnt ∧ Hid (DropRel M s.toNat t.toNat D left) ∧ w.grownBy wr (some bm))
      (fun _ wr => wr.rangeLeft bm w.heap.size)
    case atStart => exact ⟨_, _, _, hrg0, ST, hg0.but _⟩
    case round =>
      obtain ⟨D1, left, cnt, hrg, hrel1, hgw⟩ := hrel
      go_wp2_with (first
        | (at_next; refine wpList_next_ranges _ rfl _ rfl 33 keyU numElem (Value.int .u64) (Value.int .u64) (fun key _ hkey => by obtain ⟨x, rfl, _⟩ := Maps.keyOf_int_inv Try.underlying33 hkey; exact ⟨x, rfl⟩) num_inv bm w.heap.size n _ _ _ rfl hrg ?_ ?_)
        | go_in)
      · intro _ hl0
        have FIN := hide (drop_end hrel1.out hl0)
        have OW := hide hrg.owns
        clear hl0
        go_wp2
        ((try simp only [Exit.inBlock, Exit.then]); refine bodyPost_ret (results_none rfl _ _ _) rfl ?_)
        exact ⟨rfl, hide ⟨_, OW.out, FIN.out⟩, hide hgw⟩
      · intro x v kl yd yp w1 cnt1 hkey hlx hv hat hrg1 hlt hg1 hs1 hen
        have hgw1 := hgw.andThen hg1 (fun j hj => by cases hj; exact Or.inl (Nat.le_refl _))
        obtain ⟨x', ex, rfl, hwx⟩ := Maps.keyOf_int_inv Try.underlying33 hkey
        cases ex
        have hx0 := (u64_wf hwx).1
        have hx1 := (u64_wf hwx).2
        obtain ⟨z, rfl⟩ : ∃ z : Nat, x = (z : Int) := ⟨x.toNat, by omega⟩
        clear hv hat hlx
        by_cases c1 : s ≤ (z : Int)
        · by_cases c2 : (z : Int) < t
          · have hkey' := key_of z (by omega)
            have NX := hide (drop_struck hrel1.out (x := z) ⟨by omega, by omega⟩)
            go_wp2_with (first
              | (at_delete; refine wpList_delete_ranges _ rfl _ _ 48 33 rfl 33 keyU Try.underlying48 numElem bm w.heap.size n _ _ _ rfl hrg1 _ _ rfl hkey' ?_; intro w3 cnt3 hrg3 hle hturn; go_frame)
              | go_in)
            rw [show (Lit.int .u64 (z : Int)) = key z from rfl, strike_twice] at hrg3
            go_roundw
            case rel => exact ⟨_, _, cnt3, hrg3, NX, hgw1.andThen hturn.grown (fun j hj => by cases hj; exact Or.inr rfl)⟩
            case measure => rw [hrg3.left_eq, hrg.left_eq]; omega
          · have NX := hide (drop_stay hrel1.out (x := z) (by omega))
            go_wp2_with fail
            go_roundw
            case rel => exact ⟨_, _, cnt1, hrg1, NX, hgw1⟩
            case measure => rw [hrg1.left_eq, hrg.left_eq]; exact hlt
        · have NX := hide (drop_stay hrel1.out (x := z) (by omega))
          go_wp2_with fail
          go_roundw
          case rel => exact ⟨_, _, cnt1, hrg1, NX, hgw1⟩
          case measure => rw [hrg1.left_eq, hrg.left_eq]; exact hlt
  · clear h
    go_enter Try.func69, Try.ntmps69
    go_wp2_with fail
    go_loopw [7] (fun iv wr => ∃ i : Int, iv = .int .u64 i ∧ s ≤ i ∧ i ≤ t ∧ Hid (MapIs wr numElem bm n (cutM M s.toNat i.toNat)) ∧ Hid (w.grownBy wr (some bm))) (fun iv _ => (t - intOf iv).toNat)
    case atStart => exact ⟨s, rfl, Int.le_refl _, hst, hide (by have e : cutM M s.toNat s.toNat = M := (by funext q; unfold cutM; rw [if_neg (by omega)]); rw [e]; exact H.out), hide ⟨rfl, rfl, rfl, Nat.le_refl _, fun _ _ _ => rfl⟩⟩
    case round =>
      obtain ⟨i, rfl, i1, i2, hM, hG⟩ := hrel
      by_cases lt : i < t
      · obtain ⟨w2, hdel, m2, g2⟩ := hM.out.del (ty := 0) Try.underlying48 i.toNat (by omega)
        rw [show ((i.toNat : Nat) : Int) = i by omega] at hdel
        have NX : Hid (MapIs w2 numElem bm n (cutM M s.toNat (i + 1).toNat)) := by
          have e : cutM M s.toNat (i + 1).toNat = (fun q => if q = i.toNat then 0 else cutM M s.toNat i.toNat q) := by
            funext q
            unfold cutM
            by_cases d : q = i.toNat
            · rw [if_pos d, if_pos (by omega)]
            · rw [if_neg d]
              by_cases d2 : s.toNat ≤ q ∧ q < i.toNat
              · rw [if_pos d2, if_pos (by omega)]
              · rw [if_neg d2, if_neg (by omega)]
          rw [e]; exact m2
        have G2 : Hid (w.grownBy w2 (some bm)) := hide (hG.out.andThen g2 (fun j hj => by cases hj; exact Or.inr rfl))
        clear m2 g2 hM
        go_wp2_with fail
        go_roundw
        case rel => exact ⟨i + 1, rfl, by omega, by omega, NX, G2⟩
        case measure => simp [intOf]; omega
      · obtain rfl : i = t := by omega
        go_wp2_with fail
        go_end0
        exact ⟨rfl, hM, hG⟩
end Go.Proofs.Ytlfcnaalkjpgnaa

/- The landed package's words: forget, zero. -/
namespace Go.Proofs.Ytlfcnaalkjpgnaa
open Go.ChangeShapes Go.WideShapes Go.ChangeAt Go.RowKit Go.Proofs.Sp Go.Maps

theorem words_cut {w w1 w2 : World} {b bp bf n : Nat} {MP MF : Nat → Nat} {A : Nat → Nat → Nat} (h : WordsM w b bp bf n MP MF A) {s t : Nat} (g1 : w.grownBy w1 (some bp)) (m1 : MapIs w1 ptrElem bp n (cutM MP s t)) (g2 : w1.grownBy w2 (some bf)) (m2 : MapIs w2 numElem bf n (cutM MF s t)) :
    WNow w w2 b bp bf n MP MF (fun _ => True) (fun q j => if s ≤ q ∧ q < t then 0 else wordAt MP MF A q j) (cutM MP s t) (cutM MF s t) A := by
  have hbl := cell_lt h.c8
  have l1 := g1.size
  have nb : ∀ y, y < w.heap.size → y ≠ bp → y ≠ bf → w2.heap[y]? = w.heap[y]? := fun y hy n1 n2 => by rw [g2.block y (by omega) (by simpa using n2)]; exact g1.block y hy (by simpa using n1)
  have hc : ∀ q, cutM MP s t q ≠ 0 → cutM MP s t q = MP q := fun q hq => by
    unfold cutM at hq ⊢
    by_cases c : s ≤ q ∧ q < t
    · rw [if_pos c] at hq; omega
    · rw [if_neg c]
  refine ⟨⟨?_, ?_, ?_, m2, fun q hq => ?_, fun q r hq hqr => ?_, fun q hq => ?_, h.ne⟩, fun q j hj => ?_, ?_, fun q hq => Or.inl ⟨q, (hc q hq).symm⟩, fun q _ a c => ?_⟩
  · rw [World.cell?_of_block (nb b hbl (fun e => h.ne.1 e.symm) (fun e => h.ne.2.1 e.symm))]; exact h.c8
  · rw [World.cell?_of_block (nb b hbl (fun e => h.ne.1 e.symm) (fun e => h.ne.2.1 e.symm))]; exact h.c9
  · exact m1.kept (g2.block bp m1.lt (by simpa using h.ne.2.2))
  · have e := hc q hq
    rw [e] at hq ⊢
    have ar := h.arr q hq
    exact ar.kept (nb _ ar.lt (h.sep q hq).2.1 (h.sep q hq).2.2)
  · have e1 := hc q hq
    have e2 := hc r (by omega)
    exact h.one q r (by omega) (by omega)
  · have e := hc q hq
    rw [e] at hq ⊢
    exact h.sep q hq
  · unfold wordAt cutM
    by_cases c : s ≤ q ∧ q < t
    · simp [c]
    · simp [c]
  · refine ⟨g2.os.trans g1.os, g2.tape.trans g1.tape, g2.output.trans g1.output, Nat.le_trans g1.size g2.size, fun x hx hn => nb x hx (fun e => hn (Or.inl e)) (fun e => hn (Or.inr (Or.inl e)))⟩
  · unfold cutM
    simp [a, c]
set_option maxHeartbeats 1000000 in
theorem forget_cut (b bp bf n : Nat) (MP MF : Nat → Nat) (A : Nat → Nat → Nat) (w : World) (h : WordsM w b bp bf n MP MF A) (hn : n ≤ 4398046511104) (s t : Int) (hs : 0 ≤ s) (hst : s ≤ t) (ht : t < 9223372036854775808) :
    Calls Try.prog 45 #[.pointer (some ⟨b, 8, none⟩), .int .u64 s, .int .u64 t] w fun e w' => e = .returned (.tuple #[]) ∧ Hid (WNow w w' b bp bf n MP MF (fun _ => True) (fun q j => if s.toNat ≤ q ∧ q < t.toNat then 0 else wordAt MP MF A q j) (cutM MP s.toNat t.toNat) (cutM MF s.toNat t.toNat) A) := by
  have c8 := h.c8
  have c9 := h.c9
  have hbl := cell_lt h.c8
  have D1 := hide (drop_ptr bp n MP w h.mp hn s t hs hst ht)
  have H := hide h
  clear h
  obtain ⟨PO, hPO⟩ : ∃ PO : World → Prop, PO = fun w' => WNow w w' b bp bf n MP MF (fun _ => True) (fun q j => if s.toNat ≤ q ∧ q < t.toNat then 0 else wordAt MP MF A q j) (cutM MP s.toNat t.toNat) (cutM MF s.toNat t.toNat) A := ⟨_, rfl⟩
  have PE := hide hPO
  have := congrFun hPO
  suffices Calls Try.prog 45 #[.pointer (some ⟨b, 8, none⟩), .int .u64 s, .int .u64 t] w fun e w' => e = .returned (.tuple #[]) ∧ Hid (PO w') by rw [hPO] at this; exact this
  clear this hPO
  go_enter Try.func45, Try.ntmps45
  go_wp2_with (first
    | (go_at_call 68; refine D1.out.mono ?_; rintro e w1 ⟨rfl, hM1, hG1⟩; have hb9 : w1.cell? ⟨b, 9, none⟩ = some (.map (some bf)) := (by rw [World.cell?_of_block (hG1.out.block b hbl (by have := H.out.ne.1; simp; omega))]; exact c9))
    | (go_at_call 69; refine (drop_num bf n MF _ (H.out.mf.kept (hG1.out.block bf H.out.mf.lt (by have := H.out.ne.2.2; simp; omega))) hn s t hs hst ht).mono ?_; rintro e w2 ⟨rfl, hM2, hG2⟩))
  go_end0
  exact ⟨rfl, hide (by rw [PE.out]; exact words_cut H.out hG1.out hM1.out hG2.out hM2.out)⟩
theorem forget_core (b bp bf n : Nat) (MP MF : Nat → Nat) (A : Nat → Nat → Nat) (w : World) (h : WordsM w b bp bf n MP MF A) (hn : n ≤ 4398046511104) (s t : Int) (hs : 0 ≤ s) (hst : s ≤ t) (ht : t < 9223372036854775808) :
    Calls Try.prog 45 #[.pointer (some ⟨b, 8, none⟩), .int .u64 s, .int .u64 t] w fun e w' => e = .returned (.tuple #[]) ∧ Hid (WPost w w' b bp bf n MP MF (fun _ => True) (fun q j => if s.toNat ≤ q ∧ q < t.toNat then 0 else wordAt MP MF A q j)) :=
  (forget_cut b bp bf n MP MF A w h hn s t hs hst ht).mono fun _ _ ⟨h1, h2⟩ => ⟨h1, hide ⟨_, _, _, h2.out⟩⟩
end Go.Proofs.Ytlfcnaalkjpgnaa
