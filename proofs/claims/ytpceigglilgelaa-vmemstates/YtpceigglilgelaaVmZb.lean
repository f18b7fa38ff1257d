/- The landed package's words: drop, forget, zero. -/
import Derived.Test.YtpceigglilgelaaVmZa
import Derived.Maps.Views
namespace Go.Proofs.Ytpceigglilgelaa
open Go.ChangeShapes Go.WideShapes Go.ChangeAt Go.RowKit Go.Proofs.Sp Go.Maps

/-- A map without its keys from s to t. -/
def cutM (M : Nat → Nat) (s t : Nat) (q : Nat) : Nat := if s ≤ q ∧ q < t then 0 else M q
/-- What is left of a map M, where the keys from s to t that have come are struck. -/
def DropRel (M : Nat → Nat) (s t : Nat) (D : DataW Unit) (left : Lit → Bool) : Prop := ∀ p, p < 18446744073709551616 → D.atKey (key p) (dat 0) = dat (if s ≤ p ∧ p < t ∧ left (key p) = false then 0 else M p)
theorem same_key (p x : Nat) : (key p).sameKey (key x) = decide (p = x) := by
  by_cases c : p = x
  · subst c; simp [key, Lit.sameKey]
  · have : ¬ ((p : Int) = (x : Int)) := by omega
    simp [key, Lit.sameKey, c]
    try omega
theorem drop_start {M : Nat → Nat} {s t : Nat} {D : DataW Unit} (h : ∀ p, p < 18446744073709551616 → D.atKey (key p) (dat 0) = dat (M p)) : DropRel M s t D (Maps.has D) := fun p hp => by
  by_cases c : s ≤ p ∧ p < t ∧ Maps.has D (key p) = false
  · rw [if_pos c, atKey_of_not_has c.2.2]
  · rw [if_neg c]; exact h p hp
theorem drop_stay {M : Nat → Nat} {s t : Nat} {D : DataW Unit} {left : Lit → Bool} (h : DropRel M s t D left) {x : Nat} (hx : ¬ (s ≤ x ∧ x < t)) : DropRel M s t D (fun z => left z && !z.sameKey (key x)) := fun p hp => by
  rw [h p hp]
  congr 1
  simp only [same_key]
  by_cases c : p = x
  · subst c; rw [if_neg (fun z => hx ⟨z.1, z.2.1⟩), if_neg (fun z => hx ⟨z.1, z.2.1⟩)]
  · simp [c]
theorem drop_struck {M : Nat → Nat} {s t : Nat} {D : DataW Unit} {left : Lit → Bool} (h : DropRel M s t D left) {x : Nat} (hx : s ≤ x ∧ x < t) : DropRel M s t (D.del (key x)) (fun z => left z && !z.sameKey (key x)) := fun p hp => by
  by_cases c : p = x
  · subst c
    rw [atKey_del_same, if_pos ⟨hx.1, hx.2, by simp [same_key]⟩]
  · rw [atKey_del_other (fun z => c (key_inj z)), h p hp]
    simp [same_key, c]
theorem drop_end {M : Nat → Nat} {s t : Nat} {D : DataW Unit} {left : Lit → Bool} (h : DropRel M s t D left) (hl : ∀ kl, left kl = false) : ∀ p, p < 18446744073709551616 → D.atKey (key p) (dat 0) = dat (cutM M s t p) := fun p hp => by
  rw [h p hp]; simp [hl, cutM]
theorem u64_wf {x : Int} (h : (Lit.int .u64 x).wf = true) : 0 ≤ x ∧ x < 18446744073709551616 := by
  simp [Lit.wf, IntKind.min, IntKind.max, IntKind.bits, IntKind.signed] at h
  omega
theorem ptr_inv (v : Value) (y : DataW Unit × List MemPlace) (h : ptrElem v = some y) : ∃ c, v = Value.pointer c := by
  unfold ptrElem at h
  split at h
  · exact ⟨_, rfl⟩
  · exact ⟨_, rfl⟩
  · cases h
theorem num_inv (v : Value) (y : DataW Unit × List MemPlace) (h : numElem v = some y) : ∃ c, v = Value.int .u64 c := by
  unfold numElem at h
  split at h
  · exact ⟨_, rfl⟩
  · cases h

set_option maxRecDepth 100000 in
set_option maxHeartbeats 4000000 in
theorem drop_ptr (bm n : Nat) (M : Nat → Nat) (w : World) (h : MapIs w ptrElem bm n M) (hn : n ≤ 4398046511104) (s t : Int) (hs : 0 ≤ s) (hst : s ≤ t) (ht : t < 9223372036854775808) :
    Calls Try.prog 68 #[.map (some bm), .int .u64 s, .int .u64 t] w fun e w' => e = .returned (.tuple #[]) ∧ Hid (MapIs w' ptrElem bm n (cutM M s.toNat t.toNat)) ∧ Hid (w.grownBy w' (some bm)) := by
  obtain ⟨k, hk, hlen⟩ := h.len (ty := 3) Try.underlying59
  have hk' : (k : Int) ≤ 4398046511104 := by omega
  have H := hide h
  by_cases c : (k : Int) < t - s
  · obtain ⟨D, hown, hM⟩ := h
    have ST := hide (drop_start (s := s.toNat) (t := t.toNat) hM)
    clear hM H
    go_enter Try.func68, Try.ntmps68
    go_wp2_with (first
      | (at_range; refine wpList_range_own _ rfl _ 59 rfl 23 104 keyU Try.underlying59 ptrElem bm n _ rfl hown ?_; intro w0 hrg0 hg0 hs0)
      | go_in)
    go_frame
    go_loopw [17] (fun _ wr => ∃ (D : DataW Unit) (left : Lit → Bool) (cnt : Nat), wr.ranges Try.prog 23 ptrElem bm w.heap.size n D left cnt ∧ Hid (DropRel M s.toNat t.toNat D left) ∧ w.grownBy wr (some bm))
      (fun _ wr => wr.rangeLeft bm w.heap.size)
    case atStart => exact ⟨_, _, _, hrg0, ST, hg0.but _⟩
    case round =>
      obtain ⟨D1, left, cnt, hrg, hrel1, hgw⟩ := hrel
      go_wp2_with (first
        | (at_next; refine wpList_next_ranges _ rfl _ rfl 23 keyU ptrElem (Value.int .u64) Value.pointer (fun key _ hkey => by obtain ⟨x, rfl, _⟩ := Maps.keyOf_int_inv Try.underlying23 hkey; exact ⟨x, rfl⟩) ptr_inv bm w.heap.size n _ _ _ rfl hrg ?_ ?_)
        | go_in)
      · intro _ hl0
        have FIN := hide (drop_end hrel1.out hl0)
        have OW := hide hrg.owns
        clear hl0
        go_wp2
        ((try simp only [Exit.inBlock, Exit.then]); refine bodyPost_ret (results_none rfl _ _ _) rfl ?_)
        exact ⟨rfl, hide ⟨_, OW.out, FIN.out⟩, hide hgw⟩
      · intro x v kl yd yp w1 cnt1 hkey hlx hv hat hrg1 hlt hg1 hs1 hen
        have hgw1 := hgw.andThen hg1 (fun j hj => by cases hj; exact Or.inl (Nat.le_refl _))
        obtain ⟨x', ex, rfl, hwx⟩ := Maps.keyOf_int_inv Try.underlying23 hkey
        cases ex
        have hx0 := (u64_wf hwx).1
        have hx1 := (u64_wf hwx).2
        obtain ⟨z, rfl⟩ : ∃ z : Nat, x = (z : Int) := ⟨x.toNat, by omega⟩
        clear hv hat hlx
        by_cases c1 : s ≤ (z : Int)
        · by_cases c2 : (z : Int) < t
          · have hkey' := key_of z (by omega)
            have NX := hide (drop_struck hrel1.out (x := z) ⟨by omega, by omega⟩)
            go_wp2_with (first
              | (at_delete; refine wpList_delete_ranges _ rfl _ _ 59 23 rfl 104 keyU Try.underlying59 ptrElem bm w.heap.size n _ _ _ rfl hrg1 _ _ rfl hkey' ?_; intro w3 cnt3 hrg3 hle hturn; go_frame)
              | go_in)
            rw [show (Lit.int .u64 (z : Int)) = key z from rfl, strike_twice] at hrg3
            go_roundw
            case rel => exact ⟨_, _, cnt3, hrg3, NX, hgw1.andThen hturn.grown (fun j hj => by cases hj; exact Or.inr rfl)⟩
            case measure => rw [hrg3.left_eq, hrg.left_eq]; omega
          · have NX := hide (drop_stay hrel1.out (x := z) (by omega))
            go_wp2_with fail
            go_roundw
            case rel => exact ⟨_, _, cnt1, hrg1, NX, hgw1⟩
            case measure => rw [hrg1.left_eq, hrg.left_eq]; exact hlt
        · have NX := hide (drop_stay hrel1.out (x := z) (by omega))
          go_wp2_with fail
          go_roundw
          case rel => exact ⟨_, _, cnt1, hrg1, NX, hgw1⟩
          case measure => rw [hrg1.left_eq, hrg.left_eq]; exact hlt
  · clear h
    go_enter Try.func68, Try.ntmps68
    go_wp2_with fail
    go_loopw [7] (fun iv wr => ∃ i : Int, iv = .int .u64 i ∧ s ≤ i ∧ i ≤ t ∧ Hid (MapIs wr ptrElem bm n (cutM M s.toNat i.toNat)) ∧ Hid (w.grownBy wr (some bm))) (fun iv _ => (t - intOf iv).toNat)
    case atStart => exact ⟨s, rfl, Int.le_refl _, hst, hide (by have e : cutM M s.toNat s.toNat = M := (by funext q; unfold cutM; rw [if_neg (by omega)]); rw [e]; exact H.out), hide ⟨rfl, rfl, rfl, Nat.le_refl _, fun _ _ _ => rfl⟩⟩
    case round =>
      obtain ⟨i, rfl, i1, i2, hM, hG⟩ := hrel
      by_cases lt : i < t
      · obtain ⟨w2, hdel, m2, g2⟩ := hM.out.del (ty := 0) Try.underlying59 i.toNat (by omega)
        rw [show ((i.toNat : Nat) : Int) = i by omega] at hdel
        have NX : Hid (MapIs w2 ptrElem bm n (cutM M s.toNat (i + 1).toNat)) := by
          have e : cutM M s.toNat (i + 1).toNat = (fun q => if q = i.toNat then 0 else cutM M s.toNat i.toNat q) := by
            funext q
            unfold cutM
            by_cases d : q = i.toNat
            · rw [if_pos d, if_pos (by omega)]
            · rw [if_neg d]
              by_cases d2 : s.toNat ≤ q ∧ q < i.toNat
              · rw [if_pos d2, if_pos (by omega)]
              · rw [if_neg d2, if_neg (by omega)]
          rw [e]; exact m2
        have G2 : Hid (w.grownBy w2 (some bm)) := hide (hG.out.andThen g2 (fun j hj => by cases hj; exact Or.inr rfl))
        clear m2 g2 hM
        go_wp2_with fail
        go_roundw
        case rel => exact ⟨i + 1, rfl, by omega, by omega, NX, G2⟩
        case measure => simp [intOf]; omega
      · obtain rfl : i = t := by omega
        go_wp2_with fail
        go_end0
        exact ⟨rfl, hM, hG⟩

set_option maxRecDepth 100000 in
set_option maxHeartbeats 4000000 in
theorem drop_num (bm n : Nat) (M : Nat → Nat) (w : World) (h : MapIs w numElem bm n M) (hn : n ≤ 4398046511104) (s t : Int) (hs : 0 ≤ s) (hst : s ≤ t) (ht : t < 9223372036854775808) :
    Calls Try.prog 69 #[.map (some bm), .int .u64 s, .int .u64 t] w fun e w' => e = .returned (.tuple #[]) ∧ Hid (MapIs w' numElem bm n (cutM M s.toNat t.toNat)) ∧ Hid (w.grownBy w' (some bm)) := by
  obtain ⟨k, hk, hlen⟩ := h.len (ty := 3) Try.underlying60
  have hk' : (k : Int) ≤ 4398046511104 := by omega
  have H := hide h
  by_cases c : (k : Int) < t - s
  · obtain ⟨D, hown, hM⟩ := h
    have ST := hide (drop_start (s := s.toNat) (t := t.toNat) hM)
    clear hM H
    go_enter Try.func69, Try.ntmps69
    go_wp2_with (first
      | (at_range; refine wpList_range_own _ rfl _ 60 rfl 23 23 keyU Try.underlying60 numElem bm n _ rfl hown ?_; intro w0 hrg0 hg0 hs0)
      | go_in)
    go_frame
    go_loopw [17] (fun _ wr => ∃ (D : DataW Unit) (left : Lit → Bool) (cnt : Nat), wr.ranges Try.prog 23 numElem bm w.heap.size n D left cnt ∧ Hid (DropRel M s.toNat t.toNat D left) ∧ w.grownBy wr (some bm))
      (fun _ wr => wr.rangeLeft bm w.heap.size)
    case atStart => exact ⟨_, _, _, hrg0, ST, hg0.but _⟩
    case round =>
      obtain ⟨D1, left, cnt, hrg, hrel1, hgw⟩ := hrel
      go_wp2_with (first
        | (at_next; refine wpList_next_ranges _ rfl _ rfl 23 keyU numElem (Value.int .u64) (Value.int .u64) (fun key _ hkey => by obtain ⟨x, rfl, _⟩ := Maps.keyOf_int_inv Try.underlying23 hkey; exact ⟨x, rfl⟩) num_inv bm w.heap.size n _ _ _ rfl hrg ?_ ?_)
        | go_in)
      · intro _ hl0
        have FIN := hide (drop_end hrel1.out hl0)
        have OW := hide hrg.owns
        clear hl0
        go_wp2
        ((try simp only [Exit.inBlock, Exit.then]); refine bodyPost_ret (results_none rfl _ _ _) rfl ?_)
        exact ⟨rfl, hide ⟨_, OW.out, FIN.out⟩, hide hgw⟩
      · intro x v kl yd yp w1 cnt1 hkey hlx hv hat hrg1 hlt hg1 hs1 hen
        have hgw1 := hgw.andThen hg1 (fun j hj => by cases hj; exact Or.inl (Nat.le_refl _))
        obtain ⟨x', ex, rfl, hwx⟩ := Maps.keyOf_int_inv Try.underlying23 hkey
        cases ex
        have hx0 := (u64_wf hwx).1
        have hx1 := (u64_wf hwx).2
        obtain ⟨z, rfl⟩ : ∃ z : Nat, x = (z : Int) := ⟨x.toNat, by omega⟩
        clear hv hat hlx
        by_cases c1 : s ≤ (z : Int)
        · by_cases c2 : (z : Int) < t
          · have hkey' := key_of z (by omega)
            have NX := hide (drop_struck hrel1.out (x := z) ⟨by omega, by omega⟩)
            go_wp2_with (first
              | (at_delete; refine wpList_delete_ranges _ rfl _ _ 60 23 rfl 23 keyU Try.underlying60 numElem bm w.heap.size n _ _ _ rfl hrg1 _ _ rfl hkey' ?_; intro w3 cnt3 hrg3 hle hturn; go_frame)
              | go_in)
            rw [show (Lit.int .u64 (z : Int)) = key z from rfl, strike_twice] at hrg3
            go_roundw
            case rel => exact ⟨_, _, cnt3, hrg3, NX, hgw1.andThen hturn.grown (fun j hj => by cases hj; exact Or.inr rfl)⟩
            case measure => rw [hrg3.left_eq, hrg.left_eq]; omega
          · have NX := hide (drop_stay hrel1.out (x := z) (by omega))
            go_wp2_with fail
            go_roundw
            case rel => exact ⟨_, _, cnt1, hrg1, NX, hgw1⟩
            case measure => rw [hrg1.left_eq, hrg.left_eq]; exact hlt
        · have NX := hide (drop_stay hrel1.out (x := z) (by omega))
          go_wp2_with fail
          go_roundw
          case rel => exact ⟨_, _, cnt1, hrg1, NX, hgw1⟩
          case measure => rw [hrg1.left_eq, hrg.left_eq]; exact hlt
  · clear h
    go_enter Try.func69, Try.ntmps69
    go_wp2_with fail
    go_loopw [7] (fun iv wr => ∃ i : Int, iv = .int .u64 i ∧ s ≤ i ∧ i ≤ t ∧ Hid (MapIs wr numElem bm n (cutM M s.toNat i.toNat)) ∧ Hid (w.grownBy wr (some bm))) (fun iv _ => (t - intOf iv).toNat)
    case atStart => exact ⟨s, rfl, Int.le_refl _, hst, hide (by have e : cutM M s.toNat s.toNat = M := (by funext q; unfold cutM; rw [if_neg (by omega)]); rw [e]; exact H.out), hide ⟨rfl, rfl, rfl, Nat.le_refl _, fun _ _ _ => rfl⟩⟩
    case round =>
      obtain ⟨i, rfl, i1, i2, hM, hG⟩ := hrel
      by_cases lt : i < t
      · obtain ⟨w2, hdel, m2, g2⟩ := hM.out.del (ty := 0) Try.underlying60 i.toNat (by omega)
        rw [show ((i.toNat : Nat) : Int) = i by omega] at hdel
        have NX : Hid (MapIs w2 numElem bm n (cutM M s.toNat (i + 1).toNat)) := by
          have e : cutM M s.toNat (i + 1).toNat = (fun q => if q = i.toNat then 0 else cutM M s.toNat i.toNat q) := by
            funext q
            unfold cutM
            by_cases d : q = i.toNat
            · rw [if_pos d, if_pos (by omega)]
            · rw [if_neg d]
              by_cases d2 : s.toNat ≤ q ∧ q < i.toNat
              · rw [if_pos d2, if_pos (by omega)]
              · rw [if_neg d2, if_neg (by omega)]
          rw [e]; exact m2
        have G2 : Hid (w.grownBy w2 (some bm)) := hide (hG.out.andThen g2 (fun j hj => by cases hj; exact Or.inr rfl))
        clear m2 g2 hM
        go_wp2_with fail
        go_roundw
        case rel => exact ⟨i + 1, rfl, by omega, by omega, NX, G2⟩
        case measure => simp [intOf]; omega
      · obtain rfl : i = t := by omega
        go_wp2_with fail
        go_end0
        exact ⟨rfl, hM, hG⟩
end Go.Proofs.Ytpceigglilgelaa
