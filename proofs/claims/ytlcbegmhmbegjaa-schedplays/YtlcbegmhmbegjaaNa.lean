/- Which tasks are taken. -/
import Derived.Test.YtlcbegmhmbegjaaGo
namespace Go.Proofs.Ytlcbegmhmbegjaa
open Go.ChangeShapes Go.WideShapes Go.ChangeAt Go.RowKit Go.Proofs.Sc Go.Maps
set_option linter.unusedVariables false
set_option linter.unusedSimpArgs false

variable {w : World}
theorem TasksAt.at {v : Value} {L : List (List Stp)} (h : TasksAt w v L) {i : Nat} {t : List Stp} (hi : L[i]? = some t) :
    ∃ g off cap o n c, v = .slice (some ⟨g, off, none⟩) L.length cap ∧ L.length ≤ cap ∧ g < w.heap.size ∧ w.cell? ⟨g, off + i, none⟩ = some (.slice o n c) ∧ n = t.length ∧ n ≤ c ∧ c ≤ 9223372036854775807 ∧ StepsAt w (.slice o n c) t (fun _ => True) := by
  obtain ⟨o, cap, rfl, h2, h3, h4, h5⟩ := h
  obtain ⟨g, off, rfl, hg, hc⟩ := h5 (fun z => by rw [z] at hi; simp at hi)
  obtain ⟨u, hu, hs⟩ := hc i _ hi
  have HS := hs
  obtain ⟨o', c', rfl, k1, k2, k3, k4⟩ := hs
  exact ⟨g, off, cap, o', _, c', rfl, h2, hg, hu, rfl, k1, k2, HS⟩
theorem TasksAt.shape {v : Value} {L : List (List Stp)} (h : TasksAt w v L) : ∃ o cap, v = .slice o L.length cap ∧ L.length ≤ cap ∧ cap ≤ 9223372036854775807 := by
  obtain ⟨o, cap, rfl, h2, h3, h4, h5⟩ := h
  exact ⟨o, cap, rfl, h2, h3⟩
theorem lens_take {L : List (List Stp)} {i : Nat} (hi : i < L.length) : lens (L.take (i + 1)) = lens (L.take i) + (L[i]).length := by
  rw [List.take_succ_eq_append_getElem hi, lens_append]; simp [lens]
theorem lens_take_le (L : List (List Stp)) (i : Nat) : lens (L.take i) ≤ lens L := by
  have := lens_append (L.take i) (L.drop i)
  rw [List.take_append_drop] at this
  omega
theorem lens_part {L : List (List Stp)} {i : Nat} (hi : i < L.length) : (L[i]).length ≤ lens L := by
  have := lens_take hi
  have := lens_take_le L (i + 1)
  omega
def LongP (L : List (List Stp)) (w : World) (e : Ending) (w' : World) : Prop := e = .returned (.bool (decide (64 < L.length ∨ 10000 < lens L))) ∧ w' = w
theorem LongP.yes {L : List (List Stp)} (h : 64 < L.length ∨ 10000 < lens L) : LongP L w (.returned (.bool true)) w := ⟨by rw [decide_eq_true h], rfl⟩
theorem LongP.no {L : List (List Stp)} (h : ¬ (64 < L.length ∨ 10000 < lens L)) : LongP L w (.returned (.bool false)) w := ⟨by rw [decide_eq_false h], rfl⟩
theorem long_core (v : Value) (L : List (List Stp)) (h : TasksAt w v L) (hm : lens L ≤ 1000000) :
    Calls Try.prog 16 #[v] w (LongP L w) := by
  obtain ⟨o, cap, rfl, h1, h2⟩ := h.shape
  have H := hide h
  obtain ⟨k, hk⟩ : ∃ k, L.length = k := ⟨_, rfl⟩
  have HK := hide hk
  rw [hk] at h1 ⊢
  have HM := hide hm
  clear h hk hm
  by_cases c : 64 < k
  · have d : decide ((k : Int) > 64) = true := decide_eq_true (by omega)
    have Y := hide (LongP.yes (w := w) (L := L) (Or.inl (by rw [HK.out]; exact c)))
    clear H
    go_enter Try.func16, Try.ntmps16
    go_wp2_with fail
    first | exact Y.out | (go_ret; exact Y.out)
  · have d : decide ((k : Int) > 64) = false := decide_eq_false (by omega)
    go_enter Try.func16, Try.ntmps16
    go_wp2_with fail
    go_loopw [3, 11] (fun sv iv wr => ∃ (i s : Nat), sv = .int .i64 (s : Int) ∧ iv = .int .i64 (i : Int) ∧ i ≤ k ∧ s ≤ 1000000 ∧ Hid (s = lens (L.take i)) ∧ wr = w) (fun _ iv _ => k - (intOf iv).toNat)
    case atStart => exact ⟨0, 0, rfl, rfl, Nat.zero_le _, by omega, hide (by simp [lens]), rfl⟩
    case round =>
      obtain ⟨i, s, rfl, rfl, hi, hs, hse, rfl⟩ := hrel
      by_cases hlt : i < k
      · have hil : i < L.length := by rw [HK.out]; exact hlt
        obtain ⟨g, off, cap', o2, n2, c2, e1, _, hg, cv, hn2, h5, h6, _⟩ := H.out.at (List.getElem?_eq_getElem hil)
        injection e1 with e1 e2 e3
        subst e1 e3
        have hle : n2 ≤ 1000000 := by have := lens_part hil; have := HM.out; omega
        have hnx : s + n2 = lens (L.take (i + 1)) := by rw [lens_take hil, ← hse.out, hn2]
        have hs2 : s + n2 ≤ 1000000 := by rw [hnx]; have := lens_take_le L (i + 1); have := HM.out; omega
        have HN := hide hnx
        have i1 : (i : Int) < (k : Int) := by omega
        have i2 : (0 : Int) ≤ (i : Int) := by omega
        clear hnx hn2 e2 hse
        go_wp2_with fail
        go_roundw
        case rel => exact ⟨i + 1, s + n2, by go_num, by go_num, by omega, by omega, HN, trivial⟩
        case measure => simp [intOf]; omega
      · obtain rfl : i = k := by omega
        have el : s = lens L := by rw [hse.out, ← HK.out, List.take_length]
        by_cases c2 : 10000 < s
        · have d2 : decide ((s : Int) > 10000) = true := decide_eq_true (by omega)
          have Y := hide (LongP.yes (w := wr) (L := L) (Or.inr (by rw [← el]; exact c2)))
          clear el
          go_wp2_with fail
          first | exact Y.out | (go_ret; exact Y.out)
        · have d2 : decide ((s : Int) > 10000) = false := decide_eq_false (by omega)
          have Y := hide (LongP.no (w := wr) (L := L) (by rw [← el, HK.out]; omega))
          clear el
          go_wp2_with fail
          first | exact Y.out | (go_ret; exact Y.out)
open Classical in
def KnownP (L : List (List Stp)) (w : World) (e : Ending) (w' : World) : Prop := e = .returned (.bool (decide (AllKnown L))) ∧ Below w.heap.size w w'
open Classical in
theorem KnownP.yes {L : List (List Stp)} (h : AllKnown L) {w' : World} (hb : Below w.heap.size w w') : KnownP L w (.returned (.bool true)) w' := ⟨by rw [decide_eq_true h], hb⟩
open Classical in
theorem KnownP.no {L : List (List Stp)} (h : ¬ AllKnown L) {w' : World} (hb : Below w.heap.size w w') : KnownP L w (.returned (.bool false)) w' := ⟨by rw [decide_eq_false h], hb⟩
def KnownTo (L : List (List Stp)) (i : Nat) : Prop := ∀ (j : Nat) (t : List Stp), j < i → L[j]? = some t → ∀ s ∈ t, Known s
theorem known_all {L : List (List Stp)} (h : KnownTo L L.length) : AllKnown L := fun t ht s hs => by
  obtain ⟨j, hj⟩ := List.mem_iff_getElem?.1 ht
  exact h j t (List.getElem?_eq_some_iff.1 hj).1 hj s hs
theorem KnownTo.next {L : List (List Stp)} {i : Nat} (h : KnownTo L i) (hi : i < L.length) {t0 : List Stp} (ht0 : L[i]? = some t0) (hk : ∀ (k : Nat) (s : Stp), k < t0.length → t0[k]? = some s → Known s) : KnownTo L (i + 1) := fun j t hj ht s hs => by
  by_cases e : j = i
  · subst e
    rw [ht0] at ht
    cases ht
    obtain ⟨k, hkk⟩ := List.mem_iff_getElem?.1 hs
    exact hk k s (List.getElem?_eq_some_iff.1 hkk).1 hkk
  · exact h j t (by omega) ht s hs
set_option maxRecDepth 100000 in
theorem known_core (v : Value) (L : List (List Stp)) (h : TasksAt w v L) (hm : lens L ≤ 1000000) (hl : L.length ≤ 64) (hok : ∀ t ∈ L, ∀ s ∈ t, s.Ok) :
    Calls Try.prog 17 #[v] w (KnownP L w) := by
  obtain ⟨o, cap, rfl, h1, h2⟩ := h.shape
  have H := hide h
  obtain ⟨k, hk⟩ : ∃ k, L.length = k := ⟨_, rfl⟩
  have HK := hide hk
  have OK := hide hok
  rw [hk] at h1 hl ⊢
  have HM := hide hm
  clear h hk hm hok
  go_enter Try.func17, Try.ntmps17
  go_wp2_with fail
  go_loopw [9] (fun iv wr => ∃ (i : Nat), iv = .int .i64 (i : Int) ∧ i ≤ k ∧ Hid (KnownTo L i) ∧ Hid (Below w.heap.size w wr)) (fun iv _ => k - (intOf iv).toNat)
  case atStart => exact ⟨0, rfl, Nat.zero_le _, hide (fun j t hj => by omega), hide (Below.refl _ _)⟩
  case round =>
    obtain ⟨i, rfl, hi, hkn, hB⟩ := hrel
    by_cases hlt : i < k
    · have hil : i < L.length := by rw [HK.out]; exact hlt
      have hpt := lens_part hil
      obtain ⟨t, ht⟩ : ∃ t, L[i]? = some t := ⟨_, List.getElem?_eq_getElem hil⟩
      obtain ⟨g, off, cap', o2, n2, c2, e1, _, hg, cv, hn2, h5, h6, hst⟩ := H.out.at ht
      have htm : t ∈ L := List.mem_of_getElem? ht
      injection e1 with e1 e2 e3
      subst e1 e3
      have hle : n2 ≤ 1000000 := by
        have := HM.out
        rw [List.getElem?_eq_getElem hil] at ht
        cases ht
        omega
      have cv' := (hB.out.cell (p := ⟨g, off + i, none⟩) hg).trans cv
      have i1 : (i : Int) < (k : Int) := by omega
      have i2 : (0 : Int) ≤ (i : Int) := by omega
      have HST := hide hst
      have HN2 := hide hn2
      have HIL := hide hil
      have HT := hide ht
      have HTM := hide htm
      clear e2 cv hst hn2 hpt hil ht htm
      go_wp2_with fail
      go_loopw [15] (fun jv wr => ∃ (j : Nat), jv = .int .i64 (j : Int) ∧ j ≤ n2 ∧ Hid (∀ (q : Nat) (s : Stp), q < j → t[q]? = some s → Known s) ∧ Hid (Below w.heap.size w wr)) (fun jv _ => n2 - (intOf jv).toNat)
      case atStart => exact ⟨0, rfl, Nat.zero_le _, hide (fun q s hq => by omega), hB⟩
      case round =>
        obtain ⟨j, rfl, hj, hkj, hB2⟩ := hrel
        by_cases hjl : j < n2
        · have hjl' : j < t.length := by rw [← HN2.out]; exact hjl
          obtain ⟨o', c', e4, _, _, _, h7⟩ := HST.out
          obtain ⟨gs, off2, e5, _, hgs, hc⟩ := h7 (fun z => by rw [z] at hjl'; simp at hjl')
          subst e5
          injection e4 with e6 e7 e8
          subst e6
          obtain ⟨s, hs⟩ : ∃ s, t[j]? = some s := ⟨_, List.getElem?_eq_getElem hjl'⟩
          obtain ⟨q0, q1, q2⟩ := hc j s hs
          have hokS := OK.out _ (HTM.out) s (List.mem_of_getElem? hs)
          have q0' := (hB2.out.cell (p := ⟨gs, off2 + j * 3, none⟩) hgs).trans q0
          have q1' := (hB2.out.cell (p := ⟨gs, off2 + j * 3 + 1, none⟩) hgs).trans q1
          have q2' := (hB2.out.cell (p := ⟨gs, off2 + j * 3 + 2, none⟩) hgs).trans q2
          obtain ⟨op, a, x⟩ := s
          obtain ⟨⟨o1, o2⟩, ⟨a1, a2⟩, ⟨x1, x2⟩⟩ := hokS
          simp only at q0' q1' q2' o1 o2 a1 a2 x1 x2
          have HS := hide hs
          have j1 : (j : Int) < (n2 : Int) := by omega
          have j2 : (0 : Int) ≤ (j : Int) := by omega
          clear q0 q1 q2 hc h7 hs e7 e8
          by_cases k1 : op < 1
          · have d1 : decide (op < 1) = true := decide_eq_true k1
            have NK : Hid (¬ AllKnown L) := hide (fun z => by
              have := (z _ (HTM.out) _ (List.mem_of_getElem? HS.out)).1
              simp only at this; omega)
            clear HS HST
            go_wp2_with fail
            have Y := hide (KnownP.no NK.out (hB2.out.alloc hB2.out.size (.cells #[.int .i64 op, .int .i64 a, .int .i64 x] 36)))
            first | exact Y.out | (go_ret; exact Y.out)
          · have d1 : decide (op < 1) = false := decide_eq_false k1
            by_cases k2 : op > 5
            · have d2 : decide (op > 5) = true := decide_eq_true k2
              have NK : Hid (¬ AllKnown L) := hide (fun z => by
                have := (z _ (HTM.out) _ (List.mem_of_getElem? HS.out)).2
                simp only at this; omega)
              clear HS HST
              go_wp2_with fail
              have Y := hide (KnownP.no NK.out (hB2.out.alloc hB2.out.size (.cells #[.int .i64 op, .int .i64 a, .int .i64 x] 36)))
              first | exact Y.out | (go_ret; exact Y.out)
            · have d2 : decide (op > 5) = false := decide_eq_false k2
              have NX : Hid (∀ (q : Nat) (s : Stp), q < j + 1 → t[q]? = some s → Known s) := hide (fun q s hq hh => by
                by_cases e : q = j
                · subst e
                  rw [HS.out] at hh
                  cases hh
                  exact ⟨by simp only; omega, by simp only; omega⟩
                · exact hkj.out q s (by omega) hh)
              clear HS HST hkj
              go_wp2_with fail
              go_roundw
              case rel => exact ⟨j + 1, by go_num, by omega, NX, hide (hB2.out.alloc hB2.out.size _)⟩
              case measure => simp [intOf]; omega
        · obtain rfl : j = n2 := by omega
          have NX := hide (hkn.out.next HIL.out HT.out (fun q s hq => hkj.out q s (by rw [HN2.out]; exact hq)))
          clear hkj hkn HST
          go_wp2_with fail
          go_roundw
          case rel => exact ⟨i + 1, by go_num, by omega, NX, hB2⟩
          case measure => simp [intOf]; omega
    · obtain rfl : i = k := by omega
      have Y := hide (KnownP.yes (known_all (by rw [HK.out]; exact hkn.out)) hB.out)
      clear hkn
      go_wp2_with fail
      first | exact Y.out | (go_ret; exact Y.out)
end Go.Proofs.Ytlcbegmhmbegjaa
