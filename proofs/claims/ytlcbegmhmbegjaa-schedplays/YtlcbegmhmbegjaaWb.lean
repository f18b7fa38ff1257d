/- Who can go on, whether all have ended, what was said. -/
import Derived.Test.YtlcbegmhmbegjaaWa
namespace Go.Proofs.Ytlcbegmhmbegjaa
open Go.ChangeShapes Go.WideShapes Go.ChangeAt Go.RowKit Go.Proofs.Sc Go.Maps
set_option linter.unusedVariables false
set_option linter.unusedSimpArgs false

variable {w : World} {b : Nat} {S : Sc} {v0 v3 : Value} {bh bc n : Nat} {vs : List Value} {T : Nat → Prop}
theorem infoI : (Try.prog.info? 3).map (fun i => (i.zero, i.size, i.bytes)) = some (some (.int .i64 0), 1, 8) := by kernel_rfl
theorem ints_one (l : List Int) : ∀ u ∈ ints l, u.oneCell' = true := by
  intro u hu
  unfold ints at hu
  obtain ⟨x, _, rfl⟩ := List.mem_map.1 hu
  rfl
theorem done_all (S : Sc) : doneS S = true ↔ ∀ (i : Nat) (t : List Stp), S.ahead[i]? = some t → t = [] := by
  unfold doneS
  rw [List.all_eq_true]
  constructor
  · intro h i t hi
    simpa using h t (List.mem_of_getElem? hi)
  · intro h t ht
    obtain ⟨i, hi⟩ := List.mem_iff_getElem?.1 ht
    simp [h i t hi]
theorem ended_core (l : Lies w b S v0 v3 bh bc n vs T) (hT : S.ahead.length ≤ 64) :
    Calls Try.prog 20 #[.pointer (some ⟨b, 0, none⟩)] w fun e w' => e = .returned (.bool (doneS S)) ∧ w' = w := by
  have c0 := l.c0
  obtain ⟨o, cap, e0, hsh⟩ := l.shape
  subst e0
  obtain ⟨k, hk⟩ : ∃ k, S.ahead.length = k := ⟨_, rfl⟩
  have L := hide l
  have HK := hide hk
  have HS := hide hsh
  rw [hk] at c0 hT
  obtain ⟨PO, hPO⟩ : ∃ PO : Ending → World → Prop, PO = fun e w' => e = .returned (.bool (doneS S)) ∧ w' = w := ⟨_, rfl⟩
  rw [← hPO]
  have yes : Hid (doneS S = true → PO (.returned (.bool true)) w) := hide (fun h => by rw [hPO, h]; exact ⟨rfl, rfl⟩)
  have no : Hid (doneS S ≠ true → PO (.returned (.bool false)) w) := hide (fun h => by rw [hPO, show doneS S = false by simpa using h]; exact ⟨rfl, rfl⟩)
  clear l hk hsh hPO
  go_enter Try.func20, Try.ntmps20
  go_wp2_with fail
  go_loopw [10] (fun iv wr => ∃ (i : Nat), iv = .int .i64 (i : Int) ∧ i ≤ k ∧ wr = w ∧ Hid (∀ (j : Nat) (t : List Stp), j < i → S.ahead[j]? = some t → t = [])) (fun iv _ => k - (intOf iv).toNat)
  case atStart => exact ⟨0, rfl, Nat.zero_le _, rfl, hide (fun j t hj => by omega)⟩
  case round =>
    obtain ⟨i, rfl, hi, rfl, hd⟩ := hrel
    by_cases hlt : i < k
    · have hil : i < S.ahead.length := by rw [HK.out]; exact hlt
      obtain ⟨g, cap', v, e1, cv, hvi, hv, hfz⟩ := L.out.at (List.getElem?_eq_getElem hil)
      obtain ⟨o2, cap2, rfl, h2, h3, hrest⟩ := hv
      injection e1 with e1a e1b e1c
      subst e1a
      have c1 : (i : Int) < (k : Int) := by omega
      have i0 : (0 : Int) ≤ (i : Int) := by omega
      obtain ⟨j, hj⟩ : ∃ j, (S.ahead[i]).length = j := ⟨_, rfl⟩
      rw [hj] at cv h2
      have HJ := hide hj
      clear hvi hfz hrest e1b e1c hj
      by_cases z : 0 < j
      · have d : decide ((j : Int) > 0) = true := decide_eq_true (by omega)
        have nd : Hid (doneS S ≠ true) := hide (fun h => by
          have := (done_all S).1 h i _ (List.getElem?_eq_getElem hil)
          have hj := HJ.out
          rw [this] at hj
          simp at hj; omega)
        clear HJ hil
        go_wp2_with fail
        exact no.out nd.out
      · have d : decide ((j : Int) > 0) = false := decide_eq_false (by omega)
        have nx : Hid (∀ (j : Nat) (t : List Stp), j < i + 1 → S.ahead[j]? = some t → t = []) := hide (fun q t hq hh => by
          by_cases e : q = i
          · subst e
            rw [List.getElem?_eq_getElem hil] at hh
            cases hh
            have hj := HJ.out
            exact List.eq_nil_of_length_eq_zero (by omega)
          · exact hd.out q t (by omega) hh)
        clear HJ hil hd
        go_wp2_with fail
        go_roundw
        case rel => exact ⟨i + 1, by go_num, by omega, trivial, nx⟩
        case measure => simp [intOf]; omega
    · obtain rfl : i = k := by omega
      have yd : Hid (doneS S = true) := hide ((done_all S).2 fun j t hj => hd.out j t (by rw [← HK.out]; exact (List.getElem?_eq_some_iff.1 hj).1) hj)
      clear hd
      go_wp2_with fail
      exact yes.out yd.out

def nats (l : List Nat) : List Value := l.map fun i : Nat => Value.int .i64 (i : Int)
theorem nats_one (l : List Nat) : ∀ u ∈ nats l, u.oneCell' = true := by
  intro u hu
  unfold nats at hu
  obtain ⟨x, _, rfl⟩ := List.mem_map.1 hu
  rfl
theorem nats_len (l : List Nat) : (nats l).length = l.length := by simp [nats]
theorem ables_next (S : Sc) (i : Nat) : ablesTo S (i + 1) = ablesTo S i ++ if canS S (S.ahead.getD i []) then [i] else [] := by
  unfold ablesTo
  rw [List.range_succ, List.filter_append]
  congr 1
  simp only [List.filter_cons, List.filter_nil]
theorem ables_le (S : Sc) (i : Nat) : (ablesTo S i).length ≤ i := by
  have := List.length_filter_le (fun i => canS S (S.ahead.getD i [])) (List.range i)
  simpa [ablesTo] using this
/-- What Enabled answers, and leaves. -/
def AblesP (S : Sc) (w : World) (e : Ending) (w' : World) : Prop := ∃ v, e = .returned v ∧ w'.ownsRow w.heap.size 3 1 v (ableS S).length (nats (ableS S)) ∧ Below w.heap.size w w'
set_option maxRecDepth 100000 in
theorem enabled_core (l : Lies w b S v0 v3 bh bc n vs T) (wf : Wf S) :
    Calls Try.prog 18 #[.pointer (some ⟨b, 0, none⟩)] w (AblesP S w) := by
  have c0 := l.c0
  have c4 := l.c4
  have hT := wf.tasks
  have hbl := cell_lt c0
  obtain ⟨i0, hi0, hz0, hz1, hz2⟩ := info_parts infoI
  by_cases ov : S.over = true
  · have FN : Hid (AblesP S w (.returned (.slice none 0 0)) w) := hide ⟨_, rfl, by
      rw [show ableS S = [] by unfold ableS; rw [if_pos ov]]
      exact World.ownsRow_nil w w.heap.size 3 1, Below.refl _ _⟩
    rw [ov] at c4
    clear l ov
    go_enter Try.func18, Try.ntmps18
    go_wp2_with fail
    go_ret
    exact FN.out
  · have ov' : S.over = false := by simpa using ov
    rw [ov'] at c4
    obtain ⟨o, cap, e0, hsh⟩ := l.shape
    subst e0
    obtain ⟨k, hk⟩ : ∃ k, S.ahead.length = k := ⟨_, rfl⟩
    have L := hide l
    have HK := hide hk
    have HW := hide wf
    rw [hk] at c0 hT
    have FN : Hid (∀ v w', w'.ownsRow w.heap.size 3 1 v (ablesTo S k).length (nats (ablesTo S k)) → Below w.heap.size w w' → AblesP S w (.returned v) w') := hide (fun v w' h1 h2 => ⟨v, rfl, by
      rw [show ableS S = ablesTo S k by unfold ableS; rw [if_neg ov, hk]]
      exact h1, h2⟩)
    clear l hk hsh wf ov ov'
    go_enter Try.func18, Try.ntmps18
    go_wp2_with fail
    go_loopw [3, 16] (fun vv iv wr => ∃ (i m : Nat), iv = .int .i64 (i : Int) ∧ i ≤ k ∧ m ≤ i ∧ Hid (m = (ablesTo S i).length) ∧ Hid (wr.ownsRow w.heap.size 3 1 vv m (nats (ablesTo S i))) ∧ Hid (Below w.heap.size w wr)) (fun _ iv _ => k - (intOf iv).toNat)
    case atStart => exact ⟨0, 0, rfl, Nat.zero_le _, Nat.zero_le _, hide rfl, hide (World.ownsRow_nil w w.heap.size 3 1), hide (Below.refl _ _)⟩
    case round =>
      obtain ⟨i, m, rfl, hi, hm, hme, hown, hB⟩ := hrel
      by_cases hlt : i < k
      · have hil : i < S.ahead.length := by rw [HK.out]; exact hlt
        obtain ⟨g, cap', v, e1, cv, hvi, hv, hfz⟩ := L.out.at (List.getElem?_eq_getElem hil)
        obtain ⟨o2, cap2, rfl, h2, h3, h4, h5⟩ := hv
        injection e1 with e1a e1b e1c
        subst e1a
        have hgl := cell_lt cv
        have cv' := (hB.out.cell (p := ⟨g, i, none⟩) hgl).trans cv
        have c1 : (i : Int) < (k : Int) := by omega
        have i0' : (0 : Int) ≤ (i : Int) := by omega
        have NX := hide (ables_next S i)
        have eg : S.ahead.getD i [] = S.ahead[i] := by rw [List.getD_eq_getElem?_getD, List.getElem?_eq_getElem hil]; rfl
        have hmem : S.ahead[i] ∈ S.ahead := List.getElem_mem hil
        rw [eg] at NX
        clear cv hvi hfz e1b e1c eg hgl
        cases ht : S.ahead[i] with
        | nil =>
          rw [ht] at cv' h2 NX
          have d : decide (((([] : List Stp).length : Nat) : Int) > 0) = false := rfl
          have E : Hid (ablesTo S (i + 1) = ablesTo S i) := hide (by rw [NX.out]; simp [canS])
          clear h5 ht hmem NX
          go_wp2_with fail
          go_roundw
          case rel => exact ⟨i + 1, m, by go_num, by omega, by omega, by rw [E.out]; exact hme, by rw [E.out]; exact hown, hB⟩
          case measure => simp [intOf]; omega
        | cons s r =>
          rw [ht] at h5 cv' h2 NX hmem
          obtain ⟨gs, off, rfl, _, hgs, hc⟩ := h5 (by simp)
          obtain ⟨k0, k1, k2⟩ := hc 0 s rfl
          rw [Nat.zero_mul, Nat.add_zero] at k0 k1 k2
          have k0' := (hB.out.cell (p := ⟨gs, off, none⟩) hgs).trans k0
          have k1' := (hB.out.cell (p := ⟨gs, off + 1, none⟩) hgs).trans k1
          have k2' := (hB.out.cell (p := ⟨gs, off + 2, none⟩) hgs).trans k2
          have hok := HW.out.ok _ hmem s (by simp)
          have L' := hide (L.out.below hB.out)
          have WC := hide (fun (w' : World) (hw' : w' = wr) => by subst hw'; exact waits_core L'.out s hok (HW.out.cell _))
          obtain ⟨op, a, x⟩ := s
          simp only at k0' k1' k2'
          obtain ⟨j, hj⟩ : ∃ j, ((⟨op, a, x⟩ : Stp) :: r).length = j := ⟨_, rfl⟩
          have j0 : 0 < j := by rw [← hj]; simp
          rw [hj] at cv' h2
          have d : decide ((j : Int) > 0) = true := decide_eq_true (by omega)
          have j1 : (0 : Int) < (j : Int) := by omega
          clear hc k0 k1 k2 h4 h5 ht hmem hok hj hgs
          obtain ⟨q, hq⟩ : ∃ q, waitsS S ⟨op, a, x⟩ = q := ⟨_, rfl⟩
          have HQ := hide hq
          clear hq
          go_wp2_with fail
          refine (WC.out _ rfl).mono ?_
          rintro e w1 ⟨rfl, B1⟩
          rw [HQ.out]
          have B2 := hide (hB.out.trans (B1.mono hB.out.size))
          have own1 := hide (owns_kept hown.out (w' := w1) (fun x hx => B1.block x (hown.out.lt x hx).2))
          clear B1 WC L' hown cv' k0' k1' k2'
          cases q with
          | true =>
            have E : Hid (ablesTo S (i + 1) = ablesTo S i) := hide (by rw [NX.out]; simp [canS, HQ.out])
            go_wp2_with fail
            go_roundw
            case rel => exact ⟨i + 1, m, by go_num, by omega, by omega, by rw [E.out]; exact hme, by rw [E.out]; exact own1, B2⟩
            case measure => simp [intOf]; omega
          | false =>
            have E : Hid (ablesTo S (i + 1) = ablesTo S i ++ [i]) := hide (by rw [NX.out]; simp [canS, HQ.out])
            go_wp2_with (first | (at_builtin; refine wpList_append_own _ rfl (.tmp 32) (.tmp 34) 23 rfl w.heap.size 3 i0 (.int .i64 0) 1 8 Try.underlying23 hi0 hz0 hz1 hz2 rfl (by decide) _ m _ rfl (own1.out.alloc _) ⟨w1.heap.size, 0, none⟩ 1 1 [.int .i64 (i : Int)] rfl rfl (World.news_of_block (heap_alloc_new _ _)) (by intro u hu; simp at hu; subst hu; rfl) (by unfold maxLen; omega) (by omega) (by have := B2.out.size; simp; omega) ?_; intro v' w2 hown2 hgrow hnil; have O2 := hide hown2; have G2 := hide hgrow; clear hown2 hgrow hnil))
            go_roundw
            case rel =>
              refine ⟨i + 1, m + 1, by go_num, by omega, by omega, hide (by rw [E.out, hme.out]; simp), ?_, ?_⟩
              · rw [E.out]
                have := O2.out
                rw [show nats (ablesTo S i ++ [i]) = nats (ablesTo S i) ++ [.int .i64 (i : Int)] by simp [nats]]
                exact hide this
              · refine hide ((B2.out.alloc B2.out.size _).grown G2.out (by have := B2.out.size; simp; omega) (fun x hx => (own1.out.lt x hx).1))
            case measure => simp [intOf]; omega
      · obtain rfl : i = k := by omega
        have FN2 : Hid _ := hide (FN.out _ _ (by rw [← hme.out]; exact hown.out) hB.out)
        clear FN hown hme
        go_wp2_with fail
        go_ret
        exact FN2.out
end Go.Proofs.Ytlcbegmhmbegjaa
