/- The reference: New. -/
import Derived.Test.YtlcbegmhmbegjaaNu
import Derived.Test.YtlcbegmhmbegjaaHv
import Derived.Test.YtlcbegmhmbegjaaNc
namespace Go.Proofs.Ytlcbegmhmbegjaa
open Go.ChangeShapes Go.WideShapes Go.ChangeAt Go.RowKit Go.Proofs.Sc Go.Maps
set_option linter.unusedVariables false
set_option linter.unusedSimpArgs false

variable {w : World}
/-- What New answers, and leaves. -/
def NewR (L : List (List Stp)) (w : World) (e : Ending) (w' : World) : Prop :=
  (newS L ≠ 0 ∧ e = .returned (.tuple #[.pointer none, .int .i64 (newS L : Nat)]) ∧ Below w.heap.size w w') ∨
  (newS L = 0 ∧ ∃ m F r, e = .returned (.tuple #[.pointer (some m), .int .i64 0]) ∧ absR r = initS L ∧ RI w' m r F ∧ Below w.heap.size w w' ∧ ∀ x, F x → w.heap.size ≤ x)
set_option maxRecDepth 100000 in
set_option maxHeartbeats 4000000 in
theorem newR_core (v : Value) (L : List (List Stp)) (h : TasksAt w v L) (hm : lens L ≤ 1000000) (hok : ∀ t ∈ L, ∀ s ∈ t, s.Ok) :
    Calls Try.prog 8 #[v] w (NewR L w) := by
  have HT := hide h
  have OK := hide hok
  have HM := hide hm
  obtain ⟨o, cap, rfl, h1, h2⟩ := h.shape
  obtain ⟨PO, hPO⟩ : ∃ PO, PO = NewR L w := ⟨_, rfl⟩
  rw [← hPO]
  have HP := hide hPO
  obtain ⟨k, hk⟩ : ∃ k, L.length = k := ⟨_, rfl⟩
  have HK := hide hk
  rw [hk] at h1 ⊢
  clear h hk hPO hm hok
  go_enter Try.func8, Try.ntmps8
  go_wp2_with fail
  go_loopw [4, 5] (fun sv iv wr => ∃ (i s : Nat), sv = .int .i64 (s : Int) ∧ iv = .int .i64 (i : Int) ∧ i ≤ k ∧ s ≤ 1000000 ∧ Hid (s = lens (L.take i)) ∧ wr = w) (fun _ iv _ => k - (intOf iv).toNat)
  case atStart => exact ⟨0, 0, rfl, rfl, Nat.zero_le _, by omega, hide (by simp [lens]), rfl⟩
  case round =>
    obtain ⟨i, s, rfl, rfl, hi, hs, hse, rfl⟩ := hrel
    by_cases hlt : i < k
    · have hil : i < L.length := by rw [HK.out]; exact hlt
      have i1 : (i : Int) < (k : Int) := by omega
      have i2 : (0 : Int) ≤ (i : Int) := by omega
      obtain ⟨g, off, cap', o2, n2, c2, e1, _, hg, cv, hn2, h5, h6, hxx⟩ := HT.out.at (List.getElem?_eq_getElem hil)
      injection e1 with e1 e2 e3
      subst e1 e3
      have hs' : Hid (s + n2 = lens (L.take (i + 1))) := hide (by rw [lens_take hil, hn2, hse.out])
      have hle : s + n2 ≤ 1000000 := by rw [hs'.out]; exact Nat.le_trans (lens_take_le L (i + 1)) HM.out
      clear hse hn2 hxx hil e2
      go_wp2_with fail
      go_roundw
      case rel => exact ⟨i + 1, s + n2, by go_num, by go_num, by omega, hle, hs', trivial⟩
      case measure => simp [intOf]; omega
    · obtain rfl : i = k := by omega
      have d0 : ¬ (i : Int) < (i : Int) := by omega
      have hse' := hse.out
      rw [List.take_of_length_le (by rw [HK.out]; exact Nat.le_refl _)] at hse'
      have HS := hide hse'
      clear hse hse'
      by_cases c : 64 < i ∨ 10000 < s
      · have FN : Hid (PO (.returned (.tuple #[.pointer none, .int .i64 2])) wr) := hide (by
          rw [HP.out]
          have e : newS L = 2 := by unfold newS; rw [if_pos (by rw [HK.out, ← HS.out]; exact c)]
          exact Or.inl ⟨by rw [e]; decide, by rw [e]; rfl, Below.refl _ _⟩)
        clear HP
        by_cases c1 : 64 < i
        · have d1 : decide ((i : Int) > 64) = true := decide_eq_true (by omega)
          clear c
          go_wp2_with fail
          first | exact FN.out | (go_ret2; exact FN.out)
        · have d1 : decide ((i : Int) > 64) = false := decide_eq_false (by omega)
          have d2 : decide ((s : Int) > 10000) = true := decide_eq_true (by omega)
          clear c
          go_wp2_with fail
          first | exact FN.out | (go_ret2; exact FN.out)
      · have d1 : decide ((i : Int) > 64) = false := decide_eq_false (by omega)
        have d2 : decide ((s : Int) > 10000) = false := decide_eq_false (by omega)
        have C := hide c
        have hi64 : i ≤ 64 := by omega
        clear c
        go_wp2_with fail
        have B0 := hide (show Below wr.heap.size wr (wr.alloc (.cells #[.slice none 0 0, .slice none 0 0, .slice none 0 0, .slice none 0 0, .slice none 0 0, .bool false] 50)) from (Below.refl _ _).alloc (Nat.le_refl _) _)
        have L0 := hide (RL.start wr)
        obtain ⟨b, hb⟩ : ∃ b, wr.heap.size = b := ⟨_, rfl⟩
        obtain ⟨W, hW⟩ : ∃ W, wr.alloc (.cells #[.slice none 0 0, .slice none 0 0, .slice none 0 0, .slice none 0 0, .slice none 0 0, .bool false] 50) = W := ⟨_, rfl⟩
        obtain ⟨w0, hw0⟩ : ∃ w0, w0 = wr := ⟨_, rfl⟩
        rw [hW, hb] at L0
        rw [hW] at B0
        rw [hW, hb]
        subst hw0
        have HBB := hide hb
        clear hb hW
        go_loopw [7] (fun iv wq => ∃ (j : Nat) (v0 v1 : Value) (vs : List Value) (T : Nat → Prop) (K : Nat → Nat), iv = .int .i64 (j : Int) ∧ j ≤ i ∧ Hid (RL wq b (initR (L.take j)) v0 v1 (.slice none 0 0) (.slice none 0 0) (.slice none 0 0) vs T K) ∧ Hid (vs.length = j ∧ ∀ x, RFoot b v0 v1 (.slice none 0 0) (.slice none 0 0) (.slice none 0 0) T x → w0.heap.size ≤ x) ∧ Hid (Below w0.heap.size w0 wq) ∧ Hid (KnownTo L j)) (fun iv _ => i - (intOf iv).toNat)
        case atStart =>
          refine ⟨0, _, _, _, _, _, rfl, Nat.zero_le _, hide (by simpa using L0.out), hide ⟨rfl, fun x hx => ?_⟩, B0, hide (fun j t hj => by omega)⟩
          rcases hx with z | z | z | z | z | z | z
          · rw [z, ← HBB.out]; exact Nat.le_refl _
          all_goals first | cases z
        case round =>
          obtain ⟨j, v0, v1, vs, T, K, rfl, hj, hR, hF, hB, hKn⟩ := hrel
          by_cases hlt2 : j < i
          · have hil : j < L.length := by rw [HK.out]; exact hlt2
            obtain ⟨t, ht⟩ : ∃ t, L[j]? = some t := ⟨_, List.getElem?_eq_getElem hil⟩
            obtain ⟨g, off, cap', o2, n2, c2, e1, _, hg, cv, hn2, h5, h6, hst⟩ := HT.out.at ht
            have htm : t ∈ L := List.mem_of_getElem? ht
            injection e1 with e1 e2 e3
            subst e1 e3
            have cv' := (hB.out.cell (p := ⟨g, off + j, none⟩) hg).trans cv
            have i1 : (j : Int) < (i : Int) := by omega
            have i2 : (0 : Int) ≤ (j : Int) := by omega
            have HST := hide hst
            have HN2 := hide hn2
            have HIL := hide hil
            have HTJ := hide ht
            have HTM := hide htm
            clear e2 cv hst hn2 hil ht htm
            go_wp2_with fail
            obtain ⟨wj, hwj⟩ : ∃ wj, wj = wr := ⟨_, rfl⟩
            subst hwj
            have NO : Hid (¬ AllKnown L → PO (.returned (.tuple #[.pointer none, .int .i64 1])) wj) := hide (fun nk => by
              rw [HP.out]
              have e : newS L = 1 := by unfold newS; rw [if_neg (by rw [HK.out, ← HS.out]; exact C.out), if_neg nk]
              exact Or.inl ⟨by rw [e]; decide, by rw [e]; rfl, hB.out⟩)
            go_loopw [8] (fun kv wk => ∃ (q : Nat), kv = .int .i64 (q : Int) ∧ q ≤ n2 ∧ Hid (∀ (p : Nat) (s : Stp), p < q → t[p]? = some s → Known s) ∧ wk = wj) (fun kv _ => n2 - (intOf kv).toNat)
            case atStart => exact ⟨0, rfl, Nat.zero_le _, hide (fun q s hq => by omega), rfl⟩
            case round =>
              obtain ⟨q, rfl, hq, hkq, rfl⟩ := hrel
              by_cases hql : q < n2
              · have hql' : q < t.length := by rw [← HN2.out]; exact hql
                obtain ⟨o', c', e4, _, _, _, h7⟩ := HST.out
                obtain ⟨gs, off2, e5, _, hgs, hc⟩ := h7 (fun z => by rw [z] at hql'; simp at hql')
                subst e5
                injection e4 with e6 e7 e8
                subst e6
                obtain ⟨st, hs'⟩ : ∃ s, t[q]? = some s := ⟨_, List.getElem?_eq_getElem hql'⟩
                obtain ⟨q0, q1, q2⟩ := hc q st hs'
                have hokS := OK.out _ (HTM.out) st (List.mem_of_getElem? hs')
                have q0' := (hB.out.cell (p := ⟨gs, off2 + q * 3, none⟩) hgs).trans q0
                obtain ⟨op, a, x⟩ := st
                obtain ⟨⟨o1, o2⟩, _, _⟩ := hokS
                simp only at q0' o1 o2
                have HS2 := hide hs'
                have j1 : (q : Int) < (n2 : Int) := by omega
                have j2 : (0 : Int) ≤ (q : Int) := by omega
                clear q0 q1 q2 hc h7 hs' e7 e8
                by_cases k1 : op < 1
                · have d1 : decide (op < 1) = true := decide_eq_true k1
                  have Y := hide (NO.out (fun z => by
                    have := (z _ (HTM.out) _ (List.mem_of_getElem? HS2.out)).1
                    simp only at this; omega))
                  clear HS2 HST NO HP
                  go_wp2_with fail
                  first | exact Y.out | (go_ret2; exact Y.out)
                · have d1 : decide (op < 1) = false := decide_eq_false k1
                  by_cases k2 : op > 5
                  · have d2 : decide (op > 5) = true := decide_eq_true k2
                    have Y := hide (NO.out (fun z => by
                      have := (z _ (HTM.out) _ (List.mem_of_getElem? HS2.out)).2
                      simp only at this; omega))
                    clear HS2 HST NO HP
                    go_wp2_with fail
                    first | exact Y.out | (go_ret2; exact Y.out)
                  · have d2 : decide (op > 5) = false := decide_eq_false k2
                    have NX : Hid (∀ (p : Nat) (s : Stp), p < q + 1 → t[p]? = some s → Known s) := hide (fun p s hp hs => by
                      by_cases c : p < q
                      · exact hkq.out p s c hs
                      · obtain rfl : p = q := by omega
                        rw [HS2.out] at hs
                        cases hs
                        exact ⟨by simp only; omega, by simp only; omega⟩)
                    clear HS2 HST NO HP hkq
                    go_wp2_with fail
                    go_roundw
                    case rel => exact ⟨q + 1, by go_num, by omega, NX, trivial⟩
                    case measure => simp [intOf]; omega
              · obtain rfl : q = n2 := by omega
                have d9 : ¬ (q : Int) < (q : Int) := by omega
                have KT : Hid (KnownTo L (j + 1)) := hide (hKn.out.next HIL.out HTJ.out (by rw [← HN2.out]; exact hkq.out))
                have tl : (initR (L.take j)).tasks.length = j := by show (L.take j).length = j; rw [List.length_take, HK.out]; omega
                have hq6 : t.length ≤ 1000000 := by
                  have h0 : j < L.length := HIL.out
                  have h9 := lens_part h0
                  have h8 : L[j] = t := by have := HTJ.out; rw [List.getElem?_eq_getElem h0] at this; exact Option.some.inj this
                  rw [h8] at h9
                  exact Nat.le_trans h9 HM.out
                obtain ⟨o4, c4, w2, g5, cap5, w3, T', K', r1, r3, b2, b3, cc0, ff0, P, hT', hg5, kp⟩ := hR.out.push (by rw [tl]; omega) (HST.out.kept hB.out.size (fun x _ hx => hB.out.block x hx)) hq6
                rw [tl] at r3 P kp
                rw [← HN2.out] at r1 r3 P b3
                have c0 := hR.out.c0
                have hbl := cell_lt c0
                have gl := cell_lt cv'
                have d1 := (b2.cell (p := ⟨b, 0, none⟩) hbl).trans c0
                have d4 := (b3.cell (p := ⟨b, 0, none⟩) hbl).trans c0
                have PP := hide P
                have KP := hide kp
                have HT' := hide hT'
                have HG5 := hide hg5
                have BB := hide b2
                clear NO hkq P kp hT' hg5 b2 b3 tl hq6
                go_wp2_with fail
                go_region_law (first | (refine step_append_run (by rfl) (.tmp 71) (.tmp 75) 34 (by rfl) (by rfl) (by rfl) r1 ?_) | (refine step_append_run (by rfl) (.tmp 70) (.tmp 77) 22 (by rfl) (by rfl) (by rfl) r3 ?_))
                all_goals
                  obtain ⟨W3, hW3⟩ : ∃ W3, W3 = w3.setCell ⟨b, 0, none⟩ (.slice (some ⟨g5, 0, none⟩) (j + 1) cap5) := ⟨_, rfl⟩
                  rw [← hW3] at PP KP ⊢
                  have tl : (L.take j).length = j := by rw [List.length_take, HK.out]; omega
                  have e1 : ({ initR (L.take j) with tasks := (initR (L.take j)).tasks ++ [t] } : Rs).at_.length = j := by show (List.replicate (L.take j).length 0).length = j; rw [List.length_replicate, tl]
                  obtain ⟨g6, cap6, w6, K6, r6, cc1, ff1, P6, hg6, kp6⟩ := PP.out.zero (by rw [e1]; omega)
                  rw [e1] at r6 P6 kp6
                  have c1 := PP.out.c1
                  have hb3 := cell_lt c1
                  have tk : L.take (j + 1) = L.take j ++ [t] := by rw [List.take_add_one, HTJ.out]; rfl
                  have ei : initR (L.take (j + 1)) = { ({ initR (L.take j) with tasks := (initR (L.take j)).tasks ++ [t] } : Rs) with at_ := ({ initR (L.take j) with tasks := (initR (L.take j)).tasks ++ [t] } : Rs).at_ ++ [0] } := by
                    unfold initR
                    simp only
                    rw [tk, List.length_append, List.length_singleton, List.replicate_succ']
                  rw [← ei] at P6
                  have NXT := hide P6
                  have hB3 : Below w0.heap.size w0 W3 := hB.out.trans (KP.out.below hB.out.size hF.out.2)
                  have hF3 : ∀ x, RFoot b (.slice (some ⟨g5, 0, none⟩) (j + 1) cap5) v1 (.slice none 0 0) (.slice none 0 0) (.slice none 0 0) (fun x => T x ∨ T' x) x → w0.heap.size ≤ x := fun x hx => by
                    rcases hx with z | z | z | z | z | z | z | z
                    · exact hF.out.2 x (Or.inl z)
                    · have z : g5 = x := by simpa [Value.ownBlock] using z
                      subst z
                      rcases HG5.out with y | y
                      · exact hF.out.2 _ (Or.inr (Or.inl y))
                      · exact Nat.le_trans hB.out.size y
                    · exact hF.out.2 x (Or.inr (Or.inr (Or.inl z)))
                    · cases z
                    · cases z
                    · cases z
                    · exact hF.out.2 x (by unfold RFoot; simp [z])
                    · exact Nat.le_trans hB.out.size (HT'.out x z)
                  have HB6 := hide (hB3.trans (kp6.below hB3.size hF3))
                  have HF6 : Hid ((vs ++ [Value.slice o4 q c4]).length = j + 1 ∧ ∀ x, RFoot b (.slice (some ⟨g5, 0, none⟩) (j + 1) cap5) (.slice (some ⟨g6, 0, none⟩) (j + 1) cap6) (.slice none 0 0) (.slice none 0 0) (.slice none 0 0) (fun x => T x ∨ T' x) x → w0.heap.size ≤ x) := hide ⟨by rw [List.length_append, hF.out.1]; rfl, fun x hx => by
                    by_cases c : g6 = x
                    · subst c
                      rcases hg6 with y | y
                      · exact hF3 _ (Or.inr (Or.inr (Or.inl y)))
                      · exact Nat.le_trans hB3.size y
                    · refine hF3 x ?_
                      rcases hx with z | z | z | z | z | z | z
                      · exact Or.inl z
                      · exact Or.inr (Or.inl z)
                      · exact absurd (by simpa [Value.ownBlock] using z) c
                      · cases z
                      · cases z
                      · cases z
                      · exact Or.inr (Or.inr (Or.inr (Or.inr (Or.inr (Or.inr z)))))⟩
                  have R6 := hide r6
                  clear hW3 P6 kp6 hF3 hB3 ei tk tl e1 r6 hg6 PP KP HT' HG5 BB r1 r3 hR hF hB hKn
                  go_wp2_with (first | (at_builtin; refine list_append_run (by rfl) (.tmp 85) (.tmp 86) 23 (by rfl) (by rfl) (by rfl) R6.out ?_))
                  go_roundw
                  case rel => exact ⟨j + 1, _, _, _, _, _, by go_num, by omega, NXT, HF6, HB6, KT⟩
                  case measure => simp [intOf]; omega
          · obtain rfl : j = i := by omega
            have hR' := hR.out
            rw [show L.take j = L by rw [← HK.out, List.take_length]] at hR'
            have e0 : newS L = 0 := by
              unfold newS
              rw [if_neg (by rw [HK.out, ← HS.out]; exact C.out), if_pos (known_all (by rw [HK.out]; exact hKn.out))]
            have FN : Hid (PO (.returned (.tuple #[.pointer (some ⟨b, 0, none⟩), .int .i64 0])) wr) := hide (by
              rw [HP.out]
              exact Or.inr ⟨e0, _, _, initR L, rfl, absR_init L, ⟨b, v0, v1, _, _, _, vs, T, K, rfl, rfl, hR', OkR.init (Wf.init e0 OK.out)⟩, hB.out, hF.out.2⟩)
            clear hR hR' hF hB hKn HP
            go_wp2_with fail
            first | exact FN.out | (go_ret2; exact FN.out)
end Go.Proofs.Ytlcbegmhmbegjaa
