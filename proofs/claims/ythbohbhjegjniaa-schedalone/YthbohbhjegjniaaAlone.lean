/- SchedAlone, walked. -/
import Derived.Test.YthbohbhjegjniaaAn
import Derived.Test.YthbohbhjegjniaaOt
import Derived.Test.YthbohbhjegjniaaArg
import Derived.Test.YthbohbhjegjniaaFa
import Derived.Deep.OwnRows
import Derived.Deep.RegionHeld3
namespace Go.Proofs.Ythbohbhjegjniaa
open Go.ChangeShapes Go.WideShapes Go.ChangeAt Go.RowKit Go.Proofs.Sc Go.Maps
set_option linter.unusedVariables false
set_option linter.unusedSimpArgs false

theorem infoInt : (Try.prog.info? 3).map (fun i => (i.zero, i.size, i.bytes)) = some (some (.int .i64 0), 1, 8) := by kernel_rfl
theorem wrap_in {x : Int} (h1 : -1000000 ≤ x) (h2 : x ≤ 1000000) : IntKind.i64.wrap x = x := wrap_small (by unfold i64; omega)
theorem alone_take (i : Nat) {a : List Int} {k : Nat} {x : Int} (h : a[k]? = some x) : aloneT i (a.take (k + 1)) = aloneT i (a.take k) ++ [⟨1, x % 3, 0⟩, ⟨5, 100 * (i : Int) + x, 0⟩, ⟨2, x % 3, 0⟩] ∧ a.take (k + 1) = a.take k ++ [x] := by
  have hk := (List.getElem?_eq_some_iff.1 h).1
  have e : a.take (k + 1) = a.take k ++ [x] := by
    rw [List.take_succ_eq_append_getElem hk, (List.getElem?_eq_some_iff.1 h).2]
  exact ⟨by rw [e, alone_append]; rfl, e⟩
theorem take_rows {A : List (List Int)} {i : Nat} {a : List Int} (h : A[i]? = some a) : A.take (i + 1) = A.take i ++ [a] := by
  have hi := (List.getElem?_eq_some_iff.1 h).1
  rw [List.take_succ_eq_append_getElem hi, (List.getElem?_eq_some_iff.1 h).2]
theorem total_snoc (A : List (List Int)) (a : List Int) : total (A ++ [a]) = total A + a.length := by simp [total]
theorem alone_all {A : List (List Int)} (h : Small A) (hn : A.length ≤ 20) : (∀ t ∈ aloneL 0 A, ∀ s ∈ t, s.Ok) ∧ AllKnown (aloneL 0 A) := by
  have one : ∀ (i : Nat) (a : List Int), i ≤ 20 → (∀ x ∈ a, 0 ≤ x ∧ x ≤ 50) → ∀ s ∈ aloneT i a, s.Ok ∧ Known s := by
    intro i a hi
    induction a with
    | nil => intro _ s hs; cases hs
    | cons x a ih =>
      intro hx s hs
      obtain ⟨x0, x1⟩ := hx x (by simp)
      simp only [aloneT, List.mem_cons] at hs
      rcases hs with rfl | rfl | rfl | hs
      · exact ⟨⟨by unfold i64; simp only; omega, by unfold i64; simp only; omega, by unfold i64; simp only; omega⟩, by simp only; omega, by simp only; omega⟩
      · exact ⟨⟨by unfold i64; simp only; omega, by unfold i64; simp only; omega, by unfold i64; simp only; omega⟩, by simp only; omega, by simp only; omega⟩
      · exact ⟨⟨by unfold i64; simp only; omega, by unfold i64; simp only; omega, by unfold i64; simp only; omega⟩, by simp only; omega, by simp only; omega⟩
      · exact ih (fun y hy => hx y (by simp [hy])) s hs
  have key : ∀ t ∈ aloneL 0 A, ∀ s ∈ t, s.Ok ∧ Known s := fun t ht s hs => by
    obtain ⟨i, hi, rfl⟩ := List.getElem_of_mem ht
    have e := List.getElem?_eq_getElem hi
    rw [aloneL_at] at e
    have hiA : i < A.length := by rw [aloneL_len] at hi; exact hi
    rw [List.getElem?_eq_getElem hiA] at e
    have e' : aloneT (0 + i) A[i] = (aloneL 0 A)[i] := Option.some.inj e
    rw [← e'] at hs
    exact one (0 + i) _ (by omega) (h _ (List.getElem_mem hiA)) s hs
  exact ⟨fun t ht s hs => (key t ht s hs).1, fun t ht s hs => (key t ht s hs).2⟩
set_option maxRecDepth 100000 in
set_option maxHeartbeats 10000000 in
theorem alone_core (v u : Value) (A : List (List Int)) (l : List Int) (w : World) (h : RowsAt w v A) (hl : IntsAt w u l) : Calls Try.prog 6 #[v, u] w fun e w' => e = .returned (.bool true) ∧ Below w.heap.size w w' := by
  obtain ⟨o, cap, rfl, ha1, ha2⟩ := h.shape
  obtain ⟨o', cap', rfl, hlm⟩ := hl.shape
  have H := hide h
  have HL := hide hl
  obtain ⟨n, hn⟩ : ∃ n, A.length = n := ⟨_, rfl⟩
  obtain ⟨np, hnp⟩ : ∃ np, l.length = np := ⟨_, rfl⟩
  rw [hn] at ha1 H ⊢
  rw [hnp] at hlm HL ⊢
  have HN := hide hn
  clear h hl hn hnp
  by_cases c : 20 < n
  · have d : decide ((n : Int) > 20) = true := decide_eq_true (by omega)
    clear H HL
    go_enter Try.func6, Try.ntmps6
    go_wp2_with fail
    go_ret
    exact ⟨rfl, Below.refl _ _⟩
  · have d : decide ((n : Int) > 20) = false := decide_eq_false (by omega)
    by_cases c2 : 400 < np
    · have d2 : decide ((np : Int) > 400) = true := decide_eq_true (by omega)
      clear H HL
      go_enter Try.func6, Try.ntmps6
      go_wp2_with fail
      go_ret
      exact ⟨rfl, Below.refl _ _⟩
    · have d2 : decide ((np : Int) > 400) = false := decide_eq_false (by omega)
      have hn20 : n ≤ 20 := by omega
      have hnp4 : np ≤ 400 := by omega
      clear c c2
      go_enter Try.func6, Try.ntmps6
      go_wp2_with fail
      go_loopw [5, 6, 7] (fun nv tv iv wr => ∃ (i c : Nat), iv = .int .i64 (i : Int) ∧ nv = .int .i64 (c : Int) ∧ i ≤ n ∧ c ≤ 100 ∧ Hid (c = total (A.take i)) ∧ Hid (Small (A.take i)) ∧ Hid (Ot w wr tv (aloneL 0 (A.take i)))) (fun _ _ iv _ => n - (intOf iv).toNat)
      case atStart => exact ⟨0, 0, rfl, rfl, Nat.zero_le _, by omega, hide rfl, hide (fun a ha => by simp at ha), hide (Ot.start w)⟩
      case round =>
        obtain ⟨i, c, rfl, rfl, hi, hc, hT, hSm, hO⟩ := hrel
        by_cases hlt : i < n
        · have i1 : (i : Int) < (n : Int) := by omega
          obtain ⟨g, off, o2, c2, a, rfl, hA, hcell, hac, hc2, hIa⟩ := H.out.at hO.out.below hlt
          obtain ⟨m, hm⟩ : ∃ m, a.length = m := ⟨_, rfl⟩
          rw [hm] at hcell hac hIa
          have HI := hide hIa
          have HA := hide hA
          have HM := hide hm
          obtain ⟨wo, hwo⟩ : ∃ wo, wo = wr := ⟨_, rfl⟩
          subst hwo
          clear hIa hA hm
          go_wp2_with fail
          go_loopw [5, 8, 9] (fun nv tv kv wz => ∃ (k c2 : Nat), kv = .int .i64 (k : Int) ∧ nv = .int .i64 (c2 : Int) ∧ k ≤ m ∧ c2 = c + k ∧ c2 ≤ 100 ∧ Hid (∀ x ∈ a.take k, 0 ≤ x ∧ x ≤ 50) ∧ Hid (wz.ownsRow wo.heap.size 36 3 tv (aloneT i (a.take k)).length (flat (aloneT i (a.take k)))) ∧ Hid (Below wo.heap.size wo wz)) (fun _ _ kv _ => m - (intOf kv).toNat)
          case atStart => exact ⟨0, c, rfl, rfl, Nat.zero_le _, by omega, by omega, hide (fun x hx => by simp at hx), hide (World.ownsRow_nil wo wo.heap.size 36 3), hide (Below.refl _ _)⟩
          case round =>
            obtain ⟨k, cc, rfl, rfl, hk, hcc, hcc2, hpos, hown, hB⟩ := hrel
            have HCC := hide hcc
            have hBw : Below w.heap.size w wr := hO.out.below.trans (hB.out.mono hO.out.below.size)
            have hg : g < wo.heap.size := cell_lt hcell
            have hcell' := (hB.out.cell (p := ⟨g, off + i, none⟩) hg).trans hcell
            clear hcc
            by_cases hkm : k < m
            · have k1 : (k : Int) < (m : Int) := by omega
              obtain ⟨g2, off2, x, rfl, hx, x64, hcx⟩ := HI.out.at hBw hkm
              obtain ⟨x0, x1⟩ := x64
              by_cases z1 : 100 < cc + 1
              · have dz1 : decide ((cc : Int) + 1 > 100) = true := decide_eq_true (by omega)
                clear hx
                go_wp2_with fail
                go_ret
                exact ⟨rfl, hBw⟩
              · have dz1 : decide ((cc : Int) + 1 > 100) = false := decide_eq_false (by omega)
                by_cases z2 : x < 0
                · have dz2 : decide (x < 0) = true := decide_eq_true z2
                  clear hx
                  go_wp2_with fail
                  go_ret
                  exact ⟨rfl, hBw⟩
                · have dz2 : decide (x < 0) = false := decide_eq_false z2
                  by_cases z3 : x > 50
                  · have dz3 : decide (x > 50) = true := decide_eq_true z3
                    clear hx
                    go_wp2_with fail
                    go_ret
                    exact ⟨rfl, hBw⟩
                  · have dz3 : decide (x > 50) = false := decide_eq_false z3
                    obtain ⟨t1, t3⟩ := alone_take i hx
                    have hkl : (aloneT i (a.take k)).length ≤ 1000 := by rw [alone_len, List.length_take]; have := HCC.out; omega
                    obtain ⟨g4, c4, w4, r4, o4, b4, gr4⟩ := snoc_run wr.drew wo.heap.size 34 (t := aloneT i (a.take k)) (r := [⟨1, x % 3, 0⟩, ⟨5, 100 * (i : Int) + x, 0⟩, ⟨2, x % 3, 0⟩]) hown.out #[.int .i64 1, .int .i64 (x % 3), .int .i64 0, .int .i64 5, .int .i64 (100 * (i : Int) + x), .int .i64 0, .int .i64 2, .int .i64 (x % 3), .int .i64 0] rfl (Nat.zero_lt_succ _) (by show _ + 3 ≤ _; omega) hB.out.size
                    rw [← t1] at o4
                    have R4 := hide r4
                    have O4 := hide o4
                    have B4 := hide (hB.out.drew.trans b4)
                    have P4 : Hid (∀ y ∈ a.take (k + 1), 0 ≤ y ∧ y ≤ 50) := hide (by
                      rw [t3]
                      intro y hy
                      rcases List.mem_append.1 hy with z | z
                      · exact hpos.out y z
                      · have : y = x := by simpa using z
                        subst this; omega)
                    have e1 : IntKind.i64.wrap (Int.tmod x 3) = x % 3 := by rw [Int.tmod_eq_emod_of_nonneg (by omega)]; exact wrap_in (by omega) (by omega)
                    have cl1 : w4.cell? ⟨g, off + i, none⟩ = some (.slice (some ⟨g2, off2, none⟩) m c2) := ((hB.out.drew.trans b4).cell (p := ⟨g, off + i, none⟩) hg).trans hcell
                    have cl2 : w4.cell? ⟨g2, off2 + k, none⟩ = some (.int .i64 x) := by
                      have hg2 : g2 < w.heap.size := by
                        obtain ⟨q1, q2, q3, q4, q5, q6, q7, q8⟩ := HI.out
                        obtain ⟨y1, y2, y3, y4, y5⟩ := q8 (fun z => by rw [z] at hx; simp at hx)
                        injection q3 with q3
                        rw [y3] at q3
                        injection q3 with q3
                        injection q3 with q3
                        omega
                      have hbw4 : Below w.heap.size w w4 := hO.out.below.trans ((hB.out.drew.trans b4).mono hO.out.below.size)
                      rw [hbw4.cell (p := ⟨g2, off2 + k, none⟩) hg2, ← hBw.cell (p := ⟨g2, off2 + k, none⟩) hg2]
                      exact hcx
                    have e0 : Int.tmod x 3 = x % 3 := Int.tmod_eq_emod_of_nonneg (by omega)
                    have e2 : IntKind.i64.wrap (100 * (i : Int)) = 100 * (i : Int) := wrap_in (by omega) (by omega)
                    have e3 : IntKind.i64.wrap (100 * (i : Int) + x) = 100 * (i : Int) + x := wrap_in (by omega) (by omega)
                    have hgl : g < wr.heap.size := cell_lt hcell'
                    have hgl2 := cell_lt hcx
                    obtain ⟨tl, ct, rfl⟩ : ∃ (ov : Option Addr) (ct : Nat), u8 = .slice ov (aloneT i (a.take k)).length ct := (steps_of_owns hown.out).2
                    clear hx t1 t3 r4 o4 b4 gr4 hown hB hpos hBw
                    go_wp2_with fail
                    go_region_held3 (fun w' => w'.cell? ⟨g, off + i, none⟩ = some (.slice (some ⟨g2, off2, none⟩) m c2) ∧ w'.cell? ⟨g2, off2 + k, none⟩ = some (.int .i64 x)) (go_keep) (first | (refine step_append_run (by rfl) (.tmp 72) (.tmp 102) 34 (by rfl) (by rfl) (by rfl) R4.out ?_))
                    go_wp2_with fail
                    go_roundw
                    case rel => exact ⟨k + 1, cc + 1, by go_num, by go_num, by omega, by have := HCC.out; omega, by omega, P4, O4, B4⟩
                    case measure => simp [intOf]; omega
            · obtain rfl : k = m := by omega
              have hta : a.take k = a := by rw [← HM.out, List.take_length]
              rw [hta] at hown hpos
              obtain ⟨hst, ot, ct, hvt⟩ := steps_of_owns hown.out
              rw [hvt] at hst
              subst hvt
              have hO2 := hO.out.more hB.out
              have hln : (aloneL 0 (List.take i A)).length = i := by rw [aloneL_len, List.length_take, HN.out]; omega
              obtain ⟨g3, cap3, w3, r3, o3⟩ := hO2.push (by rw [hln]; omega) (hO.out.new hst) 22
              have hmp : aloneL 0 (List.take i A) ++ [aloneT i a] = aloneL 0 (List.take (i + 1) A) := by
                rw [take_rows HA.out, aloneL_snoc, List.length_take, HN.out, show 0 + min i n = i by omega]
              rw [hmp, hln] at o3
              rw [hln] at r3
              have R3 := hide r3
              have O3 := hide o3
              have T3 : Hid (cc = total (A.take (i + 1))) := hide (by rw [take_rows HA.out, total_snoc, ← hT.out, HM.out]; exact HCC.out)
              have S3 : Hid (Small (A.take (i + 1))) := hide (by
                rw [take_rows HA.out]
                intro b hb
                rcases List.mem_append.1 hb with z | z
                · exact hSm.out b z
                · have : b = a := by simpa using z
                  subst this; exact hpos.out)
              clear r3 o3 hO2 hO hst hmp hln hown hB hpos hBw hta HA HI hcell hT hSm
              go_wp2_with (first | (at_builtin; refine list_append_run (by rfl) (.tmp 104) (.tmp 106) 22 (by rfl) (by rfl) (by rfl) R3.out ?_))
              go_roundw
              case rel => exact ⟨i + 1, cc, by go_num, rfl, by omega, by omega, T3, S3, O3⟩
              case measure => simp [intOf]; omega
        · obtain rfl : i = n := by omega
          have hta : A.take i = A := by rw [← HN.out, List.take_length]
          rw [hta] at hO hT hSm
          have hL3 := aloneL_lens 0 A
          rw [← hT.out] at hL3
          have al := alone_all hSm.out (by rw [HN.out]; omega)
          have N := hide (J.new _ _ hO.out.tasks (by rw [hL3]; omega) al.1 (new_ok (by rw [aloneL_len, HN.out]; omega) (by rw [hL3]; omega) al.2) hO.out.below)
          have Q0 : Hid (AQ A 0 (initS (aloneL 0 A))) := hide (AQ.start A)
          obtain ⟨o9, c9, e9, _⟩ := hO.out.shape
          rw [aloneL_len, HN.out] at e9
          subst e9
          clear hO hL3 al hta hlt hi
          go_wp2_with fail
          refine N.out.mono ?_
          rintro e w1 ⟨mm, rfl, j1⟩
          clear N
          go_wp2_with fail
          go_loopw [12] (fun iv wr => ∃ (q : Nat) (S : Sc), iv = .int .i64 (q : Int) ∧ q ≤ 3 * c ∧ Hid (AQ A q S) ∧ J w mm wr S) (fun iv _ => 3 * c - (intOf iv).toNat)
          case atStart => exact ⟨0, _, rfl, Nat.zero_le _, Q0, j1⟩
          case round =>
            obtain ⟨q, S, rfl, hq, hQ, jr⟩ := hrel
            clear j1 Q0
            by_cases hql : q < 3 * c
            · have q1 : (q : Int) < 3 * (c : Int) := by omega
              obtain ⟨p, hp64, hpw⟩ : ∃ p : Int, i64 p ∧ ((¬ q < np ∧ p = 0) ∨ (q < np ∧ ∃ g off, o' = some ⟨g, off, none⟩ ∧ wr.cell? ⟨g, off + q, none⟩ = some (.int .i64 p))) := by
                by_cases z : q < np
                · obtain ⟨g, off, y, e1, _, e3, e4⟩ := HL.out.at jr.below z
                  exact ⟨y, e3, Or.inr ⟨z, g, off, e1, e4⟩⟩
                · exact ⟨0, by unfold i64; omega, Or.inl ⟨z, rfl⟩⟩
              obtain ⟨ii, S', G, nq⟩ := aq_go hQ.out hSm.out (by rw [← hT.out]; exact hql) p
              have HG := hide G
              have NQ := hide nq
              clear G nq hQ
              rcases hpw with ⟨z, rfl⟩ | ⟨z, g, off, rfl, hcp⟩
              · have dz : decide ((q : Int) < (np : Int)) = false := decide_eq_false (by omega)
                go_wp2_with fail
                refine (jr.go hp64 HG.out).mono ?_
                rintro e w3 ⟨rfl, j3⟩
                clear jr HG
                go_wp2_with fail
                go_roundw
                case rel => exact ⟨q + 1, S', by go_num, by omega, NQ, j3⟩
                case measure => simp [intOf]; omega
              · have dz : decide ((q : Int) < (np : Int)) = true := decide_eq_true (by omega)
                have dz' : (q : Int) < (np : Int) := by omega
                go_wp2_with fail
                refine (jr.go hp64 HG.out).mono ?_
                rintro e w3 ⟨rfl, j3⟩
                clear jr HG
                go_wp2_with fail
                go_roundw
                case rel => exact ⟨q + 1, S', by go_num, by omega, NQ, j3⟩
                case measure => simp [intOf]; omega
            · obtain rfl : q = 3 * c := by omega
              have q1 : ¬ ((3 * c : Nat) : Int) < 3 * (c : Int) := by omega
              have hQ' := hQ.out
              rw [hT.out] at hQ'
              have AEE := hide (aq_end hQ')
              have G := hide (aq_end hQ').go
              obtain ⟨ls, hls⟩ : ∃ ls, S.said = ls := ⟨_, rfl⟩
              have hsl : ls.length = c := by rw [← hls, (aq_end hQ').len, ← hT.out]
              have HLS := hide hls
              clear hQ hQ'
              go_wp2_with fail
              refine (jr.go (by unfold i64; decide) G.out).mono ?_
              rintro e w3 ⟨rfl, j3⟩
              clear jr G
              go_wp2_with fail
              refine (j3.said hls).mono ?_
              rintro e w4 ⟨o4, c4, rfl, _, _, h4, j4, _⟩
              rw [hsl] at h4 ⊢
              have H4 := hide h4
              have J4 := hide j4
              have HSL := hide hsl
              clear j3 hls hsl h4 j4
              have MK := run_make_row' (P := Try.prog) 23 3 (.int .i64 0) 8 Try.underlying23 infoInt rfl .i64 .i64 i (by omega) (by omega) w4
              go_wp2_with fail
              clear MK
              go_loopw [20] (fun iv wr => ∃ j : Nat, iv = .int .i64 (j : Int) ∧ j ≤ c ∧ Hid (wr.rowIs w4.heap.size 3 i (fun t => .int .i64 ((cnt (ls.take j) t : Nat) : Int))) ∧ Hid (Below w4.heap.size w4 wr)) (fun iv _ => c - (intOf iv).toNat)
              case atStart => exact ⟨0, rfl, Nat.zero_le _, hide ((World.rowIs_made w4 (.int .i64 0) i 3).congr (fun t _ => rfl)), hide ((Below.refl _ _).alloc (Nat.le_refl _) _)⟩
              case round =>
                obtain ⟨j, rfl, hj, HR, HB⟩ := hrel
                by_cases hjc : j < c
                · have hjl : j < ls.length := by rw [HSL.out]; exact hjc
                  obtain ⟨y, hy⟩ : ∃ y, ls[j]? = some y := ⟨_, List.getElem?_eq_getElem hjl⟩
                  obtain ⟨gs, rfl, hgs, hcs⟩ := H4.out.out (by omega)
                  obtain ⟨t, a, x, hA, y1, y2, hx, y0, yb, hcnt⟩ := said_next AEE.out hSm.out (i := j) (y := y) (by rw [HLS.out]; exact hy)
                  rw [HLS.out] at hx hcnt
                  have htn : t < i := by have := (List.getElem?_eq_some_iff.1 hA).1; rw [HN.out] at this; exact this
                  have hBw : Below w.heap.size w wr := J4.out.below.trans (HB.out.mono J4.out.below.size)
                  obtain ⟨g, off, o2, c2, a', rfl, hA', hcell, hac, hc2, hIa⟩ := H.out.at hBw htn
                  rw [hA] at hA'
                  obtain rfl := Option.some.inj hA'
                  obtain ⟨CN, hCN⟩ : ∃ CN, cnt (ls.take j) t = CN := ⟨_, rfl⟩
                  rw [hCN] at hx
                  have hcl : CN < a.length := (List.getElem?_eq_some_iff.1 hx).1
                  obtain ⟨g2, off2, x', rfl, hx', x64, hcx⟩ := hIa.at hBw hcl
                  rw [hx] at hx'
                  obtain rfl := Option.some.inj hx'
                  obtain ⟨m, hm⟩ : ∃ m, a.length = m := ⟨_, rfl⟩
                  rw [hm] at hcell hac hcl
                  have hat : wr.cell? ⟨w4.heap.size, t, none⟩ = some (.int .i64 (CN : Int)) := by rw [HR.out.cell htn, hCN]
                  have haf := HR.out.frozen t
                  have hal := HR.out.lt
                  have hsd : wr.cell? ⟨gs, j, none⟩ = some (.int .i64 y) := (HB.out.cell (p := ⟨gs, j, none⟩) hgs).trans (hcs j y hy)
                  have s1 : gs < wr.heap.size := cell_lt hsd
                  have s2 : g < wr.heap.size := cell_lt hcell
                  have s3 : g2 < wr.heap.size := cell_lt hcx
                  have nx : Hid ((wr.setCell ⟨w4.heap.size, t, none⟩ (.int .i64 ((CN : Int) + 1))).rowIs w4.heap.size 3 i (fun t => .int .i64 ((cnt (ls.take (j + 1)) t : Nat) : Int))) := hide ((HR.out.set t (.int .i64 ((CN : Int) + 1))).congr (fun k _ => by
                    rw [hcnt k]
                    by_cases e : k = t
                    · subst e; rw [if_pos rfl, if_pos rfl, hCN]; rfl
                    · rw [if_neg e, if_neg e]; rfl))
                  have bx : Hid (∀ nq, Below w4.heap.size w4 ((wr.drewN nq).setCell ⟨w4.heap.size, t, none⟩ (.int .i64 ((CN : Int) + 1)))) := hide (fun nq => (below_drewN HB.out nq).setCell (p := ⟨w4.heap.size, t, none⟩) (Nat.le_refl _) _)
                  have xb : 0 ≤ x ∧ x ≤ 99 := by omega
                  obtain ⟨xb0, xb1⟩ := xb
                  have yb2 : y ≤ 2000 := by have := HN.out; omega
                  have r1 : y / 100 = (t : Int) := y1
                  have r1b : IntKind.i64.wrap (Int.tdiv y 100) = (t : Int) := by rw [Int.tdiv_eq_ediv_of_nonneg y0, y1]; exact wrap_in (by omega) (by omega)
                  have r2 : y % 100 = x := y2
                  have r2a : Int.tmod y 100 = x := by rw [Int.tmod_eq_emod_of_nonneg y0, y2]
                  have r2b : IntKind.i64.wrap (Int.tmod y 100) = x := by rw [r2a]; exact wrap_in (by omega) (by omega)
                  have f1 : decide ((i : Int) ≤ (t : Int)) = false := decide_eq_false (by omega)
                  have f1' : decide (i ≤ t) = false := decide_eq_false (by omega)
                  have f2 : decide ((m : Int) ≤ (CN : Int)) = false := decide_eq_false (by omega)
                  have f2' : decide (m ≤ CN) = false := decide_eq_false (by omega)
                  have l1 : (0 : Int) ≤ (t : Int) := by omega
                  have l2 : (t : Int) < (i : Int) := by omega
                  have l3 : (0 : Int) ≤ (CN : Int) := by omega
                  have l4 : (CN : Int) < (m : Int) := by omega
                  have l5 : (j : Int) < (c : Int) := by omega
                  have l6 : (CN : Int) ≤ 1000 := by
                    have : CN ≤ ls.length := by rw [← hCN]; unfold cnt; exact Nat.le_trans (List.length_filter_le _ _) (by rw [List.length_take]; omega)
                    rw [HSL.out] at this; omega
                  clear hy hA y1 y2 hx hcnt hA' hCN hcl hIa hx' x64 hm HR hcs hBw hgs hjl
                  go_wp2_with fail
                  go_quiet (fail)
                  go_wp2_with fail
                  go_roundw
                  case rel => exact ⟨j + 1, by go_num, by omega, hide nx.out, hide (bx.out _)⟩
                  case measure => simp [intOf]; omega
                · obtain rfl : j = c := by omega
                  have JJ := hide (J4.out.more HB.out)
                  clear HR HB H4 J4 hjc
                  go_wp2_with fail
                  go_loopw [22] (fun iv wr => ∃ k : Nat, iv = .int .i64 (k : Int) ∧ k ≤ 3 ∧ Hid (J w mm wr S)) (fun iv _ => 3 - (intOf iv).toNat)
                  case atStart => exact ⟨0, rfl, Nat.zero_le _, JJ⟩
                  case round =>
                    obtain ⟨k, rfl, hk, HJ⟩ := hrel
                    clear JJ
                    by_cases hk3 : k < 3
                    · have k1 : (k : Int) < 3 := by omega
                      go_wp2_with fail
                      refine (HJ.out.holder (by unfold i64; omega) (AEE.out.free (k : Int))).mono ?_
                      rintro e w6 ⟨rfl, j6, _⟩
                      have J6 := hide j6
                      clear j6 HJ
                      go_wp2_with fail
                      go_roundw
                      case rel => exact ⟨k + 1, by go_num, by omega, J6⟩
                      case measure => simp [intOf]; omega
                    · obtain rfl : k = 3 := by omega
                      go_wp2_with fail
                      refine (HJ.out.enabled AEE.out.able).mono ?_
                      rintro e w7 ⟨o7, cap7, rfl, _, _, _, j7, _⟩
                      have J7 := hide j7.below
                      clear j7 HJ
                      go_wp2_with fail
                      refine (awake_core _).mono ?_
                      rintro e w9 ⟨rfl, b9⟩
                      go_wp2_with fail
                      go_ret
                      exact ⟨rfl, J7.out.trans (b9.mono J7.out.size)⟩
end Go.Proofs.Ythbohbhjegjniaa
