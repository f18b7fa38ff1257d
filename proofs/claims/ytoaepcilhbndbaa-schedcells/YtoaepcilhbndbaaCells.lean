/- SchedCells, walked. -/
import Derived.Test.YtoaepcilhbndbaaCe
import Derived.Test.YtoaepcilhbndbaaOt
import Derived.Test.YtoaepcilhbndbaaArg
namespace Go.Proofs.Ytoaepcilhbndbaa
open Go.ChangeShapes Go.WideShapes Go.ChangeAt Go.RowKit Go.Proofs.Sc Go.Maps
set_option linter.unusedVariables false
set_option linter.unusedSimpArgs false

def cnt (A : List (List Int)) : Nat := (A.map List.length).sum
/-- What was laid behind i lists. -/
structure CL (A : List (List Int)) (i c : Nat) (s : Int) : Prop where
  cnt : c = cnt (A.take i)
  sum : s = rsum (A.take i)
  pos : ∀ l ∈ A.take i, ∀ x ∈ l, 1 ≤ x ∧ x ≤ 1000
theorem isum_le {l : List Int} (h : ∀ x ∈ l, 1 ≤ x ∧ x ≤ 1000) : 0 ≤ isum l ∧ isum l ≤ 1000 * l.length := by
  induction l with
  | nil => simp [isum]
  | cons x l ih =>
    obtain ⟨a, b⟩ := ih (fun y hy => h y (by simp [hy]))
    have := h x (by simp)
    rw [isum_cons, List.length_cons]
    omega
theorem rsum_le {R : List (List Int)} (h : ∀ l ∈ R, ∀ x ∈ l, 1 ≤ x ∧ x ≤ 1000) : 0 ≤ rsum R ∧ rsum R ≤ 1000 * cnt R := by
  induction R with
  | nil => simp [rsum, cnt]
  | cons a R ih =>
    obtain ⟨p, q⟩ := ih (fun l hl => h l (by simp [hl]))
    obtain ⟨u, v⟩ := isum_le (h a (by simp))
    rw [rsum_cons]
    simp only [cnt, List.map_cons, List.sum_cons] at q ⊢
    omega
theorem CL.start (A : List (List Int)) : CL A 0 0 0 := ⟨rfl, rfl, fun l hl => by simp at hl⟩
theorem CL.next {A : List (List Int)} {i c : Nat} {s : Int} (h : CL A i c s) {a : List Int} (ha : A[i]? = some a) (hp : ∀ x ∈ a, 1 ≤ x ∧ x ≤ 1000) : CL A (i + 1) (c + a.length) (s + isum a) := by
  have hi := (List.getElem?_eq_some_iff.1 ha).1
  have e : A.take (i + 1) = A.take i ++ [a] := by
    rw [List.take_succ_eq_append_getElem hi]
    rw [List.getElem?_eq_getElem hi] at ha
    injection ha with ha
    rw [ha]
  refine ⟨?_, ?_, ?_⟩
  · rw [e, h.cnt]; simp [Go.Proofs.Ytoaepcilhbndbaa.cnt]
  · rw [e, rsum_append, h.sum]; simp [rsum]
  · rw [e]
    intro l hl
    rcases List.mem_append.1 hl with z | z
    · exact h.pos l z
    · have : l = a := by simpa using z
      subst this; exact hp
theorem addT_len (l : List Int) : (addT l).length = l.length := by simp [addT]
theorem lens_add (A : List (List Int)) : lens (A.map addT) = cnt A := by
  induction A with
  | nil => rfl
  | cons a A ih => rw [List.map_cons, lens_cons, ih, addT_len]; simp [cnt]
/-- The tasks, with the one that awaits the sum. -/
def cellL (A : List (List Int)) (s : Int) : List (List Stp) := A.map addT ++ [[⟨4, 5, s⟩, ⟨5, 1, 0⟩]]
theorem cell_all {A : List (List Int)} {s : Int} (h : ∀ l ∈ A, ∀ x ∈ l, 1 ≤ x ∧ x ≤ 1000) (hs : 0 ≤ s ∧ s ≤ 200000) : (∀ t ∈ cellL A s, ∀ u ∈ t, u.Ok) ∧ AllKnown (cellL A s) := by
  have key : ∀ t ∈ cellL A s, ∀ u ∈ t, u.Ok ∧ Known u := by
    intro t ht u hu
    rcases List.mem_append.1 ht with z | z
    · obtain ⟨l, hl, rfl⟩ := List.mem_map.1 z
      unfold addT at hu
      obtain ⟨x, hx, rfl⟩ := List.mem_map.1 hu
      have := h l hl x hx
      exact ⟨⟨by unfold i64; simp only; omega, by unfold i64; simp only; omega, by unfold i64; simp only; omega⟩, by simp only; omega, by simp only; omega⟩
    · simp at z
      subst z
      simp at hu
      rcases hu with rfl | rfl <;> exact ⟨⟨by unfold i64; simp only; omega, by unfold i64; simp only; omega, by unfold i64; simp only; omega⟩, by simp only; omega, by simp only; omega⟩
  exact ⟨fun t ht s hs => (key t ht s hs).1, fun t ht s hs => (key t ht s hs).2⟩
theorem cell_init {A : List (List Int)} {s : Int} (h : ∀ l ∈ A, ∀ x ∈ l, 1 ≤ x ∧ x ≤ 1000) (hs : s = rsum A) (hs2 : s ≤ 200000) : CI A.length s (initS (cellL A s)) A [⟨4, 5, s⟩, ⟨5, 1, 0⟩] :=
  ⟨rfl, rfl, rfl, by show (0 : Int) = _; omega, fun l hl x hx => (h l hl x hx).1, Or.inl ⟨rfl, rfl⟩, by omega, hs2, by omega⟩
/-- Where the picks are. -/
def CQ (n : Nat) (sum : Int) (q c : Nat) (S : Sc) : Prop := (∃ R last, CI n sum S R last) ∧ lens S.ahead + q = c + 2
theorem CQ.go {n : Nat} {sum : Int} {q c : Nat} {S : Sc} (h : CQ n sum q c S) (hq : q < c + 2) (p : Int) : ∃ i S', goS S p = (i, 0, S') ∧ i ≤ n ∧ CQ n sum (q + 1) c S' ∧ (i = n → S.cell 5 = sum) := by
  obtain ⟨⟨R, last, f⟩, h1⟩ := h
  obtain ⟨i, S', e1, e2, e3, e4, e5⟩ := f.go (by omega) p
  exact ⟨i, S', e1, e2, ⟨e3, by omega⟩, e5⟩
theorem addT_take {a : List Int} {k : Nat} {x : Int} (h : a[k]? = some x) : addT (a.take (k + 1)) = addT (a.take k) ++ [⟨3, 5, x⟩] ∧ isum (a.take (k + 1)) = isum (a.take k) + x ∧ (a.take (k + 1)) = a.take k ++ [x] := by
  have hk := (List.getElem?_eq_some_iff.1 h).1
  have e : a.take (k + 1) = a.take k ++ [x] := by
    rw [List.take_succ_eq_append_getElem hk]
    rw [List.getElem?_eq_getElem hk] at h
    injection h with h
    rw [h]
  refine ⟨by rw [e]; simp [addT], by rw [e, isum_append]; simp [isum], e⟩
set_option maxRecDepth 100000 in
set_option maxHeartbeats 10000000 in
theorem cells_core (v u : Value) (A : List (List Int)) (l : List Int) (w : World) (h : RowsAt w v A) (hl : IntsAt w u l) : Calls Try.prog 6 #[v, u] w fun e w' => e = .returned (.bool true) ∧ Below w.heap.size w w' := by
  obtain ⟨o, cap, rfl, ha1, ha2⟩ := h.shape
  obtain ⟨o', cap', rfl, hlm⟩ := hl.shape
  have H := hide h
  have HL := hide hl
  obtain ⟨n, hn⟩ : ∃ n, A.length = n := ⟨_, rfl⟩
  obtain ⟨np, hnp⟩ : ∃ np, l.length = np := ⟨_, rfl⟩
  rw [hn] at ha1 H ⊢
  rw [hnp] at hlm HL ⊢
  have HN := hide hn
  clear h hl hn hnp
  by_cases c : 20 < n
  · have d : decide ((n : Int) > 20) = true := decide_eq_true (by omega)
    clear H HL
    go_enter Try.func6, Try.ntmps6
    go_wp2_with fail
    go_ret
    exact ⟨rfl, Below.refl _ _⟩
  · have d : decide ((n : Int) > 20) = false := decide_eq_false (by omega)
    by_cases c2 : 400 < np
    · have d2 : decide ((np : Int) > 400) = true := decide_eq_true (by omega)
      clear H HL
      go_enter Try.func6, Try.ntmps6
      go_wp2_with fail
      go_ret
      exact ⟨rfl, Below.refl _ _⟩
    · have d2 : decide ((np : Int) > 400) = false := decide_eq_false (by omega)
      have hn20 : n ≤ 20 := by omega
      have hnp4 : np ≤ 400 := by omega
      clear c c2
      go_enter Try.func6, Try.ntmps6
      go_wp2_with fail
      go_loopw [5, 6, 7, 8] (fun nv sv tv iv wr => ∃ (i c : Nat) (s : Int), iv = .int .i64 (i : Int) ∧ nv = .int .i64 (c : Int) ∧ sv = .int .i64 s ∧ i ≤ n ∧ c ≤ 200 ∧ 0 ≤ s ∧ s ≤ 1000 * (c : Int) ∧ Hid (CL A i c s) ∧ Hid (Ot w wr tv ((A.take i).map addT))) (fun _ _ _ iv _ => n - (intOf iv).toNat)
      case atStart => exact ⟨0, 0, 0, rfl, rfl, rfl, Nat.zero_le _, by omega, by omega, by omega, hide (CL.start A), hide (Ot.start w)⟩
      case round =>
        obtain ⟨i, c, s, rfl, rfl, rfl, hi, hc, hs0, hs1, hCL, hO⟩ := hrel
        by_cases hlt : i < n
        · have i1 : (i : Int) < (n : Int) := by omega
          obtain ⟨g, off, o2, c2, a, rfl, hA, hcell, hac, hc2, hIa⟩ := H.out.at hO.out.below hlt
          obtain ⟨m, hm⟩ : ∃ m, a.length = m := ⟨_, rfl⟩
          rw [hm] at hcell hac hIa
          have HI := hide hIa
          have HA := hide hA
          have HM := hide hm
          obtain ⟨wo, hwo⟩ : ∃ wo, wo = wr := ⟨_, rfl⟩
          subst hwo
          clear hIa hA hm
          go_wp2_with fail
          go_loopw [5, 6, 9, 10] (fun nv sv tv kv wz => ∃ (k c2 : Nat) (s2 : Int), kv = .int .i64 (k : Int) ∧ nv = .int .i64 (c2 : Int) ∧ sv = .int .i64 s2 ∧ k ≤ m ∧ c2 = c + k ∧ c2 ≤ 200 ∧ 0 ≤ s2 ∧ s2 ≤ 1000 * (c2 : Int) ∧ Hid (s2 = s + isum (a.take k)) ∧ Hid (∀ x ∈ a.take k, 1 ≤ x ∧ x ≤ 1000) ∧ Hid (wz.ownsRow wo.heap.size 36 3 tv k (flat (addT (a.take k)))) ∧ Hid (Below wo.heap.size wo wz)) (fun _ _ _ kv _ => m - (intOf kv).toNat)
          case atStart => exact ⟨0, c, s, rfl, rfl, rfl, Nat.zero_le _, by omega, by omega, by omega, by omega, hide (by simp [isum]), hide (fun x hx => by simp at hx), hide (World.ownsRow_nil wo wo.heap.size 36 3), hide (Below.refl _ _)⟩
          case round =>
            obtain ⟨k, cc, s2, rfl, rfl, rfl, hk, hcc, hcc2, hs20, hs21, hs2, hpos, hown, hB⟩ := hrel
            have HCC := hide hcc
            have hBw : Below w.heap.size w wr := hO.out.below.trans (hB.out.mono hO.out.below.size)
            have hg : g < wo.heap.size := cell_lt hcell
            have hcell' := (hB.out.cell (p := ⟨g, off + i, none⟩) hg).trans hcell
            clear hcc
            by_cases hkm : k < m
            · have k1 : (k : Int) < (m : Int) := by omega
              obtain ⟨g2, off2, x, rfl, hx, x64, hcx⟩ := HI.out.at hBw hkm
              obtain ⟨x0, x1⟩ := x64
              by_cases z1 : 200 < cc + 1
              · have dz1 : decide ((cc : Int) + 1 > 200) = true := decide_eq_true (by omega)
                clear hx
                go_wp2_with fail
                go_ret
                exact ⟨rfl, hBw⟩
              · have dz1 : decide ((cc : Int) + 1 > 200) = false := decide_eq_false (by omega)
                by_cases z2 : x < 1
                · have dz2 : decide (x < 1) = true := decide_eq_true z2
                  clear hx
                  go_wp2_with fail
                  go_ret
                  exact ⟨rfl, hBw⟩
                · have dz2 : decide (x < 1) = false := decide_eq_false z2
                  by_cases z3 : x > 1000
                  · have dz3 : decide (x > 1000) = true := decide_eq_true z3
                    clear hx
                    go_wp2_with fail
                    go_ret
                    exact ⟨rfl, hBw⟩
                  · have dz3 : decide (x > 1000) = false := decide_eq_false z3
                    obtain ⟨t1, t2, t3⟩ := addT_take hx
                    have hl2 : (addT (a.take k)).length = k := by rw [addT_len, List.length_take, HM.out]; omega
                    obtain ⟨g4, c4, w4, r4, o4, b4, gr4⟩ := snoc_run wr wo.heap.size 34 (t := addT (a.take k)) (r := [⟨3, 5, x⟩]) (by rw [hl2]; exact hown.out) #[.int .i64 3, .int .i64 5, .int .i64 x] rfl (Nat.zero_lt_succ _) (by rw [hl2]; show k + 1 ≤ _; have := HCC.out; omega) hB.out.size
                    rw [← t1] at o4
                    have hl3 : (addT (a.take (k + 1))).length = k + 1 := by rw [addT_len, List.length_take, HM.out]; omega
                    rw [hl3, hl2] at o4
                    rw [hl2] at r4
                    have R4 := hide r4
                    have O4 := hide o4
                    have B4 := hide (hB.out.trans b4)
                    have S4 : Hid (s2 + x = s + isum (a.take (k + 1))) := hide (by rw [t2, hs2.out]; omega)
                    have P4 : Hid (∀ y ∈ a.take (k + 1), 1 ≤ y ∧ y ≤ 1000) := hide (by
                      rw [t3]
                      intro y hy
                      rcases List.mem_append.1 hy with z | z
                      · exact hpos.out y z
                      · have : y = x := by simpa using z
                        subst this; omega)
                    have hgl2 := cell_lt hcx
                    have cl1 : w4.cell? ⟨g, off + i, none⟩ = some (.slice (some ⟨g2, off2, none⟩) m c2) := ((hB.out.trans b4).cell (p := ⟨g, off + i, none⟩) hg).trans hcell
                    have cl2 : w4.cell? ⟨g2, off2 + k, none⟩ = some (.int .i64 x) := by
                      have hg2 : g2 < w.heap.size := by
                        obtain ⟨q1, q2, q3, q4, q5, q6, q7, q8⟩ := HI.out
                        obtain ⟨y1, y2, y3, y4, y5⟩ := q8 (fun z => by rw [z] at hx; simp at hx)
                        injection q3 with q3
                        rw [y3] at q3
                        injection q3 with q3
                        injection q3 with q3
                        omega
                      have hbw4 : Below w.heap.size w w4 := hO.out.below.trans ((hB.out.trans b4).mono hO.out.below.size)
                      rw [hbw4.cell (p := ⟨g2, off2 + k, none⟩) hg2, ← hBw.cell (p := ⟨g2, off2 + k, none⟩) hg2]
                      exact hcx
                    clear hx t1 t2 t3 hl2 hl3 r4 o4 b4 gr4 hown hB hpos hs2 hBw
                    go_wp2_with (first | (at_builtin; refine list_append_run (by rfl) (.tmp 69) (.tmp 78) 34 (by rfl) (by rfl) (by rfl) R4.out ?_))
                    go_roundw
                    case rel => exact ⟨k + 1, cc + 1, s2 + x, by go_num, by go_num, by go_num, by omega, by have := HCC.out; omega, by omega, by omega, by omega, S4, P4, O4, B4⟩
                    case measure => simp [intOf]; omega
            · obtain rfl : k = m := by omega
              have hta : a.take k = a := by rw [← HM.out, List.take_length]
              rw [hta] at hown hs2 hpos
              obtain ⟨hst, ot, ct, hvt⟩ := steps_of_owns hown.out
              rw [addT_len, HM.out] at hvt
              rw [hvt] at hst
              subst hvt
              have hO2 := hO.out.more hB.out
              have hln : (List.map addT (List.take i A)).length = i := by rw [List.length_map, List.length_take, HN.out]; omega
              obtain ⟨g3, cap3, w3, r3, o3⟩ := hO2.push (by rw [hln]; omega) (hO.out.new hst) 22
              have hmp : List.map addT (List.take i A) ++ [addT a] = List.map addT (List.take (i + 1) A) := by
                have hil := (List.getElem?_eq_some_iff.1 HA.out).1
                rw [List.take_succ_eq_append_getElem hil, List.map_append]
                have := HA.out
                rw [List.getElem?_eq_getElem hil] at this
                injection this with this
                rw [this]; rfl
              rw [hmp, hln] at o3
              rw [hln] at r3
              have R3 := hide r3
              have O3 := hide o3
              have NX := hide (hCL.out.next HA.out hpos.out)
              rw [HM.out, ← hs2.out, ← HCC.out] at NX
              clear r3 o3 hO2 hO hst hmp hln hown hB hpos hs2 hCL hBw hta HA HI hcell
              go_wp2_with (first | (at_builtin; refine list_append_run (by rfl) (.tmp 89) (.tmp 91) 22 (by rfl) (by rfl) (by rfl) R3.out ?_))
              go_roundw
              case rel => exact ⟨i + 1, cc, s2, by go_num, rfl, rfl, by omega, by omega, by omega, by omega, NX, O3⟩
              case measure => simp [intOf]; omega
        · obtain rfl : i = n := by omega
          have hta : A.take i = A := by rw [← HN.out, List.take_length]
          rw [hta] at hO
          have cl := hCL.out
          have hsum := cl.sum
          have hcnt := cl.cnt
          have hpos := cl.pos
          rw [hta] at hsum hcnt hpos
          obtain ⟨W, hW⟩ : ∃ W, W = wr.alloc (.cells #[.int .i64 4, .int .i64 5, .int .i64 s, .int .i64 5, .int .i64 1, .int .i64 0] 36) := ⟨_, rfl⟩
          have st : StepsAt W (.slice (some ⟨wr.heap.size, 0, none⟩) 2 2) [⟨4, 5, s⟩, ⟨5, 1, 0⟩] (fun x => wr.heap.size ≤ x) := by
            have := steps_block (w := W) (g := wr.heap.size) (t := [⟨4, 5, s⟩, ⟨5, 1, 0⟩]) (cs := #[.int .i64 4, .int .i64 5, .int .i64 s, .int .i64 5, .int .i64 1, .int .i64 0]) (by rw [hW]; exact heap_alloc_new _ _) rfl (n := 2) rfl (by omega)
            obtain ⟨o', cap', a1, a2, a3, a4, a5⟩ := this
            refine ⟨o', cap', a1, a2, a3, a4, fun z => ?_⟩
            obtain ⟨gg, off', e, _, hgg, hcc⟩ := a5 z
            injection a1 with e1 e2 e3
            rw [e] at e1
            injection e1 with e1
            injection e1 with e1 e4
            exact ⟨gg, off', e, by omega, hgg, hcc⟩
          have hO2 := hO.out.more (w' := W) (by rw [hW]; exact (Below.refl _ _).alloc (Nat.le_refl _) _)
          have hln : (List.map addT A).length = i := by rw [List.length_map]; exact HN.out
          obtain ⟨g3, cap3, w3, r3, o3⟩ := hO2.push (by rw [hln]; omega) (hO.out.new st) 22
          have hsz : W.heap.size = wr.heap.size + 1 := by rw [hW]; simp
          rw [hln, hsz, hW] at r3
          have R3 := hide r3
          rw [show List.map addT A ++ [[⟨4, 5, s⟩, ⟨5, 1, 0⟩]] = cellL A s from rfl, hln] at o3
          have hll : lens (cellL A s) = c + 2 := by
            unfold cellL
            rw [lens_append, lens_add, hcnt]; rfl
          have N := hide (J.new _ _ o3.tasks (by rw [hll]; omega) (cell_all hpos (by omega)).1 (new_ok (by show (List.map addT A ++ _).length ≤ 64; rw [List.length_append, hln]; simp; omega) (by rw [hll]; omega) (cell_all hpos (by omega)).2) o3.below)
          have Q0 : Hid (CQ i s 0 c (initS (cellL A s))) := hide ⟨⟨_, _, by have := cell_init hpos hsum (by omega); rw [HN.out] at this; exact this⟩, by show lens (cellL A s) + 0 = _; omega⟩
          clear hO hO2 st hW r3 o3 hll hpos hsum hcnt cl hCL hln hsz H hta
          go_wp2_with (first | (at_builtin; refine list_append_run (by rfl) (.tmp 93) (.tmp 98) 22 (by rfl) (by rfl) (by rfl) R3.out ?_))
          refine N.out.mono ?_
          rintro e w1 ⟨mm, rfl, j1⟩
          clear N R3
          go_wp2_with fail
          go_loopw [14] (fun iv wr => ∃ (q : Nat) (S : Sc), iv = .int .i64 (q : Int) ∧ q ≤ c + 2 ∧ Hid (CQ i s q c S) ∧ J w mm wr S) (fun iv _ => c + 2 - (intOf iv).toNat)
          case atStart => exact ⟨0, _, rfl, Nat.zero_le _, Q0, j1⟩
          case round =>
            obtain ⟨q, S, rfl, hq, hQ, jr⟩ := hrel
            clear j1 Q0
            by_cases hql : q < c + 2
            · have q1 : (q : Int) < (c : Int) + 2 := by omega
              obtain ⟨x5, hx5⟩ : ∃ x, S.cell 5 = x := ⟨_, rfl⟩
              have x564 := jr.wf.cell 5
              rw [hx5] at x564
              obtain ⟨p, hp64, hpw⟩ : ∃ p : Int, i64 p ∧ ((¬ q < np ∧ p = (q : Int)) ∨ (q < np ∧ ∃ g off, o' = some ⟨g, off, none⟩ ∧ wr.cell? ⟨g, off + q, none⟩ = some (.int .i64 p))) := by
                by_cases z : q < np
                · obtain ⟨g, off, y, e1, _, e3, e4⟩ := HL.out.at jr.below z
                  exact ⟨y, e3, Or.inr ⟨z, g, off, e1, e4⟩⟩
                · exact ⟨q, by unfold i64; omega, Or.inl ⟨z, rfl⟩⟩
              obtain ⟨ii, S', G, hii, nq, hlast⟩ := hQ.out.go hql p
              have HG := hide G
              have NQ := hide nq
              obtain ⟨y1, y2⟩ := x564
              have dl : ((ii : Int) == (i : Int)) = false ∨ ((ii : Int) == (i : Int)) = true ∧ (x5 != s) = false := by
                by_cases z : ii = i
                · right
                  refine ⟨by rw [beq_iff_eq]; omega, ?_⟩
                  rw [← hx5, hlast z]; simp
                · left; exact beq_eq_false_iff_ne.2 (by omega)
              clear G nq hlast hQ
              rcases hpw with ⟨z, rfl⟩ | ⟨z, g, off, rfl, hcp⟩
              all_goals
                first
                  | have dz : decide ((q : Int) < (np : Int)) = false := decide_eq_false (by omega)
                  | (have dz : decide ((q : Int) < (np : Int)) = true := decide_eq_true (by omega)
                     have dz' : (q : Int) < (np : Int) := by omega)
                rcases dl with dl | ⟨dl, dl2⟩
                all_goals
                  go_wp2_with fail
                  refine (jr.cellAt (by unfold i64; decide) hx5).mono ?_
                  rintro e w2 ⟨rfl, j2, _⟩
                  clear jr
                  go_wp2_with fail
                  refine (j2.go hp64 HG.out).mono ?_
                  rintro e w3 ⟨rfl, j3⟩
                  clear j2 HG hx5
                  go_wp2_with fail
                  go_roundw
                  case rel => exact ⟨q + 1, S', by go_num, by omega, NQ, j3⟩
                  case measure => simp [intOf]; omega
            · have q1 : ¬ (q : Int) < (c : Int) + 2 := by omega
              obtain ⟨⟨R, last, f⟩, h1⟩ := hQ.out
              have l0 : lens S.ahead = 0 := by omega
              obtain ⟨hc5, hsl⟩ := f.end l0
              have G := hide (go_done_code 0 f.over l0)
              obtain ⟨ls, hls⟩ : ∃ ls, S.said = ls := ⟨_, rfl⟩
              rw [hls] at hsl
              have HC5 := hide hc5
              clear f h1 l0 hQ hc5
              go_wp2_with fail
              refine (jr.go (by unfold i64; decide) G.out).mono ?_
              rintro e w3 ⟨rfl, j3⟩
              clear jr G
              go_wp2_with fail
              refine (j3.said hls).mono ?_
              rintro e w4 ⟨o4, c4, rfl, _, _, _, j4, _⟩
              rw [hsl]
              clear j3 hls hsl
              go_wp2_with fail
              refine (j4.cellAt (by unfold i64; decide) HC5.out).mono ?_
              rintro e w5 ⟨rfl, j5, _⟩
              have J5 := hide j5.below
              clear j4 j5 HC5
              go_wp2_with fail
              refine (awake_core _).mono ?_
              rintro e w9 ⟨rfl, b9⟩
              go_wp2_with fail
              go_ret
              exact ⟨rfl, J5.out.trans (b9.mono J5.out.size)⟩
end Go.Proofs.Ytoaepcilhbndbaa
