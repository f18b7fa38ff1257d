/- J22 of the proof of both laws: texts RefO, RefP, RefQ, one behind the other. -/
import Derived.Test.YtlfcnaalkjpgnaaJ21
import Derived.RegionTactic
import Derived.Deep.RegionWith
/- The reference of chapter 3: a page is made ready. -/
namespace Go.Proofs.Ytlfcnaalkjpgnaa
open Go.ChangeShapes Go.WideShapes Go.ChangeAt Go.RowKit Go.Proofs.Sp

/-- A page is ready now, all its words v. -/
def fillP (S : Sp) (p v : Nat) : Sp := { S with st := fun x => if x = p then 2 else S.st x, wd := fun a => if a / 8192 = p then v else S.wd a }
def setF (fl : Nat → Nat) (p v : Nat) : Nat → Nat := fun x => if x = p then v else fl x
theorem fill_logic {S : Sp} {fl : Nat → Nat} {ws : List (Nat × Nat)} (h : Logic S fl ws) (p v : Nat) (hp : S.st p ≠ 0) (h2 : S.st p ≠ 2) (hv : v < 18446744073709551616) : Logic (fillP S p v) (setF fl p v) ws := by
  refine ⟨h.wf.turn rfl (fun x => ?_) (fun x => ?_), h.rising, fun x hx => ?_, fun x => ?_, fun a ha hst => ?_⟩
  · show (if x = p then 2 else S.st x) ≠ 0 ↔ S.st x ≠ 0
    by_cases c : x = p
    · rw [if_pos c, c]; exact ⟨fun _ => hp, fun _ => by decide⟩
    · rw [if_neg c]
  · show (if x = p then 2 else S.st x) ≤ 3
    split
    · decide
    · exact h.wf.le3 x
  · obtain ⟨r1, r2, r3⟩ := h.ready x hx
    refine ⟨?_, r2, r3⟩
    show (if x.1 / 8192 = p then 2 else S.st (x.1 / 8192)) = 2
    split
    · rfl
    · exact r1
  · unfold setF
    split
    · exact hv
    · exact h.fill x
  · show (if a / 8192 = p then v else S.wd a) = _
    by_cases c : a / 8192 = p
    · rw [if_pos c, wordV_none]
      · unfold setF; rw [if_pos c]
      · intro hm
        obtain ⟨y, hy⟩ := addrs_mem hm
        have := (h.ready _ hy).1
        rw [show ((a, y) : Nat × Nat).1 / 8192 = p from c] at this
        exact h2 this
    · have hst' : S.st (a / 8192) = 2 := by
        have : (if a / 8192 = p then 2 else S.st (a / 8192)) = 2 := hst
        rw [if_neg c] at this; exact this
      rw [if_neg c, h.word a ha hst']
      by_cases hm : a ∈ addrs ws
      · obtain ⟨y, hy⟩ := addrs_mem hm
        rw [wordV_mem h.rising fl a y hy, wordV_mem h.rising _ a y hy]
      · rw [wordV_none fl a hm, wordV_none _ a hm]; unfold setF; rw [if_neg c]
theorem fill_pages {S : Sp} (hs : S.pgs.Pairwise (· < ·)) (fl : Nat → Nat) (i v : Nat) (hi : i < S.pgs.length) : (pageL S fl).set i (S.pgs[i], 2, v) = pageL (fillP S S.pgs[i] v) (setF fl S.pgs[i] v) := by
  have e1 : (pageL S fl).length = S.pgs.length := by simp [pageL]
  apply List.ext_getElem?
  intro k
  by_cases hk : k < S.pgs.length
  · have e2 : (pageL (fillP S S.pgs[i] v) (setF fl S.pgs[i] v))[k]? = some (S.pgs[k], (if S.pgs[k] = S.pgs[i] then 2 else S.st S.pgs[k]), (if S.pgs[k] = S.pgs[i] then v else fl S.pgs[k])) := by
      unfold pageL
      rw [List.getElem?_map]
      show Option.map _ S.pgs[k]? = _
      rw [List.getElem?_eq_getElem hk]
      rfl
    rw [e2]
    by_cases c : i = k
    · subst c
      rw [List.getElem?_set_self (by rw [e1]; exact hk), if_pos rfl, if_pos rfl]
    · have hne : S.pgs[k] ≠ S.pgs[i] := fun e => by
        rcases Nat.lt_or_gt_of_ne c with d | d
        · have := List.pairwise_iff_getElem.1 hs i k hi hk d; omega
        · have := List.pairwise_iff_getElem.1 hs k i hk hi d; omega
      rw [List.getElem?_set_ne c, if_neg hne, if_neg hne]
      unfold pageL
      rw [List.getElem?_map, List.getElem?_eq_getElem hk]
      rfl
  · rw [List.getElem?_eq_none (by rw [List.length_set, e1]; omega), List.getElem?_eq_none (by simp [pageL, fillP]; omega)]
variable {w : World} {m : Nat} {S : Sp} {fl : Nat → Nat} {ws : List (Nat × Nat)} {v0 v1 v2 : Value} {o3 : Option Addr} {c3 : Nat} {o4 : Option Addr} {c4 : Nat}
/-- The page's three cells are written. -/
theorem RefC.fillPage (g : Nat) (h : RefC w m S fl ws v0 v1 v2 (some ⟨g, 0, none⟩) c3 o4 c4) (ap : Apart m v0 v1 v2 (some ⟨g, 0, none⟩) o4) (i v : Nat) (hi : i < S.pgs.length) (h2 : S.st S.pgs[i] ≠ 2) (hv : v < 18446744073709551616) :
    RefC (((w.setCell ⟨g, i * 3, none⟩ (.int .u64 (S.pgs[i] : Int))).setCell ⟨g, i * 3 + 1, none⟩ (.int .i64 2)).setCell ⟨g, i * 3 + 2, none⟩ (.int .u64 (v : Int))) m (fillP S S.pgs[i] v) (setF fl S.pgs[i] v) ws v0 v1 v2 (some ⟨g, 0, none⟩) c3 o4 c4 ∧
    Kept (fun b => b = g) w (((w.setCell ⟨g, i * 3, none⟩ (.int .u64 (S.pgs[i] : Int))).setCell ⟨g, i * 3 + 1, none⟩ (.int .i64 2)).setCell ⟨g, i * 3 + 2, none⟩ (.int .u64 (v : Int))) := by
  have M := h.mem
  have e1 : (pageL S fl).length = S.pgs.length := by simp [pageL]
  have own := owns_set3 M.own3 i (S.pgs[i], 2, v) (by rw [e1]; exact hi)
  have K := kept_set3 w g (i * 3) (i * 3 + 1) (i * 3 + 2) (.int .u64 (S.pgs[i] : Int)) (.int .i64 2) (.int .u64 (v : Int))
  have M2 := M.newPages ap (fun b hb => h.lt b hb) K (ps' := (pageL S fl).set i (S.pgs[i], 2, v)) (by rw [List.length_set]) (by rw [List.length_set]; exact own)
  rw [fill_pages h.wf.rising fl i v hi] at M2
  exact ⟨RefM.ref (S := fillP S S.pgs[i] v) M2 (fill_logic h.logic _ v ((h.wf.mem _).2 (List.getElem_mem hi)) h2 hv), K⟩
theorem readyOne_1 (S : Sp) (p : Nat) (h : S.st p = 1) : readyOne S p = fillP S p 0 := by
  unfold readyOne; rw [if_neg (by omega), if_neg (by omega)]; rfl
theorem readyOne_3 (S : Sp) (p : Nat) (h : S.st p = 3) : readyOne S p = fillP { S with fills := S.fills.tail } p (S.fills.headD 0) := by
  unfold readyOne; rw [if_neg (by omega), if_pos h]; rfl
theorem readyOne_2 (S : Sp) (p : Nat) (h : S.st p = 2) : readyOne S p = S := by unfold readyOne; rw [if_pos h]
end Go.Proofs.Ytlfcnaalkjpgnaa

/- The reference of chapter 3: Commit where pages are made ready. -/
namespace Go.Proofs.Ytlfcnaalkjpgnaa
open Go.ChangeShapes Go.WideShapes Go.ChangeAt Go.RowKit Go.Proofs.Sp

variable {w : World} {m : Nat} {S : Sp} {fl : Nat → Nat} {ws : List (Nat × Nat)} {v0 v1 v2 : Value} {o3 : Option Addr} {c3 : Nat} {o4 : Option Addr} {c4 : Nat}
/-- What holds of a round: the space is ready so far. -/
def Ready (m g : Nat) (S1 : Sp) (a k : Nat) (ws : List (Nat × Nat)) (v0 v1 v2 : Value) (c3 : Nat) (o4 : Option Addr) (c4 : Nat) (w : World) : Prop :=
  ∃ fl' v2', v2'.ownBlock = v2.ownBlock ∧ RefC w m (readyN S1 a k) fl' ws v0 v1 v2' (some ⟨g, 0, none⟩) c3 o4 c4 ∧ Apart m v0 v1 v2' (some ⟨g, 0, none⟩) o4
theorem RefC.later {w w' : World} (h : RefC w m S fl ws v0 v1 v2 o3 c3 o4 c4) (o : Obj) (hw : w' = (w.alloc o).drew ∨ w' = w.alloc o) : RefC w' m S fl ws v0 v1 v2 o3 c3 o4 c4 := by
  have e : ∀ b, b < w.heap.size → w'.heap[b]? = w.heap[b]? := fun b hb => by
    rcases hw with rfl | rfl
    · exact Below.heap_alloc w o b hb
    · exact Below.heap_alloc w o b hb
  have s : w.heap.size ≤ w'.heap.size := by
    rcases hw with rfl | rfl
    · show w.heap.size ≤ (w.alloc o).heap.size; simp
    · simp
  exact h.kept s fun b hb => e b (h.lt b hb)
theorem kept_later {w w0 w' : World} {F : Nat → Prop} (h : Kept F w0 w) (o : Obj) (hw : w' = (w.alloc o).drew ∨ w' = w.alloc o) : Kept F w0 w' := by
  refine h.trans ?_
  rcases hw with rfl | rfl
  · exact ⟨rfl, rfl, rfl, by show w.heap.size ≤ (w.alloc o).heap.size; simp, fun b hb _ => Below.heap_alloc w o b hb⟩
  · exact ⟨rfl, rfl, rfl, by simp, fun b hb _ => Below.heap_alloc w o b hb⟩
theorem readyOne_fills (S : Sp) (p z : Nat) (h : z ∈ (readyOne S p).fills) : z ∈ S.fills := by
  unfold readyOne at h
  split at h
  · exact h
  · split at h
    · exact List.mem_of_mem_tail h
    · exact h
theorem readyN_fills (S : Sp) (a k z : Nat) (h : z ∈ (readyN S a k).fills) : z ∈ S.fills := by
  induction k with
  | zero => exact h
  | succ k ih => exact ih (readyOne_fills _ _ _ h)
theorem ready_fill {T S1 : Sp} {fl' : Nat → Nat} {a k q g : Nat} {W1 wr : World} {v2' : Value} (hC : RefC wr m T fl' ws v0 v1 v2' (some ⟨g, 0, none⟩) c3 o4 c4) (hA : Apart m v0 v1 v2' (some ⟨g, 0, none⟩) o4) (hv : v2'.ownBlock = v2.ownBlock) (hix : q + k < T.pgs.length) (hrow : T.pgs[q + k] = a + k)
    (h2 : T.st (a + k) ≠ 2) (v : Nat) (hvv : v < 18446744073709551616) (hsu : readyN S1 a (k + 1) = fillP T (a + k) v) (o : Obj) (x : Int) (hx : ((a + k : Nat) : Int) = x) (hK : Kept (fun y => y = m ∨ y = g) W1 wr) :
    Ready m g S1 a (k + 1) ws v0 v1 v2 c3 o4 c4 ((((wr.setCell ⟨g, (q + k) * 3, none⟩ (.int .u64 x)).setCell ⟨g, (q + k) * 3 + 1, none⟩ (.int .i64 2)).setCell ⟨g, (q + k) * 3 + 2, none⟩ (.int .u64 (v : Int))).alloc o).drew ∧
    Kept (fun y => y = m ∨ y = g) W1 ((((wr.setCell ⟨g, (q + k) * 3, none⟩ (.int .u64 x)).setCell ⟨g, (q + k) * 3 + 1, none⟩ (.int .i64 2)).setCell ⟨g, (q + k) * 3 + 2, none⟩ (.int .u64 (v : Int))).alloc o).drew := by
  obtain ⟨hC2, hk2⟩ := hC.fillPage g hA (q + k) v hix (by rw [hrow]; exact h2) hvv
  rw [hrow, hx] at hC2
  rw [hrow, hx] at hk2
  refine ⟨⟨setF fl' (a + k) v, v2', hv, ?_, hA⟩, kept_later (hK.trans (hk2.mono fun y hy => Or.inr hy)) o (Or.inl rfl)⟩
  rw [hsu]
  exact hC2.later o (Or.inl rfl)
set_option maxHeartbeats 4000000 in
set_option maxRecDepth 100000 in
theorem commit_good (g : Nat) (h : RefC w m S fl ws v0 v1 v2 (some ⟨g, 0, none⟩) c3 o4 c4) (hmm : m < w.heap.size) (hgg : g < w.heap.size) (a b : Int) (ha : 0 ≤ a ∧ a ≤ 18446744073709551615) (hb : 0 ≤ b ∧ b ≤ 18446744073709551615) (hn : S.pgs.length ≤ 1099511627776)
    (hr : Sp.right a.toNat b.toNat) (hall : ∀ i, i < b.toNat → S.st (a.toNat + i) ≠ 0) (hR : allR S a.toNat b.toNat = false) (ap : Apart m v0 v1 v2 (some ⟨g, 0, none⟩) o4) (hx : S.refuse.headD false = false) (hfi : ∀ x ∈ S.fills, x < 18446744073709551616) :
    Calls Try.prog 19 #[.pointer (some ⟨m, 0, none⟩), .int .u64 a, .int .u64 b] w fun e w' => e = .returned (.int .i64 0) ∧ ∃ v1', v1'.ownBlock = v1.ownBlock ∧ Ready m g (takeRefuse S) a.toNat b.toNat ws v0 v1' v2 c3 o4 c4 w' ∧ Kept (fun x => x = m ∨ x = g) w w' := by
  have HRR := hidR hR
  have HAP := hidR ap
  have HX := hidR hx
  have HFI := hidR hfi
  clear hR ap hx hfi
  have cr := fun w => right_any a b ha hb w
  rw [decide_eq_true hr] at cr
  have cf := h.find a ha.1 hn
  have h3 := h.h3
  have hr' := hr
  unfold Sp.right at hr'
  have hmem : ∀ i, i < b.toNat → a.toNat + i ∈ S.pgs := fun i hi => (h.wf.mem _).1 (hall i hi)
  have hlen := row_len h.wf.rising a.toNat b.toNat hmem
  have hrow : ∀ j (hj : j < b.toNat), S.pgs[pos S.pgs a.toNat + j]'(by omega) = a.toNat + j := fun j hj => (row_get h.wf.rising a.toNat j (fun k hk => hmem k (by omega)) (by omega)).2 (hmem j hj)
  have hcells : ∀ j, j < b.toNat → w.cell? ⟨g, (pos S.pgs a.toNat + j) * 3, none⟩ = some (.int .u64 ((a.toNat + j : Nat) : Int)) ∧ w.cell? ⟨g, (pos S.pgs a.toNat + j) * 3 + 1, none⟩ = some (.int .i64 (S.st (a.toNat + j) : Int)) ∧ w.cell? ⟨g, (pos S.pgs a.toNat + j) * 3 + 2, none⟩ = some (.int .u64 (fl (a.toNat + j) : Int)) := by
    intro j hj
    obtain ⟨b', off', ho, hc⟩ := h.page (by omega)
    injection ho with ho
    injection ho with e1 e2
    subst e1 e2
    have := hc (pos S.pgs a.toNat + j) (by omega)
    rw [hrow j hj, Nat.zero_add] at this
    exact this
  have HL := hidR h.wf.le3
  obtain ⟨q, hq⟩ : ∃ q, q = pos S.pgs a.toNat := ⟨_, rfl⟩
  rw [← hq] at cf hlen hcells
  have HC := hidR hcells
  have HQ := hidR hq
  obtain ⟨n, hnn⟩ : ∃ n, n = S.pgs.length := ⟨_, rfl⟩
  rw [← hnn] at hn hlen h3
  have HN := hidR hnn
  have HRF := hidR h
  have HAL := hidR hall
  generalize decide (a.toNat ∈ S.pgs) = d at cf
  have hlen' : (q : Int) + b ≤ n := by omega
  have hle : b ≤ (n : Int) - q := by omega
  have hab : a + b ≤ 34359738368 := by omega
  have hb0 : 0 < b := by omega
  clear hcells hnn hrow hmem hr hr' h hq hlen hall
  go_enter Try.func19, Try.ntmps19
  go_wp2_with (first
    | (go_at_call 36; refine (cr _).mono ?_; rintro e w' ⟨rfl, hw'⟩; rw [hw']; clear hw' w')
    | (go_at_call 39; refine cf.mono ?_; rintro e w' ⟨rfl, k, rfl⟩))
  go_loopw [9, 10] (fun r i wr => ∃ j : Int, 0 ≤ j ∧ j ≤ b ∧ r = .bool (allR S a.toNat j.toNat) ∧ i = .int .u64 j ∧ Below w.heap.size w wr) (fun _ i _ => (b - intOf i).toNat)
  case atStart => exact ⟨0, by omega, by omega, by rw [show allR S a.toNat (0 : Int).toNat = true from by unfold allR; simp], rfl, ⟨rfl, rfl, rfl, Nat.le_refl _, fun _ _ => rfl⟩⟩
  case round =>
    obtain ⟨j, hj0, hj1, rfl, rfl, hbel⟩ := hrel
    have hsz := hbel.size
    have g3 := (hbel.cell (p := ⟨m, 3, none⟩) hmm).trans h3
    by_cases hjb : j < b
    · have hcs := HC.out j.toNat (by omega)
      have e3 : q + j.toNat = ((q : Int) + j).toNat := by omega
      have e4 : ((a.toNat + j.toNat : Nat) : Int) = a + j := by omega
      have hsl := HL.out (a.toNat + j.toNat)
      have hsucc := allR_succ S a.toNat j.toNat
      rw [show j.toNat + 1 = (j + 1).toNat by omega] at hsucc
      rw [e3, e4] at hcs
      generalize S.st (a.toNat + j.toNat) = s at hcs hsl hsucc
      have g0 := (hbel.cell (p := ⟨g, ((q : Int) + j).toNat * 3, none⟩) hgg).trans hcs.1
      have g1 := (hbel.cell (p := ⟨g, ((q : Int) + j).toNat * 3 + 1, none⟩) hgg).trans hcs.2.1
      have g2 := (hbel.cell (p := ⟨g, ((q : Int) + j).toNat * 3 + 2, none⟩) hgg).trans hcs.2.2
      have HSU := hidR hsucc
      clear hcs e3 e4 hsucc
      cases hR : allR S a.toNat j.toNat
      · have HR0 := hidR hR
        clear hR
        go_wp2_with fail
        go_roundw
        case rel => exact ⟨j + 1, by omega, by omega, by rw [HSU.out, HR0.out]; rfl, rfl, hbel.alloc hsz _⟩
        case measure => simp [intOf]; omega
      · have HR0 := hidR hR
        clear hR
        go_wp2_with fail
        go_roundw
        case rel => exact ⟨j + 1, by omega, by omega, by rw [HSU.out, HR0.out]; rfl, rfl, hbel.alloc hsz _⟩
        case measure => simp [intOf]; omega
    · obtain rfl : j = b := by omega
      rw [HRR.out]
      have hC1 : RefC wr m S fl ws v0 v1 v2 (some ⟨g, 0, none⟩) c3 o4 c4 := HRF.out.kept hsz fun x hx => hbel.block x (HRF.out.lt x hx)
      have cfu := hC1.refuses HAP.out
      rw [HX.out] at cfu
      clear hC1
      go_wp2_with fail
      go_at_call 35
      refine cfu.mono ?_
      rintro e W1 ⟨rfl, v1', hv, hC', hk⟩
      have HC1 := hidR hC'
      have HK1 := hidR hk
      have HV1 := hidR hv
      clear hC' hk hv cfu g3 cf cr
      go_wp2_with fail
      go_loopw [12] (fun i w2 => ∃ k : Nat, (k : Int) ≤ j ∧ i = .int .i64 (k : Int) ∧ Hid (Ready m g (takeRefuse S) a.toNat k ws v0 v1' v2 c3 o4 c4 w2) ∧ Kept (fun x => x = m ∨ x = g) W1 w2) (fun i _ => (j - intOf i).toNat)
      case atStart => exact ⟨0, by omega, rfl, ⟨fl, v2, rfl, HC1.out, ⟨HAP.out.m0, by rw [HV1.out]; exact HAP.out.m1, HAP.out.m2, HAP.out.m3, HAP.out.m4, fun x hx => by rw [HV1.out]; exact HAP.out.p x hx, fun x hx => by rw [HV1.out]; exact HAP.out.q x hx⟩⟩, ⟨rfl, rfl, rfl, Nat.le_refl _, fun _ _ _ => rfl⟩⟩
      case round =>
        obtain ⟨k, hk, rfl, hrd, hkept⟩ := hrel
        by_cases hkb : (k : Int) < j
        · obtain ⟨fl', v2', hv2, hC, hA⟩ := hrd.out
          obtain ⟨T, hT⟩ : ∃ T, T = readyN (takeRefuse S) a.toNat k := ⟨_, rfl⟩
          rw [← hT] at hC
          have hpg : T.pgs = S.pgs := by rw [hT]; exact (readyN_keeps _ _ _).1
          have hrow : ∀ h, T.pgs[q + k]'h = a.toNat + k := by
            intro h
            have hm' : ∀ i, i < j.toNat → a.toNat + i ∈ S.pgs := fun i hi => (HRF.out.wf.mem _).1 (HAL.out i hi)
            have hl := row_len HRF.out.wf.rising a.toNat j.toNat hm'
            have := (row_get HRF.out.wf.rising a.toNat k (fun i hi => hm' i (by omega)) (by omega)).2 (hm' k (by omega))
            simp only [hpg, HQ.out]
            exact this
          have hix : q + k < T.pgs.length := by rw [hpg, ← HN.out]; omega
          have hst : T.st (a.toNat + k) = S.st (a.toNat + k) := by rw [hT, readyN_st, if_neg (by omega)]; rfl
          have hsucc : readyN (takeRefuse S) a.toNat (k + 1) = readyOne T (a.toNat + k) := by rw [hT]; rfl
          have hne0 : S.st (a.toNat + k) ≠ 0 := HAL.out k (by omega)
          have hl3 := HL.out (a.toNat + k)
          obtain ⟨b', off', ho, hc⟩ := hC.page (by omega)
          injection ho with ho
          injection ho with e1 e2
          subst e1 e2
          have hcs := hc (q + k) hix
          rw [hrow hix, hst] at hcs
          simp only [Nat.zero_add] at hcs
          have hck : ((a.toNat + k : Nat) : Int) = a + k := by omega
          rw [hck] at hcs
          have g0 := hcs.1
          have g1 := hcs.2.1
          have g2 := hcs.2.2
          have m3 := hC.h3
          rw [hpg, ← HN.out] at m3
          have m2 := hC.h2
          have f2 := hC.frozen 2 (by decide)
          have r2 := hC.r2
          have fg := fun i => hC.own3.frozenAt i
          have hm2 : m < wr.heap.size := hC.lt m (Or.inl rfl)
          have hg2 : g < wr.heap.size := hC.lt g (Or.inr (Or.inr (Or.inr (Or.inr (Or.inl rfl)))))
          obtain ⟨s, hse⟩ : ∃ s, s = S.st (a.toNat + k) := ⟨_, rfl⟩
          rw [← hse] at g1 hst hne0 hl3
          have HC2 := hidR hC
          have HA2 := hidR hA
          have HT := hidR hT
          have HIX := hidR hix
          have HROW := hidR hrow
          have HST := hidR hst
          have HSU := hidR hsucc
          have HV2 := hidR hv2
          have HR2 := hidR r2
          have F0 := fg ((q + k) * 3)
          have F1 := fg ((q + k) * 3 + 1)
          have F2 := fg ((q + k) * 3 + 2)
          clear hC hA hT hix hrow hst hsucc hv2 r2 fg hc hcs hck hse hpg hrd
          by_cases s2 : s = 2
          · subst s2
            go_wp2_with fail
            go_roundw
            case rel => exact ⟨k + 1, by omega, by go_num, ⟨fl', v2', HV2.out, by rw [HSU.out, readyOne_2 _ _ HST.out]; exact HC2.out.later _ (Or.inr rfl), HA2.out⟩, kept_later hkept _ (Or.inr rfl)⟩
            case measure => simp [intOf]; omega
          · by_cases s1 : s = 1
            · subst s1
              go_wp2_with fail
              go_region
              have fin := ready_fill HC2.out HA2.out HV2.out HIX.out (HROW.out HIX.out) (by rw [HST.out]; decide) 0 (by decide) (by rw [HSU.out, readyOne_1 _ _ HST.out]) (.cells #[.int .u64 (a + (k : Int)), .int .i64 1, .int .u64 (fl' (a.toNat + k) : Int)] 66) (a + (k : Int)) (by omega) hkept
              have FIN := hidR fin
              clear fin
              go_wp2_with fail
              go_roundw
              case rel => exact ⟨k + 1, by omega, by go_num, FIN.out.1, FIN.out.2⟩
              case measure => simp [intOf]; omega
            · obtain rfl : s = 3 := by omega
              cases hfl : T.fills with
              | nil =>
                have hv2e : ∃ o cap, v2' = .slice o 0 cap := by
                  have r2 := HR2.out
                  rw [hfl] at r2
                  rcases r2 with ⟨e, _⟩ | ⟨b, off, cap, e, _⟩
                  · exact ⟨_, _, e⟩
                  · exact ⟨_, _, e⟩
                obtain ⟨ov, cv, rfl⟩ := hv2e
                have eT : ({ T with fills := T.fills.tail } : Sp) = T := by rw [hfl]; cases T; simp_all
                have fin := ready_fill HC2.out HA2.out HV2.out HIX.out (HROW.out HIX.out) (by rw [HST.out]; decide) 0 (by decide) (by rw [HSU.out, readyOne_3 _ _ HST.out, eT, hfl]; rfl) (.cells #[.int .u64 (a + (k : Int)), .int .i64 3, .int .u64 (fl' (a.toNat + k) : Int)] 66) (a + (k : Int)) (by omega) hkept
                have FIN := hidR fin
                clear fin hfl eT
                go_wp2_with fail
                go_region
                go_wp2_with fail
                go_roundw
                case rel => exact ⟨k + 1, by omega, by go_num, FIN.out.1, FIN.out.2⟩
                case measure => simp [intOf]; omega
              | cons x xs =>
                have r2 := HR2.out
                rw [hfl] at r2
                obtain ⟨bf, off, cap, rfl, hcf, hxf⟩ := Sl.head (x := .int .u64 (x : Int)) (xs := u64s xs) r2
                have HFL := hidR hfl
                have hbf : bf < wr.heap.size := Sl.lt r2 (b := bf) rfl
                clear hfl r2
                obtain ⟨nf, hnf⟩ : ∃ nf, nf = (u64s xs).length := ⟨_, rfl⟩
                rw [← hnf] at hcf m2
                have HNF := hidR hnf
                clear hnf
                have hpos : (0 : Int) < (nf : Int) + 1 := by omega
                have hmg : ¬ m = g := fun e => HA2.out.m3 (by rw [e]; rfl)
                have hgm : ¬ g = m := fun e => hmg e.symm
                -- the answers without the first
                have hxlt : x < 18446744073709551616 := by
                  have hsub : ∀ z, z ∈ T.fills → z ∈ S.fills := fun z hz => by
                    have := readyN_fills (takeRefuse S) a.toNat k z (by rw [← HT.out]; exact hz)
                    exact this
                  exact HFI.out x (hsub x (by rw [HFL.out]; exact List.mem_cons_self))
                have r2 := HR2.out
                rw [HFL.out] at r2
                have hln : (u64s xs).length + 1 = nf + 1 := by rw [← HNF.out]
                have r2' : Sl wr (.slice (some ⟨bf, off, none⟩) ((u64s xs).length + 1) cap) (.int .u64 (x : Int) :: u64s xs) := by exact r2
                have tl := Sl.tail r2'
                have hC2 := HC2.out.setA HA2.out 2 (.slice (some (cutAddr bf off cap)) (u64s xs).length (cap - 1)) v0 v1' _ T.places T.refuse xs rfl rfl rfl (by decide) HC2.out.r0 HC2.out.r1 tl rfl rfl rfl
                have hA3 : Apart m v0 v1' (.slice (some (cutAddr bf off cap)) (u64s xs).length (cap - 1)) (some ⟨g, 0, none⟩) o4 := ⟨HA2.out.m0, HA2.out.m1, HA2.out.m2, HA2.out.m3, HA2.out.m4, HA2.out.p, HA2.out.q⟩
                have eT : ({ T with fills := T.fills.tail } : Sp) = { T with places := T.places, refuse := T.refuse, fills := xs } := by rw [HFL.out]; rfl
                have fin := ready_fill (S1 := takeRefuse S) (W1 := W1) (k := k) (v2 := v2) hC2 hA3 (by rw [← HV2.out]; rfl) HIX.out (HROW.out HIX.out) (by show T.st _ ≠ 2; rw [HST.out]; decide) x hxlt (by rw [HSU.out, readyOne_3 _ _ HST.out, eT, HFL.out]; rfl) (.cells #[.int .u64 (a + (k : Int)), .int .i64 3, .int .u64 (fl' (a.toNat + k) : Int)] 66) (a + (k : Int)) (by omega) (hkept.trans ((kept_setCell wr m 2 _).mono fun y hy => Or.inl hy))
                rw [← HNF.out] at fin
                unfold cutAddr at fin
                clear r2 r2' tl hC2 hA3 eT hln hxlt
                by_cases c1 : cap = 1
                · subst c1
                  obtain rfl : nf = 0 := by omega
                  rw [if_pos rfl] at fin
                  have FIN := hidR fin
                  clear fin
                  go_wp2_with fail
                  go_region
                  go_wp2_with fail
                  go_roundw
                  case rel => exact ⟨k + 1, by omega, by go_num, FIN.out.1, FIN.out.2⟩
                  case measure => simp [intOf]; omega
                · rw [if_neg c1] at fin
                  have FIN := hidR fin
                  clear fin
                  go_wp2_with fail
                  go_region
                  go_wp2_with fail
                  go_roundw
                  case rel => exact ⟨k + 1, by omega, by go_num, FIN.out.1, FIN.out.2⟩
                  case measure => simp [intOf]; omega
        · obtain rfl : (k : Int) = j := by omega
          go_wp2_with fail
          go_ret
          refine ⟨rfl, v1', HV1.out, ?_, ?_⟩
          · exact hrd.out
          · exact ((Kept.of_below hbel).trans (HK1.out.mono fun x hx => Or.inl hx)).trans hkept
end Go.Proofs.Ytlfcnaalkjpgnaa

/- The reference of chapter 3: Commit, as the face asks it. -/
namespace Go.Proofs.Ytlfcnaalkjpgnaa
open Go.ChangeShapes Go.WideShapes Go.ChangeAt Go.RowKit Go.Proofs.Sp

theorem inRef_same {m : Nat} {v0 v1 v2 v0' v1' v2' : Value} {o3 o4 : Option Addr} (e0 : v0'.ownBlock = v0.ownBlock) (e1 : v1'.ownBlock = v1.ownBlock) (e2 : v2'.ownBlock = v2.ownBlock) (b : Nat) (h : inRef m v0' v1' v2' o3 o4 b) : inRef m v0 v1 v2 o3 o4 b := by
  unfold inRef at *
  rw [e0, e1, e2] at h
  exact h
theorem Apart.same {m : Nat} {v0 v1 v2 v0' v1' v2' : Value} {o3 o4 : Option Addr} (h : Apart m v0 v1 v2 o3 o4) (e0 : v0'.ownBlock = v0.ownBlock) (e1 : v1'.ownBlock = v1.ownBlock) (e2 : v2'.ownBlock = v2.ownBlock) : Apart m v0' v1' v2' o3 o4 :=
  ⟨by rw [e0]; exact h.m0, by rw [e1]; exact h.m1, by rw [e2]; exact h.m2, h.m3, h.m4, fun b hb => by rw [e0, e1, e2]; exact h.p b hb, fun b hb => by rw [e0, e1, e2]; exact h.q b hb⟩
theorem allR_true {S : Sp} {a n : Nat} : allR S a n = true ↔ ∀ i, i < n → S.st (a + i) = 2 := by unfold allR; rw [decide_eq_true_eq]
theorem RI.commit {w : World} {m : Addr} {S : Sp} {F : Nat → Prop} {K : Nat} (a b : Int) (ha : two64 a) (hb : two64 b) (h : RI w m S F K) (hK : K ≤ lim) :
    Calls Try.prog rf.commit #[.pointer (some m), .int .u64 a, .int .u64 b] w fun e w' => e = .returned (.int .i64 ((commitS S a.toNat b.toNat).1 : Nat)) ∧
      Step RI F w w' m (commitS S a.toNat b.toNat).2 (K + cost (commitS S a.toNat b.toNat).1 b.toNat) := by
  have h' := h
  obtain ⟨m, fl, ws, v0, v1, v2, o3, c3, o4, c4, rfl, h, ap, hF, hl, k1, k2, p1, p2⟩ := h
  unfold two64 at ha hb
  unfold lim at hK
  have hm := h.lt m (Or.inl rfl)
  have hb3 : ∀ b, o3.map Addr.block = some b → b < w.heap.size := fun x hx => h.lt x (Or.inr (Or.inr (Or.inr (Or.inr (Or.inl hx)))))
  have fails : ∀ er : Nat, commitS S a.toNat b.toNat = (er, S) → ((¬ Sp.right a.toNat b.toNat ∧ er = 1) ∨ (Sp.right a.toNat b.toNat ∧ ¬ (∀ i, i < b.toNat → S.st (a.toNat + i) ≠ 0) ∧ er = 33)) →
      Calls Try.prog rf.commit #[.pointer (some ⟨m, 0, none⟩), .int .u64 a, .int .u64 b] w fun e w' => e = .returned (.int .i64 ((commitS S a.toNat b.toNat).1 : Nat)) ∧ Step RI F w w' ⟨m, 0, none⟩ (commitS S a.toNat b.toNat).2 (K + cost (commitS S a.toNat b.toNat).1 b.toNat) := fun er he hc => by
    rw [he]
    exact (commit_fails h hm hb3 a b (by omega) (by omega) (by omega) er hc).mono fun e w' ⟨he, hbel⟩ => ⟨he, step_more (h'.below hbel) (Nat.le_add_right _ _)⟩
  by_cases hr : Sp.right a.toNat b.toNat
  · by_cases hall : ∀ i, i < b.toNat → S.st (a.toNat + i) ≠ 0
    · have hmem : ∀ i, i < b.toNat → a.toNat + i ∈ S.pgs := fun i hi => (h.wf.mem _).1 (hall i hi)
      have hlen := row_len h.wf.rising a.toNat b.toNat hmem
      have hr2 := hr
      unfold Sp.right at hr2
      obtain ⟨g, rfl⟩ : ∃ g, o3 = some ⟨g, 0, none⟩ := by
        obtain ⟨_, hh | ⟨g, cap, cur, hv, _⟩⟩ := h.own3
        · omega
        · exact ⟨g, by injection hv⟩
      have hg := hb3 g rfl
      cases hR : allR S a.toNat b.toNat
      · have hno : ∃ j, j < b.toNat ∧ S.st (a.toNat + j) ≠ 2 := by
          by_cases c : ∃ j, j < b.toNat ∧ S.st (a.toNat + j) ≠ 2
          · exact c
          · exfalso
            have : allR S a.toNat b.toNat = true := allR_true.2 fun i hi => by
              by_cases d : S.st (a.toNat + i) = 2
              · exact d
              · exact absurd ⟨i, hi, d⟩ c
            rw [this] at hR; cases hR
        obtain ⟨j, hj, hj2⟩ := hno
        cases hx : S.refuse.headD false
        · rw [commit_ok hr hall j hj hj2 hx]
          refine (commit_good g h hm hg a b (by omega) (by omega) (by omega) hr hall hR ap hx p2).mono fun e w' ⟨he, v1', hv1, ⟨fl', v2', hv2, hC, hA⟩, hk⟩ => ⟨he, ?_⟩
          refine RI.land hF hC hA (fun x hx => Or.inl (inRef_same rfl hv1 hv2 x hx)) (hk.mono fun x hx => ?_) ?_ (Nat.le_trans k2 (Nat.le_add_right _ _)) ?_ ?_
          · rcases hx with e | e
            · exact Or.inl e
            · exact Or.inr (Or.inr (Or.inr (Or.inr (Or.inl (by rw [e]; rfl)))))
          · rw [(readyN_keeps _ _ _).1]; exact Nat.le_trans k1 (Nat.le_add_right _ _)
          · rw [(readyN_keeps _ _ _).2.1]; exact p1
          · intro x hx; exact p2 x (readyN_fills (takeRefuse S) _ _ x hx)
        · rw [commit_refused hr hall j hj hj2 hx]
          refine (commit_refusal g h hm hg a b (by omega) (by omega) (by omega) hr hall hR ap hx).mono fun e w' ⟨he, v1', hv1, hC, hk⟩ => ⟨he, ?_⟩
          exact RI.land hF hC (ap.same rfl hv1 rfl) (fun x hx => Or.inl (inRef_same rfl hv1 rfl x hx)) (hk.mono fun x hx => Or.inl hx) (Nat.le_trans k1 (Nat.le_add_right _ _)) (Nat.le_trans k2 (Nat.le_add_right _ _)) p1 p2
      · rw [commit_ready hr (allR_true.1 hR)]
        exact (commit_readied g h hm hg a b (by omega) (by omega) (by omega) hr hall hR).mono fun e w' ⟨he, hbel⟩ => ⟨he, step_more (h'.below hbel) (Nat.le_add_right _ _)⟩
    · exact fails 33 (by unfold commitS; rw [if_neg (Classical.not_not.2 hr), if_pos hall]) (Or.inr ⟨hr, hall, rfl⟩)
  · exact fails 1 (by unfold commitS; rw [if_pos hr]) (Or.inl ⟨hr, rfl⟩)
end Go.Proofs.Ytlfcnaalkjpgnaa
