/- J21 of the proof of both laws: texts Zp, Zc, Zd, one behind the other. -/
import Derived.Test.YtnclicdnncgdiaaGreatDoorJ20
/- Pages chunk by chunk: the first row of free ones, and counts: no Go in sight. -/
namespace Go.Proofs.YtnclicdnncgdiaaGreatDoor
open Go.ChangeShapes Go.WideShapes Go.ChangeAt Go.RowKit Go.Proofs.Bt Go.Shelf Go.Proofs.Rx Go.Maps Go.Proofs.Pk
set_option linter.unusedVariables false
set_option linter.unusedSimpArgs false

/-- At page q: r pages right ahead are free, and no row of n ended so far. -/
structure FnI (st : Nat → Nat) (n q r : Nat) : Prop where
  rl : r < n
  rq : r ≤ q
  run : Run st (q - r) r
  max : ∀ m, m ≤ q → Run st (q - m) m → m ≤ r
  none : ∀ p, p + n ≤ q → ¬ Run st p n
section
variable {st : Nat → Nat} {n q r : Nat}
theorem FnI.zero (hn : 1 ≤ n) : FnI st n 0 0 := ⟨by omega, by omega, fun x h1 h2 => by omega, fun m hm _ => by omega, fun p hp => by omega⟩
theorem FnI.gap (h : FnI st n q r) {q' : Nat} (hq : q < q') (hz : ∀ x, q ≤ x → x < q' → st x < 2) : FnI st n q' 0 := by
  have hn := h.rl
  refine ⟨by omega, by omega, fun x h1 h2 => by omega, fun m hm hr => ?_, fun p hp hr => ?_⟩
  · rcases Nat.eq_zero_or_pos m with z | z
    · omega
    · have a := hr (q' - 1) (by omega) (by omega)
      have b := hz (q' - 1) (by omega) (by omega)
      omega
  · rcases Nat.lt_or_ge q (p + n) with z | z
    · have a := hr (p + n - 1) (by omega) (by omega)
      have b := hz (p + n - 1) (by omega) (by omega)
      omega
    · exact h.none p z hr
theorem FnI.used (h : FnI st n q r) (hu : st q < 2) : FnI st n (q + 1) 0 := h.gap (by omega) fun x h1 h2 => by rw [show x = q by omega]; exact hu
theorem FnI.free (h : FnI st n q r) (hf : 2 ≤ st q) (hr : r + 1 < n) : FnI st n (q + 1) (r + 1) := by
  have rq := h.rq
  refine ⟨hr, by omega, fun x h1 h2 => ?_, fun m hm hm2 => ?_, fun p hp hp2 => ?_⟩
  · by_cases e : x = q
    · rw [e]; exact hf
    · exact h.run x (by omega) (by omega)
  · rcases Nat.eq_zero_or_pos m with z | z
    · omega
    · have := h.max (m - 1) (by omega) (fun x h1 h2 => hm2 x (by omega) (by omega))
      omega
  · rcases Nat.lt_or_ge q (p + n) with z | z
    · have := h.max (n - 1) (by omega) (fun x h1 h2 => hp2 x (by omega) (by omega))
      omega
    · exact h.none p z hp2
theorem FnI.hit (h : FnI st n q r) (hf : 2 ≤ st q) (hr : r + 1 = n) : First st n (q + 1 - n) := by
  have rq := h.rq
  refine ⟨fun x h1 h2 => ?_, fun p hp => h.none p (by omega)⟩
  by_cases e : x = q
  · rw [e]; exact hf
  · exact h.run x (by omega) (by omega)
theorem FnI.end (h : FnI st n q r) (hz : ∀ x, q ≤ x → st x = 0) (p : Nat) : ¬ Run st p n := fun hp => by
  have rl := h.rl
  rcases Nat.lt_or_ge q (p + n) with z | z
  · have a := hp (p + n - 1) (by omega) (by omega)
    have b := hz (p + n - 1) (by omega)
    omega
  · exact h.none p z hp
end
/-- The page right behind the first i chunks. -/
def qof (Q : List (Nat × Nat)) : Nat → Nat
  | 0 => 0
  | i + 1 => 512 * ((Q.getD i (0, 0)).1 + 1)
theorem qof_succ {Q : List (Nat × Nat)} {i : Nat} (hi : i < Q.length) : qof Q (i + 1) = 512 * (Q[i].1 + 1) := by
  show 512 * ((Q.getD i (0, 0)).1 + 1) = _
  rw [List.getD_eq_getElem?_getD, List.getElem?_eq_getElem hi]
  rfl
section
variable {st : Nat → Nat} {Q : List (Nat × Nat)}
theorem Mt.gap (h : Mt st Q) {i : Nat} (hi : i < Q.length) : qof Q i ≤ 512 * Q[i].1 ∧ ∀ x, qof Q i ≤ x → x < 512 * Q[i].1 → st x = 0 := by
  have le : qof Q i ≤ 512 * Q[i].1 := by
    cases i with
    | zero => exact Nat.zero_le _
    | succ i =>
      rw [qof_succ (by omega)]
      have := h.lt (i := i) (j := i + 1) (by omega) hi (by omega)
      omega
  refine ⟨le, fun x h1 h2 => ?_⟩
  rcases Nat.eq_zero_or_pos (st x) with z | z
  · exact z
  · obtain ⟨y, hy, e⟩ := h.out x (by omega)
    obtain ⟨j, hj, rfl⟩ := List.getElem_of_mem hy
    have l1 : j < i := by
      rcases Nat.lt_trichotomy j i with y | y | y
      · exact y
      · subst y; omega
      · have := h.lt hi hj y; omega
    cases i with
    | zero => omega
    | succ i =>
      rw [qof_succ (by omega)] at h1
      rcases Nat.lt_or_ge j i with y | y
      · have := h.lt hj (j := i) (by omega) y; omega
      · have : j = i := by omega
        subst this; omega
theorem Mt.past (h : Mt st Q) {x : Nat} (hx : qof Q Q.length ≤ x) : st x = 0 := by
  rcases Nat.eq_zero_or_pos (st x) with z | z
  · exact z
  · obtain ⟨y, hy, e⟩ := h.out x (by omega)
    obtain ⟨j, hj, rfl⟩ := List.getElem_of_mem hy
    obtain ⟨l, hl⟩ : ∃ l, Q.length = l + 1 := ⟨Q.length - 1, by omega⟩
    rw [hl, qof_succ (by omega)] at hx
    rcases Nat.lt_or_ge j l with y | y
    · have := h.lt hj (j := l) (by omega) y; omega
    · have : j = l := by omega
      subst this; omega
theorem Mt.qof_le (h : Mt st Q) {i : Nat} (hi : i ≤ Q.length) : qof Q i ≤ 34359738368 := by
  cases i with
  | zero => exact Nat.zero_le _
  | succ i =>
    rw [qof_succ (by omega)]
    have := h.below _ (List.getElem_mem (l := Q) (n := i) (by omega))
    omega
/-- What is so of pages in use alone, counted chunk by chunk. -/
theorem Mt.count (h : Mt st Q) (f : Nat → Bool) (hf : ∀ q, st q = 0 → f q = false) : ∀ i, (hi : i ≤ Q.length) → cnt f 0 (qof Q i) = ((Q.take i).map (fun x => cnt f (512 * x.1) 512)).sum
  | 0, _ => by rw [show qof Q 0 = 0 from rfl, List.take_zero]; rfl
  | i + 1, hi => by
    have ih := Mt.count h f hf i (by omega)
    obtain ⟨g1, g2⟩ := h.gap (i := i) (by omega)
    rw [qof_succ (by omega), show 512 * (Q[i].1 + 1) = qof Q i + (512 * Q[i].1 - qof Q i) + 512 by omega, cnt_add, cnt_add, ih, Nat.zero_add, cnt_none (fun k hk => hf _ (g2 _ (by omega) (by omega))), List.take_succ_eq_append_getElem (by omega), List.map_append, List.sum_append]
    simp only [List.map_cons, List.map_nil, List.sum_cons, List.sum_nil, Nat.add_zero]
    rw [show 0 + (qof Q i + (512 * Q[i].1 - qof Q i)) = 512 * Q[i].1 by omega]
theorem Mt.count_all (h : Mt st Q) (f : Nat → Bool) (hf : ∀ q, st q = 0 → f q = false) : cnt f 0 34359738368 = (Q.map (fun x => cnt f (512 * x.1) 512)).sum := by
  have h1 := h.count f hf Q.length (Nat.le_refl _)
  have h2 := h.qof_le (Nat.le_refl Q.length)
  obtain ⟨d, hd⟩ : ∃ d, 34359738368 = qof Q Q.length + d := ⟨34359738368 - qof Q Q.length, by omega⟩
  rw [hd, cnt_add, h1, List.take_length, cnt_none (i := 0 + qof Q Q.length) (fun k hk => hf _ (h.past (by omega))), Nat.add_zero]
end
end Go.Proofs.YtnclicdnncgdiaaGreatDoor

/- The reference's tree: put: its contract. -/
namespace Go.Proofs.YtnclicdnncgdiaaGreatDoor
open Go.ChangeShapes Go.WideShapes Go.ChangeAt Go.RowKit Go.Proofs.Bt Go.Shelf Go.Proofs.Rx Go.Maps Go.Proofs.Pk
set_option linter.unusedVariables false
set_option linter.unusedSimpArgs false

theorem kept_drewN (F : Nat → Prop) (W : World) (k : Nat) : Kept F W (W.drewN k) := ⟨rfl, rfl, rfl, Nat.le_refl _, fun _ _ _ => rfl⟩
theorem inT_at {st : Nat → Nat} {p n q : Nat} (h : InT st p n) (h1 : p ≤ q) (h2 : q < p + n) : st q ≠ 0 := by
  have hf : ∀ k, k < n → inU st (p + k) = true := cnt_full.1 h.2.2
  have := hf (q - p) (by omega)
  rw [show p + (q - p) = q by omega] at this
  unfold inU at this
  simpa using this
theorem Mt.idx {st : Nat → Nat} {Q : List (Nat × Nat)} (h : Mt st Q) {q : Nat} (hq : st q ≠ 0) : ∃ i, ∃ hi : i < Q.length, Q[i].1 = q / 512 := by
  obtain ⟨x, hx, e⟩ := h.out q hq
  obtain ⟨i, hi, rfl⟩ := List.getElem_of_mem hx
  exact ⟨i, hi, e⟩
set_option maxRecDepth 100000 in
set_option maxHeartbeats 1000000 in
theorem put9 {F : Nat → Prop} {W : World} {rb : Nat} {st : Nat → Nat} {Q : List (Nat × Nat)} {o : Option Addr} {c : Nat} (h : RefAt F W rb st Q o c) (hl : Q.length ≤ 1000000) (p n : Int) (hp : 0 ≤ p) (hn : 0 ≤ n) (hin : InT st p.toNat n.toNat) (s : Nat) (hs : 1 ≤ s ∧ s ≤ 3) (x z : Bool) (hx : decide (s = 1) = x) (hz : decide (s = 3) = z) :
    Calls Tryz.prog 59 #[.pointer (some ⟨rb, 0, none⟩), .int .u64 p, .int .u64 n, .bool x, .bool z] W fun e w' => e = .returned (.tuple #[]) ∧ RefAt F w' rb (setSt st p.toNat (p.toNat + n.toNat) s) Q o c ∧ Kept F W w' := by
  obtain ⟨i0, hi0, -⟩ := h.mt.idx (inT_at hin (Nat.le_refl _) (by have := hin.1; omega))
  obtain ⟨b, rfl, -, -⟩ := h.at hi0
  have pn : p + n ≤ 34359738368 := by have := hin.2.1; omega
  obtain ⟨R, hR⟩ : ∃ R : Ending → World → Prop, R = fun e w' => e = .returned (.tuple #[]) ∧ RefAt F w' rb (setSt st p.toNat (p.toNat + n.toNat) s) Q (some ⟨b, 0, none⟩) c ∧ Kept F W w' := ⟨_, rfl⟩
  rw [← hR]
  have HR := hide hR
  have I0 := hide (show RefAt F W rb (setSt st p.toNat p.toNat s) Q (some ⟨b, 0, none⟩) c ∧ Kept F W W from ⟨by rw [setSt_none]; exact h, Kept.refl _ _⟩)
  have IN := hide hin
  have HX := hide (And.intro hx hz)
  have HM := hide h.mt
  obtain ⟨L, hL⟩ : ∃ L : Nat, Q.length = L := ⟨_, rfl⟩
  have HL := hide hL
  have lI : (L : Int) ≤ 1000000 := by omega
  clear hR h hin hx hz hi0 hL
  go_enter Tryz.func59, Tryz.ntmps59
  go_wp2_with fail
  go_loopw [10] (fun pv wr => ∃ y : Int, pv = .int .u64 y ∧ p ≤ y ∧ y ≤ p + n ∧ Hid (RefAt F wr rb (setSt st p.toNat y.toNat s) Q (some ⟨b, 0, none⟩) c ∧ Kept F W wr)) (fun pv _ => (p + n - intOf pv).toNat)
  case atStart => exact ⟨p, rfl, by omega, by omega, I0⟩
  case round =>
    obtain ⟨y, rfl, y0, y1, HI⟩ := hrel
    clear I0
    by_cases hy : y < p + n
    · obtain ⟨i, hi, ei⟩ := HM.out.idx (inT_at IN.out (q := y.toNat) (by omega) (by omega))
      have cF := r9_find HI.out.1 hl hi
      rw [ei, show ((y.toNat / 512 : Nat) : Int) = y / 512 by omega] at cF
      obtain ⟨I, hI⟩ : ∃ I : Int, (i : Int) = I := ⟨_, rfl⟩
      rw [hI] at cF
      have i0 : 0 ≤ I := by omega
      have i1 : I < (L : Int) := by have := HL.out; omega
      have HHI := hide (show (i : Int) = I ∧ ∃ hi : i < Q.length, Q[i].1 = y.toNat / 512 from ⟨hI, hi, ei⟩)
      obtain ⟨blk, hblk⟩ : ∃ blk, Q[i].2 = blk := ⟨_, rfl⟩
      have HB := hide hblk
      have m0 : 0 ≤ y % 512 := by omega
      have m1 : y % 512 < 512 := by omega
      have em : y.tmod 512 = y % 512 := Int.tmod_eq_emod_of_nonneg (by omega)
      have y2 : 0 ≤ y := by omega
      have y3 : y < 34359738368 := by omega
      clear hI ei hblk
      go_wp2_with fail
      refine cF.mono ?_
      rintro e w1 ⟨rfl, k, hw⟩
      have H1 := hide (show RefAt F w1 rb (setSt st p.toNat y.toNat s) Q (some ⟨b, 0, none⟩) c from by rw [hw]; exact HI.out.1.drewN k)
      have K1 := hide (show Kept F W w1 from by rw [hw]; exact HI.out.2.trans (kept_drewN F _ k) (fun _ _ z => z))
      clear cF hw HI
      have c0 := H1.out.cell0
      rw [HL.out] at c0
      have x1 := (H1.out.at hi).choose_spec.2.2
      have e1 : (H1.out.at hi).choose = b := by have := (H1.out.at hi).choose_spec.1; injection this with this; injection this with this; exact this.symm
      rw [e1, HB.out, show i = I.toNat by have := HHI.out.1; omega] at x1
      have bl := H1.out.blk hi
      rw [HB.out] at bl
      have cu := bl.used.cell (y % 512).toNat (by omega)
      have fu := bl.used.fz (y % 512).toNat (by omega)
      have cg := bl.gone.cell (y % 512).toNat (by omega)
      have fg := bl.gone.fz (y % 512).toNat (by omega)
      rw [Nat.zero_add] at cu fu
      generalize (pt (setSt st p.toNat y.toNat s) Q[i]).u (y % 512).toNat = vu at cu
      generalize (pt (setSt st p.toNat y.toNat s) Q[i]).g (y % 512).toNat = vg at cg
      have ne1 : blk ≠ rb := by rw [← HB.out]; exact H1.out.ne_rb hi
      have ne2 : blk ≠ b := fun e => H1.out.ne_list hi (by rw [HB.out, e]; rfl)
      have f0 := fun v => (cell_block (show (w1.setCell ⟨blk, (y % 512).toNat, none⟩ v).heap[rb]? = w1.heap[rb]? from Below.heap_setCell _ _ _ _ ne1.symm) 0).trans c0
      have f1 := fun v => (cell_block (show (w1.setCell ⟨blk, (y % 512).toNat, none⟩ v).heap[b]? = w1.heap[b]? from Below.heap_setCell _ _ _ _ ne2.symm) (I.toNat * 2 + 1)).trans x1
      have f2 := fun v => (World.cell?_setCell_other w1 ⟨blk, (y % 512).toNat, none⟩ ⟨blk, 512 + (y % 512).toNat, none⟩ v (by intro z; have := congrArg Addr.off z; simp at this)).trans cg
      have f3 := fun v => (World.frozen?_setCell w1 ⟨blk, (y % 512).toNat, none⟩ ⟨blk, 512 + (y % 512).toNat, none⟩ v).trans fg
      have NX := hide (show ∀ W2, W2 = (w1.setCell ⟨blk, (y % 512).toNat, none⟩ (.bool x)).setCell ⟨blk, 512 + (y % 512).toNat, none⟩ (.bool z) → RefAt F W2 rb (setSt st p.toNat (y + 1).toNat s) Q (some ⟨b, 0, none⟩) c ∧ Kept F W W2 from fun W2 hW2 => by
        obtain ⟨_, hi', ei⟩ := HHI.out
        have q := H1.out.put1 hi' y.toNat ei s hs
        rw [setSt_more (by omega) (by omega), HB.out, HX.out.1, HX.out.2, show y.toNat % 512 = (y % 512).toNat by omega, ← hW2, show y.toNat + 1 = (y + 1).toNat by omega] at q
        have fb : F blk := H1.out.ft blk (.inr (.inr ⟨_, List.getElem_mem hi', HB.out⟩))
        refine ⟨q, ?_⟩
        rw [hW2]
        exact K1.out.trans ((kept_set w1 blk _ _ fb).trans (kept_set _ blk _ _ fb) (fun _ _ z => z)) (fun _ _ z => z))
      clear bl e1 ne1 ne2 HHI HB H1 K1 hi
      have f0 := f0 (.bool x)
      have f1 := f1 (.bool x)
      have f2 := f2 (.bool x)
      have f3 := f3 (.bool x)
      go_wp2_with fail
      go_roundw
      case rel => exact ⟨y + 1, by go_num, by omega, by omega, hide (NX.out _ rfl)⟩
      case measure => simp [intOf]; omega
    · have e : y = p + n := by omega
      have F0 := hide (show R (.returned (.tuple #[])) wr from by
        rw [HR.out]
        have q := HI.out.1
        rw [show y.toNat = p.toNat + n.toNat by omega] at q
        exact ⟨rfl, q, HI.out.2⟩)
      have hd : decide (y < p + n) = false := decide_eq_false hy
      clear HI e hy
      go_wp2_with fail
      exact bodyPost_ret (v := .tuple #[]) (by simp [results, Tryz.results59, go_sem]) rfl F0.out
end Go.Proofs.YtnclicdnncgdiaaGreatDoor

/- The reference's tree: Take, Give: contracts. -/
namespace Go.Proofs.YtnclicdnncgdiaaGreatDoor
open Go.ChangeShapes Go.WideShapes Go.ChangeAt Go.RowKit Go.Proofs.Bt Go.Shelf Go.Proofs.Rx Go.Maps Go.Proofs.Pk
set_option linter.unusedVariables false
set_option linter.unusedSimpArgs false

/-- What a call of the reference leaves. -/
def RfL (F : Nat → Prop) (W : World) (rb : Nat) (st : Nat → Nat) (Q : List (Nat × Nat)) (o : Option Addr) (c : Nat) (v : Value) (e : Ending) (W' : World) : Prop := e = .returned v ∧ RefAt F W' rb st Q o c ∧ Kept F W W'
section
variable {F G : Nat → Prop} {W W' : World} {rb : Nat} {st st' : Nat → Nat} {Q : List (Nat × Nat)} {o : Option Addr} {c : Nat}
theorem RefAt.same (h : RefAt F W rb st Q o c) (hk : ∃ k, W' = W.drewN k) : RefAt F W' rb st Q o c ∧ Kept F W W' := by
  obtain ⟨k, rfl⟩ := hk
  exact ⟨h.drewN k, kept_drewN F W k⟩
set_option maxRecDepth 100000 in
theorem r9_take_bad (h : RefAt F W rb st Q o c) (hl : Q.length ≤ 1000000) (p n : Nat) (hp : p < 18446744073709551616) (hn : n < 18446744073709551616) (hi : ¬ InT st p n) :
    Calls Tryz.prog 49 #[.pointer (some ⟨rb, 0, none⟩), .int .u64 (p : Nat), .int .u64 (n : Nat)] W (RfL F W rb st Q o c (.tuple #[.int .u64 0, .int .i64 10])) := by
  obtain ⟨R, hR⟩ : ∃ R, R = RfL F W rb st Q o c (.tuple #[.int .u64 0, .int .i64 10]) := ⟨_, rfl⟩
  rw [← hR]
  have HR := hide hR
  have HL := hide hl
  have CL := hide (r9_lies h hl p n hp hn)
  have HH := hide h
  have HI := hide hi
  clear hR h hi
  go_enter Tryz.func49, Tryz.ntmps49
  go_wp2_with fail
  refine CL.out.mono ?_
  rintro e w1 ⟨⟨v, rfl, hv⟩, hk⟩
  obtain rfl : v = false := by cases v with | true => exact absurd (hv.1 rfl) HI.out | false => rfl
  have FI := hide (show R (.returned (.tuple #[.int .u64 0, .int .i64 10])) w1 from by rw [HR.out]; exact ⟨rfl, HH.out.same hk⟩)
  clear hk hv CL HR
  go_wp2_with fail
  first | exact FI.out | (go_ret; exact FI.out) | (go_ret2; exact FI.out)
set_option maxRecDepth 100000 in
theorem r9_take_used (h : RefAt F W rb st Q o c) (hl : Q.length ≤ 1000000) (p n : Nat) (hi : InT st p n) (hf : (tl st p n).f < n) :
    Calls Tryz.prog 49 #[.pointer (some ⟨rb, 0, none⟩), .int .u64 (p : Nat), .int .u64 (n : Nat)] W (RfL F W rb st Q o c (.tuple #[.int .u64 0, .int .i64 32])) := by
  obtain ⟨R, hR⟩ : ∃ R, R = RfL F W rb st Q o c (.tuple #[.int .u64 0, .int .i64 32]) := ⟨_, rfl⟩
  rw [← hR]
  have HR := hide hR
  have HL := hide hl
  have hp : p < 18446744073709551616 := by have := hi.2.1; omega
  have hn : n < 18446744073709551616 := by have := hi.2.1; omega
  have CL := hide (r9_lies h hl p n hp hn)
  have HH := hide h
  have HI := hide hi
  have pn : p + n ≤ 34359738368 := hi.2.1
  obtain ⟨f, hf'⟩ : ∃ f, (tl st p n).f = f := ⟨_, rfl⟩
  have fl := (tl_le st p n).2.1
  have n1 := hi.1
  rw [hf'] at hf fl
  have HF := hide hf'
  obtain ⟨U, hU⟩ : ∃ U : Int, ((n - f : Nat) : Int) = U := ⟨_, rfl⟩
  have HUU := hide hU
  have u1 : 0 < U := by omega
  clear hR h hi hf' hU hf
  go_enter Tryz.func49, Tryz.ntmps49
  go_wp2_with fail
  refine CL.out.mono ?_
  rintro e w1 ⟨⟨v, rfl, hv⟩, hk⟩
  obtain rfl : v = true := hv.2 HI.out
  obtain ⟨h1, k1⟩ := HH.out.same hk
  have CC := hide (r9_count h1 HL.out p n pn)
  rw [HF.out, HUU.out] at CC
  obtain ⟨g, hg⟩ : ∃ g, (tl st p n).r = g := ⟨_, rfl⟩
  have HG := hide hg
  rw [hg] at CC
  have H1 := hide h1
  have K1 := hide k1
  clear hk hv CL HH h1 k1 hg
  go_wp2_with fail
  refine CC.out.mono ?_
  rintro e w2 ⟨rfl, hk⟩
  obtain ⟨h2, k2⟩ := H1.out.same hk
  have H2 := hide h2
  have K2 := hide (K1.out.trans k2 (fun _ _ z => z))
  clear hk H1 K1 h2 k2 CC
  have FI := hide (show R (.returned (.tuple #[.int .u64 0, .int .i64 32])) w2 from by rw [HR.out]; exact ⟨rfl, H2.out, K2.out⟩)
  clear H2 K2 HR
  go_wp2_with fail
  first | exact FI.out | (go_ret; exact FI.out) | (go_ret2; exact FI.out)
set_option maxRecDepth 100000 in
theorem r9_take (h : RefAt F W rb st Q o c) (hl : Q.length ≤ 1000000) (p n : Nat) (hi : InT st p n) (hf : (tl st p n).f = n) :
    Calls Tryz.prog 49 #[.pointer (some ⟨rb, 0, none⟩), .int .u64 (p : Nat), .int .u64 (n : Nat)] W (RfL F W rb (setSt st p (p + n) 1) Q o c (.tuple #[.int .u64 ((tl st p n).r : Nat), .int .i64 0])) := by
  obtain ⟨R, hR⟩ : ∃ R, R = RfL F W rb (setSt st p (p + n) 1) Q o c (.tuple #[.int .u64 ((tl st p n).r : Nat), .int .i64 0]) := ⟨_, rfl⟩
  rw [← hR]
  have HR := hide hR
  have HL := hide hl
  have hp : p < 18446744073709551616 := by have := hi.2.1; omega
  have hn : n < 18446744073709551616 := by have := hi.2.1; omega
  have CL := hide (r9_lies h hl p n hp hn)
  have HH := hide h
  have HI := hide hi
  have pn : p + n ≤ 34359738368 := hi.2.1
  obtain ⟨f, hf'⟩ : ∃ f, (tl st p n).f = f := ⟨_, rfl⟩
  have fl := (tl_le st p n).2.1
  have n1 := hi.1
  rw [hf'] at hf fl
  have HF := hide hf'
  obtain ⟨U, hU⟩ : ∃ U : Int, ((n - f : Nat) : Int) = U := ⟨_, rfl⟩
  have HUU := hide hU
  obtain rfl : U = 0 := by omega
  clear hR h hi hf' hU hf
  go_enter Tryz.func49, Tryz.ntmps49
  go_wp2_with fail
  refine CL.out.mono ?_
  rintro e w1 ⟨⟨v, rfl, hv⟩, hk⟩
  obtain rfl : v = true := hv.2 HI.out
  obtain ⟨h1, k1⟩ := HH.out.same hk
  have CC := hide (r9_count h1 HL.out p n pn)
  rw [HF.out, HUU.out] at CC
  obtain ⟨g, hg⟩ : ∃ g, (tl st p n).r = g := ⟨_, rfl⟩
  have HG := hide hg
  rw [hg] at CC
  have H1 := hide h1
  have K1 := hide k1
  clear hk hv CL HH h1 k1 hg
  go_wp2_with fail
  refine CC.out.mono ?_
  rintro e w2 ⟨rfl, hk⟩
  obtain ⟨h2, k2⟩ := H1.out.same hk
  have H2 := hide h2
  have K2 := hide (K1.out.trans k2 (fun _ _ z => z))
  clear hk H1 K1 h2 k2 CC
  have CP := hide (put9 H2.out HL.out (p : Nat) (n : Nat) (by omega) (by omega) (by rw [Int.toNat_natCast, Int.toNat_natCast]; exact HI.out) 1 (by omega) true false rfl rfl)
  rw [Int.toNat_natCast, Int.toNat_natCast] at CP
  clear H2
  go_wp2_with fail
  refine CP.out.mono ?_
  rintro e w3 ⟨rfl, h3, k3⟩
  have FI := hide (show R (.returned (.tuple #[.int .u64 (g : Nat), .int .i64 0])) w3 from by rw [HR.out]; exact ⟨by rw [HG.out], h3, K2.out.trans k3 (fun _ _ z => z)⟩)
  clear h3 k3 CP K2 HR
  go_wp2_with fail
  first | exact FI.out | (go_ret; exact FI.out) | (go_ret2; exact FI.out)
set_option maxRecDepth 100000 in
theorem r9_give_bad (h : RefAt F W rb st Q o c) (hl : Q.length ≤ 1000000) (p n : Nat) (hp : p < 18446744073709551616) (hn : n < 18446744073709551616) (x : Bool) (hi : ¬ InT st p n) :
    Calls Tryz.prog 28 #[.pointer (some ⟨rb, 0, none⟩), .int .u64 (p : Nat), .int .u64 (n : Nat), .bool x] W (RfL F W rb st Q o c (.int .i64 10)) := by
  obtain ⟨R, hR⟩ : ∃ R, R = RfL F W rb st Q o c (.int .i64 10) := ⟨_, rfl⟩
  rw [← hR]
  have HR := hide hR
  have HL := hide hl
  have CL := hide (r9_lies h hl p n hp hn)
  have HH := hide h
  have HI := hide hi
  clear hR h hi
  go_enter Tryz.func28, Tryz.ntmps28
  go_wp2_with fail
  refine CL.out.mono ?_
  rintro e w1 ⟨⟨v, rfl, hv⟩, hk⟩
  obtain rfl : v = false := by cases v with | true => exact absurd (hv.1 rfl) HI.out | false => rfl
  have FI := hide (show R (.returned (.int .i64 10)) w1 from by rw [HR.out]; exact ⟨rfl, HH.out.same hk⟩)
  clear hk hv CL HR
  go_wp2_with fail
  first | exact FI.out | (go_ret; exact FI.out) | (go_ret2; exact FI.out)
set_option maxRecDepth 100000 in
theorem r9_give_free (h : RefAt F W rb st Q o c) (hl : Q.length ≤ 1000000) (p n : Nat) (x : Bool) (hi : InT st p n) (hf : 0 < (tl st p n).f) :
    Calls Tryz.prog 28 #[.pointer (some ⟨rb, 0, none⟩), .int .u64 (p : Nat), .int .u64 (n : Nat), .bool x] W (RfL F W rb st Q o c (.int .i64 31)) := by
  obtain ⟨R, hR⟩ : ∃ R, R = RfL F W rb st Q o c (.int .i64 31) := ⟨_, rfl⟩
  rw [← hR]
  have HR := hide hR
  have HL := hide hl
  have hp : p < 18446744073709551616 := by have := hi.2.1; omega
  have hn : n < 18446744073709551616 := by have := hi.2.1; omega
  have CL := hide (r9_lies h hl p n hp hn)
  have HH := hide h
  have HI := hide hi
  have pn : p + n ≤ 34359738368 := hi.2.1
  obtain ⟨f, hf'⟩ : ∃ f, (tl st p n).f = f := ⟨_, rfl⟩
  have fl := (tl_le st p n).2.1
  have n1 := hi.1
  rw [hf'] at hf fl
  have HF := hide hf'
  obtain ⟨U, hU⟩ : ∃ U : Int, ((n - f : Nat) : Int) = U := ⟨_, rfl⟩
  have HUU := hide hU
  have u1 : U < (n : Int) := by omega
  clear hR h hi hf' hU hf
  go_enter Tryz.func28, Tryz.ntmps28
  go_wp2_with fail
  refine CL.out.mono ?_
  rintro e w1 ⟨⟨v, rfl, hv⟩, hk⟩
  obtain rfl : v = true := hv.2 HI.out
  obtain ⟨h1, k1⟩ := HH.out.same hk
  have CC := hide (r9_count h1 HL.out p n pn)
  rw [HF.out, HUU.out] at CC
  obtain ⟨g, hg⟩ : ∃ g, (tl st p n).r = g := ⟨_, rfl⟩
  have HG := hide hg
  rw [hg] at CC
  have H1 := hide h1
  have K1 := hide k1
  clear hk hv CL HH h1 k1 hg
  go_wp2_with fail
  refine CC.out.mono ?_
  rintro e w2 ⟨rfl, hk⟩
  obtain ⟨h2, k2⟩ := H1.out.same hk
  have H2 := hide h2
  have K2 := hide (K1.out.trans k2 (fun _ _ z => z))
  clear hk H1 K1 h2 k2 CC
  have FI := hide (show R (.returned (.int .i64 31)) w2 from by rw [HR.out]; exact ⟨rfl, H2.out, K2.out⟩)
  clear H2 K2 HR
  go_wp2_with fail
  first | exact FI.out | (go_ret; exact FI.out) | (go_ret2; exact FI.out)
set_option maxRecDepth 100000 in
theorem r9_give (h : RefAt F W rb st Q o c) (hl : Q.length ≤ 1000000) (p n : Nat) (x : Bool) (hi : InT st p n) (hf : (tl st p n).f = 0) :
    Calls Tryz.prog 28 #[.pointer (some ⟨rb, 0, none⟩), .int .u64 (p : Nat), .int .u64 (n : Nat), .bool x] W (RfL F W rb (setSt st p (p + n) (if x then 3 else 2)) Q o c (.int .i64 0)) := by
  obtain ⟨R, hR⟩ : ∃ R, R = RfL F W rb (setSt st p (p + n) (if x then 3 else 2)) Q o c (.int .i64 0) := ⟨_, rfl⟩
  rw [← hR]
  have HR := hide hR
  have HL := hide hl
  have hp : p < 18446744073709551616 := by have := hi.2.1; omega
  have hn : n < 18446744073709551616 := by have := hi.2.1; omega
  have CL := hide (r9_lies h hl p n hp hn)
  have HH := hide h
  have HI := hide hi
  have pn : p + n ≤ 34359738368 := hi.2.1
  obtain ⟨f, hf'⟩ : ∃ f, (tl st p n).f = f := ⟨_, rfl⟩
  have fl := (tl_le st p n).2.1
  have n1 := hi.1
  rw [hf'] at hf fl
  have HF := hide hf'
  obtain ⟨U, hU⟩ : ∃ U : Int, ((n - f : Nat) : Int) = U := ⟨_, rfl⟩
  have HUU := hide hU
  obtain rfl : U = (n : Int) := by omega
  clear hR h hi hf' hU hf
  go_enter Tryz.func28, Tryz.ntmps28
  go_wp2_with fail
  refine CL.out.mono ?_
  rintro e w1 ⟨⟨v, rfl, hv⟩, hk⟩
  obtain rfl : v = true := hv.2 HI.out
  obtain ⟨h1, k1⟩ := HH.out.same hk
  have CC := hide (r9_count h1 HL.out p n pn)
  rw [HF.out, HUU.out] at CC
  obtain ⟨g, hg⟩ : ∃ g, (tl st p n).r = g := ⟨_, rfl⟩
  have HG := hide hg
  rw [hg] at CC
  have H1 := hide h1
  have K1 := hide k1
  clear hk hv CL HH h1 k1 hg
  go_wp2_with fail
  refine CC.out.mono ?_
  rintro e w2 ⟨rfl, hk⟩
  obtain ⟨h2, k2⟩ := H1.out.same hk
  have H2 := hide h2
  have K2 := hide (K1.out.trans k2 (fun _ _ z => z))
  clear hk H1 K1 h2 k2 CC
  have CP := hide (put9 H2.out HL.out (p : Nat) (n : Nat) (by omega) (by omega) (by rw [Int.toNat_natCast, Int.toNat_natCast]; exact HI.out) (if x then 3 else 2) (by cases x <;> decide) false x (by cases x <;> rfl) (by cases x <;> rfl))
  rw [Int.toNat_natCast, Int.toNat_natCast] at CP
  clear H2
  go_wp2_with fail
  refine CP.out.mono ?_
  rintro e w3 ⟨rfl, h3, k3⟩
  have FI := hide (show R (.returned (.int .i64 0)) w3 from by rw [HR.out]; exact ⟨rfl, h3, K2.out.trans k3 (fun _ _ z => z)⟩)
  clear h3 k3 CP K2 HR
  go_wp2_with fail
  first | exact FI.out | (go_ret; exact FI.out) | (go_ret2; exact FI.out)
end
end Go.Proofs.YtnclicdnncgdiaaGreatDoor
