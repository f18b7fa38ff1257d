/- J07 of the proof of both laws: texts VmJ, Cw, VmKa, one behind the other. -/
import Derived.Test.YtlfcnaalkjpgnaaJ06
import Derived.Test.YtlfcnaalkjpgnaaJ03
import Derived.StillTailTactics
/- slices.Replace of rows, whole. -/
namespace Go.Proofs.Ytlfcnaalkjpgnaa
open Go.ChangeShapes Go.WideShapes Go.ChangeAt Go.RowKit Go.Proofs.Sp

/-- The rows are these now; nothing old has turned but the row g. -/
def Now (w w' : World) (g : Nat) (v : Value) (R : List (Nat × Nat)) : Prop := ∃ g' c', v = .slice (some ⟨g', 0, none⟩) R.length c' ∧ HoldsR w' g' c' R ∧ w.grownBy w' (some g) ∧ (g' = g ∨ w.heap.size ≤ g')
theorem none_some {w w' : World} {row : Option Nat} (h : w.grownBy w' none) : w.grownBy w' row := ⟨h.os, h.tape, h.output, h.size, fun k hk _ => h.block k hk (by simp)⟩
theorem insert_core (g cap : Nat) (v : Value) (R F : List (Nat × Nat)) (i : Nat) (w : World) (hh : HoldsR w g cap R) (hi : i ≤ R.length) (hn : R.length ≤ 2199023255552) (hm2 : F.length ≤ 2) (hv : FreshAt w v F g) :
    Calls Try.prog 78 #[.slice (some ⟨g, 0, none⟩) R.length cap, .int .i64 (i : Int), v] w fun e w' => ∃ v', e = .returned v' ∧ Now w w' g v' (R.take i ++ F ++ R.drop i) := by
  have hle := hh.le
  obtain ⟨⟨cur, hr, ht⟩, _⟩ := id hh
  have hcm := hr.cap
  unfold maxLen at hcm
  rcases hv with ⟨rfl, rfl⟩ | ⟨h, c, rfl, hgh, hm, hF⟩
  · refine (insert_none g cap R.length i none 0 w hle hi (by omega)).mono ?_
    rintro e w' ⟨rfl, rfl⟩
    refine ⟨_, rfl, g, cap, ?_, ?_, ⟨rfl, rfl, rfl, Nat.le_refl _, fun _ _ _ => rfl⟩, Or.inl rfl⟩
    · simp
    · simpa using hh
  · have hfc := hF.le
    obtain ⟨⟨curF, hf, hft⟩, _⟩ := id hF
    by_cases e : i = R.length
    · subst e
      refine (insert_end g cap h c cur curF R F R.length F.length w hr ht rfl rfl hle (by omega) hm hm2 hf hft hfc).mono ?_
      rintro e w' ⟨g', c', rfl, h1, h2, h3⟩
      refine ⟨_, rfl, g', c', ?_, ?_, h2, h3⟩
      · simp
      · simpa using h1
    · by_cases q : R.length + F.length ≤ cap
      · refine (insert_room g cap h c cur curF R F i w hr ht q (by omega) (by omega) hf hft hgh hm).mono ?_
        rintro e w' ⟨rfl, h1, h2⟩
        exact ⟨_, rfl, g, cap, by rw [len_of hi, show i + F.length + (R.length - i) = R.length + F.length by omega], h1, h2, Or.inl rfl⟩
      · refine (insert_grow g cap h c cur curF R F i w hr ht hle (by omega) (by omega) (by omega) hf hft hgh hm).mono ?_
        rintro e w' ⟨c', rfl, h1, h2⟩
        exact ⟨_, rfl, _, c', by rw [len_of hi, show i + F.length + (R.length - i) = R.length + F.length by omega], h1, none_some h2, Or.inr (Nat.le_refl _)⟩
set_option maxRecDepth 100000 in
set_option maxHeartbeats 4000000 in
theorem replace_core (g cap : Nat) (v : Value) (R F : List (Nat × Nat)) (i j : Nat) (w : World) (hh : HoldsR w g cap R) (hij : i ≤ j) (hj : j ≤ R.length) (hn : R.length ≤ 2199023255552) (hm2 : F.length ≤ 2) (hv : FreshAt w v F g) :
    Calls Try.prog 63 #[.slice (some ⟨g, 0, none⟩) R.length cap, .int .i64 (i : Int), .int .i64 (j : Int), v] w fun e w' => ∃ v', e = .returned v' ∧ Now w w' g v' (R.take i ++ F ++ R.drop j) := by
  have hle := hh.le
  obtain ⟨⟨cur, hr, ht⟩, _⟩ := id hh
  have hcm := hr.cap
  unfold maxLen at hcm
  have HV := hide hv
  clear hv
  have hlen := len_of (R := R) (F := F) (i := i) (j := j) (by omega)
  by_cases e : i = j
  · subst e
    have ic := insert_core g cap v R F i w hh hj hn hm2 HV.out
    have IC := hide ic
    have b1 : ((i : Int) == (i : Int)) = true := beq_self_eq_true _
    have d0 : (0 : Int) ≤ (i : Int) := by omega
    have d1 : (i : Int) ≤ (cap : Int) := by omega
    obtain ⟨n, hln⟩ : ∃ n, R.length = n := ⟨_, rfl⟩
    rw [hln] at IC hle hj ⊢
    clear ic hh hr ht HV hlen hln
    by_cases c1 : cap = i
    · subst c1
      go_enter Try.func63, Try.ntmps63
      go_wp2_with fail
      refine IC.out.mono ?_
      rintro e w' ⟨v', rfl, hnow⟩
      have HN := hide hnow
      clear hnow IC
      go_wp2_with fail
      go_ret
      exact ⟨v', rfl, HN.out⟩
    · go_enter Try.func63, Try.ntmps63
      go_wp2_with fail
      refine IC.out.mono ?_
      rintro e w' ⟨v', rfl, hnow⟩
      have HN := hide hnow
      clear hnow IC
      go_wp2_with fail
      go_ret
      exact ⟨v', rfl, HN.out⟩
  · obtain ⟨d, hd⟩ : ∃ d, R.length = j + d := ⟨R.length - j, by omega⟩
    obtain ⟨fp, c, hvv, hfr⟩ : ∃ fp c, v = .slice fp F.length c ∧ ((F.length = 0 ∧ fp = none ∧ c = 0) ∨ (0 < F.length ∧ ∃ h, fp = some ⟨h, 0, none⟩ ∧ h ≠ g ∧ HoldsR w h c F)) := by
      rcases HV.out with ⟨rfl, rfl⟩ | ⟨h, c, rfl, hgh, hm, hF⟩
      · exact ⟨none, 0, rfl, Or.inl ⟨rfl, rfl, rfl⟩⟩
      · exact ⟨_, c, rfl, Or.inr ⟨hm, h, rfl, hgh, hF⟩⟩
    subst hvv
    have HFR := hide hfr
    clear hfr HV
    by_cases d0 : d = 0
    · subst d0
      have hnil : R.drop j = [] := List.drop_eq_nil_of_le (by omega)
      rw [hnil, List.append_nil] at hlen ⊢
      rw [show R.length = j by omega] at hle ⊢
      have hlen2 : (R.take i ++ F).length = i + F.length := by omega
      by_cases q : i + F.length ≤ cap
      · refine (replace_end_room g cap fp c R F i j F.length w hh (by omega) rfl hle (by omega) (by omega) q (HFR.out.imp id fun ⟨a, h, b, _, c⟩ => ⟨a, h, b, c⟩)).mono ?_
        rintro e w' ⟨rfl, h1, h2⟩
        exact ⟨_, rfl, g, cap, by rw [hlen2], h1, h2, Or.inl rfl⟩
      · rcases HFR.out with ⟨a, _, _⟩ | ⟨a, h, rfl, b, hF⟩
        · omega
        · refine (replace_end_grow g cap h c R F i j F.length w hh (by omega) rfl hle (by omega) (by omega) hm2 (by omega) hF).mono ?_
          rintro e w' ⟨g', c', rfl, h1, h2, h3⟩
          exact ⟨_, rfl, g', c', by rw [hlen2], h1, h2, h3⟩
    · have hlen2 : (R.take i ++ F ++ R.drop j).length = i + F.length + d := by omega
      have hFF : 0 < F.length → ∃ h curF, fp = some ⟨h, 0, none⟩ ∧ h ≠ g ∧ RowIs w h c curF ∧ curF.take (F.length * 2) = flat2 F := fun hm => by
        rcases HFR.out with ⟨a, _, _⟩ | ⟨a, h, rfl, b, ⟨curF, hf, hft⟩, _⟩
        · omega
        · exact ⟨h, curF, rfl, b, hf, hft⟩
      have HFF := hide hFF
      clear hFF
      rw [hd] at hle ⊢
      by_cases q : i + F.length ≤ j
      · by_cases q2 : cap = i + F.length + d
        · have hj2 : j = i + F.length := by omega
          subst q2 hj2
          have := replace_fit g cur R F i d fp c w hr ht hd (by omega) (by omega) (by omega) HFF.out
          rw [show (((i + F.length : Nat) : Int)) = (i : Int) + (F.length : Int) by omega]
          refine this.mono ?_
          rintro e w' ⟨rfl, h1, h2⟩
          exact ⟨_, rfl, g, _, by rw [hlen2], h1, h2, Or.inl rfl⟩
        · refine (replace_less g cap cur R F i j d fp c w hr ht hd hle (by omega) (by omega) (by omega) q q2 HFF.out).mono ?_
          rintro e w' ⟨rfl, h1, h2⟩
          exact ⟨_, rfl, g, cap, by rw [hlen2], h1, h2, Or.inl rfl⟩
      · obtain ⟨h, curF, rfl, b, hf, hft⟩ := HFF.out (by omega)
        by_cases q2 : i + F.length + d ≤ cap
        · refine (replace_more g cap h c cur curF R F i j d w hr ht hd (by omega) (by omega) (by omega) (by omega) q2 hf hft b).mono ?_
          rintro e w' ⟨rfl, h1, h2⟩
          exact ⟨_, rfl, g, cap, by rw [hlen2], h1, h2, Or.inl rfl⟩
        · refine (replace_grow g cap h c cur curF R F i j d w hr ht hd hle (by omega) (by omega) (by omega) (by omega) hf hft b).mono ?_
          rintro e w' ⟨c', rfl, h1, h2⟩
          exact ⟨_, rfl, _, c', by rw [hlen2, Nat.add_assoc], h1, none_some h2, Or.inr (Nat.le_refl _)⟩
end Go.Proofs.Ytlfcnaalkjpgnaa

/- The rows in memory, with their counts: what they are, and what a change of the counts leaves. -/
namespace Go.Proofs.Ytlfcnaalkjpgnaa
open Go.ChangeShapes Go.WideShapes Go.ChangeAt Go.RowKit Go.Proofs.Sp

/-- The world is as it was but for the counts (and what is new). -/
structure CW (b o : Nat) (w wr : World) (C : Nat → Nat) : Prop where
  os : wr.os = w.os
  tape : wr.tape = w.tape
  output : wr.output = w.output
  size : w.heap.size ≤ wr.heap.size
  block : ∀ x, x < w.heap.size → x ≠ b → wr.heap[x]? = w.heap[x]?
  cell : ∀ k, (k < o + 1 ∨ o + 5 ≤ k) → wr.cell? ⟨b, k, none⟩ = w.cell? ⟨b, k, none⟩
  cnt : ∀ k, k < 4 → wr.cell? ⟨b, o + 1 + k, none⟩ = some (.int .u64 (C k : Int))
  fz : ∀ k, wr.frozen? ⟨b, k, none⟩ = w.frozen? ⟨b, k, none⟩
theorem CW.start {b o : Nat} {w : World} {C : Nat → Nat} (h : ∀ k, k < 4 → w.cell? ⟨b, o + 1 + k, none⟩ = some (.int .u64 (C k : Int))) : CW b o w w C :=
  ⟨rfl, rfl, rfl, Nat.le_refl _, fun _ _ _ => rfl, fun _ _ => rfl, h, fun _ => rfl⟩
theorem CW.below {b o : Nat} {w wr w' : World} {C : Nat → Nat} (h : CW b o w wr C) (hb : b < w.heap.size) (k : Below wr.heap.size wr w') : CW b o w w' C := by
  have hs := h.size
  refine ⟨k.os.trans h.os, k.tape.trans h.tape, k.output.trans h.output, Nat.le_trans hs k.size, fun x hx hne => by rw [k.block x (by omega)]; exact h.block x hx hne, fun j hj => ?_, fun j hj => ?_, fun j => ?_⟩
  · rw [k.cell (p := ⟨b, j, none⟩) (show b < _ by omega)]; exact h.cell j hj
  · rw [k.cell (p := ⟨b, o + 1 + j, none⟩) (show b < _ by omega)]; exact h.cnt j hj
  · rw [k.frozen (p := ⟨b, j, none⟩) (show b < _ by omega)]; exact h.fz j
theorem CW.put {b o : Nat} {w wr : World} {C : Nat → Nat} (h : CW b o w wr C) (k : Nat) (hk : k < 4) (x : Nat) : CW b o w (wr.setCell ⟨b, o + 1 + k, none⟩ (.int .u64 (x : Int))) (fun j => if j = k then x else C j) := by
  refine ⟨h.os, h.tape, h.output, by simpa using h.size, fun y hy hne => ?_, fun j hj => ?_, fun j hj => ?_, fun j => ?_⟩
  · rw [Below.heap_setCell _ _ _ _ (by simpa using hne)]; exact h.block y hy hne
  · rw [World.cell?_setCell_other _ _ _ _ (by intro e; cases e; omega)]; exact h.cell j hj
  · by_cases e : j = k
    · subst e; rw [if_pos rfl]; exact World.cell?_setCell_same _ _ _ (h.cnt j hj)
    · rw [if_neg e, World.cell?_setCell_other _ _ _ _ (by intro e0; have := congrArg Addr.off e0; simp at this; omega)]; exact h.cnt j hj
  · rw [World.frozen?_setCell]; exact h.fz j
/-- A cell of an old block, other than the counts. -/
theorem CW.old {b o : Nat} {w wr : World} {C : Nat → Nat} (h : CW b o w wr C) {x k : Nat} (hx : x < w.heap.size) (hne : x ≠ b ∨ k < o + 1 ∨ o + 5 ≤ k) : wr.cell? ⟨x, k, none⟩ = w.cell? ⟨x, k, none⟩ := by
  by_cases e : x = b
  · subst e; exact h.cell k (hne.resolve_left (fun z => z rfl))
  · exact World.cell?_of_block (h.block x hx e)
theorem CW.listAt {b o g cap : Nat} {w wr : World} {C : Nat → Nat} {R : List (Nat × Nat)} (h : CW b o w wr C) (hL : ListAt w b o g cap R) (hg : g ≠ b) : ListAt wr b o g cap R :=
  ⟨by rw [h.old (cell_lt hL.list) (Or.inr (Or.inl (by omega)))]; exact hL.list, fun i hi => by rw [h.old (cell_lt (hL.first i hi)) (Or.inl hg)]; exact hL.first i hi, fun i hi => by rw [h.old (cell_lt (hL.state i hi)) (Or.inl hg)]; exact hL.state i hi⟩
theorem CW.holds {b o g cap : Nat} {w wr : World} {C : Nat → Nat} {R : List (Nat × Nat)} (h : CW b o w wr C) (hL : HoldsR w g cap R) (hg : g ≠ b) : HoldsR wr g cap R := by
  obtain ⟨⟨cur, hr, ht⟩, hl⟩ := hL
  exact ⟨⟨cur, ⟨by rw [h.block g (Array.getElem?_eq_some_iff.1 hr.heap).1 hg]; exact hr.heap, hr.len, hr.cap⟩, ht⟩, hl⟩

/-- How the rows lie: the list at ⟨b, o⟩, its rows in block g, the four counts behind it. -/
structure RowsM (w : World) (b o g cap : Nat) (R : List (Nat × Nat)) (f : Nat → Nat) : Prop where
  list : w.cell? ⟨b, o, none⟩ = some (.slice (some ⟨g, 0, none⟩) R.length cap)
  holds : HoldsR w g cap R
  cnt : ∀ k, k < 4 → w.cell? ⟨b, o + 1 + k, none⟩ = some (.int .u64 (cntI f 0 34359738368 k : Nat))
  fz : ∀ k, w.frozen? ⟨b, k, none⟩ = false
  seg : Seg f 0 R 34359738368
  alt : Alt R
  le3 : ∀ p, f p ≤ 3
  ne : g ≠ b
theorem RowsM.listAt {w : World} {b o g cap : Nat} {R : List (Nat × Nat)} {f : Nat → Nat} (h : RowsM w b o g cap R f) : ListAt w b o g cap R := by
  obtain ⟨⟨cur, hr, ht⟩, hl⟩ := h.holds
  have hc := src_cells0 hr ht
  refine ⟨h.list, fun i hi => ?_, fun i hi => ?_⟩
  · have := hc _ _ (flat2_get R i hi).1
    rwa [addr_add0, Nat.zero_add] at this
  · have := hc _ _ (flat2_get R i hi).2
    rwa [addr_add0, Nat.zero_add] at this
theorem cnt_set (f : Nat → Nat) (first n s L k : Nat) (h : first + n ≤ L) : cntI (putSt f first (first + n) s) 0 L k + cntI f first n k = cntI f 0 L k + if s = k then n else 0 := by
  obtain ⟨t, rfl⟩ : ∃ t, L = first + n + t := ⟨L - (first + n), by omega⟩
  rw [cntI_add, cntI_add, cntI_add (n := first + n), cntI_add (n := first), Nat.zero_add, Nat.zero_add]
  have e1 : cntI (putSt f first (first + n) s) 0 first k = cntI f 0 first k := by
    unfold cntI
    refine List.countP_congr fun p hp => ?_
    have := List.mem_range'_1.1 hp
    unfold putSt
    rw [if_neg (by omega)]
  have e2 : cntI (putSt f first (first + n) s) first n k = if s = k then n else 0 := cntI_all fun p h1 h2 => by unfold putSt; rw [if_pos ⟨h1, h2⟩]
  have e3 : cntI (putSt f first (first + n) s) (first + n) t k = cntI f (first + n) t k := by
    unfold cntI
    refine List.countP_congr fun p hp => ?_
    have := List.mem_range'_1.1 hp
    unfold putSt
    rw [if_neg (by omega)]
  rw [e1, e2, e3]
  omega
theorem cntI_sub (f : Nat → Nat) (first n L k : Nat) (h : first + n ≤ L) : cntI f first n k ≤ cntI f 0 L k := by
  obtain ⟨t, rfl⟩ : ∃ t, L = first + n + t := ⟨L - (first + n), by omega⟩
  rw [cntI_add, cntI_add, Nat.zero_add]
  omega
end Go.Proofs.Ytlfcnaalkjpgnaa

/- The landed package's 'set': what it leaves, as far as no walk is wanted. -/
namespace Go.Proofs.Ytlfcnaalkjpgnaa
open Go.ChangeShapes Go.WideShapes Go.ChangeAt Go.RowKit Go.Proofs.Sp

theorem still_tail {P : Program} {id : Nat} {Q : Exit → Act → World → Prop} {a : Act} {w : World} {l : List Oper} (n : Nat) (hm : P.follows .mixedOrders = true) (hB : Region.lexTailB .any l.toArray n = true)
    (h : wpStill P l.toArray w.drew (fun a' => wpList P l.toArray Q (l.drop n) a' w.drew) (l.take n) a) : (Code.region id l.toArray true).wp P Q a w := wp_region_still_tail n hm hB h
/-- What is taken off the counts, part by part. -/
structure CState (f : Nat → Nat) (first e : Nat) (Ps : List (Nat × Nat × Nat)) (k c : Nat) : Prop where
  rest : Cover f c (Ps.drop k) e
  fc : first ≤ c
theorem CState.next {f : Nat → Nat} {first e k c : Nat} {Ps : List (Nat × Nat × Nat)} (h : CState f first e Ps k c) (hk : k < Ps.length) : Ps[k].1 = c ∧ c < Ps[k].2.1 ∧ Ps[k].2.1 ≤ e ∧ (∀ p, c ≤ p → p < Ps[k].2.1 → f p = Ps[k].2.2) ∧ CState f first e Ps (k + 1) Ps[k].2.1 := by
  have hr := h.rest
  rw [List.drop_eq_getElem_cons hk] at hr
  obtain ⟨h1, h2, h3, h4⟩ := hr
  exact ⟨h1, h2, h4.le, h3, ⟨h4, by have := h.fc; omega⟩⟩
theorem taken {f : Nat → Nat} {first c d s k : Nat} (hc : first ≤ c) (hd : c ≤ d) (hs : ∀ p, c ≤ p → p < d → f p = s) : cntI f first (d - first) k = cntI f first (c - first) k + if s = k then d - c else 0 := by
  have e : d - first = (c - first) + (d - c) := by omega
  rw [e, cntI_add, show first + (c - first) = c by omega, cntI_all (n := d - c) fun p h1 h2 => hs p h1 (by omega)]

theorem CW.ext {b o : Nat} {w wr : World} {C C' : Nat → Nat} (h : CW b o w wr C) (hc : ∀ j, j < 4 → C' j = C j) : CW b o w wr C' :=
  ⟨h.os, h.tape, h.output, h.size, h.block, h.cell, fun k hk => by rw [hc k hk]; exact h.cnt k hk, h.fz⟩
theorem u64_nat (x : Int) (n : Nat) (h : x = (n : Int)) (hn : n < 18446744073709551616) : Value.int .u64 (IntKind.u64.wrap x) = .int .u64 (n : Int) := by
  have e : IntKind.u64.wrap x = x % 18446744073709551616 := rfl
  rw [e, h]
  congr 1
  omega
theorem cntI_lim (f : Nat → Nat) (k : Nat) : cntI f 0 34359738368 k ≤ 34359738368 := cntI_le f 0 34359738368 k
/-- What 'set' leaves. -/
structure SetFr (b o g : Nat) (w w' : World) : Prop where
  os : w'.os = w.os
  tape : w'.tape = w.tape
  output : w'.output = w.output
  size : w.heap.size ≤ w'.heap.size
  block : ∀ x, x < w.heap.size → x ≠ b → x ≠ g → w'.heap[x]? = w.heap[x]?
  cell : ∀ k, (k < o ∨ o + 5 ≤ k) → w'.cell? ⟨b, k, none⟩ = w.cell? ⟨b, k, none⟩
def SetPost (b o g : Nat) (R : List (Nat × Nat)) (f' : Nat → Nat) (w w' : World) : Prop := ∃ g' c' R', RowsM w' b o g' c' R' f' ∧ R'.length ≤ R.length + 2 ∧ (g' = g ∨ w.heap.size ≤ g') ∧ SetFr b o g w w'
theorem set_fin {b o g cap i j fr tt p q s : Nat} {R F1 F2 : List (Nat × Nat)} {f : Nat → Nat} {w w1 w4 wX w7 : World} {v' : Value} (hM : RowsM w b o g cap R f) (hb : b < w.heap.size) (b1 : Below w.heap.size w w1) (cw : CW b o w1 w4 (fun k => cntI (putSt f p q s) 0 34359738368 k)) (bX : Below w4.heap.size w4 wX)
    (hpq : p < q) (hs3 : s ≤ 3) (hi : i < R.length) (i1 : R[i].1 ≤ p) (i2 : p < startR R 34359738368 (i + 1)) (hj : j < R.length) (j1 : R[j].1 < q) (j2 : q ≤ startR R 34359738368 (j + 1))
    (hfr : fr = if R[i].1 < p then i + 1 else i) (hF1 : F1 = if fr = 0 ∨ (R[fr - 1]?.map (·.2)) ≠ some s then [(p, s)] else [])
    (hto : tt = if ¬ q < startR R 34359738368 (j + 1) ∧ (R[j + 1]?.map (·.2)) = some s then j + 2 else j + 1) (hF2 : F2 = if q < startR R 34359738368 (j + 1) ∧ R[j].2 ≠ s then [(q, R[j].2)] else [])
    (hN : Now wX w7 g v' (R.take fr ++ (F1 ++ F2) ++ R.drop tt)) : SetPost b o g R (putSt f p q s) w (w7.setCell ⟨b, o, none⟩ v') := by
  obtain ⟨g', c', rfl, hh, hg, hloc⟩ := hN
  obtain ⟨sg, al, h1, h2⟩ := set_rows hM.seg hM.alt hpq hi i1 i2 hj j1 j2 fr hfr F1 hF1 tt hto F2 hF2
  have s1 := b1.size
  have s4 := cw.size
  have sX := bX.size
  have s7 := hg.size
  have hb1 : b < w1.heap.size := by omega
  have hbX : b < wX.heap.size := by omega
  have hgl := (hM.holds.row.elim fun cur h => (Array.getElem?_eq_some_iff.1 h.1.heap).1)
  have hgb : g' ≠ b := by
    rcases hloc with rfl | h
    · exact hM.ne
    · omega
  have cb : ∀ k, w7.cell? ⟨b, k, none⟩ = w4.cell? ⟨b, k, none⟩ := fun k => by
    have e1 : w7.cell? ⟨b, k, none⟩ = wX.cell? ⟨b, k, none⟩ := World.cell?_of_block (hg.block b hbX (by simpa using hM.ne.symm))
    rw [e1, bX.cell (p := ⟨b, k, none⟩) (show b < w4.heap.size by omega)]
  have fb : ∀ k, w7.frozen? ⟨b, k, none⟩ = false := fun k => by
    have e1 : w7.frozen? ⟨b, k, none⟩ = wX.frozen? ⟨b, k, none⟩ := World.frozen?_of_block (hg.block b hbX (by simpa using hM.ne.symm))
    rw [e1, bX.frozen (p := ⟨b, k, none⟩) (show b < w4.heap.size by omega), cw.fz, b1.frozen (p := ⟨b, k, none⟩) hb]
    exact hM.fz k
  have bh : ∀ x, x < w.heap.size → x ≠ b → x ≠ g → w7.heap[x]? = w.heap[x]? := fun x hx hxb hxg => by
    rw [hg.block x (by omega) (by simpa using hxg), bX.block x (by omega), cw.block x (by omega) hxb, b1.block x hx]
  have l1 : F1.length ≤ 1 := by rw [hF1]; split <;> simp
  have l2 : F2.length ≤ 1 := by rw [hF2]; split <;> simp
  refine ⟨g', c', _, ⟨?_, ?_, ?_, ?_, sg, al, ?_, hgb⟩, ?_, ?_, ⟨?_, ?_, ?_, ?_, ?_, ?_⟩⟩
  · exact World.cell?_setCell_same _ _ _ ((cb o).trans ((cw.cell o (Or.inl (by omega))).trans ((b1.cell (p := ⟨b, o, none⟩) hb).trans hM.list)))
  · obtain ⟨⟨cur, hr, ht⟩, hl⟩ := hh
    exact ⟨⟨cur, ⟨by rw [Below.heap_setCell _ _ _ _ (by simpa using hgb)]; exact hr.heap, hr.len, hr.cap⟩, ht⟩, hl⟩
  · intro k hk
    rw [World.cell?_setCell_other _ _ _ _ (by intro e; have := congrArg Addr.off e; simp at this; omega), cb]
    exact cw.cnt k hk
  · intro k
    rw [World.frozen?_setCell]; exact fb k
  · intro x
    unfold putSt
    split
    · exact hs3
    · exact hM.le3 x
  · rw [List.length_append, List.length_append, List.length_append, List.length_take, List.length_drop]; omega
  · rcases hloc with h | h
    · exact Or.inl h
    · exact Or.inr (by omega)
  · show w7.os = _
    rw [hg.os, bX.os, cw.os, b1.os]
  · show w7.tape = _
    rw [hg.tape, bX.tape, cw.tape, b1.tape]
  · show w7.output = _
    rw [hg.output, bX.output, cw.output, b1.output]
  · simp; omega
  · intro x hx hxb hxg
    rw [Below.heap_setCell _ _ _ _ (by simpa using hxb)]
    exact bh x hx hxb hxg
  · intro k hk
    rw [World.cell?_setCell_other _ _ _ _ (by intro e; have := congrArg Addr.off e; simp at this; omega), cb, cw.cell k (by omega), b1.cell (p := ⟨b, k, none⟩) hb]

theorem holds_below {w w' : World} {g cap : Nat} {R : List (Nat × Nat)} (h : HoldsR w g cap R) (hb : Below w.heap.size w w') : HoldsR w' g cap R := by
  obtain ⟨⟨cur, hr, ht⟩, hl⟩ := h
  exact ⟨⟨cur, ⟨by rw [hb.block g (Array.getElem?_eq_some_iff.1 hr.heap).1]; exact hr.heap, hr.len, hr.cap⟩, ht⟩, hl⟩
theorem now_cell {w w7 : World} {g b k : Nat} {v : Value} {R : List (Nat × Nat)} (h : Now w w7 g v R) (hb : b < w.heap.size) (hne : g ≠ b) : w7.cell? ⟨b, k, none⟩ = w.cell? ⟨b, k, none⟩ ∧ w7.frozen? ⟨b, k, none⟩ = w.frozen? ⟨b, k, none⟩ := by
  obtain ⟨_, _, _, _, hg, _⟩ := h
  have := hg.block b hb (by simpa using hne.symm)
  exact ⟨World.cell?_of_block this, World.frozen?_of_block this⟩
theorem now_form {w w7 : World} {g : Nat} {v : Value} {R : List (Nat × Nat)} (h : Now w w7 g v R) : ∃ g' c' n, v = .slice (some ⟨g', 0, none⟩) n c' := by
  obtain ⟨g', c', h1, _⟩ := h
  exact ⟨g', c', _, h1⟩
/-- Rows that are put in: nil, or in a block from B on. -/
def FreshB (w : World) (v : Value) (F : List (Nat × Nat)) (B : Nat) : Prop := (v = .slice none 0 0 ∧ F = []) ∨ ∃ h c, v = .slice (some ⟨h, 0, none⟩) F.length c ∧ B ≤ h ∧ 0 < F.length ∧ HoldsR w h c F
theorem FreshB.owns {w : World} {v : Value} {F : List (Nat × Nat)} {B : Nat} (h : FreshB w v F B) : w.ownsRow 0 70 2 v F.length (flat2 F) := by
  rcases h with ⟨rfl, rfl⟩ | ⟨h, c, rfl, _, _, hh⟩
  · exact World.ownsRow_nil _ _ _ _
  · exact holds_own hh
theorem FreshB.alloc {w : World} {v : Value} {F : List (Nat × Nat)} {B : Nat} (h : FreshB w v F B) (ob : Obj) : FreshB (w.alloc ob) v F B := by
  rcases h with h | ⟨h, c, h1, h2, h3, ⟨cur, hr, ht⟩, hl⟩
  · exact Or.inl h
  · exact Or.inr ⟨h, c, h1, h2, h3, ⟨cur, ⟨by rw [Below.heap_alloc w ob h (Array.getElem?_eq_some_iff.1 hr.heap).1]; exact hr.heap, hr.len, hr.cap⟩, ht⟩, hl⟩
theorem FreshB.push {w w' : World} {v : Value} {F : List (Nat × Nat)} {B g1 cap1 H : Nat} {x : Int} {a s : Nat} (hF : FreshB w v F B) (ha : (a : Int) = x) (hown : w'.ownsRow 0 70 2 (.slice (some ⟨g1, 0, none⟩) (F.length + 1) cap1) (F.length + 1) (flat2 F ++ [.int .u64 x, .int .i64 (s : Int)])) (hloc : v.ownBlock = some g1 ∨ g1 = H) (hH : B ≤ H) :
    FreshB w' (.slice (some ⟨g1, 0, none⟩) (F.length + 1) cap1) (F ++ [(a, s)]) B := by
  have e : flat2 (F ++ [(a, s)]) = flat2 F ++ [.int .u64 (a : Int), .int .i64 (s : Int)] := by simp [flat2]
  have el : (F ++ [(a, s)]).length = F.length + 1 := by simp
  have hh : HoldsR w' g1 cap1 (F ++ [(a, s)]) := own_holds (b := 0) (by rw [e, el, ha]; exact hown)
  refine Or.inr ⟨g1, cap1, by rw [el], ?_, by rw [el]; omega, hh⟩
  rcases hloc with h | h
  · rcases hF with ⟨rfl, _⟩ | ⟨h', c, rfl, h2, _, _⟩
    · simp [Value.ownBlock] at h
    · simp [Value.ownBlock] at h; omega
  · omega
theorem FreshB.below {w w' w4 : World} {v : Value} {F : List (Nat × Nat)} {B : Nat} (hF : FreshB w v F B) (hg : w.grownBy w' v.ownBlock) (hb : Below B w4 w) (hB : B ≤ w.heap.size) : Below B w4 w' :=
  hb.grown hg hB (fun k hk => by
    rcases hF with ⟨rfl, _⟩ | ⟨h', c, rfl, h2, _, _⟩
    · simp [Value.ownBlock] at hk
    · simp [Value.ownBlock] at hk; omega)
theorem FreshB.at {w : World} {v : Value} {F : List (Nat × Nat)} {B g : Nat} (hF : FreshB w v F B) (hg : g < B) : FreshAt w v F g := by
  rcases hF with h | ⟨h', c, h1, h2, h3, h4⟩
  · exact Or.inl h
  · exact Or.inr ⟨h', c, h1, by omega, h3, h4⟩
theorem set_ready {b o g cap i j fr tt p q s : Nat} {R F1 F2 : List (Nat × Nat)} {f C : Nat → Nat} {w w1 w4 wX : World} {v : Value} (hM : RowsM w b o g cap R f) (hb : b < w.heap.size) (b1 : Below w.heap.size w w1) (cw : CW b o w1 w4 C) (bX : Below w4.heap.size w4 wX) (hn : R.length ≤ 1099511627777)
    (hpq : p < q) (hi : i < R.length) (i1 : R[i].1 ≤ p) (i2 : p < startR R 34359738368 (i + 1)) (hj : j < R.length) (j1 : R[j].1 < q) (j2 : q ≤ startR R 34359738368 (j + 1))
    (hfr : fr = if R[i].1 < p then i + 1 else i) (hF1 : F1 = if fr = 0 ∨ (R[fr - 1]?.map (·.2)) ≠ some s then [(p, s)] else [])
    (hto : tt = if ¬ q < startR R 34359738368 (j + 1) ∧ (R[j + 1]?.map (·.2)) = some s then j + 2 else j + 1) (hF2 : F2 = if q < startR R 34359738368 (j + 1) ∧ R[j].2 ≠ s then [(q, R[j].2)] else [])
    (hF : FreshB wX v (F1 ++ F2) w4.heap.size) :
    wX.cell? ⟨b, o, none⟩ = some (.slice (some ⟨g, 0, none⟩) R.length cap) ∧ wX.frozen? ⟨b, o, none⟩ = false ∧ b < wX.heap.size ∧
    Calls Try.prog 63 #[.slice (some ⟨g, 0, none⟩) R.length cap, .int .i64 (fr : Int), .int .i64 (tt : Int), v] wX fun e w' => ∃ v', e = .returned v' ∧ Now wX w' g v' (R.take fr ++ (F1 ++ F2) ++ R.drop tt) := by
  obtain ⟨_, _, h1, h2⟩ := set_rows hM.seg hM.alt hpq hi i1 i2 hj j1 j2 fr hfr F1 hF1 tt hto F2 hF2
  have l1 : F1.length ≤ 1 := by rw [hF1]; split <;> simp
  have l2 : F2.length ≤ 1 := by rw [hF2]; split <;> simp
  clear hfr hF1 hto hF2
  have s1 := b1.size
  have s4 := cw.size
  have sX := bX.size
  have h4 := cw.holds (holds_below hM.holds b1) hM.ne
  obtain ⟨cur, hcur⟩ := h4.row
  have hg4 : g < w4.heap.size := (Array.getElem?_eq_some_iff.1 hcur.1.heap).1
  have hb4 : b < w4.heap.size := by omega
  refine ⟨?_, ?_, by omega, replace_core g cap v R (F1 ++ F2) fr tt wX (holds_below h4 bX) h1 h2 (by omega) (by rw [List.length_append]; omega) (hF.at hg4)⟩
  · rw [bX.cell (p := ⟨b, o, none⟩) hb4, cw.cell o (Or.inl (by omega)), b1.cell (p := ⟨b, o, none⟩) hb]; exact hM.list
  · rw [bX.frozen (p := ⟨b, o, none⟩) hb4, cw.fz, b1.frozen (p := ⟨b, o, none⟩) hb]; exact hM.fz o
end Go.Proofs.Ytlfcnaalkjpgnaa
