/- Package sets: the calls Take, Remove, Least, Count, Flip, by the list of spans. -/
import Derived.Test.YtdgjlekndhgjfaaSg
namespace Go.Proofs.Ytdgjlekndhgjfaa
open Go.ChangeShapes Go.WideShapes Go.ChangeAt Go.RowKit Go.Shelf Go.Proofs.Rx Go.Maps Go.Proofs.Hm
set_option linter.unusedVariables false
set_option linter.unusedSimpArgs false

attribute [local go_sem] Oper.semAt_some

section
variable {W W' : World} {s c : Nat} {L : List On} {F : Nat → Prop}
/-- What is taken for one another. -/
def fits (k : Kd) (sw : Bool) (x : On) : Bool := decide (x.kd = k) && (x.sw == sw)
/-- The lowest base of those that fit. -/
def Low (L : List On) (f : On → Bool) (x : On) : Prop := x ∈ L ∧ f x = true ∧ ∀ y, y ∈ L → f y = true → x.base ≤ y.base
theorem fits_iff {k : Kd} {sw : Bool} {x : On} : fits k sw x = true ↔ x.kd = k ∧ x.sw = sw := by
  unfold fits
  simp
def sideOf (G : Gh) (sw : Bool) : Nat := if sw then G.g else 1 - G.g
theorem side_lt {G : Gh} (g : G.g < 2) (sw : Bool) : sideOf G sw < 2 := by
  unfold sideOf
  split <;> omega
theorem side_sw {G : Gh} (g : G.g < 2) {sw : Bool} {d : Nat} (hd : d < 2) : decide (d = G.g) = sw ↔ d = sideOf G sw := by
  unfold sideOf
  cases sw with
  | true => simp
  | false =>
    simp
    omega
/-- The first of a heap is the lowest. -/
theorem first_low {G : Gh} (p : Parts W s c G) (R : Rel c G L) {d : Nat} {o : Option Kd} (hd : d < 2) (ho : G.on d o = true) (hl : G.l d o ≠ []) {sw : Bool} (hs : d = sideOf G sw) (f : On → Bool) (hf : ∀ x : On, f x = true ↔ x.sw = sw ∧ ∀ k, o = some k → x.kd = k) :
    at' (G.l d o) 0 ∈ G.ms ∧ Low L f (G.one (at' (G.l d o) 0)) := by
  have hm := at_mem (List.length_pos_iff.2 hl)
  have sb := p.pl.sub d o hd ho _ hm
  refine ⟨sb.1, by rw [R.L]; exact List.mem_map.2 ⟨_, sb.1, rfl⟩, (hf _).2 ⟨(side_sw R.g2 (R.d2 _ sb.1)).2 (by rw [sb.2.1]; exact hs), sb.2.2⟩, fun y hy hfy => ?_⟩
  rw [R.L] at hy
  obtain ⟨z, hz, rfl⟩ := List.mem_map.1 hy
  obtain ⟨e1, e2⟩ := (hf _).1 hfy
  have e1' := (side_sw R.g2 (R.d2 z hz)).1 e1
  have zl := R.mem d o hd ho z hz (by rw [e1', hs]) e2
  obtain ⟨j, hj, ej⟩ := at_of_mem zl
  have := (p.pl.ord d o hd ho).first j hj
  unfold fB at this
  rw [ej] at this
  exact this
/-- A heap without a member. -/
theorem none_low {G : Gh} (R : Rel c G L) {d : Nat} {o : Option Kd} (hd : d < 2) (ho : o = none → G.on d none = true) (hl : G.on d o = false ∨ G.l d o = []) {sw : Bool} (hs : d = sideOf G sw) (f : On → Bool) (hf : ∀ x : On, f x = true ↔ x.sw = sw ∧ ∀ k, o = some k → x.kd = k) : ∀ y, y ∈ L → f y = false := by
  intro y hy
  cases hfy : f y with
  | false => rfl
  | true =>
    rw [R.L] at hy
    obtain ⟨z, hz, rfl⟩ := List.mem_map.1 hy
    obtain ⟨e1, e2⟩ := (hf _).1 hfy
    have e1' := (side_sw R.g2 (R.d2 z hz)).1 e1
    have on : G.on d o = true := by
      cases o with
      | none => exact ho rfl
      | some k => exact (R.onk d k hd).2 ⟨z, hz, by rw [hs, ← e1'], e2 k rfl⟩
    rcases hl with u | u
    · rw [on] at u; cases u
    · have zl := R.mem d o hd on z hz (by rw [e1', hs]) e2
      rw [u] at zl; cases zl
theorem fits_o (k : Kd) (sw : Bool) : ∀ x : On, fits k sw x = true ↔ x.sw = sw ∧ ∀ k', some k = some k' → x.kd = k' := fun x => by
  rw [fits_iff]
  exact ⟨fun ⟨a, b⟩ => ⟨b, fun k' e => by rw [a]; exact Option.some.inj e⟩, fun ⟨a, b⟩ => ⟨b k rfl, a⟩⟩
theorem out_turn {G : Gh} {m : Nat} (hF : ∀ z, F z ↔ Foot G s z) {L' : List On} (h : Out W W' s c m G L') : Turn s c L' W W' F := by
  obtain ⟨⟨G2, a1, a2, a3⟩, -⟩ := h
  exact ⟨Foot G2 s, ⟨G2, a1, a2, fun _ => Iff.rfl⟩, a3.1.mono (fun z hz => (hF z).2 hz), fun z hz => (a3.2 z hz).imp (hF z).2 id⟩
/-! ### Take -/
set_option maxRecDepth 100000 in
theorem take_none (h : (tSets s c L).P W F) (cl : Int) (a b sw : Bool) (hk : -9223372036854775808 ≤ cl ∧ cl ≤ 9223372036854775807) (hN : ∀ y, y ∈ L → fits ⟨cl, a, b⟩ sw y = false) :
    Calls Try.prog 15 #[.pointer (some ⟨s, 0, none⟩), .int .i64 cl, .bool a, .bool b, .bool sw] W fun e W' => e = .returned (.tuple #[.int .i64 0, .bool false]) ∧ Below W.heap.size W W' := by
  obtain ⟨G, p, R, hF⟩ := h
  have hd := side_lt R.g2 sw
  have ho : G.on (sideOf G sw) (some ⟨cl, a, b⟩) = false := by
    cases z : G.on (sideOf G sw) (some ⟨cl, a, b⟩) with
    | false => rfl
    | true =>
      obtain ⟨m, hm, e1, e2⟩ := (R.onk _ _ hd).1 z
      have := hN (G.one m) (by rw [R.L]; exact List.mem_map.2 ⟨m, hm, rfl⟩)
      rw [(fits_iff).2 ⟨e2, (side_sw R.g2 (R.d2 m hm)).2 e1⟩] at this
      cases this
  have CW := hide (which_any (p.below (drew_below W)) R.g2 sw)
  have CF := hide (firstOf_none (p.below (drew_below W)) _ hd ⟨cl, a, b⟩ hk ho)
  rw [show (if sw then G.g else 1 - G.g) = sideOf G sw from rfl] at CW
  obtain ⟨d, hdd⟩ : ∃ d, sideOf G sw = d := ⟨_, rfl⟩
  rw [hdd] at CW CF hd
  unfold kdV at CF
  have FIN := hide (show ∀ W1, Below W.drew.heap.size W.drew W1 → Below W.heap.size W W1 from fun W1 b => (drew_below W).trans b)
  clear p R hF ho hdd hk hN
  rcases (show d = 0 ∨ d = 1 by omega) with rfl | rfl
  all_goals
    clear hd
    go_enter Try.func15, Try.ntmps15
    go_wp2_with fail
    refine still_tail 11 (by kernel_rfl) (by kernel_rfl) ?_
    simp only [List.take_succ_cons, List.take_zero, List.drop_succ_cons, List.drop_zero]
    repeat still_step
    still_call CW.out
    repeat still_step
    refine wpStill_nil ?_
    go_wp2_with fail
    refine CF.out.mono ?_
    rintro e W1 ⟨rfl, b1⟩
    have B1 := hide (FIN.out _ b1)
    clear b1 CF CW FIN
    go_wp2_with fail
    exact bodyPost_ret (results_tmp2 Try.results15 _ _ _) rfl ⟨rfl, B1.out⟩
set_option maxRecDepth 100000 in
theorem take_ok (h : (tSets s c L).P W F) (hc : c ≤ 5000) (cl : Int) (a b sw : Bool) (hk : -9223372036854775808 ≤ cl ∧ cl ≤ 9223372036854775807) {x : On} (hx : Low L (fits ⟨cl, a, b⟩ sw) x) :
    Calls Try.prog 15 #[.pointer (some ⟨s, 0, none⟩), .int .i64 cl, .bool a, .bool b, .bool sw] W fun e W' => e = .returned (.tuple #[.int .i64 x.id, .bool true]) ∧ Turn s c (L.erase x) W W' F := by
  have hok := tSets_ok h
  obtain ⟨G, p, R, hF⟩ := h
  have hd := side_lt R.g2 sw
  have ho : G.on (sideOf G sw) (some ⟨cl, a, b⟩) = true := by
    obtain ⟨h1, h2, -⟩ := hx
    rw [R.L] at h1
    obtain ⟨m, hm, rfl⟩ := List.mem_map.1 h1
    have := fits_iff.1 h2
    exact (R.onk _ _ hd).2 ⟨m, hm, (side_sw R.g2 (R.d2 m hm)).1 this.2, this.1⟩
  have hl : G.l (sideOf G sw) (some ⟨cl, a, b⟩) ≠ [] := by
    obtain ⟨m, hm, e1, e2⟩ := (R.onk _ _ hd).1 ho
    intro e
    have := R.mem _ _ hd ho m hm e1 (fun k hk => by cases hk; exact e2)
    rw [e] at this; cases this
  obtain ⟨fm, fl⟩ := first_low p R hd ho hl rfl (fits ⟨cl, a, b⟩ sw) (fits_o _ _)
  have ex : x = G.one (at' (G.l (sideOf G sw) (some ⟨cl, a, b⟩)) 0) := hok.bas _ _ hx.1 fl.1 (Nat.le_antisymm (hx.2.2 _ fl.1 fl.2.1) (fl.2.2 _ hx.1 hx.2.1))
  have CW := hide (which_any (p.below (drew_below W)) R.g2 sw)
  have CF := hide (firstOf_some (p.below (drew_below W)) _ hd ⟨cl, a, b⟩ hk ho (List.length_pos_iff.2 hl))
  rw [show (if sw then G.g else 1 - G.g) = sideOf G sw from rfl] at CW
  obtain ⟨d, hdd⟩ : ∃ d, sideOf G sw = d := ⟨_, rfl⟩
  rw [hdd] at CW CF hd ex fm
  unfold kdV at CF
  obtain ⟨m, hm⟩ : ∃ m, at' (G.l d (some ⟨cl, a, b⟩)) 0 = m := ⟨_, rfl⟩
  rw [hm] at CF ex fm
  have CD := hide (fun W1 (b1 : Below W.drew.heap.size W.drew W1) => (sets_drop (p.below ((drew_below W).trans b1)) R hc fm).mono (R' := fun e W' => e = .returned (.tuple #[]) ∧ Turn s c (L.erase x) W W' F ∧ W'.cell? ⟨m, 0, none⟩ = some (.int .i64 x.id)) fun e W' ⟨he, o⟩ => ⟨he, by
    rw [ex]
    obtain ⟨F', t1, t2⟩ := out_turn (F := F) hF o
    exact ⟨F', t1, (To.of_below ((drew_below W).trans b1) F).trans t2⟩, by
    rw [ex]; exact o.2⟩)
  obtain ⟨xi, hxi⟩ : ∃ i, x.id = i := ⟨_, rfl⟩
  rw [hxi] at CD ⊢
  obtain ⟨TU, hTU⟩ : ∃ P : World → Prop, (fun W' => Turn s c (L.erase x) W W' F) = P := ⟨_, rfl⟩
  have hTU' : ∀ W', Turn s c (L.erase x) W W' F = TU W' := fun W' => congrFun hTU W'
  simp only [hTU'] at CD ⊢
  clear p R hF ho hdd hk hx hok hl fl ex fm hm hxi hTU hTU' hc
  rcases (show d = 0 ∨ d = 1 by omega) with rfl | rfl
  all_goals
    clear hd
    go_enter Try.func15, Try.ntmps15
    go_wp2_with fail
    refine still_tail 11 (by kernel_rfl) (by kernel_rfl) ?_
    simp only [List.take_succ_cons, List.take_zero, List.drop_succ_cons, List.drop_zero]
    repeat still_step
    still_call CW.out
    repeat still_step
    refine wpStill_nil ?_
    go_wp2_with fail
    refine CF.out.mono ?_
    rintro e W1 ⟨rfl, b1⟩
    have CC := hide (CD.out W1 b1)
    clear CF CW CD b1
    go_wp2_with fail
    refine CC.out.mono ?_
    rintro e W2 ⟨rfl, t, x0⟩
    have TT := hide t
    clear CC t
    go_wp2_with fail
    exact bodyPost_ret (results_tmp2 Try.results15 _ _ _) rfl ⟨rfl, TT.out⟩
/-! ### Remove -/
theorem remove_none (h : (tSets s c L).P W F) (id : Int) (hi : -9223372036854775808 ≤ id ∧ id ≤ 9223372036854775807) (hN : ∀ y, y ∈ L → y.id ≠ id) :
    Calls Try.prog 16 #[.pointer (some ⟨s, 0, none⟩), .int .i64 id] W fun e W' => e = .returned (.int .i64 35) ∧ W' = W := by
  obtain ⟨G, p, R, hF⟩ := h
  have e1 : (G.M0 id).isSome = false := by
    cases z : (G.M0 id).isSome with
    | false => rfl
    | true =>
      obtain ⟨x, hx, e⟩ := (M0_some R id).1 z
      exact absurd e (hN x hx)
  have C1 := hide (hasID_any p id hi.1 hi.2)
  rw [e1] at C1
  clear p R hF e1 hi hN
  go_enter Try.func16, Try.ntmps16
  go_wp2_with fail
  refine C1.out.mono ?_
  rintro e W1 ⟨rfl, hw⟩
  rw [hw]
  clear hw C1
  simp only [Bool.not_false]
  go_wp2_with fail
  go_ret
  exact ⟨rfl, rfl⟩
theorem remove_ok (h : (tSets s c L).P W F) (hc : c ≤ 5000) {x : On} (hx : x ∈ L) :
    Calls Try.prog 16 #[.pointer (some ⟨s, 0, none⟩), .int .i64 x.id] W fun e W' => e = .returned (.int .i64 0) ∧ Turn s c (L.erase x) W W' F := by
  have hok := tSets_ok h
  obtain ⟨G, p, R, hF⟩ := h
  have hx' := hx
  rw [R.L] at hx'
  obtain ⟨m, hm, ex⟩ := List.mem_map.1 hx'
  have ib := (R.ib m hm).1
  have exi : (G.x m).id = x.id := by rw [← ex]; rfl
  rw [exi] at ib
  have e0 : G.M0 x.id = some m := (R.m0 _ _).2 ⟨hm, exi⟩
  have C1 := hide (hasID_any p x.id (by omega) ib.2)
  rw [e0, show (some m).isSome = true from rfl] at C1
  have l0 := p.m0.look tyI (zeroM W) (p := x.id) ⟨by omega, ib.2⟩
  rw [e0, show keyI.kv x.id = .int .i64 x.id from rfl, show valO encPt (some m) = .pointer (some ⟨m, 0, none⟩) from rfl] at l0
  have c0 : W.cell? ⟨s, 0, none⟩ = some (.map (some G.b0)) := p.sb.cell 0 _ rfl
  have CD := hide ((sets_drop p R hc hm).mono (R' := fun e W' => e = .returned (.tuple #[]) ∧ Turn s c (L.erase x) W W' F) fun e W' ⟨he, o⟩ => ⟨he, by
    rw [← ex]
    exact out_turn hF o⟩)
  obtain ⟨xi, hxi⟩ : ∃ i, x.id = i := ⟨_, rfl⟩
  rw [hxi] at C1 l0 ⊢
  obtain ⟨TU, hTU⟩ : ∃ P : World → Prop, (fun W' => Turn s c (L.erase x) W W' F) = P := ⟨_, rfl⟩
  have hTU' : ∀ W', Turn s c (L.erase x) W W' F = TU W' := fun W' => congrFun hTU W'
  simp only [hTU'] at CD ⊢
  obtain ⟨q0, hq0⟩ : ∃ q, G.b0 = q := ⟨_, rfl⟩
  rw [hq0] at c0 l0
  clear hTU hTU' p R hF hx hx' hm ex exi e0 ib hxi hok hq0 hc
  go_enter Try.func16, Try.ntmps16
  go_wp2_with fail
  refine C1.out.mono ?_
  rintro e W1 ⟨rfl, hw⟩
  rw [hw]
  clear hw C1
  simp only [Bool.not_true]
  go_wp2_with fail
  refine CD.out.mono ?_
  rintro e W2 ⟨rfl, t⟩
  have TT := hide t
  clear CD t
  go_wp2_with fail
  go_ret
  exact ⟨rfl, TT.out⟩
/-! ### Least, Count -/
def uns (x : On) : Bool := !x.sw
theorem uns_o : ∀ x : On, uns x = true ↔ x.sw = false ∧ ∀ k', (none : Option Kd) = some k' → x.kd = k' := fun x => by
  unfold uns
  simp
theorem least_none (h : (tSets s c L).P W F) (hN : ∀ y, y ∈ L → y.sw = true) :
    Calls Try.prog 14 #[.pointer (some ⟨s, 0, none⟩)] W fun e W' => e = .returned (.tuple #[.int .i64 0, .bool false]) ∧ Below W.heap.size W W' := by
  obtain ⟨G, p, R, hF⟩ := h
  have hd : 1 - G.g < 2 := by omega
  have el : G.l (1 - G.g) none = [] := by
    cases z : G.l (1 - G.g) none with
    | nil => rfl
    | cons m t =>
      have sb := p.pl.sub _ none hd (p.pl.on0 _ hd) m (by rw [z]; exact List.mem_cons_self)
      have e1 := hN (G.one m) (by rw [R.L]; exact List.mem_map.2 ⟨m, sb.1, rfl⟩)
      have e2 := (side_sw R.g2 (R.d2 m sb.1)).1 e1
      unfold sideOf at e2
      rw [if_pos rfl, sb.2.1] at e2
      have := R.g2
      omega
  have := least_any p R.g2
  rw [if_pos el] at this
  exact this
theorem least_ok (h : (tSets s c L).P W F) {x : On} (hx : Low L uns x) :
    Calls Try.prog 14 #[.pointer (some ⟨s, 0, none⟩)] W fun e W' => e = .returned (.tuple #[.int .i64 x.id, .bool true]) ∧ Below W.heap.size W W' := by
  have hok := tSets_ok h
  obtain ⟨G, p, R, hF⟩ := h
  have hd : 1 - G.g < 2 := by omega
  have ho := p.pl.on0 _ hd
  have hl : G.l (1 - G.g) none ≠ [] := by
    intro e
    have := none_low R hd (fun _ => ho) (.inr e) (sw := false) rfl uns uns_o x hx.1
    rw [hx.2.1] at this; cases this
  obtain ⟨fm, fl⟩ := first_low p R hd ho hl (sw := false) rfl uns uns_o
  have ex : x = G.one (at' (G.l (1 - G.g) none) 0) := hok.bas _ _ hx.1 fl.1 (Nat.le_antisymm (hx.2.2 _ fl.1 fl.2.1) (fl.2.2 _ hx.1 hx.2.1))
  have := least_any p R.g2
  rw [if_neg hl] at this
  rw [ex]
  exact this
theorem perm_of_mem {l l' : List Nat} (h1 : l.Nodup) (h2 : l'.Nodup) (h : ∀ z, z ∈ l ↔ z ∈ l') : l.length = l'.length := Nat.le_antisymm (sub_len h1 (fun z hz => (h z).1 hz)) (sub_len h2 (fun z hz => (h z).2 hz))
theorem count_len {G : Gh} (p : Parts W s c G) (R : Rel c G L) (sw : Bool) : (G.l (sideOf G sw) none).length = L.countP (fun x => x.sw == sw) := by
  have hd := side_lt R.g2 sw
  have ho := p.pl.on0 _ hd
  rw [R.L, List.countP_map, List.countP_eq_length_filter]
  refine perm_of_mem (p.pl.nd _ _ hd ho) (R.nd.filter _) (fun z => ?_)
  rw [List.mem_filter]
  constructor
  · intro hz
    have sb := p.pl.sub _ none hd ho z hz
    refine ⟨sb.1, ?_⟩
    show ((G.one z).sw == sw) = true
    rw [beq_iff_eq]
    exact (side_sw R.g2 (R.d2 z sb.1)).2 sb.2.1
  · rintro ⟨h1, h2⟩
    have h2' : ((G.one z).sw == sw) = true := h2
    rw [beq_iff_eq] at h2'
    exact R.mem _ none hd ho z h1 ((side_sw R.g2 (R.d2 z h1)).1 h2') (fun k hk => by cases hk)
theorem count_ok (h : (tSets s c L).P W F) (sw : Bool) :
    Calls Try.prog 9 #[.pointer (some ⟨s, 0, none⟩), .bool sw] W fun e W' => e = .returned (.int .i64 (L.countP (fun x => x.sw == sw) : Nat)) ∧ Below W.heap.size W W' := by
  obtain ⟨G, p, R, hF⟩ := h
  rw [← count_len p R sw]
  exact Count_any p R.g2 sw
/-! ### Flip -/
theorem flip_no (h : (tSets s c L).P W F) {x : On} (hx : x ∈ L) (hs : x.sw = false) :
    Calls Try.prog 13 #[.pointer (some ⟨s, 0, none⟩)] W fun e W' => e = .returned (.int .i64 33) ∧ Below W.heap.size W W' := by
  have C1 := hide (count_ok h false)
  have hp : 0 < L.countP (fun x => x.sw == false) := List.countP_pos_iff.2 ⟨x, hx, by rw [hs]; rfl⟩
  obtain ⟨n, hn⟩ : ∃ n, L.countP (fun x => x.sw == false) = n := ⟨_, rfl⟩
  rw [hn] at C1 hp
  have d0 : decide ((0 : Int) < (n : Int)) = true := decide_eq_true (by omega)
  have d1 : decide (0 < n) = true := decide_eq_true hp
  clear h hx hs hn
  go_enter Try.func13, Try.ntmps13
  go_wp2_with fail
  refine C1.out.mono ?_
  rintro e W1 ⟨rfl, b1⟩
  have B1 := hide b1
  clear C1 b1
  go_wp2_with fail
  go_ret
  exact ⟨rfl, B1.out⟩
theorem flip_ok (h : (tSets s c L).P W F) (hs : ∀ x, x ∈ L → x.sw = true) :
    Calls Try.prog 13 #[.pointer (some ⟨s, 0, none⟩)] W fun e W' => e = .returned (.int .i64 0) ∧ Turn s c (L.map fun x => { x with sw := false }) W W' F := by
  have C1 := hide (count_ok h false)
  rw [show L.countP (fun x => x.sw == false) = 0 from List.countP_eq_zero.2 (fun x hx => by rw [hs x hx]; decide)] at C1
  have H := hide h
  obtain ⟨G, p, R, hF⟩ := h
  have g2 := R.g2
  have CELL := hide (fun W1 (b1 : Below W.heap.size W W1) => ((p.below b1).sb.cell 10 _ rfl : W1.cell? ⟨s, 10, none⟩ = some (.int .i64 (G.g : Nat))))
  have FZ := hide (fun W1 (b1 : Below W.heap.size W W1) => (p.below b1).sb.fz 10)
  have FIN := hide (fun W1 (b1 : Below W.heap.size W W1) => show Turn s c (L.map fun x => { x with sw := false }) W (W1.setCell ⟨s, 10, none⟩ (.int .i64 ((1 - G.g : Nat) : Nat))) F from by
    obtain ⟨h2, t2⟩ := (p.below b1).turn (1 - G.g) rfl
    have ts := (To.of_below b1 (Foot G s)).trans t2
    refine ⟨Foot G s, ⟨_, h2, ⟨R.nd, ?_, by show 1 - G.g < 2; omega, R.d2, R.mem, R.onk, R.m0, R.m1, R.bd, R.ib, R.len⟩, fun _ => Iff.rfl⟩, ts.1.mono (fun z hz => (hF z).2 hz), fun z hz => (ts.2 z hz).imp (hF z).2 id⟩
    rw [R.L, List.map_map]
    refine List.map_congr_left (fun m hm => ?_)
    have e1 := hs (G.one m) (by rw [R.L]; exact List.mem_map.2 ⟨m, hm, rfl⟩)
    have e2 : (G.x m).d = G.g := by
      have := (side_sw R.g2 (R.d2 m hm)).1 e1
      unfold sideOf at this
      rw [if_pos rfl] at this
      exact this
    show (⟨(G.x m).id, (G.x m).base, (G.x m).kd, false⟩ : On) = ⟨(G.x m).id, (G.x m).base, (G.x m).kd, decide ((G.x m).d = 1 - G.g)⟩
    rw [decide_eq_false (by omega)])
  have w1 : IntKind.i64.wrap (1 - (G.g : Int)) = ((1 - G.g : Nat) : Int) := by rw [IntKind.wrap_i64]; omega
  have e1 : (1 : Int) - (G.g : Int) = ((1 - G.g : Nat) : Int) := by omega
  rw [← e1] at w1
  simp only [← e1] at FIN
  obtain ⟨gi, hgi⟩ : ∃ i : Int, (G.g : Int) = i := ⟨_, rfl⟩
  simp only [hgi] at FIN CELL w1
  obtain ⟨TU, hTU⟩ : ∃ P : World → Prop, (fun W' => Turn s c (L.map fun x => { x with sw := false }) W W' F) = P := ⟨_, rfl⟩
  have hTU' : ∀ W', Turn s c (L.map fun x => { x with sw := false }) W W' F = TU W' := fun W' => congrFun hTU W'
  simp only [hTU'] at FIN ⊢
  clear hTU hTU' p R hF e1 H g2 hgi hs
  go_enter Try.func13, Try.ntmps13
  go_wp2_with fail
  refine C1.out.mono ?_
  rintro e W1 ⟨rfl, b1⟩
  have c0 := CELL.out W1 b1
  have f0 := FZ.out W1 b1
  have FF := hide (FIN.out W1 b1)
  clear C1 b1 CELL FZ FIN
  go_wp2_with fail
  go_ret
  exact ⟨rfl, FF.out⟩
end
end Go.Proofs.Ytdgjlekndhgjfaa
