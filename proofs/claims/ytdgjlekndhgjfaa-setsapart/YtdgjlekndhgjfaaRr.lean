/- The reference's sets: one list of spans: how they lie; Count, Least, Put: contracts. -/
import Derived.Test.YtdgjlekndhgjfaaSj
namespace Go.Proofs.Ytdgjlekndhgjfaa
open Go.ChangeShapes Go.WideShapes Go.ChangeAt Go.RowKit Go.Shelf Go.Proofs.Rx Go.Maps Go.Proofs.Hm
set_option linter.unusedVariables false
set_option linter.unusedSimpArgs false

attribute [local go_sem] Oper.semAt_some

def oneV (x : On) : List Value := [.int .i64 x.id, .int .u64 (x.base : Nat), .int .i64 x.kd.c, .bool x.kd.a, .bool x.kd.f, .bool x.sw]
def flat (L : List On) : List Value := L.flatMap oneV
theorem flat_nil : flat [] = [] := rfl
theorem flat_cons (x : On) (L : List On) : flat (x :: L) = oneV x ++ flat L := rfl
theorem flat_app (L M : List On) : flat (L ++ M) = flat L ++ flat M := by unfold flat; rw [List.flatMap_append]
theorem flat_len : ∀ L : List On, (flat L).length = L.length * 6
  | [] => rfl
  | x :: L => by
    rw [flat_cons, List.length_append, flat_len L, List.length_cons, show (oneV x).length = 6 from rfl]
    omega
theorem flat_at : ∀ {L : List On} {j : Nat} {x : On} (k : Nat), L[j]? = some x → k < 6 → (flat L)[j * 6 + k]? = (oneV x)[k]?
  | [], j, x, k, h, _ => by simp at h
  | y :: L, 0, x, k, h, hk => by
    have e : y = x := by simpa using h
    rw [flat_cons, e, Nat.zero_mul, Nat.zero_add, List.getElem?_append_left (by show k < 6; exact hk)]
  | y :: L, j + 1, x, k, h, hk => by
    have h' : L[j]? = some x := by simpa using h
    rw [flat_cons, List.getElem?_append_right (by show 6 ≤ _; omega), show (oneV y).length = 6 from rfl, show (j + 1) * 6 + k - 6 = j * 6 + k by omega]
    exact flat_at k h' hk
/-- The reference's sets at block r. -/
structure RefAt (W : World) (r : Nat) (v : Value) (L : List On) : Prop where
  bk : Bk W r 28 #[v]
  row : W.ownsRow 0 65 6 v L.length (flat L)
def tRef (r : Nat) (L : List On) : Thing := ⟨fun W F => ∃ v, RefAt W r v L ∧ ∀ z, F z ↔ (z = r ∨ v.ownBlock = some z),
  fun ⟨v, h, hF⟩ k n => ⟨v, ⟨h.bk.kept k (n r ((hF r).2 (.inl rfl))), owns_kept h.row k (fun g hg => n g ((hF g).2 (.inr hg)))⟩, hF⟩,
  fun ⟨v, h, hF⟩ z hz => by
    rcases (hF z).1 hz with u | u
    · rw [u]; exact h.bk.lt
    · exact (h.row.lt z u).2⟩
/-- What a call of the reference's leaves. -/
def RTurn (r : Nat) (L : List On) (W W' : World) (F : Nat → Prop) : Prop := ∃ F', (tRef r L).P W' F' ∧ To W W' F F'
section
variable {W W' : World} {r : Nat} {v : Value} {L : List On} {F : Nat → Prop}
theorem RefAt.below (h : RefAt W r v L) (k : Below W.heap.size W W') : RefAt W' r v L := ⟨h.bk.below k, owns_kept h.row (Kept.of_below (F := fun _ => False) k) (fun _ _ f => f)⟩
theorem RTurn.same (h : (tRef r L).P W F) (b : Below W.heap.size W W') : RTurn r L W W' F := by
  obtain ⟨v, p, hF⟩ := h
  exact ⟨F, ⟨v, p.below b, hF⟩, To.of_below b F⟩
theorem row_form6 {W : World} {v : Value} {n : Nat} {xs : List Value} (h : W.ownsRow 0 65 6 v n xs) : ∃ o cap, v = .slice o n cap := by
  rcases h.2 with ⟨a, b⟩ | ⟨g, cap, cur, a, _⟩
  · exact ⟨none, 0, by rw [a, b]⟩
  · exact ⟨_, cap, a⟩
/-- The cells of the j-th. -/
theorem RefAt.at (h : RefAt W r v L) {j : Nat} {x : On} (hj : L[j]? = some x) : ∃ g cap, v = .slice (some ⟨g, 0, none⟩) L.length cap ∧ W.cell? ⟨g, j * 6, none⟩ = some (.int .i64 x.id) ∧ W.cell? ⟨g, j * 6 + 1, none⟩ = some (.int .u64 (x.base : Nat)) ∧ W.cell? ⟨g, j * 6 + 2, none⟩ = some (.int .i64 x.kd.c) ∧ W.cell? ⟨g, j * 6 + 3, none⟩ = some (.bool x.kd.a) ∧ W.cell? ⟨g, j * 6 + 4, none⟩ = some (.bool x.kd.f) ∧ W.cell? ⟨g, j * 6 + 5, none⟩ = some (.bool x.sw) ∧ (∀ k, W.frozen? ⟨g, k, none⟩ = false) ∧ L.length ≤ cap := by
  have hl : j < L.length := (List.getElem?_eq_some_iff.1 hj).1
  have hr := h.row
  rcases hr.2 with ⟨a, b⟩ | ⟨g, cap, cur, rfl, _, _, hle, _⟩
  · omega
  · have c : ∀ k, k < 6 → W.cell? ⟨g, j * 6 + k, none⟩ = (oneV x)[k]? := fun k hk => by
      rw [hr.cellAt (j * 6 + k) (by omega)]
      exact flat_at k hj hk
    exact ⟨g, cap, rfl, c 0 (by omega), c 1 (by omega), c 2 (by omega), c 3 (by omega), c 4 (by omega), c 5 (by omega), fun k => hr.frozenAt k, hle⟩
/-! ### Count -/
theorem cnt_take (L : List On) (sw : Bool) (i : Nat) (x : On) (h : L[i]? = some x) : cnt (L.take (i + 1)) sw = cnt (L.take i) sw + if x.sw == sw then 1 else 0 := by
  unfold cnt
  rw [List.take_add_one, h, Option.toList_some, List.countP_append]
  simp
set_option maxRecDepth 100000 in
theorem rcount_any (h : RefAt W r v L) (hl : L.length ≤ 10000) (sw : Bool) :
    Calls Try.prog 10 #[.pointer (some ⟨r, 0, none⟩), .bool sw] W fun e W' => e = .returned (.int .i64 (cnt L sw : Nat)) ∧ Below W.heap.size W W' := by
  obtain ⟨R, hR⟩ : ∃ R : Ending → World → Prop, R = fun e W' => e = .returned (.int .i64 (cnt L sw : Nat)) ∧ Below W.heap.size W W' := ⟨_, rfl⟩
  rw [← hR]
  have FIN := hide (show ∀ j, R (.returned (.int .i64 (cnt L sw : Nat))) (W.drewN j) from fun j => by rw [hR]; exact ⟨rfl, drewN_below W j⟩)
  clear hR
  have H := hide h
  have HL := hide hl
  obtain ⟨ov, cap0, rfl⟩ := row_form6 h.row
  have c0 := h.bk.cell 0 _ rfl
  obtain ⟨n, hn⟩ : ∃ n : Nat, L.length = n := ⟨_, rfl⟩
  have HN := hide hn
  rw [hn] at c0
  rw [hn] at hl
  clear h hn
  go_enter Try.func10, Try.ntmps10
  go_wp2_with fail
  go_loopw [5, 6] (fun vn vi wr => ∃ (i : Nat), vn = .int .i64 (cnt (L.take i) sw : Nat) ∧ vi = .int .i64 (i : Nat) ∧ i ≤ n ∧ wr = W) (fun _ vi _ => n - (zi vi).toNat)
  case atStart => exact ⟨0, rfl, rfl, by omega, rfl⟩
  case round =>
    obtain ⟨i, rfl, rfl, hi, hw⟩ := hrel
    rw [hw]
    clear hw
    have pi : IntKind.i64.wrap ((i : Int) + 1) = (i : Int) + 1 := by rw [IntKind.wrap_i64]; omega
    by_cases c : i < n
    · have d : decide ((i : Int) < (n : Int)) = true := decide_eq_true (by omega)
      have d' : decide (i < n) = true := decide_eq_true c
      obtain ⟨x, hx⟩ : ∃ x, L[i]? = some x := ⟨_, List.getElem?_eq_getElem (by rw [HN.out]; exact c)⟩
      have CT := hide (cnt_take L sw i x hx)
      have CL := hide (show cnt (L.take i) sw ≤ i from by
        unfold cnt
        exact Nat.le_trans List.countP_le_length (by rw [List.length_take]; omega))
      obtain ⟨g, cap, ev, x0, x1, x2, x3, x4, x5, _, _⟩ := H.out.at hx
      rw [HN.out] at ev
      obtain ⟨rfl, rfl⟩ : ov = some ⟨g, 0, none⟩ ∧ cap0 = cap := by simpa using ev
      obtain ⟨q, hq⟩ : ∃ q, cnt (L.take i) sw = q := ⟨_, rfl⟩
      rw [hq] at CT CL
      rw [hq]
      have pq : IntKind.i64.wrap ((q : Int) + 1) = (q : Int) + 1 := by rw [IntKind.wrap_i64]; have := CL.out; omega
      have i0 : 0 ≤ (i : Int) := by omega
      have i1 : (i : Int) < (n : Int) := by omega
      obtain ⟨y, hy⟩ : ∃ y, x.sw = y := ⟨_, rfl⟩
      rw [hy] at x5 CT
      clear ev x0 x1 x2 x3 x4 hx hq hy
      cases e : (y == sw) with
      | true =>
        rw [e, if_pos rfl] at CT
        go_wp2_with fail
        exact ⟨⟨i + 1, by rw [CT.out]; push_cast; rfl, by push_cast; rfl, by omega, by first | rfl | trivial⟩, by simp only [zi]; omega⟩
      | false =>
        rw [e, if_neg (by simp)] at CT
        go_wp2_with fail
        exact ⟨⟨i + 1, by rw [CT.out]; rfl, by push_cast; rfl, by omega, by first | rfl | trivial⟩, by simp only [zi]; omega⟩
    · have d : decide ((i : Int) < (n : Int)) = false := decide_eq_false (by omega)
      have d' : decide (i < n) = false := decide_eq_false c
      have e : cnt (L.take i) sw = cnt L sw := by rw [List.take_of_length_le (by rw [HN.out]; omega)]
      have FF := hide (FIN.out 0)
      rw [e]
      clear e
      go_wp2_with fail
      first | exact FF.out | (go_ret; exact FF.out)
/-! ### The lowest -/
/-- What stands for the lowest of the first i. -/
def AtV (L : List On) (f : On → Bool) (i : Nat) (a : Int) : Prop :=
  (low f (L.take i) = none ∧ a = -1) ∨ ∃ (j : Nat) (x : On), L[j]? = some x ∧ j < i ∧ a = (j : Int) ∧ low f (L.take i) = some x
theorem low_take (f : On → Bool) (L : List On) (i : Nat) (x : On) (h : L[i]? = some x) : low f (L.take (i + 1)) = low1 f (low f (L.take i)) x := by
  unfold low
  rw [List.take_add_one, h, Option.toList_some, List.foldl_append]
  rfl
theorem AtV.start (L : List On) (f : On → Bool) : AtV L f 0 (-1) := .inl ⟨rfl, rfl⟩
theorem AtV.skip {f : On → Bool} {i : Nat} {a : Int} {x : On} (h : AtV L f i a) (hx : L[i]? = some x) (hf : f x = false) : AtV L f (i + 1) a := by
  have e : low f (L.take (i + 1)) = low f (L.take i) := by
    rw [low_take f L i x hx]
    unfold low1
    rw [hf]
    simp
  rcases h with ⟨h1, h2⟩ | ⟨j, y, h1, h2, h3, h4⟩
  · exact .inl ⟨e.trans h1, h2⟩
  · exact .inr ⟨j, y, h1, by omega, h3, e.trans h4⟩
theorem AtV.first {f : On → Bool} {i : Nat} {a : Int} {x : On} (h : AtV L f i a) (ha : a < 0) (hx : L[i]? = some x) (hf : f x = true) : AtV L f (i + 1) (i : Nat) := by
  rcases h with ⟨h1, h2⟩ | ⟨j, y, h1, h2, h3, h4⟩
  · refine .inr ⟨i, x, hx, by omega, rfl, ?_⟩
    rw [low_take f L i x hx, h1]
    unfold low1
    rw [hf]
    simp
  · omega
theorem AtV.lower {f : On → Bool} {i j : Nat} {x y : On} (h : AtV L f i (j : Nat)) (hy : L[j]? = some y) (hx : L[i]? = some x) (hf : f x = true) (hb : x.base < y.base) : AtV L f (i + 1) (i : Nat) := by
  rcases h with ⟨h1, h2⟩ | ⟨k, z, h1, h2, h3, h4⟩
  · omega
  · have e : k = j := by omega
    subst e
    rw [hy] at h1
    have e2 := Option.some.inj h1
    subst e2
    refine .inr ⟨i, x, hx, by omega, rfl, ?_⟩
    rw [low_take f L i x hx, h4]
    unfold low1
    rw [hf]
    simp [hb]
theorem AtV.stays {f : On → Bool} {i j : Nat} {x y : On} (h : AtV L f i (j : Nat)) (hy : L[j]? = some y) (hx : L[i]? = some x) (hb : y.base ≤ x.base) : AtV L f (i + 1) (j : Nat) := by
  rcases h with ⟨h1, h2⟩ | ⟨k, z, h1, h2, h3, h4⟩
  · omega
  · have e : k = j := by omega
    subst e
    rw [hy] at h1
    have e2 := Option.some.inj h1
    subst e2
    refine .inr ⟨k, _, hy, by omega, rfl, ?_⟩
    rw [low_take f L i x hx, h4]
    unfold low1
    rw [if_neg]
    simp
    intro _
    omega
set_option maxRecDepth 100000 in
set_option maxHeartbeats 2000000 in
theorem rleast_any (h : RefAt W r v L) (hl : L.length ≤ 10000) :
    Calls Try.prog 21 #[.pointer (some ⟨r, 0, none⟩)] W fun e W' => e = .returned (.tuple #[.int .i64 (lowI (low uns L)), .bool (low uns L).isSome]) ∧ Below W.heap.size W W' := by
  obtain ⟨R, hR⟩ : ∃ R : Ending → World → Prop, R = fun e W' => e = .returned (.tuple #[.int .i64 (lowI (low uns L)), .bool (low uns L).isSome]) ∧ Below W.heap.size W W' := ⟨_, rfl⟩
  rw [← hR]
  have FIN := hide (show ∀ j, R (.returned (.tuple #[.int .i64 (lowI (low uns L)), .bool (low uns L).isSome])) (W.drewN j) from fun j => by rw [hR]; exact ⟨rfl, drewN_below W j⟩)
  clear hR
  have H := hide h
  obtain ⟨ov, cap0, rfl⟩ := row_form6 h.row
  have c0 := h.bk.cell 0 _ rfl
  obtain ⟨n, hn⟩ : ∃ n : Nat, L.length = n := ⟨_, rfl⟩
  have HN := hide hn
  rw [hn] at c0
  rw [hn] at hl
  clear h hn
  go_enter Try.func21, Try.ntmps21
  go_wp2_with fail
  go_loopw [4, 5] (fun va vi wr => ∃ (i j : Nat) (a : Int), va = .int .i64 a ∧ vi = .int .i64 (i : Nat) ∧ i ≤ n ∧ wr = W.drewN j ∧ Hid (AtV L uns i a)) (fun _ vi _ => n - (zi vi).toNat)
  case atStart => exact ⟨0, 0, -1, rfl, rfl, by omega, rfl, hide (AtV.start L uns)⟩
  case round =>
    obtain ⟨i, j, a, rfl, rfl, hi, hw, HA⟩ := hrel
    rw [hw]
    clear hw
    have pi : IntKind.i64.wrap ((i : Int) + 1) = (i : Int) + 1 := by rw [IntKind.wrap_i64]; omega
    by_cases c : i < n
    · have d : decide ((i : Int) < (n : Int)) = true := decide_eq_true (by omega)
      have d' : decide (i < n) = true := decide_eq_true c
      obtain ⟨x, hx⟩ : ∃ x, L[i]? = some x := ⟨_, List.getElem?_eq_getElem (by rw [HN.out]; exact c)⟩
      obtain ⟨g, cap, ev, x0, x1, x2, x3, x4, x5, _, _⟩ := H.out.at hx
      rw [HN.out] at ev
      obtain ⟨rfl, rfl⟩ : ov = some ⟨g, 0, none⟩ ∧ cap0 = cap := by simpa using ev
      have i0 : 0 ≤ (i : Int) := by omega
      have i1 : (i : Int) < (n : Int) := by omega
      have HX := hide hx
      cases es : x.sw with
      | true =>
        have FA := hide (HA.out.skip hx (by unfold uns; rw [es]; rfl))
        rw [es] at x5
        clear ev x0 x1 x2 x3 x4 hx
        go_wp2_with fail
        go_quiet (fail)
        go_wp2_with fail
        exact ⟨⟨i + 1, _, a, rfl, by push_cast; rfl, by omega, rfl, FA⟩, by simp only [zi]; omega⟩
      | false =>
        have fx : uns x = true := by unfold uns; rw [es]; rfl
        rw [es] at x5
        by_cases ca : a < 0
        · have FA := hide (HA.out.first ca hx fx)
          have da : decide (a < 0) = true := decide_eq_true ca
          clear ev x0 x1 x2 x3 x4 hx fx
          go_wp2_with fail
          go_quiet (fail)
          go_wp2_with fail
          exact ⟨⟨i + 1, _, _, rfl, by push_cast; rfl, by omega, rfl, FA⟩, by simp only [zi]; omega⟩
        · have da : decide (a < 0) = false := decide_eq_false ca
          obtain ⟨k, y, hy, hk, rfl⟩ : ∃ (k : Nat) (y : On), L[k]? = some y ∧ k < i ∧ a = (k : Int) := by
            rcases HA.out with ⟨h1, h2⟩ | ⟨k, z, h1, h2, h3, h4⟩
            · omega
            · exact ⟨k, z, h1, h2, h3⟩
          obtain ⟨g', cap', ev', _, y1, _, _, _, _, _, _⟩ := H.out.at hy
          rw [HN.out] at ev'
          obtain ⟨rfl, rfl⟩ : g = g' ∧ cap0 = cap' := by simpa using ev'
          have k0 : 0 ≤ (k : Int) := by omega
          have k1 : (k : Int) < (n : Int) := by omega
          have k2 : k < n := by omega
          have da' : decide ((k : Int) < 0) = false := decide_eq_false (by omega)
          by_cases cb : x.base < y.base
          · have FA := hide (HA.out.lower hy hx fx cb)
            have db : decide ((x.base : Int) < (y.base : Int)) = true := decide_eq_true (by omega)
            have db' : decide (x.base < y.base) = true := decide_eq_true cb
            clear ev ev' x0 x2 x3 x4 hx hy fx
            go_wp2_with fail
            go_quiet (fail)
            go_wp2_with fail
            exact ⟨⟨i + 1, _, _, rfl, by push_cast; rfl, by omega, rfl, FA⟩, by simp only [zi]; omega⟩
          · have FA := hide (HA.out.stays hy hx (by omega))
            have db : decide ((x.base : Int) < (y.base : Int)) = false := decide_eq_false (by omega)
            have db' : decide (x.base < y.base) = false := decide_eq_false cb
            clear ev ev' x0 x2 x3 x4 hx hy fx
            go_wp2_with fail
            go_quiet (fail)
            go_wp2_with fail
            exact ⟨⟨i + 1, _, _, rfl, by push_cast; rfl, by omega, rfl, FA⟩, by simp only [zi]; omega⟩
    · have d : decide ((i : Int) < (n : Int)) = false := decide_eq_false (by omega)
      have d' : decide (i < n) = false := decide_eq_false c
      have e : L.take i = L := List.take_of_length_le (by rw [HN.out]; omega)
      have FF := hide (FIN.out j)
      rcases HA.out with ⟨h1, rfl⟩ | ⟨k, x, h1, h2, rfl, h4⟩
      · rw [e] at h1
        rw [h1] at FF
        rw [show lowI none = 0 from rfl, show (none : Option On).isSome = false from rfl] at FF
        clear e h1
        go_wp2_with fail
        first | exact FF.out | (go_ret; exact FF.out) | exact bodyPost_ret (results_tmp2 Try.results21 _ _ _) rfl FF.out
      · rw [e] at h4
        rw [h4] at FF
        rw [show lowI (some x) = x.id from rfl, show (some x).isSome = true from rfl] at FF
        obtain ⟨g, cap, ev, x0, _, _, _, _, _, _, _⟩ := H.out.at h1
        rw [HN.out] at ev
        obtain ⟨rfl, rfl⟩ : ov = some ⟨g, 0, none⟩ ∧ cap0 = cap := by simpa using ev
        have dk : decide ((k : Int) < 0) = false := decide_eq_false (by omega)
        have k0 : 0 ≤ (k : Int) := by omega
        have k1 : (k : Int) < (n : Int) := by omega
        have k2 : k < n := by omega
        clear e h1 h4 ev
        go_wp2_with fail
        first | exact FF.out | (go_ret; exact FF.out) | exact bodyPost_ret (results_tmp2 Try.results21 _ _ _) rfl FF.out
end
end Go.Proofs.Ytdgjlekndhgjfaa
