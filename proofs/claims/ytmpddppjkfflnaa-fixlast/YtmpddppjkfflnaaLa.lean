/- FixLast: all of it. -/
import Derived.Test.YtmpddppjkfflnaaAw
import Derived.Test.YtmpddppjkfflnaaArg
namespace Go.Proofs.Ytmpddppjkfflnaa
open Go.ChangeShapes Go.WideShapes Go.ChangeAt Go.RowKit Go.Shelf Go.Proofs.Rx Go.Maps
set_option linter.unusedVariables false
set_option linter.unusedSimpArgs false

attribute [local go_sem] Oper.semAt_some

def encN (x : Nat) : Int := (x : Int)
/-- A law's store of records beside its list of those that were given back. -/
structure FL (N : Nat) (w W : World) (fb : Nat) (L : List Bool) (B : List Nat) (v : Value) (r : List Nat) : Prop where
  ex : ∃ F, Fx N W fb F 2048 L B ∧ ∀ g, v.ownBlock = some g → ¬ F g
  row : W.ownsRow N 3 1 v r.length ((r.map encN).map encI)
  be : Below N w W
  nw : N ≤ W.heap.size
section
variable {N : Nat} {w W W' : World} {fb : Nat} {L : List Bool} {B : List Nat} {v : Value} {r : List Nat}
theorem FL.read (h : FL N w W fb L B v r) (k : Below W.heap.size W W') : FL N w W' fb L B v r := by
  obtain ⟨F, f, n⟩ := h.ex
  exact ⟨⟨F, f.below k, n⟩, owns_kept h.row (Kept.of_below (F := fun _ => False) k) (fun _ _ f => f), h.be.trans (k.mono h.nw), Nat.le_trans h.nw k.size⟩
theorem FL.fix {F F' : Nat → Prop} (h : FL N w W fb L B v r) (f : Fx N W fb F 2048 L B) (n : ∀ g, v.ownBlock = some g → ¬ F g) {L' : List Bool} {B' : List Nat} (f' : Fx N W' fb F' 2048 L' B') (t : To W W' F F') : FL N w W' fb L' B' v r := by
  refine ⟨⟨F', f', fun g hg z => ?_⟩, owns_kept h.row t.1 n, h.be.trans (t.1.below h.nw (fun z hz => (f.lt hz).1)), Nat.le_trans h.nw t.1.size⟩
  rcases t.2 g z with u | u
  · exact n g hg u
  · have := (own_ge h.row hg).2; omega
theorem fl_take (h : FL N w W fb L B v r) (hL : L.length < 100000) :
    Calls Try.prog 14 #[.pointer (some ⟨fb, 0, none⟩)] W fun e W' => e = .returned (.int .i64 (takeI L B)) ∧ FL N w W' fb (takeL L B) B.tail v r := by
  obtain ⟨F, f, n⟩ := h.ex
  refine (fx_take f h.nw hL).mono ?_
  rintro e W' ⟨rfl, F', f', t⟩
  exact ⟨rfl, h.fix f n f' t⟩
theorem fl_give (h : FL N w W fb L B v r) (hL : L.length ≤ 100000) (i : Int) (h0 : -9223372036854775808 ≤ i) :
    Calls Try.prog 16 #[.pointer (some ⟨fb, 0, none⟩), .int .i64 i] W fun e W' => e = .returned (.int .i64 (giveE L i)) ∧ FL N w W' fb (giveL L i) (giveB L B i) v r := by
  obtain ⟨F, f, n⟩ := h.ex
  refine (fx_give f h.nw hL i h0).mono ?_
  rintro e W' ⟨rfl, F', f', t⟩
  exact ⟨rfl, h.fix f n f' t⟩
theorem fl_count (h : FL N w W fb L B v r) : Calls Try.prog 20 #[.pointer (some ⟨fb, 0, none⟩)] W fun e W' => e = .returned (.int .i64 ((L.length : Int) - B.length)) ∧ W' = W := by
  obtain ⟨F, f, n⟩ := h.ex
  exact fx_count f
theorem FL.push (h : FL N w W fb L B v r) (hk : r.length < 100000) (q : Nat) (ty : TypeId) :
    ∃ g cap Y, (Builtin.append_ #[47, 47] ty #[v, .slice (some ⟨W.heap.size, 0, none⟩) 1 1]).run Try.prog (W.alloc (.cells #[.int .i64 (q : Nat)] 3)) = .ok (.slice (some ⟨g, 0, none⟩) (r.length + 1) cap) Y ∧ FL N w Y fb L B (.slice (some ⟨g, 0, none⟩) (r.length + 1) cap) (r ++ [q]) := by
  have b2 := below_alloc W (.cells #[.int .i64 (q : Nat)] 3)
  have h2 := h.read b2
  have n2 := World.alloc_heap_new W (.cells #[.int .i64 (q : Nat)] 3)
  obtain ⟨g, cap, Y, r1, r2, r3, r4, r5⟩ := ints_more h2.row hk W.heap.size q n2 h2.nw ty
  rw [World.size_alloc] at r4
  obtain ⟨F, f, n⟩ := h2.ex
  obtain ⟨F0, f0, n0⟩ := h.ex
  refine ⟨g, cap, Y, r1, ⟨F0, (f0.below b2).kept r3 (fun z hz u => n0 z u hz), fun z hz u => ?_⟩, ?_, h2.be.trans (r3.below h2.nw (fun z hz => (own_ge h2.row hz).1)), Nat.le_trans h2.nw r3.size⟩
  · rw [← own_eq hz] at u
    rcases r4 with y | y
    · exact n0 g y u
    · have := (f0.lt u).2; omega
  · rw [List.length_append, List.length_singleton, List.map_append]
    exact r2
theorem FL.cell (h : FL N w W fb L B v r) {j : Nat} (hj : j < r.length) : ∃ g cap, v = .slice (some ⟨g, 0, none⟩) r.length cap ∧ W.cell? ⟨g, j, none⟩ = some (.int .i64 (r[j] : Nat)) := by
  obtain ⟨g, cap, e, _, _⟩ := h.row.form (by omega)
  refine ⟨g, cap, e, ?_⟩
  have := h.row
  rw [e] at this
  rw [this.cellAt j (by omega), List.getElem?_map, List.getElem?_map, List.getElem?_eq_getElem hj]
  rfl
end
theorem takeL_rep (k : Nat) : takeL (List.replicate k true) [] = List.replicate (k + 1) true := by
  unfold takeL
  rw [List.replicate_succ']
set_option maxRecDepth 100000 in
set_option maxHeartbeats 4000000 in
theorem last_in (n : Int) (o0 : Option Addr) (l0 c0 : Nat) (w : World) (X : Nat → Int) (hX : IntsAt w o0 l0 c0 X) (m0 : l0 ≤ maxLen) :
    Calls Try.prog 6 #[.int .i64 n, .slice o0 l0 c0] w fun e w' => e = .returned (.bool true) ∧ Below w.heap.size w w' := by
  obtain ⟨R, hR⟩ : ∃ R : Ending → World → Prop, R = fun e w' => e = .returned (.bool true) ∧ Below w.heap.size w w' := ⟨_, rfl⟩
  rw [← hR]
  have FIN := hide (show ∀ W, Below w.heap.size w W → R (.returned (.bool true)) W from fun W h => by rw [hR]; exact ⟨rfl, h⟩)
  clear hR
  have ML := hide m0
  clear m0
  by_cases c1 : n < 0
  · have d1 : decide (n < 0) = true := decide_eq_true c1
    go_enter Try.func6, Try.ntmps6
    go_wp2_with fail
    have F := FIN.out w (Below.refl _ w)
    first | exact F | (go_ret; exact F)
  have d1 : decide (n < 0) = false := decide_eq_false c1
  by_cases c2 : 100 < n
  · have d2 : decide (100 < n) = true := decide_eq_true c2
    go_enter Try.func6, Try.ntmps6
    go_wp2_with fail
    have F := FIN.out w (Below.refl _ w)
    first | exact F | (go_ret; exact F)
  have d2 : decide (100 < n) = false := decide_eq_false c2
  by_cases c3 : 100 < l0
  · have d3 : decide ((100 : Int) < (l0 : Int)) = true := decide_eq_true (by omega)
    go_enter Try.func6, Try.ntmps6
    go_wp2_with fail
    have F := FIN.out w (Below.refl _ w)
    first | exact F | (go_ret; exact F)
  have d3 : decide ((100 : Int) < (l0 : Int)) = false := decide_eq_false (by omega)
  have CN := hide (fx_new (N := w.heap.size) (W := w) (Nat.le_refl _) 8 (by omega) (by omega))
  go_enter Try.func6, Try.ntmps6
  go_wp2_with fail
  refine CN.out.mono ?_
  rintro e w1 ⟨fb, rfl, b1, F, f1, nF⟩
  have P1 := hide (show FL w.heap.size w w1 fb (List.replicate 0 true) [] (.slice none 0 0) [] from ⟨⟨F, f1, fun g hg => by simp [Value.ownBlock] at hg⟩, World.ownsRow_nil _ _ _ _, b1, b1.size⟩)
  obtain ⟨m, rfl⟩ : ∃ m : Nat, n = m := ⟨n.toNat, by omega⟩
  clear CN b1 f1 nF F d1 d2 d3
  have hm : m ≤ 100 := by omega
  have hl : l0 ≤ 100 := by omega
  clear c1 c2 c3
  go_wp2_with fail
  go_loopw [7] (fun vi wr => ∃ k : Nat, vi = .int .i64 ((k : Int) + 1) ∧ k ≤ m ∧ Hid (FL w.heap.size w wr fb (List.replicate k true) [] (.slice none 0 0) [])) (fun vi _ => m + 1 - (zi vi).toNat)
  case atStart => exact ⟨0, rfl, by omega, P1⟩
  case round =>
    clear P1
    obtain ⟨k, rfl, hk, HP⟩ := hrel
    by_cases c : k < m
    · have d : decide ((k : Int) + 1 ≤ (m : Int)) = true := decide_eq_true (by omega)
      have CT := hide (fl_take HP.out (by simp; omega))
      rw [takeL_rep, show takeI (List.replicate k true) [] = (k : Int) + 1 from by simp [takeI]] at CT
      have pw : IntKind.i64.wrap ((k : Int) + 1 + 1) = (k : Int) + 1 + 1 := by rw [IntKind.wrap_i64]; omega
      clear HP
      go_wp2_with fail
      refine CT.out.mono ?_
      rintro e W5 ⟨rfl, p5⟩
      have P5 := hide p5
      clear p5 CT
      go_wp2_with fail
      exact ⟨⟨k + 1, by push_cast; rfl, by omega, P5⟩, by simp [zi]; omega⟩
    · have d : decide ((k : Int) + 1 ≤ (m : Int)) = false := decide_eq_false (by omega)
      obtain rfl : k = m := by omega
      clear hk c
      go_wp2_with fail
      go_loopw [8, 9] (fun vr vi wr => ∃ (i : Nat) (L : List Bool) (r : List Nat), vi = .int .i64 (i : Nat) ∧ i ≤ l0 ∧ r.length ≤ i ∧ L.length = k ∧ Hid (FL w.heap.size w wr fb L r.reverse vr r)) (fun vr vi _ => l0 - (zi vi).toNat)
      case atStart => exact ⟨0, List.replicate k true, [], rfl, by omega, by simp, by simp, HP⟩
      case round =>
        clear HP
        obtain ⟨i, L, r, rfl, hi, hr, hL, HP⟩ := hrel
        by_cases c : i < l0
        · have d : decide ((i : Int) < (l0 : Int)) = true := decide_eq_true (by omega)
          obtain ⟨b0, f0, rfl, hb0, hc0⟩ := hX.at c
          have CEL := hide (show ∀ W, Below w.heap.size w W → W.cell? ⟨b0, f0 + i, none⟩ = some (.int .i64 (X i)) from fun W h => (h.cell (p := ⟨b0, f0 + i, none⟩) hb0).trans (hc0 i c))
          have e0 := CEL.out wr HP.out.be
          have CG := hide (fl_give HP.out (by omega) (X i) (hX.lo i))
          have i9 : (i : Int) < 100 := by omega
          have i0 : 0 ≤ (i : Int) := by omega
          have pw : IntKind.i64.wrap ((i : Int) + 1) = (i : Int) + 1 := by rw [IntKind.wrap_i64]; omega
          by_cases z : lv L (X i) = true
          · have zl := lv_le z
            obtain ⟨q, hq⟩ : ∃ q : Nat, X i = q := ⟨(X i).toNat, by omega⟩
            rw [show giveE L (X i) = 0 from if_pos z] at CG
            have G1 := hide (show (giveL L (X i)).length = k from by rw [giveL_len]; exact hL)
            have G2 := hide (show giveB L r.reverse (X i) = (r ++ [q]).reverse from by unfold giveB; rw [if_pos z, hq]; simp)
            rw [hq] at CG CEL e0 G1 G2
            generalize giveL L (q : Int) = L' at *
            clear hc0 hb0 hX HP z zl
            go_wp2_with fail
            refine CG.out.mono ?_
            rintro e W5 ⟨rfl, p5⟩
            rw [G2.out] at p5
            have e1 := CEL.out W5 p5.be
            obtain ⟨g, cap, Y, r1, p6⟩ := p5.push (by omega) q 47
            have RUN := hide r1
            have P6 := hide p6
            clear CG e0 p5 r1 p6 G2
            go_wp2_with (at_builtin; refine list_append_run (by rfl) (.tmp 54) (.tmp 59) 47 (by rfl) (by rfl) (by rfl) RUN.out ?_)
            exact ⟨⟨i + 1, L', r ++ [q], by push_cast; rfl, by omega, by simp; omega, G1.out, P6⟩, by simp [zi]; omega⟩
          · rw [show giveE L (X i) = 31 from if_neg z, show giveL L (X i) = L from if_neg z, show giveB L r.reverse (X i) = r.reverse from if_neg z] at CG
            generalize X i = s at *
            clear hc0 hb0 hX HP z
            go_wp2_with fail
            refine CG.out.mono ?_
            rintro e W5 ⟨rfl, p5⟩
            have P5 := hide p5
            clear CG p5 e0
            go_wp2_with fail
            exact ⟨⟨i + 1, L, r, by push_cast; rfl, by omega, by omega, hL, P5⟩, by simp [zi]; omega⟩
        · have d : decide ((i : Int) < (l0 : Int)) = false := decide_eq_false (by omega)
          obtain ⟨o, cap, hv⟩ := row_form HP.out.row
          subst hv
          have CC := hide (fl_count HP.out)
          rw [hL, List.length_reverse] at CC
          have le := HP.out.ex.elim (fun F h => h.1.ok.le)
          rw [hL, List.length_reverse] at le
          have pw : IntKind.i64.wrap ((k : Int) - (r.length : Int)) = (k : Int) - (r.length : Int) := by rw [IntKind.wrap_i64]; omega
          have pw1 : IntKind.i64.wrap ((r.length : Int) - 1) = (r.length : Int) - 1 := by rw [IntKind.wrap_i64]; omega
          clear hX
          go_wp2_with fail
          refine CC.out.mono ?_
          rintro e W5 ⟨rfl, hw⟩
          rw [hw]
          clear hw CC
          go_wp2_with fail
          go_loopw [10] (fun vi wr => ∃ (j : Nat) (L : List Bool), vi = .int .i64 ((j : Int) - 1) ∧ j ≤ r.length ∧ L.length = k ∧ Hid (FL w.heap.size w wr fb L (r.take j).reverse (.slice o r.length cap) r)) (fun vi _ => (zi vi + 1).toNat)
          case atStart => exact ⟨r.length, L, rfl, Nat.le_refl _, hL, by rw [List.take_length]; exact HP⟩
          case round =>
            clear HP hL L
            obtain ⟨j, L, rfl, hj, hL, HP⟩ := hrel
            cases j with
            | zero =>
              have CT := hide (fl_take HP.out (by omega))
              rw [show (r.take 0).reverse = [] from rfl, show takeI L [] = (k : Int) + 1 from by unfold takeI; rw [hL]] at CT
              have GL := hide (show (takeL L []).length = k + 1 from by unfold takeL; simp [hL])
              generalize takeL L [] = L' at *
              have pw : IntKind.i64.wrap ((k : Int) + 1) = (k : Int) + 1 := by rw [IntKind.wrap_i64]; omega
              rw [show (((0 : Nat) : Int) - 1) = -1 from rfl]
              clear HP
              go_wp2_with fail
              refine CT.out.mono ?_
              rintro e W5 ⟨rfl, p5⟩
              have P5 := hide p5
              have CC := hide (fl_count p5)
              rw [GL.out, show ((([] : List Nat).tail.length : Nat) : Int) = 0 from rfl, show (((k + 1 : Nat) : Int) - 0) = (k : Int) + 1 by omega] at CC
              have CW := hide (awake_any W5)
              clear CT p5
              go_wp2_with fail
              refine CC.out.mono ?_
              rintro e W6 ⟨rfl, hw⟩
              rw [hw]
              clear hw CC
              go_wp2_with fail
              refine CW.out.mono ?_
              rintro e W7 ⟨rfl, k7⟩
              have FF := hide (FIN.out W7 (P5.out.read k7).be)
              clear CW k7
              go_wp2_with fail
              first | exact FF.out | (go_ret; exact FF.out)
            | succ j =>
              have jl : j < r.length := by omega
              have eT : (r.take (j + 1)).reverse = r[j] :: (r.take j).reverse := by rw [← List.take_append_getElem jl, List.reverse_append]; rfl
              have x9 := hide (HP.out.cell jl)
              have CT := hide (fl_take (HP.out.read (drew_below wr)) (by omega))
              rw [eT, List.tail_cons, show takeI L (r[j] :: (r.take j).reverse) = (r[j] : Nat) from rfl] at CT
              have GL := hide (show (takeL L (r[j] :: (r.take j).reverse)).length = k from by unfold takeL; rw [List.length_set]; exact hL)
              generalize takeL L (r[j] :: (r.take j).reverse) = L' at *
              have CE := hide (fun W (h : FL w.heap.size w W fb L' (r.take j).reverse (.slice o r.length cap) r) => h.cell jl)
              have ro : ∃ g, o = some ⟨g, 0, none⟩ := by
                obtain ⟨g, cap', e, _⟩ := HP.out.cell jl
                simp at e
                exact ⟨g, e.1⟩
              obtain ⟨g, rfl⟩ := ro
              have CE2 := hide (show ∀ W, FL w.heap.size w W fb L' (r.take j).reverse (.slice (some ⟨g, 0, none⟩) r.length cap) r → W.cell? ⟨g, j, none⟩ = some (.int .i64 (r[j] : Nat)) from fun W h => by
                obtain ⟨g', cap', e, x⟩ := h.cell jl
                simp at e
                rw [e.1]
                exact x)
              rw [show (((j + 1 : Nat) : Int) - 1) = (j : Int) by omega]
              have j0 : 0 ≤ (j : Int) := by omega
              have j1 : (j : Int) < (r.length : Int) := by omega
              have pw : IntKind.i64.wrap ((j : Int) - 1) = (j : Int) - 1 := by rw [IntKind.wrap_i64]; omega
              have y0 : wr.cell? ⟨g, j, none⟩ = some (.int .i64 (r[j] : Nat)) := by
                obtain ⟨g', cap', e, x⟩ := x9.out
                simp at e
                rw [e.1]
                exact x
              clear HP CE eT x9
              generalize r[j] = x at *
              go_wp2_with fail
              go_region_held3 (fun w' => w'.cell? ⟨g, j, none⟩ = some (.int .i64 (x : Nat))) (first | (go_keep; done)) (first
                | (go_at_call 14; refine CT.out.mono ?_; rintro e W5 ⟨rfl, p5⟩; have P5 := hide p5; have x0 := CE2.out W5 p5; clear CT p5 CE2 y0))
              go_wp2_with fail
              exact ⟨⟨j, L', rfl, by omega, GL.out, P5⟩, by simp [zi]⟩
end Go.Proofs.Ytmpddppjkfflnaa
