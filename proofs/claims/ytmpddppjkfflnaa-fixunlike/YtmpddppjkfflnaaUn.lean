/- FixUnlike: all of it. -/
import Derived.Test.YtmpddppjkfflnaaAw
import Derived.Test.YtmpddppjkfflnaaArg
namespace Go.Proofs.Ytmpddppjkfflnaa
open Go.ChangeShapes Go.WideShapes Go.ChangeAt Go.RowKit Go.Shelf Go.Proofs.Rx Go.Maps
set_option linter.unusedVariables false
set_option linter.unusedSimpArgs false

attribute [local go_sem] Oper.semAt_some

/-! ### Plain -/
theorem lv_eq {L L' : List Bool} {x : Int} (h : 1 ≤ x → L'[x.toNat - 1]? = L[x.toNat - 1]?) : lv L' x = lv L x := by
  unfold lv
  by_cases c : 1 ≤ x
  · rw [List.getD_eq_getElem?_getD, List.getD_eq_getElem?_getD, h c]
  · rw [decide_eq_false c]; rfl
theorem lv_true {L : List Bool} {x : Int} (h0 : 1 ≤ x) (h : L[x.toNat - 1]? = some true) : lv L x = true := by
  unfold lv
  rw [List.getD_eq_getElem?_getD, h, decide_eq_true h0]
  rfl
theorem lv_false {L : List Bool} {x : Int} (h : L[x.toNat - 1]? = some false) : lv L x = false := by
  unfold lv
  rw [List.getD_eq_getElem?_getD, h]
  simp
theorem lv_fresh {L : List Bool} {B : List Nat} (h : Ok L B) : lv L (takeI L B) = false := by
  cases B with
  | nil => exact lv_out (.inr (by simp only [takeI]; omega))
  | cons i B =>
    have := ((h.me i).1 (by simp)).2
    exact lv_false (by unfold takeI; rw [Int.toNat_natCast]; exact this)
theorem takeI_pos {L : List Bool} {B : List Nat} (h : Ok L B) : 1 ≤ takeI L B ∧ takeI L B ≤ (takeL L B).length ∧ takeI L B ≤ (L.length : Int) + 1 := by
  cases B with
  | nil => unfold takeI takeL; simp; omega
  | cons i B =>
    obtain ⟨b1, b2⟩ := h.bound (i := i) (by simp)
    simp only [takeI, takeL]
    rw [List.length_set]
    omega
theorem lv_take {L : List Bool} {B : List Nat} (h : Ok L B) (x : Int) : lv (takeL L B) x = if x = takeI L B then true else lv L x := by
  cases B with
  | nil =>
    unfold takeL takeI
    by_cases c : x = (L.length : Int) + 1
    · rw [if_pos c]
      refine lv_true (by omega) ?_
      rw [List.getElem?_append_right (by omega), show x.toNat - 1 - L.length = 0 by omega]
      rfl
    · rw [if_neg c]
      by_cases d : (L.length : Int) < x
      · rw [lv_out (.inr d), lv_out (.inr (by simp; omega))]
      · exact lv_eq (fun hx => List.getElem?_append_left (by omega))
  | cons i B =>
    obtain ⟨b1, b2⟩ := h.bound (i := i) (by simp)
    unfold takeL takeI
    by_cases c : x = (i : Int)
    · rw [if_pos c]
      refine lv_true (by omega) ?_
      rw [c, Int.toNat_natCast, List.getElem?_set_self (by omega)]
    · rw [if_neg c]
      exact lv_eq (fun hx => List.getElem?_set_ne (by omega))
theorem lv_give (L : List Bool) (i x : Int) : lv (giveL L i) x = if x = i then false else lv L x := by
  unfold giveL
  by_cases c : lv L i = true
  · rw [if_pos c]
    have ll := lv_le c
    by_cases d : x = i
    · rw [if_pos d, d]
      exact lv_false (by rw [List.getElem?_set_self (by omega)])
    · rw [if_neg d]
      exact lv_eq (fun hx => List.getElem?_set_ne (by omega))
  · rw [if_neg c]
    by_cases d : x = i
    · rw [if_pos d, d]; simpa using c
    · rw [if_neg d]
/-! ### A set of numbers, as a map of truths -/
theorem keyI : Keyed Try.prog 3 := int_keyed Try.underlying3
def key (x : Int) : Lit := .int .i64 x
theorem key_of (x : Int) (h0 : -9223372036854775808 ≤ x) (h1 : x ≤ 9223372036854775807) : keyOf Try.prog 3 (.int .i64 x) = some (key x) := keyOf_int_mk Try.underlying3 (WalkArith.wf_i64 ⟨h0, h1⟩)
theorem key_inj {p q : Int} (h : key p = key q) : p = q := by simpa [key] using h
theorem key_lit (p : Int) : WideAt.IsKeyLit (key p) := trivial
def bEl : Value → Option (DataW Unit × List MemPlace)
  | .bool x => some (.lit (.bool x), [])
  | _ => none
theorem bEl_back {v : Value} {x : Bool} {ps : List MemPlace} (h : bEl v = some (.lit (.bool x), ps)) : v = .bool x := by
  unfold bEl at h
  split at h
  · simp at h; rw [h.1]
  · cases h
theorem bEl_inv (v : Value) (y : DataW Unit × List MemPlace) (h : bEl v = some y) : ∃ c : Bool, v = .bool c := by
  unfold bEl at h
  split at h
  · exact ⟨_, rfl⟩
  · cases h
theorem zeroBo (w : World) : (zeroValue 4).run Try.prog w = .ok (.bool false) w := by kernel_rfl
theorem tyBo : Try.prog.underlying 48 = some (.map 3 4) := by kernel_rfl
def SetD (S : Int → Bool) (D : DataW Unit) : Prop := ∀ p, -9223372036854775808 ≤ p → p ≤ 9223372036854775807 → has D (key p) = S p ∧ D.atKey (key p) (.lit (.bool false)) = .lit (.bool (S p))
def SetI (w : World) (b : Nat) (S : Int → Bool) (c : Nat) : Prop :=
  ∃ n D, w.ownsMap Try.prog 3 bEl b n D ∧ n ≤ 100000 ∧ Maps.size D = c ∧ SetD S D
section
variable {w w' : World} {b c : Nat} {S : Int → Bool}
theorem SetI.lt (h : SetI w b S c) : b < w.heap.size := by obtain ⟨n, D, h, _⟩ := h; exact h.lt
theorem SetI.same (h : SetI w b S c) (hb : w'.heap[b]? = w.heap[b]?) : SetI w' b S c := by
  obtain ⟨n, D, ⟨es, clock, h1, h2⟩, r⟩ := h
  exact ⟨n, D, ⟨es, clock, hb.trans h1, h2⟩, r⟩
theorem SetI.made (w : World) : SetI (w.alloc (.map #[] 0)) w.heap.size (fun _ => false) 0 :=
  ⟨0, _, World.ownsMap_made w Try.prog 3 bEl, by decide, rfl, fun _ _ _ => ⟨rfl, rfl⟩⟩
theorem SetI.look (h : SetI w b S c) (p : Int) (h0 : -9223372036854775808 ≤ p) (h1 : p ≤ 9223372036854775807) :
    (Instr.lookup 48 (.map (some b)) (.int .i64 p) false).run Try.prog w = .ok (.bool (S p)) w := by
  obtain ⟨n, D, hD, _, _, hM⟩ := h
  obtain ⟨v, ps, hrun, hv⟩ := hD.lookup keyI tyBo (zeroBo w) (zd := .lit (.bool false)) (zp := []) rfl (key_of p h0 h1)
  rw [(hM p h0 h1).2] at hv
  rw [hrun, bEl_back hv]
theorem SetI.len (h : SetI w b S c) (ty : TypeId) : (Builtin.len_ #[48] ty #[.map (some b)]).run Try.prog w = .ok (.int .i64 (c : Nat)) w := by
  obtain ⟨n, D, hD, _, hs, _⟩ := h
  rw [hD.len tyBo ty, hs]
theorem SetI.put (h : SetI w b S c) (hc : c < 100000) (p : Int) (h0 : -9223372036854775808 ≤ p) (h1 : p ≤ 9223372036854775807) (hS : S p = false) :
    ∃ w', (Instr.mapUpdate 48 (.map (some b)) (.int .i64 p) (.bool true)).run Try.prog w = .ok () w' ∧ SetI w' b (fun q => if q = p then true else S q) (c + 1) ∧ Kept (fun x => x = b) w w' := by
  obtain ⟨n, D, hD, hn, hs, hM⟩ := h
  have hn3 : n < maxLen := Nat.lt_of_le_of_lt hn (by decide)
  obtain ⟨w', hrun, g1, g2⟩ := hD.update keyI tyBo hn3 (key_of p h0 h1) (val := .bool true) (d := .lit (.bool true)) (ps := []) rfl
  have e0 : Maps.size (D.put (key p) (.lit (.bool true))) = c + 1 := by rw [size_put (hD.tidy keyI), (hM p h0 h1).1, hS, if_neg (by decide), hs]
  refine ⟨w', hrun, ⟨c + 1, _, ?_, by omega, e0, fun q q0 q1 => ?_⟩, Kept.of_grown g2 (fun k e => (Option.some.inj e).symm)⟩
  · obtain ⟨es, clock, e1, e2, e3, e4⟩ := g1
    refine ⟨es, clock, e1, e2, ?_, e4⟩
    rw [← e0, e4, size_eq, length_sorted]
    simp
  · by_cases z : q = p
    · subst z
      simp only [if_true]
      exact ⟨has_put_same hD.isMap (key_lit _) _, atKey_put_same hD.isMap (key_lit _) _ _⟩
    · simp only [if_neg z]
      have hne : key q ≠ key p := fun u => z (key_inj u)
      exact ⟨(has_put_other hne _).trans (hM q q0 q1).1, (atKey_put_other hne _ _).trans (hM q q0 q1).2⟩
theorem SetI.del (h : SetI w b S c) (ty : TypeId) (p : Int) (h0 : -9223372036854775808 ≤ p) (h1 : p ≤ 9223372036854775807) :
    ∃ w', (Builtin.delete_ #[48, 3] ty #[.map (some b), .int .i64 p]).run Try.prog w = .ok (.tuple #[]) w' ∧ SetI w' b (fun q => if q = p then false else S q) (if S p then c - 1 else c) ∧ Kept (fun x => x = b) w w' := by
  obtain ⟨n, D, hD, hn, hs, hM⟩ := h
  obtain ⟨w', hrun, g1, g2⟩ := hD.drop keyI tyBo (key_of p h0 h1) ty
  have e0 := size_del (k := key p) (hD.tidy keyI)
  rw [(hM p h0 h1).1, hs] at e0
  refine ⟨w', hrun, ⟨n, _, g1, hn, ?_, fun q q0 q1 => ?_⟩, Kept.of_grown g2.grown (fun k e => (Option.some.inj e).symm)⟩
  · split
    · rename_i z; rw [if_pos z] at e0; omega
    · rename_i z; rw [if_neg z] at e0; omega
  · by_cases z : q = p
    · subst z
      simp only [if_true]
      exact ⟨has_del_same, atKey_del_same _⟩
    · simp only [if_neg z]
      have hne : key q ≠ key p := fun u => z (key_inj u)
      exact ⟨(has_del_other hne).trans (hM q q0 q1).1, (atKey_del_other hne _).trans (hM q q0 q1).2⟩
end
/-- A law's store of records beside its set of those that are out. -/
structure FU (N : Nat) (w W : World) (fb ob : Nat) (L : List Bool) (B : List Nat) (S : Int → Bool) (c : Nat) : Prop where
  ex : ∃ F, Fx N W fb F 163 L B ∧ ¬ F ob
  st : SetI W ob S c
  x : N ≤ ob
  be : Below N w W
  nw : N ≤ W.heap.size
section
variable {N : Nat} {w W W' : World} {fb ob : Nat} {L : List Bool} {B : List Nat} {S : Int → Bool} {c : Nat}
theorem FU.ok (h : FU N w W fb ob L B S c) : Ok L B := by obtain ⟨F, f, n⟩ := h.ex; exact f.ok
theorem FU.read (h : FU N w W fb ob L B S c) (k : Below W.heap.size W W') : FU N w W' fb ob L B S c := by
  obtain ⟨F, f, n⟩ := h.ex
  exact ⟨⟨F, f.below k, n⟩, h.st.same (k.block _ h.st.lt), h.x, h.be.trans (k.mono h.nw), Nat.le_trans h.nw k.size⟩
theorem FU.fix {F F' : Nat → Prop} (h : FU N w W fb ob L B S c) (f : Fx N W fb F 163 L B) (n : ¬ F ob) {L' : List Bool} {B' : List Nat} (f' : Fx N W' fb F' 163 L' B') (t : To W W' F F') : FU N w W' fb ob L' B' S c := by
  have hb := h.st.lt
  refine ⟨⟨F', f', fun z => ?_⟩, h.st.same (t.1.block _ hb n), h.x, h.be.trans (t.1.below h.nw (fun z hz => (f.lt hz).1)), Nat.le_trans h.nw t.1.size⟩
  rcases t.2 ob z with u | u
  · exact n u
  · omega
theorem FU.map (h : FU N w W fb ob L B S c) {S' : Int → Bool} {c' : Nat} (st : SetI W' ob S' c') (k : Kept (fun x => x = ob) W W') : FU N w W' fb ob L B S' c' := by
  obtain ⟨F, f, n⟩ := h.ex
  exact ⟨⟨F, f.kept k (fun z hz e => n (e ▸ hz)), n⟩, st, h.x, h.be.trans (k.below h.nw (fun z hz => by rw [hz]; exact h.x)), Nat.le_trans h.nw k.size⟩
theorem fu_take (h : FU N w W fb ob L B S c) (hL : L.length < 100000) :
    Calls Try.prog 14 #[.pointer (some ⟨fb, 0, none⟩)] W fun e W' => e = .returned (.int .i64 (takeI L B)) ∧ FU N w W' fb ob (takeL L B) B.tail S c := by
  obtain ⟨F, f, n⟩ := h.ex
  refine (fx_take f h.nw hL).mono ?_
  rintro e W' ⟨rfl, F', f', t⟩
  exact ⟨rfl, h.fix f n f' t⟩
theorem fu_give (h : FU N w W fb ob L B S c) (hL : L.length ≤ 100000) (i : Int) (h0 : -9223372036854775808 ≤ i) :
    Calls Try.prog 16 #[.pointer (some ⟨fb, 0, none⟩), .int .i64 i] W fun e W' => e = .returned (.int .i64 (giveE L i)) ∧ FU N w W' fb ob (giveL L i) (giveB L B i) S c := by
  obtain ⟨F, f, n⟩ := h.ex
  refine (fx_give f h.nw hL i h0).mono ?_
  rintro e W' ⟨rfl, F', f', t⟩
  exact ⟨rfl, h.fix f n f' t⟩
theorem fu_count (h : FU N w W fb ob L B S c) : Calls Try.prog 20 #[.pointer (some ⟨fb, 0, none⟩)] W fun e W' => e = .returned (.int .i64 ((L.length : Int) - B.length)) ∧ W' = W := by
  obtain ⟨F, f, n⟩ := h.ex
  exact fx_count f
theorem fu_live (h : FU N w W fb ob L B S c) (hL : L.length ≤ 100000) (i : Int) (h0 : -9223372036854775808 ≤ i) :
    Calls Try.prog 18 #[.pointer (some ⟨fb, 0, none⟩), .int .i64 i] W fun e W' => e = .returned (.bool (lv L i)) ∧ W' = W := by
  obtain ⟨F, f, n⟩ := h.ex
  exact fx_live f hL i h0
theorem fu_bytes (h : FU N w W fb ob L B S c) (hL : L.length ≤ 100000) : Calls Try.prog 22 #[.pointer (some ⟨fb, 0, none⟩)] W fun e W' => e = .returned (.int .i64 (byV L.length 163)) ∧ ∃ j, W' = W.drewN j := by
  obtain ⟨F, f, n⟩ := h.ex
  exact fx_bytes f hL
end
/-- A law's store of records, while a map is gone through whose walk lies in block r. -/
structure FW (N : Nat) (w W : World) (fb : Nat) (L : List Bool) (B : List Nat) (r : Nat) : Prop where
  ex : ∃ F, Fx N W fb F 163 L B ∧ ¬ F r
  be : Below N w W
  nw : N ≤ W.heap.size
  x : N ≤ r
theorem FW.next {N : Nat} {w W W' : World} {fb : Nat} {L : List Bool} {B : List Nat} {r : Nat} (h : FW N w W fb L B r) (k : Kept (fun z => z = r) W W') : FW N w W' fb L B r := by
  obtain ⟨F, f, n⟩ := h.ex
  exact ⟨⟨F, f.kept k (fun z hz e => n (e ▸ hz)), n⟩, h.be.trans (k.below h.nw (fun z hz => by rw [hz]; exact h.x)), Nat.le_trans h.nw k.size, h.x⟩
set_option maxRecDepth 100000 in
set_option maxHeartbeats 4000000 in
theorem unlike_in (o0 : Option Addr) (l0 c0 : Nat) (w : World) (X : Nat → Int) (hX : IntsAt w o0 l0 c0 X) (m0 : l0 ≤ maxLen) :
    Calls Try.prog 4 #[.slice o0 l0 c0] w fun e w' => e = .returned (.bool true) ∧ Below w.heap.size w w' := by
  obtain ⟨R, hR⟩ : ∃ R : Ending → World → Prop, R = fun e w' => e = .returned (.bool true) ∧ Below w.heap.size w w' := ⟨_, rfl⟩
  rw [← hR]
  have FIN := hide (show ∀ W, Below w.heap.size w W → R (.returned (.bool true)) W from fun W h => by rw [hR]; exact ⟨rfl, h⟩)
  clear hR
  have ML := hide m0
  clear m0
  by_cases c1 : 400 < l0
  · have d1 : decide ((400 : Int) < (l0 : Int)) = true := decide_eq_true (by omega)
    go_enter Try.func4, Try.ntmps4
    go_wp2_with fail
    have F := FIN.out w (Below.refl _ w)
    first | exact F | (go_ret; exact F)
  have d1 : decide ((400 : Int) < (l0 : Int)) = false := decide_eq_false (by omega)
  have CN := hide (fx_new (N := w.heap.size) (W := w) (Nat.le_refl _) 100 (by omega) (by omega))
  rw [show (16384 / 100 : Int) = 163 from by decide] at CN
  go_enter Try.func4, Try.ntmps4
  go_wp2_with fail
  refine CN.out.mono ?_
  rintro e w1 ⟨fb, rfl, b1, F, f1, nF⟩
  have P1 := hide (show FU w.heap.size w (w1.alloc (.map #[] 0)) fb w1.heap.size [] [] (lv []) 0 from by
    have bl := below_alloc w1 (.map #[] 0)
    refine ⟨⟨F, f1.below bl, fun z => by have := (f1.lt z).2; omega⟩, ?_, b1.size, b1.trans (bl.mono b1.size), Nat.le_trans b1.size bl.size⟩
    rw [show lv [] = fun _ => false from funext fun x => by simp [lv]]
    exact SetI.made w1)
  have mk : ∀ (t : TypeId) (w : World), (Instr.makeMap t none).run Try.prog w = .ok (.map (some w.heap.size)) (w.alloc (.map #[] 0)) := fun t w => run_makeMap t w
  clear CN b1 f1 nF F d1
  go_wp2_with fail
  obtain ⟨w2, hw2⟩ : ∃ w2, w1.alloc (.map #[] 0) = w2 := ⟨_, rfl⟩
  obtain ⟨ob, hob⟩ : ∃ ob, w1.heap.size = ob := ⟨_, rfl⟩
  rw [hw2, hob] at P1
  simp only [hw2, hob]
  clear hw2 hob mk
  have hl : l0 ≤ 400 := by omega
  go_loopw [6, 7] (fun vt vi wr => ∃ (i : Nat) (L : List Bool) (B : List Nat), vt = .int .i64 (L.length : Nat) ∧ vi = .int .i64 (i : Nat) ∧ i ≤ l0 ∧ L.length ≤ i ∧ Hid (FU w.heap.size w wr fb ob L B (lv L) (L.length - B.length))) (fun vt vi _ => l0 - (zi vi).toNat)
  case atStart => exact ⟨0, [], [], rfl, rfl, by omega, by simp, P1⟩
  case round =>
    clear P1
    obtain ⟨i, L, B, rfl, rfl, hi, hLi, HP⟩ := hrel
    have le := HP.out.ok.le
    by_cases c : i < l0
    · have d : decide ((i : Int) < (l0 : Int)) = true := decide_eq_true (by omega)
      obtain ⟨b0, f0, rfl, hb0, hc0⟩ := hX.at c
      have e0 : wr.cell? ⟨b0, f0 + i, none⟩ = some (.int .i64 (X i)) := (HP.out.be.cell (p := ⟨b0, f0 + i, none⟩) hb0).trans (hc0 i c)
      have s0 := hX.lo i
      have s1 := hX.hi i
      generalize X i = s at *
      have i9 : (i : Int) < 400 := by omega
      have i0 : 0 ≤ (i : Int) := by omega
      have pw : IntKind.i64.wrap ((i : Int) + 1) = (i : Int) + 1 := by rw [IntKind.wrap_i64]; omega
      clear hc0 hb0 hX
      by_cases cs : 0 < s
      · have ds : decide (0 < s) = true := decide_eq_true cs
        have CG := hide (fu_give HP.out (by omega) s s0)
        have GL := hide (giveL_len L s)
        have NX := hide (show ∀ W, FU w.heap.size w W fb ob (giveL L s) (giveB L B s) (lv L) (L.length - B.length) → ∃ W', (Builtin.delete_ #[48, 3] 0 #[.map (some ob), .int .i64 s]).run Try.prog W = .ok (.tuple #[]) W' ∧ FU w.heap.size w W' fb ob (giveL L s) (giveB L B s) (lv (giveL L s)) ((giveL L s).length - (giveB L B s).length) from fun W h => by
          obtain ⟨W', r1, r2, r3⟩ := h.st.del 0 s s0 s1
          refine ⟨W', r1, ?_⟩
          have e1 : (fun q => if q = s then false else lv L q) = lv (giveL L s) := funext fun q => (lv_give L s q).symm
          have e2 : (if lv L s then L.length - B.length - 1 else L.length - B.length) = (giveL L s).length - (giveB L B s).length := by
            rw [giveL_len]
            unfold giveB
            by_cases z : lv L s = true
            · rw [if_pos z, if_pos z, List.length_cons]; omega
            · rw [if_neg z, if_neg z]
          rw [e1, e2] at r2
          exact h.map r2 r3)
        by_cases z : lv L s = true
        · rw [show giveE L s = 0 from if_pos z] at CG
          have LK := hide (show ∀ W, FU w.heap.size w W fb ob (giveL L s) (giveB L B s) (lv L) (L.length - B.length) → (Instr.lookup 48 (.map (some ob)) (.int .i64 s) false).run Try.prog W = .ok (.bool (lv L s)) W from fun W h => h.st.look s s0 s1)
          rw [show lv L s = true from by simpa using z] at LK
          have LE := hide (show (giveB L B s).length ≤ (giveL L s).length from (HP.out.ok.give s).le)
          generalize giveL L s = L' at *
          generalize giveB L B s = B' at *
          clear HP z
          go_wp2_with fail
          refine CG.out.mono ?_
          rintro e W5 ⟨rfl, p5⟩
          have r0 := LK.out W5 p5
          obtain ⟨W6, r1, p6⟩ := NX.out W5 p5
          have P6 := hide p6
          have CC := hide (fu_count p6)
          have LN := p6.st.len 3
          rw [show ((L'.length : Int) - (B'.length : Nat)) = ((L'.length - B'.length : Nat) : Int) from by have := LE.out; omega] at CC
          obtain ⟨cc, hcc⟩ : ∃ cc : Nat, L'.length - B'.length = cc := ⟨_, rfl⟩
          have HCC := hide hcc
          rw [hcc] at CC P6 LN
          clear hcc
          clear NX LK p5 p6 CG
          go_wp2_with fail
          refine CC.out.mono ?_
          rintro e W7 ⟨rfl, hw⟩
          rw [hw]
          clear hw CC
          go_wp2_with fail
          exact ⟨⟨i + 1, L', B', by rw [GL.out], by push_cast; rfl, by omega, by rw [GL.out]; omega, by rw [HCC.out]; exact P6⟩, by simp [zi]; omega⟩
        · rw [show giveE L s = 31 from if_neg z] at CG
          have LK := hide (show ∀ W, FU w.heap.size w W fb ob (giveL L s) (giveB L B s) (lv L) (L.length - B.length) → (Instr.lookup 48 (.map (some ob)) (.int .i64 s) false).run Try.prog W = .ok (.bool (lv L s)) W from fun W h => h.st.look s s0 s1)
          rw [show lv L s = false from by simpa using z] at LK
          have LE := hide (show (giveB L B s).length ≤ (giveL L s).length from (HP.out.ok.give s).le)
          generalize giveL L s = L' at *
          generalize giveB L B s = B' at *
          clear HP z
          go_wp2_with fail
          refine CG.out.mono ?_
          rintro e W5 ⟨rfl, p5⟩
          have r0 := LK.out W5 p5
          obtain ⟨W6, r1, p6⟩ := NX.out W5 p5
          have P6 := hide p6
          have CC := hide (fu_count p6)
          have LN := p6.st.len 3
          rw [show ((L'.length : Int) - (B'.length : Nat)) = ((L'.length - B'.length : Nat) : Int) from by have := LE.out; omega] at CC
          obtain ⟨cc, hcc⟩ : ∃ cc : Nat, L'.length - B'.length = cc := ⟨_, rfl⟩
          have HCC := hide hcc
          rw [hcc] at CC P6 LN
          clear hcc
          clear NX LK p5 p6 CG
          go_wp2_with fail
          refine CC.out.mono ?_
          rintro e W7 ⟨rfl, hw⟩
          rw [hw]
          clear hw CC
          go_wp2_with fail
          exact ⟨⟨i + 1, L', B', by rw [GL.out], by push_cast; rfl, by omega, by rw [GL.out]; omega, by rw [HCC.out]; exact P6⟩, by simp [zi]; omega⟩
      · have ds : decide (0 < s) = false := decide_eq_false cs
        have CT := hide (fu_take HP.out (by omega))
        have fr := lv_fresh HP.out.ok
        obtain ⟨p1, p2, p3⟩ := takeI_pos HP.out.ok
        have NX := hide (show ∀ W, FU w.heap.size w W fb ob (takeL L B) B.tail (lv L) (L.length - B.length) → (Instr.lookup 48 (.map (some ob)) (.int .i64 (takeI L B)) false).run Try.prog W = .ok (.bool false) W ∧ ∃ W', (Instr.mapUpdate 48 (.map (some ob)) (.int .i64 (takeI L B)) (.bool true)).run Try.prog W = .ok () W' ∧ FU w.heap.size w W' fb ob (takeL L B) B.tail (lv (takeL L B)) ((takeL L B).length - B.tail.length) ∧ (Builtin.len_ #[48] 3 #[.map (some ob)]).run Try.prog W' = .ok (.int .i64 ((L.length - B.length + 1 : Nat) : Int)) W' from fun W h => by
          have r0 := h.st.look (takeI L B) (by omega) (by omega)
          rw [fr] at r0
          obtain ⟨W', r1, r2, r3⟩ := h.st.put (by omega) (takeI L B) (by omega) (by omega) fr
          refine ⟨r0, W', r1, ?_, r2.len _⟩
          have e1 : (fun q => if q = takeI L B then true else lv L q) = lv (takeL L B) := funext fun q => (lv_take HP.out.ok q).symm
          have e2 : L.length - B.length + 1 = (takeL L B).length - B.tail.length := by
            cases B with
            | nil => simp [takeL]
            | cons i B => simp [takeL]; simp at le; omega
          rw [e1, e2] at r2
          exact h.map r2 r3)
        have t1 : decide (takeI L B < 1) = false := decide_eq_false (by omega)
        have CQ := hide (show ((takeL L B).length : Int) - (B.tail.length : Nat) = ((L.length - B.length + 1 : Nat) : Int) from by
          cases B with
          | nil => simp [takeL]
          | cons i B => simp [takeL]; simp at le; omega)
        have TOP := hide (show (B = [] ∧ (takeL L B).length = L.length + 1 ∧ L.length - B.length + 1 = L.length + 1) ∨ ((takeL L B).length = L.length ∧ L.length - B.length + 1 ≤ L.length) from by
          cases B with
          | nil => simp [takeL]
          | cons i B => right; simp [takeL]; simp at le; omega)
        generalize takeI L B = q at *
        generalize takeL L B = L' at *
        generalize B.tail = B' at *
        generalize hm : L.length = m at *
        obtain ⟨cc, hcc⟩ : ∃ cc : Nat, m - B.length + 1 = cc := ⟨_, rfl⟩
        rw [hcc] at NX CQ TOP
        clear HP fr
        go_wp2_with fail
        refine CT.out.mono ?_
        rintro e W5 ⟨rfl, p5⟩
        obtain ⟨r0, W6, r1, p6, r2⟩ := NX.out W5 p5
        have P6 := hide p6
        have CC := hide (fu_count p6)
        rw [CQ.out] at CC
        clear NX p5 p6 CT
        rcases TOP.out with ⟨hB, g1, g2⟩ | ⟨g1, g2⟩
        · have t2 : decide ((m : Int) < (cc : Int)) = true := decide_eq_true (by omega)
          have t3 : decide ((cc : Int) < q) = false := decide_eq_false (by omega)
          clear TOP hB
          have G1 := hide g1
          clear g1
          go_wp2_with fail
          refine CC.out.mono ?_
          rintro e W7 ⟨rfl, hw⟩
          rw [hw]
          clear hw CC
          go_wp2_with fail
          exact ⟨⟨i + 1, L', B', by rw [G1.out]; push_cast; rfl, by push_cast; rfl, by omega, by rw [G1.out]; omega, P6⟩, by simp [zi]; omega⟩
        · have t2 : decide ((m : Int) < (cc : Int)) = false := decide_eq_false (by omega)
          have t3 : decide ((m : Int) < q) = false := decide_eq_false (by omega)
          clear TOP
          have G1 := hide g1
          clear g1
          go_wp2_with fail
          refine CC.out.mono ?_
          rintro e W7 ⟨rfl, hw⟩
          rw [hw]
          clear hw CC
          go_wp2_with fail
          exact ⟨⟨i + 1, L', B', by rw [G1.out], by push_cast; rfl, by omega, by rw [G1.out]; omega, P6⟩, by simp [zi]; omega⟩
    · have d : decide ((i : Int) < (l0 : Int)) = false := decide_eq_false (by omega)
      obtain ⟨n, D, hown, hn, hsz, hM⟩ := HP.out.st
      have HM := hide hM
      have FQ := hide (show FW w.heap.size w wr fb L B wr.heap.size from by
        obtain ⟨F, f, nf⟩ := HP.out.ex
        exact ⟨⟨F, f, fun z => by have := (f.lt z).2; omega⟩, HP.out.be, HP.out.nw, HP.out.nw⟩)
      clear HP hX hM hsz hn
      go_wp2_with (first
        | (at_range; refine wpList_range_own _ rfl _ 48 rfl 3 4 keyI Try.underlying48 bEl ob n _ rfl hown ?_; intro w0 hrg0 hg0 hs0)
        | go_in)
      go_frame
      have K0 : Kept (fun z => z = wr.heap.size) wr w0 := Kept.of_grown hg0 (fun k e => by cases e)
      replace FQ := hide (FQ.out.next K0)
      obtain ⟨r, hr⟩ : ∃ r, wr.heap.size = r := ⟨_, rfl⟩
      rw [hr] at FQ hrg0
      simp only [hr]
      have lL : (L.length : Int) ≤ 400 := by omega
      clear K0 hg0 hs0 hown hr
      go_loopw [10] (fun _ wq => ∃ (left : Lit → Bool) (cnt : Nat), wq.ranges Try.prog 3 bEl ob r n D left cnt ∧ Hid (∀ kl, left kl = true → has D kl = true) ∧ Hid (FW w.heap.size w wq fb L B r)) (fun _ wq => wq.rangeLeft ob r)
      case atStart => exact ⟨_, _, hrg0, hide (fun _ h => h), FQ⟩
      case round =>
        clear FQ hrg0
        obtain ⟨left, cnt, hrg, HL, FQ⟩ := hrel
        go_wp2_with (first
          | (at_next; refine wpList_next_ranges _ rfl _ rfl 3 keyI bEl (Value.int .i64) (fun v : Value => v) (fun key _ hkey => by obtain ⟨x, rfl, _⟩ := Maps.keyOf_int_inv Try.underlying3 hkey; exact ⟨x, rfl⟩) (fun v _ _ => ⟨v, rfl⟩) ob r n _ _ _ rfl hrg ?_ ?_)
          | go_in)
        · intro _ hl0
          have CB := hide (show Calls Try.prog 22 #[.pointer (some ⟨fb, 0, none⟩)] wr (fun e W' => e = .returned (.int .i64 (byV L.length 163)) ∧ ∃ j, W' = wr.drewN j) from by
            obtain ⟨F, f, nf⟩ := FQ.out.ex
            exact fx_bytes f (by omega))
          have q1 : IntKind.i64.wrap ((L.length : Int) + 162) = (L.length : Int) + 162 := by rw [IntKind.wrap_i64]; omega
          have q0 : ((L.length : Int) + 162).tdiv 163 = ((L.length : Int) + 162) / 163 := Int.tdiv_eq_ediv_of_nonneg (by omega)
          have eB : byV L.length 163 = ((L.length : Int) + 162) / 163 * 16384 := by unfold byV; rw [show (L.length : Int) + 163 - 1 = (L.length : Int) + 162 by omega]
          rw [eB] at CB
          clear hl0 hrg eB
          have BE := hide (And.intro FQ.out.be FQ.out.nw)
          obtain ⟨Q, hQ⟩ : ∃ Q : Int, ((L.length : Int) + 162) / 163 = Q := ⟨_, rfl⟩
          have Q0 : 0 ≤ Q := by omega
          have Q1 : Q ≤ 10 := by omega
          have q2 : IntKind.i64.wrap Q = Q := by rw [IntKind.wrap_i64]; omega
          have q3 : IntKind.i64.wrap (Q * 16384) = Q * 16384 := by rw [IntKind.wrap_i64]; omega
          rw [hQ] at CB q0
          clear FQ HL hQ
          go_wp2_with fail
          refine CB.out.mono ?_
          rintro e W6 ⟨rfl, j, hw⟩
          have b6 : Below wr.heap.size wr W6 := by rw [hw]; exact below_drewN wr j
          have B6 := hide (BE.out.1.trans (b6.mono BE.out.2))
          have N6 := hide (Nat.le_trans BE.out.2 b6.size)
          have CW := hide (awake_any W6)
          clear hw CB BE b6
          go_wp2_with fail
          refine CW.out.mono ?_
          rintro e W7 ⟨rfl, k7⟩
          have FF := hide (FIN.out W7 (B6.out.trans (k7.mono N6.out)))
          clear CW k7
          go_wp2_with fail
          first | exact FF.out | (go_ret; exact FF.out)
        · intro x v kl yd yp w1 cnt1 hkey hlx hv hat hrg1 hlt hg1 hs1 hen
          obtain ⟨x', ex, rfl, hwx⟩ := Maps.keyOf_int_inv Try.underlying3 hkey
          cases ex
          have hb := bounds_i64 hwx
          have K1 : Kept (fun z => z = r) wr w1 := Kept.of_grown hg1 (fun k e => (Option.some.inj e).symm)
          have F1 := hide (FQ.out.next K1)
          have lt : lv L x = true := by
            have h1 := (HM.out x hb.1 hb.2).1
            rw [← h1]
            exact HL.out _ hlx
          have CL := hide (show Calls Try.prog 18 #[.pointer (some ⟨fb, 0, none⟩), .int .i64 x] w1 (fun e W' => e = .returned (.bool true) ∧ W' = w1) from by
            obtain ⟨F, f, nf⟩ := F1.out.ex
            have := fx_live f (by omega) x hb.1
            rwa [lt] at this)
          have HL2 := hide (show ∀ kl, (fun z : Lit => left z && !z.sameKey (.int .i64 x)) kl = true → has D kl = true from fun kl h => HL.out kl (by simp at h; exact h.1))
          clear K1 hv hat hlx lt FQ hb hkey hwx
          go_wp2_with fail
          refine CL.out.mono ?_
          rintro e W7 ⟨rfl, hw⟩
          rw [hw]
          clear hw CL
          go_wp2_with fail
          go_roundw
          case rel => exact ⟨_, cnt1, hrg1, HL2, F1⟩
          case measure => rw [hrg1.left_eq, hrg.left_eq]; exact hlt
end Go.Proofs.Ytmpddppjkfflnaa
