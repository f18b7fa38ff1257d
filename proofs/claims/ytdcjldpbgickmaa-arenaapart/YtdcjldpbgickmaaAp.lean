/- ArenaApart: all of it. -/
import Derived.Test.YtdcjldpbgickmaaPl
namespace Go.Proofs.Ytdcjldpbgickmaa
open Go.ChangeShapes Go.WideShapes Go.ChangeAt Go.RowKit Go.Shelf Go.Proofs.Rx Go.Maps
set_option linter.unusedVariables false
set_option linter.unusedSimpArgs false

attribute [local go_sem] Oper.semAt_some

/-- A new model beside a new map. -/
theorem px_new {N : Nat} {W : World} {mb : Nat} {Ψ : Nat → Prop} (ar : Ar W mb Ψ (fun _ => false) (fun _ => 0)) (hΨ : ∀ z, Ψ z → N ≤ z) (hN : N ≤ W.heap.size) (W' : World) (hW : W' = W.alloc (.cells #[.slice none 0 0, .slice none 0 0, .slice none 0 0] 30)) :
    ∃ F, PX N W' mb W.heap.size F 0 0 ∧ ∀ z, F z → Ψ z ∨ z = W.heap.size := by
  have k : Below W.heap.size W W' := by rw [hW]; exact below_alloc _ _
  have own : ∀ z, ownM W.heap.size (.slice none 0 0) (.slice none 0 0) (.slice none 0 0) z → z = W.heap.size := fun z hz => by
    rcases hz with u | u | u | u
    · exact u
    all_goals simp [Value.ownBlock] at u
  have nn : (Value.slice none 0 0).ownBlock = none := rfl
  refine ⟨fpP Ψ W.heap.size (.slice none 0 0) (.slice none 0 0) (.slice none 0 0), ⟨Ψ, .slice none 0 0, .slice none 0 0, .slice none 0 0, fun _ => false, fun _ => 0, [], [], [], ⟨ar.below k, ⟨?_, World.ownsRow_nil _ _ _ _, World.ownsRow_nil _ _ _ _, World.ownsRow_nil _ _ _ _, hN, ?_, ?_, ?_, ?_, ?_, ?_⟩, fun z hz u => ?_, hΨ, ⟨fun c => by simp, List.nodup_nil, fun q => rfl, rfl, fun q hq => by cases hq⟩⟩, fun _ => Iff.rfl, Nat.le_refl _, Nat.le_refl _⟩, fun z hz => ?_⟩
  · rw [hW]; exact World.alloc_heap_new W _
  · rw [nn]; simp
  · rw [nn]; simp
  · rw [nn]; simp
  · intro g hg; rw [nn] at hg; cases hg
  · intro g hg; rw [nn] at hg; cases hg
  · intro g hg; rw [nn] at hg; cases hg
  · have := own z u
    have := ar.lt z hz
    omega
  · rcases hz with u | u
    · exact .inl u
    · exact .inr (own z u)
/-- Two new maps. -/
structure AN (N : Nat) (w W : World) (mb nb : Nat) : Prop where
  ex : ∃ Φ Ψ : Nat → Prop, Ar W mb Φ (fun _ => false) (fun _ => 0) ∧ Ar W nb Ψ (fun _ => false) (fun _ => 0) ∧ (∀ z, Φ z → N ≤ z ∧ ¬ Ψ z) ∧ ∀ z, Ψ z → N ≤ z
  be : Below N w W
  nw : N ≤ W.heap.size
/-- Two of both, of a law that began in w, in blocks of their own. -/
structure AP (N : Nat) (w W : World) (mb xb nb yb : Nat) (a b : Nat) : Prop where
  ex : ∃ F G, PX N W mb xb F a b ∧ PX N W nb yb G a b ∧ ∀ z, F z → ¬ G z
  be : Below N w W
  nw : N ≤ W.heap.size
theorem an_first (w : World) : Calls Try.prog 8 #[] w fun e W' => ∃ mb, e = .returned (.pointer (some ⟨mb, 0, none⟩)) ∧ Below w.heap.size w W' ∧ ∃ Φ : Nat → Prop, Ar W' mb Φ (fun _ => false) (fun _ => 0) ∧ ∀ b, Φ b → w.heap.size ≤ b := by
  refine (new_any w).mono ?_
  rintro e W' ⟨mb, rfl, h, k⟩
  exact ⟨mb, rfl, k, h⟩
theorem an_second {N : Nat} {w W : World} {mb : Nat} (hb : Below N w W) (hN : N ≤ W.heap.size) (h : ∃ Φ : Nat → Prop, Ar W mb Φ (fun _ => false) (fun _ => 0) ∧ ∀ b, Φ b → N ≤ b) :
    Calls Try.prog 8 #[] W fun e W' => ∃ nb, e = .returned (.pointer (some ⟨nb, 0, none⟩)) ∧ AN N w W' mb nb := by
  obtain ⟨Φ, ar, hΦ⟩ := h
  refine (new_any W).mono ?_
  rintro e W' ⟨nb, rfl, ⟨Ψ, ar2, hΨ⟩, k⟩
  refine ⟨nb, rfl, ⟨Φ, Ψ, ar.below k, ar2, fun z hz => ⟨hΦ z hz, fun u => ?_⟩, fun z hz => Nat.le_trans hN (hΨ z hz)⟩, hb.trans (k.mono hN), Nat.le_trans hN k.size⟩
  have := ar.lt z hz
  have := hΨ z u
  omega
theorem ap_new {N : Nat} {w W W1 W2 : World} {mb nb : Nat} (h : AN N w W mb nb) (h1 : W1 = W.alloc (.cells #[.slice none 0 0, .slice none 0 0, .slice none 0 0] 30)) (h2 : W2 = W1.alloc (.cells #[.slice none 0 0, .slice none 0 0, .slice none 0 0] 30)) :
    AP N w W2 mb W.heap.size nb W1.heap.size 0 0 := by
  obtain ⟨Φ, Ψ, ar1, ar2, d1, d2⟩ := h.ex
  have k1 : Below W.heap.size W W1 := by rw [h1]; exact below_alloc _ _
  have k2 : Below W1.heap.size W1 W2 := by rw [h2]; exact below_alloc _ _
  have sz : W1.heap.size = W.heap.size + 1 := by rw [h1]; simp
  obtain ⟨F, p1, f1⟩ := px_new ar1 (fun z hz => (d1 z hz).1) h.nw W1 h1
  obtain ⟨G, p2, f2⟩ := px_new (ar2.below k1) d2 (Nat.le_trans h.nw k1.size) W2 h2
  refine ⟨⟨F, G, p1.below k2, p2, fun z hz u => ?_⟩, h.be.trans ((k1.mono h.nw).trans (k2.mono (Nat.le_trans h.nw k1.size))), Nat.le_trans h.nw (Nat.le_trans k1.size k2.size)⟩
  rcases f1 z hz with v | v
  · rcases f2 z u with y | y
    · exact (d1 z v).2 y
    · have := ar1.lt z v; omega
  · rcases f2 z u with y | y
    · have := ar2.lt z y; omega
    · omega
section
variable {N : Nat} {w W W' : World} {mb xb nb yb a b : Nat}
theorem AP.swap (h : AP N w W mb xb nb yb a b) : AP N w W nb yb mb xb a b := by
  obtain ⟨F, G, p, q, d⟩ := h.ex
  exact ⟨⟨G, F, q, p, fun z u v => d z v u⟩, h.be, h.nw⟩
theorem AP.read (h : AP N w W mb xb nb yb a b) (k : Below W.heap.size W W') : AP N w W' mb xb nb yb a b := by
  obtain ⟨F, G, p, q, d⟩ := h.ex
  exact ⟨⟨F, G, p.below k, q.below k, d⟩, h.be.trans (k.mono h.nw), Nat.le_trans h.nw k.size⟩
theorem ap_act (h : AP N w W mb xb nb yb a b) (ha : a < 1000) (x : ActV) (hx : x.Ok) (hb : b + csx x ≤ 90000) :
    Calls Try.prog 10 #[.pointer (some ⟨mb, 0, none⟩), .pointer (some ⟨xb, 0, none⟩), actV x] W fun e W' => e = .returned (.bool true) ∧ AP N w W' mb xb nb yb (a + 1) (b + csx x) := by
  obtain ⟨F, G, p, q, d⟩ := h.ex
  refine (act_any p h.nw ha x hx hb).mono ?_
  rintro e W' ⟨rfl, F', p', t⟩
  refine ⟨rfl, ⟨F', G, p', (q.kept t.1 (fun z hz u => d z u hz)).mono (by omega) (by omega), fun z hz u => ?_⟩, h.be.trans (p.to_below h.nw t), Nat.le_trans h.nw t.1.size⟩
  rcases t.2 z hz with v | v
  · exact d z v u
  · have := (q.lt u).2; omega
theorem ap_act2 (h : AP N w W mb xb nb yb a b) (ha : a < 1000) (x : ActV) (hx : x.Ok) (hb : b + csx x ≤ 90000) :
    Calls Try.prog 10 #[.pointer (some ⟨nb, 0, none⟩), .pointer (some ⟨yb, 0, none⟩), actV x] W fun e W' => e = .returned (.bool true) ∧ AP N w W' mb xb nb yb (a + 1) (b + csx x) := by
  refine (ap_act h.swap ha x hx hb).mono ?_
  rintro e W' ⟨rfl, p⟩
  exact ⟨rfl, p.swap⟩
theorem ap_chunks (h : AP N w W mb xb nb yb a b) : Calls Try.prog 9 #[.pointer (some ⟨mb, 0, none⟩)] W fun e W' => (∃ B0 : Nat, e = .returned (.func (.func 19) #[] #[.pointer (some ⟨B0, 0, none⟩)])) ∧ AP N w W' mb xb nb yb a b := by
  obtain ⟨F, G, ⟨Ψ, v0, v1, v2, C, V, cs, ps, is, p, r⟩, q, d⟩ := h.ex
  refine (chunks_any p.ar).mono ?_
  rintro e W' ⟨B0, v, L, rfl, f1, f2, f3, f4⟩
  exact ⟨⟨B0, rfl⟩, h.read f4⟩
theorem ap_chunks2 (h : AP N w W mb xb nb yb a b) : Calls Try.prog 9 #[.pointer (some ⟨nb, 0, none⟩)] W fun e W' => (∃ B0 : Nat, e = .returned (.func (.func 19) #[] #[.pointer (some ⟨B0, 0, none⟩)])) ∧ AP N w W' mb xb nb yb a b := by
  refine (ap_chunks h.swap).mono ?_
  rintro e W' ⟨h, p⟩
  exact ⟨h, p.swap⟩
end
set_option maxRecDepth 100000 in
set_option maxHeartbeats 4000000 in
theorem apart_in (o : Option Addr) (len cap : Nat) (o2 : Option Addr) (len2 cap2 : Nat) (w : World) (X : Nat → ActV) (Y : Nat → Bool) (hX : ActsAt w o len cap X) (hY : BoolsAt w o2 len2 cap2 Y) (hlen : len ≤ maxLen) (hlen2 : len2 ≤ maxLen) :
    Calls Try.prog 4 #[.slice o len cap, .slice o2 len2 cap2] w fun e w' => e = .returned (.bool true) ∧ Below w.heap.size w w' := by
  obtain ⟨R, hR⟩ : ∃ R : Ending → World → Prop, R = fun e w' => e = .returned (.bool true) ∧ Below w.heap.size w w' := ⟨_, rfl⟩
  rw [← hR]
  have FIN := hide (show ∀ W, Below w.heap.size w W → R (.returned (.bool true)) W from fun W h => by rw [hR]; exact ⟨rfl, h⟩)
  have CH := hide (heavy_any w o len cap X hX hlen)
  have HX := hide hX
  have HY := hide hY
  have CN := hide (an_first w)
  clear hR hX hY hlen
  go_enter Try.func4, Try.ntmps4
  go_wp2_with fail
  refine CH.out.mono ?_
  rintro e w1 ⟨(rfl | ⟨rfl, hl, hg⟩), hw⟩
  · rw [hw]
    clear hw
    go_wp2_with fail
    have F := FIN.out w (Below.refl _ w)
    first | exact F | (go_ret; exact F)
  rw [hw]
  clear hw CH
  have HL := hide (And.intro hl hg)
  clear hl hg
  go_wp2_with fail
  refine CN.out.mono ?_
  rintro e w2 ⟨mb, rfl, k2, ar⟩
  have C2 := hide (an_second k2 k2.size ar)
  clear CN k2 ar
  go_wp2_with fail
  refine C2.out.mono ?_
  rintro e w3 ⟨nb, rfl, an⟩
  have AN3 := hide an
  clear an C2
  go_wp2_with fail
  obtain ⟨w4, hw4⟩ : ∃ w4, w3.alloc (.cells #[.slice none 0 0, .slice none 0 0, .slice none 0 0] 30) = w4 := ⟨_, rfl⟩
  rw [hw4]
  obtain ⟨w5, hw5⟩ : ∃ w5, w4.alloc (.cells #[.slice none 0 0, .slice none 0 0, .slice none 0 0] 30) = w5 := ⟨_, rfl⟩
  rw [hw5]
  have sz4 : w4.heap.size = w3.heap.size + 1 := by rw [← hw4]; simp
  obtain ⟨xb, hxb⟩ : ∃ xb, w3.heap.size = xb := ⟨_, rfl⟩
  obtain ⟨yb, hyb⟩ : ∃ yb, xb + 1 = yb := ⟨_, rfl⟩
  have P5 := hide (ap_new AN3.out hw4.symm hw5.symm)
  rw [sz4, hxb, hyb] at P5
  simp only [hxb, hyb]
  clear AN3 sz4 hw4 hw5 hxb hyb w3 w4 w2 w1
  have CC := hide (ap_chunks P5.out)
  refine CC.out.mono ?_
  rintro e w6 ⟨⟨B0, rfl⟩, p6⟩
  have C6 := hide (ap_chunks2 p6)
  have fnil := func_nil B0 w6
  clear CC P5 p6 w5
  go_wp2_with fail
  clear fnil
  refine C6.out.mono ?_
  rintro e w7 ⟨⟨B1, rfl⟩, p7⟩
  have P7 := hide p7
  have fnil := func_nil B1 w7
  clear C6 p7 w6
  go_wp2_with fail
  clear fnil
  have hl2' : (len2 : Int) < 9223372036854775808 := by unfold maxLen at hlen2; omega
  clear hlen2
  go_loopw [9] (fun vi wr => ∃ i : Nat, vi = .int .i64 (i : Nat) ∧ i ≤ len ∧ Hid (AP w.heap.size w wr mb xb nb yb i (gsum X i))) (fun vi _ => len - (zi vi).toNat)
  case atStart => exact ⟨0, rfl, by omega, P7⟩
  case round =>
    clear P7
    obtain ⟨i, rfl, hi, HP⟩ := hrel
    have hll := HL.out.1
    have hgg := HL.out.2
    by_cases c : i < len
    · have d : decide ((i : Int) < (len : Int)) = true := decide_eq_true (by omega)
      obtain ⟨bl, off, rfl, hbl, hcl⟩ := HX.out.at c
      have cc := hcl i c
      have be := HP.out.be
      have e0 := (be.cell (p := ⟨bl, off + i * 4, none⟩) hbl).trans cc.1
      have e1 := (be.cell (p := ⟨bl, off + i * 4 + 1, none⟩) hbl).trans cc.2.1
      have e2 := (be.cell (p := ⟨bl, off + i * 4 + 2, none⟩) hbl).trans cc.2.2.1
      have e3 := (be.cell (p := ⟨bl, off + i * 4 + 3, none⟩) hbl).trans cc.2.2.2
      have gm := gsum_mono X (i := i + 1) (j := len) c
      have g1 : gsum X (i + 1) = gsum X i + csx (X i) := rfl
      have CA := hide (ap_act HP.out (by omega) (X i) (HX.out.ok i) (by omega))
      have CB := hide (ap_act2 HP.out (by omega) (X i) (HX.out.ok i) (by omega))
      rw [← g1] at CA CB
      unfold actV at CA CB
      have i9 : (i : Int) < 200 := by omega
      have i0 : 0 ≤ (i : Int) := by omega
      have pw : IntKind.i64.wrap ((i : Int) + 1) = (i : Int) + 1 := by rw [IntKind.wrap_i64]; omega
      by_cases ct : i < len2
      · have dt : decide ((i : Int) < (len2 : Int)) = true := decide_eq_true (by omega)
        obtain ⟨bt, offt, rfl, hbt, hct⟩ := HY.out.at ct
        have et := (be.cell (p := ⟨bt, offt + i, none⟩) hbt).trans (hct i ct)
        by_cases y : Y i = true
        · rw [y] at et
          clear hcl cc be hbl gm g1 hgg HP hct hbt CA y
          go_wp2_with fail
          refine CB.out.mono ?_
          rintro e W5 ⟨rfl, p5⟩
          have P5 := hide p5
          clear p5 CB e0 e1 e2 e3 et
          go_wp2_with fail
          exact ⟨⟨i + 1, by push_cast; rfl, by omega, P5⟩, by simp [zi]; omega⟩
        · have y' : Y i = false := by simpa using y
          rw [y'] at et
          clear hcl cc be hbl gm g1 hgg HP hct hbt CB y y'
          go_wp2_with fail
          refine CA.out.mono ?_
          rintro e W5 ⟨rfl, p5⟩
          have P5 := hide p5
          clear p5 CA e0 e1 e2 e3 et
          go_wp2_with fail
          exact ⟨⟨i + 1, by push_cast; rfl, by omega, P5⟩, by simp [zi]; omega⟩
      · have dt : decide ((i : Int) < (len2 : Int)) = false := decide_eq_false (by omega)
        clear hcl cc be hbl gm g1 hgg HP CB
        go_wp2_with fail
        refine CA.out.mono ?_
        rintro e W5 ⟨rfl, p5⟩
        have P5 := hide p5
        clear p5 CA e0 e1 e2 e3
        go_wp2_with fail
        exact ⟨⟨i + 1, by push_cast; rfl, by omega, P5⟩, by simp [zi]; omega⟩
    · have d : decide ((i : Int) < (len : Int)) = false := decide_eq_false (by omega)
      have el : i = len := by omega
      obtain ⟨F, G, p, q, dj⟩ := HP.out.ex
      have P2 := hide (show AP w.heap.size w wr mb xb nb yb 200 20000 from ⟨⟨F, G, p.mono (by omega) (by rw [el]; exact hgg), q.mono (by omega) (by rw [el]; exact hgg), dj⟩, HP.out.be, HP.out.nw⟩)
      have CA := hide (show Calls Try.prog 10 #[.pointer (some ⟨mb, 0, none⟩), .pointer (some ⟨xb, 0, none⟩), .agg #[.int .i64 4, .int .u64 0, .int .u64 0, .int .i64 0]] wr (fun e W' => e = .returned (.bool true) ∧ AP w.heap.size w W' mb xb nb yb (200 + 1) (20000 + csx ⟨4, 0, 0, 0⟩)) from
        ap_act P2.out (by omega) ⟨4, 0, 0, 0⟩ ⟨by decide, by decide, by decide, by decide, by decide, by decide⟩ (by decide))
      clear p q dj P2 HP hgg hll el hi HX HL
      go_wp2_with fail
      refine CA.out.mono ?_
      rintro e W6 ⟨rfl, p6⟩
      have CB := hide (show Calls Try.prog 10 #[.pointer (some ⟨nb, 0, none⟩), .pointer (some ⟨yb, 0, none⟩), .agg #[.int .i64 4, .int .u64 0, .int .u64 0, .int .i64 0]] W6 (fun e W' => e = .returned (.bool true) ∧ AP w.heap.size w W' mb xb nb yb (200 + 1 + 1) (20000 + csx ⟨4, 0, 0, 0⟩ + csx ⟨4, 0, 0, 0⟩)) from
        ap_act2 p6 (by omega) ⟨4, 0, 0, 0⟩ ⟨by decide, by decide, by decide, by decide, by decide, by decide⟩ (by decide))
      clear p6 CA
      go_wp2_with fail
      refine CB.out.mono ?_
      rintro e W7 ⟨rfl, p7⟩
      have P7 := hide p7
      have CW := hide (awake_any W7)
      clear p7 CB
      go_wp2_with fail
      refine CW.out.mono ?_
      rintro e W8 ⟨rfl, k8⟩
      have FF := hide (FIN.out W8 (P7.out.read k8).be)
      clear CW k8
      go_wp2_with fail
      first | exact FF.out | (go_ret; exact FF.out)
end Go.Proofs.Ytdcjldpbgickmaa
