/- Package sets: heaps by their kinds: rise, lower, sink: contracts. -/
import Derived.Test.YtdgjlekndhgjfaaHsK
namespace Go.Proofs.Ytdgjlekndhgjfaa
open Go.ChangeShapes Go.WideShapes Go.ChangeAt Go.RowKit Go.Shelf Go.Proofs.Rx Go.Maps Go.Proofs.Hm
set_option linter.unusedVariables false
set_option linter.unusedSimpArgs false

attribute [local go_sem] Oper.semAt_some

/-- What rising and sinking leave: the same members in another order. -/
structure RoK (W : World) (b o : Nat) (q : Nat → Array Value) (B : Nat → Nat) (v : Value) (l : List Nat) (X : World) (l' : List Nat) : Prop where
  c : ∃ p', HpC X b o 37 7 q B v l' p'
  pm : l'.Perm l
  k : Kept (fun z => v.ownBlock = some z ∨ z ∈ l) W X
theorem RoK.swap {W X Y : World} {b o : Nat} {q : Nat → Array Value} {B : Nat → Nat} {v : Value} {l l' : List Nat} {p' : Nat → Int} {i j : Nat} (h : RoK W b o q B v l X l') (c : HpC X b o 37 7 q B v l' p') (hi : i < l'.length) (hj : j < l'.length)
    (h1 : Hp Y b o 37 7 q B v (swapL l' i j) (swapP l' i j p')) (k1 : Kept (fun z => v.ownBlock = some z ∨ z ∈ l') X Y) : RoK W b o q B v l Y (swapL l' i j) :=
  ⟨⟨_, h1, cons_swap c.hp.nd c.co hi hj⟩, (perm_swap hi hj).trans h.pm, h.k.trans (k1.mono (fun z hz => hz.imp id (fun u => h.pm.mem_iff.1 u))) (fun _ _ u => u)⟩
set_option maxRecDepth 100000 in
set_option maxHeartbeats 1000000 in
theorem riseK {W : World} {b o : Nat} {q : Nat → Array Value} {B : Nat → Nat} {v : Value} {l : List Nat} {p : Nat → Int} (h : HpC W b o 37 7 q B v l p) (t0 : Nat) (ht : t0 < l.length) (hl : l.length < 100000) (hF : Fix (fB B l) l.length t0) :
    Calls Try.prog 40 #[.pointer (some ⟨b, o, none⟩), .int .i64 (t0 : Nat)] W fun e W' => e = .returned (.tuple #[]) ∧ ∃ l', RoK W b o q B v l W' l' ∧ Down (fB B l') l.length t0 := by
  obtain ⟨g, cap, rfl, hc, hf⟩ := h.hp.form (by omega)
  obtain ⟨n, hn⟩ : ∃ n, l.length = n := ⟨_, rfl⟩
  rw [hn] at ht hl hF h ⊢
  have HN := hide hn
  have R0 := hide (show RoK W b o q B (.slice (some ⟨g, 0, none⟩) n cap) l W l from ⟨⟨p, h⟩, List.Perm.refl _, Kept.refl _ _⟩)
  have U0 := hide (Up.start hF)
  clear h hF hn hc hf
  go_enter Try.func40, Try.ntmps40
  go_wp2_with fail
  go_loopw [1] (fun vi X => ∃ (t : Nat) (L : List Nat), vi = .int .i64 (t : Nat) ∧ t < n ∧ Hid (L.length = n) ∧ Hid (RoK W b o q B (.slice (some ⟨g, 0, none⟩) n cap) l X L) ∧ Hid (Up (fB B L) n t0 t)) (fun vi _ => (zi vi).toNat)
  case atStart => exact ⟨t0, l, rfl, ht, HN, R0, U0⟩
  case round =>
    obtain ⟨t, L, rfl, h1, HL, HR, HU⟩ := hrel
    by_cases c : 0 < t
    · have d1 : decide ((0 : Int) < (t : Int)) = true := decide_eq_true (by omega)
      obtain ⟨u, hu⟩ : ∃ u : Nat, u = (t - 1) / 2 := ⟨_, rfl⟩
      have e1 : ((t : Int) - 1) / 2 = (u : Int) := by omega
      have hun : u < n := by omega
      obtain ⟨p', hC⟩ := HR.out.c
      obtain ⟨g', cap', eg, hc, hf⟩ := hC.hp.form (by rw [HL.out]; omega)
      rw [HL.out] at eg hc
      cases eg
      have c0 := hC.hp.at_.c0
      have c1 := hC.hp.at_.c1
      have x1 := hc t h1
      have x2 := hc u hun
      have mt : at' L t ∈ L := at_mem (by rw [HL.out]; exact h1)
      have mu : at' L u ∈ L := at_mem (by rw [HL.out]; exact hun)
      obtain ⟨z, hz⟩ : ∃ z : Bool, z = decide ((fB B L t : Int) < (fB B L u : Int)) := ⟨_, rfl⟩
      have CA := hide (show ∀ Y, (∃ m, Y = wr.drewN m) → Calls Try.prog 36 #[.pointer (some ⟨at' L t, 0, none⟩), .pointer (some ⟨at' L u, 0, none⟩)] Y fun e W' => e = .returned (.bool z) ∧ ∃ m, W' = Y.drewN m from fun Y ⟨m, hm⟩ => by
        rw [hm, hz]
        exact ahead_any (hC.hp.ms.base (by decide) mt) (hC.hp.ms.base (by decide) mu))
      have HC := hide hC
      have HUU := hide hu
      have MM := hide (And.intro mt mu)
      have HZ := hide hz
      clear hc hf mt mu hC hu hz
      go_wp2_with fail
      go_quiet (first | (go_at_call 36; refine Calls.quiet_of (CA.out _ ⟨_, rfl⟩)))
      cases z with
      | false =>
        try simp only [Bool.not_false]
        go_wp2_with fail
        refine bodyPost_ret (v := .tuple #[]) (by simp [results, Try.results40, go_sem]) rfl ?_
        refine ⟨rfl, L, ?_, ?_⟩
        · exact ⟨⟨p', HC.out.below (drewN_below _ _)⟩, HR.out.pm, HR.out.k.trans (kept_drewN _ _ _) (fun _ _ h => h)⟩
        · have := of_decide_eq_false HZ.out.symm
          refine HU.out.done h1 (.inr ?_)
          rw [← HUU.out]
          omega
      | true =>
        try simp only [Bool.not_true]
        have CS := hide (swapK (HC.out.hp.below (drewN_below wr nq)) t u (by rw [HL.out]; exact h1) (by rw [HL.out]; exact hun))
        go_wp2_with fail
        refine CS.out.mono ?_
        rintro e Y ⟨rfl, s1, s2⟩
        have T1 := hide (And.intro s1 s2)
        clear s1 s2 CS CA c0 c1 x1 x2
        go_wp2_with fail
        obtain ⟨s1, s2⟩ := T1.out
        have hlt := of_decide_eq_true HZ.out.symm
        refine ⟨⟨u, swapL L t u, (by first | rfl | rw [e1]), hun, hide (by rw [len_swap]; exact HL.out), hide ?_, hide ?_⟩, ?_⟩
        · have hR : RoK W b o q B (.slice (some ⟨g, 0, none⟩) n cap) l (wr.drewN nq) L := ⟨⟨p', HC.out.below (drewN_below _ _)⟩, HR.out.pm, HR.out.k.trans (kept_drewN _ _ _) (fun _ _ h => h)⟩
          exact hR.swap (HC.out.below (drewN_below _ _)) (by rw [HL.out]; exact h1) (by rw [HL.out]; exact hun) s1 s2
        · rw [HUU.out]
          refine HU.out.step h1 c ?_ ?_
          · rw [← HUU.out]; omega
          · intro j
            rw [← HUU.out]
            exact fB_swap (by rw [HL.out]; exact h1) (by rw [HL.out]; exact hun) j
        · have := HUU.out
          simp only [zi]
          first | omega | (rw [e1]; omega)
    · have d1 : decide ((0 : Int) < (t : Int)) = false := decide_eq_false (by omega)
      go_wp2_with fail
      go_end0
      exact ⟨rfl, L, HR.out, HU.out.done h1 (.inl (by omega))⟩
/-- Which one of a place and of those below it is the lowest. -/
structure LowK (f : Nat → Nat) (n t r : Nat) : Prop where
  is : r = t ∨ (0 < r ∧ (r - 1) / 2 = t ∧ f r < f t)
  lt : r < n
  low : ∀ i, 0 < i → i < n → (i - 1) / 2 = t → f r ≤ f i
set_option maxRecDepth 100000 in
set_option maxHeartbeats 1000000 in
theorem lowerK {W : World} {b o : Nat} {q : Nat → Array Value} {B : Nat → Nat} {v : Value} {l : List Nat} {p : Nat → Int} (h : HpC W b o 37 7 q B v l p) (t : Nat) (ht : t < l.length) (hl : l.length < 100000) :
    Calls Try.prog 43 #[.pointer (some ⟨b, o, none⟩), .int .i64 (t : Nat)] W fun e W' => (∃ r : Nat, e = .returned (.int .i64 (r : Nat)) ∧ LowK (fB B l) l.length t r) ∧ ∃ m, W' = W.drewN m := by
  obtain ⟨g, cap, rfl, hc, hf⟩ := h.hp.form (by omega)
  obtain ⟨n, hn⟩ : ∃ n, l.length = n := ⟨_, rfl⟩
  have c0 := h.hp.at_.c0
  have c1 := h.hp.at_.c1
  have CA := hide (show ∀ i k, i < n → k < n → ∀ m, Calls Try.prog 36 #[.pointer (some ⟨at' l i, 0, none⟩), .pointer (some ⟨at' l k, 0, none⟩)] (W.drewN m) fun e W' => e = .returned (.bool (decide ((fB B l i : Int) < (fB B l k : Int)))) ∧ ∃ m', W' = (W.drewN m).drewN m' from fun i k hi hk m =>
    ahead_any (h.hp.ms.base (by decide) (at_mem (by rw [hn]; exact hi))) (h.hp.ms.base (by decide) (at_mem (by rw [hn]; exact hk))))
  rw [hn] at ht hl hc c0 ⊢
  clear h hn
  go_enter Try.func43, Try.ntmps43
  go_wp2_with fail
  go_loopw [5, 6] (fun vb vk X => ∃ (r k m : Nat), vb = .int .i64 (r : Nat) ∧ vk = .int .i64 (k : Nat) ∧ Hid (X = W.drewN m) ∧ k ≤ 2 * t + 3 ∧ 2 * t + 1 ≤ k ∧ r < n ∧ Hid ((r = t ∨ (0 < r ∧ (r - 1) / 2 = t ∧ fB B l r < fB B l t)) ∧ ∀ i, 0 < i → i < n → (i - 1) / 2 = t → i < k → fB B l r ≤ fB B l i)) (fun _ vk _ => 2 * t + 3 - (zi vk).toNat)
  case atStart => exact ⟨t, 2 * t + 1, 0, rfl, by push_cast; rfl, hide rfl, by omega, by omega, ht, hide ⟨.inl rfl, fun i h0 hi hp hk => by omega⟩⟩
  case round =>
    obtain ⟨r, k, m, rfl, rfl, HX, h1, h2, h3, HI⟩ := hrel
    have d0 : wr.cell? ⟨b, o, none⟩ = some (Value.slice (some ⟨g, 0, none⟩) n cap) := by rw [HX.out]; exact c0
    by_cases ck1 : k ≤ 2 * t + 2
    · have d1 : decide ((k : Int) ≤ 2 * (t : Int) + 2) = true := decide_eq_true (by omega)
      by_cases ck2 : k < n
      · have d2 : decide ((k : Int) < (n : Int)) = true := decide_eq_true (by omega)
        have d3 : decide (k < n) = true := decide_eq_true ck2
        have d4 : wr.cell? ⟨b, o + 1, none⟩ = some (.func (.func 36) #[] #[]) := by rw [HX.out]; exact c1
        have x1 : wr.cell? ⟨g, k, none⟩ = some (.pointer (some ⟨at' l k, 0, none⟩)) := by rw [HX.out]; exact hc k ck2
        have x2 : wr.cell? ⟨g, r, none⟩ = some (.pointer (some ⟨at' l r, 0, none⟩)) := by rw [HX.out]; exact hc r h3
        obtain ⟨z, hz⟩ : ∃ z : Bool, z = decide ((fB B l k : Int) < (fB B l r : Int)) := ⟨_, rfl⟩
        have CB := hide (show ∀ a, Calls Try.prog 36 #[.pointer (some ⟨at' l k, 0, none⟩), .pointer (some ⟨at' l r, 0, none⟩)] (wr.drewN a) fun e W' => e = .returned (.bool z) ∧ ∃ m', W' = (wr.drewN a).drewN m' from fun a => by
          have := CA.out k r ck2 h3 (m + a)
          rw [← World.drewN_drewN, ← HX.out, ← hz] at this
          exact this)
        have HZ := hide hz
        clear hz
        go_wp2_with fail
        go_quiet (first | (go_at_call 36; refine Calls.quiet_of (CB.out _)))
        cases z with
        | false =>
          go_wp2_with fail
          have hz := of_decide_eq_false HZ.out.symm
          refine ⟨⟨r, k + 1, m + nq, rfl, by push_cast; rfl, hide (by rw [HX.out, World.drewN_drewN]), by omega, by omega, h3, hide ⟨HI.out.1, fun i h0 hi hp hk => ?_⟩⟩, ?_⟩
          · by_cases e : i = k
            · subst e; omega
            · exact HI.out.2 i h0 hi hp (by omega)
          · simp only [zi]; omega
        | true =>
          go_wp2_with fail
          have hz := of_decide_eq_true HZ.out.symm
          refine ⟨⟨k, k + 1, m + nq, rfl, by push_cast; rfl, hide (by rw [HX.out, World.drewN_drewN]), by omega, by omega, ck2, hide ⟨.inr ⟨by omega, by omega, ?_⟩, fun i h0 hi hp hk => ?_⟩⟩, ?_⟩
          · rcases HI.out.1 with e | ⟨_, _, e⟩
            · rw [e] at hz; omega
            · omega
          · by_cases e : i = k
            · subst e; omega
            · have := HI.out.2 i h0 hi hp (by omega)
              omega
          · simp only [zi]; omega
      · have d2 : decide ((k : Int) < (n : Int)) = false := decide_eq_false (by omega)
        have d3 : decide (k < n) = false := decide_eq_false ck2
        go_wp2_with fail
        go_ret
        exact ⟨⟨r, rfl, HI.out.1, h3, fun i h0 hi hp => HI.out.2 i h0 hi hp (by omega)⟩, m, HX.out⟩
    · have d1 : decide ((k : Int) ≤ 2 * (t : Int) + 2) = false := decide_eq_false (by omega)
      go_wp2_with fail
      go_ret
      exact ⟨⟨r, rfl, HI.out.1, h3, fun i h0 hi hp => HI.out.2 i h0 hi hp (by omega)⟩, m, HX.out⟩
set_option maxRecDepth 100000 in
set_option maxHeartbeats 1000000 in
theorem sinkK {W : World} {b o : Nat} {q : Nat → Array Value} {B : Nat → Nat} {v : Value} {l : List Nat} {p : Nat → Int} (h : HpC W b o 37 7 q B v l p) (t0 : Nat) (ht : t0 < l.length) (hl : l.length < 100000) (hD : Down (fB B l) l.length t0) :
    Calls Try.prog 42 #[.pointer (some ⟨b, o, none⟩), .int .i64 (t0 : Nat)] W fun e W' => e = .returned (.tuple #[]) ∧ ∃ l', RoK W b o q B v l W' l' ∧ Ord (fB B l') l.length := by
  obtain ⟨n, hn⟩ : ∃ n, l.length = n := ⟨_, rfl⟩
  rw [hn] at ht hl hD ⊢
  have HN := hide hn
  have R0 := hide (show RoK W b o q B v l W l from ⟨⟨p, h⟩, List.Perm.refl _, Kept.refl _ _⟩)
  have U0 := hide hD
  clear h hD hn
  go_enter Try.func42, Try.ntmps42
  go_wp2_with fail
  go_loopw [1] (fun vi X => ∃ (t : Nat) (L : List Nat), vi = .int .i64 (t : Nat) ∧ t < n ∧ Hid (L.length = n) ∧ Hid (RoK W b o q B v l X L) ∧ Hid (Down (fB B L) n t)) (fun vi _ => n - (zi vi).toNat)
  case atStart => exact ⟨t0, l, rfl, ht, HN, R0, U0⟩
  case round =>
    obtain ⟨t, L, rfl, h1, HL, HR, HU⟩ := hrel
    obtain ⟨p', hC⟩ := HR.out.c
    have CL := hide (lowerK hC t (by rw [HL.out]; exact h1) (by rw [HL.out]; exact hl))
    have HC := hide hC
    clear hC
    go_wp2_with fail
    refine CL.out.mono ?_
    rintro e Y ⟨⟨r, rfl, hlow⟩, ⟨m, hY⟩⟩
    have HY := hide (show Below wr.heap.size wr Y from by rw [hY]; exact drewN_below _ _)
    clear hY CL
    rw [HL.out] at hlow
    have hr := hlow.lt
    have LO := hide hlow
    have HC2 := hide (HC.out.below HY.out)
    have hR : RoK W b o q B v l Y L := ⟨⟨p', HC2.out⟩, HR.out.pm, HR.out.k.trans (Kept.of_below HY.out) (fun _ _ h => h)⟩
    have HR2 := hide hR
    clear hlow hR
    by_cases c : r = t
    · have d1 : ((r : Int) == (t : Int)) = true := by simp [c]
      have d2 : (r == t) = true := by simp [c]
      have d3 : decide ((r : Int) = (t : Int)) = true := by simp [c]
      have cc := hide c
      have F0 := hide (show ∃ l', RoK W b o q B v l Y l' ∧ Ord (fB B l') n from ⟨L, HR2.out, HU.out.ord (fun i h0 hi hp => by rw [← c]; exact LO.out.low i h0 hi hp)⟩)
      clear c
      go_wp2_with fail
      refine bodyPost_ret (v := .tuple #[]) (by simp [results, Try.results42, go_sem]) rfl ?_
      exact ⟨rfl, F0.out⟩
    · have d1 : ((r : Int) == (t : Int)) = false := by simp; omega
      have d2 : (r == t) = false := by simp [c]
      have d3 : decide ((r : Int) = (t : Int)) = false := by simp; omega
      have CS := hide (swapK HC2.out.hp t r (by rw [HL.out]; exact h1) (by rw [HL.out]; exact hr))
      have cc := hide c
      clear c
      go_wp2_with fail
      refine CS.out.mono ?_
      rintro e Z ⟨rfl, s1, s2⟩
      have T1 := hide (And.intro s1 s2)
      clear s1 s2 CS
      go_wp2_with fail
      obtain ⟨s1, s2⟩ := T1.out
      have lo := LO.out
      rcases lo.is with e | ⟨r0, rp, rf⟩
      · exact absurd e cc.out
      refine ⟨⟨r, swapL L t r, rfl, hr, hide (by rw [len_swap]; exact HL.out), hide (HR2.out.swap HC2.out (by rw [HL.out]; exact h1) (by rw [HL.out]; exact hr) s1 s2), hide ?_⟩, ?_⟩
      · exact HU.out.step r0 hr rp rf lo.low (fun j => fB_swap (by rw [HL.out]; exact h1) (by rw [HL.out]; exact hr) j)
      · simp only [zi]; omega
end Go.Proofs.Ytdgjlekndhgjfaa
