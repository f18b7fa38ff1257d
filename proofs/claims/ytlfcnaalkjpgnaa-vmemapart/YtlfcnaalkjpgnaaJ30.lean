/- J30 of the proof of both laws: texts Ac3, Sm, Sn, one behind the other. -/
import Derived.Test.YtlfcnaalkjpgnaaJ29
/- The law's act, done to both: its contract. -/
namespace Go.Proofs.Ytlfcnaalkjpgnaa
open Go.ChangeShapes Go.WideShapes Go.ChangeAt Go.RowKit Go.Proofs.Sp Go.Maps
set_option linter.unusedVariables false
set_option linter.unusedSimpArgs false

theorem drew_b (w : World) : Below w.heap.size w w.drew := ⟨rfl, rfl, rfl, Nat.le_refl _, fun _ _ => rfl⟩
theorem TR.trans {W W1 W2 : World} {m r : Addr} {S1 S2 : Sp} {F G : Nat → Prop} {K1 K2 : Nat} (h : TR W W1 m r S1 F G K1) (k : ∀ F' G', T W1 m r S1 F' G' K1 → TR W1 W2 m r S2 F' G' K2) : TR W W2 m r S2 F G K2 := by
  obtain ⟨F', G', t, kp, hf⟩ := h
  obtain ⟨F2, G2, t2, kp2, hf2⟩ := k F' G' t
  have hz := kp.size
  refine ⟨F2, G2, t2, ⟨kp2.os.trans kp.os, kp2.tape.trans kp.tape, kp2.output.trans kp.output, Nat.le_trans kp.size kp2.size, fun b hb hn => (kp2.block b (by omega) (fun z => ?_)).trans (kp.block b hb hn)⟩, fun b hb => ?_⟩
  · rcases hf b z with y | y
    · exact hn y
    · omega
  · rcases hf2 b hb with y | y
    · exact hf b y
    · exact .inr (by omega)
theorem TR.comp {W W1 W2 : World} {m r : Addr} {S2 : Sp} {F G F' G' : Nat → Prop} {K2 : Nat} (kp : Kept (fun b => F b ∨ G b) W W1) (hf : ∀ b, F' b ∨ G' b → (F b ∨ G b) ∨ W.heap.size ≤ b) (k : TR W1 W2 m r S2 F' G' K2) : TR W W2 m r S2 F G K2 := by
  obtain ⟨F2, G2, t2, kp2, hf2⟩ := k
  have hz := kp.size
  refine ⟨F2, G2, t2, ⟨kp2.os.trans kp.os, kp2.tape.trans kp.tape, kp2.output.trans kp.output, Nat.le_trans kp.size kp2.size, fun b hb hn => (kp2.block b (by omega) (fun z => ?_)).trans (kp.block b hb hn)⟩, fun b hb => ?_⟩
  · rcases hf b z with y | y
    · exact hn y
    · omega
  · rcases hf2 b hb with y | y
    · exact hf b y
    · exact .inr (by omega)
theorem TR.mono {W W1 : World} {m r : Addr} {S1 : Sp} {F G : Nat → Prop} {K1 K2 : Nat} (h : TR W W1 m r S1 F G K1) (hk : K1 ≤ K2) : TR W W1 m r S1 F G K2 := by
  obtain ⟨F', G', t, kp⟩ := h
  exact ⟨F', G', t.mono hk, kp⟩
theorem TR.refl {W W1 : World} {m r : Addr} {S1 : Sp} {F G : Nat → Prop} {K1 : Nat} (h : T W m r S1 F G K1) (k : Below W.heap.size W W1) : TR W W1 m r S1 F G K1 :=
  ⟨F, G, h.below k, ⟨k.os, k.tape, k.output, k.size, fun b hb _ => k.block b hb⟩, fun b hb => .inl hb⟩
theorem TR.front {W W0 W1 : World} {m r : Addr} {S1 : Sp} {F G : Nat → Prop} {K1 : Nat} (k : Below W.heap.size W W0) (h : TR W0 W1 m r S1 F G K1) : TR W W1 m r S1 F G K1 := by
  obtain ⟨F', G', t, kp, hf⟩ := h
  have hz := k.size
  exact ⟨F', G', t, ⟨kp.os.trans k.os, kp.tape.trans k.tape, kp.output.trans k.output, Nat.le_trans k.size kp.size, fun b hb hn => (kp.block b (by omega) hn).trans (k.block b hb)⟩, fun b hb => (hf b hb).elim .inl (fun z => .inr (by omega))⟩
theorem TR.back {W W1 W2 : World} {m r : Addr} {S1 : Sp} {F G : Nat → Prop} {K1 : Nat} (h : TR W W1 m r S1 F G K1) (k : Below W1.heap.size W1 W2) : TR W W2 m r S1 F G K1 := h.trans (fun F' G' t => TR.refl t k)
/-- What is to be done, in a block of its own. -/
def ActB (W : World) (A : Nat) (a : Int) (p n x : Int) : Prop := W.heap[A]? = some (.cells #[.int .i64 a, .int .u64 p, .int .u64 n, .int .u64 x] 36 (0, 0))
theorem ActB.kept {F : Nat → Prop} {W W' : World} {A : Nat} {a p n x : Int} (h : ActB W A a p n x) (k : Kept F W W') (hF : ¬ F A) : ActB W' A a p n x := (k.block A (Array.getElem?_eq_some_iff.1 h).1 hF).trans h
theorem ActB.below {W W' : World} {A : Nat} {a p n x : Int} (h : ActB W A a p n x) (k : Below W.heap.size W W') : ActB W' A a p n x := (k.block A (Array.getElem?_eq_some_iff.1 h).1).trans h
theorem ActB.c0 {W : World} {A : Nat} {a p n x : Int} (h : ActB W A a p n x) : W.cell? ⟨A, 0, none⟩ = some (.int .i64 a) := by unfold ActB at h; simp [World.cell?, h]
theorem ActB.c1 {W : World} {A : Nat} {a p n x : Int} (h : ActB W A a p n x) : W.cell? ⟨A, 1, none⟩ = some (.int .u64 p) := by unfold ActB at h; simp [World.cell?, h]
theorem ActB.c2 {W : World} {A : Nat} {a p n x : Int} (h : ActB W A a p n x) : W.cell? ⟨A, 2, none⟩ = some (.int .u64 n) := by unfold ActB at h; simp [World.cell?, h]
theorem ActB.c3 {W : World} {A : Nat} {a p n x : Int} (h : ActB W A a p n x) : W.cell? ⟨A, 3, none⟩ = some (.int .u64 x) := by unfold ActB at h; simp [World.cell?, h]
theorem TR.actB {W W2 : World} {m r : Addr} {S' : Sp} {F G : Nat → Prop} {K : Nat} {A : Nat} {a p n x : Int} (h : TR W W2 m r S' F G K) (b : ActB W A a p n x) (hF : ¬ F A) (hG : ¬ G A) : ActB W2 A a p n x := by
  obtain ⟨_, _, _, k, _⟩ := h
  exact b.kept k (fun z => z.elim hF hG)

set_option maxRecDepth 100000 in
set_option maxHeartbeats 4000000 in
theorem act3 (W : World) (m r : Addr) (S : Sp) (F G : Nat → Prop) (K : Nat) (h : T W m r S F G K) (hK : K + 800000000 ≤ K9) (hl : S.pgs.length ≤ 12000) (a p n x : Int) (hp : two64 p) (hn : two64 n) (hx : two64 x)
    (h1 : a = 1 → n.toNat ≤ 134217728 → n.toNat ≤ 4096) (h6 : a = 6 → n ≤ 131072 ∨ 140737488355328 ≤ n) :
    Calls Try.prog 9 #[.pointer (some m), .pointer (some r), .agg #[.int .i64 a, .int .u64 p, .int .u64 n, .int .u64 x]] W fun e W' => e = .returned (.bool true) ∧ TR W W' m r (actS S a p.toNat n.toNat x.toNat) F G (K + 1000000000) := by
  obtain ⟨w0, hw0⟩ : ∃ w0, w0 = W.alloc (.cells #[.int .i64 a, .int .u64 p, .int .u64 n, .int .u64 x] 36) := ⟨_, rfl⟩
  obtain ⟨A, hA⟩ : ∃ A, W.heap.size = A := ⟨_, rfl⟩
  have k0 : Below W.heap.size W w0 := by rw [hw0]; exact (Below.refl _ W).alloc (Nat.le_refl _) _
  have hB : ActB w0 A a p n x := by unfold ActB; rw [hw0, ← hA]; exact heap_alloc_new _ _
  have nF : ¬ F A := fun z => by have := h.ltF z; omega
  have nG : ¬ G A := fun z => by have := h.ltG z; omega
  have HT := hide (h.below k0)
  have K0 := hide k0
  have HB := hide hB
  have W0 := hide hw0
  have NF := hide nF
  have NG := hide nG
  have HK := hide hK
  have HL := hide hl
  have HP := hide hp
  have HN := hide hn
  have HX := hide hx
  have H1 := hide h1
  have H6 := hide h6
  obtain ⟨R, hR⟩ : ∃ R : Ending → World → Prop, R = fun e W' => e = .returned (.bool true) ∧ TR W W' m r (actS S a p.toNat n.toNat x.toNat) F G (K + 1000000000) := ⟨_, rfl⟩
  rw [← hR]
  have FIN := hide (show ∀ (w1 : World) (S' : Sp) (K' : Nat), S' = actS S a p.toNat n.toNat x.toNat → K' ≤ K + 1000000000 → TR w0 w1 m r S' F G K' → R (.returned (.bool true)) w1 from fun w1 S' K' e hk t => by
    rw [hR]
    exact ⟨rfl, by rw [← e]; exact (t.mono hk).front k0⟩)
  have KK := hide (show K ≤ K9 by omega)
  clear hB k0 hw0 nF nG hR h hK hl hp hn hx h1 h6
  have b0 := HB.out.c0
  have b1 := HB.out.c1
  have b2 := HB.out.c2
  have b3 := HB.out.c3
  by_cases a1 : a = 1
  · subst a1
    have HQ := hide (H1.out rfl)
    go_enter Try.func9, Try.ntmps9
    go_wp2_with fail
    go_at_call 16
    rw [← W0.out]
    clear W0
    refine (l_reserve HT.out KK.out HP.out HN.out HQ.out).mono ?_
    rintro e w1 ⟨rfl, h1⟩
    have k1 := h1.kept
    have d1 := (HB.out.kept k1 NF.out).c1
    have d2 := (HB.out.kept k1 NF.out).c2
    have M1 := hide h1
    clear h1 k1 b0 b1 b2 b3
    go_wp2_with fail
    go_at_call 17
    refine (r_reserve M1.out KK.out HP.out HN.out HQ.out).mono ?_
    rintro e w2 ⟨rfl, h2⟩
    have FF := hide (FIN.out w2 _ _ (by unfold actS; rw [if_pos rfl]) (by omega) h2)
    clear h2
    go_wp2_with fail
    exact FF.out
  by_cases a2 : a = 2
  · subst a2
    clear a1
    go_enter Try.func9, Try.ntmps9
    go_wp2_with fail
    rw [← W0.out]
    clear W0
    have HTd := hide (HT.out.below (drew_b w0))
    have HBd := hide (HB.out.below (drew_b w0))
    go_region_held3 (fun w' => w'.cell? ⟨A, 1, none⟩ = some (.int .u64 p) ∧ w'.cell? ⟨A, 2, none⟩ = some (.int .u64 n)) (go_keep) (first
      | (go_at_call 18; refine (l_commit HTd.out KK.out HP.out HN.out HL.out).mono ?_; rintro e w1 ⟨rfl, h1⟩; have k1 := h1.kept; have d1 := (HBd.out.kept k1 NF.out).c1; have d2 := (HBd.out.kept k1 NF.out).c2; have M1 := hide h1; clear h1 k1)
      | (go_at_call 19; refine (r_commit M1.out KK.out HP.out HN.out HL.out).mono ?_; rintro e w2 ⟨rfl, h2⟩; have e1 := (h2.actB HBd.out NF.out NG.out).c1; have e2 := (h2.actB HBd.out NF.out NG.out).c2; have FF := hide (FIN.out w2 _ _ (by unfold actS; rw [if_neg (by decide), if_pos rfl]) (by omega) (h2.front (drew_b w0))); clear h2))
    go_wp2_with fail
    exact FF.out
  by_cases a3 : a = 3
  · subst a3
    clear a1 a2
    go_enter Try.func9, Try.ntmps9
    go_wp2_with fail
    rw [← W0.out]
    clear W0
    have HTd := hide (HT.out.below (drew_b w0))
    have HBd := hide (HB.out.below (drew_b w0))
    go_region_held3 (fun w' => w'.cell? ⟨A, 1, none⟩ = some (.int .u64 p) ∧ w'.cell? ⟨A, 2, none⟩ = some (.int .u64 n)) (go_keep) (first
      | (go_at_call 20; refine (l_release HTd.out KK.out HP.out HN.out HL.out).mono ?_; rintro e w1 ⟨rfl, h1⟩; have k1 := h1.kept; have d1 := (HBd.out.kept k1 NF.out).c1; have d2 := (HBd.out.kept k1 NF.out).c2; have M1 := hide h1; clear h1 k1)
      | (go_at_call 21; refine (r_release M1.out KK.out HP.out HN.out HL.out).mono ?_; rintro e w2 ⟨rfl, h2⟩; have e1 := (h2.actB HBd.out NF.out NG.out).c1; have e2 := (h2.actB HBd.out NF.out NG.out).c2; have FF := hide (FIN.out w2 _ _ (by unfold actS; rw [if_neg (by decide), if_neg (by decide), if_pos rfl]) (by omega) (h2.front (drew_b w0))); clear h2))
    go_wp2_with fail
    exact FF.out
  by_cases a4 : a = 4
  · subst a4
    clear a1 a2 a3
    go_enter Try.func9, Try.ntmps9
    go_wp2_with fail
    go_at_call 22
    rw [← W0.out]
    clear W0
    refine (l_load HT.out KK.out HX.out).mono ?_
    rintro e w1 ⟨rfl, h1⟩
    have k1 := h1.kept
    have d3 := (HB.out.kept k1 NF.out).c3
    have M1 := hide h1
    clear h1 k1 b0 b1 b2 b3
    go_wp2_with fail
    go_at_call 23
    refine (r_load M1.out KK.out HX.out).mono ?_
    rintro e w2 ⟨rfl, h2⟩
    have FF := hide (FIN.out w2 _ _ (by unfold actS; rw [if_neg (by decide), if_neg (by decide), if_neg (by decide), if_neg (by decide), if_neg (by decide)]) (by omega) h2)
    clear h2
    go_wp2_with fail
    exact FF.out
  by_cases a5 : a = 5
  · subst a5
    clear a1 a2 a3 a4
    go_enter Try.func9, Try.ntmps9
    go_wp2_with fail
    rw [← W0.out]
    clear W0
    have HTd := hide (HT.out.below (drew_b w0))
    have HBd := hide (HB.out.below (drew_b w0))
    go_region_held3 (fun w' => w'.cell? ⟨A, 3, none⟩ = some (.int .u64 x) ∧ w'.cell? ⟨A, 2, none⟩ = some (.int .u64 n)) (go_keep) (first
      | (go_at_call 24; refine (l_store HTd.out KK.out HX.out HN.out).mono ?_; rintro e w1 ⟨rfl, h1⟩; have k1 := h1.kept; have d3 := (HBd.out.kept k1 NF.out).c3; have d2 := (HBd.out.kept k1 NF.out).c2; have M1 := hide h1; clear h1 k1)
      | (go_at_call 25; refine (r_store M1.out KK.out HX.out HN.out).mono ?_; rintro e w2 ⟨rfl, h2⟩; have e3 := (h2.actB HBd.out NF.out NG.out).c3; have e2 := (h2.actB HBd.out NF.out NG.out).c2; have FF := hide (FIN.out w2 _ _ (by unfold actS; rw [if_neg (by decide), if_neg (by decide), if_neg (by decide), if_pos rfl]) (by omega) (h2.front (drew_b w0))); clear h2))
    go_wp2_with fail
    exact FF.out
  by_cases a6 : a = 6
  · subst a6
    clear a1 a2 a3 a4 a5
    have HQ := hide (H6.out rfl)
    go_enter Try.func9, Try.ntmps9
    go_wp2_with fail
    rw [← W0.out]
    clear W0
    have HTd := hide (HT.out.below (drew_b w0))
    have HBd := hide (HB.out.below (drew_b w0))
    go_region_held3 (fun w' => w'.cell? ⟨A, 3, none⟩ = some (.int .u64 x) ∧ w'.cell? ⟨A, 2, none⟩ = some (.int .u64 n)) (go_keep) (first
      | (go_at_call 26; refine (l_zero HTd.out KK.out HX.out HN.out HL.out).mono ?_; rintro e w1 ⟨rfl, h1⟩; have k1 := h1.kept; have d3 := (HBd.out.kept k1 NF.out).c3; have d2 := (HBd.out.kept k1 NF.out).c2; have M1 := hide h1; clear h1 k1)
      | (go_at_call 27; refine (r_zero M1.out KK.out HX.out HN.out HL.out HQ.out).mono ?_; rintro e w2 ⟨rfl, h2⟩; have e3 := (h2.actB HBd.out NF.out NG.out).c3; have e2 := (h2.actB HBd.out NF.out NG.out).c2; have FF := hide (FIN.out w2 _ _ (by unfold actS; rw [if_neg (by decide), if_neg (by decide), if_neg (by decide), if_neg (by decide), if_pos rfl]) (by omega) (h2.front (drew_b w0))); clear h2))
    go_wp2_with fail
    exact FF.out
  have hS : S = actS S a p.toNat n.toNat x.toNat := by
    unfold actS; rw [if_neg a1, if_neg a2, if_neg a3, if_neg a5, if_neg a6]
  have HS := hide hS
  clear hS
  by_cases a7 : a = 7
  · subst a7
    clear a1 a2 a3 a4 a5 a6
    have H0 := hide (TR.refl HT.out (Below.refl _ _))
    have NB := hide (And.intro NF.out NG.out)
    go_enter Try.func9, Try.ntmps9
    go_wp2_with fail
    rw [← W0.out]
    clear W0
    have hsz : Hid (A < w0.heap.size) := hide (Array.getElem?_eq_some_iff.1 HB.out).1
    go_loopw [15] (fun v wr => ∃ k : Int, v = .int .i64 k ∧ -1 ≤ k ∧ k ≤ 6 ∧ Hid (TR w0 wr m r S F G (K + (k + 1).toNat * 100000000))) (fun v _ => (6 - intOf v).toNat)
    case atStart => exact ⟨-1, rfl, by omega, by omega, hide (H0.out.mono (by omega))⟩
    case round =>
      obtain ⟨k, rfl, k1, k2, HS2⟩ := hrel
      obtain ⟨F', G', t, kp, hf⟩ := HS2.out
      have kk : K + (k + 1).toNat * 100000000 ≤ K9 := by have := HK.out; omega
      have KK2 := hide kk
      have TT := hide t
      have KP := hide kp
      have HF := hide hf
      have BB := hide (HS2.out.actB HB.out NF.out NG.out)
      have nF' : ¬ F' A := fun z => by rcases hf A (.inl z) with y | y; exact y.elim NF.out NG.out; have := hsz.out; omega
      have nG' : ¬ G' A := fun z => by rcases hf A (.inr z) with y | y; exact y.elim NF.out NG.out; have := hsz.out; omega
      have NF2 := hide nF'
      have NG2 := hide nG'
      clear t kp hf kk nF' nG' b0 b1 b2 b3
      by_cases hk : k < 6
      · go_wp2_with fail
        go_at_call 28
        refine (l_count TT.out KK2.out (by omega) (by omega)).mono ?_
        rintro e w1 ⟨rfl, h1⟩
        have M1 := hide h1
        clear h1
        go_wp2_with fail
        go_at_call 29
        refine (r_count M1.out KK2.out (by omega) (by omega)).mono ?_
        rintro e w2 ⟨rfl, h2⟩
        have H2 := hide ((TR.comp KP.out HF.out h2).mono (K2 := K + (k + 1 + 1).toNat * 100000000) (by omega))
        clear h2
        go_wp2_with fail
        refine ⟨⟨k + 1, rfl, by omega, by omega, H2⟩, ?_⟩
        simp [intOf]; omega
      · have hk' : 6 ≤ k := by omega
        clear hk
        have HTd := hide (TT.out.below (drew_b wr))
        have HBd := hide (BB.out.below (drew_b wr))
        have d1 := BB.out.c1
        go_wp2_with fail
        go_region_held3 (fun w' => w'.cell? ⟨A, 1, none⟩ = some (.int .u64 p)) (go_keep) (first
          | (go_at_call 30; refine (l_state HTd.out KK2.out HP.out).mono ?_; rintro e w1 ⟨rfl, h1⟩; have k1 := h1.kept; have d2 := (HBd.out.kept k1 NF2.out).c1; have M1 := hide h1; clear h1 k1)
          | (go_at_call 31; refine (r_state M1.out KK2.out HP.out).mono ?_; rintro e w2 ⟨rfl, h2⟩; have d3 := (h2.actB HBd.out NF2.out NG2.out).c1; have FF := hide (FIN.out w2 _ _ HS.out (by omega) (TR.comp KP.out HF.out (h2.front (drew_b wr)))); clear h2))
        go_wp2_with fail
        exact FF.out
  have q1 : (a == 1) = false := by simpa using a1
  have q2 : (a == 2) = false := by simpa using a2
  have q3 : (a == 3) = false := by simpa using a3
  have q4 : (a == 4) = false := by simpa using a4
  have q5 : (a == 5) = false := by simpa using a5
  have q6 : (a == 6) = false := by simpa using a6
  have q7 : (a == 7) = false := by simpa using a7
  have FF := hide (FIN.out w0 S K HS.out (by omega) (TR.refl HT.out (Below.refl _ _)))
  clear a1 a2 a3 a4 a5 a6 a7
  go_enter Try.func9, Try.ntmps9
  go_wp2_with fail
  rw [← W0.out]
  exact FF.out
end Go.Proofs.Ytlfcnaalkjpgnaa

/- The law's same: its contract. -/
namespace Go.Proofs.Ytlfcnaalkjpgnaa
open Go.ChangeShapes Go.WideShapes Go.ChangeAt Go.RowKit Go.Proofs.Sp Go.Maps
set_option linter.unusedVariables false
set_option linter.unusedSimpArgs false

/-- Looked at since W: the landed space may have laid its own blocks anew, and nothing else. -/
structure Look (W W1 : World) (m r : Addr) (S : Sp) (F G : Nat → Prop) (K : Nat) : Prop where
  t : T W m r S F G K
  v : ∃ F' K1, K1 ≤ K ∧ VI W1 m S F' K1 ∧ ∀ b, F' b → F b ∨ W.heap.size ≤ b
  kept : Kept F W W1
section
variable {W W1 W2 : World} {m r : Addr} {S : Sp} {F G : Nat → Prop} {K : Nat}
theorem Look.start (h : T W m r S F G K) : Look W W m r S F G K := by
  have h' := h
  obtain ⟨K1, K2, k1, k2, v, q, d⟩ := h
  exact ⟨h', ⟨F, K1, k1, v, fun b hb => .inl hb⟩, ⟨rfl, rfl, rfl, Nat.le_refl _, fun _ _ _ => rfl⟩⟩
theorem Look.step (h : Look W W1 m r S F G K) {F' : Nat → Prop} {K1 : Nat} (hf : ∀ b, F' b → F b ∨ W.heap.size ≤ b) (hk : K1 ≤ K) (s : Step VI F' W1 W2 m S K1) : Look W W2 m r S F G K := by
  obtain ⟨F2, v2, kp, h2⟩ := s
  have hz := h.kept.size
  refine ⟨h.t, ⟨F2, K1, hk, v2, fun b hb => ?_⟩, ⟨kp.os.trans h.kept.os, kp.tape.trans h.kept.tape, kp.output.trans h.kept.output, Nat.le_trans hz kp.size, fun b hb hn => (kp.block b (by omega) (fun z => ?_)).trans (h.kept.block b hb hn)⟩⟩
  · rcases h2 b hb with y | y
    · exact hf b y
    · exact .inr (by omega)
  · rcases hf b z with y | y
    · exact hn y
    · omega
theorem Look.below (h : Look W W1 m r S F G K) (k : Below W1.heap.size W1 W2) : Look W W2 m r S F G K := by
  obtain ⟨F', K1, k1, v, hf⟩ := h.v
  exact h.step hf k1 ⟨F', vface.kept v k.size (fun b hb => k.block b (vface.lt v b hb)), ⟨k.os, k.tape, k.output, k.size, fun b hb _ => k.block b hb⟩, fun b hb => .inl hb⟩
theorem Look.old (h : Look W W1 m r S F G K) {b : Nat} (hb : G b) : W1.heap[b]? = W.heap[b]? := by
  have t := h.t
  obtain ⟨_, _, _, _, _, _, d⟩ := h.t
  exact h.kept.block b (t.ltG hb) (fun z => d b z hb)
theorem Look.cell (h : Look W W1 m r S F G K) {b : Nat} (hb : G b) {k : Nat} {v : Value} (hc : W.cell? ⟨b, k, none⟩ = some v) : W1.cell? ⟨b, k, none⟩ = some v := (World.cell?_of_block (a := ⟨b, k, none⟩) (h.old hb)).trans hc
theorem Look.load {a : Int} (h : Look W W1 m r S F G K) (hK : K ≤ K9) (ha : two64 a) :
    Calls Try.prog vm.load #[.pointer (some m), .int .u64 a] W1 fun e w' => e = .returned (.tuple #[.int .u64 ((loadS S a.toNat).1 : Nat), .int .i64 ((loadS S a.toNat).2 : Nat)]) ∧ Look W w' m r S F G K := by
  obtain ⟨F', K1, k1, v, hf⟩ := h.v
  exact (vface.load a ha v (lim9 hK k1).1).mono fun e w' ⟨he, hs⟩ => ⟨he, h.step hf k1 hs⟩
theorem Look.state {a : Int} (h : Look W W1 m r S F G K) (hK : K ≤ K9) (ha : two64 a) :
    Calls Try.prog vm.state #[.pointer (some m), .int .u64 a] W1 fun e w' => e = .returned (.int .i64 (S.st a.toNat : Nat)) ∧ Look W w' m r S F G K := by
  obtain ⟨F', K1, k1, v, hf⟩ := h.v
  exact (vface.state a ha v (lim9 hK k1).1).mono fun e w' ⟨he, hs⟩ => ⟨he, h.step hf k1 hs⟩
theorem Look.count {k : Int} (h : Look W W1 m r S F G K) (hK : K ≤ K9) (h1 : -9223372036854775808 ≤ k) (h2 : k ≤ 9223372036854775807) :
    Calls Try.prog vm.count #[.pointer (some m), .int .i64 k] W1 fun e w' => e = .returned (.int .u64 (countS S k : Nat)) ∧ Look W w' m r S F G K := by
  obtain ⟨F', K1, k1, v, hf⟩ := h.v
  exact (vface.count k h1 h2 v (lim9 hK k1).1).mono fun e w' ⟨he, hs⟩ => ⟨he, h.step hf k1 hs⟩
theorem Look.ri (h : Look W W1 m r S F G K) : ∃ K2, K2 ≤ K ∧ RI W1 r S G K2 := by
  obtain ⟨_, K2, _, k2, _, q, _⟩ := h.t
  exact ⟨K2, k2, RI.kept q h.kept.size (fun b hb => h.old hb)⟩
theorem Look.done (h : Look W W1 m r S F G K) {K2 : Nat} (hk : K2 ≤ K) (s : Step RI G W1 W2 r S K2) : TR W W2 m r S F G K := by
  obtain ⟨F', K1, k1, v, hf⟩ := h.v
  obtain ⟨G', q, kp, hg⟩ := s
  have t := h.t
  obtain ⟨_, _, _, _, _, _, d⟩ := h.t
  have hz := h.kept.size
  have nf : ∀ b, F' b → ¬ G b := fun b hb hG => by
    rcases hf b hb with z | z
    · exact d b z hG
    · have := t.ltG hG; omega
  refine ⟨F', G', ⟨K1, K2, k1, hk, vface.kept v kp.size (fun b hb => kp.block b (vface.lt v b hb) (nf b hb)), q, fun b hb hG => ?_⟩, ?_, fun b hb => ?_⟩
  · rcases hg b hG with z | z
    · exact nf b hb z
    · have := vface.lt v b hb; omega
  · exact ⟨kp.os.trans h.kept.os, kp.tape.trans h.kept.tape, kp.output.trans h.kept.output, Nat.le_trans hz kp.size, fun b hb hn => (kp.block b (by omega) (fun z => hn (.inr z))).trans (h.kept.block b hb (fun z => hn (.inl z)))⟩
  · rcases hb with z | z
    · rcases hf b z with y | y
      · exact .inl (.inl y)
      · exact .inr y
    · rcases hg b z with y | y
      · exact .inl (.inr y)
      · exact .inr (by omega)
theorem Look.fin (h : Look W W1 m r S F G K) : TR W W1 m r S F G K := by
  obtain ⟨K2, k2, q⟩ := h.ri
  exact h.done k2 ⟨G, q, ⟨rfl, rfl, rfl, Nat.le_refl _, fun _ _ _ => rfl⟩, fun b hb => .inl hb⟩
theorem Look.loadR {a : Int} (h : Look W W1 m r S F G K) (hK : K ≤ K9) (ha : two64 a) :
    Calls Try.prog rf.load #[.pointer (some r), .int .u64 a] W1 fun e w' => e = .returned (.tuple #[.int .u64 ((loadS S a.toNat).1 : Nat), .int .i64 ((loadS S a.toNat).2 : Nat)]) ∧ TR W w' m r S F G K := by
  obtain ⟨K2, k2, q⟩ := h.ri
  exact (RI.load a ha q (lim9 hK k2).1).mono fun e w' ⟨he, hs⟩ => ⟨he, h.done k2 hs⟩
theorem Look.countR {k : Int} (h : Look W W1 m r S F G K) (hK : K ≤ K9) (h1 : -9223372036854775808 ≤ k) (h2 : k ≤ 9223372036854775807) :
    Calls Try.prog rf.count #[.pointer (some r), .int .i64 k] W1 fun e w' => e = .returned (.int .u64 (countS S k : Nat)) ∧ TR W w' m r S F G K := by
  obtain ⟨K2, k2, q⟩ := h.ri
  exact (RI.count k h1 h2 q (lim9 hK k2).1).mono fun e w' ⟨he, hs⟩ => ⟨he, h.done k2 hs⟩
/-- The reference's pages, laid open. -/
theorem T.pages (h : T W m r S F G K) : ∃ rb, r = ⟨rb, 0, none⟩ ∧ G rb ∧ ∃ o3 c3, W.cell? ⟨rb, 3, none⟩ = some (.slice o3 S.pgs.length c3) ∧ S.pgs.length ≤ K ∧ (0 < S.pgs.length → ∃ b off, o3 = some ⟨b, off, none⟩ ∧ G b ∧ ∀ i (hi : i < S.pgs.length), W.cell? ⟨b, off + i * 3, none⟩ = some (.int .u64 (S.pgs[i] : Int)) ∧ W.cell? ⟨b, off + i * 3 + 1, none⟩ = some (.int .i64 (S.st S.pgs[i] : Int))) := by
  obtain ⟨K1, K2, k1, k2, v, q, d⟩ := h
  obtain ⟨rb, fl, ws, v0, v1, v2, o3, c3, o4, c4, e, hC, ap, hF, hl, n1, n2, p1, p2⟩ := q
  refine ⟨rb, e, (hF rb).2 (.inl rfl), o3, c3, hC.h3, by omega, fun h0 => ?_⟩
  obtain ⟨b, off, ho, hc⟩ := hC.page h0
  exact ⟨b, off, ho, (hF b).2 (by unfold inRef; rw [ho]; simp), fun i hi => ⟨(hc i hi).1, (hc i hi).2.1⟩⟩
/-- The reference's words, laid open. -/
theorem T.words (h : T W m r S F G K) : ∃ rb, r = ⟨rb, 0, none⟩ ∧ G rb ∧ ∃ (ws : List (Nat × Nat)) (o4 : Option Addr) (c4 : Nat), W.cell? ⟨rb, 4, none⟩ = some (.slice o4 ws.length c4) ∧ ws.length ≤ K ∧ (∀ i (hi : i < ws.length), loadS S ws[i].1 = (ws[i].2, 0) ∧ ws[i].1 < 18446744073709551616) ∧ (0 < ws.length → ∃ b off, o4 = some ⟨b, off, none⟩ ∧ G b ∧ ∀ i (hi : i < ws.length), W.cell? ⟨b, off + i * 2, none⟩ = some (.int .u64 (ws[i].1 : Int)) ∧ W.cell? ⟨b, off + i * 2 + 1, none⟩ = some (.int .u64 (ws[i].2 : Int))) := by
  obtain ⟨K1, K2, k1, k2, v, q, d⟩ := h
  obtain ⟨rb, fl, ws, v0, v1, v2, o3, c3, o4, c4, e, hC, ap, hF, hl, n1, n2, p1, p2⟩ := q
  refine ⟨rb, e, (hF rb).2 (.inl rfl), ws, o4, c4, hC.h4, by omega, fun i hi => ?_, fun h0 => ?_⟩
  · obtain ⟨r1, r2, r3⟩ := hC.ready ws[i] (List.getElem_mem hi)
    refine ⟨?_, ?_⟩
    · rw [load_ok r2 r1, hC.word _ r2 r1, wordV_mem hC.rising fl ws[i].1 ws[i].2 (List.getElem_mem hi)]
    · have := hC.wf.below _ ((hC.wf.mem _).1 (by rw [r1]; decide))
      omega
  · obtain ⟨b, off, ho, hc⟩ := hC.stored h0
    exact ⟨b, off, ho, (hF b).2 (by unfold inRef; rw [ho]; simp), hc⟩
end
end Go.Proofs.Ytlfcnaalkjpgnaa

/- The law's same: its walk. -/
namespace Go.Proofs.Ytlfcnaalkjpgnaa
open Go.ChangeShapes Go.WideShapes Go.ChangeAt Go.RowKit Go.Proofs.Sp Go.Maps
set_option linter.unusedVariables false
set_option linter.unusedSimpArgs false

set_option maxRecDepth 100000 in
set_option maxHeartbeats 8000000 in
theorem same3 (W : World) (m r : Addr) (S : Sp) (F G : Nat → Prop) (K : Nat) (h : T W m r S F G K) (hK : K ≤ K9) (hl : S.pgs.length ≤ 12000) :
    Calls Try.prog 10 #[.pointer (some m), .pointer (some r)] W fun e W' => e = .returned (.bool true) ∧ TR W W' m r S F G K := by
  obtain ⟨rb, hr, _⟩ := h.pages
  subst hr
  have H0 := hide (TR.refl h (Below.refl _ _))
  have HK := hide hK
  have WFS := hide h.wf
  obtain ⟨R, hR⟩ : ∃ R : Ending → World → Prop, R = fun e W' => e = .returned (.bool true) ∧ TR W W' m ⟨rb, 0, none⟩ S F G K := ⟨_, rfl⟩
  rw [← hR]
  have HR := hide hR
  obtain ⟨L, hL⟩ : ∃ L : Nat, S.pgs.length = L := ⟨_, rfl⟩
  rw [hL] at hl
  have HL := hide hL
  have l0 : 0 ≤ (L : Int) := by omega
  have l1 : (L : Int) ≤ 12000 := by omega
  clear h hK hR hL
  go_enter Try.func10, Try.ntmps10
  go_wp2_with fail
  go_loopw [5] (fun v wr => ∃ i : Int, v = .int .i64 i ∧ 0 ≤ i ∧ i ≤ 24000 ∧ Hid (TR W wr m ⟨rb, 0, none⟩ S F G K)) (fun v _ => (24001 - intOf v).toNat)
  case atStart => exact ⟨0, rfl, by omega, by omega, H0⟩
  case round =>
    obtain ⟨i, rfl, i0, i1, HS⟩ := hrel
    obtain ⟨F', G', t, kp, hf⟩ := HS.out
    have KP := hide kp
    have HF := hide hf
    have TT := hide t
    obtain ⟨rb', hrb, gr, o3, c3, q3, qK, qp⟩ := t.pages
    have hrb' : rb = rb' := by injection hrb
    subst hrb'
    rw [HL.out] at q3
    clear t kp hf hrb qK
    by_cases hi : i < L
    · obtain ⟨b, off, rfl, gb, hc⟩ := qp (by have := HL.out; omega)
      obtain ⟨d0, d1⟩ := hc i.toNat (by have := HL.out; omega)
      obtain ⟨P, hP⟩ : ∃ P : Nat, S.pgs[i.toNat]'(by have := HL.out; omega) = P := ⟨_, rfl⟩
      rw [hP] at d0 d1
      have hPm : P ∈ S.pgs := by rw [← hP]; exact List.getElem_mem _
      have hPl : P < 34359738368 := WFS.out.below P hPm
      obtain ⟨PI, hPI⟩ : ∃ PI : Int, (P : Int) = PI := ⟨_, rfl⟩
      rw [hPI] at d0
      have p0 : 0 ≤ PI := by omega
      have p1 : PI < 34359738368 := by omega
      have EP := hide (show PI.toNat = P by omega)
      have GR := hide gr
      have GB := hide gb
      clear hc qp hP hPm hPl hPI
      have LK := hide ((Look.start TT.out).below (drew_b wr))
      have D1 := hide d1
      have Q3 := hide q3
      have PP := hide (show two64 PI by unfold two64; omega)
      go_wp2_with fail
      go_region_held3 (fun w' => w'.cell? ⟨rb, 3, none⟩ = some (.slice (some ⟨b, off, none⟩) L c3) ∧ w'.cell? ⟨b, off + i.toNat * 3 + 1, none⟩ = some (.int .i64 (S.st P : Int))) (go_keep) (first
        | (go_at_call 30; refine (LK.out.state HK.out PP.out).mono ?_; rw [EP.out]; rintro e w1 ⟨rfl, h1⟩; have s3 := h1.cell GR.out Q3.out; have s4 := h1.cell GB.out D1.out; have LK1 := hide h1; clear h1))
      have PQ := hide (show two64 (PI * 8192 + 8) by unfold two64; omega)
      go_wp2_with fail
      go_at_call 22
      refine (LK1.out.load HK.out PQ.out).mono ?_
      rintro e w2 ⟨rfl, h2⟩
      have LK2 := hide h2
      clear h2 s3 s4
      go_wp2_with fail
      go_at_call 23
      refine (LK2.out.loadR HK.out PQ.out).mono ?_
      rintro e w3 ⟨rfl, h3⟩
      have H3 := hide (TR.comp KP.out HF.out h3)
      clear h3
      go_wp2_with fail
      refine ⟨⟨i + (1 + i / 40), rfl, by omega, by omega, H3⟩, ?_⟩
      simp [intOf]; omega
    · have hi' : (L : Int) ≤ i := by omega
      obtain ⟨rb', hrb, _, ws, o4, c4, q4, qK, qw, qc⟩ := TT.out.words
      have hrb' : rb = rb' := by injection hrb
      subst hrb'
      obtain ⟨M, hM⟩ : ∃ M : Nat, ws.length = M := ⟨_, rfl⟩
      rw [hM] at q4
      have HM := hide hM
      have Q4 := hide q4
      have QW := hide qw
      have QC := hide qc
      have GR := hide gr
      have m0 : 0 ≤ (M : Int) := by omega
      have m1 : (M : Int) ≤ 900000000000 := by have := HK.out; unfold K9 at this; omega
      have LK := hide (Look.start TT.out)
      clear hi qp hrb qK qw qc hM gr
      go_wp2_with fail
      clear q3 q4
      go_loopw [11] (fun v wq => ∃ j : Int, v = .int .i64 j ∧ 0 ≤ j ∧ j ≤ M ∧ Hid (Look wr wq m ⟨rb, 0, none⟩ S F' G' K)) (fun v _ => (M - intOf v).toNat)
      case atStart => exact ⟨0, rfl, by omega, by omega, LK⟩
      case round =>
        obtain ⟨j, rfl, j0, j1, HJ⟩ := hrel
        have q4 := HJ.out.cell GR.out Q4.out
        by_cases hj : j < M
        · obtain ⟨b, off, rfl, gb, hc⟩ := QC.out (by have := HM.out; omega)
          obtain ⟨d0, d1⟩ := hc j.toNat (by have := HM.out; omega)
          obtain ⟨w1, w2⟩ := QW.out j.toNat (by have := HM.out; omega)
          obtain ⟨X, hX⟩ : ∃ X, ws[j.toNat]'(by have := HM.out; omega) = X := ⟨_, rfl⟩
          rw [hX] at d0 d1 w1 w2
          have e0 := HJ.out.cell gb d0
          have e1 := HJ.out.cell gb d1
          have D1 := hide d1
          have GB := hide gb
          have AW := hide (show two64 ((X.1 : Nat) : Int) by unfold two64; omega)
          have LW := hide (show loadS S ((X.1 : Nat) : Int).toNat = (X.2, 0) by rw [Int.toNat_natCast]; exact w1)
          obtain ⟨XI, hXI⟩ : ∃ XI : Int, ((X.1 : Nat) : Int) = XI := ⟨_, rfl⟩
          rw [hXI] at e0 AW LW
          obtain ⟨YI, hYI⟩ : ∃ YI : Int, ((X.2 : Nat) : Int) = YI := ⟨_, rfl⟩
          have DY := D1.out
          rw [hYI] at e1 DY
          have DY := hide DY
          have HY := hide hYI
          clear hc d0 d1 w1 w2 hX gb hXI hYI D1
          trace_state
          go_wp2_with fail
          go_at_call 22
          refine (HJ.out.load HK.out AW.out).mono ?_
          rw [LW.out, HY.out]
          rintro e w5 ⟨rfl, h5⟩
          have z4 := h5.cell GR.out Q4.out
          have z5 := h5.cell GB.out DY.out
          have H5 := hide h5
          clear h5 q4 e0 e1
          go_wp2_with fail
          refine ⟨⟨j + 1, rfl, by omega, by omega, H5⟩, ?_⟩
          simp [intOf]; omega
        · have hj' : (M : Int) ≤ j := by omega
          have H6 := hide (TR.comp KP.out HF.out HJ.out.fin)
          clear hj
          go_wp2_with fail
          clear q4
          go_loopw [14] (fun v wz => ∃ k : Int, v = .int .i64 k ∧ 1 ≤ k ∧ k ≤ 4 ∧ Hid (TR W wz m ⟨rb, 0, none⟩ S F G K)) (fun v _ => (4 - intOf v).toNat)
          case atStart => exact ⟨1, rfl, by omega, by omega, H6⟩
          case round =>
            obtain ⟨k, rfl, k1, k2, HZ⟩ := hrel
            by_cases hk : k < 4
            · obtain ⟨F2, G2, t2, kp2, hf2⟩ := HZ.out
              have KP2 := hide kp2
              have HF2 := hide hf2
              have L2 := hide (Look.start t2)
              clear t2 kp2 hf2
              go_wp2_with fail
              go_at_call 28
              refine (L2.out.count HK.out (by omega) (by omega)).mono ?_
              rintro e w7 ⟨rfl, h7⟩
              have L7 := hide h7
              clear h7
              go_wp2_with fail
              go_at_call 29
              refine (L7.out.countR HK.out (by omega) (by omega)).mono ?_
              rintro e w8 ⟨rfl, h8⟩
              have H8 := hide (TR.comp KP2.out HF2.out h8)
              clear h8
              go_wp2_with fail
              refine ⟨⟨k + 1, rfl, by omega, by omega, H8⟩, ?_⟩
              simp [intOf]; omega
            · have hk' : 4 ≤ k := by omega
              clear hk
              go_wp2_with fail
              rw [HR.out]
              exact ⟨rfl, HZ.out⟩
end Go.Proofs.Ytlfcnaalkjpgnaa
