/- SchedPlays: its walk. -/
import Derived.Test.YtlcbegmhmbegjaaGm
namespace Go.Proofs.Ytlcbegmhmbegjaa
open Go.ChangeShapes Go.WideShapes Go.ChangeAt Go.RowKit Go.Proofs.Sc Go.Maps
set_option linter.unusedVariables false
set_option linter.unusedSimpArgs false

/-- The two machines, and where each lies. -/
structure TF (w0 : World) (lo : Nat) (w : World) (m : Addr) (rb : Nat) (S R : Sc) (F G : Nat → Prop) : Prop where
  s : SI w m S F
  r : RS w ⟨rb, 0, none⟩ R G
  ap : ∀ x, F x → ¬ G x
  fl : ∀ x, F x → lo ≤ x
  gl : ∀ x, G x → lo ≤ x
  l0 : w0.heap.size ≤ lo
  be : Below w0.heap.size w0 w
variable {w0 w w' : World} {lo : Nat} {m : Addr} {rb : Nat} {S R : Sc} {F G : Nat → Prop}
theorem TF.tw (h : TF w0 lo w m rb S R F G) : TW w0 lo w m rb S R := ⟨F, G, h.s, h.r, h.ap, h.fl, h.gl, h.l0, h.be⟩
theorem TF.next (h : TF w0 lo w m rb S R F G) (hb : Below w.heap.size w w') : TF w0 lo w' m rb S R F G :=
  ⟨h.s.kept hb.size (fun x hx => hb.block x (h.s.lt x hx)), h.r.below hb, h.ap, h.fl, h.gl, h.l0, h.be.trans (hb.mono h.be.size)⟩
theorem TF.hi (h : TF w0 lo w m rb S R F G) : lo ≤ w.heap.size := by
  obtain ⟨b', o, cap, v4, e, hb', hc, _⟩ := h.r.fields
  have := h.gl b' hb'
  have := h.r.lt b' hb'
  omega
theorem TF.landPlay (h : TF w0 lo w m rb S R F G) {u : Value} {l : List Int} (hl : IntsAt w u l) (ha : Apart u F) (hn : l.length ≤ 1000000) :
    Calls Try.prog 13 #[.pointer (some m), u] w fun e w' => e = .returned (.tuple #[.int .i64 ((playS S l).1 : Nat), .int .i64 ((playS S l).2.1 : Nat)]) ∧ Kept F w w' ∧ ∃ F', TF w0 lo w' m rb (playS S l).2.2 R F' G ∧ ∀ x, F' x → F x ∨ w.heap.size ≤ x := by
  have hi := h.hi
  refine (h.s.play hl ha hn).mono ?_
  rintro e w' ⟨he, F', a, b, c⟩
  refine ⟨he, b, F', ⟨a, h.r.kept b.size (fun x hx => b.block x (h.r.lt x hx) (fun f => h.ap x f hx)), fun x hx g => ?_, fun x hx => ?_, h.gl, h.l0, h.be.trans (b.below h.be.size (fun x hx => by have := h.fl x hx; have := h.l0; omega))⟩, c⟩
  · rcases c x hx with z | z
    · exact h.ap x z g
    · have := h.r.lt x g; omega
  · rcases c x hx with z | z
    · exact h.fl x z
    · omega
theorem TF.refPlay (h : TF w0 lo w m rb S R F G) {u : Value} {l : List Int} (hl : IntsAt w u l) (ha : Apart u G) (hn : l.length ≤ 1000000) :
    Calls Try.prog 14 #[.pointer (some ⟨rb, 0, none⟩), u] w fun e w' => e = .returned (.tuple #[.int .i64 ((playS R l).1 : Nat), .int .i64 ((playS R l).2.1 : Nat)]) ∧ Kept G w w' ∧ ∃ G', TF w0 lo w' m rb S (playS R l).2.2 F G' ∧ ∀ x, G' x → G x ∨ w.heap.size ≤ x := by
  have hi := h.hi
  refine (h.r.play hl ha hn).mono ?_
  rintro e w' ⟨he, G', a, b, c⟩
  refine ⟨he, b, G', ⟨h.s.kept b.size (fun x hx => b.block x (h.s.lt x hx) (h.ap x hx)), a, fun x hx g => ?_, h.fl, fun x hx => ?_, h.l0, h.be.trans (b.below h.be.size (fun x hx => by have := h.gl x hx; have := h.l0; omega))⟩, c⟩
  · rcases c x g with z | z
    · exact h.ap x hx z
    · have := h.s.lt x hx; omega
  · rcases c x hx with z | z
    · exact h.gl x z
    · omega
/-- append([]int{}, l...). -/
theorem copy_ints {w : World} {u : Value} {l : List Int} (ty : TypeId) (hu : IntsAt w u l) (hl : l.length ≤ 1000000) :
    ∃ o c w', (Builtin.append_ #[23, 23] ty #[.slice (some ⟨w.heap.size, 0, none⟩) 0 0, u]).run Try.prog (w.alloc (.cells #[] 3)) = .ok (.slice o l.length c) w' ∧ w'.ownsRow w.heap.size 3 1 (.slice o l.length c) l.length (ints l) ∧ Below w.heap.size w w' := by
  obtain ⟨i0, hi0, hz0, hz1, hz2⟩ := info_parts infoI
  obtain ⟨W, hW⟩ : ∃ W, W = w.alloc (.cells #[] 3) := ⟨_, rfl⟩
  have hbW : Below w.heap.size w W := by rw [hW]; exact (Below.refl _ _).alloc (Nat.le_refl _) _
  have hv : W.ownsRow w.heap.size 3 1 (.slice (some ⟨w.heap.size, 0, none⟩) 0 0) 0 [] := by rw [hW]; exact own_empty w 3 1
  have hu' := hu.below hbW
  rw [← hW]
  obtain ⟨o, cap, rfl, h1, h2, h3, h4, h5⟩ := hu'
  cases o with
  | none =>
    obtain rfl := h3 rfl
    obtain rfl := List.eq_nil_of_length_eq_zero (show l.length = 0 by omega)
    have hr := run_append_owned_none (P := Try.prog) (w := W) w.heap.size 23 ty 3 i0 1 Try.underlying23 hi0 _ 0 [] hv
    exact ⟨_, _, W, hr, hv, hbW⟩
  | some ad =>
    have hnews : ∀ j u, (ints l)[j]? = some u → W.cell? (ad.add j) = some u := fun j u hu => by
      unfold ints at hu
      rw [List.getElem?_map] at hu
      cases hx : l[j]? with
      | none => rw [hx] at hu; cases hu
      | some x =>
        rw [hx] at hu
        injection hu with hu
        subst hu
        obtain ⟨g, off, e, hg, hc⟩ := h5 (fun z => by rw [z] at hx; simp at hx)
        injection e with e
        subst e
        rw [addr_add0]
        exact hc j x hx
    obtain ⟨v', w', hr, hown, hg, _⟩ := run_append_own_at (P := Try.prog) W w.heap.size 23 ty 3 i0 _ 1 8 Try.underlying23 hi0 hz0 hz1 hz2 rfl (by decide) _ 0 [] hv ad l.length cap (ints l) (by rw [ints_len, Nat.mul_one]) hnews (ints_one l) (by unfold maxLen; omega) (by omega) hbW.size
    rw [List.nil_append, Nat.zero_add] at hown
    obtain ⟨o, c, rfl, _⟩ := row_shape hown
    exact ⟨o, c, w', hr, hown, hbW.grown hg hbW.size (fun k hk => (hv.lt k hk).1)⟩
/-- The first n of a row of our own. -/
theorem ints_pre {W : World} {base g n cap : Nat} {l : List Int} (hn : l.length = n) (h : W.ownsRow base 3 1 (.slice (some ⟨g, 0, none⟩) (n + 1) cap) (n + 1) (ints l ++ [.int .i64 171])) (hl : ∀ x ∈ l, i64 x) : IntsAt W (.slice (some ⟨g, 0, none⟩) n cap) l ∧ n + 1 ≤ cap ∧ cap ≤ 9223372036854775807 ∧ W.cell? ⟨g, n, none⟩ = some (.int .i64 171) ∧ g < W.heap.size ∧ base ≤ g := by
  obtain ⟨o, c, e, h1, h2, _⟩ := row_shape h
  injection e with _ _ e3
  subst e3
  have hc := fun j (hj : j < (n + 1) * 1) => h.cellAt j hj
  refine ⟨⟨_, cap, by rw [hn], by omega, h2, (fun z => by cases z), hl, fun z => ⟨g, 0, rfl, (h.lt g rfl).2, fun i x hi => ?_⟩⟩, h1, h2, ?_, (h.lt g rfl).2, (h.lt g rfl).1⟩
  · have hil := (List.getElem?_eq_some_iff.1 hi).1
    rw [Nat.zero_add, hc i (by omega), List.getElem?_append_left (by rw [ints_len]; exact hil)]
    unfold ints
    rw [List.getElem?_map, hi]
    rfl
  · rw [hc n (by omega), List.getElem?_append_right (by rw [ints_len]; omega), ints_len, hn, Nat.sub_self]
    rfl
/-- Between two plays. -/
def LP (w : World) (lo B0 : Nat) (m : Addr) (rb : Nat) (v0 v1 : Value) (wr : World) (S : Sc) : Prop :=
  ∃ F G, TF w lo wr m rb S S F G ∧ ¬ F B0 ∧ ¬ G B0 ∧ B0 < wr.heap.size ∧ wr.cell? ⟨B0, 0, none⟩ = some v0 ∧ wr.cell? ⟨B0, 1, none⟩ = some v1
set_option maxRecDepth 100000 in
set_option maxHeartbeats 8000000 in
theorem plays_core {w : World} {v fv pv nv : Value} {L : List (List Stp)} {first picks names : List Int} (hL : TasksAt w v L) (hok : ∀ t ∈ L, ∀ s ∈ t, s.Ok) (hFi : IntsAt w fv first) (hP : IntsAt w pv picks) (hNm : IntsAt w nv names) (hm : L.length + lens L ≤ 400) (hf : first.length ≤ 400) (hp : picks.length ≤ 400) (hh : Calls Try.prog 5 #[v] w (HeavyP L w)) :
    Calls Try.prog 4 #[v, fv, pv, nv] w fun e w' => e = .returned (.bool true) ∧ Below w.heap.size w w' := by
  obtain ⟨o, cap, rfl, k1, k2⟩ := hL.shape
  obtain ⟨fo, fcap, rfl, fl⟩ := hFi.shape
  obtain ⟨po, pcap, rfl, pl⟩ := hP.shape
  obtain ⟨no, ncap, rfl, nl⟩ := hNm.shape
  have HL := hide hL
  have OK := hide hok
  have HFI := hide hFi
  have HP := hide hP
  have HNM := hide hNm
  have HM := hide hm
  have HH := hide hh
  obtain ⟨n, hn⟩ : ∃ n, L.length = n := ⟨_, rfl⟩
  obtain ⟨Q, hQl⟩ : ∃ P, first.length = P := ⟨_, rfl⟩
  obtain ⟨P, hPl⟩ : ∃ P, picks.length = P := ⟨_, rfl⟩
  obtain ⟨N, hNl⟩ : ∃ N, names.length = N := ⟨_, rfl⟩
  have HN := hide hn
  have HQL := hide hQl
  have HPL := hide hPl
  rw [hn] at HL k1 HH ⊢
  rw [hQl] at HFI hf fl ⊢
  rw [hPl] at HP hp pl ⊢
  rw [hNl] at HNM nl ⊢
  have dq : decide (400 < (Q : Int)) = false := decide_eq_false (by omega)
  have dp : decide (400 < (P : Int)) = false := decide_eq_false (by omega)
  have LM : Hid (lens L ≤ 1000000) := hide (by have := HM.out; omega)
  clear hL hok hP hNm hm hh hn hPl hNl hFi hQl
  go_enter Try.func4, Try.ntmps4
  go_wp2_with fail
  refine HH.out.mono ?_
  rintro e w1 ⟨he, hw1⟩
  rw [decide_eq_false (by have := HM.out; omega)] at he
  subst he
  rw [hw1]
  clear hw1 w1 HH
  go_wp2_with fail
  refine (ownx_core _ L HL.out (by have := HM.out; omega)).mono ?_
  rintro e w1 ⟨gv, rfl, hO⟩
  obtain ⟨og, gcap, rfl, g1, g2⟩ := hO.shape
  have HO := hide hO
  have B1 := hide hO.below
  clear hO
  rw [HN.out] at HO g1 ⊢
  go_wp2_with fail
  refine (new_core _ L (by have := HO.out.tasks; exact this) LM.out OK.out).mono ?_
  intro e w2 hN1
  rcases hN1 with ⟨z, rfl, b2⟩ | ⟨z, m, F, rfl, hSI, b2, hF⟩
  · have B2 := hide (B1.out.trans (b2.mono B1.out.size))
    have C2 := hide (newR_core (w := w2) _ L (HL.out.below B2.out) LM.out OK.out)
    have ZZ := hide z
    obtain ⟨c, hc⟩ : ∃ c : Int, ((newS L : Nat) : Int) = c := ⟨_, rfl⟩
    have cc : (c != c) = false := by simp
    clear z b2
    rw [hc]
    go_wp2_with fail
    refine C2.out.mono ?_
    intro e w3 hN2
    rcases hN2 with ⟨_, rfl, b3⟩ | ⟨y, _⟩
    · have B3 := hide (B2.out.trans (b3.mono B2.out.size))
      clear b3
      rw [hc]
      clear hc
      go_wp2_with fail
      refine (awake_core _).mono ?_
      rintro _ w4 ⟨rfl, b4⟩
      have B4 := hide (B3.out.trans (b4.mono B3.out.size))
      clear b4
      go_wp2_with fail
      go_ret
      exact ⟨rfl, B4.out⟩
    · exact absurd y ZZ.out
  · have B2 := hide (B1.out.trans (b2.mono B1.out.size))
    have C2 := hide (newR_core (w := w2) _ L (HL.out.below B2.out) LM.out OK.out)
    have HSI := hide hSI
    have BB2 := hide b2
    have HF := hide hF
    have ZZ := hide z
    clear hSI b2 hF z
    go_wp2_with fail
    refine C2.out.mono ?_
    intro e w3 hN2
    rcases hN2 with ⟨y, _⟩ | ⟨_, mr, G, r, rfl, hab, hRI, b3, hG⟩
    · exact absurd ZZ.out y
    · have hmr : ∃ rb, mr = ⟨rb, 0, none⟩ := by
        obtain ⟨b, _, _, _, _, _, _, _, _, e, _⟩ := hRI
        exact ⟨b, e⟩
      obtain ⟨rb, rfl⟩ := hmr
      have hTW := TW.new B1.out HSI.out BB2.out HF.out hab hRI b3 hG
      obtain ⟨w4, hw4⟩ : ∃ w4, w4 = w3.alloc (.cells #[.slice fo Q fcap, .slice po P pcap] 23) := ⟨_, rfl⟩
      have HLP : Hid (LP w w1.heap.size w3.heap.size m rb (.slice fo Q fcap) (.slice po P pcap) w4 (initS L)) := hide (by
        obtain ⟨F', G', h1, h2, h3, h4, h5, h6, h7⟩ := hTW
        have b4 : Below w3.heap.size w3 w4 := by rw [hw4]; exact (Below.refl _ _).alloc (Nat.le_refl _) _
        have hh : w4.heap[w3.heap.size]? = some (.cells #[.slice fo Q fcap, .slice po P pcap] 23 (0, 0)) := by rw [hw4]; exact heap_alloc_new _ _
        refine ⟨F', G', (TF.mk h1 h2 h3 h4 h5 h6 h7).next b4, fun z => by have := h1.lt _ z; omega, fun z => by have := h2.lt _ z; omega, by rw [hw4]; simp, ?_, ?_⟩
        · rw [cell_of_row w4 w3.heap.size _ _ _ (0, 0) hh]; rfl
        · rw [cell_of_row w4 w3.heap.size _ _ _ (0, 0) hh]; rfl)
      have HW4 := hide hw4
      obtain ⟨S0, hS0⟩ : ∃ S0, S0 = initS L := ⟨_, rfl⟩
      rw [← hS0] at HLP
      clear hS0 hTW hab hRI b3 hG HSI BB2 HF C2 B2 HO ZZ hw4
      go_wp2_with fail
      rw [← HW4.out]
      clear HW4
      go_loopw [65] (fun iv wr => ∃ (q : Nat) (S : Sc), iv = .int .i64 (q : Int) ∧ q ≤ 2 ∧ Hid (LP w w1.heap.size w3.heap.size m rb (.slice fo Q fcap) (.slice po P pcap) wr S)) (fun iv _ => 2 - (intOf iv).toNat)
      case atStart => exact ⟨0, S0, rfl, Nat.zero_le _, HLP⟩
      case round =>
        clear HLP
        obtain ⟨q, S, rfl, hq, HLP⟩ := hrel
        by_cases hql : q < 2
        · have LD : ∃ (lo_ : Option Addr) (lc : Nat) (ll : List Int), wr.cell? ⟨w3.heap.size, q, none⟩ = some (.slice lo_ ll.length lc) ∧ IntsAt w (.slice lo_ ll.length lc) ll ∧ ll.length ≤ 400 ∧ ll.length ≤ lc ∧ lc ≤ 9223372036854775807 := by
            obtain ⟨_, _, _, _, _, _, c0, c1⟩ := HLP.out
            match q, hql with
            | 0, _ =>
              have hF := HFI.out
              obtain ⟨_, _, e, a1, a2, _⟩ := hF
              injection e with _ _ e
              exact ⟨fo, fcap, first, by rw [HQL.out]; exact c0, by rw [HQL.out]; exact HFI.out, by rw [HQL.out]; exact hf, by omega, by omega⟩
            | 1, _ =>
              have hF := HP.out
              obtain ⟨_, _, e, a1, a2, _⟩ := hF
              injection e with _ _ e
              exact ⟨po, pcap, picks, by rw [HPL.out]; exact c1, by rw [HPL.out]; exact HP.out, by rw [HPL.out]; exact hp, by omega, by omega⟩
          obtain ⟨lo_, lc, ll, cq, hLI, ll4, llc, llm⟩ := LD
          obtain ⟨Fs, Gs, hTF, nF, nG, hB0, cc0, cc1⟩ := HLP.out
          obtain ⟨o5, c5, w5, r5, own5, b5⟩ := copy_ints 23 (hLI.below hTF.be) (by omega)
          obtain ⟨g6, c6, w6, r6, own6, z6, y6, t6, u1, u2, u3⟩ := push1 own5 (by omega) b5.size 171 23
          have b6 : Below wr.heap.size wr w6 := by
            refine ⟨by rw [u1]; exact b5.os, by rw [u2]; exact b5.tape, by rw [u3]; exact b5.output, by have := b5.size; omega, fun x hx => ?_⟩
            have s5 := b5.size
            rw [y6 x (by omega) (fun e => by have := (own5.lt x e).1; omega)]
            exact b5.block x hx
          have hli : ∀ x ∈ ll, i64 x := by obtain ⟨_, _, _, _, _, _, h, _⟩ := hLI; exact h
          obtain ⟨M, hM⟩ : ∃ M, ll.length = M := ⟨_, rfl⟩
          rw [hM] at r5 r6 own6 cq llc ll4
          obtain ⟨iu, icap, icm, imk, igl, igb⟩ := ints_pre hM own6 hli
          have T6 := hTF.next b6
          have nF6 : ¬ Fs g6 := fun f => by have := hTF.s.lt _ f; omega
          have nG6 : ¬ Gs g6 := fun f => by have := hTF.r.lt _ f; omega
          have apF : Apart (.slice (some ⟨g6, 0, none⟩) M c6) Fs := fun g off n c e _ => by
            injection e with e _ _
            injection e with e
            injection e with e _
            subst e
            exact nF6
          have apG : Apart (.slice (some ⟨g6, 0, none⟩) M c6) Gs := fun g off n c e _ => by
            injection e with e _ _
            injection e with e
            injection e with e _
            subst e
            exact nG6
          have hLM : IntsAt w (.slice lo_ M lc) ll := by rw [hM] at hLI; exact hLI
          have apL : Apart (.slice lo_ M lc) Gs := fun g off n c e hn0 f => by
            have h5 := T6.gl g f
            have h6 := T6.l0
            obtain ⟨o', c', e', _, _, _, _, h8⟩ := hLI
            rw [hM] at e'
            injection e' with e1 _ _
            injection e with e2 en _
            obtain ⟨g', off', e3, hg', _⟩ := h8 (fun z => by rw [z] at hM; simp at hM; omega)
            rw [← e1, e2] at e3
            injection e3 with e3
            injection e3 with e3 _
            omega
          obtain ⟨A, hA⟩ : ∃ A : Int, (((playS S ll).1 : Nat) : Int) = A := ⟨_, rfl⟩
          obtain ⟨B, hB⟩ : ∃ B : Int, (((playS S ll).2.1 : Nat) : Int) = B := ⟨_, rfl⟩
          obtain ⟨S', hS'⟩ : ∃ S', (playS S ll).2.2 = S' := ⟨_, rfl⟩
          have C1 := hide (T6.landPlay iu apF (by omega))
          have C2 : Hid (∀ W F', TF w w1.heap.size W m rb S' S F' Gs → Calls Try.prog 14 #[.pointer (some ⟨rb, 0, none⟩), .slice lo_ M lc] W fun e w' => e = .returned (.tuple #[.int .i64 A, .int .i64 B]) ∧ Kept Gs W w' ∧ ∃ G', TF w w1.heap.size w' m rb S' S' F' G' ∧ ∀ x, G' x → Gs x ∨ W.heap.size ≤ x) := hide (fun W F' hW => by
            have := hW.refPlay (hLM.below hW.be) apL (by omega)
            rw [hA, hB, hS'] at this
            exact this)
          rw [hA, hB, hS'] at C1
          have PK : Hid (∀ w7 w8, Kept Fs w6 w7 → Kept Gs w7 w8 → IntsAt w8 (.slice (some ⟨g6, 0, none⟩) M c6) ll ∧ ∀ W, Below w8.heap.size w8 W → W.cell? ⟨g6, M, none⟩ = some (.int .i64 171)) := hide (fun w7 w8 k7 k8 => by
            have s7 := k7.size
            have s8 := k8.size
            exact ⟨(iu.kept apF k7).kept apG k8, fun W hW => ((hW.cell (p := ⟨g6, M, none⟩) (show g6 < _ by omega)).trans ((k8.cell (by omega) nG6).trans (k7.cell igl nF6))).trans imk⟩)
          have LPN : Hid (∀ w7 w8 w9 F' G', Kept Fs w6 w7 → (∀ x, F' x → Fs x ∨ w6.heap.size ≤ x) → Kept Gs w7 w8 → (∀ x, G' x → Gs x ∨ w7.heap.size ≤ x) → TF w w1.heap.size w8 m rb S' S' F' G' → Below w8.heap.size w8 w9 → LP w w1.heap.size w3.heap.size m rb (.slice fo Q fcap) (.slice po P pcap) w9 S') := hide (fun w7 w8 w9 F' G' k7 f7 k8 g8 t8 b9 => by
            have s6 := b6.size
            have s7 := k7.size
            have s8 := k8.size
            have s9 := b9.size
            have cl : ∀ k, w9.cell? ⟨w3.heap.size, k, none⟩ = wr.cell? ⟨w3.heap.size, k, none⟩ := fun k => (b9.cell (p := ⟨w3.heap.size, k, none⟩) (show w3.heap.size < _ by omega)).trans ((k8.cell (by omega) nG).trans ((k7.cell (by omega) nF).trans (b6.cell (p := ⟨w3.heap.size, k, none⟩) hB0)))
            refine ⟨F', G', t8.next b9, fun f => ?_, fun f => ?_, by omega, (cl 0).trans cc0, (cl 1).trans cc1⟩
            · rcases f7 _ f with z | z
              · exact nF z
              · omega
            · rcases g8 _ f with z | z
              · exact nG z
              · omega)
          have HLM := hide hLM
          have aa : (A != A) = false := by simp
          have bb : (B != B) = false := by simp
          have j1 : (q : Int) < 2 := by omega
          have j2 : (0 : Int) ≤ (q : Int) := by omega
          have R5 := hide r5
          have R6 := hide r6
          have mc : M ≤ c6 := by omega
          have mm : (M : Int) ≤ 400 := by omega
          clear hA hB hS' HLP hTF nF nG hB0 cc0 cc1 r5 r6 own5 own6 b5 b6 z6 y6 t6 u1 u2 u3 hli iu imk igl igb T6 nF6 nG6 apF apG apL hLM hLI hM
          go_wp2_with (first
            | (at_builtin; refine list_append_run (by rfl) (.tmp 69) (.tmp 70) 23 (by rfl) (by rfl) (by rfl) R5.out ?_)
            | (at_builtin; refine list_append_run (by rfl) (.tmp 71) (.tmp 72) 23 (by rfl) (by rfl) (by rfl) R6.out ?_))
          refine C1.out.mono ?_
          rintro _ w7 ⟨rfl, k7, F7, t7, f7⟩
          have K7 := hide k7
          have F7' := hide f7
          have C2' := hide (C2.out _ _ t7)
          clear C1 C2 R5 R6 k7 f7 t7
          go_wp2_with fail
          refine C2'.out.mono ?_
          rintro _ w8 ⟨rfl, k8, G8, t8, g8⟩
          have K8 := hide k8
          have G8' := hide g8
          have T8 := hide t8
          obtain ⟨i8, c8⟩ := PK.out w7 w8 K7.out k8
          have C8 := hide c8
          have CL := hide (list_same i8 (HLM.out.below t8.be))
          clear C2' k8 g8 t8 i8 c8
          go_wp2_with fail
          refine CL.out.mono ?_
          rintro _ w9 ⟨rfl, b9⟩
          have c9 := C8.out _ b9
          have B9 := hide b9
          have CA := hide ((T8.out.next b9).tw.alike (HNM.out.below (T8.out.next b9).be))
          clear b9 C8 CL
          go_wp2_with fail
          refine CA.out.mono ?_
          rintro _ w10 ⟨rfl, b10⟩
          have NX := hide (LPN.out w7 w8 w10 F7 G8 K7.out F7'.out K8.out G8'.out T8.out (B9.out.trans (b10.mono B9.out.size)))
          clear b10 CA LPN K7 K8 F7' G8' T8 B9
          go_wp2_with fail
          go_roundw
          case rel => exact ⟨q + 1, S', by go_num, by omega, NX⟩
          case measure => simp [intOf]; omega
        · obtain rfl : q = 2 := by omega
          have d1 : ¬ ((2 : Nat) : Int) < 2 := by omega
          have BE : Hid (Below w.heap.size w wr) := hide (by obtain ⟨_, _, h, _⟩ := HLP.out; exact h.be)
          clear HLP
          go_wp2_with fail
          refine (awake_core _).mono ?_
          rintro _ w6 ⟨rfl, b6⟩
          have B6 := hide (BE.out.trans (b6.mono BE.out.size))
          clear b6
          go_wp2_with fail
          go_ret
          exact ⟨rfl, B6.out⟩
theorem plays_any {w : World} {v fv pv nv : Value} {L : List (List Stp)} {first picks names : List Int} (hL : TasksAt w v L) (hok : ∀ t ∈ L, ∀ s ∈ t, s.Ok) (hl1 : L.length ≤ 140737488355328) (hl2 : ∀ t ∈ L, t.length ≤ 140737488355328) (hFi : IntsAt w fv first) (hP : IntsAt w pv picks) (hNm : IntsAt w nv names) :
    Calls Try.prog 4 #[v, fv, pv, nv] w fun e w' => e = .returned (.bool true) ∧ Below w.heap.size w w' := by
  have hh := heavy_core v L hL (by omega) (fun t ht => by have := hl2 t ht; omega)
  by_cases hm : 400 < L.length + lens L
  · obtain ⟨fo, fcap, rfl, fl⟩ := hFi.shape
    obtain ⟨po, pcap, rfl, pl⟩ := hP.shape
    obtain ⟨no, ncap, rfl, nl⟩ := hNm.shape
    have HH := hide hh
    have HM := hide hm
    clear hh hL hP hNm hok hl1 hl2 hm hFi
    go_enter Try.func4, Try.ntmps4
    go_wp2_with fail
    refine HH.out.mono ?_
    rintro e w1 ⟨he, hw1⟩
    rw [decide_eq_true HM.out] at he
    subst he
    rw [hw1]
    clear hw1 w1 HH
    go_wp2_with fail
    go_ret
    exact ⟨rfl, Below.refl _ _⟩
  · by_cases hf : first.length ≤ 400
    · by_cases hp : picks.length ≤ 400
      · exact plays_core hL hok hFi hP hNm (by omega) hf hp hh
      · obtain ⟨fo, fcap, rfl, fl⟩ := hFi.shape
        obtain ⟨po, pcap, rfl, pl⟩ := hP.shape
        obtain ⟨no, ncap, rfl, nl⟩ := hNm.shape
        have HH := hide hh
        have HM := hide hm
        obtain ⟨P, hPl⟩ : ∃ P, picks.length = P := ⟨_, rfl⟩
        obtain ⟨Q, hQl⟩ : ∃ P, first.length = P := ⟨_, rfl⟩
        rw [hPl] at pl hp ⊢
        rw [hQl] at fl hf ⊢
        have dq : decide (400 < (Q : Int)) = false := decide_eq_false (by omega)
        have dp : decide (400 < (P : Int)) = true := decide_eq_true (by omega)
        clear hh hL hP hNm hok hl1 hl2 hm hp hPl hf hQl hFi
        go_enter Try.func4, Try.ntmps4
        go_wp2_with fail
        refine HH.out.mono ?_
        rintro e w1 ⟨he, hw1⟩
        rw [decide_eq_false HM.out] at he
        subst he
        rw [hw1]
        clear hw1 w1 HH
        go_wp2_with fail
        go_ret
        exact ⟨rfl, Below.refl _ _⟩
    · obtain ⟨fo, fcap, rfl, fl⟩ := hFi.shape
      obtain ⟨po, pcap, rfl, pl⟩ := hP.shape
      obtain ⟨no, ncap, rfl, nl⟩ := hNm.shape
      have HH := hide hh
      have HM := hide hm
      obtain ⟨Q, hQl⟩ : ∃ P, first.length = P := ⟨_, rfl⟩
      rw [hQl] at fl hf ⊢
      have dq : decide (400 < (Q : Int)) = true := decide_eq_true (by omega)
      clear hh hL hP hNm hok hl1 hl2 hm hf hQl hFi
      go_enter Try.func4, Try.ntmps4
      go_wp2_with fail
      refine HH.out.mono ?_
      rintro e w1 ⟨he, hw1⟩
      rw [decide_eq_false HM.out] at he
      subst he
      rw [hw1]
      clear hw1 w1 HH
      go_wp2_with fail
      go_ret
      exact ⟨rfl, Below.refl _ _⟩
end Go.Proofs.Ytlcbegmhmbegjaa
