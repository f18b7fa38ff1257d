/- CacheUndo: its walk. -/
import Derived.Test.YtnclicdnncgdiaaDoorQl
namespace Go.Proofs.YtnclicdnncgdiaaDoor
open Go.ChangeShapes Go.WideShapes Go.ChangeAt Go.RowKit Go.Proofs.Bt Go.Shelf Go.Proofs.Rx Go.Maps Go.Proofs.Pk
set_option linter.unusedVariables false
set_option linter.unusedSimpArgs false

/-- A tree and an empty cache. -/
def TC0 (N cb tb : Nat) (w W : World) : Prop := ∃ st, TC N (fun x => x = cb) w W tb cb st 0 0 0
theorem TC.chg {N : Nat} {O : Nat → Prop} {w W W' : World} {tb cb : Nat} {st st' : Nat → Nat} {B H G : Nat} (h : TC N O w W tb cb st B H G) (c : Chg N O W tb st' W') : TC N O w W' tb cb st' B H G := by
  obtain ⟨t, l⟩ := h.t.chg c
  exact h.tree t l
/-- What was told lies there. -/
def WasAt (W : World) (g : Nat) (st : Nat → Nat) : Prop := g < W.heap.size ∧ ∀ j, j < 512 → W.cell? ⟨g, 2 * j, none⟩ = some (.bool (fre st (512 + j))) ∧ W.cell? ⟨g, 2 * j + 1, none⟩ = some (.bool (rel st (512 + j)))
theorem WasAt.same {W W' : World} {g : Nat} {st : Nat → Nat} (h : WasAt W g st) (e : W'.heap[g]? = W.heap[g]?) (hs : W.heap.size ≤ W'.heap.size) : WasAt W' g st := ⟨Nat.lt_of_lt_of_le h.1 hs, fun j hj => ⟨(cell_block e _).trans (h.2 j hj).1, (cell_block e _).trans (h.2 j hj).2⟩⟩
theorem UnI.was {N cb tb : Nat} {w W : World} {st : Nat → Nat} {v : Value} (h : UnI N cb tb w st 512 v W) : ∃ g c', v = .slice (some ⟨g, 0, none⟩) 1024 c' ∧ WasAt W g st ∧ v.ownBlock = some g ∧ g ≠ cb ∧ 1024 ≤ c' := by
  have ho := h.o
  obtain ⟨hl, ⟨rfl, hn⟩ | ⟨g, cap, cur, rfl, hb, hh, hnc, hcm, hcs, ht⟩⟩ := h.o
  · omega
  · refine ⟨g, cap, rfl, ⟨(Array.getElem?_eq_some_iff.1 hh).1, fun j hj => ?_⟩, rfl, by omega, by omega⟩
    obtain ⟨a, b⟩ := wasL_at st 512 j hj
    have hc := ho.cells (g := g) rfl
    have q1 := hc _ _ a
    have q2 := hc _ _ b
    rw [addr_add0, Nat.zero_add] at q1 q2
    exact ⟨q1, q2⟩
set_option maxRecDepth 100000 in
set_option maxHeartbeats 4000000 in
theorem undo_any (w : World) (ht : TabW w) (o : Option Addr) (len cap : Nat) (hA : len ≤ maxLen ∧ len ≤ cap ∧ ∃ X, U64At w o len cap X) (sc : Int) (hsc : (Lit.int .u64 sc).wf = true) :
    Calls Tryd.prog 3 #[.slice o len cap, .int .u64 sc] w fun e w' => e = .returned (.bool true) ∧ Below w.heap.size w w' := by
  obtain ⟨hm, hc, X, hX⟩ := hA
  obtain ⟨N, hN⟩ : ∃ N, w.heap.size = N := ⟨_, rfl⟩
  obtain ⟨R, hR⟩ : ∃ R : Ending → World → Prop, R = fun e w' => e = .returned (.bool true) ∧ Below w.heap.size w w' := ⟨_, rfl⟩
  rw [← hR]
  have FIN := hide (show ∀ W, Below N w W → R (.returned (.bool true)) W from fun W hW => by rw [hR]; exact ⟨rfl, by rw [hN]; exact hW⟩)
  have l0 : 0 ≤ (len : Int) := by omega
  have lm : (len : Int) ≤ 9223372036854775807 := by unfold maxLen at hm; omega
  have sc0 := (bounds_u64 hsc).1
  have sc1 := (bounds_u64 hsc).2
  by_cases hl : 40 < len
  · have F0 := hide (FIN.out w (Below.refl _ _))
    have dl : decide (40 < (len : Int)) = true := decide_eq_true (by omega)
    clear hR hX hN ht FIN hm hc hsc
    go_enter Tryd.func3, Tryd.ntmps3
    go_wp2_with fail
    first | exact F0.out | (go_ret; exact F0.out)
  have dl : decide (40 < (len : Int)) = false := decide_eq_false (by omega)
  have l1 : (len : Int) ≤ 40 := by omega
  have CN := hide (t9_new ht hN)
  have HX := hide hX
  have HN := hide hN
  obtain ⟨SC, hSC⟩ : ∃ SC : Nat, sc = (SC : Int) := ⟨sc.toNat, by omega⟩
  subst hSC
  clear hR hX hm hc hN ht hl hsc
  go_enter Tryd.func3, Tryd.ntmps3
  go_wp2_with fail
  refine CN.out.mono ?_
  rintro e w1 ⟨tb, rfl, t1⟩
  have T1 := hide t1
  have CC := hide (ccNew w1)
  clear CN t1 dl
  go_wp2_with fail
  refine CC.out.mono ?_
  rintro e w2 ⟨rfl, hw2⟩
  obtain ⟨cb, hcb⟩ : ∃ cb, w1.heap.size = cb := ⟨_, rfl⟩
  have s2 := tc_new (cb := cb) T1.out hw2 hcb.symm
  have S2 := hide (show TC N (fun x => x = cb) w w2 tb cb (fun _ => 0) 0 0 0 from ⟨s2.t.more (Below.refl _ _) (fun x hx => .inl (.inr hx)), s2.c, rfl⟩)
  have CG := hide (t9_grow S2.out.t 1 1 (by unfold GrowBad; omega) (by rw [tl_all (s := 0) fun q _ _ => rfl]; rfl))
  simp only [Int.cast_ofNat_Int] at CG
  rw [hcb]
  clear CC hw2 T1 hcb s2
  go_wp2_with fail
  refine CG.out.mono ?_
  rintro e w3 ⟨rfl, t3, l3⟩
  have I0 := hide (show TC0 N cb tb w w3 from ⟨_, S2.out.tree t3 l3⟩)
  clear CG t3 l3 S2
  go_wp2_with fail
  go_loopw [7] (fun iv wr => ∃ i : Int, iv = .int .i64 i ∧ 0 ≤ i ∧ i ≤ len ∧ Hid (TC0 N cb tb w wr)) (fun iv _ => (len - intOf iv).toNat)
  case atStart => exact ⟨0, rfl, by omega, by omega, I0⟩
  case round =>
    clear I0
    obtain ⟨i, rfl, i0, i1, HE⟩ := hrel
    by_cases hi : i < len
    · obtain ⟨st, h⟩ := HE.out
      have HI := hide h
      obtain ⟨b, off, rfl, hb, hcl⟩ := HX.out.at (i := i.toNat) (by omega)
      have z0 := hcl i.toNat (by omega)
      have be := h.t.be.block b (by rw [← HN.out]; exact hb)
      have d0 := (cell_block be _).trans z0
      have x0 := HX.out.lo i.toNat
      have x1 := HX.out.hi i.toNat
      obtain ⟨n, hn⟩ : ∃ n : Nat, X i.toNat = (n : Int) := ⟨(X i.toNat).toNat, by omega⟩
      rw [hn] at d0 x0 x1
      have hbN : b < N := by rw [← HN.out]; exact hb
      have CEL := hide (show ∀ Z : World, Below N w Z → Z.cell? ⟨b, off + i.toNat, none⟩ = some (.int .u64 (n : Nat)) from fun Z hZ => (cell_block (hZ.block b hbN) _).trans (by rw [z0, hn]))
      have F0 := hide (FIN.out wr h.t.be)
      clear hcl hb z0 be hn HE h hbN
      by_cases n1 : (n : Int) < 1
      · have q1 : decide ((n : Int) < 1) = true := decide_eq_true n1
        clear HI CEL FIN n1
        go_wp2_with fail
        first | exact F0.out | (go_ret; exact F0.out)
      have q1 : decide ((n : Int) < 1) = false := decide_eq_false n1
      by_cases n2 : 100 < (n : Int)
      · have q2 : decide (100 < (n : Int)) = true := decide_eq_true n2
        clear HI CEL FIN n1 n2
        go_wp2_with fail
        first | exact F0.out | (go_ret; exact F0.out)
      have q2 : decide (100 < (n : Int)) = false := decide_eq_false n2
      have CA := hide (alloc_any HI.out.t.tr n (by omega))
      clear F0 x0 x1
      go_wp2_with fail
      refine CA.out.mono ?_
      rintro e u1 (⟨z, _⟩ | ⟨_, _, rfl, hc⟩ | ⟨_, p, hp, hf, rfl, hc⟩)
      · omega
      · have H1 := hide (show TC0 N cb tb w u1 from ⟨_, HI.out.chg hc⟩)
        clear CA hc HI CEL d0
        go_wp2_with fail
        go_roundw
        case rel => exact ⟨i + 1, by go_num, by omega, by omega, H1⟩
        case measure => simp [intOf]; omega
      · have T1 := hide (HI.out.chg hc)
        have d1 := CEL.out u1 T1.out.t.be
        generalize ((tl st p n).r : Int) = rr
        by_cases h3 : i % 3 = 1
        · have q3 : (i % 3 == 1) = true := beq_iff_eq.2 h3
          have CG := hide (fun Z (hZ : Below u1.heap.size u1 Z) => t9_give (T1.out.t.read hZ).1 p n (inT_run (by omega) hp (fun q q1 q2 => by rw [setSt_in ⟨q1, q2⟩]; decide)) (tl_run_used (fun q q1 q2 => by rw [setSt_in ⟨q1, q2⟩]; decide)))
          have NX := hide (show ∀ Z u2, Below u1.heap.size u1 Z → T9 N (fun x => x = cb) w u2 tb (setSt (setSt st p (p + n) 1) p (p + n) 2) → Left9 N (fun x => x = cb) Z u2 → TC0 N cb tb w u2 from fun Z u2 hZ t2 l2 => ⟨_, (T1.out.read hZ).tree t2 l2⟩)
          obtain ⟨P, hP⟩ : ∃ P : Int, (p : Int) = P := ⟨_, rfl⟩
          rw [hP] at CG ⊢
          clear CA hc HI CEL d0 hf hp hP h3
          go_wp2_with fail
          refine (CG.out u1 (Below.refl _ _)).mono ?_
          rintro e u2 ⟨rfl, t2, l2⟩
          have H1 := hide (NX.out u1 u2 (Below.refl _ _) t2 l2)
          clear CG NX t2 l2 d1
          go_wp2_with fail
          go_roundw
          case rel => exact ⟨i + 1, by go_num, by omega, by omega, H1⟩
          case measure => simp [intOf]; omega
        · have q3 : (i % 3 == 1) = false := beq_eq_false_iff_ne.2 h3
          have H1 := hide (show TC0 N cb tb w u1 from ⟨_, T1.out⟩)
          obtain ⟨P, hP⟩ : ∃ P : Int, (p : Int) = P := ⟨_, rfl⟩
          rw [hP]
          clear CA hc HI CEL d0 hf hp hP h3 T1
          go_wp2_with fail
          go_roundw
          case rel => exact ⟨i + 1, by go_num, by omega, by omega, H1⟩
          case measure => simp [intOf]; omega
    · have hd : decide (i < (len : Int)) = false := decide_eq_false hi
      obtain ⟨st0, h⟩ := HE.out
      have HI := hide h
      have CS := hide (scav9_any h.t.tr SC (by omega))
      have NX := hide (show ∀ e u1, ScavT N (fun x => x = cb) wr tb st0 SC e u1 → ∃ v1 v2 : Int, e = .returned (.tuple #[.int .u64 v1, .int .u64 v2]) ∧ TC0 N cb tb w u1 from fun e u1 hs => by
        rcases hs with ⟨_, he, hc⟩ | ⟨_, _, _, _, _, _, _, _, _, _, _, _, _, he, hc⟩
        · exact ⟨_, _, he, _, h.chg hc⟩
        · exact ⟨_, _, he, _, h.chg hc⟩)
      clear hi HE h HX
      go_wp2_with fail
      refine CS.out.mono ?_
      intro e u1 hs
      obtain ⟨v1, v2, rfl, st, h1⟩ := NX.out e u1 hs
      have U0 := hide (show UnI N cb tb w st 0 (.slice none 0 0) u1 from ⟨⟨h1.t.more (Below.refl _ _) (fun x hx => .inl (by
        rcases hx with z | z
        · exact z
        · cases z)), h1.c, .inl rfl⟩, World.ownsRow_nil _ _ _ _⟩)
      clear CS NX hs h1 HI
      go_wp2_with fail
      go_loopw [11, 12] (fun vv kv wr => ∃ K : Int, ∃ o' n' c', vv = .slice o' n' c' ∧ kv = .int .u64 K ∧ 512 ≤ K ∧ K ≤ 1024 ∧ Hid (UnI N cb tb w st (K - 512).toNat (.slice o' n' c') wr)) (fun _ kv _ => (1024 - intOf kv).toNat)
      case atStart => exact ⟨512, _, _, _, rfl, rfl, by omega, by omega, U0⟩
      case round =>
        clear U0
        obtain ⟨K, o', n', c', rfl, rfl, k0, k1, HU⟩ := hrel
        by_cases hk : K < 1024
        · have CT := hide (t9_state HU.out.c.t (512 + (K - 512).toNat) (by omega))
          rw [show ((512 + (K - 512).toNat : Nat) : Int) = K by omega] at CT
          obtain ⟨f, hf⟩ : ∃ f, fre st (512 + (K - 512).toNat) = f := ⟨_, rfl⟩
          obtain ⟨g, hg⟩ : ∃ g, rel st (512 + (K - 512).toNat) = g := ⟨_, rfl⟩
          rw [hf, hg] at CT
          generalize inU st (512 + (K - 512).toNat) = u at CT
          go_wp2_with fail
          refine CT.out.mono ?_
          rintro e u2 ⟨rfl, t2, l2⟩
          obtain ⟨u3, hu3⟩ : ∃ u3, u3 = u2.alloc (.cells #[.bool f, .bool g] 4) := ⟨_, rfl⟩
          obtain ⟨g', cap', Y, hrun, hnext⟩ := HU.out.next t2 l2 (by omega) (W3 := u3) (by rw [hu3, hf, hg]) 34
          have RUN := hide hrun
          have NX := hide (show UnI N cb tb w st (K + 1 - 512).toNat (.slice (some ⟨g', 0, none⟩) (2 * (K - 512).toNat + 2) cap') Y from by rw [show (K + 1 - 512).toNat = (K - 512).toNat + 1 by omega]; exact hnext)
          rw [hu3] at RUN
          clear CT t2 l2 hrun hnext hf hg hu3 HU
          go_wp2_with (at_builtin; refine list_append_run (by rfl) (.tmp 102) (.tmp 105) 34 (by rfl) (by rfl) (by rfl) RUN.out ?_)
          go_roundw
          case rel => exact ⟨K + 1, _, _, _, rfl, by go_num, by omega, by omega, NX⟩
          case measure => simp [intOf]; omega
        · have dk : decide (K < 1024) = false := decide_eq_false hk
          have HU2 := hide (show UnI N cb tb w st 512 (.slice o' n' c') wr from by have h := HU.out; rwa [show (K - 512).toNat = 512 by omega] at h)
          clear HU hk
          obtain ⟨g, c2, hv, wa, ob, gne, cc2⟩ := HU2.out.was
          injection hv with hv1 hv2 hv3
          subst hv1 hv2 hv3
          obtain ⟨O, hO⟩ : ∃ O : Nat → Prop, O = fun x => x = cb ∨ x = g := ⟨_, rfl⟩
          have S0 := hide (show TC N O w wr tb cb st 0 0 0 from by
            refine ⟨HU2.out.c.t.more (Below.refl _ _) (fun x hx => .inl ?_), HU2.out.c.c, by rw [hO]; exact .inl rfl⟩
            rw [hO] at hx
            rcases hx with z | z
            · exact .inl z
            · exact .inr (by rw [z]; exact ob))
          have OG := hide (show O g from by rw [hO]; exact .inr rfl)
          have WA := hide wa
          have KC := hide (show ∀ A A' : World, WasAt A g st → LeftC N O cb A A' → WasAt A' g st from fun A A' ha l => ha.same (Kept.block l g ha.1 (fun z => by
            rcases z.2 with y | y
            · exact y OG.out
            · exact gne y)) (Kept.size l))
          have KL := hide (show ∀ A A' : World, WasAt A g st → Left9 N O A A' → WasAt A' g st from fun A A' ha l => ha.same (Kept.block l g ha.1 (fun z => z.2 OG.out)) (Kept.size l))
          have CF := hide (tc_fill_all S0.out)
          clear HU2 wa ob hO
          go_wp2_with fail
          refine CF.out.mono ?_
          rintro e u2 ⟨v, st1, B, H, G, rfl, hv, s2, l2, uf⟩
          have UF := hide uf
          have S2 := hide s2
          have W2 := hide (KC.out _ _ WA.out l2)
          have CE := hide (ccEmpty s2.c)
          obtain ⟨z, hz⟩ : ∃ z, decide (H = 0) = z := ⟨_, rfl⟩
          rw [hz] at CE hv
          have hzz : ((!z) == z) = false := by cases z <;> rfl
          clear CF s2 l2 uf S0 WA hz
          go_wp2_with fail
          refine CE.out.mono ?_
          rintro e u9 ⟨rfl, hu9⟩
          rw [hu9]
          clear hu9 u9 CE
          obtain ⟨t1, t3, ht⟩ := tell_mid B H G
          have CT := hide (tc_tell S2.out)
          rw [ht] at CT
          clear ht
          go_wp2_with fail
          refine CT.out.mono ?_
          rintro e u3 ⟨rfl, s3, b3⟩
          have S3 := hide s3
          have W3 := hide (W2.out.same (b3.block g W2.out.1) b3.size)
          have hH := UF.out.h
          have hp64 := pc_le64 hH
          clear CT s3 b3 S2 W2
          go_wp2_with fail
          go_loop [20, 21] (fun nv xv => ∃ n x : Nat, nv = .int .u64 (n : Nat) ∧ xv = .int .u64 (x : Nat) ∧ x < 18446744073709551616 ∧ (n : Int) ≤ 64 ∧ Hid (n + pc x = pc H)) (fun _ xv => (intOf xv).toNat)
          case atStart => exact ⟨0, H, rfl, rfl, hH, by omega, hide (Nat.zero_add _)⟩
          case round =>
            obtain ⟨n, x, rfl, rfl, hx, hn, HP⟩ := hrel
            by_cases x0 : (0 : Int) < x
            · have e1 : bits .and .u64 (x : Int) 1 = ((x % 2 : Nat) : Int) := by
                rw [show (1 : Int) = ((1 : Nat) : Int) from rfl, w_and _ _ hx (by decide), Nat.and_one_is_mod]
              have hs := pc_step x
              have HQ := hide (show n + x % 2 + pc (x / 2) = pc H from by have := HP.out; omega)
              have n64 : ((n + x % 2 : Nat) : Int) ≤ 64 := by have := HP.out; omega
              have ew : IntKind.u64.wrap ((n : Int) + ((x % 2 : Nat) : Int)) = ((n + x % 2 : Nat) : Int) := by rw [IntKind.wrap_u64]; omega
              clear HP hs
              go_wp2_with fail
              refine ⟨⟨n + x % 2, x / 2, by rw [show ((n + x % 2 : Nat) : Int) = (n : Int) + (x : Int) % 2 by omega], by rw [show ((x / 2 : Nat) : Int) = (x : Int) / 2 by omega], by omega, n64, HQ⟩, ?_⟩
              simp [intOf]; omega
            · obtain rfl : x = 0 := by omega
              have HN2 := hide (show n = pc H from by have := HP.out; rw [pc_zero] at this; omega)
              have CR := hide (t9_free S3.out.t)
              obtain ⟨f1, hf1⟩ : ∃ f1 : Nat, frT st1 = f1 := ⟨_, rfl⟩
              have lf := frT_le st1
              rw [hf1] at CR lf
              have HF1 := hide hf1
              clear HP x0 hf1
              go_wp2_with fail
              refine CR.out.mono ?_
              rintro e u4 ⟨rfl, t4, l4⟩
              have s4 := S3.out.tree t4 l4
              have W4 := hide (KL.out _ _ W3.out l4)
              have CL := hide (tc_flush s4 UF.out.b UF.out.sub UF.out.own)
              rw [UF.out.undo] at CL
              clear CR t4 l4 s4 S3 W3
              go_wp2_with fail
              refine CL.out.mono ?_
              rintro e u5 ⟨rfl, s5, l5⟩
              have W5 := hide (KC.out _ _ W4.out l5)
              have CE5 := hide (ccEmpty s5.c)
              rw [decide_eq_true rfl] at CE5
              have CR5 := hide (t9_free s5.t)
              rw [← UF.out.free, HF1.out, ← HN2.out, show ((f1 + n : Nat) : Int) = (f1 : Int) + (n : Int) from rfl] at CR5
              have S5 := hide s5
              clear CL s5 l5 W4
              have lf2 : (f1 : Int) ≤ 34359738368 := by omega
              go_wp2_with fail
              refine CE5.out.mono ?_
              rintro e u9 ⟨rfl, hu9⟩
              rw [hu9]
              clear hu9 u9 CE5
              go_wp2_with fail
              refine CR5.out.mono ?_
              rintro e u6 ⟨rfl, t6, l6⟩
              have J0 := hide (show TC N O w u6 tb cb st 0 0 0 ∧ WasAt u6 g st from ⟨S5.out.tree t6 l6, KL.out _ _ W5.out l6⟩)
              clear CR5 t6 l6 S5 W5 UF HN2 HF1
              go_wp2_with fail
              go_loopw [23] (fun kv wr2 => ∃ K : Int, kv = .int .u64 K ∧ 512 ≤ K ∧ K ≤ 1024 ∧ Hid (TC N O w wr2 tb cb st 0 0 0 ∧ WasAt wr2 g st)) (fun kv _ => (1024 - intOf kv).toNat)
              case atStart => exact ⟨512, rfl, by omega, by omega, J0⟩
              case round =>
                clear J0
                obtain ⟨K, rfl, k0, k1, HJ⟩ := hrel
                by_cases hk : K < 1024
                · have CT := hide (t9_state HJ.out.1.t (512 + (K - 512).toNat) (by omega))
                  rw [show ((512 + (K - 512).toNat : Nat) : Int) = K by omega] at CT
                  have CEL := hide (show ∀ Z, WasAt Z g st → Z.cell? ⟨g, (2 * (K - 512)).toNat, none⟩ = some (.bool (fre st (512 + (K - 512).toNat))) ∧ Z.cell? ⟨g, (2 * (K - 512) + 1).toNat, none⟩ = some (.bool (rel st (512 + (K - 512).toNat))) from fun Z hZ => by
                    rw [show (2 * (K - 512)).toNat = 2 * (K - 512).toNat by omega, show (2 * (K - 512) + 1).toNat = 2 * (K - 512).toNat + 1 by omega]
                    exact hZ.2 _ (by omega))
                  generalize fre st (512 + (K - 512).toNat) = a1 at CT CEL
                  generalize rel st (512 + (K - 512).toNat) = a2 at CT CEL
                  generalize inU st (512 + (K - 512).toNat) = a3 at CT
                  go_wp2_with fail
                  refine CT.out.mono ?_
                  rintro e u7 ⟨rfl, t7, l7⟩
                  have J7 := hide (show TC N O w u7 tb cb st 0 0 0 ∧ WasAt u7 g st from ⟨HJ.out.1.tree t7 l7, KL.out _ _ HJ.out.2 l7⟩)
                  obtain ⟨x1, x2⟩ := CEL.out u7 J7.out.2
                  have gl := J7.out.2.1
                  clear CT CEL t7 l7 HJ
                  go_wp2_with fail
                  go_roundw
                  case rel => exact ⟨K + 1, by go_num, by omega, by omega, J7⟩
                  case measure => simp [intOf]; omega
                · have CW := hide (awake10 HJ.out.1.t.tab)
                  have B3 := hide (And.intro HJ.out.1.t.be HJ.out.1.t.tr.lt.2.2)
                  have dk : decide (K < 1024) = false := decide_eq_false hk
                  clear hk HJ
                  go_wp2_with fail
                  refine CW.out.mono ?_
                  rintro e u8 ⟨rfl, b8⟩
                  have F9 := hide (FIN.out _ (B3.out.1.trans (b8.mono B3.out.2)))
                  clear CW b8 FIN
                  go_wp2_with fail
                  first | exact F9.out | (go_ret; exact F9.out)
end Go.Proofs.YtnclicdnncgdiaaDoor
