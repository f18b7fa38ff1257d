/- VmemStates, over the face. -/
import Derived.Test.YtpceigglilgelaaStA
import Derived.Test.YtpceigglilgelaaAwake
import Derived.Test.YtpceigglilgelaaVmKa
import Derived.StillTailTactics
import Derived.Deep.CutRange
import Derived.Deep.Cut
import Derived.Deep.CutBlock
import Derived.Deep.OwnRows
namespace Go.Proofs.Ytpceigglilgelaa
open Go.ChangeShapes Go.WideShapes Go.ChangeAt Go.RowKit Go.Proofs.Sp

theorem infoI : (Try.prog.info? 3).map (fun i => (i.zero, i.size, i.bytes)) = some (some (.int .i64 0), 1, 8) := by kernel_rfl
def was60 : Array Value := madeCells #[.int .i64 0] 60
theorem was_eq : was60 = (List.replicate 60 (Value.int .i64 0)).toArray := by kernel_rfl
theorem make60 (w : World) : (Instr.makeSlice 47 (.int .i64 60) (.int .i64 60)).run Try.prog w = .ok (.slice (some ⟨w.heap.size, 0, none⟩) 60 60) (w.alloc (.cells was60 3)) :=
  run_make_row' 47 3 (.int .i64 0) 8 Try.underlying47 infoI rfl .i64 .i64 60 (by decide) (by decide) w
theorem was_made (w : World) : WasAt (w.alloc (.cells was60 3)) w.heap.size (fun _ => 0) := by
  refine ⟨List.replicate 60 (.int .i64 0), ?_, List.length_replicate, fun k hk => ?_⟩
  · rw [heap_alloc_new, was_eq]
  · rw [List.getElem?_replicate, if_pos hk]; rfl
theorem st_high {S : Sp} (h : WF S) (p : Nat) (hp : 34359738368 ≤ p) : S.st p = 0 := by
  cases z : S.st p with
  | zero => rfl
  | succ k => have := h.below p ((h.mem p).1 (by omega)); omega
set_option maxRecDepth 100000 in
set_option maxHeartbeats 4000000 in
theorem states_core {I : Inv} (Fc : Face vm I) (hzz : vm.zero ≠ 0) (o : Option Addr) (len cap : Nat) (X : Nat → ActV) (w : World) (hA : ActsAt w o len cap X) (m4 : len ≤ 9223372036854775807) :
    Calls Try.prog 6 #[.slice o len cap] w fun e w' => e = .returned (.bool true) ∧ Below w.heap.size w w' := by
  have HA := hide hA
  clear hA
  go_enter Try.func6, Try.ntmps6
  go_wp2_with fail
  go_at_call 16
  refine (heavy_core none none none o 0 0 0 0 0 0 len cap X w HA.out (by decide) (by decide) (by decide) m4).mono ?_
  intro e w1 hP
  obtain ⟨hv, rfl, hL, b1⟩ := hP
  cases hv with
  | true =>
    go_wp2_with fail
    go_ret
    exact ⟨rfl, b1⟩
  | false =>
    obtain ⟨l120, _, _, _, light⟩ := hL rfl
    have LT := hide light
    have HB := hide b1
    clear hL light b1
    go_wp2_with fail
    go_at_call 9
    refine (Fc.new w1 _ _ _ [] [] [] (Sl.nil _) (Sl.nil _) (Sl.nil _) (by simp) (by simp) (by decide) (by decide) (by decide)).mono ?_
    rintro e w2 ⟨m, F, rfl, k1, k2, k3⟩
    have hmk := make60
    have b2 : Below w.heap.size w w2 := HB.out.trans (k2.below HB.out.size (fun _ h => h.elim))
    have jb : JB I w m w2.heap.size (w2.alloc (.cells was60 3)) (Sp.new [] [] []) 0 (fun _ => 0) := ⟨F, Fc.kept k1 (by simp) (fun b hb => Below.heap_alloc _ _ _ (Fc.lt k1 b hb)), fun b hb => by have := k3 b hb; have := HB.out.size; omega, b2.alloc b2.size _, fun z => by have := Fc.lt k1 _ z; omega, b2.size, was_made w2⟩
    obtain ⟨bw, hbw⟩ : ∃ bw, bw = w2.heap.size := ⟨_, rfl⟩
    rw [← hbw] at jb
    have J0 := hide jb
    have HW := hide hbw
    clear jb k1 k2 k3 b2 hbw HB
    go_wp2_with fail
    rw [← HW.out]
    go_loopw [5] (fun iv wr => ∃ (i K : Nat) (S : Sp), iv = .int .i64 (i : Int) ∧ i ≤ len ∧ K ≤ 100000000 * i ∧ Hid (S.pgs.length ≤ sumR X i) ∧ Hid (JB I w m bw wr S K (fun k => S.st (508 + k)))) (fun iv _ => len - (intOf iv).toNat)
    case atStart => exact ⟨0, 0, _, rfl, Nat.zero_le _, by omega, hide (Nat.le_refl _), J0⟩
    case round =>
      obtain ⟨i, K, S, rfl, hi, hK, hS, hJ⟩ := hrel
      clear J0
      by_cases hlt : i < len
      · have dl : (i : Int) < (len : Int) := by omega
        obtain ⟨b, off, rfl, hb, hc⟩ := HA.out.at hlt
        obtain ⟨k0, k1, k2, k3⟩ := hc i hlt
        rw [← hJ.out.below.cell (p := ⟨b, off + i * 4, none⟩) hb] at k0
        rw [← hJ.out.below.cell (p := ⟨b, off + i * 4 + 1, none⟩) hb] at k1
        rw [← hJ.out.below.cell (p := ⟨b, off + i * 4 + 2, none⟩) hb] at k2
        rw [← hJ.out.below.cell (p := ⟨b, off + i * 4 + 3, none⟩) hb] at k3
        have ok := HA.out.ok i
        have o1 := ok.lo
        have o2 := ok.hi
        have o3 := ok.page
        have o4 := ok.n
        have o5 := ok.x
        have sumle : sumR X (i + 1) ≤ 12000 := sum_le LT.out (by omega)
        have l1 := LT.out.one i hlt
        have pg := act_pages S (X i).what (X i).page (X i).n (X i).x
        have gs := act_goes S (X i).what (X i).page (X i).n (X i).x
        have sn : sumR X i + (if (X i).what = 1 ∧ (X i).n ≤ 134217728 then (X i).n else 0) = sumR X (i + 1) := rfl
        have PG : Hid ((actS S (X i).what (X i).page (X i).n (X i).x).pgs.length ≤ sumR X (i + 1)) := hide (by have := hS.out; omega)
        have p12 : S.pgs.length ≤ 12000 := by have := hS.out; omega
        obtain ⟨a, ha⟩ : ∃ a, a = (X i).what := ⟨_, rfl⟩
        obtain ⟨p, hp⟩ : ∃ p, p = (X i).page := ⟨_, rfl⟩
        obtain ⟨n, hn⟩ : ∃ n, n = (X i).n := ⟨_, rfl⟩
        obtain ⟨x, hx⟩ : ∃ x, x = (X i).x := ⟨_, rfl⟩
        rw [← ha] at k0 o1 o2 l1 gs PG
        rw [← hp] at k1 o3 gs PG
        rw [← hn] at k2 o4 l1 gs PG
        rw [← hx] at k3 o5 gs PG
        have GS := hide gs
        have HK : K ≤ lim := by unfold lim; omega
        have L1 := hide l1
        clear hc ok ha hp hn hx pg gs sn sumle l1
        go_upto_block 2 with fail
        go_cut [6] from 18 to 165 (fun s6 wc => s6 = .int .i64 a ∧ Hid (Went I w m bw (actS S a p n x) K (fun k => S.st (508 + k)) wc))
        case first =>
          by_cases c1 : a = 1
          · have e1 : (a == 1) = true := beq_iff_eq.2 c1
            have ACT : Hid (actS S a p n x = (reserveS S p n).2.2) := hide (by unfold actS; rw [if_pos c1])
            have l1 := L1.out c1
            clear c1
            go_wp2_with fail
            refine still_tail 11 (by kernel_rfl) (by kernel_rfl) ?_
            simp only [List.take_succ_cons, List.take_zero, List.drop_succ_cons, List.drop_zero]
            repeat still_step
            refine wpStill_nil ?_
            go_wp2_with fail
            go_at_call 10
            refine (JB.reserve Fc (hJ.out.drew Fc) o3 o4 l1 HK).mono ?_
            rintro e w3 ⟨⟨y1, y2, rfl⟩, hW⟩
            have HWN := hide hW
            clear hW
            go_wp2_with fail
            go_meet
            case rel => exact ⟨rfl, hide (by rw [ACT.out]; exact HWN.out)⟩
          · have e1 : (a == 1) = false := beq_eq_false_iff_ne.2 c1
            by_cases c2 : a = 2
            · have e2 : (a == 2) = true := beq_iff_eq.2 c2
              have ACT : Hid (actS S a p n x = (commitS S p n).2) := hide (by unfold actS; rw [if_neg c1, if_pos c2])
              clear c1 c2
              go_wp2_with fail
              refine still_tail 11 (by kernel_rfl) (by kernel_rfl) ?_
              simp only [List.take_succ_cons, List.take_zero, List.drop_succ_cons, List.drop_zero]
              repeat still_step
              refine wpStill_nil ?_
              go_wp2_with fail
              go_at_call 11
              refine (JB.commit Fc (hJ.out.drew Fc) o3 o4 p12 HK).mono ?_
              rintro e w3 ⟨⟨y1, rfl⟩, hW⟩
              have HWN := hide hW
              clear hW
              go_wp2_with fail
              go_meet
              case rel => exact ⟨rfl, hide (by rw [ACT.out]; exact HWN.out)⟩
            · have e2 : (a == 2) = false := beq_eq_false_iff_ne.2 c2
              by_cases c3 : a = 3
              · have e3 : (a == 3) = true := beq_iff_eq.2 c3
                have ACT : Hid (actS S a p n x = (releaseS S p n).2) := hide (by unfold actS; rw [if_neg c1, if_neg c2, if_pos c3])
                clear c1 c2 c3
                go_wp2_with fail
                refine still_tail 11 (by kernel_rfl) (by kernel_rfl) ?_
                simp only [List.take_succ_cons, List.take_zero, List.drop_succ_cons, List.drop_zero]
                repeat still_step
                refine wpStill_nil ?_
                go_wp2_with fail
                go_at_call 13
                refine (JB.release Fc (hJ.out.drew Fc) o3 o4 p12 HK).mono ?_
                rintro e w3 ⟨⟨y1, rfl⟩, hW⟩
                have HWN := hide hW
                clear hW
                go_wp2_with fail
                go_meet
                case rel => exact ⟨rfl, hide (by rw [ACT.out]; exact HWN.out)⟩
              · have e3 : (a == 3) = false := beq_eq_false_iff_ne.2 c3
                by_cases c5 : a = 5
                · have e5 : (a == 5) = true := beq_iff_eq.2 c5
                  have ACT : Hid (actS S a p n x = (storeS S x n).2) := hide (by unfold actS; rw [if_neg c1, if_neg c2, if_neg c3, if_pos c5])
                  clear c1 c2 c3 c5
                  go_wp2_with fail
                  refine still_tail 11 (by kernel_rfl) (by kernel_rfl) ?_
                  simp only [List.take_succ_cons, List.take_zero, List.drop_succ_cons, List.drop_zero]
                  repeat still_step
                  refine wpStill_nil ?_
                  go_wp2_with fail
                  go_at_call 21
                  refine (JB.store Fc (hJ.out.drew Fc) o5 o4 HK).mono ?_
                  rintro e w3 ⟨⟨y1, rfl⟩, hW⟩
                  have HWN := hide hW
                  clear hW
                  go_wp2_with fail
                  go_meet
                  case rel => exact ⟨rfl, hide (by rw [ACT.out]; exact HWN.out)⟩
                · have e5 : (a == 5) = false := beq_eq_false_iff_ne.2 c5
                  by_cases c6 : a = 6
                  · have e6 : (a == 6) = true := beq_iff_eq.2 c6
                    have ACT : Hid (actS S a p n x = (zeroS S x n).2) := hide (by unfold actS; rw [if_neg c1, if_neg c2, if_neg c3, if_neg c5, if_pos c6])
                    clear c1 c2 c3 c5 c6
                    go_wp2_with fail
                    refine still_tail 11 (by kernel_rfl) (by kernel_rfl) ?_
                    simp only [List.take_succ_cons, List.take_zero, List.drop_succ_cons, List.drop_zero]
                    repeat still_step
                    refine wpStill_nil ?_
                    go_wp2_with fail
                    go_at_call 22
                    refine (JB.zero Fc hzz (hJ.out.drew Fc) o5 o4 p12 HK).mono ?_
                    rintro e w3 ⟨⟨y1, rfl⟩, hW⟩
                    have HWN := hide hW
                    clear hW
                    go_wp2_with fail
                    go_meet
                    case rel => exact ⟨rfl, hide (by rw [ACT.out]; exact HWN.out)⟩
                  · have e6 : (a == 6) = false := beq_eq_false_iff_ne.2 c6
                    have ACT : Hid (actS S a p n x = S) := hide (by unfold actS; rw [if_neg c1, if_neg c2, if_neg c3, if_neg c5, if_neg c6])
                    clear c1 c2 c3 c5 c6
                    go_wp2_with fail
                    go_meet
                    case rel => exact ⟨rfl, hide (by rw [ACT.out]; exact ⟨K, by omega, hJ.out⟩)⟩
        case rest =>
          obtain ⟨rfl, hW⟩ := hcut
          obtain ⟨K', hK', j1⟩ := hW.out
          obtain ⟨T, hT⟩ : ∃ T, T = actS S a p n x := ⟨_, rfl⟩
          rw [← hT] at j1 GS PG
          have J1 := hide j1
          have HK2 : K' ≤ lim := by unfold lim; omega
          clear j1 hT hW L1 k0 k1 k2 k3
          go_wp2_with fail
          go_loopw [7] (fun kv wr => ∃ k : Nat, kv = .int .i64 (k : Int) ∧ k ≤ 60 ∧ Hid (JB I w m bw wr T K' (fun j => if j < k then T.st (508 + j) else S.st (508 + j)))) (fun kv _ => 60 - (intOf kv).toNat)
          case atStart => exact ⟨0, rfl, Nat.zero_le _, hide (J1.out.more (fun k _ => by rw [if_neg (by omega)]))⟩
          case round =>
            obtain ⟨k, rfl, hk, hJk⟩ := hrel
            clear J1
            by_cases klt : k < 60
            · have dk : (k : Int) < 60 := by omega
              have cw := hJk.out.was.cell k klt
              rw [if_neg (by omega)] at cw
              have g := GS.out (508 + k)
              have GK := hide g
              obtain ⟨u, hu⟩ : ∃ u, u = S.st (508 + k) := ⟨_, rfl⟩
              obtain ⟨v, hv⟩ : ∃ v, v = T.st (508 + k) := ⟨_, rfl⟩
              rw [← hu] at cw GK
              rw [← hv] at GK
              have HU := hide hu
              have HV := hide hv
              clear hu hv g
              have NXT : Hid (∀ wq, JB I w m bw wq T K' (fun j => if j < k then T.st (508 + j) else S.st (508 + j)) → u = v → JB I w m bw wq T K' (fun j => if j < k + 1 then T.st (508 + j) else S.st (508 + j))) := hide (fun wq h e => h.more (fun j _ => by
                by_cases z : j = k
                · rw [z, if_neg (by omega), if_pos (by omega), ← HU.out, ← HV.out, e]
                · by_cases y : j < k
                  · rw [if_pos y, if_pos (by omega)]
                  · rw [if_neg y, if_neg (by omega)]))
              have PUT : Hid (∀ wq, JB I w m bw wq T K' (fun j => if j < k then T.st (508 + j) else S.st (508 + j)) → JB I w m bw (wq.setCell ⟨bw, k, none⟩ (.int .i64 (v : Int))) T K' (fun j => if j < k + 1 then T.st (508 + j) else S.st (508 + j))) := hide (fun wq h => (h.put Fc k v klt).more (fun j _ => by
                by_cases z : j = k
                · rw [if_pos z, z, if_pos (by omega), ← HV.out]
                · rw [if_neg z]
                  by_cases y : j < k
                  · rw [if_pos y, if_pos (by omega)]
                  · rw [if_neg y, if_neg (by omega)]))
              go_wp2_with fail
              go_at_call 23
              refine (JB.state Fc (a := 508 + (k : Int)) (x := v) (by rw [show (508 + (k : Int)).toNat = 508 + k by omega]; exact HV.out.symm) hJk.out (by unfold two64; omega) HK2).mono ?_
              rintro e w4 ⟨rfl, j4⟩
              have cw4 := j4.was.cell k klt
              rw [if_neg (by omega), ← HU.out] at cw4
              have fz4 := j4.was.fz k
              have J4 := hide j4
              clear j4
              by_cases q : u = v
              · subst q
                go_wp2_with fail
                exact ⟨⟨k + 1, by go_num, by omega, hide (NXT.out _ J4.out trivial)⟩, by simp [intOf]; omega⟩
              · have dq : ((v : Int) == (u : Int)) = false := beq_eq_false_iff_ne.2 (by omega)
                rcases GK.out.resolve_left q with ⟨rfl, rfl, rfl⟩ | ⟨rfl, h2, rfl⟩ | ⟨rfl, rfl, rfl⟩
                · go_wp2_with fail
                  exact ⟨⟨k + 1, by go_num, by omega, hide (PUT.out _ J4.out)⟩, by simp [intOf]; omega⟩
                · have z0 : ((u : Int) != 0) = true := by rw [bne_iff_ne]; omega
                  go_wp2_with fail
                  exact ⟨⟨k + 1, by go_num, by omega, hide (PUT.out _ J4.out)⟩, by simp [intOf]; omega⟩
                · go_wp2_with fail
                  exact ⟨⟨k + 1, by go_num, by omega, hide (PUT.out _ J4.out)⟩, by simp [intOf]; omega⟩
            · obtain rfl : k = 60 := by omega
              go_wp2_with fail
              exact ⟨⟨i + 1, K', T, by go_num, by omega, by omega, PG, hide (hJk.out.more (fun j hj => by rw [if_pos hj]))⟩, by simp [intOf]; omega⟩
      · obtain rfl : i = len := by omega
        have dl : ¬ (i : Int) < (i : Int) := by omega
        have wf := hJ.out.wf Fc
        have HWF := hide wf
        have HK : K ≤ lim := by unfold lim; omega
        clear wf
        go_wp2_with fail
        go_at_call 23
        refine (JB.state Fc (a := 34359738368) (x := 0) (st_high HWF.out _ (by decide)) hJ.out (by unfold two64; omega) HK).mono ?_
        rintro e w4 ⟨rfl, j4⟩
        have J4 := hide j4
        clear j4
        go_wp2_with fail
        go_at_call 23
        refine (JB.state Fc (a := 18446744073709551615) (x := 0) (st_high HWF.out _ (by decide)) J4.out (by unfold two64; omega) HK).mono ?_
        rintro e w5 ⟨rfl, j5⟩
        have J5 := hide j5
        clear j5
        go_wp2_with fail
        go_at_call 15
        refine (awake_core Fc _).mono ?_
        rintro e w9 ⟨rfl, b9⟩
        go_wp2_with fail
        go_ret
        exact ⟨rfl, J5.out.below.trans (b9.mono J5.out.below.size)⟩
end Go.Proofs.Ytpceigglilgelaa
