/- SchedFair, walked. -/
import Derived.Test.YtoaepcilhbndbaaFa
import Derived.Test.YtoaepcilhbndbaaOt
import Derived.Test.YtoaepcilhbndbaaArg
import Derived.Laws.Bits128
namespace Go.Proofs.Ytoaepcilhbndbaa
open Go.ChangeShapes Go.WideShapes Go.ChangeAt Go.RowKit Go.Proofs.Sc Go.Maps
set_option linter.unusedVariables false
set_option linter.unusedSimpArgs false

theorem i64_and7 (n : Int) : bits .and .i64 n 7 = n % 8 := by
  have h7 : (BitVec.ofInt 64 7).toNat = 2 ^ 3 - 1 := by decide
  have key : (BitVec.ofInt 64 n &&& BitVec.ofInt 64 7).toNat = (n % ((2 ^ 64 : Nat) : Int)).toNat % 2 ^ 3 := by
    rw [BitVec.toNat_and, BitVec.toNat_ofInt, h7, Nat.and_two_pow_sub_one_eq_mod]
  show IntKind.i64.wrap ((BitVec.ofInt 64 n &&& BitVec.ofInt 64 7).toNat : Nat) = n % 8
  rw [key, IntKind.wrap_i64]
  omega
def kof (l : List Int) (i : Nat) : Int := l.getD i 0 % 8
def fairL (l : List Int) (n : Nat) : List (List Stp) := (List.range n).map fun i => fairT (kof l i) i
theorem fair_next (l : List Int) (n : Nat) : fairL l (n + 1) = fairL l n ++ [fairT (kof l n) n] := by simp [fairL, List.range_succ]
theorem fair_len (l : List Int) (n : Nat) : (fairL l n).length = n := by simp [fairL]
theorem fair_get {l : List Int} {n i : Nat} (hi : i < n) : (fairL l n)[i]? = some (fairT (kof l i) i) := by
  unfold fairL
  rw [List.getElem?_map, List.getElem?_range hi]
  rfl
theorem fair_lens (l : List Int) (n : Nat) : lens (fairL l n) = 5 * n := by
  induction n with
  | zero => rfl
  | succ n ih => rw [fair_next, lens_append, ih]; simp [lens, fairT]; omega
theorem fair_says (l : List Int) (n : Nat) : says (fairL l n) = n := by
  induction n with
  | zero => rfl
  | succ n ih =>
    rw [fair_next]
    unfold says at ih ⊢
    rw [List.map_append, List.sum_append, ih]
    simp [nsay, fairT, List.filter_cons]
theorem fair_init (l : List Int) (n : Nat) : FI (kof l) n (initS (fairL l n)) (fun _ => 0) := by
  refine ⟨rfl, fair_len l n, fun i hi => fair_get hi, fun i _ => by omega, fun q i => ?_⟩
  constructor
  · intro z; cases z
  · rintro ⟨_, z⟩; simp only [holds] at z; omega
theorem fair_all (l : List Int) (n : Nat) (hn : n ≤ 20) : (∀ t ∈ fairL l n, ∀ s ∈ t, s.Ok) ∧ AllKnown (fairL l n) := by
  have key : ∀ t ∈ fairL l n, ∀ s ∈ t, s.Ok ∧ Known s := by
    intro t ht s hs
    unfold fairL at ht
    obtain ⟨i, hi, rfl⟩ := List.mem_map.1 ht
    have hin : i < n := List.mem_range.1 hi
    have h0 : 0 ≤ kof l i ∧ kof l i < 8 := by unfold kof; omega
    simp [fairT] at hs
    rcases hs with rfl | rfl | rfl | rfl | rfl <;> exact ⟨⟨by unfold i64; simp only; omega, by unfold i64; simp only; omega, by unfold i64; simp only; omega⟩, by simp only; omega, by simp only; omega⟩
  exact ⟨fun t ht s hs => (key t ht s hs).1, fun t ht s hs => (key t ht s hs).2⟩
/-- Where the turns are. -/
def FQ (l : List Int) (n q : Nat) (S : Sc) : Prop := (∃ pos, FI (kof l) n S pos) ∧ lens S.ahead + q = 5 * n ∧ says S.ahead + S.said.length = n
theorem FQ.go {l : List Int} {n q : Nat} {S : Sc} (h : FQ l n q S) (hq : q < 5 * n) (p : Int) : ableS S ≠ [] ∧ ∃ i S', goS S p = (i, 0, S') ∧ i < n ∧ FQ l n (q + 1) S' := by
  obtain ⟨⟨pos, f⟩, h1, h2⟩ := h
  have hK : ∀ i, i < n → kof l i ≤ 7 := fun i _ => by unfold kof; omega
  refine ⟨f.able hK (by omega), ?_⟩
  obtain ⟨i, S', e1, e2, e3, e4, e5⟩ := f.go hK (by omega) p
  exact ⟨i, S', e1, e2, e3, by omega, by omega⟩
set_option maxRecDepth 100000 in
set_option maxHeartbeats 4000000 in
theorem fair_core (v : Value) (l : List Int) (w : World) (h : IntsAt w v l) : Calls Try.prog 7 #[v] w fun e w' => e = .returned (.bool true) ∧ Below w.heap.size w w' := by
  obtain ⟨o, cap, rfl, hlm⟩ := h.shape
  have H := hide h
  obtain ⟨n, hn⟩ : ∃ n, l.length = n := ⟨_, rfl⟩
  rw [hn] at hlm H ⊢
  clear h hn
  by_cases c : 20 < n
  · have d : decide ((n : Int) > 20) = true := decide_eq_true (by omega)
    clear H
    go_enter Try.func7, Try.ntmps7
    go_wp2_with fail
    go_ret
    exact ⟨rfl, Below.refl _ _⟩
  · have d : decide ((n : Int) > 20) = false := decide_eq_false (by omega)
    have hn20 : n ≤ 20 := by omega
    go_enter Try.func7, Try.ntmps7
    go_wp2_with fail
    go_loopw [3, 4, 5] (fun vv sv iv wr => ∃ (i : Nat), iv = .int .i64 (i : Int) ∧ sv = .int .i64 (5 * (i : Int)) ∧ i ≤ n ∧ Hid (Ot w wr vv (fairL l i))) (fun _ _ iv _ => n - (intOf iv).toNat)
    case atStart => exact ⟨0, rfl, rfl, Nat.zero_le _, hide (Ot.start w)⟩
    case round =>
      obtain ⟨i, rfl, rfl, hi, hO⟩ := hrel
      by_cases hlt : i < n
      · obtain ⟨g, off, x, rfl, hx, x64, hc⟩ := H.out.at hO.out.below hlt
        have i1 : (i : Int) < (n : Int) := by omega
        have hk : kof l i = x % 8 := by unfold kof; rw [List.getD_eq_getElem?_getD, hx]; rfl
        obtain ⟨k, hkk⟩ : ∃ k, bits BinOp.and IntKind.i64 x 7 = k := ⟨_, rfl⟩
        have hk8 : k = x % 8 := by rw [← hkk, i64_and7]
        have k0 : 0 ≤ k := by omega
        have k7 : k ≤ 7 := by omega
        rw [← hk8] at hk
        obtain ⟨W, hW⟩ : ∃ W, W = wr.alloc (.cells #[.int .i64 1, .int .i64 k, .int .i64 0, .int .i64 1, .int .i64 (k + 1), .int .i64 0, .int .i64 5, .int .i64 (i : Int), .int .i64 0, .int .i64 2, .int .i64 k, .int .i64 0, .int .i64 2, .int .i64 (k + 1), .int .i64 0] 36) := ⟨_, rfl⟩
        have st : StepsAt W (.slice (some ⟨wr.heap.size, 0, none⟩) 5 5) (fairT k i) (fun x => wr.heap.size ≤ x) := by
          have := steps_block (w := W) (g := wr.heap.size) (t := fairT k i) (cs := #[.int .i64 1, .int .i64 k, .int .i64 0, .int .i64 1, .int .i64 (k + 1), .int .i64 0, .int .i64 5, .int .i64 (i : Int), .int .i64 0, .int .i64 2, .int .i64 k, .int .i64 0, .int .i64 2, .int .i64 (k + 1), .int .i64 0]) (by rw [hW]; exact heap_alloc_new _ _) rfl (n := 5) rfl (by omega)
          obtain ⟨o', cap', a1, a2, a3, a4, a5⟩ := this
          refine ⟨o', cap', a1, a2, a3, a4, fun z => ?_⟩
          obtain ⟨gg, off', e, _, hgg, hcc⟩ := a5 z
          injection a1 with e1 e2 e3
          rw [e] at e1
          injection e1 with e1
          injection e1 with e1 e4
          exact ⟨gg, off', e, by omega, hgg, hcc⟩
        have hO2 := hO.out.more (w' := W) (by rw [hW]; exact (Below.refl _ _).alloc (Nat.le_refl _) _)
        obtain ⟨g3, cap3, w3, r3, o3⟩ := hO2.push (by rw [fair_len]; omega) (hO.out.new st) 22
        rw [← hk, ← fair_next] at o3
        rw [fair_len, hW] at r3
        have R3 := hide r3
        rw [fair_len] at o3
        have O3 := hide o3
        have hsz : (wr.alloc (.cells #[.int .i64 1, .int .i64 k, .int .i64 0, .int .i64 1, .int .i64 (k + 1), .int .i64 0, .int .i64 5, .int .i64 (i : Int), .int .i64 0, .int .i64 2, .int .i64 k, .int .i64 0, .int .i64 2, .int .i64 (k + 1), .int .i64 0] 36)).heap.size = wr.heap.size + 1 := by simp
        rw [hsz] at R3
        have i20 : (i : Int) ≤ 20 := by omega
        clear hO hO2 st hW r3 o3 hk hk8 hx hsz
        go_wp2_with (first | (at_builtin; refine list_append_run (by rfl) (.tmp 45) (.tmp 47) 22 (by rfl) (by rfl) (by rfl) R3.out ?_))
        go_roundw
        case rel => exact ⟨i + 1, by go_num, by go_num, by omega, O3⟩
        case measure => simp [intOf]; omega
      · obtain rfl : i = n := by omega
        obtain ⟨ov, capv, e1, e2, e3⟩ := hO.out.shape
        rw [fair_len] at e1
        subst e1
        have N := hide (J.new _ _ hO.out.tasks (by rw [fair_lens]; omega) (fair_all l i hn20).1 (new_ok (by rw [fair_len]; omega) (by rw [fair_lens]; omega) (fair_all l i hn20).2) hO.out.below)
        have Q0 : Hid (FQ l i 0 (initS (fairL l i))) := hide ⟨⟨_, fair_init l i⟩, by show lens (fairL l i) + 0 = _; rw [fair_lens]; omega, by show says (fairL l i) + 0 = _; rw [fair_says]; omega⟩
        clear hO H e2 e3
        go_wp2_with fail
        refine N.out.mono ?_
        rintro e w1 ⟨m, rfl, j1⟩
        clear N
        go_wp2_with fail
        go_loopw [10, 11] (fun tv iv wr => ∃ (q t : Nat) (S : Sc), iv = .int .i64 (q : Int) ∧ tv = .int .i64 (t : Int) ∧ q ≤ 5 * i ∧ t ≤ 20 ∧ Hid (FQ l i q S) ∧ J w m wr S) (fun _ iv _ => 5 * i - (intOf iv).toNat)
        case atStart => exact ⟨0, 0, _, rfl, rfl, Nat.zero_le _, by omega, Q0, j1⟩
        case round =>
          obtain ⟨q, t, S, rfl, rfl, hq, ht, hQ, jr⟩ := hrel
          clear j1 Q0
          by_cases hql : q < 5 * i
          · have q1 : (q : Int) < 5 * (i : Int) := by omega
            obtain ⟨la, hla⟩ : ∃ la, ableS S = la := ⟨_, rfl⟩
            have hne : 0 < la.length := by rw [← hla]; exact List.length_pos_iff.2 (hQ.out.go hql 0).1
            obtain ⟨k, hk⟩ : ∃ k, la.length = k := ⟨_, rfl⟩
            have hk64 : k ≤ 64 := by
              rw [← hk, ← hla]
              unfold ableS
              split
              · simp
              · exact Nat.le_trans (ables_le S _) jr.wf.tasks
            rw [hk] at hne
            go_wp2_with fail
            refine (jr.enabled hla).mono ?_
            rintro e w2 ⟨oa, ca, rfl, ha1, ha2, ha3, j2, _⟩
            obtain ⟨ga, rfl, hga, hcell⟩ := ha3.out (by omega)
            rw [hk] at ha1 ⊢
            have HC := hide hcell
            have HK := hide hk
            clear jr ha3 hcell hla hk
            go_wp2_with fail
            go_loopw [13] (fun kv wr => ∃ (z : Nat), kv = .int .i64 (z : Int) ∧ z ≤ k ∧ wr = w2) (fun kv _ => k - (intOf kv).toNat)
            case atStart => exact ⟨0, rfl, Nat.zero_le _, rfl⟩
            case round =>
              obtain ⟨z, rfl, hz, rfl⟩ := hrel
              have FIN : Hid (∃ ii S', goS S ((z : Int) % (k : Int)) = (ii, 0, S') ∧ ii < i ∧ FQ l i (q + 1) S') := hide (hQ.out.go hql _).2
              have kb : ((k : Int) == 0) = false := beq_eq_false_iff_ne.2 (by omega)
              have z64 : i64 ((z : Int) % (k : Int)) := by
                have h1 := Int.emod_lt_of_pos (z : Int) (show (0 : Int) < (k : Int) by omega)
                have h2 := Int.emod_nonneg (z : Int) (show (k : Int) ≠ 0 by omega)
                unfold i64; omega
              obtain ⟨ii, S', G, hii, nq⟩ := FIN.out
              have HG := hide G
              have NQ := hide nq
              clear FIN G nq
              by_cases zk : z < k
              · obtain ⟨x, hx⟩ : ∃ x, la[z]? = some x := ⟨_, List.getElem?_eq_getElem (by rw [HK.out]; exact zk)⟩
                have cx := HC.out z x hx
                have z1 : (z : Int) < (k : Int) := by omega
                by_cases xt : (x : Int) < (t : Int)
                · have dx : decide ((x : Int) < (t : Int)) = true := decide_eq_true xt
                  clear hx
                  go_wp2_with fail
                  go_roundw
                  case rel => exact ⟨z + 1, by go_num, by omega, trivial⟩
                  case measure => simp [intOf]; omega
                · have dx : decide ((x : Int) < (t : Int)) = false := decide_eq_false xt
                  clear hx
                  by_cases tn : ii + 1 = i
                  · have dt : ((ii : Int) + 1 == (i : Int)) = true := by rw [beq_iff_eq]; omega
                    go_wp2_with fail
                    refine (j2.go z64 HG.out).mono ?_
                    rintro e w3 ⟨rfl, j3⟩
                    clear j2 HG
                    go_wp2_with fail
                    go_roundw
                    case rel => exact ⟨q + 1, 0, S', by go_num, by go_num, by omega, by omega, NQ, j3⟩
                    case measure => simp [intOf]; omega
                  · have dt : ((ii : Int) + 1 == (i : Int)) = false := beq_eq_false_iff_ne.2 (by omega)
                    go_wp2_with fail
                    refine (j2.go z64 HG.out).mono ?_
                    rintro e w3 ⟨rfl, j3⟩
                    clear j2 HG
                    go_wp2_with fail
                    go_roundw
                    case rel => exact ⟨q + 1, ii + 1, S', by go_num, by go_num, by omega, by omega, NQ, j3⟩
                    case measure => simp [intOf]; omega
              · obtain rfl : z = k := by omega
                clear HG NQ z64 hii
                obtain ⟨iz, Sz, gz, hiz, nz⟩ := (hQ.out.go hql 0).2
                have HZ := hide gz
                have NZ := hide nz
                have mz : (z : Int) % (z : Int) = 0 := Int.emod_self
                clear gz nz
                by_cases tn : iz + 1 = i
                · have dt : ((iz : Int) + 1 == (i : Int)) = true := by rw [beq_iff_eq]; omega
                  go_wp2_with fail
                  refine (j2.go (by unfold i64; decide) HZ.out).mono ?_
                  rintro e w3 ⟨rfl, j3⟩
                  clear j2 HZ
                  go_wp2_with fail
                  go_roundw
                  case rel => exact ⟨q + 1, 0, Sz, by go_num, by go_num, by omega, by omega, NZ, j3⟩
                  case measure => simp [intOf]; omega
                · have dt : ((iz : Int) + 1 == (i : Int)) = false := beq_eq_false_iff_ne.2 (by omega)
                  go_wp2_with fail
                  refine (j2.go (by unfold i64; decide) HZ.out).mono ?_
                  rintro e w3 ⟨rfl, j3⟩
                  clear j2 HZ
                  go_wp2_with fail
                  go_roundw
                  case rel => exact ⟨q + 1, iz + 1, Sz, by go_num, by go_num, by omega, by omega, NZ, j3⟩
                  case measure => simp [intOf]; omega
          · obtain ⟨⟨pos, f⟩, h1, h2⟩ := hQ.out
            have l0 : lens S.ahead = 0 := by omega
            have sl : S.said.length = i := by rw [says_zero l0] at h2; omega
            have G := hide (go_done_code 0 f.over l0)
            have q1 : ¬ (q : Int) < 5 * (i : Int) := by omega
            obtain ⟨ls, hls⟩ : ∃ ls, S.said = ls := ⟨_, rfl⟩
            rw [hls] at sl
            clear f h1 h2 l0 hQ
            go_wp2_with fail
            refine (jr.go (by unfold i64; decide) G.out).mono ?_
            rintro e w3 ⟨rfl, j3⟩
            clear jr G
            go_wp2_with fail
            refine (j3.said hls).mono ?_
            rintro e w4 ⟨o4, c4, rfl, _, _, _, j4, _⟩
            rw [sl]
            have J4 := hide j4.below
            clear j3 j4 hls sl
            go_wp2_with fail
            refine (awake_core _).mono ?_
            rintro e w9 ⟨rfl, b9⟩
            go_wp2_with fail
            go_ret
            exact ⟨rfl, J4.out.trans (b9.mono J4.out.size)⟩
end Go.Proofs.Ytoaepcilhbndbaa
