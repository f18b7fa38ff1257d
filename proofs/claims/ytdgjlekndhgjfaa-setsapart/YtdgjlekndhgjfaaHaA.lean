/- Package sets: heaps by their sides: add, remove: contracts. -/
import Derived.Test.YtdgjlekndhgjfaaHrA
import Derived.Test.YtdgjlekndhgjfaaHf
namespace Go.Proofs.Ytdgjlekndhgjfaa
open Go.ChangeShapes Go.WideShapes Go.ChangeAt Go.RowKit Go.Shelf Go.Proofs.Rx Go.Maps Go.Proofs.Hm
set_option linter.unusedVariables false
set_option linter.unusedSimpArgs false

attribute [local go_sem] Oper.semAt_some

set_option maxRecDepth 100000 in
set_option maxHeartbeats 1000000 in
theorem addA {W : World} {b o : Nat} {q : Nat → Array Value} {B : Nat → Nat} {v : Value} {l : List Nat} {p : Nat → Int} (h : HpC W b o 32 6 q B v l p) (hO : Ord (fB B l) l.length) (m : Nat) (x : Int) (hm : m ∉ l)
    (hq : Bk W m 74 ((q m).setIfInBounds 6 (.int .i64 x))) (hs : (q m).size = 8) (hb : (q m)[1]? = some (.int .u64 (B m : Nat))) (hB : B m < 18446744073709551616) (n1 : m ≠ b) (n2 : v.ownBlock ≠ some m) (hl : l.length + 1 < 100000) :
    Calls Try.prog 38 #[.pointer (some ⟨b, o, none⟩), .pointer (some ⟨m, 0, none⟩)] W fun e W' => e = .returned (.tuple #[]) ∧ AddTo W W' b o 32 6 q B v l m := by
  obtain ⟨ov, cap, rfl⟩ := row_form h.hp.at_.row
  obtain ⟨n, hn⟩ : ∃ n, l.length = n := ⟨_, rfl⟩
  obtain ⟨g, cap', Y, r1, o1, k1, hat, hlt⟩ := ptrs_more (X2 := W.alloc (.cells #[.pointer (some ⟨m, 0, none⟩)] 70)) (h.hp.at_.row.alloc _) (by omega) W.heap.size m (World.alloc_heap_new W _) (by omega) 51
  obtain ⟨hY, kY, oY, bY⟩ := Hp.appended h.hp m x hm hq hs hb hB n1 n2 o1 k1 hat hlt
  have c0 := h.hp.at_.c0
  have f0 := h.hp.at_.f0
  rw [hn] at c0 r1 hY
  have hcY : Y.cell? ⟨b, o, none⟩ = some (.slice ov n cap) := by
    have := cell_block (kY.block b (World.block_lt_of_cell? W ⟨b, o, none⟩ h.hp.at_.c0) (by have := h.hp.at_.nb; exact this)) o
    rw [this]; exact c0
  have hfY : Y.frozen? ⟨b, o, none⟩ = false := by
    have := fz_block (k := o) (kY.block b (World.block_lt_of_cell? W ⟨b, o, none⟩ h.hp.at_.c0) (by have := h.hp.at_.nb; exact this))
    rw [this]; exact f0
  obtain ⟨Z, hZ⟩ : ∃ Z, Y.setCell ⟨b, o, none⟩ (.slice (some ⟨g, 0, none⟩) (n + 1) cap') = Z := ⟨_, rfl⟩
  rw [hZ] at hY
  have cZ2 := hY.at_.c2
  have mZ : Z.cell? ⟨m, 6, none⟩ = some (.int .i64 x) := by
    have := hY.ms.place (by decide) (List.mem_append_right l (List.mem_singleton.2 rfl))
    rw [this, if_pos rfl]
  have fZ := (hY.ms.bk m (List.mem_append_right l (List.mem_singleton.2 rfl))).fz 6
  obtain ⟨V, hV⟩ : ∃ V, Z.setCell ⟨m, 6, none⟩ (.int .i64 (n : Nat)) = V := ⟨_, rfl⟩
  obtain ⟨hC, hF⟩ := Hp.placed hY (fun z hz => if_neg hz) h.co hO hm hn hV
  have CR := hide (riseA hC n (by simp [hn]) (by simp; omega) (by simpa [hn] using hF))
  have FIN := hide (show ∀ W' l', RoA V b o q B (.slice (some ⟨g, 0, none⟩) (n + 1) cap') (l ++ [m]) W' l' → Down (fB B l') (l ++ [m]).length n → AddTo W W' b o 32 6 q B (.slice ov l.length cap) l m from fun W' l' hR hD => by
    obtain ⟨p', c'⟩ := hR.c
    refine AddTo.of h.hp hY.at_.nb kY oY bY hZ hV hR.pm hR.k n1 c' ?_
    have e : (l ++ [m]).length = n + 1 := by simp [hn]
    have e2 : l'.length = n + 1 := by rw [hR.pm.length_eq, e]
    rw [e] at hD
    rw [e2]
    exact hD.ord_last)
  have CP := hide place6
  have RUN := hide r1
  rw [hn]
  rw [hn] at FIN
  clear h hO hq hs hb hB hm n1 n2 o1 k1 hat hlt hY kY oY bY hC hF r1
  go_enter Try.func38, Try.ntmps38
  go_wp2_with (at_builtin; refine list_append_run (by rfl) (.tmp 14) (.tmp 16) 51 (by rfl) (by rfl) (by rfl) RUN.out ?_)
  refine (CP.out _ _).mono ?_
  rintro e W1 ⟨rfl, hw⟩
  rw [hw]
  clear hw CP W1
  go_wp2_with fail
  refine CR.out.mono ?_
  rintro e W2 ⟨rfl, l', hR, hD⟩
  have FN := hide (FIN.out _ _ hR hD)
  clear hR hD CR FIN
  go_wp2_with fail
  go_end0
  exact ⟨rfl, FN.out⟩
set_option maxRecDepth 100000 in
set_option maxHeartbeats 2000000 in
theorem removeA {W : World} {b o : Nat} {q : Nat → Array Value} {B : Nat → Nat} {v : Value} {l : List Nat} {p : Nat → Int} (h : HpC W b o 32 6 q B v l p) (hO : Ord (fB B l) l.length) (m : Nat) (hm : m ∈ l) (hl : l.length < 100000) :
    Calls Try.prog 39 #[.pointer (some ⟨b, o, none⟩), .pointer (some ⟨m, 0, none⟩)] W fun e W' => e = .returned (.tuple #[]) ∧ RemTo W W' b o 32 6 q B v l m := by
  obtain ⟨t, ht, et⟩ := at_of_mem hm
  obtain ⟨g, cap, rfl, hc, hf⟩ := h.hp.form (by omega)
  obtain ⟨k, hk⟩ : ∃ k, l.length = k + 1 := ⟨l.length - 1, by omega⟩
  have H := hide h
  have HO := hide hO
  have HM := hide hm
  have HK := hide hk
  have ET := hide et
  have c0 := h.hp.at_.c0
  have c2 := h.hp.at_.c2
  have mp : W.cell? ⟨m, 6, none⟩ = some (.int .i64 (t : Nat)) := by
    rw [h.hp.ms.place (by decide) hm, ← h.co t ht, et]
  rw [hk] at c0 ht hl ⊢
  have e1 : ((k + 1 : Nat) : Int) - 1 = (k : Int) := by omega
  have e2 : ((k : Int) + 1) - 1 = (k : Int) := by omega
  have CP := hide place6
  have w1 : IntKind.i64.wrap ((k : Int) + 1 - 1) = (k : Int) := by rw [IntKind.wrap_i64]; omega
  clear h hO hm hk et hc hf
  go_enter Try.func39, Try.ntmps39
  go_wp2_with fail
  go_quiet (first | (go_at_call 32; refine Calls.quiet_of_same (CP.out _ _)))
  have CS := hide (swapA (H.out.hp.below (drewN_below W nq)) t k (by rw [HK.out]; exact ht) (by rw [HK.out]; omega))
  rw [HK.out] at CS
  go_wp2_with fail
  refine CS.out.mono ?_
  rintro e W1 ⟨rfl, s1, s2⟩
  have s3 : Kept (fun z => (Value.slice (some ⟨g, 0, none⟩) (k + 1) cap).ownBlock = some z ∨ z ∈ l) W W1 := (kept_drewN _ _ _).trans s2 (fun _ _ h => h)
  obtain ⟨W3, hW3⟩ : ∃ W3, (W1.setCell ⟨g, k, none⟩ (.pointer none)).setCell ⟨b, o, none⟩ (.slice (some ⟨g, 0, none⟩) k cap) = W3 := ⟨_, rfl⟩
  have h := H.out
  have hO := HO.out
  rw [HK.out] at h hO
  obtain ⟨L2, n2, c3, f3, o3, fin⟩ := Hp.gone h HK.out ht ET.out s3 s1 hW3 hO
  have lK : (swapL l t k).length = k + 1 := by rw [len_swap, HK.out]
  obtain ⟨g', cap', eg, hc, hf⟩ := s1.form (by omega)
  rw [lK] at eg hc
  cases eg
  have y0 := s1.at_.c0
  have g0 := s1.at_.f0
  have x1 := hc k (by omega)
  have y1 := hf k
  have nb : g ≠ b := fun e => s1.at_.nb (by rw [← e]; rfl)
  have hcap : k + 1 ≤ cap := by
    have hr := s1.at_.row
    rw [lK] at hr
    rcases hr.2 with ⟨h', _⟩ | ⟨g', cap', cur, h', _, _, hle, _⟩
    · cases h'
    · cases h'; exact hle
  have hcap2 : k ≤ cap := by omega
  have u0 : (W1.setCell ⟨g, k, none⟩ (.pointer none)).cell? ⟨b, o, none⟩ = some (.slice (some ⟨g, 0, none⟩) (k + 1) cap) := by
    rw [World.cell?_setCell_other _ _ _ _ (by intro z; have := congrArg Addr.block z; simp at this; omega)]; exact y0
  have u1 : (W1.setCell ⟨g, k, none⟩ (.pointer none)).frozen? ⟨b, o, none⟩ = false := by rw [World.frozen?_setCell]; exact g0
  have T1 := hide (And.intro c3 (And.intro f3 (And.intro o3 fin)))
  have N2 := hide n2
  have NB := hide nb
  clear s1 s2 s3 CS c0 c2 mp hc hf h hO c3 f3 o3 fin n2 lK nb CP
  by_cases c : t < k
  · have d1 : decide ((t : Int) < (k : Int)) = true := decide_eq_true (by omega)
    have d2 : decide (t < k) = true := decide_eq_true c
    have CR := hide (riseA T1.out.1 t (by rw [N2.out]; exact c) (by rw [N2.out]; omega) (by rw [N2.out]; exact T1.out.2.1 c))
    go_wp2_with fail
    refine CR.out.mono ?_
    rintro e W4 ⟨rfl, l3, hR, hD⟩
    obtain ⟨p3, c4⟩ := hR.c
    have n3 : l3.length = k := by rw [hR.pm.length_eq, N2.out]
    have CK := hide (sinkA c4 t (by rw [n3]; exact c) (by rw [n3]; omega) (by rw [n3]; rw [N2.out] at hD; exact hD))
    have T2 := hide (And.intro hR n3)
    clear hR hD CR c4 n3
    go_wp2_with fail
    refine CK.out.mono ?_
    rintro e W5 ⟨rfl, l4, hR2, hO2⟩
    have FN := hide (show RemTo W W5 b o 32 6 q B (.slice (some ⟨g, 0, none⟩) (k + 1) cap) l m from by
      obtain ⟨hR, n3⟩ := T2.out
      obtain ⟨p5, c5⟩ := hR2.c
      refine T1.out.2.2.2 W5 l4 p5 c5 (hR2.pm.trans hR.pm) (hR.k.trans (hR2.k.mono (fun z hz => hz.imp id (fun u => hR.pm.mem_iff.1 u))) (fun _ _ h => h)) ?_
      rw [hR2.pm.length_eq]
      exact hO2)
    clear hR2 hO2 CK
    go_wp2_with fail
    go_end0
    exact ⟨rfl, FN.out⟩
  · have d1 : decide ((t : Int) < (k : Int)) = false := decide_eq_false (by omega)
    have d2 : decide (t < k) = false := decide_eq_false c
    have FN := hide (show RemTo W W3 b o 32 6 q B (.slice (some ⟨g, 0, none⟩) (k + 1) cap) l m from
      T1.out.2.2.2 W3 L2 _ T1.out.1 (List.Perm.refl _) (Kept.refl _ _) (by rw [N2.out]; exact T1.out.2.2.1 (by omega)))
    go_wp2_with fail
    go_end0
    exact ⟨rfl, FN.out⟩
end Go.Proofs.Ytdgjlekndhgjfaa
