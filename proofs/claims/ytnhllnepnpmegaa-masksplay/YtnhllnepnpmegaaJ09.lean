/- J09 of the proof of both laws: texts Gh, Gi, Ba2, one behind the other. -/
import Derived.Test.YtnhllnepnpmegaaJ08
import Derived.Test.YtnhllnepnpmegaaJ01
import Derived.Lib.SmallJoins
import Derived.Deep.Slices
import Derived.Deep.Strs
/- The tree of pieces: formAt, ahead: contracts. -/
namespace Go.Proofs.Ytnhllnepnpmegaa
open Go.ChangeShapes Go.WideShapes Go.ChangeAt Go.RowKit Go.Shelf Go.Proofs.Rx Go.Maps Go.Proofs.Bt
set_option linter.unusedVariables false
set_option linter.unusedSimpArgs false

attribute [local go_sem] Oper.semAt_some

/-- A subtree that says of some words what the whole says. -/
structure Sub (W : World) (s : Tr) (lo hi : Nat) : Prop where
  at_ : TAt W s
  fm : Forms W s.list
  gd : Good lo hi s.list
  lim : hi ≤ 35184372088832
/-- How high a pointer's tree is. -/
def hOf (W : World) : Value → Nat
  | .pointer (some a) => match W.cell? ⟨a.block, 5, none⟩ with
    | some (.int _ n) => n.toNat
    | _ => 0
  | _ => 0
theorem hOf_ptr {W : World} : ∀ {s : Tr}, TAt W s → hOf W s.ptr = s.hgt
  | .nil, _ => rfl
  | .node l x r, ⟨h, _, _⟩ => by
    have c : W.cell? ⟨x.b, 5, none⟩ = some (.int .i64 ((Tr.node l x r).hgt : Nat)) := Bk.cell h 5 _ rfl
    show (match W.cell? ⟨x.b, 5, none⟩ with | some (.int _ n) => n.toNat | _ => 0) = _
    rw [c]
    exact Int.toNat_natCast _
section
variable {W : World} {l r s : Tr} {x : Nd} {lo hi : Nat}
theorem Sub.left (h : Sub W (.node l x r) lo hi) : Sub W l lo x.fi := ⟨h.at_.2.1, fun z hz => h.fm z (by rw [Tr.list]; exact List.mem_append_left _ hz), (Good.cut h.gd).1, by
  obtain ⟨_, x2, _, _, _, _, x7⟩ := (Good.cut h.gd).2
  have := x7.le
  have := h.lim
  omega⟩
theorem Sub.right (h : Sub W (.node l x r) lo hi) : Sub W r x.en hi := ⟨h.at_.2.2, fun z hz => h.fm z (by rw [Tr.list]; exact List.mem_append_right _ (List.mem_cons_of_mem _ hz)), (Good.cut h.gd).2.2.2.2.2.2.2, h.lim⟩
theorem Sub.says (h : Sub W (.node l x r) lo hi) (w : Nat) : fnOf (Tr.node l x r).list w = if w < x.fi then fnOf l.list w else if w < x.en then x.g w else fnOf r.list w := by
  have c := Good.cut h.gd
  rw [Tr.list, fnOf_app c.1 c.2]
  split
  · rfl
  · rename_i n
    rw [fnOf]
    split
    · rename_i n2
      rw [if_pos n2.2]
    · rename_i n2
      rw [if_neg (by omega)]
end
def same (w : Nat) (f g : Nat → Bool) : Prop := ∀ v, v / 512 = w / 512 → f v = g v
set_option maxRecDepth 100000 in
set_option maxHeartbeats 1000000 in
theorem formAt_any {W : World} {t : Tr} (h : TrOk W t) (w : Nat) (hw : w < 35184372088832) :
    Calls Try.prog 26 #[t.ptr, .int .u64 (w : Nat)] W fun e W' => (∃ T u g fb, e = .returned (.iface T u) ∧ FormAt W T u g fb ∧ same w g (fnOf t.list) ∧ ((∃ x ∈ t.list, fb = x.fb) ∨ fb = [])) ∧ W' = W := by
  obtain ⟨R, hR⟩ : ∃ R : Ending → World → Prop, R = fun e W' => (∃ T u g fb, e = .returned (.iface T u) ∧ FormAt W T u g fb ∧ same w g (fnOf t.list) ∧ ((∃ x ∈ t.list, fb = x.fb) ∨ fb = [])) ∧ W' = W := ⟨_, rfl⟩
  rw [← hR]
  have FIN := hide (show ∀ T u g fb, FormAt W T u g fb → same w g (fnOf t.list) → ((∃ x ∈ t.list, fb = x.fb) ∨ fb = []) → R (.returned (.iface T u)) W from fun T u g fb a b c => by rw [hR]; exact ⟨⟨T, u, g, fb, rfl, a, b, c⟩, rfl⟩)
  clear hR
  have BEG := hide (show Sub W t 0 35184372088832 from ⟨h.at_, h.fm, h.gd, Nat.le_refl _⟩)
  obtain ⟨V, hV⟩ : ∃ V : Int, (w : Int) = V := ⟨_, rfl⟩
  have v0 : 0 ≤ V := by omega
  have v1 : V < 35184372088832 := by omega
  have HV := hide hV
  rw [hV]
  obtain ⟨qt, hqt⟩ := t.ptr_form
  have HQ := hide hqt
  rw [hqt]
  clear hV h hw hqt
  go_enter Try.func26, Try.ntmps26
  go_wp2_with fail
  go_loopw [0] (fun vp wr => ∃ (s : Tr) (lo hi : Nat), vp = s.ptr ∧ Hid (Sub W s lo hi ∧ same w (fnOf s.list) (fnOf t.list) ∧ ∀ x ∈ s.list, x ∈ t.list) ∧ Hid (wr = W)) (fun vp _ => hOf W vp)
  case atStart => exact ⟨t, 0, 35184372088832, by rw [HQ.out], hide ⟨BEG.out, fun _ _ => rfl, fun _ h => h⟩, hide (by first | rfl | trivial)⟩
  case round =>
    obtain ⟨s, lo, hi, rfl, HS, HJ⟩ := hrel
    have hj := HJ.out
    subst hj
    clear HJ
    cases s with
    | nil =>
      have HF := hide (FIN.out 65 (.agg #[]) _ [] .none (fun v hv => (HS.out.2.1 v hv)) (.inr rfl))
      show Code.wp _ _ _ _ _
      simp only [Tr.ptr]
      clear HS
      go_wp2_with fail
      first | exact HF.out | (go_ret; exact HF.out)
    | node l x r =>
      obtain ⟨sb, sm, mm⟩ := HS.out
      have a0 : wr.cell? ⟨x.b, 0, none⟩ = some (.int .u64 (x.fi : Nat)) := Bk.cell sb.at_.1 0 _ rfl
      have a1 : wr.cell? ⟨x.b, 1, none⟩ = some (.int .u64 (x.en : Nat)) := Bk.cell sb.at_.1 1 _ rfl
      have a2 : wr.cell? ⟨x.b, 2, none⟩ = some (.iface x.T x.u) := Bk.cell sb.at_.1 2 _ rfl
      have a6 : wr.cell? ⟨x.b, 6, none⟩ = some l.ptr := Bk.cell sb.at_.1 6 _ rfl
      have a7 : wr.cell? ⟨x.b, 7, none⟩ = some r.ptr := Bk.cell sb.at_.1 7 _ rfl
      have hh := hOf_ptr sb.at_
      obtain ⟨x1, x2, x3, x4, x5, x6, x7⟩ := (Good.cut sb.gd).2
      have x8 := x7.le
      have lim := sb.lim
      have says := sb.says
      by_cases c : w < x.fi
      · have HN := hide (show (Sub wr l lo x.fi ∧ same w (fnOf l.list) (fnOf t.list) ∧ ∀ z ∈ l.list, z ∈ t.list) ∧ hOf wr l.ptr < hOf wr (Tr.node l x r).ptr from ⟨⟨sb.left, fun v hv => by
          rw [← sm v hv, says v, if_pos (by omega)], fun z hz => mm z (by rw [Tr.list]; exact List.mem_append_left _ hz)⟩, by rw [hh, hOf_ptr sb.at_.2.1, Tr.hgt]; omega⟩)
        have d : decide (V < ((x.fi : Nat) : Int)) = true := decide_eq_true (by have := HV.out; omega)
        obtain ⟨FI, hFI⟩ : ∃ F : Int, ((x.fi : Nat) : Int) = F := ⟨_, rfl⟩
        rw [hFI] at d a0
        obtain ⟨b, hb⟩ : ∃ b, x.b = b := ⟨_, rfl⟩
        obtain ⟨ql, hql⟩ := l.ptr_form
        rw [hb] at a0 a6
        rw [hql] at a6
        have HL := hide hql
        have HP := hide (show (Tr.node l x r).ptr = .pointer (some ⟨b, 0, none⟩) by rw [Tr.ptr, hb])
        rw [HP.out]
        clear hFI hb hql a1 a2 a7 hh x1 x2 x3 x4 x5 x6 x7 x8 lim says sb sm mm HS c
        go_wp2_with fail
        exact ⟨⟨l, lo, x.fi, by rw [HL.out], hide HN.out.1, hide (by first | rfl | trivial)⟩, by have := HN.out.2; rw [HL.out, HP.out] at this; exact this⟩
      · have d : decide (V < ((x.fi : Nat) : Int)) = false := decide_eq_false (by have := HV.out; omega)
        by_cases c2 : x.en ≤ w
        · have HN := hide (show (Sub wr r x.en hi ∧ same w (fnOf r.list) (fnOf t.list) ∧ ∀ z ∈ r.list, z ∈ t.list) ∧ hOf wr r.ptr < hOf wr (Tr.node l x r).ptr from ⟨⟨sb.right, fun v hv => by
            rw [← sm v hv, says v, if_neg (by omega), if_neg (by omega)], fun z hz => mm z (by rw [Tr.list]; exact List.mem_append_right _ (List.mem_cons_of_mem _ hz))⟩, by rw [hh, hOf_ptr sb.at_.2.2, Tr.hgt]; omega⟩)
          have d1 : decide (((x.en : Nat) : Int) ≤ V) = true := decide_eq_true (by have := HV.out; omega)
          obtain ⟨FI, hFI⟩ : ∃ F : Int, ((x.fi : Nat) : Int) = F := ⟨_, rfl⟩
          obtain ⟨EN, hEN⟩ : ∃ F : Int, ((x.en : Nat) : Int) = F := ⟨_, rfl⟩
          rw [hFI] at d a0
          rw [hEN] at d1 a1
          obtain ⟨b, hb⟩ : ∃ b, x.b = b := ⟨_, rfl⟩
          obtain ⟨ql, hql⟩ := r.ptr_form
          rw [hb] at a0 a1 a7
          rw [hql] at a7
          have HL := hide hql
          have HP := hide (show (Tr.node l x r).ptr = .pointer (some ⟨b, 0, none⟩) by rw [Tr.ptr, hb])
          rw [HP.out]
          clear hFI hEN hb hql a2 a6 hh x1 x2 x3 x4 x5 x6 x7 x8 lim says sb sm mm HS c c2
          go_wp2_with fail
          exact ⟨⟨r, x.en, hi, by rw [HL.out], hide HN.out.1, hide (by first | rfl | trivial)⟩, by have := HN.out.2; rw [HL.out, HP.out] at this; exact this⟩
        · have HF := hide (FIN.out x.T x.u x.g x.fb (sb.fm x (by rw [Tr.list]; simp)) (fun v hv => by
            rw [← sm v hv, says v, if_neg (by omega), if_pos (by omega)]) (.inl ⟨x, mm x (by rw [Tr.list]; simp), rfl⟩))
          have d1 : decide (((x.en : Nat) : Int) ≤ V) = false := decide_eq_false (by have := HV.out; omega)
          obtain ⟨FI, hFI⟩ : ∃ F : Int, ((x.fi : Nat) : Int) = F := ⟨_, rfl⟩
          obtain ⟨EN, hEN⟩ : ∃ F : Int, ((x.en : Nat) : Int) = F := ⟨_, rfl⟩
          rw [hFI] at d a0
          rw [hEN] at d1 a1
          obtain ⟨b, hb⟩ : ∃ b, x.b = b := ⟨_, rfl⟩
          rw [hb] at a0 a1 a2
          have HP := hide (show (Tr.node l x r).ptr = .pointer (some ⟨b, 0, none⟩) by rw [Tr.ptr, hb])
          rw [HP.out]
          clear hFI hEN hb a6 a7 hh x1 x2 x3 x4 x5 x6 x7 x8 lim says sb sm mm HS c c2
          go_wp2_with fail
          first | exact HF.out | (go_ret; exact HF.out)
end Go.Proofs.Ytnhllnepnpmegaa

/- The tree of pieces: ahead: contract. -/
namespace Go.Proofs.Ytnhllnepnpmegaa
open Go.ChangeShapes Go.WideShapes Go.ChangeAt Go.RowKit Go.Shelf Go.Proofs.Rx Go.Maps Go.Proofs.Bt
set_option linter.unusedVariables false
set_option linter.unusedSimpArgs false

attribute [local go_sem] Oper.semAt_some

section
variable {W : World} {l r s : Tr} {x : Nd} {lo hi : Nat}
theorem good_cto {lo hi : Nat} {L : List Nd} (h : Good lo hi L) {w : Nat} (hw : hi ≤ w) : cto (fnOf L) w = owns L := by
  have l := h.le
  rw [← h.count]
  rw [show w = lo + ((hi - lo) + (w - hi)) by omega, cto_add, cnt_add]
  rw [show cto (fnOf L) lo = 0 from cnt_none fun k hk => fnOf_out h (by omega)]
  rw [cnt_none (n := w - hi) (fun k hk => fnOf_out h (by omega))]
  omega
theorem Sub.cto_left (h : Sub W (.node l x r) lo hi) {w : Nat} (hw : w ≤ x.fi) : cto (fnOf (Tr.node l x r).list) w = cto (fnOf l.list) w :=
  cnt_congr fun k hk => by rw [h.says, if_pos (by omega)]
theorem Sub.cto_in (h : Sub W (.node l x r) lo hi) {w : Nat} (h1 : x.fi ≤ w) (h2 : w ≤ x.en) : cto (fnOf (Tr.node l x r).list) w = l.sum + cnt x.g x.fi (w - x.fi) := by
  rw [show w = x.fi + (w - x.fi) by omega, cto_add, h.cto_left (Nat.le_refl _), good_cto (Good.cut h.gd).1 (Nat.le_refl _), ← l.sum_list, show x.fi + (w - x.fi) - x.fi = w - x.fi by omega]
  congr 1
  exact cnt_congr fun k hk => by rw [h.says, if_neg (by omega), if_pos (by omega)]
theorem Sub.cto_right (h : Sub W (.node l x r) lo hi) {w : Nat} (h1 : x.en ≤ w) : cto (fnOf (Tr.node l x r).list) w = l.sum + x.own + cto (fnOf r.list) w := by
  obtain ⟨x1, x2, x3, x4, x5, x6, x7⟩ := (Good.cut h.gd).2
  rw [show w = x.en + (w - x.en) by omega, cto_add, h.cto_in (by omega) (Nat.le_refl _), ← x5, cto_add]
  rw [show cto (fnOf r.list) x.en = 0 from cnt_none fun k hk => fnOf_out x7 (by omega), Nat.zero_add]
  congr 1
  exact cnt_congr fun k hk => by rw [h.says, if_neg (by omega), if_neg (by omega)]
end
set_option maxRecDepth 100000 in
set_option maxHeartbeats 1000000 in
theorem pahead_any {W : World} {t : Tr} (h : TrOk W t) (w : Nat) (hw : w ≤ 35184372088832) :
    Calls Try.prog 27 #[t.ptr, .int .u64 (w : Nat)] W fun e W' => e = .returned (.int .u64 (cto (fnOf t.list) w : Nat)) ∧ Below W.heap.size W W' := by
  obtain ⟨R, hR⟩ : ∃ R : Ending → World → Prop, R = fun e W' => e = .returned (.int .u64 (cto (fnOf t.list) w : Nat)) ∧ Below W.heap.size W W' := ⟨_, rfl⟩
  rw [← hR]
  have FIN := hide (show ∀ W', Below W.heap.size W W' → R (.returned (.int .u64 (cto (fnOf t.list) w : Nat))) W' from fun W' hW' => by rw [hR]; exact ⟨rfl, hW'⟩)
  clear hR
  have BEG := hide (show Sub W t 0 35184372088832 from ⟨h.at_, h.fm, h.gd, Nat.le_refl _⟩)
  have TL := hide (cto_le (fnOf t.list) w)
  have WL := hide hw
  obtain ⟨Z, hZ⟩ : ∃ Z, cto (fnOf t.list) w = Z := ⟨_, rfl⟩
  rw [hZ] at FIN TL
  obtain ⟨V, hV⟩ : ∃ V : Int, (w : Int) = V := ⟨_, rfl⟩
  have v0 : 0 ≤ V := by omega
  have v1 : V ≤ 35184372088832 := by omega
  have HV := hide hV
  have HZ := hide hZ
  rw [hV]
  obtain ⟨qt, hqt⟩ := t.ptr_form
  have HQ := hide hqt
  rw [hqt]
  clear hV h hw hqt hZ
  go_enter Try.func27, Try.ntmps27
  go_wp2_with fail
  go_loopw [0, 5] (fun vp vn wr => ∃ (s : Tr) (lo hi n : Nat), vp = s.ptr ∧ vn = .int .u64 (n : Nat) ∧ Hid (Sub W s lo hi ∧ n + cto (fnOf s.list) w = Z) ∧ Hid (wr = W)) (fun vp _ _ => hOf W vp)
  case atStart => exact ⟨t, 0, 35184372088832, 0, by rw [HQ.out], rfl, hide ⟨BEG.out, by rw [HZ.out, Nat.zero_add]⟩, hide (by first | rfl | trivial)⟩
  case round =>
    obtain ⟨s, lo, hi, n, rfl, rfl, HS, HJ⟩ := hrel
    have hj := HJ.out
    subst hj
    clear HJ
    cases s with
    | nil =>
      have HF := hide (FIN.out wr (Below.refl _ _))
      have e : n = Z := by have := HS.out.2; simp only [Tr.list] at this; rw [show cto (fnOf []) w = 0 from cnt_none fun _ _ => rfl] at this; omega
      rw [← e] at HF
      show Code.wp _ _ _ _ _
      simp only [Tr.ptr]
      clear HS e
      go_wp2_with fail
      first | exact HF.out | (go_ret; exact HF.out)
    | node l x r =>
      obtain ⟨sb, sm⟩ := HS.out
      have a0 : wr.cell? ⟨x.b, 0, none⟩ = some (.int .u64 (x.fi : Nat)) := Bk.cell sb.at_.1 0 _ rfl
      have a1 : wr.cell? ⟨x.b, 1, none⟩ = some (.int .u64 (x.en : Nat)) := Bk.cell sb.at_.1 1 _ rfl
      have a2 : wr.cell? ⟨x.b, 2, none⟩ = some (.iface x.T x.u) := Bk.cell sb.at_.1 2 _ rfl
      have a3 : wr.cell? ⟨x.b, 3, none⟩ = some (.int .u64 (x.own : Nat)) := Bk.cell sb.at_.1 3 _ rfl
      have a6 : wr.cell? ⟨x.b, 6, none⟩ = some l.ptr := Bk.cell sb.at_.1 6 _ rfl
      have a7 : wr.cell? ⟨x.b, 7, none⟩ = some r.ptr := Bk.cell sb.at_.1 7 _ rfl
      have hh := hOf_ptr sb.at_
      obtain ⟨x1, x2, x3, x4, x5, x6, x7⟩ := (Good.cut sb.gd).2
      have x8 := x7.le
      have lim := sb.lim
      have tl := TL.out
      have wl := WL.out
      by_cases c : w ≤ x.fi
      · have HN := hide (show (Sub wr l lo x.fi ∧ n + cto (fnOf l.list) w = Z) ∧ hOf wr l.ptr < hOf wr (Tr.node l x r).ptr from ⟨⟨sb.left, by
          rw [← sb.cto_left c]; exact sm⟩, by rw [hh, hOf_ptr sb.at_.2.1, Tr.hgt]; omega⟩)
        have d : decide (V ≤ ((x.fi : Nat) : Int)) = true := decide_eq_true (by have := HV.out; omega)
        obtain ⟨FI, hFI⟩ : ∃ F : Int, ((x.fi : Nat) : Int) = F := ⟨_, rfl⟩
        rw [hFI] at d a0
        obtain ⟨b, hb⟩ : ∃ b, x.b = b := ⟨_, rfl⟩
        obtain ⟨ql, hql⟩ := l.ptr_form
        rw [hb] at a0 a6
        rw [hql] at a6
        have HL := hide hql
        have HP := hide (show (Tr.node l x r).ptr = .pointer (some ⟨b, 0, none⟩) by rw [Tr.ptr, hb])
        rw [HP.out]
        clear hFI hb hql a1 a2 a3 a7 hh x1 x2 x3 x4 x5 x6 x7 x8 lim sb sm HS c tl wl
        go_wp2_with fail
        exact ⟨⟨l, lo, x.fi, n, by rw [HL.out], rfl, hide HN.out.1, hide (by first | rfl | trivial)⟩, by have := HN.out.2; rw [HL.out, HP.out] at this; exact this⟩
      · have d : decide (V ≤ ((x.fi : Nat) : Int)) = false := decide_eq_false (by have := HV.out; omega)
        have CP := hide (pointers_any sb.at_.2.1)
        by_cases c2 : w < x.en
        · have ec := sb.cto_in (by omega) (by omega : w ≤ x.en)
          have fx : FormAt wr x.T x.u x.g x.fb := sb.fm x (by rw [Tr.list]; simp)
          obtain ⟨⟨hm, he⟩, -⟩ := form_meth fx
          have C := form_count fx x.fi w (by omega) wl
          have BB := hide (show ∀ W1, Below wr.heap.size wr W1 → W1.cell? ⟨x.b, 0, none⟩ = some (.int .u64 (x.fi : Nat)) ∧ W1.cell? ⟨x.b, 2, none⟩ = some (.iface x.T x.u) from fun W1 k => ⟨Bk.cell (Nd.at.below sb.at_.1 k) 0 _ rfl, Bk.cell (Nd.at.below sb.at_.1 k) 2 _ rfl⟩)
          have d1 : decide (V < ((x.en : Nat) : Int)) = true := decide_eq_true (by have := HV.out; omega)
          have s1 : n + l.sum + cnt x.g x.fi (w - x.fi) = Z := by rw [ec] at sm; omega
          have dr : wr.drew = wr.drew := rfl
          have CD := hide (fun (W1 : World) (k : Below wr.heap.size wr W1) => form_count (fx.below k) x.fi w (by omega) wl)
          have BD := hide (show Below wr.heap.size wr wr.drew from drew_below wr)
          have FF := hide FIN.out
          obtain ⟨K, hK⟩ : ∃ K, kc x.T = K := ⟨_, rfl⟩
          rw [hK] at hm he C
          simp only [hK] at CD
          obtain ⟨CV, hCV⟩ : ∃ F : Int, ((cnt x.g x.fi (w - x.fi) : Nat) : Int) = F := ⟨_, rfl⟩
          obtain ⟨LS, hLS⟩ : ∃ F : Int, ((l.sum : Nat) : Int) = F := ⟨_, rfl⟩
          obtain ⟨N, hN⟩ : ∃ F : Int, ((n : Nat) : Int) = F := ⟨_, rfl⟩
          obtain ⟨FI, hFI⟩ : ∃ F : Int, ((x.fi : Nat) : Int) = F := ⟨_, rfl⟩
          obtain ⟨EN, hEN⟩ : ∃ F : Int, ((x.en : Nat) : Int) = F := ⟨_, rfl⟩
          have HSUM := hide (show N + LS + CV = ((Z : Nat) : Int) by omega)
          have n0 : 0 ≤ N := by omega
          have n1 : N + LS ≤ 35184372088832 := by omega
          have n2 : 0 ≤ LS := by omega
          have n3 : 0 ≤ CV := by omega
          have n4 : N + LS + CV ≤ 35184372088832 := by omega
          have sw : IntKind.u64.wrap (N + LS + CV) = N + LS + CV := by rw [IntKind.wrap_u64]; omega
          have hv := HV.out
          rw [hFI] at d a0
          rw [hEN] at d1 a1
          simp only [hCV, hFI, hv] at CD
          simp only [hFI] at BB
          rw [hLS] at CP
          rw [hN]
          obtain ⟨b, hb⟩ : ∃ b, x.b = b := ⟨_, rfl⟩
          obtain ⟨ql, hql⟩ := l.ptr_form
          rw [hb] at a0 a1 a2 a6
          simp only [hb] at BB
          rw [hql] at a6 CP
          obtain ⟨T, hT⟩ : ∃ b, x.T = b := ⟨_, rfl⟩
          obtain ⟨u, hu⟩ : ∃ b, x.u = b := ⟨_, rfl⟩
          simp only [hT, hu] at a2 BB CD hm he
          have HP := hide (show (Tr.node l x r).ptr = .pointer (some ⟨b, 0, none⟩) by rw [Tr.ptr, hb])
          rw [HP.out]
          clear hFI hEN hb a3 a7 hh x1 x2 x3 x4 x5 x6 x7 x8 lim sb sm HS c c2 hCV hLS hN hK hT hu tl wl ec C fx s1 dr hv hql
          go_wp2_with fail
          refine CP.out.mono ?_
          rintro e w' ⟨rfl, hw'⟩; rw [hw']; clear hw' w' CP
          go_wp2_with fail
          go_region_held3 (fun w' => w'.cell? ⟨b, 0, none⟩ = some (.int .u64 FI) ∧ w'.cell? ⟨b, 2, none⟩ = some (.iface T u)) (first | (go_keep; done)) (first
            | (refine (CD.out _ BD.out).mono ?_; rintro e W1 ⟨rfl, hW1⟩; have K1 := hide (BD.out.trans (hW1.mono BD.out.size)); obtain ⟨g0, g2⟩ := BB.out W1 K1.out; clear hW1 a0 a2))
          have HF := FIN.out W1 K1.out
          rw [← HSUM.out] at HF
          have HF2 := hide HF
          clear HF
          go_wp2_with fail
          first | exact HF2.out | (go_ret; exact HF2.out)
        · have ec := sb.cto_right (by omega : x.en ≤ w)
          have HN := hide (show (Sub wr r x.en hi ∧ (n + l.sum + x.own) + cto (fnOf r.list) w = Z) ∧ hOf wr r.ptr < hOf wr (Tr.node l x r).ptr from ⟨⟨sb.right, by rw [ec] at sm; omega⟩, by rw [hh, hOf_ptr sb.at_.2.2, Tr.hgt]; omega⟩)
          have d1 : decide (V < ((x.en : Nat) : Int)) = false := decide_eq_false (by have := HV.out; omega)
          have s1 : n + l.sum + x.own ≤ Z := by rw [ec] at sm; omega
          obtain ⟨LS, hLS⟩ : ∃ F : Int, ((l.sum : Nat) : Int) = F := ⟨_, rfl⟩
          obtain ⟨OW, hOW⟩ : ∃ F : Int, ((x.own : Nat) : Int) = F := ⟨_, rfl⟩
          obtain ⟨N, hN⟩ : ∃ F : Int, ((n : Nat) : Int) = F := ⟨_, rfl⟩
          obtain ⟨FI, hFI⟩ : ∃ F : Int, ((x.fi : Nat) : Int) = F := ⟨_, rfl⟩
          obtain ⟨EN, hEN⟩ : ∃ F : Int, ((x.en : Nat) : Int) = F := ⟨_, rfl⟩
          have HSUM := hide (show N + LS + OW = ((n + l.sum + x.own : Nat) : Int) by omega)
          have n0 : 0 ≤ N := by omega
          have n1 : N + LS ≤ 35184372088832 := by omega
          have n2 : 0 ≤ LS := by omega
          have n3 : 0 ≤ OW := by omega
          have n4 : N + LS + OW ≤ 35184372088832 := by omega
          rw [hFI] at d a0
          rw [hEN] at d1 a1
          rw [hOW] at a3
          rw [hLS] at CP
          rw [hN]
          obtain ⟨b, hb⟩ : ∃ b, x.b = b := ⟨_, rfl⟩
          obtain ⟨ql, hql⟩ := l.ptr_form
          obtain ⟨qr, hqr⟩ := r.ptr_form
          rw [hb] at a0 a1 a3 a6 a7
          rw [hql] at a6 CP
          rw [hqr] at a7
          have HL := hide hqr
          have HP := hide (show (Tr.node l x r).ptr = .pointer (some ⟨b, 0, none⟩) by rw [Tr.ptr, hb])
          rw [HP.out]
          clear hFI hEN hb a2 hh x1 x2 x3 x4 x5 x6 x7 x8 lim sb sm HS c c2 hLS hOW hN tl wl ec s1 hql hqr
          go_wp2_with fail
          refine CP.out.mono ?_
          rintro e w' ⟨rfl, hw'⟩; rw [hw']; clear hw' w' CP
          go_wp2_with fail
          exact ⟨⟨r, x.en, hi, n + l.sum + x.own, by rw [HL.out], by rw [HSUM.out], hide HN.out.1, hide (by first | rfl | trivial)⟩, by have := HN.out.2; rw [HL.out, HP.out] at this; exact this⟩
end Go.Proofs.Ytnhllnepnpmegaa

/- What comes in: lists of numbers, of truths. -/
namespace Go.Proofs.Ytnhllnepnpmegaa
open Go.ChangeShapes Go.WideShapes Go.ChangeAt Go.RowKit Go.Shelf Go.WideMaps
set_option linter.unusedVariables false
set_option linter.unusedSimpArgs false

theorem act_spot {w : World} {b off : Nat} {sp : Option Nat} {v : Value} (h : w.cell? ⟨b, off, sp⟩ = some v) : sp = none := by
  unfold World.cell? at h
  cases sp with
  | none => rfl
  | some x => split at h <;> simp at h
theorem addr_add0 (b o j : Nat) : (⟨b, o, none⟩ : Addr).add j = ⟨b, o + j, none⟩ := by simp [Addr.add]
theorem cell_lt {w : World} {b o : Nat} {v : Value} (h : w.cell? ⟨b, o, none⟩ = some v) : b < w.heap.size := World.block_lt_of_cell? w ⟨b, o, none⟩ h
theorem aI : Try.prog.cellsOf 3 = 1 := by kernel_rfl
theorem cellsU : Try.prog.cellsOf 31 = 1 := by kernel_rfl
theorem aB : Try.prog.cellsOf 4 = 1 := by kernel_rfl
/-- Numbers in a row, uint64. -/
structure U64At (w : World) (o : Option Addr) (len cap : Nat) (X : Nat → Int) : Prop where
  nil : o = none → len = 0 ∧ cap = 0
  cells : ∀ ad, o = some ad → ∀ i, i < len → w.cell? (ad.add i) = some (.int .u64 (X i))
  lo : ∀ i, 0 ≤ X i
  hi : ∀ i, X i ≤ 18446744073709551615
theorem U64At.at {w : World} {o : Option Addr} {len cap : Nat} {X : Nat → Int} (h : U64At w o len cap X) {i : Nat} (hi : i < len) : ∃ b off, o = some ⟨b, off, none⟩ ∧ b < w.heap.size ∧ ∀ i, i < len → w.cell? ⟨b, off + i, none⟩ = some (.int .u64 (X i)) := by
  cases ho : o with
  | none => have := (h.nil ho).1; omega
  | some a =>
    obtain ⟨b, off, sp⟩ := a
    have c0 := h.cells _ ho 0 (by omega)
    have hs : sp = none := act_spot (by simpa [Addr.add] using c0)
    subst hs
    have hb : b < w.heap.size := cell_lt (by simpa [Addr.add] using c0)
    refine ⟨b, off, rfl, hb, fun j hj => ?_⟩
    have := h.cells _ ho j hj
    rwa [addr_add0] at this
theorem u64s_of {H : Type} {enc : TypeId × Value → H} {W : World} {o : Option Addr} {len cap : Nat} {d : DataW H} {p : List MemPlace} (h : DataW.Trod enc Try.prog W 0 (fun _ => true) true 48 (.slice o len cap) d p) : len ≤ maxLen ∧ len ≤ cap ∧ ∃ X, U64At W o len cap X := by
  obtain ⟨fuel, hf⟩ := h
  rcases Go.Deep.open_slice1 Try.underlying48 cellsU hf with ⟨hcs, hx⟩ | ⟨a, len', cap', m, n, V, D, Pl, hcs, _, hl, hm, hme, hx, hc⟩
  · simp [Value.cells] at hcs
    obtain ⟨rfl, rfl, rfl⟩ := hcs
    exact ⟨by decide, Nat.le_refl _, fun _ => 0, ⟨fun _ => ⟨rfl, rfl⟩, fun _ z => by (cases z), fun _ => by decide, fun _ => by decide⟩⟩
  · simp [Value.cells] at hcs
    obtain ⟨rfl, rfl, rfl⟩ := hcs
    have hmc : m = cap := by simpa using hme
    have ex : ∀ i, ∃ X : Int, (0 ≤ X ∧ X ≤ 18446744073709551615) ∧ (i < len → W.cell? (a.add i) = some (.int .u64 X)) := fun i => by
      by_cases z : i < len
      · obtain ⟨k1, k2⟩ := hc i (by omega)
        obtain ⟨n0, e0, _, w0⟩ := DataW.trod_int Try.underlying31 k2
        have b0 := bounds_u64 w0
        have e1 : V i = .int .u64 n0 := by injection e0
        exact ⟨n0, ⟨b0.1, b0.2⟩, fun _ => by rw [k1, e1]⟩
      · exact ⟨0, ⟨by decide, by decide⟩, fun y => absurd y z⟩
    refine ⟨by omega, by omega, fun i => Classical.choose (ex i), ⟨fun z => by (cases z), fun ad e i hi => ?_, fun i => (Classical.choose_spec (ex i)).1.1, fun i => (Classical.choose_spec (ex i)).1.2⟩⟩
    obtain rfl : a = ad := by injection e
    exact (Classical.choose_spec (ex i)).2 hi
structure BoolsAt (w : World) (o : Option Addr) (len cap : Nat) (X : Nat → Bool) : Prop where
  nil : o = none → len = 0 ∧ cap = 0
  cells : ∀ ad, o = some ad → ∀ i, i < len → w.cell? (ad.add i) = some (.bool (X i))
theorem BoolsAt.at {w : World} {o : Option Addr} {len cap : Nat} {X : Nat → Bool} (h : BoolsAt w o len cap X) {i : Nat} (hi : i < len) : ∃ b off, o = some ⟨b, off, none⟩ ∧ b < w.heap.size ∧ ∀ i, i < len → w.cell? ⟨b, off + i, none⟩ = some (.bool (X i)) := by
  cases ho : o with
  | none => have := (h.nil ho).1; omega
  | some a =>
    obtain ⟨b, off, sp⟩ := a
    have c0 := h.cells _ ho 0 (by omega)
    have hs : sp = none := act_spot (by simpa [Addr.add] using c0)
    subst hs
    have hb : b < w.heap.size := cell_lt (by simpa [Addr.add] using c0)
    refine ⟨b, off, rfl, hb, fun j hj => ?_⟩
    have := h.cells _ ho j hj
    rwa [addr_add0] at this
theorem bools_of {H : Type} {enc : TypeId × Value → H} {W : World} {o : Option Addr} {len cap : Nat} {d : DataW H} {p : List MemPlace} (h : DataW.Trod enc Try.prog W 0 (fun _ => true) true 32 (.slice o len cap) d p) : len ≤ maxLen ∧ len ≤ cap ∧ ∃ X, BoolsAt W o len cap X := by
  obtain ⟨fuel, hf⟩ := h
  rcases Go.Deep.open_slice1 Try.underlying32 aB hf with ⟨hcs, hx⟩ | ⟨a, len', cap', m, n, V, D, Pl, hcs, _, hl, hm, hme, hx, hc⟩
  · simp [Value.cells] at hcs
    obtain ⟨rfl, rfl, rfl⟩ := hcs
    exact ⟨by decide, Nat.le_refl _, fun _ => false, ⟨fun _ => ⟨rfl, rfl⟩, fun _ z => by (cases z)⟩⟩
  · simp [Value.cells] at hcs
    obtain ⟨rfl, rfl, rfl⟩ := hcs
    have hmc : m = cap := by simpa using hme
    have ex : ∀ i, ∃ X : Bool, (i < len → W.cell? (a.add i) = some (.bool X)) := fun i => by
      by_cases z : i < len
      · obtain ⟨k1, k2⟩ := hc i (by omega)
        obtain ⟨n0, e0, _⟩ := DataW.trod_bool Try.underlying4 k2
        have e1 : V i = .bool n0 := by injection e0
        exact ⟨n0, fun _ => by rw [k1, e1]⟩
      · exact ⟨false, fun y => absurd y z⟩
    refine ⟨by omega, by omega, fun i => Classical.choose (ex i), ⟨fun z => by (cases z), fun ad e i hi => ?_⟩⟩
    obtain rfl : a = ad := by injection e
    exact Classical.choose_spec (ex i) hi
end Go.Proofs.Ytnhllnepnpmegaa
