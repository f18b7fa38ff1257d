/- The tree of pieces: formAt, ahead: contracts. -/
import Derived.Test.YtnhllnepnpmegaaGg
namespace Go.Proofs.Ytnhllnepnpmegaa
open Go.ChangeShapes Go.WideShapes Go.ChangeAt Go.RowKit Go.Shelf Go.Proofs.Rx Go.Maps Go.Proofs.Bt
set_option linter.unusedVariables false
set_option linter.unusedSimpArgs false

attribute [local go_sem] Oper.semAt_some

/-- A subtree that says of some words what the whole says. -/
structure Sub (W : World) (s : Tr) (lo hi : Nat) : Prop where
  at_ : TAt W s
  fm : Forms W s.list
  gd : Good lo hi s.list
  lim : hi ≤ 35184372088832
/-- How high a pointer's tree is. -/
def hOf (W : World) : Value → Nat
  | .pointer (some a) => match W.cell? ⟨a.block, 5, none⟩ with
    | some (.int _ n) => n.toNat
    | _ => 0
  | _ => 0
theorem hOf_ptr {W : World} : ∀ {s : Tr}, TAt W s → hOf W s.ptr = s.hgt
  | .nil, _ => rfl
  | .node l x r, ⟨h, _, _⟩ => by
    have c : W.cell? ⟨x.b, 5, none⟩ = some (.int .i64 ((Tr.node l x r).hgt : Nat)) := Bk.cell h 5 _ rfl
    show (match W.cell? ⟨x.b, 5, none⟩ with | some (.int _ n) => n.toNat | _ => 0) = _
    rw [c]
    exact Int.toNat_natCast _
section
variable {W : World} {l r s : Tr} {x : Nd} {lo hi : Nat}
theorem Sub.left (h : Sub W (.node l x r) lo hi) : Sub W l lo x.fi := ⟨h.at_.2.1, fun z hz => h.fm z (by rw [Tr.list]; exact List.mem_append_left _ hz), (Good.cut h.gd).1, by
  obtain ⟨_, x2, _, _, _, _, x7⟩ := (Good.cut h.gd).2
  have := x7.le
  have := h.lim
  omega⟩
theorem Sub.right (h : Sub W (.node l x r) lo hi) : Sub W r x.en hi := ⟨h.at_.2.2, fun z hz => h.fm z (by rw [Tr.list]; exact List.mem_append_right _ (List.mem_cons_of_mem _ hz)), (Good.cut h.gd).2.2.2.2.2.2.2, h.lim⟩
theorem Sub.says (h : Sub W (.node l x r) lo hi) (w : Nat) : fnOf (Tr.node l x r).list w = if w < x.fi then fnOf l.list w else if w < x.en then x.g w else fnOf r.list w := by
  have c := Good.cut h.gd
  rw [Tr.list, fnOf_app c.1 c.2]
  split
  · rfl
  · rename_i n
    rw [fnOf]
    split
    · rename_i n2
      rw [if_pos n2.2]
    · rename_i n2
      rw [if_neg (by omega)]
end
def same (w : Nat) (f g : Nat → Bool) : Prop := ∀ v, v / 512 = w / 512 → f v = g v
set_option maxRecDepth 100000 in
set_option maxHeartbeats 1000000 in
theorem formAt_any {W : World} {t : Tr} (h : TrOk W t) (w : Nat) (hw : w < 35184372088832) :
    Calls Try.prog 26 #[t.ptr, .int .u64 (w : Nat)] W fun e W' => (∃ T u g fb, e = .returned (.iface T u) ∧ FormAt W T u g fb ∧ same w g (fnOf t.list) ∧ ((∃ x ∈ t.list, fb = x.fb) ∨ fb = [])) ∧ W' = W := by
  obtain ⟨R, hR⟩ : ∃ R : Ending → World → Prop, R = fun e W' => (∃ T u g fb, e = .returned (.iface T u) ∧ FormAt W T u g fb ∧ same w g (fnOf t.list) ∧ ((∃ x ∈ t.list, fb = x.fb) ∨ fb = [])) ∧ W' = W := ⟨_, rfl⟩
  rw [← hR]
  have FIN := hide (show ∀ T u g fb, FormAt W T u g fb → same w g (fnOf t.list) → ((∃ x ∈ t.list, fb = x.fb) ∨ fb = []) → R (.returned (.iface T u)) W from fun T u g fb a b c => by rw [hR]; exact ⟨⟨T, u, g, fb, rfl, a, b, c⟩, rfl⟩)
  clear hR
  have BEG := hide (show Sub W t 0 35184372088832 from ⟨h.at_, h.fm, h.gd, Nat.le_refl _⟩)
  obtain ⟨V, hV⟩ : ∃ V : Int, (w : Int) = V := ⟨_, rfl⟩
  have v0 : 0 ≤ V := by omega
  have v1 : V < 35184372088832 := by omega
  have HV := hide hV
  rw [hV]
  obtain ⟨qt, hqt⟩ := t.ptr_form
  have HQ := hide hqt
  rw [hqt]
  clear hV h hw hqt
  go_enter Try.func26, Try.ntmps26
  go_wp2_with fail
  go_loopw [0] (fun vp wr => ∃ (s : Tr) (lo hi : Nat), vp = s.ptr ∧ Hid (Sub W s lo hi ∧ same w (fnOf s.list) (fnOf t.list) ∧ ∀ x ∈ s.list, x ∈ t.list) ∧ Hid (wr = W)) (fun vp _ => hOf W vp)
  case atStart => exact ⟨t, 0, 35184372088832, by rw [HQ.out], hide ⟨BEG.out, fun _ _ => rfl, fun _ h => h⟩, hide (by first | rfl | trivial)⟩
  case round =>
    obtain ⟨s, lo, hi, rfl, HS, HJ⟩ := hrel
    have hj := HJ.out
    subst hj
    clear HJ
    cases s with
    | nil =>
      have HF := hide (FIN.out 65 (.agg #[]) _ [] .none (fun v hv => (HS.out.2.1 v hv)) (.inr rfl))
      show Code.wp _ _ _ _ _
      simp only [Tr.ptr]
      clear HS
      go_wp2_with fail
      first | exact HF.out | (go_ret; exact HF.out)
    | node l x r =>
      obtain ⟨sb, sm, mm⟩ := HS.out
      have a0 : wr.cell? ⟨x.b, 0, none⟩ = some (.int .u64 (x.fi : Nat)) := Bk.cell sb.at_.1 0 _ rfl
      have a1 : wr.cell? ⟨x.b, 1, none⟩ = some (.int .u64 (x.en : Nat)) := Bk.cell sb.at_.1 1 _ rfl
      have a2 : wr.cell? ⟨x.b, 2, none⟩ = some (.iface x.T x.u) := Bk.cell sb.at_.1 2 _ rfl
      have a6 : wr.cell? ⟨x.b, 6, none⟩ = some l.ptr := Bk.cell sb.at_.1 6 _ rfl
      have a7 : wr.cell? ⟨x.b, 7, none⟩ = some r.ptr := Bk.cell sb.at_.1 7 _ rfl
      have hh := hOf_ptr sb.at_
      obtain ⟨x1, x2, x3, x4, x5, x6, x7⟩ := (Good.cut sb.gd).2
      have x8 := x7.le
      have lim := sb.lim
      have says := sb.says
      by_cases c : w < x.fi
      · have HN := hide (show (Sub wr l lo x.fi ∧ same w (fnOf l.list) (fnOf t.list) ∧ ∀ z ∈ l.list, z ∈ t.list) ∧ hOf wr l.ptr < hOf wr (Tr.node l x r).ptr from ⟨⟨sb.left, fun v hv => by
          rw [← sm v hv, says v, if_pos (by omega)], fun z hz => mm z (by rw [Tr.list]; exact List.mem_append_left _ hz)⟩, by rw [hh, hOf_ptr sb.at_.2.1, Tr.hgt]; omega⟩)
        have d : decide (V < ((x.fi : Nat) : Int)) = true := decide_eq_true (by have := HV.out; omega)
        obtain ⟨FI, hFI⟩ : ∃ F : Int, ((x.fi : Nat) : Int) = F := ⟨_, rfl⟩
        rw [hFI] at d a0
        obtain ⟨b, hb⟩ : ∃ b, x.b = b := ⟨_, rfl⟩
        obtain ⟨ql, hql⟩ := l.ptr_form
        rw [hb] at a0 a6
        rw [hql] at a6
        have HL := hide hql
        have HP := hide (show (Tr.node l x r).ptr = .pointer (some ⟨b, 0, none⟩) by rw [Tr.ptr, hb])
        rw [HP.out]
        clear hFI hb hql a1 a2 a7 hh x1 x2 x3 x4 x5 x6 x7 x8 lim says sb sm mm HS c
        go_wp2_with fail
        exact ⟨⟨l, lo, x.fi, by rw [HL.out], hide HN.out.1, hide (by first | rfl | trivial)⟩, by have := HN.out.2; rw [HL.out, HP.out] at this; exact this⟩
      · have d : decide (V < ((x.fi : Nat) : Int)) = false := decide_eq_false (by have := HV.out; omega)
        by_cases c2 : x.en ≤ w
        · have HN := hide (show (Sub wr r x.en hi ∧ same w (fnOf r.list) (fnOf t.list) ∧ ∀ z ∈ r.list, z ∈ t.list) ∧ hOf wr r.ptr < hOf wr (Tr.node l x r).ptr from ⟨⟨sb.right, fun v hv => by
            rw [← sm v hv, says v, if_neg (by omega), if_neg (by omega)], fun z hz => mm z (by rw [Tr.list]; exact List.mem_append_right _ (List.mem_cons_of_mem _ hz))⟩, by rw [hh, hOf_ptr sb.at_.2.2, Tr.hgt]; omega⟩)
          have d1 : decide (((x.en : Nat) : Int) ≤ V) = true := decide_eq_true (by have := HV.out; omega)
          obtain ⟨FI, hFI⟩ : ∃ F : Int, ((x.fi : Nat) : Int) = F := ⟨_, rfl⟩
          obtain ⟨EN, hEN⟩ : ∃ F : Int, ((x.en : Nat) : Int) = F := ⟨_, rfl⟩
          rw [hFI] at d a0
          rw [hEN] at d1 a1
          obtain ⟨b, hb⟩ : ∃ b, x.b = b := ⟨_, rfl⟩
          obtain ⟨ql, hql⟩ := r.ptr_form
          rw [hb] at a0 a1 a7
          rw [hql] at a7
          have HL := hide hql
          have HP := hide (show (Tr.node l x r).ptr = .pointer (some ⟨b, 0, none⟩) by rw [Tr.ptr, hb])
          rw [HP.out]
          clear hFI hEN hb hql a2 a6 hh x1 x2 x3 x4 x5 x6 x7 x8 lim says sb sm mm HS c c2
          go_wp2_with fail
          exact ⟨⟨r, x.en, hi, by rw [HL.out], hide HN.out.1, hide (by first | rfl | trivial)⟩, by have := HN.out.2; rw [HL.out, HP.out] at this; exact this⟩
        · have HF := hide (FIN.out x.T x.u x.g x.fb (sb.fm x (by rw [Tr.list]; simp)) (fun v hv => by
            rw [← sm v hv, says v, if_neg (by omega), if_pos (by omega)]) (.inl ⟨x, mm x (by rw [Tr.list]; simp), rfl⟩))
          have d1 : decide (((x.en : Nat) : Int) ≤ V) = false := decide_eq_false (by have := HV.out; omega)
          obtain ⟨FI, hFI⟩ : ∃ F : Int, ((x.fi : Nat) : Int) = F := ⟨_, rfl⟩
          obtain ⟨EN, hEN⟩ : ∃ F : Int, ((x.en : Nat) : Int) = F := ⟨_, rfl⟩
          rw [hFI] at d a0
          rw [hEN] at d1 a1
          obtain ⟨b, hb⟩ : ∃ b, x.b = b := ⟨_, rfl⟩
          rw [hb] at a0 a1 a2
          have HP := hide (show (Tr.node l x r).ptr = .pointer (some ⟨b, 0, none⟩) by rw [Tr.ptr, hb])
          rw [HP.out]
          clear hFI hEN hb a6 a7 hh x1 x2 x3 x4 x5 x6 x7 x8 lim says sb sm mm HS c c2
          go_wp2_with fail
          first | exact HF.out | (go_ret; exact HF.out)
end Go.Proofs.Ytnhllnepnpmegaa
