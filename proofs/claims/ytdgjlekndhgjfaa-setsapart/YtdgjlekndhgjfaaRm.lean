/- The reference's sets: Remove: contract. -/
import Derived.Test.YtdgjlekndhgjfaaRt
namespace Go.Proofs.Ytdgjlekndhgjfaa
open Go.ChangeShapes Go.WideShapes Go.ChangeAt Go.RowKit Go.Shelf Go.Proofs.Rx Go.Maps Go.Proofs.Hm
set_option linter.unusedVariables false
set_option linter.unusedSimpArgs false

attribute [local go_sem] Oper.semAt_some

section
variable {W W' : World} {r : Nat} {v : Value} {L : List On} {F : Nat → Prop}
set_option maxRecDepth 100000 in
theorem rremove_any (h : (tRef r L).P W F) (hl : L.length ≤ 10000) (hnd : L.Nodup) (id : Int) :
    Calls Try.prog 20 #[.pointer (some ⟨r, 0, none⟩), .int .i64 id] W fun e W' => e = .returned (.int .i64 (removeE L id)) ∧ RTurn r (removeL L id) W W' F := by
  obtain ⟨v, h, hF⟩ := h
  obtain ⟨R, hR⟩ : ∃ R : Ending → World → Prop, R = fun e W' => e = .returned (.int .i64 (removeE L id)) ∧ RTurn r (removeL L id) W W' F := ⟨_, rfl⟩
  rw [← hR]
  have FN := hide (show (∀ k y, k < L.length → L[k]? = some y → decide (y.id = id) = false) → R (.returned (.int .i64 35)) W from fun hn => by
    have e : L.find? (fun x => decide (x.id = id)) = none := List.find?_eq_none.2 (fun y hy => by
      obtain ⟨k, hk, ek⟩ := List.getElem_of_mem hy
      have := hn k y hk (by rw [List.getElem?_eq_getElem hk, ek])
      rw [this]; simp)
    rw [hR]
    unfold removeE removeL
    rw [e, if_neg (by
      rw [List.any_eq_true]
      rintro ⟨y, hy, u⟩
      exact List.find?_eq_none.1 e y hy u)]
    exact ⟨rfl, RTurn.same ⟨v, h, hF⟩ (Below.refl _ _)⟩)
  have FS := hide (show ∀ (x : On) (k : Nat), (∀ j y, j < k → L[j]? = some y → decide (y.id = id) = false) → L[k]? = some x → x.id = id → ∀ W2, CutTo W W2 r v L k → R (.returned (.int .i64 0)) W2 from fun x k hn hk hx W2 c => by
    have e := find_at (p := fun x => decide (x.id = id)) hn hk (decide_eq_true hx)
    rw [hR]
    unfold removeE removeL
    rw [e, if_pos (List.any_eq_true.2 ⟨x, List.mem_of_getElem? hk, decide_eq_true hx⟩)]
    refine ⟨rfl, ?_⟩
    rw [show takeL L (some x) = L.erase x from rfl, erase_at hnd hk]
    exact c.turn hF)
  have H := hide h
  have HC := hide (fun k (hk : k < L.length) => cut_any h hl k hk)
  obtain ⟨ov, cap0, rfl⟩ := row_form6 h.row
  have c0 := h.bk.cell 0 _ rfl
  obtain ⟨n, hn⟩ : ∃ n : Nat, L.length = n := ⟨_, rfl⟩
  have HN := hide hn
  rw [hn] at c0 HC hl FN
  clear h hn hR hF hnd
  go_enter Try.func20, Try.ntmps20
  go_wp2_with fail
  go_loopw [5] (fun vi wr => ∃ (i : Nat), vi = .int .i64 (i : Nat) ∧ i ≤ n ∧ wr = W ∧ Hid (∀ k y, k < i → L[k]? = some y → decide (y.id = id) = false)) (fun vi _ => n - (zi vi).toNat)
  case atStart => exact ⟨0, rfl, by omega, rfl, hide (fun k y hk => by omega)⟩
  case round =>
    obtain ⟨i, rfl, hi, hw, HA⟩ := hrel
    rw [hw]
    clear hw
    have pi : IntKind.i64.wrap ((i : Int) + 1) = (i : Int) + 1 := by rw [IntKind.wrap_i64]; omega
    by_cases c : i < n
    · have d : decide ((i : Int) < (n : Int)) = true := decide_eq_true (by omega)
      have d' : decide (i < n) = true := decide_eq_true c
      obtain ⟨x, hx⟩ : ∃ x, L[i]? = some x := ⟨_, List.getElem?_eq_getElem (by rw [HN.out]; exact c)⟩
      obtain ⟨g, cap, ev, x0, x1, x2, x3, x4, x5, _, _⟩ := H.out.at hx
      rw [HN.out] at ev
      obtain ⟨rfl, rfl⟩ : ov = some ⟨g, 0, none⟩ ∧ cap0 = cap := by simpa using ev
      have i0 : 0 ≤ (i : Int) := by omega
      have i1 : (i : Int) < (n : Int) := by omega
      by_cases e : x.id = id
      · have F1 := hide (fun W2 ct => FS.out x i HA.out hx e W2 ct)
        have CC := hide (HC.out i c)
        have eb : (x.id == id) = true := by rw [e]; simp
        have eb' : (id == id) = true := by simp
        rw [e] at x0
        clear ev x1 x2 x3 x4 x5 hx FS FN HC e eb
        go_wp2_with fail
        refine CC.out.mono ?_
        rintro e W2 ⟨rfl, ct⟩
        have FF := hide (F1.out W2 (by first | exact ct | (rw [HN.out]; exact ct) | (rw [HN.out] at ct ⊢; exact ct)))
        clear CC F1 ct
        go_wp2_with fail
        first | exact FF.out | (go_ret; exact FF.out)
      · have eb : (x.id == id) = false := by simpa using e
        have FA : Hid (∀ k y, k < i + 1 → L[k]? = some y → decide (y.id = id) = false) := hide (fun k y hk hy => by
          by_cases q : k = i
          · subst q
            rw [hx] at hy
            rw [← Option.some.inj hy]
            exact decide_eq_false e
          · exact HA.out k y (by omega) hy)
        clear ev x1 x2 x3 x4 x5 hx FS FN HC e
        go_wp2_with fail
        exact ⟨⟨i + 1, by push_cast; rfl, by omega, by first | rfl | trivial, FA⟩, by simp only [zi]; omega⟩
    · have d : decide ((i : Int) < (n : Int)) = false := decide_eq_false (by omega)
      have d' : decide (i < n) = false := decide_eq_false c
      have FF := hide (FN.out (fun k y hk hy => HA.out k y (by omega) hy))
      clear FS FN HC
      go_wp2_with fail
      first | exact FF.out | (go_ret; exact FF.out)
end
end Go.Proofs.Ytdgjlekndhgjfaa
