/- The reference: how its pairs lie in memory; look. -/
import Derived.Test.YtlcbegmhmbegjaaBs
import Derived.Test.YtlcbegmhmbegjaaRp
namespace Go.Proofs.Ytlcbegmhmbegjaa
open Go.ChangeShapes Go.WideShapes Go.ChangeAt Go.RowKit Go.Proofs.Sc Go.Maps
set_option linter.unusedVariables false
set_option linter.unusedSimpArgs false

/-- A list of pairs in memory. -/
def PairsAt (w : World) (v : Value) (l : List Pr) : Prop :=
  ∃ o cap, v = .slice o l.length cap ∧ l.length ≤ cap ∧ cap ≤ 9223372036854775807 ∧ (l ≠ [] → ∃ g, o = some ⟨g, 0, none⟩ ∧ g < w.heap.size ∧
    ∀ i p, l[i]? = some p → w.cell? ⟨g, i * 2, none⟩ = some (.int .i64 p.name) ∧ w.cell? ⟨g, i * 2 + 1, none⟩ = some (.int .i64 p.x))
theorem look_core {w : World} {v : Value} {l : List Pr} (h : PairsAt w v l) (name : Int) (hn : i64 name) (hok : ∀ p ∈ l, i64 p.name ∧ i64 p.x) :
    Calls Try.prog 35 #[v, .int .i64 name] w fun e w' => e = .returned (.tuple #[.int .i64 ((lookL l name).getD 0), .bool (lookL l name).isSome]) ∧ w' = w := by
  obtain ⟨o, cap, rfl, h2, h3, h4⟩ := h
  obtain ⟨hn1, hn2⟩ := hn
  obtain ⟨k, hk⟩ : ∃ k, l.length = k := ⟨_, rfl⟩
  have HK := hide hk
  have HC := hide h4
  have HO := hide hok
  rw [hk] at h2 ⊢
  obtain ⟨PO, hPO⟩ : ∃ PO : Ending → World → Prop, PO = fun e w' => e = .returned (.tuple #[.int .i64 ((lookL l name).getD 0), .bool (lookL l name).isSome]) ∧ w' = w := ⟨_, rfl⟩
  rw [← hPO]
  have yes : Hid (∀ x, lookL l name = some x → PO (.returned (.tuple #[.int .i64 x, .bool true])) w) := hide (fun x h => by rw [hPO, h]; exact ⟨rfl, rfl⟩)
  have no : Hid (lookL l name = none → PO (.returned (.tuple #[.int .i64 0, .bool false])) w) := hide (fun h => by rw [hPO, h]; exact ⟨rfl, rfl⟩)
  clear h4 hok hk hPO
  go_enter Try.func35, Try.ntmps35
  go_wp2_with fail
  go_loopw [6] (fun iv wr => ∃ (i : Nat), iv = .int .i64 (i : Int) ∧ i ≤ k ∧ wr = w ∧ Hid (∀ j, j < i → ∀ p, l[j]? = some p → p.name ≠ name)) (fun iv _ => k - (intOf iv).toNat)
  case atStart => exact ⟨0, rfl, Nat.zero_le _, rfl, hide (fun j hj => by omega)⟩
  case round =>
    obtain ⟨i, rfl, hi, rfl, hd⟩ := hrel
    by_cases hlt : i < k
    · have hil : i < l.length := by rw [HK.out]; exact hlt
      have hne : l ≠ [] := fun e => by rw [e] at hil; simp at hil
      obtain ⟨g, rfl, hg, hc⟩ := HC.out hne
      have hget : l[i]? = some l[i] := List.getElem?_eq_getElem hil
      obtain ⟨ca, cb⟩ := hc i _ hget
      have HG := hide hget
      obtain ⟨q, hq⟩ : ∃ q, l[i] = q := ⟨_, rfl⟩
      rw [hq] at ca cb HG
      have c1 : (i : Int) < (k : Int) := by omega
      have i0 : (0 : Int) ≤ (i : Int) := by omega
      clear hget hq hc hne hg
      by_cases z : q.name = name
      · have d : (q.name == name) = true := by simpa using z
        have F : Hid (lookL l name = some q.x) := hide (look_found hd.out HG.out z)
        clear z hil
        go_wp2_with fail
        exact yes.out _ F.out
      · have d : (q.name == name) = false := by simpa using z
        have N : Hid (∀ j, j < i + 1 → ∀ p, l[j]? = some p → p.name ≠ name) := hide (fun j hj p hp => by
          by_cases c : j = i
          · subst c; have := HG.out; rw [hp] at this; cases this; exact z
          · exact hd.out j (by omega) p hp)
        clear z hil
        go_wp2_with fail
        go_round
        case rel => exact ⟨i + 1, by go_num, by omega, by trivial, N⟩
        case measure => simp [intOf]; omega
    · have e : i = k := by omega
      subst e
      have c1 : ¬ (i : Int) < (i : Int) := by omega
      have F : Hid (lookL l name = none) := hide (look_none hd.out (by rw [HK.out]; exact Nat.le_refl _))
      go_wp2_with fail
      exact no.out F.out
end Go.Proofs.Ytlcbegmhmbegjaa
