/- The reference: drop. -/
import Derived.Test.YtlcbegmhmbegjaaRs
namespace Go.Proofs.Ytlcbegmhmbegjaa
open Go.ChangeShapes Go.WideShapes Go.ChangeAt Go.RowKit Go.Proofs.Sc Go.Maps
set_option linter.unusedVariables false
set_option linter.unusedSimpArgs false

theorem drop_next {l : List Pr} {i : Nat} {p : Pr} (h : l[i]? = some p) (n : Int) : dropL (l.take (i + 1)) n = if p.name = n then dropL (l.take i) n else dropL (l.take i) n ++ [p] := by
  obtain ⟨hi, e⟩ := List.getElem?_eq_some_iff.1 h
  unfold dropL
  rw [List.take_succ_eq_append_getElem hi, e, List.filter_append]
  by_cases c : p.name = n
  · simp [c]
  · simp [c]
/-- What drop answers. -/
def DropP (w : World) (l' : List Pr) (e : Ending) (w' : World) : Prop :=
  ∃ v', e = .returned v' ∧ w'.ownsRow w.heap.size 66 2 v' l'.length (pcells l') ∧ Below w.heap.size w w'
theorem drop_core {w : World} {v : Value} {l : List Pr} (own : w.ownsRow 0 66 2 v l.length (pcells l)) (name : Int) (hn : i64 name) (hok : ∀ p ∈ l, i64 p.name ∧ i64 p.x) (hlen : l.length ≤ 10000) :
    Calls Try.prog 25 #[v, .int .i64 name] w (DropP w (dropL l name)) := by
  obtain ⟨o, cap, rfl, h2, h3, h4⟩ := pairs_of own
  obtain ⟨hn1, hn2⟩ := hn
  obtain ⟨k, hk⟩ : ∃ k, l.length = k := ⟨_, rfl⟩
  have HK := hide hk
  have HC := hide h4
  rw [hk] at h2 hlen ⊢
  obtain ⟨PO, hPO⟩ : ∃ PO : Ending → World → Prop, PO = DropP w (dropL l name) := ⟨_, rfl⟩
  rw [← hPO]
  have FN : Hid (∀ v w', w'.ownsRow w.heap.size 66 2 v (dropL l name).length (pcells (dropL l name)) → Below w.heap.size w w' → PO (.returned v) w') := hide (fun v w' h1 h2 => by rw [hPO]; exact ⟨v, rfl, h1, h2⟩)
  clear h4 hok hk hPO own
  obtain ⟨i0, hi0, hz0, hz1, hz2⟩ : ∃ i, Try.prog.info? 66 = some i ∧ i.zero = some (.agg #[.int .i64 0, .int .i64 0]) ∧ i.size = 2 ∧ i.bytes = 16 := ⟨_, rfl, rfl, rfl, rfl⟩
  go_enter Try.func25, Try.ntmps25
  go_wp2_with fail
  go_loopw [5, 6] (fun vv iv wr => ∃ (i m : Nat), iv = .int .i64 (i : Int) ∧ i ≤ k ∧ m ≤ i ∧ Hid (m = (dropL (l.take i) name).length) ∧ Hid (wr.ownsRow w.heap.size 66 2 vv m (pcells (dropL (l.take i) name))) ∧ Hid (Below w.heap.size w wr)) (fun _ iv _ => k - (intOf iv).toNat)
  case atStart => exact ⟨0, 0, rfl, Nat.zero_le _, Nat.zero_le _, hide rfl, hide (World.ownsRow_nil w w.heap.size 66 2), hide (Below.refl _ _)⟩
  case round =>
    obtain ⟨i, m, rfl, hi, hm, hme, hown, hB⟩ := hrel
    by_cases hlt : i < k
    · have hil : i < l.length := by rw [HK.out]; exact hlt
      have hne : l ≠ [] := fun e => by rw [e] at hil; simp at hil
      obtain ⟨g, rfl, hg, hc⟩ := HC.out hne
      have hget : l[i]? = some l[i] := List.getElem?_eq_getElem hil
      obtain ⟨ca, cb⟩ := hc i _ hget
      have NX := hide (drop_next hget name)
      obtain ⟨q, hq⟩ : ∃ q, l[i] = q := ⟨_, rfl⟩
      rw [hq] at ca cb NX
      have ca' := (hB.out.cell (p := ⟨g, i * 2, none⟩) hg).trans ca
      have cb' := (hB.out.cell (p := ⟨g, i * 2 + 1, none⟩) hg).trans cb
      have c1 : (i : Int) < (k : Int) := by omega
      have i0' : (0 : Int) ≤ (i : Int) := by omega
      clear hget hq hc hne hg ca cb
      by_cases z : q.name = name
      · have d : (q.name != name) = false := by simpa using z
        have E : Hid (dropL (l.take (i + 1)) name = dropL (l.take i) name) := hide (by rw [NX.out, if_pos z])
        clear z hil
        go_wp2_with fail
        go_roundw
        case rel => exact ⟨i + 1, m, by go_num, by omega, by omega, by rw [E.out]; exact hme, by rw [E.out]; exact hown, hB⟩
        case measure => simp [intOf]; omega
      · have d : (q.name != name) = true := by simpa using z
        have E : Hid (dropL (l.take (i + 1)) name = dropL (l.take i) name ++ [q]) := hide (by rw [NX.out, if_neg z])
        clear z hil
        go_wp2_with (first | (at_builtin; refine wpList_append_own _ rfl (.tmp 20) (.tmp 25) 48 rfl w.heap.size 66 i0 (.agg #[.int .i64 0, .int .i64 0]) 2 16 Try.underlying48 hi0 hz0 hz1 hz2 rfl (by decide) _ m _ rfl (hown.out.alloc _) ⟨wr.heap.size, 0, none⟩ 1 1 [.int .i64 q.name, .int .i64 q.x] rfl rfl (World.news_of_block (heap_alloc_new _ _)) (by intro u hu; simp at hu; rcases hu with rfl | rfl <;> rfl) (by unfold maxLen; omega) (by omega) (by have := hB.out.size; simp; omega) ?_; intro v' w2 hown2 hgrow hnil; have O2 := hide hown2; have G2 := hide hgrow; clear hown2 hgrow hnil))
        go_roundw
        case rel =>
          refine ⟨i + 1, m + 1, by go_num, by omega, by omega, hide (by rw [E.out, hme.out]; simp), ?_, ?_⟩
          · rw [E.out]
            have := O2.out
            rw [pcells_append]
            exact hide this
          · refine hide ((hB.out.alloc hB.out.size _).grown G2.out (by have := hB.out.size; simp; omega) (fun x hx => (hown.out.lt x hx).1))
        case measure => simp [intOf]; omega
    · obtain rfl : i = k := by omega
      have e : l.take i = l := List.take_of_length_le (by rw [HK.out]; exact Nat.le_refl _)
      rw [e] at hown hme
      have FN2 : Hid _ := hide (FN.out _ _ (by rw [← hme.out]; exact hown.out) hB.out)
      clear e
      have c1 : ¬ (i : Int) < (i : Int) := by omega
      clear FN hown hme
      go_wp2_with fail
      first | exact FN2.out | (go_ret; exact FN2.out)
end Go.Proofs.Ytlcbegmhmbegjaa
