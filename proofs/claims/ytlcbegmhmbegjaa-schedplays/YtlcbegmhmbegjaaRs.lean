/- The reference: put. -/
import Derived.Test.YtlcbegmhmbegjaaRr
namespace Go.Proofs.Ytlcbegmhmbegjaa
open Go.ChangeShapes Go.WideShapes Go.ChangeAt Go.RowKit Go.Proofs.Sc Go.Maps
set_option linter.unusedVariables false
set_option linter.unusedSimpArgs false

theorem pcells_set (l : List Pr) : ∀ (i : Nat) (n x : Int) (p : Pr), l[i]? = some p → p.name = n → (pcells l).set (i * 2 + 1) (.int .i64 x) = pcells (l.set i ⟨n, x⟩) := by
  unfold pcells
  induction l with
  | nil => intro i n x p h; simp at h
  | cons a l ih =>
    intro i n x p h e
    cases i with
    | zero => simp at h; subst h; subst e; simp [pcell]
    | succ i =>
      have := ih i n x p (by simpa using h) e
      rw [List.set_cons_succ, List.flatMap_cons, List.flatMap_cons, ← this]
      have e : (pcell a).length = 2 := rfl
      rw [List.set_append_right _ _ (by rw [e]; omega), e, show (i + 1) * 2 + 1 - 2 = i * 2 + 1 by omega]
/-- What put answers. -/
def PairP (w : World) (v : Value) (l' : List Pr) (e : Ending) (w' : World) : Prop :=
  ∃ v', e = .returned v' ∧ w'.ownsRow 0 66 2 v' l'.length (pcells l') ∧ Kept (fun x => v.ownBlock = some x) w w' ∧ ∀ g, v'.ownBlock = some g → v.ownBlock = some g ∨ w.heap.size ≤ g
theorem put_core {w : World} {v : Value} {l : List Pr} (own : w.ownsRow 0 66 2 v l.length (pcells l)) (name x : Int) (hn : i64 name) (hx : i64 x) (hok : ∀ p ∈ l, i64 p.name ∧ i64 p.x) (hlen : l.length ≤ 10000) :
    Calls Try.prog 26 #[v, .int .i64 name, .int .i64 x] w (PairP w v (putL l name x)) := by
  obtain ⟨o, cap, rfl, h2, h3, h4⟩ := pairs_of own
  obtain ⟨hn1, hn2⟩ := hn
  obtain ⟨hx1, hx2⟩ := hx
  obtain ⟨k, hk⟩ : ∃ k, l.length = k := ⟨_, rfl⟩
  have HK := hide hk
  have HC := hide h4
  have HO := hide hok
  rw [hk] at h2 hlen own ⊢
  have OW := hide own
  obtain ⟨PO, hPO⟩ : ∃ PO : Ending → World → Prop, PO = PairP w (.slice o k cap) (putL l name x) := ⟨_, rfl⟩
  rw [← hPO]
  have FN := hide hPO
  have hfz : Hid (∀ g j, o = some ⟨g, 0, none⟩ → w.frozen? ⟨g, j, none⟩ = false) := hide (fun g j e => by
    obtain ⟨_, ⟨z, _⟩ | ⟨g', cap', cur, z, _, hh, _⟩⟩ := own
    · injection z with z; rw [e] at z; cases z
    · injection z with z; rw [e] at z; injection z with z; injection z with z; subst z
      simp [World.frozen?, hh])
  clear h4 hok hk hPO own
  obtain ⟨i0, hi0, hz0, hz1, hz2⟩ : ∃ i, Try.prog.info? 66 = some i ∧ i.zero = some (.agg #[.int .i64 0, .int .i64 0]) ∧ i.size = 2 ∧ i.bytes = 16 := ⟨_, rfl, rfl, rfl, rfl⟩
  go_enter Try.func26, Try.ntmps26
  go_wp2_with fail
  go_loopw [7] (fun iv wr => ∃ (i : Nat), iv = .int .i64 (i : Int) ∧ i ≤ k ∧ wr = w ∧ Hid (∀ j, j < i → ∀ p, l[j]? = some p → p.name ≠ name)) (fun iv _ => k - (intOf iv).toNat)
  case atStart => exact ⟨0, rfl, Nat.zero_le _, rfl, hide (fun j hj => by omega)⟩
  case round =>
    obtain ⟨i, rfl, hi, rfl, hd⟩ := hrel
    by_cases hlt : i < k
    · have hil : i < l.length := by rw [HK.out]; exact hlt
      have hne : l ≠ [] := fun e => by rw [e] at hil; simp at hil
      obtain ⟨g, rfl, hg, hc⟩ := HC.out hne
      have hget : l[i]? = some l[i] := List.getElem?_eq_getElem hil
      obtain ⟨ca, cb⟩ := hc i _ hget
      have HG := hide hget
      obtain ⟨q, hq⟩ : ∃ q, l[i] = q := ⟨_, rfl⟩
      rw [hq] at ca cb HG
      have c1 : (i : Int) < (k : Int) := by omega
      have i0' : (0 : Int) ≤ (i : Int) := by omega
      have fz := hfz.out g (i * 2 + 1) rfl
      clear hget hq hc hne hg
      by_cases z : q.name = name
      · have d : (q.name == name) = true := by simpa using z
        have F : Hid (PO (.returned (.slice (some ⟨g, 0, none⟩) k cap)) (wr.setCell ⟨g, i * 2 + 1, none⟩ (.int .i64 x))) := hide (by
          rw [FN.out, put_found hd.out HG.out z]
          refine ⟨_, rfl, ?_, Kept.of_set _ g _ _ rfl, fun g' e => Or.inl e⟩
          have a := (OW.out.stored (i * 2 + 1) (.int .i64 x)).1
          rw [pcells_set l i name x q HG.out z] at a
          rw [List.length_set, HK.out]
          exact a)
        clear z hil
        go_wp2_with fail
        first | exact F.out | (go_ret; exact F.out)
      · have d : (q.name == name) = false := by simpa using z
        have N : Hid (∀ j, j < i + 1 → ∀ p, l[j]? = some p → p.name ≠ name) := hide (fun j hj p hp => by
          by_cases c : j = i
          · subst c; have := HG.out; rw [hp] at this; cases this; exact z
          · exact hd.out j (by omega) p hp)
        clear z hil fz
        go_wp2_with fail
        go_round
        case rel => exact ⟨i + 1, by go_num, by omega, by trivial, N⟩
        case measure => simp [intOf]; omega
    · have e : i = k := by omega
      subst e
      have c1 : ¬ (i : Int) < (i : Int) := by omega
      have E : Hid (putL l name x = l ++ [⟨name, x⟩]) := hide (put_none (by rw [HK.out]; exact hd.out))
      go_wp2_with (first | (at_builtin; refine wpList_append_lies _ rfl (.tmp 27) (.tmp 31) 48 rfl 0 66 i0 (.agg #[.int .i64 0, .int .i64 0]) 2 16 Try.underlying48 hi0 hz0 hz1 hz2 rfl (by decide) (.slice o i cap) i (pcells l) rfl (OW.out.alloc _) ⟨wr.heap.size, 0, none⟩ 1 1 [.int .i64 name, .int .i64 x] rfl rfl (World.news_of_block (heap_alloc_new _ _)) (by intro u hu; simp at hu; rcases hu with rfl | rfl <;> rfl) (by decide) (by unfold maxLen; omega) (by omega) (Nat.zero_le _) _ rfl ?_; intro g1 cap1 w2 hown2 hgrow hat hlt2; have O2 := hide hown2; have G2 := hide hgrow; have A2 := hide hat; clear hown2 hgrow hat hlt2))
      rw [FN.out, E.out]
      refine ⟨_, rfl, ?_, ?_, ?_⟩
      · have := O2.out
        rw [pcells_append, List.length_append, HK.out]
        exact this
      · have a1 : Kept (fun x => (Value.slice o i cap).ownBlock = some x) wr (wr.alloc (.cells #[.int .i64 name, .int .i64 x] 66 (0, 0))) := Kept.of_below (Below.alloc (Below.refl _ _) (Nat.le_refl _) _)
        exact a1.trans (Kept.of_grown (F := fun x => (Value.slice o i cap).ownBlock = some x) G2.out (fun k e => e)) (fun x hx => Or.inl hx)
      · intro g' e
        simp [Value.ownBlock] at e
        subst e
        rcases A2.out with z | z
        · exact Or.inl z
        · right; rw [z]; simp
end Go.Proofs.Ytlcbegmhmbegjaa
