/- The reference's sets: lists of spans appended to, cut: contracts. -/
import Derived.Test.YtdgjlekndhgjfaaRr
namespace Go.Proofs.Ytdgjlekndhgjfaa
open Go.ChangeShapes Go.WideShapes Go.ChangeAt Go.RowKit Go.Shelf Go.Proofs.Rx Go.Maps Go.Proofs.Hm
set_option linter.unusedVariables false
set_option linter.unusedSimpArgs false

attribute [local go_sem] Oper.semAt_some

theorem infoO : (Try.prog.info? 65).map (fun i => (i.zero, i.size, i.bytes)) = some (some (.agg #[.int .i64 0, .int .u64 0, .int .i64 0, .bool false, .bool false, .bool false]), 6, 32) := by kernel_rfl
/-- Some of a block's cells appended. -/
theorem ones_src {X : World} {v : Value} {k : Nat} {xs : List Value} (h : X.ownsRow 0 65 6 v k xs) (ad : Addr) (m c : Nat) (news : List Value) (hl : news.length = m * 6) (hn : ∀ j u, news[j]? = some u → X.cell? (ad.add j) = some u) (h1 : ∀ u ∈ news, u.oneCell' = true) (hk : k + m ≤ 100000) (ty : TypeId) :
    ∃ v' Y, (Builtin.append_ #[26, 26] ty #[v, .slice (some ad) m c]).run Try.prog X = .ok v' Y ∧ Y.ownsRow 0 65 6 v' (k + m) (xs ++ news) ∧ Kept (fun x => v.ownBlock = some x) X Y ∧ ∀ g, v'.ownBlock = some g → v.ownBlock = some g ∨ X.heap.size ≤ g := by
  obtain ⟨i0, hi0, hz0, hz1, hz2⟩ := info_parts infoO
  obtain ⟨v', Y, hr, h2, h3, _, h5⟩ := run_append_own_at (P := Try.prog) X 0 26 ty 65 i0 _ 6 32 Try.underlying26 hi0 hz0 hz1 hz2 rfl (by decide) v k xs h ad m c news hl hn h1 (by unfold maxLen; omega) (by omega) (Nat.zero_le _)
  refine ⟨v', Y, hr, h2, Kept.of_grown h3 (fun j e => e), fun g hg => ?_⟩
  rcases h5 with h5 | h5
  · exact .inl (by rw [← h5]; exact hg)
  · rw [h5] at hg
    have := Option.some.inj hg
    exact .inr (by omega)
theorem one_cells (x : On) : ∀ u ∈ oneV x, u.oneCell' = true := fun u hu => by
  unfold oneV at hu
  simp at hu
  rcases hu with rfl | rfl | rfl | rfl | rfl | rfl <;> rfl
theorem flat_cells (L : List On) : ∀ u ∈ flat L, u.oneCell' = true := fun u hu => by
  unfold flat at hu
  obtain ⟨x, _, hx⟩ := List.mem_flatMap.1 hu
  exact one_cells x u hx
theorem flat_take : ∀ (L : List On) (i : Nat), (flat L).take (i * 6) = flat (L.take i)
  | [], i => by simp [flat]
  | x :: L, 0 => by simp [flat]
  | x :: L, i + 1 => by
    rw [flat_cons, List.take_succ_cons, flat_cons, List.take_append, show (oneV x).length = 6 from rfl, List.take_of_length_le (by show 6 ≤ _; omega), show (i + 1) * 6 - 6 = i * 6 by omega, flat_take L i]
theorem flat_drop : ∀ (L : List On) (i : Nat), (flat L).drop (i * 6) = flat (L.drop i)
  | [], i => by simp [flat]
  | x :: L, 0 => by simp [flat]
  | x :: L, i + 1 => by
    rw [flat_cons, List.drop_succ_cons, List.drop_append, show (oneV x).length = 6 from rfl, List.drop_eq_nil_of_le (by show 6 ≤ _; omega), show (i + 1) * 6 - 6 = i * 6 by omega, flat_drop L i, List.nil_append]
section
variable {W W' : World} {r : Nat} {v : Value} {L : List On} {F : Nat → Prop}
theorem addr6 (b o j : Nat) : (⟨b, o, none⟩ : Addr).add j = ⟨b, o + j, none⟩ := by simp [Addr.add]
/-- Behind a cut. -/
def CutTo (W W' : World) (r : Nat) (v : Value) (L : List On) (i : Nat) : Prop := ∃ v', RefAt W' r v' (L.eraseIdx i) ∧ Kept (fun z => z = r ∨ v.ownBlock = some z) W W' ∧ ∀ g, v'.ownBlock = some g → v.ownBlock = some g ∨ W.heap.size ≤ g
theorem sub_at {xs : List Value} {j k : Nat} {u : Value} (h : (xs.take k)[j]? = some u) : xs[j]? = some u := by
  rw [List.getElem?_take] at h
  split at h
  · exact h
  · cases h
theorem cut_any (h : RefAt W r v L) (hl : L.length ≤ 10000) (i : Nat) (hi : i < L.length) :
    Calls Try.prog 33 #[.pointer (some ⟨r, 0, none⟩), .int .i64 (i : Nat)] W fun e W' => e = .returned (.tuple #[]) ∧ CutTo W W' r v L i := by
  obtain ⟨x, hx⟩ : ∃ x, L[i]? = some x := ⟨_, List.getElem?_eq_getElem hi⟩
  obtain ⟨g, cap, rfl, -, -, -, -, -, -, -, hcap⟩ := h.at hx
  have bW := below_alloc W (.cells #[] 65)
  have h0 := h.below bW
  have cA : (W.alloc (.cells #[] 65)).cell? ⟨r, 0, none⟩ = some (.slice (some ⟨g, 0, none⟩) L.length cap) := h0.bk.cell 0 _ rfl
  have oE : (W.alloc (.cells #[] 65)).ownsRow 0 65 6 (.slice (some ⟨W.heap.size, 0, none⟩) 0 0) 0 [] := World.ownsRow_lit W #[] 0 (Nat.zero_le _) (Nat.zero_le _) rfl
  have lg : g < W.heap.size := (h.row.lt g rfl).2
  have gr : g ≠ r := fun e => by
    rcases h.row.2 with ⟨a, _⟩ | ⟨g', cap', cur, a, _, c, _⟩
    · cases a
    · have e' : g = g' := by
        have q := congrArg Value.ownBlock a
        unfold Value.ownBlock at q
        injection q
      rw [← e', e] at c
      have := h.bk
      unfold Bk at this
      rw [this] at c
      injection c with c
      injection c with _ c _
      exact absurd c (by decide)
  obtain ⟨v1, Y1, r1, o1, k1, n1⟩ := ones_src oE ⟨g, 0, none⟩ i cap ((flat L).take (i * 6)) (by rw [List.length_take, flat_len]; omega) (fun j u hu => h0.row.cells rfl j u (sub_at hu)) (fun u hu => flat_cells L u (List.mem_of_mem_take hu)) (by omega) 26
  have hY : RefAt Y1 r (.slice (some ⟨g, 0, none⟩) L.length cap) L := ⟨h0.bk.kept k1 (fun e => by
    have := h.bk.lt
    have e' : W.heap.size = r := by simpa [Value.ownBlock] using e
    omega), owns_kept h0.row k1 (fun q hq e => by
    have e1 : g = q := by simpa [Value.ownBlock] using hq
    have e2 : W.heap.size = q := by simpa [Value.ownBlock] using e
    omega)⟩
  have cB : Y1.cell? ⟨r, 0, none⟩ = some (.slice (some ⟨g, 0, none⟩) L.length cap) := hY.bk.cell 0 _ rfl
  obtain ⟨ad, cp, had⟩ : ∃ (ad : Nat) (cp : Nat), (cap = i + 1 ∧ ad = 0 ∧ cp = 0) ∨ (cap ≠ i + 1 ∧ ad = (i + 1) * 6 ∧ cp = cap - (i + 1)) := by
    by_cases e : cap = i + 1
    · exact ⟨0, 0, .inl ⟨e, rfl, rfl⟩⟩
    · exact ⟨_, _, .inr ⟨e, rfl, rfl⟩⟩
  obtain ⟨v2, Y2, r2, o2, k2, n2⟩ := ones_src o1 ⟨g, ad, none⟩ (L.length - (i + 1)) cp ((flat L).drop ((i + 1) * 6)) (by rw [List.length_drop, flat_len]; omega) (fun j u hu => by
    rcases had with ⟨e1, e2, e3⟩ | ⟨e1, e2, e3⟩
    · rw [List.drop_eq_nil_of_le (by rw [flat_len]; omega)] at hu
      simp at hu
    · rw [List.getElem?_drop] at hu
      have := hY.row.cells rfl ((i + 1) * 6 + j) u hu
      rw [addr6, Nat.zero_add] at this
      rw [addr6, e2]
      exact this) (fun u hu => flat_cells L u (List.mem_of_mem_drop hu)) (by omega) 26
  obtain ⟨a1, l1, c1, e1⟩ : ∃ a l c, v1 = .slice a l c := by
    obtain ⟨a, c, e⟩ := row_form6 o1
    exact ⟨a, _, c, e⟩
  obtain ⟨a2, l2, c2, e2⟩ : ∃ a l c, v2 = .slice a l c := by
    obtain ⟨a, c, e⟩ := row_form6 o2
    exact ⟨a, _, c, e⟩
  subst e1
  subst e2
  have s0 : (W.alloc (.cells #[] 65)).heap.size = W.heap.size + 1 := World.size_alloc W _
  have new1 : ∀ q, (Value.slice a1 l1 c1).ownBlock = some q → W.heap.size ≤ q := fun q hq => by
    rcases n1 q hq with u | u
    · have : W.heap.size = q := by simpa [Value.ownBlock] using u
      omega
    · omega
  have new2 : ∀ q, (Value.slice a2 l2 c2).ownBlock = some q → W.heap.size ≤ q := fun q hq => by
    rcases n2 q hq with u | u
    · exact new1 q u
    · have := k1.size
      omega
  have bY2 : Bk Y2 r 28 #[.slice (some ⟨g, 0, none⟩) L.length cap] := hY.bk.kept k2 (fun e => by have := new1 r e; have := h.bk.lt; omega)
  have fY2 := bY2.fz 0
  have cY2 : Y2.cell? ⟨r, 0, none⟩ = some (.slice (some ⟨g, 0, none⟩) L.length cap) := bY2.cell 0 _ rfl
  have FIN := hide (show CutTo W (Y2.setCell ⟨r, 0, none⟩ (.slice a2 l2 c2)) r (.slice (some ⟨g, 0, none⟩) L.length cap) L i from by
    have kr := kept_set (F := fun z => z = r) Y2 r 0 (.slice a2 l2 c2) rfl
    refine ⟨_, ⟨bY2.set 0 (.slice a2 l2 c2), ?_⟩, ?_, fun q hq => .inr (new2 q hq)⟩
    · have e : flat (L.eraseIdx i) = [] ++ (flat L).take (i * 6) ++ (flat L).drop ((i + 1) * 6) := by
        rw [List.nil_append, flat_take, flat_drop, ← flat_app, List.eraseIdx_eq_take_drop_succ]
      have el : (L.eraseIdx i).length = 0 + i + (L.length - (i + 1)) := by
        rw [List.length_eraseIdx]
        rw [if_pos hi]
        omega
      rw [e, el]
      exact owns_kept o2 kr (fun q hq e => by have := new2 q hq; have := h.bk.lt; omega)
    · refine (((Kept.of_below bW).trans k1 (fun z hz e => ?_)).trans k2 (fun z hz e => ?_)).trans (kr.mono (fun z hz => .inl hz)) (fun _ _ h => h)
      · have : W.heap.size = z := by simpa [Value.ownBlock] using e
        omega
      · have := new1 z e
        omega)
  obtain ⟨n, hn⟩ : ∃ n : Nat, L.length = n := ⟨_, rfl⟩
  rw [hn] at cA hi hl hcap cB r2 cY2 FIN
  rw [hn]
  have i0 : 0 ≤ (i : Int) := by omega
  have i1 : (i : Int) ≤ (n : Int) := by omega
  have i2 : (i : Int) ≤ (cap : Int) := by omega
  have i3 : i ≤ cap := by omega
  have i4 : i + 1 ≤ n := by omega
  have i5 : (i : Int) + 1 ≤ (n : Int) := by omega
  have pi : IntKind.i64.wrap ((i : Int) + 1) = (i : Int) + 1 := by rw [IntKind.wrap_i64]; omega
  have R1 := hide r1
  have R2 := hide r2
  clear h hx bW h0 oE lg gr r1 o1 k1 n1 hY r2 o2 k2 n2 s0 new1 new2 bY2 hn
  rcases had with ⟨rfl, rfl, rfl⟩ | ⟨hne, rfl, rfl⟩
  · have z : n - (i + 1) = 0 := by omega
    rw [z] at R2
    go_enter Try.func33, Try.ntmps33
    go_wp2_with (at_builtin; first | (refine list_append_run (by rfl) (.tmp 5) (.tmp 11) 26 (by rfl) (by rfl) (by rfl) R1.out ?_) | (refine list_append_run (by rfl) (.tmp 14) (.tmp 21) 26 (by rfl) (by rfl) (by rfl) R2.out ?_))
    go_end0
    exact ⟨rfl, FIN.out⟩
  · have hne' : ¬ i + 1 = cap := fun e => hne e.symm
    have hz : cap - (i + 1) ≠ 0 := by omega
    have hlt : i + 1 < cap := by omega
    go_enter Try.func33, Try.ntmps33
    go_wp2_with (at_builtin; first | (refine list_append_run (by rfl) (.tmp 5) (.tmp 11) 26 (by rfl) (by rfl) (by rfl) R1.out ?_) | (refine list_append_run (by rfl) (.tmp 14) (.tmp 21) 26 (by rfl) (by rfl) (by rfl) R2.out ?_))
    go_end0
    exact ⟨rfl, FIN.out⟩
end
end Go.Proofs.Ytdgjlekndhgjfaa
