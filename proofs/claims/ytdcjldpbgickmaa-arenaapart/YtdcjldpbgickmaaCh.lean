/- slices.Collect, slices.Sorted over a map's keys; Chunks: contracts. -/
import Derived.Test.YtdcjldpbgickmaaCo
import Derived.Test.YtdcjldpbgickmaaSw
namespace Go.Proofs.Ytdcjldpbgickmaa
open Go.ChangeShapes Go.WideShapes Go.ChangeAt Go.RowKit Go.Shelf Go.Proofs.Rx Go.Maps
open Go.Sort (swp ltInt size_swp swp_left swp_right swp_other PermIn SortedIn)
set_option linter.unusedVariables false
set_option linter.unusedSimpArgs false

/-! ### Plain -/
def ofL (L : List Nat) : Array Int := (L.map fun x : Nat => (x : Int)).toArray
theorem ofL_size (L : List Nat) : (ofL L).size = L.length := by simp [ofL]
theorem ofL_at (L : List Nat) (t : Nat) (h : t < L.length) : (ofL L)[t]! = ((L[t]! : Nat) : Int) := by
  rw [getElem!_pos _ t (by rw [ofL_size]; exact h), getElem!_pos _ t h]
  simp [ofL]
theorem ints_nat : ∀ (l : List Int), (∀ x ∈ l, 0 ≤ x) → ∃ L : List Nat, l = L.map fun x : Nat => (x : Int)
  | [], _ => ⟨[], rfl⟩
  | x :: l, h => by
    obtain ⟨L, rfl⟩ := ints_nat l (fun y hy => h y (List.mem_cons_of_mem _ hy))
    have := h x List.mem_cons_self
    exact ⟨x.toNat :: L, by simp; omega⟩
theorem perm_of_map {L K : List Nat} (h : (L.map fun x : Nat => (x : Int)).Perm (K.map fun x : Nat => (x : Int))) : L.Perm K := by
  have := h.map Int.toNat
  simpa [List.map_map, Function.comp_def] using this
theorem sorted_list (L : List Nat) (nd : L.Nodup) (d' : Array Int) (hp : PermIn 0 L.length (ofL L) d') (hs : SortedIn ltInt 0 L.length d') : ∃ K : List Nat, d' = ofL K ∧ K.Perm L ∧ K.Pairwise (· < ·) := by
  have sz : d'.size = L.length := by rw [hp.1, ofL_size]
  have e1 : (d'.extract 0 L.length) = d' := by rw [← sz]; exact Array.extract_size
  have e2 : ((ofL L).extract 0 L.length) = ofL L := by rw [← ofL_size L]; exact Array.extract_size
  have p := hp.2.2
  rw [e1, e2] at p
  have p' : d'.toList.Perm (L.map fun x : Nat => (x : Int)) := p
  obtain ⟨K, hK⟩ := ints_nat d'.toList (fun x hx => by
    have := p'.mem_iff.1 hx
    obtain ⟨y, _, rfl⟩ := List.mem_map.1 this
    omega)
  have hd : d' = ofL K := by
    unfold ofL
    rw [← hK]
  have pk : K.Perm L := perm_of_map (by rw [← hK]; exact p')
  have kl : K.length = L.length := pk.length_eq
  refine ⟨K, hd, pk, ?_⟩
  have nk : K.Nodup := pk.nodup_iff.2 nd
  rw [List.pairwise_iff_getElem]
  intro i j hi hj hij
  have h1 := ltF.1 (hs i j (by omega) hij (by omega))
  rw [hd, ofL_at K i hi, ofL_at K j hj, getElem!_pos _ i hi, getElem!_pos _ j hj] at h1
  have h2 : K[i] ≠ K[j] := (List.pairwise_iff_getElem.1 nk) i j hi hj hij
  omega
/-- A slice that holds a list of numbers. -/
def RowL (N : Nat) (W : World) (v : Value) (L : List Nat) : Prop := (v = .slice none 0 0 ∧ L = []) ∨ ∃ g cap, v = .slice (some ⟨g, 0, none⟩) L.length cap ∧ N ≤ g ∧ ∀ t, t < L.length → W.cell? ⟨g, t, none⟩ = some (encU L[t]!)
theorem RowL.kept {F : Nat → Prop} {N M : Nat} {W W' : World} {v : Value} {L : List Nat} (h : RowL N W v L) (k : Kept F W W') (hM : M ≤ W.heap.size) (hg : ∀ g n cap, v = .slice (some ⟨g, 0, none⟩) n cap → g < M) (hF : ∀ b, F b → b < N ∨ M ≤ b) : RowL N W' v L := by
  rcases h with h | ⟨g, cap, e, hn, hc⟩
  · exact .inl h
  · have hl := hg _ _ _ e
    exact .inr ⟨g, cap, e, hn, fun t ht => (cell_block (k.block g (by omega) (fun f => by have := hF g f; omega)) t).trans (hc t ht)⟩
theorem RowL.below {N : Nat} {W W' : World} {v : Value} {L : List Nat} (h : RowL N W v L) (k : Below W.heap.size W W') : RowL N W' v L := by
  rcases h with h | ⟨g, cap, e, hn, hc⟩
  · exact .inl h
  · exact .inr ⟨g, cap, e, hn, fun t ht => (k.cell (p := ⟨g, t, none⟩) (World.block_lt_of_cell? W ⟨g, t, none⟩ (hc t ht))).trans (hc t ht)⟩
/-! ### Sort of nothing -/
theorem insertion_nil (W : World) : Calls Try.prog 37 #[.slice none 0 0, .int .i64 0, .int .i64 0] W fun e W' => e = .returned (.tuple #[]) ∧ Below W.heap.size W W' := by
  go_enter Try.func37, Try.ntmps37
  go_wp2_with fail
  go_loopw [6] (fun vi X => vi = .int .i64 1 ∧ X = W) (fun _ _ => 0)
  case atStart => exact ⟨rfl, rfl⟩
  case round =>
    obtain ⟨rfl, hX⟩ := hrel
    rw [hX]
    go_wp2_with fail
    go_end0
    exact ⟨rfl, Below.refl _ _⟩
theorem pdq_nil (W : World) : Calls Try.prog 35 #[.slice none 0 0, .int .i64 0, .int .i64 0, .int .i64 0] W fun e W' => e = .returned (.tuple #[]) ∧ Below W.heap.size W W' := by
  have C := hide (insertion_nil W)
  go_enter Try.func35, Try.ntmps35
  go_wp2_with fail
  go_loopw [1, 2, 3, 8, 9] (fun va vb vl vc vp X => va = .int .i64 0 ∧ vb = .int .i64 0 ∧ vl = .int .i64 0 ∧ vc = .bool true ∧ vp = .bool true ∧ X = W) (fun _ _ _ _ _ _ => 0)
  case atStart => exact ⟨rfl, rfl, rfl, rfl, rfl, rfl⟩
  case round =>
    obtain ⟨rfl, rfl, rfl, rfl, rfl, hX⟩ := hrel
    rw [hX]
    go_wp2_with fail
    refine C.out.mono ?_
    rintro r X ⟨rfl, hb⟩
    go_wp2_with fail
    refine bodyPost_ret (results_none rfl _ _ _) rfl ?_
    exact ⟨rfl, hb⟩
theorem sort_nil (W : World) : Calls Try.prog 29 #[.slice none 0 0] W fun e W' => e = .returned (.tuple #[]) ∧ Below W.heap.size W W' := by
  have C := hide (Try.bits_Len 0 W (by omega) (by omega))
  rw [show ((Go.Lib.bitLen (0 : Int).toNat : Nat) : Int) = 0 from by decide] at C
  have CP := hide (pdq_nil W)
  go_enter Try.func29, Try.ntmps29
  go_wp2_with fail
  refine C.out.mono ?_
  rintro r w' ⟨rfl, hw⟩
  rw [hw]
  clear hw C
  go_wp2_with fail
  refine CP.out.mono ?_
  rintro r w' ⟨rfl, hb⟩
  go_wp2_with fail
  go_end0
  exact ⟨rfl, hb⟩
/-! ### Collect, Sorted -/
theorem collect_any (Bm kb : Nat) (G : Nat → Option (Int × Option Nat)) (w : World) (hB : Boxed w Bm 49 (.map (some kb))) (hM : MapG encO w kb G) :
    Calls Try.prog 28 #[.func (.func 30) #[] #[.pointer (some ⟨Bm, 0, none⟩)]] w fun e w' =>
      ∃ (v : Value) (L : List Nat), e = .returned v ∧ (L.Nodup ∧ ∀ p, p ∈ L ↔ (p < 18446744073709551616 ∧ (G p).isSome = true)) ∧ w'.ownsRow w.heap.size 35 1 v L.length (L.map encU) ∧ Below w.heap.size w w' := by
  have C := hide (appendKeys_any Bm kb G w hB hM)
  clear hB hM
  go_enter Try.func28, Try.ntmps28
  go_wp2_with fail
  refine C.out.mono ?_
  rintro r w' ⟨v, L, rfl, h1, h2, h3⟩
  have F := hide (And.intro h1 (And.intro h2 h3))
  clear h1 h2 h3 C
  go_wp2_with fail
  go_ret
  exact ⟨v, L, rfl, F.out⟩
theorem row_of_owns {W : World} {M g n cap : Nat} {L : List Nat} (h : W.ownsRow M 35 1 (.slice (some ⟨g, 0, none⟩) n cap) L.length (L.map encU)) : n = L.length ∧ M ≤ g ∧ RwU g 0 W (ofL L) W := by
  rcases h.2 with ⟨a, b⟩ | ⟨g', cap', cur, a, b, c, d, e, f, k⟩
  · cases a
  · obtain ⟨rfl, rfl, rfl⟩ : g = g' ∧ n = L.length ∧ cap = cap' := by simp at a; exact ⟨a.1, a.2.1, a.2.2⟩
    have hl : g < W.heap.size := (Array.getElem?_eq_some_iff.1 c).1
    refine ⟨rfl, b, fun t ht => ?_, fun t ht => ?_, Only.refl _ _ _ _, hl⟩
    · rw [ofL_size] at ht
      have q : (cur.toList.take (L.length * 1))[t]? = (L.map encU)[t]? := by rw [k]
      rw [List.getElem?_take_of_lt (by omega), List.getElem?_map, List.getElem?_eq_getElem ht] at q
      rw [ofL_at L t ht, getElem!_pos _ t ht, Nat.zero_add]
      simp only [World.cell?, c]
      simpa [encU] using q
    · simp [World.frozen?, c]
theorem sorted_any (Bm kb : Nat) (G : Nat → Option (Int × Option Nat)) (w : World) (hB : Boxed w Bm 49 (.map (some kb))) (hM : MapG encO w kb G) :
    Calls Try.prog 17 #[.func (.func 30) #[] #[.pointer (some ⟨Bm, 0, none⟩)]] w fun e w' =>
      ∃ (v : Value) (L : List Nat), e = .returned v ∧ (L.Pairwise (· < ·) ∧ ∀ p, p ∈ L ↔ (p < 18446744073709551616 ∧ (G p).isSome = true)) ∧ RowL w.heap.size w' v L ∧ (∀ g n cap, v = .slice (some ⟨g, 0, none⟩) n cap → g < w'.heap.size) ∧ Below w.heap.size w w' := by
  have C := hide (collect_any Bm kb G w hB hM)
  have hk : ∀ L : List Nat, (L.Nodup ∧ ∀ p, p ∈ L ↔ (p < 18446744073709551616 ∧ (G p).isSome = true)) → L.length ≤ 67108864 := fun L h => by
    obtain ⟨nn, D, hown, hnn, hkeys, hM⟩ := hM
    refine nodup_len _ _ h.1 (fun x hx => ?_)
    have := (h.2 x).1 hx
    exact has_lt hkeys hown.isMap (by rw [(hM x this.1).1]; exact this.2)
  have HK := hide hk
  clear hB hM hk
  go_enter Try.func17, Try.ntmps17
  go_wp2_with fail
  refine C.out.mono ?_
  rintro r w1 ⟨v, L, rfl, h1, h2, h3⟩
  have H1 := hide h1
  have H3 := hide h3
  have shape : (v = .slice none 0 0 ∧ L = []) ∨ ∃ g n cap, v = .slice (some ⟨g, 0, none⟩) n cap := by
    rcases h2.2 with ⟨a, b⟩ | ⟨g, cap, cur, a, b, c, d⟩
    · exact .inl ⟨a, List.length_eq_zero_iff.1 b⟩
    · exact .inr ⟨g, _, cap, a⟩
  clear h1 h3 C
  rcases shape with ⟨rfl, rfl⟩ | ⟨g, n, cap, rfl⟩
  · have CS := hide (sort_nil w1)
    clear h2
    go_wp2_with fail
    refine CS.out.mono ?_
    rintro r w2 ⟨rfl, hb⟩
    have B2 := hide (H3.out.trans (hb.mono H3.out.size))
    clear hb CS
    go_wp2_with fail
    go_ret
    exact ⟨_, [], rfl, ⟨List.Pairwise.nil, H1.out.2⟩, .inl ⟨rfl, rfl⟩, (fun _ _ _ z => by cases z), B2.out⟩
  · obtain ⟨e, hg, hr⟩ := row_of_owns h2
    subst e
    have CS := hide (sort_any hr cap (by rw [ofL_size]; have := HK.out L H1.out; omega))
    rw [ofL_size] at CS
    clear h2 hr
    go_wp2_with fail
    refine CS.out.mono ?_
    rintro r w2 ⟨rfl, d', q1, q2, q3⟩
    obtain ⟨K, k1, k2, k3⟩ := sorted_list L H1.out.1 d' q1 q2
    have kl : K.length = L.length := k2.length_eq
    have F := hide (show (K.Pairwise (· < ·) ∧ ∀ p, p ∈ K ↔ (p < 18446744073709551616 ∧ (G p).isSome = true)) ∧ RowL w.heap.size w2 (.slice (some ⟨g, 0, none⟩) L.length cap) K ∧ (∀ g1 n1 cap1, Value.slice (some ⟨g, 0, none⟩) L.length cap = .slice (some ⟨g1, 0, none⟩) n1 cap1 → g1 < w2.heap.size) ∧ Below w.heap.size w w2 from by
      refine ⟨⟨k3, fun p => by rw [k2.mem_iff]; exact H1.out.2 p⟩, .inr ⟨g, cap, by rw [kl], hg, fun t ht => ?_⟩, (fun g1 n1 c1 z => (show g = g1 by simp at z; exact z.1) ▸ q3.lt), below_kept H3.out q3.only.kept (fun b hb => by rw [hb]; exact hg) H3.out.size⟩
      have := q3.cell t (by rw [k1, ofL_size]; exact ht)
      rw [Nat.zero_add, k1, ofL_at K t ht] at this
      exact this)
    clear q1 q2 q3 k1 k2 k3 kl CS
    go_wp2_with fail
    go_ret
    exact ⟨_, K, rfl, F.out⟩
end Go.Proofs.Ytdcjldpbgickmaa
