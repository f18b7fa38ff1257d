/- What New makes: copies of lists, rows, words. -/
import Derived.Test.YtpceigglilgelaaVmVe
namespace Go.Proofs.Ytpceigglilgelaa
open Go.ChangeShapes Go.WideShapes Go.ChangeAt Go.RowKit Go.Proofs.Sp

theorem infoBo : (Try.prog.info? 4).map (fun i => (i.zero, i.size, i.bytes)) = some (some (.bool false), 1, 1) := by kernel_rfl
theorem slB_of_owns {w : World} {base : Nat} {e : TypeId} {v : Value} {n : Nat} {xs : List Value} (h : w.ownsRow base e 1 v n xs) (hv : v ≠ .slice none 0 0) : ∃ g, SlB w v xs g ∧ base ≤ g ∧ g < w.heap.size := by
  have hs := Sl.of_owns h
  obtain ⟨hl, h | ⟨g, cap, cur, hv', hg, hh, hc, hm, hs', ht⟩⟩ := h
  · exact absurd h.1 hv
  · have hgl := (Array.getElem?_eq_some_iff.1 hh).1
    rcases hs with ⟨e, _⟩ | ⟨b, off, cp, e, h1, h2, h3⟩
    · exact absurd e hv
    · rw [hv'] at e
      injection e with e1 e2 e3
      injection e1 with e1
      injection e1 with e4 e5
      subst e4 e5 e3
      exact ⟨g, Or.inr ⟨0, cap, by rw [hv', e2], h1, by unfold maxLen at hm; omega, h2, h3⟩, hg, hgl⟩
theorem own_blk (B : Nat) : ∀ k, (Value.slice (some ⟨B, 0, none⟩) 0 0).ownBlock = some k → B ≤ k := fun k hk => by
  have : B = k := by simpa [Value.ownBlock] using hk
  omega
set_option maxRecDepth 100000 in
theorem clone_u64 (v : Value) (xs : List Nat) (w : World) (hs : Sl w v (u64s xs)) (hn : xs.length ≤ 1048576) :
    Calls Try.prog 24 #[v] w fun e w' => ∃ v' g, e = .returned v' ∧ SlB w' v' (u64s xs) g ∧ w.heap.size ≤ g ∧ g ≤ w'.heap.size ∧ Below w.heap.size w w' := by
  have hq0 : ∀ w : World, (binOp .eql 22 (.slice none 0 0) (.slice none 0 0)).run Try.prog w = .ok (.bool true) w := fun _ => rfl
  have hq1 : ∀ (ad : Addr) (n c : Nat) (w : World), (binOp .eql 22 (.slice (some ad) n c) (.slice none 0 0)).run Try.prog w = .ok (.bool false) w := fun _ _ _ _ => rfl
  rcases hs with ⟨rfl, h0⟩ | ⟨b, off, cap, rfl, h1, h2, h3⟩
  · have H0 := hide h0
    clear h0
    go_enter Try.func24, Try.ntmps24
    go_wp2_with fail
    go_ret
    exact ⟨_, w.heap.size, rfl, Or.inl ⟨rfl, H0.out⟩, Nat.le_refl _, Nat.le_refl _, Below.refl _ _⟩
  · obtain ⟨ii, hii, hz0, hz1, hz2⟩ := info_parts infoU
    have H3 : Hid (∀ j u, (u64s xs)[j]? = some u → (w.alloc (.cells #[] 23)).cell? ((⟨b, off, none⟩ : Addr).add j) = some u) := hide (fun j u hu => by
      rw [addr_add0, World.cell?_of_block (Below.heap_alloc _ _ b h2)]
      exact h3 j u hu)
    have HL : Hid ((u64s xs).length = (u64s xs).length * 1) := hide (by omega)
    have e0 : (u64s xs).length = xs.length := by simp [u64s]
    obtain ⟨n, hnn⟩ : ∃ n, n = (u64s xs).length := ⟨_, rfl⟩
    rw [← hnn] at HL e0 h1 ⊢
    have HN := hide hnn
    have hn' : n ≤ 1048576 := by omega
    clear h3 hnn e0
    go_enter Try.func24, Try.ntmps24
    go_wp2_with (first | (at_builtin; refine wpList_append_own _ rfl (.tmp 5) (.tmp 6) 22 rfl w.heap.size 23 ii (.int .u64 0) 1 8 Try.underlying22 hii hz0 hz1 hz2 rfl (by decide) (.slice (some ⟨w.heap.size, 0, none⟩) 0 0) 0 [] rfl (own_empty w 23 1) ⟨b, off, none⟩ n cap (u64s xs) rfl (HN.out ▸ HL.out) H3.out (u64s_one xs) (by unfold maxLen; omega) (by omega) (by simp) ?_; intro v' w1 hown hgrow hnil))
    go_ret
    have hv : v' ≠ .slice none 0 0 := fun z => by have := (hnil.1 z).1; cases this
    obtain ⟨g, k1, k2, k3⟩ := slB_of_owns hown hv
    exact ⟨v', g, rfl, k1, k2, Nat.le_of_lt k3, ((Below.refl _ _).alloc (Nat.le_refl _) _).grown hgrow (by simp) (own_blk _)⟩
theorem bools_one (l : List Bool) : ∀ u ∈ bools l, u.oneCell' = true := by
  intro u hu
  unfold bools at hu
  obtain ⟨x, _, rfl⟩ := List.mem_map.1 hu
  rfl
set_option maxRecDepth 100000 in
theorem clone_bool (v : Value) (xs : List Bool) (w : World) (hs : Sl w v (bools xs)) (hn : xs.length ≤ 1048576) :
    Calls Try.prog 25 #[v] w fun e w' => ∃ v' g, e = .returned v' ∧ SlB w' v' (bools xs) g ∧ w.heap.size ≤ g ∧ g ≤ w'.heap.size ∧ Below w.heap.size w w' := by
  have hq0 : ∀ w : World, (binOp .eql 26 (.slice none 0 0) (.slice none 0 0)).run Try.prog w = .ok (.bool true) w := fun _ => rfl
  have hq1 : ∀ (ad : Addr) (n c : Nat) (w : World), (binOp .eql 26 (.slice (some ad) n c) (.slice none 0 0)).run Try.prog w = .ok (.bool false) w := fun _ _ _ _ => rfl
  rcases hs with ⟨rfl, h0⟩ | ⟨b, off, cap, rfl, h1, h2, h3⟩
  · have H0 := hide h0
    clear h0
    go_enter Try.func25, Try.ntmps25
    go_wp2_with fail
    go_ret
    exact ⟨_, w.heap.size, rfl, Or.inl ⟨rfl, H0.out⟩, Nat.le_refl _, Nat.le_refl _, Below.refl _ _⟩
  · obtain ⟨ii, hii, hz0, hz1, hz2⟩ := info_parts infoBo
    have H3 : Hid (∀ j u, (bools xs)[j]? = some u → (w.alloc (.cells #[] 4)).cell? ((⟨b, off, none⟩ : Addr).add j) = some u) := hide (fun j u hu => by
      rw [addr_add0, World.cell?_of_block (Below.heap_alloc _ _ b h2)]
      exact h3 j u hu)
    have HL : Hid ((bools xs).length = (bools xs).length * 1) := hide (by omega)
    have e0 : (bools xs).length = xs.length := by simp [bools]
    obtain ⟨n, hnn⟩ : ∃ n, n = (bools xs).length := ⟨_, rfl⟩
    rw [← hnn] at HL e0 h1 ⊢
    have HN := hide hnn
    have hn' : n ≤ 1048576 := by omega
    clear h3 hnn e0
    go_enter Try.func25, Try.ntmps25
    go_wp2_with (first | (at_builtin; refine wpList_append_own _ rfl (.tmp 5) (.tmp 6) 26 rfl w.heap.size 4 ii (.bool false) 1 1 Try.underlying26 hii hz0 hz1 hz2 rfl (by decide) (.slice (some ⟨w.heap.size, 0, none⟩) 0 0) 0 [] rfl (own_empty w 4 1) ⟨b, off, none⟩ n cap (bools xs) rfl (HN.out ▸ HL.out) H3.out (bools_one xs) (by unfold maxLen; omega) (by omega) (by simp) ?_; intro v' w1 hown hgrow hnil))
    go_ret
    have hv : v' ≠ .slice none 0 0 := fun z => by have := (hnil.1 z).1; cases this
    obtain ⟨g, k1, k2, k3⟩ := slB_of_owns hown hv
    exact ⟨v', g, rfl, k1, k2, Nat.le_of_lt k3, ((Below.refl _ _).alloc (Nat.le_refl _) _).grown hgrow (by simp) (own_blk _)⟩
theorem newRows_core (w : World) : Calls Try.prog 26 #[] w fun e w' => ∃ g, e = .returned (.agg #[.slice (some ⟨g, 0, none⟩) 1 1, .int .u64 34359738368, .int .u64 0, .int .u64 0, .int .u64 0]) ∧ HoldsR w' g 1 [(0, 0)] ∧ w.heap.size ≤ g ∧ g < w'.heap.size ∧ Below w.heap.size w w' := by
  go_enter Try.func26, Try.ntmps26
  go_wp2_with fail
  simp [bodyPost, results, Try.results26, go_sem]
  refine ⟨⟨⟨[.int .u64 0, .int .i64 0], ⟨?_, rfl, by decide⟩, rfl⟩, by decide⟩, (((Below.refl _ _).alloc (Nat.le_refl _) _).alloc (by simp) _).alloc (by simp; omega) _⟩
  rw [Below.heap_alloc _ _ (w.heap.size + 1) (by simp)]
  have := heap_alloc_new (w.alloc (.cells #[.slice (some ⟨w.heap.size + 1, 0, none⟩) 1 1, .int .u64 34359738368, .int .u64 0, .int .u64 0, .int .u64 0] 57)) (.cells #[.int .u64 0, .int .i64 0] 88)
  rwa [show (w.alloc (.cells #[.slice (some ⟨w.heap.size + 1, 0, none⟩) 1 1, .int .u64 34359738368, .int .u64 0, .int .u64 0, .int .u64 0] 57)).heap.size = w.heap.size + 1 by simp] at this
theorem newWords_core (w : World) : Calls Try.prog 27 #[] w fun e w' => ∃ bp bf, e = .returned (.agg #[.map (some bp), .map (some bf)]) ∧ MapIs w' ptrElem bp 0 (fun _ => 0) ∧ MapIs w' numElem bf 0 (fun _ => 0) ∧ bp ≠ bf ∧ w.heap.size ≤ bp ∧ w.heap.size ≤ bf ∧ Below w.heap.size w w' := by
  have hmk : ∀ w : World, (Instr.makeMap 59 none).run Try.prog w = .ok (.map (some w.heap.size)) (w.alloc (.map #[] 0)) := fun _ => rfl
  have hmk2 : ∀ w : World, (Instr.makeMap 60 none).run Try.prog w = .ok (.map (some w.heap.size)) (w.alloc (.map #[] 0)) := fun _ => rfl
  go_enter Try.func27, Try.ntmps27
  go_wp2_with fail
  have key : ∀ o : Obj, MapIs (((w.alloc o).alloc (.map #[] 0)).alloc (.map #[] 0)) ptrElem (w.heap.size + 1) 0 (fun _ => 0) ∧ MapIs (((w.alloc o).alloc (.map #[] 0)).alloc (.map #[] 0)) numElem (w.heap.size + 1 + 1) 0 (fun _ => 0) := fun o => by
    have h1 := MapIs.made (w.alloc o) ptrElem
    have h2 := MapIs.made ((w.alloc o).alloc (.map #[] 0)) numElem
    rw [show (w.alloc o).heap.size = w.heap.size + 1 by simp] at h1
    rw [show ((w.alloc o).alloc (.map #[] 0)).heap.size = w.heap.size + 1 + 1 by simp] at h2
    exact ⟨h1.kept (Below.heap_alloc _ _ _ (by simp)), h2⟩
  simp [bodyPost, results, Try.results27, go_sem]
  exact ⟨_, _, ⟨rfl, rfl⟩, (key _).1, (key _).2, by omega, by omega, by omega, (((Below.refl _ _).alloc (Nat.le_refl _) _).alloc (by simp) _).alloc (by simp; omega) _⟩
end Go.Proofs.Ytpceigglilgelaa
