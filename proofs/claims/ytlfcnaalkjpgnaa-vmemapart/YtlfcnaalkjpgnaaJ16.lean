/- J16 of the proof of both laws: texts VmNa, VmNb, VmFc, one behind the other. -/
import Derived.Test.YtlfcnaalkjpgnaaJ15
import Derived.Deep.RegionWith
/- What New makes: copies of lists, rows, words. -/
namespace Go.Proofs.Ytlfcnaalkjpgnaa
open Go.ChangeShapes Go.WideShapes Go.ChangeAt Go.RowKit Go.Proofs.Sp

theorem infoBo : (Try.prog.info? 4).map (fun i => (i.zero, i.size, i.bytes)) = some (some (.bool false), 1, 1) := by kernel_rfl
theorem slB_of_owns {w : World} {base : Nat} {e : TypeId} {v : Value} {n : Nat} {xs : List Value} (h : w.ownsRow base e 1 v n xs) (hv : v ≠ .slice none 0 0) : ∃ g, SlB w v xs g ∧ base ≤ g ∧ g < w.heap.size := by
  have hs := Sl.of_owns h
  obtain ⟨hl, h | ⟨g, cap, cur, hv', hg, hh, hc, hm, hs', ht⟩⟩ := h
  · exact absurd h.1 hv
  · have hgl := (Array.getElem?_eq_some_iff.1 hh).1
    rcases hs with ⟨e, _⟩ | ⟨b, off, cp, e, h1, h2, h3⟩
    · exact absurd e hv
    · rw [hv'] at e
      injection e with e1 e2 e3
      injection e1 with e1
      injection e1 with e4 e5
      subst e4 e5 e3
      exact ⟨g, Or.inr ⟨0, cap, by rw [hv', e2], h1, by unfold maxLen at hm; omega, h2, h3⟩, hg, hgl⟩
theorem own_blk (B : Nat) : ∀ k, (Value.slice (some ⟨B, 0, none⟩) 0 0).ownBlock = some k → B ≤ k := fun k hk => by
  have : B = k := by simpa [Value.ownBlock] using hk
  omega
set_option maxRecDepth 100000 in
theorem clone_u64 (v : Value) (xs : List Nat) (w : World) (hs : Sl w v (u64s xs)) (hn : xs.length ≤ 1048576) :
    Calls Try.prog 12 #[v] w fun e w' => ∃ v' g, e = .returned v' ∧ SlB w' v' (u64s xs) g ∧ w.heap.size ≤ g ∧ g ≤ w'.heap.size ∧ Below w.heap.size w w' := by
  have hq0 : ∀ w : World, (binOp .eql 22 (.slice none 0 0) (.slice none 0 0)).run Try.prog w = .ok (.bool true) w := fun _ => rfl
  have hq1 : ∀ (ad : Addr) (n c : Nat) (w : World), (binOp .eql 22 (.slice (some ad) n c) (.slice none 0 0)).run Try.prog w = .ok (.bool false) w := fun _ _ _ _ => rfl
  rcases hs with ⟨rfl, h0⟩ | ⟨b, off, cap, rfl, h1, h2, h3⟩
  · have H0 := hide h0
    clear h0
    go_enter Try.func12, Try.ntmps12
    go_wp2_with fail
    go_ret
    exact ⟨_, w.heap.size, rfl, Or.inl ⟨rfl, H0.out⟩, Nat.le_refl _, Nat.le_refl _, Below.refl _ _⟩
  · obtain ⟨ii, hii, hz0, hz1, hz2⟩ := info_parts infoU
    have H3 : Hid (∀ j u, (u64s xs)[j]? = some u → (w.alloc (.cells #[] 33)).cell? ((⟨b, off, none⟩ : Addr).add j) = some u) := hide (fun j u hu => by
      rw [addr_add0, World.cell?_of_block (Below.heap_alloc _ _ b h2)]
      exact h3 j u hu)
    have HL : Hid ((u64s xs).length = (u64s xs).length * 1) := hide (by omega)
    have e0 : (u64s xs).length = xs.length := by simp [u64s]
    obtain ⟨n, hnn⟩ : ∃ n, n = (u64s xs).length := ⟨_, rfl⟩
    rw [← hnn] at HL e0 h1 ⊢
    have HN := hide hnn
    have hn' : n ≤ 1048576 := by omega
    clear h3 hnn e0
    go_enter Try.func12, Try.ntmps12
    go_wp2_with (first | (at_builtin; refine wpList_append_own _ rfl (.tmp 5) (.tmp 6) 22 rfl w.heap.size 33 ii (.int .u64 0) 1 8 Try.underlying22 hii hz0 hz1 hz2 rfl (by decide) (.slice (some ⟨w.heap.size, 0, none⟩) 0 0) 0 [] rfl (own_empty w 33 1) ⟨b, off, none⟩ n cap (u64s xs) rfl (HN.out ▸ HL.out) H3.out (u64s_one xs) (by unfold maxLen; omega) (by omega) (by simp) ?_; intro v' w1 hown hgrow hnil))
    go_ret
    have hv : v' ≠ .slice none 0 0 := fun z => by have := (hnil.1 z).1; cases this
    obtain ⟨g, k1, k2, k3⟩ := slB_of_owns hown hv
    exact ⟨v', g, rfl, k1, k2, Nat.le_of_lt k3, ((Below.refl _ _).alloc (Nat.le_refl _) _).grown hgrow (by simp) (own_blk _)⟩
theorem bools_one (l : List Bool) : ∀ u ∈ bools l, u.oneCell' = true := by
  intro u hu
  unfold bools at hu
  obtain ⟨x, _, rfl⟩ := List.mem_map.1 hu
  rfl
set_option maxRecDepth 100000 in
theorem clone_bool (v : Value) (xs : List Bool) (w : World) (hs : Sl w v (bools xs)) (hn : xs.length ≤ 1048576) :
    Calls Try.prog 13 #[v] w fun e w' => ∃ v' g, e = .returned v' ∧ SlB w' v' (bools xs) g ∧ w.heap.size ≤ g ∧ g ≤ w'.heap.size ∧ Below w.heap.size w w' := by
  have hq0 : ∀ w : World, (binOp .eql 23 (.slice none 0 0) (.slice none 0 0)).run Try.prog w = .ok (.bool true) w := fun _ => rfl
  have hq1 : ∀ (ad : Addr) (n c : Nat) (w : World), (binOp .eql 23 (.slice (some ad) n c) (.slice none 0 0)).run Try.prog w = .ok (.bool false) w := fun _ _ _ _ => rfl
  rcases hs with ⟨rfl, h0⟩ | ⟨b, off, cap, rfl, h1, h2, h3⟩
  · have H0 := hide h0
    clear h0
    go_enter Try.func13, Try.ntmps13
    go_wp2_with fail
    go_ret
    exact ⟨_, w.heap.size, rfl, Or.inl ⟨rfl, H0.out⟩, Nat.le_refl _, Nat.le_refl _, Below.refl _ _⟩
  · obtain ⟨ii, hii, hz0, hz1, hz2⟩ := info_parts infoBo
    have H3 : Hid (∀ j u, (bools xs)[j]? = some u → (w.alloc (.cells #[] 4)).cell? ((⟨b, off, none⟩ : Addr).add j) = some u) := hide (fun j u hu => by
      rw [addr_add0, World.cell?_of_block (Below.heap_alloc _ _ b h2)]
      exact h3 j u hu)
    have HL : Hid ((bools xs).length = (bools xs).length * 1) := hide (by omega)
    have e0 : (bools xs).length = xs.length := by simp [bools]
    obtain ⟨n, hnn⟩ : ∃ n, n = (bools xs).length := ⟨_, rfl⟩
    rw [← hnn] at HL e0 h1 ⊢
    have HN := hide hnn
    have hn' : n ≤ 1048576 := by omega
    clear h3 hnn e0
    go_enter Try.func13, Try.ntmps13
    go_wp2_with (first | (at_builtin; refine wpList_append_own _ rfl (.tmp 5) (.tmp 6) 23 rfl w.heap.size 4 ii (.bool false) 1 1 Try.underlying23 hii hz0 hz1 hz2 rfl (by decide) (.slice (some ⟨w.heap.size, 0, none⟩) 0 0) 0 [] rfl (own_empty w 4 1) ⟨b, off, none⟩ n cap (bools xs) rfl (HN.out ▸ HL.out) H3.out (bools_one xs) (by unfold maxLen; omega) (by omega) (by simp) ?_; intro v' w1 hown hgrow hnil))
    go_ret
    have hv : v' ≠ .slice none 0 0 := fun z => by have := (hnil.1 z).1; cases this
    obtain ⟨g, k1, k2, k3⟩ := slB_of_owns hown hv
    exact ⟨v', g, rfl, k1, k2, Nat.le_of_lt k3, ((Below.refl _ _).alloc (Nat.le_refl _) _).grown hgrow (by simp) (own_blk _)⟩
theorem newRows_core (w : World) : Calls Try.prog 14 #[] w fun e w' => ∃ g, e = .returned (.agg #[.slice (some ⟨g, 0, none⟩) 1 1, .int .u64 34359738368, .int .u64 0, .int .u64 0, .int .u64 0]) ∧ HoldsR w' g 1 [(0, 0)] ∧ w.heap.size ≤ g ∧ g < w'.heap.size ∧ Below w.heap.size w w' := by
  go_enter Try.func14, Try.ntmps14
  go_wp2_with fail
  simp [bodyPost, results, Try.results14, go_sem]
  refine ⟨⟨⟨[.int .u64 0, .int .i64 0], ⟨?_, rfl, by decide⟩, rfl⟩, by decide⟩, (((Below.refl _ _).alloc (Nat.le_refl _) _).alloc (by simp) _).alloc (by simp; omega) _⟩
  rw [Below.heap_alloc _ _ (w.heap.size + 1) (by simp)]
  have := heap_alloc_new (w.alloc (.cells #[.slice (some ⟨w.heap.size + 1, 0, none⟩) 1 1, .int .u64 34359738368, .int .u64 0, .int .u64 0, .int .u64 0] 45)) (.cells #[.int .u64 0, .int .i64 0] 70)
  rwa [show (w.alloc (.cells #[.slice (some ⟨w.heap.size + 1, 0, none⟩) 1 1, .int .u64 34359738368, .int .u64 0, .int .u64 0, .int .u64 0] 45)).heap.size = w.heap.size + 1 by simp] at this
theorem newWords_core (w : World) : Calls Try.prog 15 #[] w fun e w' => ∃ bp bf, e = .returned (.agg #[.map (some bp), .map (some bf)]) ∧ MapIs w' ptrElem bp 0 (fun _ => 0) ∧ MapIs w' numElem bf 0 (fun _ => 0) ∧ bp ≠ bf ∧ w.heap.size ≤ bp ∧ w.heap.size ≤ bf ∧ Below w.heap.size w w' := by
  have hmk : ∀ w : World, (Instr.makeMap 47 none).run Try.prog w = .ok (.map (some w.heap.size)) (w.alloc (.map #[] 0)) := fun _ => rfl
  have hmk2 : ∀ w : World, (Instr.makeMap 48 none).run Try.prog w = .ok (.map (some w.heap.size)) (w.alloc (.map #[] 0)) := fun _ => rfl
  go_enter Try.func15, Try.ntmps15
  go_wp2_with fail
  have key : ∀ o : Obj, MapIs (((w.alloc o).alloc (.map #[] 0)).alloc (.map #[] 0)) ptrElem (w.heap.size + 1) 0 (fun _ => 0) ∧ MapIs (((w.alloc o).alloc (.map #[] 0)).alloc (.map #[] 0)) numElem (w.heap.size + 1 + 1) 0 (fun _ => 0) := fun o => by
    have h1 := MapIs.made (w.alloc o) ptrElem
    have h2 := MapIs.made ((w.alloc o).alloc (.map #[] 0)) numElem
    rw [show (w.alloc o).heap.size = w.heap.size + 1 by simp] at h1
    rw [show ((w.alloc o).alloc (.map #[] 0)).heap.size = w.heap.size + 1 + 1 by simp] at h2
    exact ⟨h1.kept (Below.heap_alloc _ _ _ (by simp)), h2⟩
  simp [bodyPost, results, Try.results15, go_sem]
  exact ⟨_, _, ⟨rfl, rfl⟩, (key _).1, (key _).2, by omega, by omega, by omega, (((Below.refl _ _).alloc (Nat.le_refl _) _).alloc (by simp) _).alloc (by simp; omega) _⟩
end Go.Proofs.Ytlfcnaalkjpgnaa

/- New at the face. -/
namespace Go.Proofs.Ytlfcnaalkjpgnaa
open Go.ChangeShapes Go.WideShapes Go.ChangeAt Go.RowKit Go.Proofs.Sp

theorem Sl.below {w w' : World} {v : Value} {xs : List Value} (h : Sl w v xs) (hb : Below w.heap.size w w') : Sl w' v xs := by
  rcases h with h | ⟨b, off, cap, h1, h2, h3, h4⟩
  · exact Or.inl h
  · exact Or.inr ⟨b, off, cap, h1, h2, Nat.lt_of_lt_of_le h3 hb.size, fun j u hu => by rw [hb.cell (p := ⟨b, off + j, none⟩) h3]; exact h4 j u hu⟩
theorem SlB.shape {w : World} {v : Value} {xs : List Value} {g : Nat} (h : SlB w v xs g) : ∃ o m c, v = .slice o m c := by
  rcases h with ⟨h, _⟩ | ⟨off, cap, h, _⟩
  · exact ⟨_, _, _, h⟩
  · exact ⟨_, _, _, h⟩
theorem cell_new (w : World) (c : Array Value) (t : TypeId) (k : Nat) : (w.alloc (.cells c t)).cell? ⟨w.heap.size, k, none⟩ = c[k]? := by
  rw [cell_of_row _ w.heap.size k c t (0, 0) (heap_alloc_new w (.cells c t))]
theorem SlB.below {w w' : World} {v : Value} {xs : List Value} {g : Nat} (h : SlB w v xs g) (hb : Below w.heap.size w w') : SlB w' v xs g := h.kept hb.size (fun hg => hb.block g hg)
theorem new_lies {A1 A2 A3 A4 A5 : World} {x0 x1 x2 : Value} {pl : List Nat} {re : List Bool} {fi : List Nat} {g0 g1 g2 g bp bf : Nat} (B2 : Below A1.heap.size A1 A2) (B3 : Below A2.heap.size A2 A3) (B4 : Below A3.heap.size A3 A4) (B5 : Below A4.heap.size A4 A5)
    (P0 : SlB A1 x0 (u64s pl) g0) (P1 : SlB A2 x1 (bools re) g1) (P2 : SlB A3 x2 (u64s fi) g2) (r0 : g0 ≤ A1.heap.size) (r1 : g1 ≤ A2.heap.size) (r2 : g2 ≤ A3.heap.size) (P3 : HoldsR A4 g 1 [(0, 0)]) (q3 : A3.heap.size ≤ g) (r3 : g < A4.heap.size)
    (P4 : MapIs A5 ptrElem bp 0 (fun _ => 0)) (P5 : MapIs A5 numElem bf 0 (fun _ => 0)) (q4 : bp ≠ bf) (q5 : A4.heap.size ≤ bp) (q6 : A4.heap.size ≤ bf) :
    Lies (A5.alloc (.cells #[x0, x1, x2, .slice (some ⟨g, 0, none⟩) 1 1, .int .u64 34359738368, .int .u64 0, .int .u64 0, .int .u64 0, .map (some bp), .map (some bf)] 53)) A5.heap.size pl re fi (fun _ => 0) g0 g1 g2 g 1 [(0, 0)] bp bf 0 (fun _ => 0) (fun _ => 0) (fun _ _ => 0) := by
  have s2 := B2.size
  have s3 := B3.size
  have s4 := B4.size
  have s5 := B5.size
  have hc := cell_new A5 #[x0, x1, x2, .slice (some ⟨g, 0, none⟩) 1 1, .int .u64 34359738368, .int .u64 0, .int .u64 0, .int .u64 0, .map (some bp), .map (some bf)] 53
  have B6 : Below A5.heap.size A5 (A5.alloc (.cells #[x0, x1, x2, .slice (some ⟨g, 0, none⟩) 1 1, .int .u64 34359738368, .int .u64 0, .int .u64 0, .int .u64 0, .map (some bp), .map (some bf)] 53)) := (Below.refl _ _).alloc (Nat.le_refl _) _
  have fzn : ∀ k, (A5.alloc (.cells #[x0, x1, x2, .slice (some ⟨g, 0, none⟩) 1 1, .int .u64 34359738368, .int .u64 0, .int .u64 0, .int .u64 0, .map (some bp), .map (some bf)] 53)).frozen? ⟨A5.heap.size, k, none⟩ = false := fun k => by simp [go_sem]
  generalize (A5.alloc (.cells #[x0, x1, x2, .slice (some ⟨g, 0, none⟩) 1 1, .int .u64 34359738368, .int .u64 0, .int .u64 0, .int .u64 0, .map (some bp), .map (some bf)] 53)) = W at *
  have C5 : Below A4.heap.size A4 W := B5.trans (B6.mono s5)
  have C4 : Below A3.heap.size A3 W := B4.trans (C5.mono s4)
  have C3 : Below A2.heap.size A2 W := B3.trans (C4.mono s3)
  have C2 : Below A1.heap.size A1 W := B2.trans (C3.mono s2)
  have wf : ∀ x, WFoot bp bf (fun _ => 0) x → x = bp ∨ x = bf := by
    rintro x (h | h | ⟨q, h⟩)
    · exact Or.inl h
    · exact Or.inr h
    · cases h
  have hbp := P4.lt
  have hbf := P5.lt
  have ct : ∀ k, cntI (fun _ => 0) 0 34359738368 k = if 0 = k then 34359738368 else 0 := fun k => cntI_all (fun _ _ _ => rfl)
  refine ⟨⟨x0, hc 0, P0.below C2⟩, ⟨x1, hc 1, P1.below C3⟩, ⟨x2, hc 2, P2.below C4⟩, ⟨hc 3, ?_, fun k hk => ?_, fzn, ?_, ?_, fun _ => Nat.zero_le _, by omega⟩, ⟨hc 8, hc 9, P4.kept (B6.block bp hbp), P5.kept (B6.block bf hbf), fun p h => absurd rfl h, fun p q h => absurd rfl h, fun p h => absurd rfl h, ⟨by omega, by omega, q4⟩⟩,
    by omega, by omega, by omega, fun z => ?_, fun z => ?_, fun z => ?_, fun z => ?_⟩
  · obtain ⟨⟨cur, hr, ht⟩, hl⟩ := P3
    exact ⟨⟨cur, ⟨(C5.block g r3).trans hr.heap, hr.len, hr.cap⟩, ht⟩, hl⟩
  · rw [ct, hc]
    have : k = 0 ∨ k = 1 ∨ k = 2 ∨ k = 3 := by omega
    rcases this with rfl | rfl | rfl | rfl <;> rfl
  · exact ⟨rfl, 34359738368, by decide, fun _ _ _ => rfl, rfl⟩
  · trivial
  · have := P0.lt (u64s_ne.2 z)
    exact ⟨by omega, fun y => by rcases wf _ y with y | y <;> omega⟩
  · have := P1.lt (bools_ne.2 z)
    exact ⟨by omega, fun y => by rcases wf _ y with y | y <;> omega⟩
  · have := P2.lt (u64s_ne.2 z)
    exact ⟨by omega, fun y => by rcases wf _ y with y | y <;> omega⟩
  · rcases wf _ z with y | y <;> omega
theorem new_fits (pl : List Nat) (re : List Bool) (fi : List Nat) (b0 : ∀ x ∈ pl, x < 18446744073709551616) (b2 : ∀ x ∈ fi, x < 18446744073709551616) : Fits (Sp.new pl re fi) 0 [(0, 0)] 0 (fun _ => 0) (fun _ => 0) (fun _ _ => 0) :=
  ⟨WF.new _ _ _, fun _ => Iff.rfl, rfl, fun p j _ h => (by cases h), fun _ _ => ⟨rfl, rfl⟩, b0, b2, by decide, by decide⟩
set_option maxRecDepth 100000 in
set_option maxHeartbeats 2000000 in
theorem vnew (w : World) (v0 v1 v2 : Value) (pl : List Nat) (re : List Bool) (fi : List Nat) (h0 : Sl w v0 (u64s pl)) (h1 : Sl w v1 (bools re)) (h2 : Sl w v2 (u64s fi)) (b0 : ∀ x ∈ pl, x < 18446744073709551616) (b2 : ∀ x ∈ fi, x < 18446744073709551616)
    (l0 : pl.length ≤ 1048576) (l1 : re.length ≤ 1048576) (l2 : fi.length ≤ 1048576) :
    Calls Try.prog vm.new #[.agg #[v0, v1, v2]] w fun e w' => ∃ m F, e = .returned (.pointer (some m)) ∧ VI w' m (Sp.new pl re fi) F 0 ∧ Kept (fun _ => False) w w' ∧ ∀ b, F b → w.heap.size ≤ b := by
  have H0 := hide h0
  have H1 := hide h1
  have H2 := hide h2
  clear h0 h1 h2
  show Calls Try.prog 7 _ w _
  go_enter Try.func7, Try.ntmps7
  go_wp2_with fail
  have BW : Below w.heap.size w (w.alloc (.cells #[v0, v1, v2] 25)) := (Below.refl _ _).alloc (Nat.le_refl _) _
  have hlt : w.heap.size < (w.alloc (.cells #[v0, v1, v2] 25)).heap.size := by simp
  have c0 : (w.alloc (.cells #[v0, v1, v2] 25)).cell? ⟨w.heap.size, 0, none⟩ = some v0 := by simp [go_sem]
  have c1 : (w.alloc (.cells #[v0, v1, v2] 25)).cell? ⟨w.heap.size, 1, none⟩ = some v1 := by simp [go_sem]
  have c2 : (w.alloc (.cells #[v0, v1, v2] 25)).cell? ⟨w.heap.size, 2, none⟩ = some v2 := by simp [go_sem]
  generalize w.alloc (.cells #[v0, v1, v2] 25) = W at *
  have BD : Below w.heap.size w (W.drewN 1) := below_drewN BW 1
  go_region_held3 (fun w' => w'.cell? ⟨w.heap.size, 0, none⟩ = some v0 ∧ w'.cell? ⟨w.heap.size, 1, none⟩ = some v1 ∧ w'.cell? ⟨w.heap.size, 2, none⟩ = some v2) (go_keep) (first
    | (go_at_call_of 12 v0; refine (clone_u64 v0 pl _ (H0.out.below BD) l0).mono ?_; rintro e A1 ⟨x0, g0, rfl, p0, q0, r0, B1⟩; obtain ⟨o0, u0, d0, rfl⟩ := p0.shape; have P0 := hide p0; have E1 : Below w.heap.size w A1 := BD.trans (B1.mono BD.size); have t1 : w.heap.size < A1.heap.size := Nat.lt_of_lt_of_le hlt B1.size; have k0 := ((bcell B1).1 w.heap.size 0 hlt).trans c0; have k1 := ((bcell B1).1 w.heap.size 1 hlt).trans c1; have k2 := ((bcell B1).1 w.heap.size 2 hlt).trans c2; clear p0)
    | (go_at_call_of 13 v1; refine (clone_bool v1 re _ (H1.out.below E1) l1).mono ?_; rintro e A2 ⟨x1, g1, rfl, p1, q1, r1, B2⟩; obtain ⟨o1, u1, d1, rfl⟩ := p1.shape; have P1 := hide p1; have E2 : Below w.heap.size w A2 := E1.trans (B2.mono E1.size); have t2 : w.heap.size < A2.heap.size := Nat.lt_of_lt_of_le t1 B2.size; have m0 := ((bcell B2).1 w.heap.size 0 t1).trans k0; have m1 := ((bcell B2).1 w.heap.size 1 t1).trans k1; have m2 := ((bcell B2).1 w.heap.size 2 t1).trans k2; clear p1)
    | (go_at_call_of 12 v2; refine (clone_u64 v2 fi _ (H2.out.below E2) l2).mono ?_; rintro e A3 ⟨x2, g2, rfl, p2, q2, r2, B3⟩; obtain ⟨o2, u2, d2, rfl⟩ := p2.shape; have P2 := hide p2; have E3 : Below w.heap.size w A3 := E2.trans (B3.mono E2.size); have t3 : w.heap.size < A3.heap.size := Nat.lt_of_lt_of_le t2 B3.size; have n0 := ((bcell B3).1 w.heap.size 0 t2).trans m0; have n1 := ((bcell B3).1 w.heap.size 1 t2).trans m1; have n2 := ((bcell B3).1 w.heap.size 2 t2).trans m2; clear p2)
    | (go_at_call 14; refine (newRows_core _).mono ?_; rintro e A4 ⟨g, rfl, p3, q3, r3, B4⟩; have P3 := hide p3; have E4 : Below w.heap.size w A4 := E3.trans (B4.mono E3.size); have t4 : w.heap.size < A4.heap.size := Nat.lt_of_lt_of_le t3 B4.size; have y0 := ((bcell B4).1 w.heap.size 0 t3).trans n0; have y1 := ((bcell B4).1 w.heap.size 1 t3).trans n1; have y2 := ((bcell B4).1 w.heap.size 2 t3).trans n2; clear p3)
    | (go_at_call 15; refine (newWords_core _).mono ?_; rintro e A5 ⟨bp, bf, rfl, p4, p5, q4, q5, q6, B5⟩; have P4 := hide p4; have P5 := hide p5; have E5 : Below w.heap.size w A5 := E4.trans (B5.mono E4.size); have t5 : w.heap.size < A5.heap.size := Nat.lt_of_lt_of_le t4 B5.size; have z0 := ((bcell B5).1 w.heap.size 0 t4).trans y0; have z1 := ((bcell B5).1 w.heap.size 1 t4).trans y1; have z2 := ((bcell B5).1 w.heap.size 2 t4).trans y2; clear p4 p5))
  have L := hide (new_lies B2 B3 B4 B5 P0.out P1.out P2.out r0 r1 r2 P3.out q3 r3 P4.out P5.out q4 q5 q6)
  have hq : w.heap.size ≤ g0 ∧ w.heap.size ≤ g1 ∧ w.heap.size ≤ g2 ∧ w.heap.size ≤ g ∧ w.heap.size ≤ bp ∧ w.heap.size ≤ bf ∧ w.heap.size ≤ A5.heap.size := ⟨Nat.le_trans (Nat.le_of_lt hlt) q0, Nat.le_trans (Nat.le_of_lt t1) q1, Nat.le_trans (Nat.le_of_lt t2) q2, Nat.le_trans (Nat.le_of_lt t3) q3, Nat.le_trans (Nat.le_of_lt t4) q5, Nat.le_trans (Nat.le_of_lt t4) q6, Nat.le_of_lt t5⟩
  have HQ := hide hq
  clear hq
  go_wp2_with fail
  go_ret
  have hB : Below w.heap.size w (A5.alloc (.cells #[.slice o0 u0 d0, .slice o1 u1 d1, .slice o2 u2 d2, .slice (some ⟨g, 0, none⟩) 1 1, .int .u64 34359738368, .int .u64 0, .int .u64 0, .int .u64 0, .map (some bp), .map (some bf)] 53)) := E5.alloc E5.size _
  refine ⟨⟨A5.heap.size, 0, none⟩, rfl, Foot A5.heap.size g0 g1 g2 g bp bf pl re fi (fun _ => 0), ⟨A5.heap.size, g0, g1, g2, g, 1, [(0, 0)], bp, bf, 0, fun _ => 0, fun _ => 0, fun _ _ => 0, rfl, rfl, L.out, new_fits pl re fi b0 b2⟩, ⟨hB.os, hB.tape, hB.output, hB.size, fun x hx _ => hB.block x hx⟩, ?_⟩
  obtain ⟨a1, a2, a3, a4, a5, a6, a7⟩ := HQ.out
  rintro x (rfl | ⟨_, rfl⟩ | ⟨_, rfl⟩ | ⟨_, rfl⟩ | rfl | (rfl | rfl | ⟨q, hq⟩))
  · exact a7
  · exact a1
  · exact a2
  · exact a3
  · exact a4
  · exact a5
  · exact a6
  · cases hq
end Go.Proofs.Ytlfcnaalkjpgnaa

/- The landed package keeps chapter 3, call by call. -/
namespace Go.Proofs.Ytlfcnaalkjpgnaa
open Go.ChangeShapes Go.WideShapes Go.ChangeAt Go.RowKit Go.Proofs.Sp

theorem vface : Face vm VI where
  wf := VI.wf
  lt := fun h => VI.lt h
  kept := VI.kept
  new := vnew
  reserve := vreserve
  commit := vcommit
  load := vload
  release := vrelease
  count := fun k h1 h2 h _ => vcount k h1 h2 h
  store := vstore
  zero := fun a b hz ha hb h hK => by first | exact vzero a b ha hb h hK | exact absurd rfl hz
  state := vstate
end Go.Proofs.Ytlfcnaalkjpgnaa
