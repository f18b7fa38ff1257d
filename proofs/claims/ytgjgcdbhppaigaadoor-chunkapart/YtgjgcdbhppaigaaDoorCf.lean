/- A chunk of a law's own while the law runs; awake. -/
import Derived.Test.YtgjgcdbhppaigaaDoorCe
namespace Go.Proofs.YtgjgcdbhppaigaaDoor
open Go.ChangeShapes Go.WideShapes Go.ChangeAt Go.RowKit Go.Proofs.Bt Go.Shelf
set_option linter.unusedVariables false
set_option linter.unusedSimpArgs false

theorem FindR.at {w w' : World} {f : Nat → Bool} {n from_ i : Int} {ok : Bool} {e : Ending} (h : FindR w f n from_ e w') (k : FindP f n from_ i ok) : e = .returned (.tuple #[.int .i64 i, .bool ok]) ∧ Below w.heap.size w w' := by
  obtain ⟨j, is, rfl, h1, h2⟩ := h
  obtain ⟨rfl, rfl⟩ := h1.one k
  exact ⟨rfl, h2⟩
theorem SumR.at {w w' : World} {f : Nat → Bool} {s m e : Nat} {r : Ending} (h : SumR w f r w') (k : SumP f s m e) : r = .returned (sumV (s : Nat) (m : Nat) (e : Nat)) ∧ Below w.heap.size w w' := by
  obtain ⟨s', m', e', rfl, h1, h2⟩ := h
  obtain ⟨rfl, rfl, rfl⟩ := h1.one k
  exact ⟨rfl, h2⟩
/-- One chunk that the law has made: all else that was there is as it was. -/
structure S1 (w W : World) (b : Nat) (u g : Nat → Bool) : Prop where
  tab : TabW W
  ch : ChF W b u g
  be : Below w.heap.size w W
  new : w.heap.size ≤ b
  pos : 0 < w.heap.size
theorem S1.next {w W W' : World} {b : Nat} {u g : Nat → Bool} (h : S1 w W b u g) (k : Below W.heap.size W W') : S1 w W' b u g :=
  ⟨h.tab.below k, h.ch.below k, h.be.trans (k.mono h.be.size), h.new, h.pos⟩
theorem S1.put {w W W' : World} {b : Nat} {u g u' g' : Nat → Bool} (h : S1 w W b u g) (k : Kept (fun x => x = b) W W') (c : ChF W' b u' g') : S1 w W' b u' g' :=
  ⟨h.tab.kept k (by have := h.new; have := h.pos; omega), c, below_kept h.be k (fun x hx => by have := h.new; omega) h.be.size, h.new, h.pos⟩
theorem S1.congr {w W : World} {b : Nat} {u g u' g' : Nat → Bool} (h : S1 w W b u g) (e : ∀ k, k < 512 → u k = u' k) (e' : ∀ k, k < 512 → g k = g' k) : S1 w W b u' g' := ⟨h.tab, h.ch.congr e e', h.be, h.new, h.pos⟩
theorem S1.ne {w W : World} {b : Nat} {u g : Nat → Bool} (h : S1 w W b u g) : b ≠ 0 := by have := h.new; have := h.pos; omega
def nil512 (_ : Nat) : Bool := false
def all512 : Nat → Bool := setF nil512 0 512
theorem s1_new (w : World) (ht : TabW w) : Calls Tryd.prog 8 #[] w fun e w' => e = .returned (.pointer (some ⟨w.heap.size, 0, none⟩)) ∧ S1 w w' w.heap.size nil512 all512 :=
  (newC_any w).mono fun e w' ⟨he, hc, hb⟩ => ⟨he, ht.below hb, hc, hb, Nat.le_refl _, ht.lt⟩
theorem s1_take {w W : World} {b : Nat} {u g : Nat → Bool} (h : S1 w W b u g) (i n : Int) (hi : i ≤ 9223372036854775807) :
    Calls Tryd.prog 13 #[.pointer (some ⟨b, 0, none⟩), .int .i64 i, .int .i64 n] W fun e w' => e = .returned (.tuple #[.int .i64 (takeS u g i n).1, .int .i64 (takeS u g i n).2.1]) ∧ S1 w w' b (takeS u g i n).2.2.1 (takeS u g i n).2.2.2 :=
  (take_any b u g W h.ch i n hi).mono fun e w' ⟨he, hc, hk⟩ => ⟨he, h.put hk hc⟩
theorem s1_give {w W : World} {b : Nat} {u g : Nat → Bool} (h : S1 w W b u g) (i n : Int) (hi : i ≤ 9223372036854775807) :
    Calls Tryd.prog 14 #[.pointer (some ⟨b, 0, none⟩), .int .i64 i, .int .i64 n] W fun e w' => e = .returned (.int .i64 (giveS u g i n false).1) ∧ S1 w w' b (giveS u g i n false).2.1 (giveS u g i n false).2.2 :=
  (give_any b u g W h.ch i n hi).mono fun e w' ⟨he, hc, hk⟩ => ⟨he, h.put hk hc⟩
theorem s1_back {w W : World} {b : Nat} {u g : Nat → Bool} (h : S1 w W b u g) (i n : Int) (hi : i ≤ 9223372036854775807) :
    Calls Tryd.prog 15 #[.pointer (some ⟨b, 0, none⟩), .int .i64 i, .int .i64 n] W fun e w' => e = .returned (.int .i64 (giveS u g i n true).1) ∧ S1 w w' b (giveS u g i n true).2.1 (giveS u g i n true).2.2 :=
  (back_any b u g W h.ch i n hi).mono fun e w' ⟨he, hc, hk⟩ => ⟨he, h.put hk hc⟩
theorem s1_find {w W : World} {b : Nat} {u g : Nat → Bool} (h : S1 w W b u g) (n from_ : Int) (hn : n ≤ 9223372036854775807) (hf : from_ ≤ 9223372036854775807) :
    Calls Tryd.prog 23 #[.pointer (some ⟨b, 0, none⟩), .int .i64 n, .int .i64 from_] W fun e w' => ∃ i ok, e = .returned (.tuple #[.int .i64 i, .bool ok]) ∧ FindP u n from_ i ok ∧ S1 w w' b u g :=
  (findC_any b u g W h.ch h.tab n from_ hn hf).mono fun e w' ⟨i, ok, he, hp, hk⟩ => ⟨i, ok, he, hp, h.next hk⟩
theorem s1_scav {w W : World} {b : Nat} {u g : Nat → Bool} (h : S1 w W b u g) (most : Int) (hm : most ≤ 9223372036854775807) :
    Calls Tryd.prog 18 #[.pointer (some ⟨b, 0, none⟩), .int .i64 most] W fun e w' => ∃ i k, e = .returned (.tuple #[.int .i64 i, .int .i64 k]) ∧ LastP (busy u g) most 512 i k ∧ S1 w w' b u (setF g i.toNat k.toNat) :=
  (scav_any b u g W h.ch h.tab h.ne most hm).mono fun e w' ⟨i, k, he, hp, hc, hk⟩ => ⟨i, k, he, hp, h.put hk hc⟩
theorem s1_free {w W : World} {b : Nat} {u g : Nat → Bool} (h : S1 w W b u g) :
    Calls Tryd.prog 20 #[.pointer (some ⟨b, 0, none⟩)] W fun e w' => e = .returned (.int .i64 (512 - (cnt u 0 512 : Nat))) ∧ S1 w w' b u g :=
  (free_any b u g W h.ch).mono fun e w' ⟨he, hk⟩ => ⟨he, h.next hk⟩
theorem s1_released {w W : World} {b : Nat} {u g : Nat → Bool} (h : S1 w W b u g) :
    Calls Tryd.prog 17 #[.pointer (some ⟨b, 0, none⟩)] W fun e w' => e = .returned (.int .i64 (cnt g 0 512 : Nat)) ∧ S1 w w' b u g :=
  (released_any b u g W h.ch).mono fun e w' ⟨he, hk⟩ => ⟨he, h.next hk⟩
theorem s1_sum {w W : World} {b : Nat} {u g : Nat → Bool} (h : S1 w W b u g) :
    Calls Tryd.prog 22 #[.pointer (some ⟨b, 0, none⟩)] W fun e w' => ∃ s m n : Nat, e = .returned (sumV (s : Nat) (m : Nat) (n : Nat)) ∧ SumP u s m n ∧ S1 w w' b u g :=
  (sumC_any b u g W h.ch h.tab).mono fun e w' ⟨s, m, n, he, hp, hk⟩ => ⟨s, m, n, he, hp, h.next hk⟩
theorem s1_rows {w W : World} {b : Nat} {u g : Nat → Bool} (h : S1 w W b u g) :
    Calls Tryd.prog 16 #[.pointer (some ⟨b, 0, none⟩)] W fun e w' => ∃ gu gg : Nat → Nat, e = .returned (.tuple #[words gu, words gg]) ∧ (∀ k, gu k < 18446744073709551616) ∧ (∀ k, gg k < 18446744073709551616) ∧ (∀ i, i < 512 → bitW gu i = u i) ∧ (∀ i, i < 512 → bitW gg i = g i) ∧ S1 w w' b u g :=
  (rows_any b u g W h.ch).mono fun e w' ⟨gu, gg, he, h1, h2, h3, h4, hk⟩ => ⟨gu, gg, he, h1, h2, h3, h4, h.next hk⟩

/-! ### awake -/
def awU : Nat → Bool := clrF (setF nil512 0 4) 1 2
def awG : Nat → Bool := clrF all512 0 4
theorem aw_take : takeS nil512 all512 0 4 = (4, 0, setF nil512 0 4, awG) := by
  unfold takeS
  rw [if_pos (by decide), if_pos (by decide +kernel)]
  congr 1
theorem aw_give : giveS (setF nil512 0 4) awG 1 2 false = (0, awU, awG) := by
  unfold giveS
  rw [if_pos (by decide), if_pos (by decide +kernel)]
  rfl
theorem awU_at (j : Nat) : awU j = decide (j = 0 ∨ j = 3) := by
  unfold awU clrF setF nil512
  rw [Bool.eq_iff_iff]
  simp only [Bool.and_eq_true, Bool.or_eq_true, Bool.not_eq_true', decide_eq_true_eq, decide_eq_false_iff_not]
  simp
  omega
theorem awG_at (j : Nat) : awG j = decide (4 ≤ j ∧ j < 512) := by
  unfold awG all512 clrF setF nil512
  rw [Bool.eq_iff_iff]
  simp only [Bool.and_eq_true, Bool.or_eq_true, Bool.not_eq_true', decide_eq_true_eq, decide_eq_false_iff_not]
  simp
  omega
theorem aw_find : FindP awU 1 0 1 true := by
  refine .inl ⟨rfl, by omega, 1, rfl, by simp, by simp, fun k hk => ?_, fun c _ hc h => ?_⟩
  · rw [awU_at]; simp at hk; simp [hk]
  · have := h 0 (by simp)
    rw [awU_at] at this
    simp at this
    omega
theorem aw_last : LastP (busy awU awG) 512 512 1 2 := by
  refine .inr ⟨by omega, 1, 2, rfl, rfl, by omega, by omega, by simp, fun k hk => ?_, fun c h1 h2 => ?_, .inr (.inr ?_)⟩
  · unfold busy; rw [awU_at, awG_at]; simp; omega
  · unfold busy; rw [awU_at, awG_at]; simp at h2 ⊢; omega
  · unfold busy; rw [awU_at]; rfl
theorem aw_free : cnt awU 0 512 = 2 := by decide +kernel
theorem aw_rel : cnt (setF awG 1 2) 0 512 = 510 := by decide +kernel
set_option maxRecDepth 100000 in
set_option maxHeartbeats 4000000 in
theorem awake_any (w : World) (ht : TabW w) : Calls Tryd.prog 12 #[] w fun e w' => e = .returned (.bool true) ∧ Below w.heap.size w w' := by
  have cN := s1_new w ht
  obtain ⟨N, hN⟩ : ∃ N, w.heap.size = N := ⟨_, rfl⟩
  rw [hN] at cN
  have HN := hide hN
  clear hN ht
  go_enter Tryd.func12, Tryd.ntmps12
  go_wp2_with fail
  go_at_call 8
  refine cN.mono ?_
  rintro e w1 ⟨rfl, h1⟩
  have H1 := hide h1
  clear h1 cN
  go_wp2_with fail
  go_at_call 13
  refine (s1_take H1.out 0 4 (by omega)).mono ?_
  rw [aw_take]
  rintro e w2 ⟨rfl, h2⟩
  have H2 := hide h2
  clear h2
  go_wp2_with fail
  go_at_call 14
  refine (s1_give H2.out 1 2 (by omega)).mono ?_
  rw [aw_give]
  rintro e w3 ⟨rfl, h3⟩
  have H3 := hide h3
  clear h3
  go_wp2_with fail
  go_at_call 23
  refine (s1_find H3.out 1 0 (by omega) (by omega)).mono ?_
  rintro e w4 ⟨i, ok, rfl, p4, h4⟩
  obtain ⟨rfl, rfl⟩ := p4.one aw_find
  have H4 := hide h4
  clear h4 p4
  go_wp2_with fail
  go_at_call 18
  refine (s1_scav H4.out 512 (by omega)).mono ?_
  rintro e w5 ⟨i, k, rfl, p5, h5⟩
  obtain ⟨rfl, rfl⟩ := p5.one aw_last
  have H5 := hide h5
  clear h5 p5
  go_wp2_with fail
  go_at_call 20
  refine (s1_free H5.out).mono ?_
  rw [aw_free]
  rintro e w6 ⟨rfl, h6⟩
  have H6 := hide h6
  clear h6
  go_wp2_with fail
  go_at_call 17
  refine (s1_released H6.out).mono ?_
  rw [show setF awG (Int.toNat 1) (Int.toNat 2) = setF awG 1 2 from rfl, aw_rel]
  rintro e w7 ⟨rfl, h7⟩
  have H7 := hide h7
  clear h7
  go_wp2_with fail
  go_ret
  exact ⟨rfl, H7.out.be⟩
end Go.Proofs.YtgjgcdbhppaigaaDoor
