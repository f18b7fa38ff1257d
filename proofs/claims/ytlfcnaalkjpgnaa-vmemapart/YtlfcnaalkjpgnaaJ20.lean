/- J20 of the proof of both laws: texts RefI, RefJ, RefK, one behind the other. -/
import Derived.Test.YtlfcnaalkjpgnaaJ19
/- The reference of chapter 3: what Release and Load leave, as the face asks it. -/
namespace Go.Proofs.Ytlfcnaalkjpgnaa
open Go.ChangeShapes Go.WideShapes Go.ChangeAt Go.RowKit Go.Proofs.Sp
set_option linter.unusedVariables false
set_option linter.unusedSimpArgs false

theorem wordV_mem {ws : List (Nat × Nat)} (hs : (addrs ws).Pairwise (· < ·)) (fl : Nat → Nat) (a v : Nat) (h : (a, v) ∈ ws) : wordV fl ws a = v := by
  have ha : a ∈ addrs ws := List.mem_map.2 ⟨(a, v), h, rfl⟩
  obtain ⟨hp, e⟩ := wordV_found hs fl a ha
  rw [e]
  obtain ⟨i, hi, hv⟩ := List.getElem_of_mem h
  have hi' : i < (addrs ws).length := by rw [addrs_length]; exact hi
  obtain ⟨hq, hg⟩ := pos_get hs a ha
  have e1 : (addrs ws)[i] = a := by rw [addrs_get ws i hi, hv]
  have : i = pos (addrs ws) a := by
    rcases Nat.lt_trichotomy i (pos (addrs ws) a) with c | c | c
    · have := List.pairwise_iff_getElem.1 hs i _ hi' hq c; omega
    · exact c
    · have := List.pairwise_iff_getElem.1 hs _ i hq hi' c; omega
  simp only [← this, hv]
theorem addrs_mem {ws : List (Nat × Nat)} {a : Nat} (h : a ∈ addrs ws) : ∃ v, (a, v) ∈ ws := by
  obtain ⟨x, hx, rfl⟩ := List.mem_map.1 h
  exact ⟨x.2, hx⟩
/-- What is left where the words of a row of addresses are forgotten. -/
def cutW (ws : List (Nat × Nat)) (A B : Nat) : List (Nat × Nat) := ws.take (pos (addrs ws) A) ++ ws.drop (pos (addrs ws) B)
theorem cutW_mem {ws : List (Nat × Nat)} (hs : (addrs ws).Pairwise (· < ·)) (A B : Nat) (hAB : A ≤ B) (x : Nat × Nat) : x ∈ cutW ws A B ↔ x ∈ ws ∧ (x.1 < A ∨ B ≤ x.1) := by
  unfold cutW
  rw [List.mem_append]
  constructor
  · rintro (h | h)
    · obtain ⟨i, hi, e⟩ := List.getElem_of_mem h
      rw [List.length_take] at hi
      have hi' : i < ws.length := by omega
      rw [List.getElem_take] at e
      refine ⟨by rw [← e]; exact List.getElem_mem hi', Or.inl ?_⟩
      have := (pos_lt hs A i (by rw [addrs_length]; exact hi')).1 (by omega)
      rw [addrs_get ws i hi', e] at this
      exact this
    · obtain ⟨i, hi, e⟩ := List.getElem_of_mem h
      rw [List.length_drop] at hi
      have hi' : pos (addrs ws) B + i < ws.length := by omega
      rw [List.getElem_drop] at e
      refine ⟨by rw [← e]; exact List.getElem_mem hi', Or.inr ?_⟩
      have : ¬ (addrs ws)[pos (addrs ws) B + i]'(by rw [addrs_length]; exact hi') < B := fun hh => by
        have := (pos_lt hs B _ (by rw [addrs_length]; exact hi')).2 hh; omega
      rw [addrs_get ws _ hi', e] at this
      omega
  · rintro ⟨h, h2⟩
    obtain ⟨i, hi, e⟩ := List.getElem_of_mem h
    have hi' : i < (addrs ws).length := by rw [addrs_length]; exact hi
    rcases h2 with h2 | h2
    · left
      have := (pos_lt hs A i hi').2 (by rw [addrs_get ws i hi, e]; exact h2)
      exact List.mem_take_iff_getElem.2 ⟨i, by omega, by exact e⟩
    · right
      have : ¬ i < pos (addrs ws) B := fun hh => by
        have := (pos_lt hs B i hi').1 hh
        rw [addrs_get ws i hi, e] at this
        omega
      exact List.mem_drop_iff_getElem.2 ⟨i - pos (addrs ws) B, by omega, by simp only [show pos (addrs ws) B + (i - pos (addrs ws) B) = i by omega]; exact e⟩
theorem cutW_rising {ws : List (Nat × Nat)} (hs : (addrs ws).Pairwise (· < ·)) (A B : Nat) (hAB : A ≤ B) : (addrs (cutW ws A B)).Pairwise (· < ·) := by
  have mono : pos (addrs ws) A ≤ pos (addrs ws) B := by
    unfold pos
    refine List.countP_mono_left fun z _ hz => ?_
    simp only [decide_eq_true_eq] at *
    omega
  have sub : (cutW ws A B).Sublist ws := by
    unfold cutW
    have e : ws = ws.take (pos (addrs ws) A) ++ ws.drop (pos (addrs ws) A) := (List.take_append_drop _ _).symm
    have s2 : (ws.drop (pos (addrs ws) B)).Sublist (ws.drop (pos (addrs ws) A)) := by
      rw [show pos (addrs ws) B = pos (addrs ws) A + (pos (addrs ws) B - pos (addrs ws) A) by omega, ← List.drop_drop]
      exact List.drop_sublist _ _
    have := List.Sublist.append (List.Sublist.refl (ws.take (pos (addrs ws) A))) s2
    rw [← e] at this
    exact this
  unfold addrs
  exact hs.sublist (sub.map Prod.fst)
theorem cutW_length (ws : List (Nat × Nat)) (A B : Nat) (hAB : pos (addrs ws) A ≤ pos (addrs ws) B) : (cutW ws A B).length ≤ ws.length := by
  unfold cutW
  rw [List.length_append, List.length_take, List.length_drop]
  have := pos_le (addrs ws) B
  rw [addrs_length] at this
  omega
theorem cutW_word {ws : List (Nat × Nat)} (hs : (addrs ws).Pairwise (· < ·)) (A B : Nat) (hAB : A ≤ B) (fl fl' : Nat → Nat) (a : Nat) (ha : a < A ∨ B ≤ a) (hf : fl' (a / 8192) = fl (a / 8192)) : wordV fl' (cutW ws A B) a = wordV fl ws a := by
  by_cases h : a ∈ addrs ws
  · obtain ⟨v, hv⟩ := addrs_mem h
    rw [wordV_mem hs fl a v hv, wordV_mem (cutW_rising hs A B hAB) fl' a v ((cutW_mem hs A B hAB _).2 ⟨hv, ha⟩)]
  · rw [wordV_none fl a h, wordV_none fl' a, hf]
    intro h'
    obtain ⟨v, hv⟩ := addrs_mem h'
    exact h (List.mem_map.2 ⟨(a, v), ((cutW_mem hs A B hAB _).1 hv).1, rfl⟩)
/-- The pages behind a release. -/
theorem release_pages {S : Sp} (hs : S.pgs.Pairwise (· < ·)) (fl : Nat → Nat) (a n : Nat) (hm : ∀ i, i < n → a + i ∈ S.pgs) :
    upd (pageL S fl) (pos S.pgs a) (fun j => (a + j, 3, 0)) n = pageL (relS S a n) (fun p => if a ≤ p ∧ p < a + n then 0 else fl p) := by
  have hl := row_len hs a n hm
  apply List.ext_getElem?
  intro k
  have e1 : (pageL S fl).length = S.pgs.length := by simp [pageL]
  by_cases hk : k < S.pgs.length
  · rw [upd_get _ _ _ _ _ (by rw [e1]; exact hk)]
    have e2 : (pageL (relS S a n) (fun p => if a ≤ p ∧ p < a + n then 0 else fl p))[k]? = some (S.pgs[k], (if a ≤ S.pgs[k] ∧ S.pgs[k] < a + n then 3 else S.st S.pgs[k]), (if a ≤ S.pgs[k] ∧ S.pgs[k] < a + n then 0 else fl S.pgs[k])) := by
      unfold pageL
      rw [List.getElem?_map]
      show Option.map _ S.pgs[k]? = _
      rw [List.getElem?_eq_getElem hk]
      rfl
    have e3 : (pageL S fl)[k]'(by rw [e1]; exact hk) = (S.pgs[k], S.st S.pgs[k], fl S.pgs[k]) := by simp [pageL]
    rw [e2, e3]
    by_cases c : pos S.pgs a ≤ k ∧ k < pos S.pgs a + n
    · have hg := (row_get hs a (k - pos S.pgs a) (fun j hj => hm j (by omega)) (by omega)).2 (hm _ (by omega))
      simp only [show pos S.pgs a + (k - pos S.pgs a) = k by omega] at hg
      rw [if_pos c, if_pos (by omega), if_pos (by omega), hg]
    · have : ¬ (a ≤ S.pgs[k] ∧ S.pgs[k] < a + n) := by
        intro hh
        have hmm := hm (S.pgs[k] - a) (by omega)
        have hg := row_get hs a (S.pgs[k] - a) (fun j hj => hm j (by omega)) (by omega)
        have := hg.2 hmm
        have idx : pos S.pgs a + (S.pgs[k] - a) = k := by
          rcases Nat.lt_trichotomy (pos S.pgs a + (S.pgs[k] - a)) k with d | d | d
          · have := List.pairwise_iff_getElem.1 hs _ k (by omega) hk d; omega
          · exact d
          · have := List.pairwise_iff_getElem.1 hs k _ hk (by omega) d; omega
        omega
      rw [if_neg c, if_neg this, if_neg this]
  · rw [List.getElem?_eq_none (by rw [upd_length, e1]; omega), List.getElem?_eq_none (by simp [pageL, relS]; omega)]
theorem release_logic {S : Sp} {fl : Nat → Nat} {ws : List (Nat × Nat)} (h : Logic S fl ws) (a n : Nat) (hr : Sp.right a n) (hall : ∀ i, i < n → S.st (a + i) = 2) : Logic (relS S a n) (fun p => if a ≤ p ∧ p < a + n then 0 else fl p) (cutW ws (a * 8192) (a * 8192 + n * 8192)) := by
  have wf := h.wf.release a n
  rw [release_ok hr hall] at wf
  refine ⟨wf, cutW_rising h.rising _ _ (by omega), fun x hx => ?_, fun p => ?_, fun b hb hst => ?_⟩
  · obtain ⟨h1, h2⟩ := (cutW_mem h.rising _ _ (by omega) x).1 hx
    obtain ⟨r1, r2, r3⟩ := h.ready x h1
    refine ⟨?_, r2, r3⟩
    show (if a ≤ x.1 / 8192 ∧ x.1 / 8192 < a + n then 3 else S.st (x.1 / 8192)) = 2
    rw [if_neg (by omega)]; exact r1
  · show (if a ≤ p ∧ p < a + n then 0 else fl p) < _
    split
    · decide
    · exact h.fill p
  · have hout : ¬ (a ≤ b / 8192 ∧ b / 8192 < a + n) := by
      intro hh
      have : (if a ≤ b / 8192 ∧ b / 8192 < a + n then 3 else S.st (b / 8192)) = 2 := hst
      rw [if_pos hh] at this; cases this
    have hst' : S.st (b / 8192) = 2 := by
      have : (if a ≤ b / 8192 ∧ b / 8192 < a + n then 3 else S.st (b / 8192)) = 2 := hst
      rw [if_neg hout] at this; exact this
    show S.wd b = _
    rw [h.word b hb hst']
    exact (cutW_word h.rising _ _ (by omega) fl _ b (by omega) (if_neg hout)).symm
end Go.Proofs.Ytlfcnaalkjpgnaa

/- The reference of chapter 3, as a face: State, Count, Load, Release. -/
namespace Go.Proofs.Ytlfcnaalkjpgnaa
open Go.ChangeShapes Go.WideShapes Go.ChangeAt Go.RowKit Go.Proofs.Sp
set_option linter.unusedVariables false
set_option linter.unusedSimpArgs false

theorem pos_mono (l : List Nat) {A B : Nat} (h : A ≤ B) : pos l A ≤ pos l B := by
  unfold pos
  refine List.countP_mono_left fun z _ hz => ?_
  simp only [decide_eq_true_eq] at *
  omega
/-- The reference's space at an address. -/
def RI : Inv := fun w a S F K => ∃ m fl ws v0 v1 v2 o3 c3 o4 c4, a = ⟨m, 0, none⟩ ∧ RefC w m S fl ws v0 v1 v2 o3 c3 o4 c4 ∧ Apart m v0 v1 v2 o3 o4 ∧ (∀ b, F b ↔ inRef m v0 v1 v2 o3 o4 b) ∧ (∀ b, F b → b < w.heap.size) ∧
  S.pgs.length ≤ K ∧ ws.length ≤ K ∧ (∀ x ∈ S.places, x < 18446744073709551616) ∧ (∀ x ∈ S.fills, x < 18446744073709551616)
theorem RI.wf {w : World} {a : Addr} {S : Sp} {F : Nat → Prop} {K : Nat} (h : RI w a S F K) : WF S := by
  obtain ⟨m, fl, ws, v0, v1, v2, o3, c3, o4, c4, _, h, _⟩ := h
  exact h.wf
theorem RI.lt {w : World} {a : Addr} {S : Sp} {F : Nat → Prop} {K : Nat} (h : RI w a S F K) : ∀ b, F b → b < w.heap.size := by
  obtain ⟨m, fl, ws, v0, v1, v2, o3, c3, o4, c4, _, _, _, _, h, _⟩ := h
  exact h
theorem RI.kept {w w' : World} {a : Addr} {S : Sp} {F : Nat → Prop} {K : Nat} (h : RI w a S F K) (hs : w.heap.size ≤ w'.heap.size) (hb : ∀ b, F b → w'.heap[b]? = w.heap[b]?) : RI w' a S F K := by
  obtain ⟨m, fl, ws, v0, v1, v2, o3, c3, o4, c4, e, h, ap, hF, hl, k1, k2, p1, p2⟩ := h
  exact ⟨m, fl, ws, v0, v1, v2, o3, c3, o4, c4, e, h.kept hs fun b hh => hb b ((hF b).2 hh), ap, hF, fun b hh => Nat.lt_of_lt_of_le (hl b hh) hs, k1, k2, p1, p2⟩
/-- Nothing but draws. -/
theorem RI.drew {w : World} {a : Addr} {S : Sp} {F : Nat → Prop} {K : Nat} (h : RI w a S F K) (k : Nat) : Step RI F w (w.drewN k) a S K :=
  ⟨F, h.kept (Nat.le_refl _) fun _ _ => rfl, ⟨rfl, rfl, rfl, Nat.le_refl _, fun _ _ _ => rfl⟩, fun b hb => Or.inl hb⟩
theorem RI.state {w : World} {m : Addr} {S : Sp} {F : Nat → Prop} {K : Nat} (a : Int) (ha : two64 a) (h : RI w m S F K) (hK : K ≤ lim) :
    Calls Try.prog rf.state #[.pointer (some m), .int .u64 a] w fun e w' => e = .returned (.int .i64 (S.st a.toNat : Nat)) ∧ Step RI F w w' m S K := by
  have h' := h
  obtain ⟨m, fl, ws, v0, v1, v2, o3, c3, o4, c4, rfl, h, ap, hF, hl, k1, k2, p1, p2⟩ := h
  unfold two64 at ha
  unfold lim at hK
  exact (h.state a ha.1 (by omega)).mono fun e w' ⟨he, k, hw⟩ => ⟨he, by rw [hw]; exact h'.drew k⟩
theorem RI.count {w : World} {m : Addr} {S : Sp} {F : Nat → Prop} {K : Nat} (k : Int) (h1 : -9223372036854775808 ≤ k) (h2 : k ≤ 9223372036854775807) (h : RI w m S F K) (hK : K ≤ lim) :
    Calls Try.prog rf.count #[.pointer (some m), .int .i64 k] w fun e w' => e = .returned (.int .u64 (countS S k : Nat)) ∧ Step RI F w w' m S K := by
  have h' := h
  obtain ⟨m, fl, ws, v0, v1, v2, o3, c3, o4, c4, rfl, h, ap, hF, hl, k1, k2, p1, p2⟩ := h
  unfold lim at hK
  exact (h.count k ⟨h1, h2⟩ (by omega)).mono fun e w' ⟨he, k, hw⟩ => ⟨he, by rw [hw]; exact h'.drew k⟩
theorem RI.load {w : World} {m : Addr} {S : Sp} {F : Nat → Prop} {K : Nat} (a : Int) (ha : two64 a) (h : RI w m S F K) (hK : K ≤ lim) :
    Calls Try.prog rf.load #[.pointer (some m), .int .u64 a] w fun e w' => e = .returned (.tuple #[.int .u64 ((loadS S a.toNat).1 : Nat), .int .i64 ((loadS S a.toNat).2 : Nat)]) ∧ Step RI F w w' m S K := by
  have h' := h
  obtain ⟨m, fl, ws, v0, v1, v2, o3, c3, o4, c4, rfl, h, ap, hF, hl, k1, k2, p1, p2⟩ := h
  unfold two64 at ha
  unfold lim at hK
  exact (h.load a (by omega) (by omega) (by omega)).mono fun e w' ⟨he, k, hw⟩ => ⟨he, by rw [hw]; exact h'.drew k⟩
theorem RI.below {w w' : World} {a : Addr} {S : Sp} {F : Nat → Prop} {K : Nat} (h : RI w a S F K) (hb : Below w.heap.size w w') : Step RI F w w' a S K :=
  ⟨F, h.kept hb.size fun b hb' => hb.block b (h.lt b hb'), Kept.of_below hb, fun b hb => Or.inl hb⟩
theorem RI.more {w : World} {a : Addr} {S : Sp} {F : Nat → Prop} {K K' : Nat} (h : RI w a S F K) (hK : K ≤ K') : RI w a S F K' := by
  obtain ⟨m, fl, ws, v0, v1, v2, o3, c3, o4, c4, e, h, ap, hF, hl, k1, k2, p1, p2⟩ := h
  exact ⟨m, fl, ws, v0, v1, v2, o3, c3, o4, c4, e, h, ap, hF, hl, by omega, by omega, p1, p2⟩
theorem step_more {F : Nat → Prop} {w w' : World} {a : Addr} {S : Sp} {K K' : Nat} (h : Step RI F w w' a S K) (hK : K ≤ K') : Step RI F w w' a S K' := by
  obtain ⟨F', x, y, z⟩ := h
  exact ⟨F', x.more hK, y, z⟩
theorem RI.release {w : World} {m : Addr} {S : Sp} {F : Nat → Prop} {K : Nat} (a b : Int) (ha : two64 a) (hb : two64 b) (h : RI w m S F K) (hK : K ≤ lim) :
    Calls Try.prog rf.release #[.pointer (some m), .int .u64 a, .int .u64 b] w fun e w' => e = .returned (.int .i64 ((releaseS S a.toNat b.toNat).1 : Nat)) ∧
      Step RI F w w' m (releaseS S a.toNat b.toNat).2 (K + cost (releaseS S a.toNat b.toNat).1 b.toNat) := by
  have h' := h
  obtain ⟨m, fl, ws, v0, v1, v2, o3, c3, o4, c4, rfl, h, ap, hF, hl, k1, k2, p1, p2⟩ := h
  unfold two64 at ha hb
  unfold lim at hK
  have hblk : ∀ x, inRef m v0 v1 v2 o3 o4 x → x < w.heap.size := fun x hx => hl x ((hF x).2 hx)
  by_cases hz : (releaseS S a.toNat b.toNat).1 = 0
  · have hr : Sp.right a.toNat b.toNat := by
      by_cases c : Sp.right a.toNat b.toNat
      · exact c
      · unfold releaseS at hz; rw [if_pos c] at hz; cases hz
    have hall : ∀ i, i < b.toNat → S.st (a.toNat + i) = 2 := by
      by_cases c : ∀ i, i < b.toNat → S.st (a.toNat + i) = 2
      · exact c
      · unfold releaseS at hz; rw [if_neg (Classical.not_not.2 hr), if_pos c] at hz; cases hz
    rw [release_ok hr hall]
    have hmem : ∀ i, i < b.toNat → a.toNat + i ∈ S.pgs := fun i hi => (h.wf.mem _).1 (by rw [hall i hi]; decide)
    have hlen := row_len h.wf.rising a.toNat b.toNat hmem
    have hr2 := hr
    unfold Sp.right at hr2
    obtain ⟨g, rfl⟩ : ∃ g, o3 = some ⟨g, 0, none⟩ := by
      obtain ⟨_, hh | ⟨g, cap, cur, hv, _⟩⟩ := h.own3
      · omega
      · exact ⟨g, by injection hv⟩
    refine (release_good g h ap hblk a b (by omega) (by omega) (by omega) (by omega) hr hall).mono fun e w' ⟨he, g4, cp, hM, hA, hg4, hk⟩ => ⟨he, ?_⟩
    rw [release_pages h.wf.rising fl a.toNat b.toNat hmem] at hM
    have hC : RefC w' m (relS S a.toNat b.toNat) _ (cutW ws (a.toNat * 8192) (a.toNat * 8192 + b.toNat * 8192)) v0 v1 v2 (some ⟨g, 0, none⟩) c3 (some ⟨g4, 0, none⟩) cp := RefM.ref (S := relS S a.toNat b.toNat) hM (release_logic h.logic a.toNat b.toNat hr hall)
    have hwl : (cutW ws (a.toNat * 8192) (a.toNat * 8192 + b.toNat * 8192)).length ≤ ws.length := cutW_length _ _ _ (pos_mono _ (Nat.le_add_right _ _))
    have hg4' : g4 < w'.heap.size := (hM.own4.lt g4 rfl).2
    refine ⟨inRef m v0 v1 v2 (some ⟨g, 0, none⟩) (some ⟨g4, 0, none⟩), ⟨m, _, _, v0, v1, v2, _, c3, _, cp, rfl, hC, hA, fun _ => Iff.rfl, ?_, Nat.le_trans k1 (Nat.le_add_right _ _), Nat.le_trans hwl (Nat.le_trans k2 (Nat.le_add_right _ _)), p1, p2⟩, hk.mono fun x hx => (hF x).2 ?_, ?_⟩
    · have hs := hk.size
      rintro x (h | h | h | h | h | h)
      · have := hblk x (Or.inl h); omega
      · have := hblk x (Or.inr (Or.inl h)); omega
      · have := hblk x (Or.inr (Or.inr (Or.inl h))); omega
      · have := hblk x (Or.inr (Or.inr (Or.inr (Or.inl h)))); omega
      · have := hblk x (Or.inr (Or.inr (Or.inr (Or.inr (Or.inl h))))); omega
      · have : g4 = x := by simpa using h
        omega
    · rcases hx with hx | hx
      · exact Or.inl hx
      · exact Or.inr (Or.inr (Or.inr (Or.inr (Or.inl (by rw [hx]; rfl)))))
    · rintro x (h | h | h | h | h | h)
      · exact Or.inl ((hF x).2 (Or.inl h))
      · exact Or.inl ((hF x).2 (Or.inr (Or.inl h)))
      · exact Or.inl ((hF x).2 (Or.inr (Or.inr (Or.inl h))))
      · exact Or.inl ((hF x).2 (Or.inr (Or.inr (Or.inr (Or.inl h)))))
      · exact Or.inl ((hF x).2 (Or.inr (Or.inr (Or.inr (Or.inr (Or.inl h))))))
      · have : g4 = x := by simpa using h
        exact Or.inr (by omega)
  · have hS : (releaseS S a.toNat b.toNat).2 = S := by
      by_cases c1 : Sp.right a.toNat b.toNat
      · by_cases c2 : ∀ i, i < b.toNat → S.st (a.toNat + i) = 2
        · exact absurd (by rw [release_ok c1 c2]) hz
        · unfold releaseS; rw [if_neg (Classical.not_not.2 c1), if_pos c2]
      · unfold releaseS; rw [if_pos c1]
    refine (release_fails h (hblk m (Or.inl rfl)) (fun x hx => hblk x (Or.inr (Or.inr (Or.inr (Or.inr (Or.inl hx)))))) a b (by omega) (by omega) (by omega) hz).mono fun e w' ⟨he, hbel⟩ => ⟨he, ?_⟩
    rw [hS]
    exact step_more (h'.below hbel) (Nat.le_add_right _ _)
end Go.Proofs.Ytlfcnaalkjpgnaa

/- The reference of chapter 3: Store. -/
namespace Go.Proofs.Ytlfcnaalkjpgnaa
open Go.ChangeShapes Go.WideShapes Go.ChangeAt Go.RowKit Go.Proofs.Sp

theorem hidR {p : Prop} (h : p) : Hid p := h
theorem two_at (w : World) (x y : Value) (e : TypeId) : ∀ j u, [x, y][j]? = some u → (w.alloc (.cells #[x, y] e)).cell? ((⟨w.heap.size, 0, none⟩ : Addr).add j) = some u := by
  intro j u hu
  rw [addr_add, Nat.zero_add, World.cell?_alloc_new]
  simpa using hu
theorem two_at' (w : World) (x y : Value) (e : TypeId) (n : Nat) (hn : n = w.heap.size) : ∀ j u, [x, y][j]? = some u → (w.alloc (.cells #[x, y] e)).cell? ((⟨n, 0, none⟩ : Addr).add j) = some u := by
  subst hn; exact two_at w x y e
theorem below_mid {W w1 w2 : World} {o : Obj} {e : TypeId} {size : Nat} {v : Value} {n : Nat} {xs : List Value} (h : Below W.heap.size W w1) (own : w1.ownsRow W.heap.size e size v n xs) (hg : (w1.alloc o).grownBy w2 v.ownBlock) : Below W.heap.size W w2 :=
  (h.alloc h.size o).grown hg (Nat.le_trans h.size (by simp)) fun j hj => (own.lt j hj).1
set_option maxRecDepth 100000 in
theorem store_walk {w : World} {m : Nat} (b n cap q : Nat) (xs : List (Nat × Nat)) (x y : Int) (hl : xs.length = n) (hqn : q ≤ n) (hn : n ≤ 1099511627776) (hcap : n ≤ cap) (V : Int)
    (c1 : Calls Try.prog 23 #[.pointer (some ⟨m, 0, none⟩), .int .u64 x] w fun e w' => e = .returned (.tuple #[.int .u64 V, .int .i64 0]) ∧ ∃ k', w' = w.drewN k')
    (c2 : ∀ k, Calls Try.prog 51 #[.pointer (some ⟨m, 0, none⟩), .int .u64 x] (w.drewN k) fun e w' => e = .returned (.tuple #[.int .i64 (q : Int), .bool false]) ∧ ∃ k', w' = (w.drewN k).drewN k')
    (h4 : w.cell? ⟨m, 4, none⟩ = some (.slice (some ⟨b, 0, none⟩) n cap)) (hf : w.frozen? ⟨m, 4, none⟩ = false) (hms : m < w.heap.size)
    (own : w.ownsRow 0 68 2 (.slice (some ⟨b, 0, none⟩) n cap) n (wcells xs)) :
    Calls Try.prog 25 #[.pointer (some ⟨m, 0, none⟩), .int .u64 x, .int .u64 y] w fun e w' => ∃ (g cp : Nat) (w1 : World), e = .returned (.int .i64 0) ∧ w' = w1.setCell ⟨m, 4, none⟩ (.slice (some ⟨g, 0, none⟩) (q + 1 + (n - q)) cp) ∧
      w1.ownsRow w.heap.size 68 2 (.slice (some ⟨g, 0, none⟩) (q + 1 + (n - q)) cp) (q + 1 + (n - q)) (wcells (xs.take q) ++ [.int .u64 x, .int .u64 y] ++ wcells (xs.drop q)) ∧ Below w.heap.size w w1 := by
  obtain ⟨i0, hi, hz0, hz1, hz2⟩ := info_parts infoW
  have C2 := hidR (c2)
  clear c2
  go_enter Try.func25, Try.ntmps25
  go_wp2_with fail
  go_at_call 23
  refine c1.mono ?_
  rintro e w' ⟨rfl, k, rfl⟩
  clear c1
  go_wp2_with fail
  go_at_call 51
  refine (C2.out _).mono ?_
  rintro e W ⟨rfl, k', hW⟩
  rw [drewN2] at hW
  clear C2
  have hc0 : (W.alloc (.cells #[] 68)).cell? ⟨m, 4, none⟩ = some (.slice (some ⟨b, 0, none⟩) n cap) := by rw [World.cell?_alloc_lt _ _ _ (by rw [hW]; exact hms), hW]; exact h4
  have ownW : W.ownsRow 0 68 2 (.slice (some ⟨b, 0, none⟩) n cap) n (wcells xs) := by rw [hW]; exact own
  have hb : b < W.heap.size := (ownW.lt b rfl).2
  have hWs : W.heap.size = w.heap.size := by rw [hW]; rfl
  have bW : Below w.heap.size w W := by rw [hW]; exact ⟨rfl, rfl, rfl, Nat.le_refl _, fun _ _ => rfl⟩
  have hf0 : W.frozen? ⟨m, 4, none⟩ = false := by rw [hW]; exact hf
  have n1 : ∀ j u, (wcells (xs.take q))[j]? = some u → (W.alloc (.cells #[] 68)).cell? ((⟨b, 0, none⟩ : Addr).add j) = some u := by
    intro j u hu
    have := wcells_part xs 0 q (by omega) j u (by rw [List.drop_zero]; exact hu)
    rw [addr_add, Nat.zero_add, World.cell?_alloc_lt _ _ _ (by exact hb), ownW.cellAt j (by rw [← ownW.1]; exact (List.getElem?_eq_some_iff.1 (by simpa using this)).1)]
    simpa using this
  have l1 : (wcells (xs.take q)).length = q * 2 := by rw [wcells_length, List.length_take, Nat.min_eq_left (by omega)]
  have N1 := hidR (n1)
  have L1 := hidR (l1)
  have O1 := hidR (wcells_one (xs.take q))
  have e0 := own_empty W 68 2
  have hms1 : m < W.heap.size := by rw [hWs]; exact hms
  have hcW : W.cell? ⟨m, 4, none⟩ = some (.slice (some ⟨b, 0, none⟩) n cap) := by rw [hW]; exact h4
  have l2 : (wcells (xs.drop q)).length = (n - q) * 2 := by rw [wcells_length, List.length_drop, hl]
  have L2 := hidR (l2)
  have O2 := hidR (wcells_one (xs.drop q))
  have n2 : ∀ w1, Below W.heap.size W w1 → ∀ j u, (wcells (xs.drop q))[j]? = some u → w1.cell? ((⟨b, if cap = q then 0 else q * 2, none⟩ : Addr).add j) = some u := by
    intro w1 b1 j u hu
    by_cases cq : cap = q
    · rw [show xs.drop q = [] from List.eq_nil_of_length_eq_zero (by rw [List.length_drop]; omega)] at hu
      cases hu
    · have := wcells_part xs q (n - q) (by omega) j u (by rw [List.take_of_length_le (by rw [List.length_drop]; omega)]; exact hu)
      rw [if_neg cq, addr_add, b1.cell (by exact hb), ownW.cellAt (q * 2 + j) (by rw [← ownW.1]; exact (List.getElem?_eq_some_iff.1 this).1)]
      exact this
  have N2 := hidR (n2)
  have HWS := hidR (hWs)
  have BW := hidR (bW)
  clear n1 l1 hW hWs n2 l2 ownW bW own h4 hf
  by_cases c : cap = q
  · obtain rfl : n = cap := by omega
    subst c
    go_wp2_with (first | (at_builtin; refine wpList_append_own _ rfl (.tmp 36) (.tmp 42) 55 rfl W.heap.size 68 i0 (.agg #[.int .u64 0, .int .u64 0]) 2 16 Try.underlying55 hi hz0 hz1 hz2 rfl (by decide) (.slice (some ⟨W.heap.size, 0, none⟩) 0 0) 0 [] rfl e0 ⟨b, 0, none⟩ n n (wcells (xs.take n)) rfl L1.out N1.out O1.out (by unfold maxLen; omega) (by omega) (by simp) ?_; intro v' w1 hown hgrow hnil; obtain ⟨g, cp, rfl⟩ := own_shape hown (fun h => by have := (hnil.1 h).1; cases this); have b1 := copy_below hgrow; have B1 := hidR (b1); rw [Nat.zero_add, List.nil_append] at hown; have HO := hidR (hown); clear hgrow hnil b1 hown) | (at_builtin; refine wpList_append_own _ rfl (.tmp 44) (.tmp 48) 55 rfl W.heap.size 68 i0 (.agg #[.int .u64 0, .int .u64 0]) 2 16 Try.underlying55 hi hz0 hz1 hz2 rfl (by decide) (.slice (some ⟨g, 0, none⟩) n cp) n (wcells (xs.take n)) rfl (World.ownsRow.alloc HO.out _) ⟨w1.heap.size, 0, none⟩ 1 1 [.int .u64 x, .int .u64 y] rfl rfl (two_at w1 _ _ _) (by simp [Value.oneCell']) (by unfold maxLen; omega) (by omega) (Nat.le_trans B1.out.size (by simp)) ?_; intro v' w2 hown hgrow hnil; obtain ⟨g2, cp2, rfl⟩ := own_shape hown (fun h => by have := (hnil.1 h).1; cases this); have HO2 := hidR (hown); have b2 := below_mid B1.out HO.out hgrow; have B2 := hidR (b2); have hc2 := (b2.cell (p := ⟨m, 4, none⟩) hms1).trans hcW; have hf2 := (b2.frozen (p := ⟨m, 4, none⟩) hms1).trans hf0; clear hgrow hnil b2 hown) | (at_builtin; refine wpList_append_own _ rfl (.tmp 51) (.tmp 57) 55 rfl W.heap.size 68 i0 (.agg #[.int .u64 0, .int .u64 0]) 2 16 Try.underlying55 hi hz0 hz1 hz2 rfl (by decide) (.slice (some ⟨g2, 0, none⟩) (n + 1) cp2) (n + 1) (wcells (xs.take n) ++ [.int .u64 x, .int .u64 y]) rfl HO2.out ⟨b, 0, none⟩ 0 0 (wcells (xs.drop n)) rfl (by have := L2.out; rw [Nat.sub_self] at this; exact this) (by have := N2.out w2 B2.out; simp only [if_true] at this; exact this) O2.out (by unfold maxLen; omega) (by omega) B2.out.size ?_; intro v' w3 hown hgrow hnil; obtain ⟨g3, cp3, rfl⟩ := own_shape hown (fun h => by have := (hnil.1 h).1; cases this); have HO3 := hidR (hown); have b3 := below_again B2.out HO2.out hgrow; have hc3 := (b3.cell (p := ⟨m, 4, none⟩) hms1).trans hcW; have hf3 := (b3.frozen (p := ⟨m, 4, none⟩) hms1).trans hf0; have B3 := hidR (b3); clear hown hgrow hnil b3))
    go_ret
    refine ⟨g3, cp3, w3, rfl, by rw [Nat.sub_self, Nat.add_zero], ?_, below_both HWS.out BW.out B3.out⟩
    have h := HO3.out
    rw [HWS.out] at h
    rw [Nat.sub_self]
    exact h
  · go_wp2_with (first | (at_builtin; refine wpList_append_own _ rfl (.tmp 36) (.tmp 42) 55 rfl W.heap.size 68 i0 (.agg #[.int .u64 0, .int .u64 0]) 2 16 Try.underlying55 hi hz0 hz1 hz2 rfl (by decide) (.slice (some ⟨W.heap.size, 0, none⟩) 0 0) 0 [] rfl e0 ⟨b, 0, none⟩ q cap (wcells (xs.take q)) rfl L1.out N1.out O1.out (by unfold maxLen; omega) (by omega) (by simp) ?_; intro v' w1 hown hgrow hnil; obtain ⟨g, cp, rfl⟩ := own_shape hown (fun h => by have := (hnil.1 h).1; cases this); have b1 := copy_below hgrow; have B1 := hidR (b1); rw [Nat.zero_add, List.nil_append] at hown; have HO := hidR (hown); clear hgrow hnil b1 hown) | (at_builtin; refine wpList_append_own _ rfl (.tmp 44) (.tmp 48) 55 rfl W.heap.size 68 i0 (.agg #[.int .u64 0, .int .u64 0]) 2 16 Try.underlying55 hi hz0 hz1 hz2 rfl (by decide) (.slice (some ⟨g, 0, none⟩) q cp) q (wcells (xs.take q)) rfl (World.ownsRow.alloc HO.out _) ⟨w1.heap.size, 0, none⟩ 1 1 [.int .u64 x, .int .u64 y] rfl rfl (two_at w1 _ _ _) (by simp [Value.oneCell']) (by unfold maxLen; omega) (by omega) (Nat.le_trans B1.out.size (by simp)) ?_; intro v' w2 hown hgrow hnil; obtain ⟨g2, cp2, rfl⟩ := own_shape hown (fun h => by have := (hnil.1 h).1; cases this); have HO2 := hidR (hown); have b2 := below_mid B1.out HO.out hgrow; have B2 := hidR (b2); have hc2 := (b2.cell (p := ⟨m, 4, none⟩) hms1).trans hcW; have hf2 := (b2.frozen (p := ⟨m, 4, none⟩) hms1).trans hf0; clear hgrow hnil b2 hown) | (at_builtin; refine wpList_append_own _ rfl (.tmp 51) (.tmp 57) 55 rfl W.heap.size 68 i0 (.agg #[.int .u64 0, .int .u64 0]) 2 16 Try.underlying55 hi hz0 hz1 hz2 rfl (by decide) (.slice (some ⟨g2, 0, none⟩) (q + 1) cp2) (q + 1) (wcells (xs.take q) ++ [.int .u64 x, .int .u64 y]) rfl HO2.out ⟨b, q * 2, none⟩ (n - q) (cap - q) (wcells (xs.drop q)) rfl L2.out (by have := N2.out w2 B2.out; simp only [c, if_false] at this; exact this) O2.out (by unfold maxLen; omega) (by omega) B2.out.size ?_; intro v' w3 hown hgrow hnil; obtain ⟨g3, cp3, rfl⟩ := own_shape hown (fun h => by have := (hnil.1 h).1; cases this); have HO3 := hidR (hown); have b3 := below_again B2.out HO2.out hgrow; have hc3 := (b3.cell (p := ⟨m, 4, none⟩) hms1).trans hcW; have hf3 := (b3.frozen (p := ⟨m, 4, none⟩) hms1).trans hf0; have B3 := hidR (b3); clear hown hgrow hnil b3))
    go_ret
    refine ⟨g3, cp3, w3, rfl, rfl, ?_, below_both HWS.out BW.out B3.out⟩
    have h := HO3.out
    rw [HWS.out] at h
    exact h
set_option maxRecDepth 100000 in
theorem store_nil {w : World} {m : Nat} (x y : Int) (V : Int)
    (c1 : Calls Try.prog 23 #[.pointer (some ⟨m, 0, none⟩), .int .u64 x] w fun e w' => e = .returned (.tuple #[.int .u64 V, .int .i64 0]) ∧ ∃ k', w' = w.drewN k')
    (c2 : ∀ k, Calls Try.prog 51 #[.pointer (some ⟨m, 0, none⟩), .int .u64 x] (w.drewN k) fun e w' => e = .returned (.tuple #[.int .i64 0, .bool false]) ∧ ∃ k', w' = (w.drewN k).drewN k')
    (h4 : w.cell? ⟨m, 4, none⟩ = some (.slice none 0 0)) (hf : w.frozen? ⟨m, 4, none⟩ = false) (hms : m < w.heap.size) :
    Calls Try.prog 25 #[.pointer (some ⟨m, 0, none⟩), .int .u64 x, .int .u64 y] w fun e w' => ∃ (g cp : Nat) (w1 : World), e = .returned (.int .i64 0) ∧ w' = w1.setCell ⟨m, 4, none⟩ (.slice (some ⟨g, 0, none⟩) 1 cp) ∧
      w1.ownsRow w.heap.size 68 2 (.slice (some ⟨g, 0, none⟩) 1 cp) 1 [.int .u64 x, .int .u64 y] ∧ Below w.heap.size w w1 := by
  obtain ⟨i0, hi, hz0, hz1, hz2⟩ := info_parts infoW
  have C2 := hidR c2
  clear c2
  go_enter Try.func25, Try.ntmps25
  go_wp2_with fail
  go_at_call 23
  refine c1.mono ?_
  rintro e w' ⟨rfl, k, rfl⟩
  clear c1
  go_wp2_with fail
  go_at_call 51
  refine (C2.out _).mono ?_
  rintro e W ⟨rfl, k', hW⟩
  rw [drewN2] at hW
  clear C2
  have hWs : W.heap.size = w.heap.size := by rw [hW]; rfl
  have bW : Below w.heap.size w W := by rw [hW]; exact ⟨rfl, rfl, rfl, Nat.le_refl _, fun _ _ => rfl⟩
  have hms1 : m < W.heap.size := by rw [hWs]; exact hms
  have hcW : W.cell? ⟨m, 4, none⟩ = some (.slice none 0 0) := by rw [hW]; exact h4
  have hf0 : W.frozen? ⟨m, 4, none⟩ = false := by rw [hW]; exact hf
  have hc0 : (W.alloc (.cells #[] 68)).cell? ⟨m, 4, none⟩ = some (.slice none 0 0) := by rw [World.cell?_alloc_lt _ _ _ (by exact hms1)]; exact hcW
  have e0 := own_empty W 68 2
  have b0 : Below W.heap.size W (W.alloc (.cells #[] 68)) := (Below.refl _ _).alloc (Nat.le_refl _) _
  have E0 := hidR e0
  have B0 := hidR b0
  have HWS := hidR hWs
  have BW := hidR bW
  clear hW hWs bW h4 hf b0
  go_wp2_with (first | (at_builtin; refine wpList_append_own_none rfl (.tmp 36) (.tmp 42) 55 rfl W.heap.size 68 i0 2 Try.underlying55 hi (.slice (some ⟨W.heap.size, 0, none⟩) 0 0) 0 [] rfl e0 rfl ?_) | (at_builtin; refine wpList_append_own _ rfl (.tmp 44) (.tmp 48) 55 rfl W.heap.size 68 i0 (.agg #[.int .u64 0, .int .u64 0]) 2 16 Try.underlying55 hi hz0 hz1 hz2 rfl (by decide) (.slice (some ⟨W.heap.size, 0, none⟩) 0 0) 0 [] rfl (World.ownsRow.alloc E0.out _) ⟨W.heap.size + 1, 0, none⟩ 1 1 [.int .u64 x, .int .u64 y] rfl rfl (two_at' _ _ _ _ _ (by simp)) (by simp [Value.oneCell']) (by decide) (by decide) (by simp; omega) ?_; intro v' w2 hown hgrow hnil; obtain ⟨g2, cp2, rfl⟩ := own_shape hown (fun h => by have := (hnil.1 h).1; cases this); rw [Nat.zero_add, List.nil_append] at hown; have HO2 := hidR hown; have b2 := below_mid B0.out E0.out hgrow; have B2 := hidR b2; have hc2 := (b2.cell (p := ⟨m, 4, none⟩) hms1).trans hcW; have hf2 := (b2.frozen (p := ⟨m, 4, none⟩) hms1).trans hf0; clear hgrow hnil b2 hown) | (at_builtin; refine wpList_append_own_none rfl (.tmp 51) (.tmp 57) 55 rfl W.heap.size 68 i0 2 Try.underlying55 hi (.slice (some ⟨g2, 0, none⟩) 1 cp2) 1 _ rfl HO2.out rfl ?_))
  go_ret
  refine ⟨g2, cp2, w2, rfl, rfl, ?_, below_both HWS.out BW.out B2.out⟩
  have h := HO2.out
  rw [HWS.out] at h
  exact h
end Go.Proofs.Ytlfcnaalkjpgnaa
