/- J21 of the proof of both laws: texts RefL, RefM, RefN, one behind the other. -/
import Derived.Test.YtlfcnaalkjpgnaaJ20
/- The reference of chapter 3: Store, as the face asks it. -/
namespace Go.Proofs.Ytlfcnaalkjpgnaa
open Go.ChangeShapes Go.WideShapes Go.ChangeAt Go.RowKit Go.Proofs.Sp

/-! ### Words, one more or another -/
def insW (ws : List (Nat × Nat)) (a y : Nat) : List (Nat × Nat) := ws.take (pos (addrs ws) a) ++ [(a, y)] ++ ws.drop (pos (addrs ws) a)
def setW (ws : List (Nat × Nat)) (a y : Nat) : List (Nat × Nat) := ws.set (pos (addrs ws) a) (a, y)
theorem insW_mem (ws : List (Nat × Nat)) (a y : Nat) (x : Nat × Nat) : x ∈ insW ws a y ↔ x ∈ ws ∨ x = (a, y) := by
  unfold insW
  have e : x ∈ ws ↔ x ∈ ws.take (pos (addrs ws) a) ∨ x ∈ ws.drop (pos (addrs ws) a) := by rw [← List.mem_append, List.take_append_drop]
  rw [e]
  simp only [List.mem_append, List.mem_singleton]
  constructor
  · rintro ((h | h) | h)
    · exact Or.inl (Or.inl h)
    · exact Or.inr h
    · exact Or.inl (Or.inr h)
  · rintro ((h | h) | h)
    · exact Or.inl (Or.inl h)
    · exact Or.inr h
    · exact Or.inl (Or.inr h)
theorem split_lt {ws : List (Nat × Nat)} (hs : (addrs ws).Pairwise (· < ·)) (a : Nat) : (∀ x ∈ ws.take (pos (addrs ws) a), x.1 < a) ∧ ∀ x ∈ ws.drop (pos (addrs ws) a), a ≤ x.1 := by
  constructor
  · intro x h
    obtain ⟨i, hi, e⟩ := List.getElem_of_mem h
    rw [List.length_take] at hi
    have hi' : i < ws.length := by omega
    rw [List.getElem_take] at e
    have := (pos_lt hs a i (by rw [addrs_length]; exact hi')).1 (by omega)
    rw [addrs_get ws i hi', e] at this
    exact this
  · intro x h
    obtain ⟨i, hi, e⟩ := List.getElem_of_mem h
    rw [List.length_drop] at hi
    have hi' : pos (addrs ws) a + i < ws.length := by omega
    rw [List.getElem_drop] at e
    have : ¬ (addrs ws)[pos (addrs ws) a + i]'(by rw [addrs_length]; exact hi') < a := fun hh => by
      have := (pos_lt hs a _ (by rw [addrs_length]; exact hi')).2 hh; omega
    rw [addrs_get ws _ hi', e] at this
    omega
theorem insW_rising {ws : List (Nat × Nat)} (hs : (addrs ws).Pairwise (· < ·)) (a y : Nat) (h : ¬ a ∈ addrs ws) : (addrs (insW ws a y)).Pairwise (· < ·) := by
  obtain ⟨s1, s2⟩ := split_lt hs a
  have e : addrs (insW ws a y) = addrs (ws.take (pos (addrs ws) a)) ++ ([a] ++ addrs (ws.drop (pos (addrs ws) a))) := by
    unfold insW addrs; simp
  have hs' : (addrs (ws.take (pos (addrs ws) a)) ++ addrs (ws.drop (pos (addrs ws) a))).Pairwise (· < ·) := by
    have : addrs (ws.take (pos (addrs ws) a)) ++ addrs (ws.drop (pos (addrs ws) a)) = addrs ws := by unfold addrs; rw [← List.map_append, List.take_append_drop]
    rw [this]; exact hs
  obtain ⟨p1, p2, p3⟩ := List.pairwise_append.1 hs'
  rw [e]
  refine List.pairwise_append.2 ⟨p1, List.pairwise_append.2 ⟨List.pairwise_singleton _ _, p2, fun u hu v hv => ?_⟩, fun u hu v hv => ?_⟩
  · rw [List.mem_singleton.1 hu]
    obtain ⟨x, hx, rfl⟩ := List.mem_map.1 hv
    have := s2 x hx
    have hne : x.1 ≠ a := fun e => h (by rw [← e]; exact List.mem_map.2 ⟨x, List.mem_of_mem_drop hx, rfl⟩)
    omega
  · obtain ⟨x, hx, rfl⟩ := List.mem_map.1 hu
    have := s1 x hx
    rcases List.mem_append.1 hv with hv | hv
    · rw [List.mem_singleton.1 hv]; exact this
    · obtain ⟨z, hz, rfl⟩ := List.mem_map.1 hv
      have := s2 z hz
      omega
theorem setW_addrs {ws : List (Nat × Nat)} (hs : (addrs ws).Pairwise (· < ·)) (a y : Nat) (h : a ∈ addrs ws) : addrs (setW ws a y) = addrs ws := by
  obtain ⟨hp, hg⟩ := pos_get hs a h
  unfold setW
  apply List.ext_getElem?
  intro k
  unfold addrs
  rw [List.getElem?_map, List.getElem?_map, List.getElem?_set]
  by_cases c : pos (List.map Prod.fst ws) a = k
  · have hk : k < ws.length := by
      have := hp
      rw [addrs_length] at this
      unfold addrs at this
      omega
    subst c
    rw [if_pos rfl, if_pos hk, List.getElem?_eq_getElem hk]
    have := addrs_get ws _ hk
    unfold addrs at this hg
    simp only [Option.map_some]
    rw [← this]
    exact congrArg some hg.symm
  · rw [if_neg c]
theorem setW_mem {ws : List (Nat × Nat)} (a y : Nat) (x : Nat × Nat) : x ∈ setW ws a y → x = (a, y) ∨ x ∈ ws := by
  intro hx
  rcases List.mem_or_eq_of_mem_set hx with h | h
  · exact Or.inr h
  · exact Or.inl h
/-- What a word is behind a store, whichever way it went. -/
theorem stored_word {ws ws' : List (Nat × Nat)} (hs : (addrs ws).Pairwise (· < ·)) (hs' : (addrs ws').Pairwise (· < ·)) (fl : Nat → Nat) (a y : Nat) (h1 : (a, y) ∈ ws') (h2 : ∀ x ∈ ws, x.1 ≠ a → x ∈ ws') (h3 : ∀ x ∈ ws', x = (a, y) ∨ x ∈ ws) (b : Nat) :
    wordV fl ws' b = if b = a then y else wordV fl ws b := by
  by_cases c : b = a
  · subst c; rw [if_pos rfl, wordV_mem hs' fl b y h1]
  · rw [if_neg c]
    by_cases h : b ∈ addrs ws
    · obtain ⟨v, hv⟩ := addrs_mem h
      rw [wordV_mem hs fl b v hv, wordV_mem hs' fl b v (h2 _ hv c)]
    · rw [wordV_none fl b h, wordV_none fl b]
      intro h'
      obtain ⟨v, hv⟩ := addrs_mem h'
      rcases h3 _ hv with e | e
      · injection e with e1; exact c e1
      · exact h (List.mem_map.2 ⟨(b, v), e, rfl⟩)
theorem store_logic {S : Sp} {fl : Nat → Nat} {ws ws' : List (Nat × Nat)} (h : Logic S fl ws) (a y : Nat) (ha : a % 8 = 0) (hr : S.st (a / 8192) = 2) (hy : y < 18446744073709551616) (hs' : (addrs ws').Pairwise (· < ·)) (h1 : (a, y) ∈ ws') (h2 : ∀ x ∈ ws, x.1 ≠ a → x ∈ ws') (h3 : ∀ x ∈ ws', x = (a, y) ∨ x ∈ ws) :
    Logic (putS S a y) fl ws' := by
  refine ⟨⟨h.wf.rising, h.wf.below, h.wf.mem, h.wf.le3⟩, hs', fun x hx => ?_, h.fill, fun b hb hst => ?_⟩
  · rcases h3 x hx with e | e
    · rw [e]; exact ⟨hr, ha, hy⟩
    · exact h.ready x e
  · show (if b = a then y else S.wd b) = _
    rw [stored_word h.rising hs' fl a y h1 h2 h3 b]
    by_cases c : b = a
    · rw [if_pos c, if_pos c]
    · rw [if_neg c, if_neg c]; exact h.word b hb hst
theorem ins_logic {S : Sp} {fl : Nat → Nat} {ws : List (Nat × Nat)} (h : Logic S fl ws) (a y : Nat) (ha : a % 8 = 0) (hr : S.st (a / 8192) = 2) (hy : y < 18446744073709551616) (hn : ¬ a ∈ addrs ws) : Logic (putS S a y) fl (insW ws a y) :=
  store_logic h a y ha hr hy (insW_rising h.rising a y hn) ((insW_mem ws a y _).2 (Or.inr rfl)) (fun x hx _ => (insW_mem ws a y x).2 (Or.inl hx)) (fun x hx => ((insW_mem ws a y x).1 hx).symm)
theorem set_logic {S : Sp} {fl : Nat → Nat} {ws : List (Nat × Nat)} (h : Logic S fl ws) (a y : Nat) (ha : a % 8 = 0) (hr : S.st (a / 8192) = 2) (hy : y < 18446744073709551616) (hn : a ∈ addrs ws) : Logic (putS S a y) fl (setW ws a y) := by
  obtain ⟨hp, hg⟩ := pos_get h.rising a hn
  have hp' : pos (addrs ws) a < ws.length := by rw [addrs_length] at hp; exact hp
  refine store_logic h a y ha hr hy (by rw [setW_addrs h.rising a y hn]; exact h.rising) (List.mem_set hp' _) (fun x hx hne => ?_) (fun x hx => setW_mem a y x hx)
  obtain ⟨i, hi, e⟩ := List.getElem_of_mem hx
  have hine : pos (addrs ws) a ≠ i := fun e2 => by
    subst e2
    have := addrs_get ws _ hi
    rw [hg, e] at this
    exact hne this.symm
  have hgi : (setW ws a y)[i]? = some x := by unfold setW; rw [List.getElem?_set_ne hine, List.getElem?_eq_getElem hi, e]
  exact List.mem_of_getElem? hgi
theorem wflat_set (l : List (Nat × Nat)) (i : Nat) (a y : Nat) (hi : i < l.length) (ha : l[i].1 = a) : (wcells l).set (i * 2 + 1) (.int .u64 (y : Int)) = wcells (l.set i (a, y)) := by
  have L := wcells_length l
  have L' := wcells_length (l.set i (a, y))
  rw [List.length_set] at L'
  apply List.ext_getElem?
  intro k
  by_cases hk : k < l.length * 2
  · have hd : k / 2 < l.length := by omega
    have e : k = k / 2 * 2 + k % 2 := by omega
    have hr : k % 2 < 2 := by omega
    have g := flat_get 2 wcell (fun _ => rfl) l (k / 2) (k % 2) hd hr
    have g' := flat_get 2 wcell (fun _ => rfl) (l.set i (a, y)) (k / 2) (k % 2) (by rw [List.length_set]; exact hd) hr
    rw [← e] at g g'
    show _ = (List.flatMap wcell (l.set i (a, y)))[k]?
    rw [g']
    by_cases c : k / 2 = i
    · have ce : (l.set i (a, y))[k / 2]'(by rw [List.length_set]; exact hd) = (a, y) := by simp [c]
      rw [ce]
      rcases (by omega : k % 2 = 0 ∨ k % 2 = 1) with r | r
      · rw [List.getElem?_set_ne (by omega)]
        show (List.flatMap wcell l)[k]? = _
        rw [g, r]
        subst c
        show some (Value.int .u64 (l[k / 2].1 : Int)) = some (Value.int .u64 (a : Int))
        rw [ha]
      · have : k = i * 2 + 1 := by omega
        subst this
        rw [r, List.getElem?_set_self (by omega)]; rfl
    · have ce : (l.set i (a, y))[k / 2]'(by rw [List.length_set]; exact hd) = l[k / 2] := by rw [List.getElem_set_ne (by omega)]
      rw [ce, List.getElem?_set_ne (by omega)]
      exact g
  · rw [List.getElem?_eq_none (by rw [List.length_set]; omega), List.getElem?_eq_none (by omega)]
theorem store_found {w : World} {m : Nat} (g n cap q : Nat) (x y : Int) (V : Int) (T : Value) (hq : q < n)
    (c1 : Calls Try.prog 23 #[.pointer (some ⟨m, 0, none⟩), .int .u64 x] w fun e w' => e = .returned (.tuple #[.int .u64 V, .int .i64 0]) ∧ ∃ k', w' = w.drewN k')
    (c2 : ∀ k, Calls Try.prog 51 #[.pointer (some ⟨m, 0, none⟩), .int .u64 x] (w.drewN k) fun e w' => e = .returned (.tuple #[.int .i64 (q : Int), .bool true]) ∧ ∃ k', w' = (w.drewN k).drewN k')
    (h4 : w.cell? ⟨m, 4, none⟩ = some (.slice (some ⟨g, 0, none⟩) n cap)) (hc : w.cell? ⟨g, q * 2 + 1, none⟩ = some T) (hf : w.frozen? ⟨g, q * 2 + 1, none⟩ = false) :
    Calls Try.prog 25 #[.pointer (some ⟨m, 0, none⟩), .int .u64 x, .int .u64 y] w fun e w' => e = .returned (.int .i64 0) ∧ ∃ k, w' = (w.drewN k).setCell ⟨g, q * 2 + 1, none⟩ (.int .u64 y) := by
  have C2 := hidR c2
  clear c2
  go_enter Try.func25, Try.ntmps25
  go_wp2_with fail
  go_at_call 23
  refine c1.mono ?_
  rintro e w' ⟨rfl, k, rfl⟩
  clear c1
  go_wp2_with fail
  go_at_call 51
  refine (C2.out _).mono ?_
  rintro e w' ⟨rfl, k', rfl⟩
  go_wp2_with fail
  go_ret
  exact ⟨rfl, k + k', rfl⟩
theorem store_fails {w : World} {m : Nat} (x y : Int) (V er : Int) (h0 : (er != 0) = true)
    (c1 : Calls Try.prog 23 #[.pointer (some ⟨m, 0, none⟩), .int .u64 x] w fun e w' => e = .returned (.tuple #[.int .u64 V, .int .i64 er]) ∧ ∃ k', w' = w.drewN k') :
    Calls Try.prog 25 #[.pointer (some ⟨m, 0, none⟩), .int .u64 x, .int .u64 y] w fun e w' => e = .returned (.int .i64 er) ∧ ∃ k, w' = w.drewN k := by
  go_enter Try.func25, Try.ntmps25
  go_wp2_with fail
  go_at_call 23
  refine c1.mono ?_
  rintro e w' ⟨rfl, k, rfl⟩
  go_wp2_with fail
  go_ret
  exact ⟨rfl, k, rfl⟩
end Go.Proofs.Ytlfcnaalkjpgnaa

/- The reference of chapter 3: Store, as the face asks it. -/
namespace Go.Proofs.Ytlfcnaalkjpgnaa
open Go.ChangeShapes Go.WideShapes Go.ChangeAt Go.RowKit Go.Proofs.Sp

theorem Sl.lt {w : World} {v : Value} {xs : List Value} (h : Sl w v xs) {b : Nat} (hb : v.ownBlock = some b) : b < w.heap.size := by
  rcases h with ⟨e, _⟩ | ⟨b', off, cap, e, _, hl, _⟩
  · rw [e] at hb; cases hb
  · rw [e] at hb
    have : b' = b := by simpa [Value.ownBlock] using hb
    omega
theorem RefC.lt {w : World} {m : Nat} {S : Sp} {fl : Nat → Nat} {ws : List (Nat × Nat)} {v0 v1 v2 : Value} {o3 : Option Addr} {c3 : Nat} {o4 : Option Addr} {c4 : Nat} (h : RefC w m S fl ws v0 v1 v2 o3 c3 o4 c4) (b : Nat) (hb : inRef m v0 v1 v2 o3 o4 b) : b < w.heap.size := by
  rcases hb with hb | hb | hb | hb | hb | hb
  · rw [hb]
    by_cases c : m < w.heap.size
    · exact c
    · have := h.h0
      unfold World.cell? at this
      rw [Array.getElem?_eq_none (by show w.heap.size ≤ m; omega)] at this
      cases this
  · exact h.r0.lt hb
  · exact h.r1.lt hb
  · exact h.r2.lt hb
  · exact (h.own3.lt b (by rw [own_slice]; exact hb)).2
  · exact (h.own4.lt b (by rw [own_slice]; exact hb)).2
/-- A space that lies in memory again, behind a call. -/
theorem RI.land {w w' : World} {m : Nat} {S' : Sp} {F : Nat → Prop} {K' : Nat} {v0 v1 v2 : Value} {o3 o4 : Option Addr} (hF : ∀ b, F b ↔ inRef m v0 v1 v2 o3 o4 b)
    {fl' : Nat → Nat} {ws' : List (Nat × Nat)} {v0' v1' v2' : Value} {o3' : Option Addr} {c3' : Nat} {o4' : Option Addr} {c4' : Nat} (hC : RefC w' m S' fl' ws' v0' v1' v2' o3' c3' o4' c4') (hA : Apart m v0' v1' v2' o3' o4')
    (hnew : ∀ b, inRef m v0' v1' v2' o3' o4' b → inRef m v0 v1 v2 o3 o4 b ∨ w.heap.size ≤ b) (hk : Kept (inRef m v0 v1 v2 o3 o4) w w') (k1 : S'.pgs.length ≤ K') (k2 : ws'.length ≤ K') (p1 : ∀ x ∈ S'.places, x < 18446744073709551616) (p2 : ∀ x ∈ S'.fills, x < 18446744073709551616) :
    Step RI F w w' ⟨m, 0, none⟩ S' K' :=
  ⟨inRef m v0' v1' v2' o3' o4', ⟨m, fl', ws', v0', v1', v2', o3', c3', o4', c4', rfl, hC, hA, fun _ => Iff.rfl, fun b hb => hC.lt b hb, k1, k2, p1, p2⟩, hk.mono fun x hx => (hF x).2 hx, fun b hb => (hnew b hb).imp (fun h => (hF b).2 h) id⟩
theorem inRef_words {m : Nat} {v0 v1 v2 : Value} {o3 o4 : Option Addr} {g n : Nat} (hg : n ≤ g) (b : Nat) (hb : inRef m v0 v1 v2 o3 (some ⟨g, 0, none⟩) b) : inRef m v0 v1 v2 o3 o4 b ∨ n ≤ b := by
  rcases hb with h | h | h | h | h | h
  · exact Or.inl (Or.inl h)
  · exact Or.inl (Or.inr (Or.inl h))
  · exact Or.inl (Or.inr (Or.inr (Or.inl h)))
  · exact Or.inl (Or.inr (Or.inr (Or.inr (Or.inl h))))
  · exact Or.inl (Or.inr (Or.inr (Or.inr (Or.inr (Or.inl h)))))
  · have : g = b := by simpa using h
    exact Or.inr (by omega)
theorem RI.store {w : World} {m : Addr} {S : Sp} {F : Nat → Prop} {K : Nat} (a b : Int) (ha : two64 a) (hb : two64 b) (h : RI w m S F K) (hK : K ≤ lim) :
    Calls Try.prog rf.store #[.pointer (some m), .int .u64 a, .int .u64 b] w fun e w' => e = .returned (.int .i64 ((storeS S a.toNat b.toNat).1 : Nat)) ∧ Step RI F w w' m (storeS S a.toNat b.toNat).2 (K + 1) := by
  have h' := h
  obtain ⟨m, fl, ws, v0, v1, v2, o3, c3, o4, c4, rfl, h, ap, hF, hl, k1, k2, p1, p2⟩ := h
  unfold two64 at ha hb
  unfold lim at hK
  have hblk : ∀ x, inRef m v0 v1 v2 o3 o4 x → x < w.heap.size := fun x hx => hl x ((hF x).2 hx)
  have c1 := h.load a (by omega) (by omega) (by omega)
  by_cases h8 : a.toNat % 8 = 0
  · by_cases hr : S.st (a.toNat / 8192) = 2
    · rw [load_ok h8 hr] at c1
      rw [store_ok h8 hr]
      have c2 := fun k => (h.drewN k).wordAt a ha.1 (by omega)
      have eb : ((b.toNat : Nat) : Int) = b := by omega
      have ea : ((a.toNat : Nat) : Int) = a := by omega
      by_cases hf : a.toNat ∈ addrs ws
      · rw [decide_eq_true hf] at c2
        obtain ⟨hp, hg⟩ := pos_get h.rising a.toNat hf
        have hp' : pos (addrs ws) a.toNat < ws.length := by rw [addrs_length] at hp; exact hp
        obtain ⟨g, rfl⟩ : ∃ g, o4 = some ⟨g, 0, none⟩ := by
          obtain ⟨_, hh | ⟨g, cap, cur, hv, _⟩⟩ := h.own4
          · omega
          · exact ⟨g, by injection hv⟩
        have hcell := h.own4.cellAt (pos (addrs ws) a.toNat * 2 + 1) (by omega)
        have hgt := flat_get 2 wcell (fun _ => rfl) ws (pos (addrs ws) a.toNat) 1 hp' (by decide)
        refine (store_found g ws.length c4 (pos (addrs ws) a.toNat) a b _ _ hp' c1 c2 h.h4 (hcell.trans hgt) (h.own4.frozenAt _)).mono fun e w' ⟨he, k, hw⟩ => ⟨he, ?_⟩
        have own := ((h.drewN k).own4.stored (pos (addrs ws) a.toNat * 2 + 1) (.int .u64 b)).1
        have hset := wflat_set ws (pos (addrs ws) a.toNat) a.toNat b.toNat hp' (by rw [← addrs_get ws _ hp']; exact hg)
        rw [eb] at hset
        rw [hset] at own
        have hkp : Kept (fun x => x = g) w w' := by rw [hw]; exact ⟨rfl, rfl, rfl, by simp [World.setCell], fun x _ hx => Below.heap_setCell _ _ _ _ hx⟩
        obtain ⟨q0, q1, q2⟩ := ap.q g rfl
        have hgm : m ≠ g := fun e => ap.m4 (by rw [e]; rfl)
        have q3 : o3.map Addr.block ≠ some g := fun e => (ap.p g e).2.2.2 rfl
        have nm : ∀ x, x ≠ g → inRef m v0 v1 v2 o3 (some ⟨g, 0, none⟩) x → w'.heap[x]? = w.heap[x]? := fun x h1 h2 => hkp.block x (hblk x h2) h1
        have hm' := nm m hgm (Or.inl rfl)
        have hlen : (setW ws a.toNat b.toNat).length = ws.length := by unfold setW; rw [List.length_set]
        have hL := set_logic h.logic a.toNat b.toNat h8 hr (by omega) hf
        have hC : RefC w' m (putS S a.toNat b.toNat) fl (setW ws a.toNat b.toNat) v0 v1 v2 o3 c3 (some ⟨g, 0, none⟩) c4 :=
          ⟨hL.wf, fun k hk => (frozen_kept hm').trans (h.frozen k hk), (cell_kept hm').trans h.h0, (cell_kept hm').trans h.h1, (cell_kept hm').trans h.h2, (cell_kept hm').trans h.h3, by rw [hlen]; exact (cell_kept hm').trans h.h4,
            h.r0.kept hkp.size fun x e => nm x (fun e2 => q0 (by rw [← e2]; exact e)) (Or.inr (Or.inl e)), h.r1.kept hkp.size fun x e => nm x (fun e2 => q1 (by rw [← e2]; exact e)) (Or.inr (Or.inr (Or.inl e))), h.r2.kept hkp.size fun x e => nm x (fun e2 => q2 (by rw [← e2]; exact e)) (Or.inr (Or.inr (Or.inr (Or.inl e)))),
            owns_kept h.own3 fun x e => nm x (fun e2 => q3 (by rw [own_slice] at e; rw [← e2]; exact e)) (Or.inr (Or.inr (Or.inr (Or.inr (Or.inl (by rw [own_slice] at e; exact e)))))), by rw [hlen, hw]; exact own, hL.rising, hL.ready, hL.fill, hL.word⟩
        exact RI.land hF hC ap (fun x hx => Or.inl hx) (hkp.mono fun x hx => Or.inr (Or.inr (Or.inr (Or.inr (Or.inr (by rw [hx]; rfl)))))) (Nat.le_trans k1 (Nat.le_add_right _ _)) (by rw [hlen]; omega) p1 p2
      · rw [decide_eq_false hf] at c2
        have hL := ins_logic h.logic a.toNat b.toNat h8 hr (by omega) hf
        have hpl := pos_le (addrs ws) a.toNat
        rw [addrs_length] at hpl
        have hlen : (insW ws a.toNat b.toNat).length = ws.length + 1 := by unfold insW; rw [List.length_append, List.length_append, List.length_take, List.length_drop, Nat.min_eq_left hpl]; simp; omega
        have hcells : wcells (insW ws a.toNat b.toNat) = wcells (ws.take (pos (addrs ws) a.toNat)) ++ [.int .u64 a, .int .u64 b] ++ wcells (ws.drop (pos (addrs ws) a.toNat)) := by
          unfold insW
          rw [wcells_append, wcells_append]
          have : wcells [(a.toNat, b.toNat)] = [.int .u64 a, .int .u64 b] := by
            show [Value.int .u64 ((a.toNat : Nat) : Int), Value.int .u64 ((b.toNat : Nat) : Int)] = _
            rw [ea, eb]
          rw [this]
        have fin : ∀ w' g cp w1, w' = w1.setCell ⟨m, 4, none⟩ (.slice (some ⟨g, 0, none⟩) (insW ws a.toNat b.toNat).length cp) → w1.ownsRow w.heap.size 68 2 (.slice (some ⟨g, 0, none⟩) (insW ws a.toNat b.toNat).length cp) (insW ws a.toNat b.toNat).length (wcells (insW ws a.toNat b.toNat)) → Below w.heap.size w w1 →
            Step RI F w w' ⟨m, 0, none⟩ (putS S a.toNat b.toNat) (K + 1) := by
          intro w' g cp w1 hw hown hbel
          obtain ⟨hM, hA, hg4, hkp⟩ := h.mem.newWords ap (hblk m (Or.inl rfl)) hblk hbel hown
          rw [← hw] at hM hkp
          have hC := RefM.ref (S := putS S a.toNat b.toNat) hM hL
          exact RI.land hF hC hA (inRef_words hg4) (hkp.mono fun x hx => Or.inl hx) (Nat.le_trans k1 (Nat.le_add_right _ _)) (by rw [hlen]; omega) p1 p2
        obtain ⟨_, hh | ⟨g, cap, cur, hv, hg0, hheap, hnc, hmax, _⟩⟩ := h.own4
        · have ho : o4 = none := by injection hh.1
          have hc : c4 = 0 := by injection hh.1
          have hz : ws = [] := List.eq_nil_of_length_eq_zero hh.2
          subst ho hc hz
          refine (store_nil a b _ c1 c2 h.h4 (h.frozen 4 (by decide)) (hblk m (Or.inl rfl))).mono fun e w' ⟨g, cp, w1, he, hw, hown, hbel⟩ => ⟨he, fin w' g cp w1 ?_ ?_ hbel⟩
          · rw [hlen]; exact hw
          · rw [hlen, hcells]; exact hown
        · have ho : o4 = some ⟨g, 0, none⟩ := by injection hv
          have hc : c4 = cap := by injection hv
          subst ho hc
          have hl2 : pos (addrs ws) a.toNat + 1 + (ws.length - pos (addrs ws) a.toNat) = ws.length + 1 := by omega
          refine (store_walk g ws.length c4 _ ws a b rfl hpl (by omega) hnc _ c1 c2 h.h4 (h.frozen 4 (by decide)) (hblk m (Or.inl rfl)) h.own4).mono fun e w' ⟨g2, cp, w1, he, hw, hown, hbel⟩ => ⟨he, fin w' g2 cp w1 ?_ ?_ hbel⟩
          · rw [hlen, ← hl2]; exact hw
          · rw [hlen, hcells, ← hl2]; exact hown
    · have hv : loadS S a.toNat = (0, 12) := by unfold loadS; rw [if_neg (by omega), if_pos hr]
      have hs : storeS S a.toNat b.toNat = (12, S) := by unfold storeS; rw [if_neg (by omega), if_pos hr]
      rw [hv] at c1
      rw [hs]
      exact (store_fails a b _ _ (by decide) c1).mono fun e w' ⟨he, k, hw⟩ => ⟨he, by rw [hw]; exact step_more (h'.drew k) (Nat.le_add_right _ _)⟩
  · have hv : loadS S a.toNat = (0, 11) := by unfold loadS; rw [if_pos h8]
    have hs : storeS S a.toNat b.toNat = (11, S) := by unfold storeS; rw [if_pos h8]
    rw [hv] at c1
    rw [hs]
    exact (store_fails a b _ _ (by decide) c1).mono fun e w' ⟨he, k, hw⟩ => ⟨he, by rw [hw]; exact step_more (h'.drew k) (Nat.le_add_right _ _)⟩
end Go.Proofs.Ytlfcnaalkjpgnaa

/- The reference of chapter 3: Commit where it does nothing. -/
namespace Go.Proofs.Ytlfcnaalkjpgnaa
open Go.ChangeShapes Go.WideShapes Go.ChangeAt Go.RowKit Go.Proofs.Sp

/-- Are the first k of a row ready? -/
def allR (S : Sp) (a k : Nat) : Bool := decide (∀ i, i < k → S.st (a + i) = 2)
theorem allR_succ (S : Sp) (a k : Nat) : allR S a (k + 1) = (allR S a k && (((S.st (a + k) : Nat) : Int) == 2)) := by
  unfold allR
  rw [Bool.eq_iff_iff]
  simp only [decide_eq_true_eq, Bool.and_eq_true, beq_iff_eq]
  constructor
  · intro h; exact ⟨fun i hi => h i (by omega), by have := h k (by omega); omega⟩
  · rintro ⟨h1, h2⟩ i hi
    by_cases c : i = k
    · subst c; omega
    · exact h1 i (by omega)

variable {w : World} {m : Nat} {S : Sp} {fl : Nat → Nat} {ws : List (Nat × Nat)} {v0 v1 v2 : Value} {o3 : Option Addr} {c3 : Nat} {o4 : Option Addr} {c4 : Nat}
set_option maxRecDepth 100000 in
theorem commit_fails (h : RefC w m S fl ws v0 v1 v2 o3 c3 o4 c4) (hm : m < w.heap.size) (hb3 : ∀ b, o3.map Addr.block = some b → b < w.heap.size) (a b : Int) (ha : 0 ≤ a ∧ a ≤ 18446744073709551615) (hb : 0 ≤ b ∧ b ≤ 18446744073709551615) (hn : S.pgs.length ≤ 1099511627776)
    (er : Nat) (hbad : (¬ Sp.right a.toNat b.toNat ∧ er = 1) ∨ (Sp.right a.toNat b.toNat ∧ ¬ (∀ i, i < b.toNat → S.st (a.toNat + i) ≠ 0) ∧ er = 33)) :
    Calls Try.prog 19 #[.pointer (some ⟨m, 0, none⟩), .int .u64 a, .int .u64 b] w fun e w' => e = .returned (.int .i64 (er : Int)) ∧ Below w.heap.size w w' := by
  have cr := fun w => right_any a b ha hb w
  rcases hbad with ⟨hr, rfl⟩ | ⟨hr, hno, rfl⟩
  · rw [decide_eq_false hr] at cr
    clear hr h
    go_enter Try.func19, Try.ntmps19
    go_wp2_with (go_at_call 36; refine (cr _).mono ?_; rintro e w' ⟨rfl, hw'⟩; rw [hw']; clear hw' w')
    go_ret
    exact ⟨rfl, Below.refl _ _⟩
  · rw [decide_eq_true hr] at cr
    have cf := h.find a ha.1 hn
    have h3 := h.h3
    have hr' := hr
    unfold Sp.right at hr'
    have pp := pos_le S.pgs a.toNat
    by_cases hlen : b ≤ S.pgs.length - pos S.pgs a.toNat
    · obtain ⟨bb, off, rfl, hc⟩ := h.page (by omega)
      have rows := fun i hh hi => row_get h.wf.rising a.toNat i hh hi
      have hbb : bb < w.heap.size := hb3 bb rfl
      have HC := hidR hc
      have HR := hidR rows
      have HM := hidR h.wf.mem
      have HNO := hidR hno
      have HL := hidR h.wf.le3
      have HB := hidR h.wf.below
      obtain ⟨q, hq⟩ : ∃ q, q = pos S.pgs a.toNat := ⟨_, rfl⟩
      obtain ⟨n, hnn⟩ : ∃ n, n = S.pgs.length := ⟨_, rfl⟩
      rw [← hq] at cf hlen pp
      rw [← hnn] at hlen h3 hn pp
      have HQ := hidR hq
      have HN := hidR hnn
      generalize decide (a.toNat ∈ S.pgs) = d at cf
      clear hc rows hno hq hnn h hr
      go_enter Try.func19, Try.ntmps19
      go_wp2_with (first
        | (go_at_call 36; refine (cr _).mono ?_; rintro e w' ⟨rfl, hw'⟩; rw [hw']; clear hw' w')
        | (go_at_call 39; refine cf.mono ?_; rintro e w' ⟨rfl, k, rfl⟩))
      go_loopw [9, 10] (fun r i wr => ∃ (j : Int) (R : Bool), 0 ≤ j ∧ j ≤ b ∧ r = .bool R ∧ i = .int .u64 j ∧ Below w.heap.size w wr ∧ Hid (∀ k : Nat, (k : Int) < j → a.toNat + k ∈ S.pgs)) (fun _ i _ => (b - intOf i).toNat)
      case atStart => exact ⟨0, true, by omega, by omega, rfl, rfl, ⟨rfl, rfl, rfl, Nat.le_refl _, fun _ _ => rfl⟩, fun k hk => absurd hk (by omega)⟩
      case round =>
        obtain ⟨j, R, hj0, hj1, rfl, rfl, hbel, hgood⟩ := hrel
        by_cases hjb : j < b
        · have hidx : q + j.toNat < S.pgs.length := by rw [← HN.out]; omega
          have hcs := HC.out (q + j.toNat) hidx
          have hyb := HB.out _ (List.getElem_mem hidx)
          have hyl := HL.out S.pgs[q + j.toNat]
          obtain ⟨y, hye⟩ : ∃ y, y = S.pgs[q + j.toNat] := ⟨_, rfl⟩
          rw [← hye] at hcs hyb hyl
          obtain ⟨s, hse⟩ : ∃ s, s = S.st y := ⟨_, rfl⟩
          rw [← hse] at hcs hyl
          have e3 : q + j.toNat = ((q : Int) + j).toNat := by omega
          rw [e3] at hcs
          have g0 := (hbel.cell (p := ⟨bb, off + ((q : Int) + j).toNat * 3, none⟩) hbb).trans hcs.1
          have g1 := (hbel.cell (p := ⟨bb, off + ((q : Int) + j).toNat * 3 + 1, none⟩) hbb).trans hcs.2.1
          have g2 := (hbel.cell (p := ⟨bb, off + ((q : Int) + j).toNat * 3 + 2, none⟩) hbb).trans hcs.2.2
          have g3 := (hbel.cell (p := ⟨m, 3, none⟩) hm).trans h3
          have HYE := hidR hye
          have hsz := hbel.size
          clear hcs hye hse e3
          by_cases hyy : (y : Int) = a + j
          · have hyn : ((y : Int) != a + j) = false := by simpa using hyy
            have HYY := hidR hyy
            clear hyy
            have good' : ∀ k : Nat, (k : Int) < j + 1 → a.toNat + k ∈ S.pgs := fun k hk => by
              by_cases e : (k : Int) = j
              · have ey : y = a.toNat + k := by have := HYY.out; omega
                rw [← ey, HYE.out]; exact List.getElem_mem _
              · exact hgood.out k (by omega)
            have HG := hidR good'
            clear good'
            cases R
            · go_wp2_with fail
              go_roundw
              case rel => exact ⟨j + 1, false, by omega, by omega, rfl, rfl, hbel.alloc hsz _, HG⟩
              case measure => simp [intOf]; omega
            · go_wp2_with fail
              go_roundw
              case rel => exact ⟨j + 1, _, by omega, by omega, rfl, rfl, hbel.alloc hsz _, HG⟩
              case measure => simp [intOf]; omega
          · have hyn : ((y : Int) != a + j) = true := by simpa using hyy
            clear hyy
            go_wp2_with fail
            go_ret
            exact ⟨rfl, hbel.alloc hsz _⟩
        · exact absurd (fun i hi => (HM.out _).2 (hgood.out i (by omega))) HNO.out
    · have hlen' : S.pgs.length - pos S.pgs a.toNat < b := by omega
      obtain ⟨q, hq⟩ : ∃ q, q = pos S.pgs a.toNat := ⟨_, rfl⟩
      obtain ⟨n, hnn⟩ : ∃ n, n = S.pgs.length := ⟨_, rfl⟩
      rw [← hq] at cf hlen' pp
      rw [← hnn] at hlen' h3 hn pp
      generalize decide (a.toNat ∈ S.pgs) = d at cf
      clear hno hq hnn h hr hlen
      go_enter Try.func19, Try.ntmps19
      go_wp2_with (first
        | (go_at_call 36; refine (cr _).mono ?_; rintro e w' ⟨rfl, hw'⟩; rw [hw']; clear hw' w')
        | (go_at_call 39; refine cf.mono ?_; rintro e w' ⟨rfl, k, rfl⟩))
      go_ret
      exact ⟨rfl, ⟨rfl, rfl, rfl, Nat.le_refl _, fun _ _ => rfl⟩⟩
set_option maxRecDepth 100000 in
theorem commit_readied (g : Nat) (h : RefC w m S fl ws v0 v1 v2 (some ⟨g, 0, none⟩) c3 o4 c4) (hmm : m < w.heap.size) (hgg : g < w.heap.size) (a b : Int) (ha : 0 ≤ a ∧ a ≤ 18446744073709551615) (hb : 0 ≤ b ∧ b ≤ 18446744073709551615) (hn : S.pgs.length ≤ 1099511627776)
    (hr : Sp.right a.toNat b.toNat) (hall : ∀ i, i < b.toNat → S.st (a.toNat + i) ≠ 0) (hR : allR S a.toNat b.toNat = true) :
    Calls Try.prog 19 #[.pointer (some ⟨m, 0, none⟩), .int .u64 a, .int .u64 b] w fun e w' => e = .returned (.int .i64 0) ∧ Below w.heap.size w w' := by
  have HRR := hidR hR
  clear hR
  have cr := fun w => right_any a b ha hb w
  rw [decide_eq_true hr] at cr
  have cf := h.find a ha.1 hn
  have h3 := h.h3
  have hr' := hr
  unfold Sp.right at hr'
  have hmem : ∀ i, i < b.toNat → a.toNat + i ∈ S.pgs := fun i hi => (h.wf.mem _).1 (hall i hi)
  have hlen := row_len h.wf.rising a.toNat b.toNat hmem
  have hrow : ∀ j (hj : j < b.toNat), S.pgs[pos S.pgs a.toNat + j]'(by omega) = a.toNat + j := fun j hj => (row_get h.wf.rising a.toNat j (fun k hk => hmem k (by omega)) (by omega)).2 (hmem j hj)
  have hcells : ∀ j, j < b.toNat → w.cell? ⟨g, (pos S.pgs a.toNat + j) * 3, none⟩ = some (.int .u64 ((a.toNat + j : Nat) : Int)) ∧ w.cell? ⟨g, (pos S.pgs a.toNat + j) * 3 + 1, none⟩ = some (.int .i64 (S.st (a.toNat + j) : Int)) ∧ w.cell? ⟨g, (pos S.pgs a.toNat + j) * 3 + 2, none⟩ = some (.int .u64 (fl (a.toNat + j) : Int)) := by
    intro j hj
    obtain ⟨b', off', ho, hc⟩ := h.page (by omega)
    injection ho with ho
    injection ho with e1 e2
    subst e1 e2
    have := hc (pos S.pgs a.toNat + j) (by omega)
    rw [hrow j hj, Nat.zero_add] at this
    exact this
  have HL := hidR h.wf.le3
  obtain ⟨q, hq⟩ : ∃ q, q = pos S.pgs a.toNat := ⟨_, rfl⟩
  rw [← hq] at cf hlen hcells
  have HC := hidR hcells
  have HQ := hidR hq
  obtain ⟨n, hnn⟩ : ∃ n, n = S.pgs.length := ⟨_, rfl⟩
  rw [← hnn] at hn hlen h3
  have HN := hidR hnn
  have HRF := hidR h
  have HAL := hidR hall
  generalize decide (a.toNat ∈ S.pgs) = d at cf
  have hlen' : (q : Int) + b ≤ n := by omega
  have hle : b ≤ (n : Int) - q := by omega
  have hab : a + b ≤ 34359738368 := by omega
  have hb0 : 0 < b := by omega
  clear hcells hnn hrow hmem hr hr' h hq hlen hall
  go_enter Try.func19, Try.ntmps19
  go_wp2_with (first
    | (go_at_call 36; refine (cr _).mono ?_; rintro e w' ⟨rfl, hw'⟩; rw [hw']; clear hw' w')
    | (go_at_call 39; refine cf.mono ?_; rintro e w' ⟨rfl, k, rfl⟩))
  go_loopw [9, 10] (fun r i wr => ∃ j : Int, 0 ≤ j ∧ j ≤ b ∧ r = .bool (allR S a.toNat j.toNat) ∧ i = .int .u64 j ∧ Below w.heap.size w wr) (fun _ i _ => (b - intOf i).toNat)
  case atStart => exact ⟨0, by omega, by omega, by rw [show allR S a.toNat (0 : Int).toNat = true from by unfold allR; simp], rfl, ⟨rfl, rfl, rfl, Nat.le_refl _, fun _ _ => rfl⟩⟩
  case round =>
    obtain ⟨j, hj0, hj1, rfl, rfl, hbel⟩ := hrel
    have hsz := hbel.size
    have g3 := (hbel.cell (p := ⟨m, 3, none⟩) hmm).trans h3
    by_cases hjb : j < b
    · have hcs := HC.out j.toNat (by omega)
      have e3 : q + j.toNat = ((q : Int) + j).toNat := by omega
      have e4 : ((a.toNat + j.toNat : Nat) : Int) = a + j := by omega
      have hsl := HL.out (a.toNat + j.toNat)
      have hsucc := allR_succ S a.toNat j.toNat
      rw [show j.toNat + 1 = (j + 1).toNat by omega] at hsucc
      rw [e3, e4] at hcs
      generalize S.st (a.toNat + j.toNat) = s at hcs hsl hsucc
      have g0 := (hbel.cell (p := ⟨g, ((q : Int) + j).toNat * 3, none⟩) hgg).trans hcs.1
      have g1 := (hbel.cell (p := ⟨g, ((q : Int) + j).toNat * 3 + 1, none⟩) hgg).trans hcs.2.1
      have g2 := (hbel.cell (p := ⟨g, ((q : Int) + j).toNat * 3 + 2, none⟩) hgg).trans hcs.2.2
      have HSU := hidR hsucc
      clear hcs e3 e4 hsucc
      cases hR : allR S a.toNat j.toNat
      · have HR0 := hidR hR
        clear hR
        go_wp2_with fail
        go_roundw
        case rel => exact ⟨j + 1, by omega, by omega, by rw [HSU.out, HR0.out]; rfl, rfl, hbel.alloc hsz _⟩
        case measure => simp [intOf]; omega
      · have HR0 := hidR hR
        clear hR
        go_wp2_with fail
        go_roundw
        case rel => exact ⟨j + 1, by omega, by omega, by rw [HSU.out, HR0.out]; rfl, rfl, hbel.alloc hsz _⟩
        case measure => simp [intOf]; omega
    · obtain rfl : j = b := by omega
      rw [HRR.out]
      go_wp2_with fail
      go_ret
      exact ⟨rfl, hbel⟩
set_option maxRecDepth 100000 in
theorem commit_refusal (g : Nat) (h : RefC w m S fl ws v0 v1 v2 (some ⟨g, 0, none⟩) c3 o4 c4) (hmm : m < w.heap.size) (hgg : g < w.heap.size) (a b : Int) (ha : 0 ≤ a ∧ a ≤ 18446744073709551615) (hb : 0 ≤ b ∧ b ≤ 18446744073709551615) (hn : S.pgs.length ≤ 1099511627776)
    (hr : Sp.right a.toNat b.toNat) (hall : ∀ i, i < b.toNat → S.st (a.toNat + i) ≠ 0) (hR : allR S a.toNat b.toNat = false) (ap : Apart m v0 v1 v2 (some ⟨g, 0, none⟩) o4) (hx : S.refuse.headD false = true) :
    Calls Try.prog 19 #[.pointer (some ⟨m, 0, none⟩), .int .u64 a, .int .u64 b] w fun e w' => e = .returned (.int .i64 13) ∧ ∃ v1', v1'.ownBlock = v1.ownBlock ∧ RefC w' m (takeRefuse S) fl ws v0 v1' v2 (some ⟨g, 0, none⟩) c3 o4 c4 ∧ Kept (fun b => b = m) w w' := by
  have HRR := hidR hR
  have HAP := hidR ap
  have HX := hidR hx
  clear hR ap hx
  have cr := fun w => right_any a b ha hb w
  rw [decide_eq_true hr] at cr
  have cf := h.find a ha.1 hn
  have h3 := h.h3
  have hr' := hr
  unfold Sp.right at hr'
  have hmem : ∀ i, i < b.toNat → a.toNat + i ∈ S.pgs := fun i hi => (h.wf.mem _).1 (hall i hi)
  have hlen := row_len h.wf.rising a.toNat b.toNat hmem
  have hrow : ∀ j (hj : j < b.toNat), S.pgs[pos S.pgs a.toNat + j]'(by omega) = a.toNat + j := fun j hj => (row_get h.wf.rising a.toNat j (fun k hk => hmem k (by omega)) (by omega)).2 (hmem j hj)
  have hcells : ∀ j, j < b.toNat → w.cell? ⟨g, (pos S.pgs a.toNat + j) * 3, none⟩ = some (.int .u64 ((a.toNat + j : Nat) : Int)) ∧ w.cell? ⟨g, (pos S.pgs a.toNat + j) * 3 + 1, none⟩ = some (.int .i64 (S.st (a.toNat + j) : Int)) ∧ w.cell? ⟨g, (pos S.pgs a.toNat + j) * 3 + 2, none⟩ = some (.int .u64 (fl (a.toNat + j) : Int)) := by
    intro j hj
    obtain ⟨b', off', ho, hc⟩ := h.page (by omega)
    injection ho with ho
    injection ho with e1 e2
    subst e1 e2
    have := hc (pos S.pgs a.toNat + j) (by omega)
    rw [hrow j hj, Nat.zero_add] at this
    exact this
  have HL := hidR h.wf.le3
  obtain ⟨q, hq⟩ : ∃ q, q = pos S.pgs a.toNat := ⟨_, rfl⟩
  rw [← hq] at cf hlen hcells
  have HC := hidR hcells
  have HQ := hidR hq
  obtain ⟨n, hnn⟩ : ∃ n, n = S.pgs.length := ⟨_, rfl⟩
  rw [← hnn] at hn hlen h3
  have HN := hidR hnn
  have HRF := hidR h
  have HAL := hidR hall
  generalize decide (a.toNat ∈ S.pgs) = d at cf
  have hlen' : (q : Int) + b ≤ n := by omega
  have hle : b ≤ (n : Int) - q := by omega
  have hab : a + b ≤ 34359738368 := by omega
  have hb0 : 0 < b := by omega
  clear hcells hnn hrow hmem hr hr' h hq hlen hall
  go_enter Try.func19, Try.ntmps19
  go_wp2_with (first
    | (go_at_call 36; refine (cr _).mono ?_; rintro e w' ⟨rfl, hw'⟩; rw [hw']; clear hw' w')
    | (go_at_call 39; refine cf.mono ?_; rintro e w' ⟨rfl, k, rfl⟩))
  go_loopw [9, 10] (fun r i wr => ∃ j : Int, 0 ≤ j ∧ j ≤ b ∧ r = .bool (allR S a.toNat j.toNat) ∧ i = .int .u64 j ∧ Below w.heap.size w wr) (fun _ i _ => (b - intOf i).toNat)
  case atStart => exact ⟨0, by omega, by omega, by rw [show allR S a.toNat (0 : Int).toNat = true from by unfold allR; simp], rfl, ⟨rfl, rfl, rfl, Nat.le_refl _, fun _ _ => rfl⟩⟩
  case round =>
    obtain ⟨j, hj0, hj1, rfl, rfl, hbel⟩ := hrel
    have hsz := hbel.size
    have g3 := (hbel.cell (p := ⟨m, 3, none⟩) hmm).trans h3
    by_cases hjb : j < b
    · have hcs := HC.out j.toNat (by omega)
      have e3 : q + j.toNat = ((q : Int) + j).toNat := by omega
      have e4 : ((a.toNat + j.toNat : Nat) : Int) = a + j := by omega
      have hsl := HL.out (a.toNat + j.toNat)
      have hsucc := allR_succ S a.toNat j.toNat
      rw [show j.toNat + 1 = (j + 1).toNat by omega] at hsucc
      rw [e3, e4] at hcs
      generalize S.st (a.toNat + j.toNat) = s at hcs hsl hsucc
      have g0 := (hbel.cell (p := ⟨g, ((q : Int) + j).toNat * 3, none⟩) hgg).trans hcs.1
      have g1 := (hbel.cell (p := ⟨g, ((q : Int) + j).toNat * 3 + 1, none⟩) hgg).trans hcs.2.1
      have g2 := (hbel.cell (p := ⟨g, ((q : Int) + j).toNat * 3 + 2, none⟩) hgg).trans hcs.2.2
      have HSU := hidR hsucc
      clear hcs e3 e4 hsucc
      cases hR : allR S a.toNat j.toNat
      · have HR0 := hidR hR
        clear hR
        go_wp2_with fail
        go_roundw
        case rel => exact ⟨j + 1, by omega, by omega, by rw [HSU.out, HR0.out]; rfl, rfl, hbel.alloc hsz _⟩
        case measure => simp [intOf]; omega
      · have HR0 := hidR hR
        clear hR
        go_wp2_with fail
        go_roundw
        case rel => exact ⟨j + 1, by omega, by omega, by rw [HSU.out, HR0.out]; rfl, rfl, hbel.alloc hsz _⟩
        case measure => simp [intOf]; omega
    · obtain rfl : j = b := by omega
      rw [HRR.out]
      have hC1 : RefC wr m S fl ws v0 v1 v2 (some ⟨g, 0, none⟩) c3 o4 c4 := HRF.out.kept hsz fun x hx => hbel.block x (HRF.out.lt x hx)
      have cfu := hC1.refuses HAP.out
      rw [HX.out] at cfu
      clear hC1
      go_wp2_with fail
      go_at_call 35
      refine cfu.mono ?_
      rintro e w' ⟨rfl, v1', hv, hC', hk⟩
      go_wp2_with fail
      go_ret
      exact ⟨rfl, v1', hv, hC', (Kept.of_below hbel).trans hk⟩
end Go.Proofs.Ytlfcnaalkjpgnaa
