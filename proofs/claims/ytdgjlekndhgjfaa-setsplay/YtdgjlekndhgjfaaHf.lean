/- Package sets: what adding to a heap and removing from it leave; first: contracts. -/
import Derived.Test.YtdgjlekndhgjfaaHq
namespace Go.Proofs.Ytdgjlekndhgjfaa
open Go.ChangeShapes Go.WideShapes Go.ChangeAt Go.RowKit Go.Shelf Go.Proofs.Rx Go.Maps Go.Proofs.Hm
set_option linter.unusedVariables false
set_option linter.unusedSimpArgs false

attribute [local go_sem] Oper.semAt_some
section
variable {W W' : World} {b o pf pk : Nat} {q : Nat → Array Value} {B : Nat → Nat} {v : Value} {l : List Nat} {p : Nat → Int}
/-- What adding leaves. -/
structure AddTo (W W' : World) (b o pf pk : Nat) (q : Nat → Array Value) (B : Nat → Nat) (v : Value) (l : List Nat) (m : Nat) : Prop where
  ex : ∃ v' l' p', HpC W' b o pf pk q B v' l' p' ∧ Ord (fB B l') l'.length ∧ l'.Perm (m :: l) ∧ (∀ g, v'.ownBlock = some g → v.ownBlock = some g ∨ W.heap.size ≤ g) ∧ ∀ t vs, Bk W b t vs → Bk W' b t (vs.setIfInBounds o v')
  k : Kept (fun z => z = b ∨ v.ownBlock = some z ∨ z = m ∨ z ∈ l) W W'
/-- What removing leaves. -/
structure RemTo (W W' : World) (b o pf pk : Nat) (q : Nat → Array Value) (B : Nat → Nat) (v : Value) (l : List Nat) (m : Nat) : Prop where
  ex : ∃ v' l' p' x, HpC W' b o pf pk q B v' l' p' ∧ Ord (fB B l') l'.length ∧ l'.Perm (l.erase m) ∧ v'.ownBlock = v.ownBlock ∧ (∀ t vs, Bk W b t vs → Bk W' b t (vs.setIfInBounds o v')) ∧ Bk W' m 74 ((q m).setIfInBounds pk (.int .i64 x))
  k : Kept (fun z => z = b ∨ v.ownBlock = some z ∨ z ∈ l) W W'
theorem Hp.lt_own (h : Hp W b o pf pk q B v l p) {g : Nat} (hg : v.ownBlock = some g) : g < W.heap.size := own_lt h.at_.row hg
theorem Hp.lt_b (h : Hp W b o pf pk q B v l p) : b < W.heap.size := World.block_lt_of_cell? W ⟨b, o, none⟩ h.at_.c0
/-- The row behind an append, and the list's cell set to it. -/
theorem Hp.appended {g cap' : Nat} {Y : World} (h : Hp W b o pf pk q B v l p) (m : Nat) (x : Int) (hm : m ∉ l)
    (hq : Bk W m 74 ((q m).setIfInBounds pk (.int .i64 x))) (hs : (q m).size = 8) (hb : (q m)[1]? = some (.int .u64 (B m : Nat))) (hB : B m < 18446744073709551616) (n1 : m ≠ b) (n2 : v.ownBlock ≠ some m)
    (o1 : Y.ownsRow 0 70 1 (.slice (some ⟨g, 0, none⟩) (l.length + 1) cap') (l.length + 1) ((l ++ [m]).map encP))
    (k1 : Kept (fun x => v.ownBlock = some x) (W.alloc (.cells #[.pointer (some ⟨m, 0, none⟩)] 70)) Y) (hat : v.ownBlock = some g ∨ (W.alloc (.cells #[.pointer (some ⟨m, 0, none⟩)] 70)).heap.size ≤ g) (hlt : g < Y.heap.size) :
    Hp (Y.setCell ⟨b, o, none⟩ (.slice (some ⟨g, 0, none⟩) (l.length + 1) cap')) b o pf pk q B (.slice (some ⟨g, 0, none⟩) (l.length + 1) cap') (l ++ [m]) (fun z => if z = m then x else p z) ∧ Kept (fun x => v.ownBlock = some x) W Y ∧ (v.ownBlock = some g ∨ W.heap.size ≤ g) ∧ ∀ t vs, Bk W b t vs → Bk Y b t vs := by
  have kY : Kept (fun x => v.ownBlock = some x) W Y := (Kept.of_below (below_alloc W _)).trans k1 (fun _ _ h => h)
  have oY : v.ownBlock = some g ∨ W.heap.size ≤ g := hat.imp id (fun u => by have := World.size_alloc W (.cells #[.pointer (some ⟨m, 0, none⟩)] 70); omega)
  have hAY := h.at_.c0
  have nbg : b ≠ g := fun e => by
    rcases oY with u | u
    · exact h.at_.nb (by rw [e]; exact u)
    · have := h.lt_b; omega
  have cell : ∀ k, Y.cell? ⟨b, k, none⟩ = W.cell? ⟨b, k, none⟩ := fun k => cell_block (kY.block b h.lt_b h.at_.nb) k
  have ks := kept_set (F := fun z => z = b) Y b o (.slice (some ⟨g, 0, none⟩) (l.length + 1) cap') rfl
  have memL : ∀ z, z ∈ l ++ [m] → z ∈ l ∨ z = m := fun z hz => by simpa using hz
  have bkW : ∀ z, z ∈ l ++ [m] → Bk W z 74 ((q z).setIfInBounds pk (.int .i64 (if z = m then x else p z))) := fun z hz => by
    rcases memL z hz with u | u
    · rw [if_neg (fun e : z = m => hm (e ▸ u))]; exact h.ms.bk z u
    · rw [u, if_pos rfl]; exact hq
  have apW : ∀ z, z ∈ l ++ [m] → z ≠ b ∧ v.ownBlock ≠ some z := fun z hz => by
    rcases memL z hz with u | u
    · exact h.apart z u
    · rw [u]; exact ⟨n1, n2⟩
  refine ⟨⟨⟨World.cell?_setCell_same Y _ _ ((cell o).trans h.at_.c0), ?_, ?_, ?_, ?_, ?_⟩, ⟨?_, ?_, ?_, ?_⟩, ?_, ?_⟩, kY, oY, fun t vs hv => hv.kept kY h.at_.nb⟩
  · rw [World.frozen?_setCell]
    exact (fz_block (kY.block b h.lt_b h.at_.nb)).trans h.at_.f0
  · rw [World.cell?_setCell_other _ _ _ _ (by intro z; have := congrArg Addr.off z; simp at this)]; exact (cell _).trans h.at_.c1
  · rw [World.cell?_setCell_other _ _ _ _ (by intro z; have := congrArg Addr.off z; simp at this)]; exact (cell _).trans h.at_.c2
  · rw [List.length_append, List.length_singleton]
    exact owns_kept o1 ks (fun z hz e => nbg (by rw [← e]; simpa [Value.ownBlock] using hz.symm))
  · intro e
    exact nbg (by simpa [Value.ownBlock] using e.symm)
  · exact fun z hz => ((bkW z hz).kept kY (apW z hz).2).kept ks (apW z hz).1
  · intro z hz
    rcases memL z hz with u | u
    · exact h.ms.sz z u
    · rw [u]; exact hs
  · intro z hz
    rcases memL z hz with u | u
    · exact h.ms.ba z u
    · rw [u]; exact hb
  · intro z hz
    rcases memL z hz with u | u
    · exact h.ms.lim z u
    · rw [u]; exact hB
  · refine List.nodup_append.2 ⟨h.nd, by simp, fun z hz y hy => ?_⟩
    rw [List.mem_singleton.1 hy]
    exact fun e => hm (e ▸ hz)
  · intro z hz
    refine ⟨(apW z hz).1, fun e => ?_⟩
    have e' : g = z := by simpa [Value.ownBlock] using e
    rcases oY with u | u
    · exact (apW z hz).2 (by rw [← e']; exact u)
    · have := (bkW z hz).lt; omega
theorem at_app {l : List Nat} {m j : Nat} (h : j < l.length) : at' (l ++ [m]) j = at' l j := by
  unfold at'
  rw [List.getD_eq_getElem?_getD, List.getElem?_append_left h, ← List.getD_eq_getElem?_getD]
theorem at_last (l : List Nat) (m : Nat) : at' (l ++ [m]) l.length = m := by
  unfold at'
  rw [List.getD_eq_getElem?_getD, List.getElem?_append_right (Nat.le_refl _)]
  simp
/-- Its place is written. -/
theorem Hp.placed {Z V : World} {v' : Value} {m n : Nat} {p' : Nat → Int} (h : Hp Z b o pf pk q B v' (l ++ [m]) p') (hp : ∀ z, z ≠ m → p' z = p z) (hc : Cons l p) (hO : Ord (fB B l) l.length) (hm : m ∉ l) (hn : l.length = n) (hV : Z.setCell ⟨m, pk, none⟩ (.int .i64 (n : Nat)) = V) :
    HpC V b o pf pk q B v' (l ++ [m]) (fun z => if z = m then (n : Int) else p' z) ∧ Fix (fB B (l ++ [m])) (n + 1) n := by
  have hmm : m ∈ l ++ [m] := List.mem_append_right l (List.mem_singleton.2 rfl)
  have k1 : Kept (fun z => z = m) Z V := by rw [← hV]; exact kept_set (F := fun z => z = m) _ m pk _ rfl
  refine ⟨⟨⟨h.at_.kept k1 (fun e => (h.apart m hmm).1 e.symm) (fun g hg e => (h.apart m hmm).2 (by rw [← e]; exact hg)), by rw [← hV]; exact h.ms.set m n, h.nd, h.apart⟩, ?_⟩, ?_⟩
  · intro j hj
    rw [List.length_append, List.length_singleton] at hj
    by_cases e : j = l.length
    · rw [e, at_last]
      show (if m = m then (n : Int) else p' m) = _
      rw [if_pos rfl, hn]
    · have hj' : j < l.length := by omega
      have hne : at' l j ≠ m := fun e => hm (e ▸ at_mem hj')
      rw [at_app hj']
      show (if at' l j = m then (n : Int) else p' (at' l j)) = _
      rw [if_neg hne, hp _ hne]
      exact hc j hj'
  · have := hO.fix_more (f' := fB B (l ++ [m])) (fun j hj => by unfold fB; rw [at_app hj])
    rw [hn] at this
    exact this
theorem AddTo.of {Y Z V X : World} {g n cap' m : Nat} {l' : List Nat} {p' : Nat → Int} (h : Hp W b o pf pk q B v l p) (nb : (Value.slice (some ⟨g, 0, none⟩) (n + 1) cap').ownBlock ≠ some b) (kY : Kept (fun x => v.ownBlock = some x) W Y) (oY : v.ownBlock = some g ∨ W.heap.size ≤ g) (bY : ∀ t vs, Bk W b t vs → Bk Y b t vs)
    (hZ : Y.setCell ⟨b, o, none⟩ (.slice (some ⟨g, 0, none⟩) (n + 1) cap') = Z) (hV : Z.setCell ⟨m, pk, none⟩ (.int .i64 (n : Nat)) = V) (pm : l'.Perm (l ++ [m])) (kR : Kept (fun z => (Value.slice (some ⟨g, 0, none⟩) (n + 1) cap').ownBlock = some z ∨ z ∈ l ++ [m]) V X) (n1 : m ≠ b)
    (c' : HpC X b o pf pk q B (.slice (some ⟨g, 0, none⟩) (n + 1) cap') l' p') (hO : Ord (fB B l') l'.length) : AddTo W X b o pf pk q B v l m := by
  have kZ : Kept (fun z => z = b) Y Z := by rw [← hZ]; exact kept_set (F := fun z => z = b) _ b o _ rfl
  have kV : Kept (fun z => z = m) Z V := by rw [← hV]; exact kept_set (F := fun z => z = m) _ m pk _ rfl
  refine ⟨⟨_, l', p', c', hO, pm.trans (List.perm_append_comm (l₁ := l) (l₂ := [m])), fun z hz => ?_, fun t vs hv => ?_⟩, ?_⟩
  · have e : g = z := by simpa [Value.ownBlock] using hz
    rw [← e]; exact oY
  · have b1 := (bY t vs hv).set o (.slice (some ⟨g, 0, none⟩) (n + 1) cap')
    rw [hZ] at b1
    have b2 := b1.kept kV (fun e => n1 e.symm)
    refine b2.kept kR ?_
    rintro (e | e)
    · exact nb e
    · rcases List.mem_append.1 e with u | u
      · exact (h.apart b u).1 rfl
      · exact n1 (List.mem_singleton.1 u).symm
  · refine (((kY.mono (fun z e => .inr (.inl e))).trans (kZ.mono (fun z e => .inl e)) (fun _ _ h => h)).trans (kV.mono (fun z e => .inr (.inr (.inl e)))) (fun _ _ h => h)).trans kR (fun z hz hF => ?_)
    rcases hF with e | e
    · have e' : g = z := by simpa [Value.ownBlock] using e
      rcases oY with u | u
      · exact .inr (.inl (by rw [← e']; exact u))
      · omega
    · rcases List.mem_append.1 e with u | u
      · exact .inr (.inr (.inr u))
      · exact .inr (.inr (.inl (List.mem_singleton.1 u)))
/-- The last one cut. -/
theorem Hp.cut {g cap k m : Nat} {L2 : List Nat} {W3 : World} (h : Hp W b o pf pk q B (.slice (some ⟨g, 0, none⟩) (k + 1) cap) (L2 ++ [m]) p) (hk : L2.length = k) (hW : (W.setCell ⟨g, k, none⟩ (.pointer none)).setCell ⟨b, o, none⟩ (.slice (some ⟨g, 0, none⟩) k cap) = W3) :
    Hp W3 b o pf pk q B (.slice (some ⟨g, 0, none⟩) k cap) L2 p ∧ Kept (fun z => z = g ∨ z = b) W W3 ∧ ∀ t vs, Bk W b t vs → Bk W3 b t (vs.setIfInBounds o (.slice (some ⟨g, 0, none⟩) k cap)) := by
  have nb : b ≠ g := fun e => h.at_.nb (by rw [e]; rfl)
  have k1 : Kept (fun z => z = g) W (W.setCell ⟨g, k, none⟩ (.pointer none)) := kept_set (F := fun z => z = g) _ g k _ rfl
  have k2 : Kept (fun z => z = b) (W.setCell ⟨g, k, none⟩ (.pointer none)) W3 := by rw [← hW]; exact kept_set (F := fun z => z = b) _ b o _ rfl
  have kk : Kept (fun z => z = g ∨ z = b) W W3 := (k1.mono (fun _ e => .inl e)).trans (k2.mono (fun _ e => .inr e)) (fun _ _ e => e)
  have hb : (W.setCell ⟨g, k, none⟩ (.pointer none)).heap[b]? = W.heap[b]? := k1.block b h.lt_b nb
  have hr := h.at_.row
  rw [List.length_append, List.length_singleton, hk] at hr
  have r1 := (hr.stored k (.pointer none)).1
  have e1 : ((L2 ++ [m]).map encP).set k (.pointer none) = L2.map encP ++ [.pointer none] := by
    rw [List.map_append, List.set_append_right _ _ (by simp [hk])]
    simp [hk]
  rw [e1] at r1
  have r2 := ownsRow_pop (by simp [hk]) r1
  have mem : ∀ z, z ∈ L2 → z ∈ L2 ++ [m] := fun z hz => List.mem_append_left _ hz
  have gne : ∀ z, z ∈ L2 ++ [m] → z ≠ g := fun z hz e => (h.apart z hz).2 (by rw [e]; rfl)
  refine ⟨⟨⟨?_, ?_, ?_, ?_, ?_, fun e => nb (by simpa [Value.ownBlock] using e.symm)⟩, (h.ms.perm mem).kept kk (fun z hz => ?_), (List.nodup_append.1 h.nd).1, fun z hz => ⟨(h.apart z (mem z hz)).1, fun e => gne z (mem z hz) (by simpa [Value.ownBlock] using e.symm)⟩⟩, kk, fun t vs hv => ?_⟩
  · rw [← hW]; exact World.cell?_setCell_same _ _ _ ((cell_block hb o).trans h.at_.c0)
  · rw [← hW, World.frozen?_setCell]; exact (fz_block hb).trans h.at_.f0
  · rw [← hW, World.cell?_setCell_other _ _ _ _ (by intro z; have := congrArg Addr.off z; simp at this)]; exact (cell_block hb _).trans h.at_.c1
  · rw [← hW, World.cell?_setCell_other _ _ _ _ (by intro z; have := congrArg Addr.off z; simp at this)]; exact (cell_block hb _).trans h.at_.c2
  · rw [hk]; exact owns_kept r2 k2 (fun z hz e => nb (by rw [← e]; simpa [Value.ownBlock] using hz.symm))
  · rintro (e | e)
    · exact gne z (mem z hz) e
    · exact (h.apart z (mem z hz)).1 e
  · rw [← hW]; exact (hv.kept k1 nb).set o _
theorem split_last {l : List Nat} {k : Nat} (hk : l.length = k + 1) : l = l.take k ++ [at' l k] := by
  have h := at_get (l := l) (j := k) (by omega)
  have e := List.take_append_drop k l
  rw [List.drop_eq_getElem_cons (by omega), List.drop_eq_nil_of_le (by omega)] at e
  rw [List.getElem?_eq_getElem (by omega)] at h
  rw [Option.some.inj h] at e
  exact e.symm
theorem at_take {l : List Nat} {k j : Nat} (hj : j < k) : at' (l.take k) j = at' l j := by
  unfold at'
  rw [List.getD_eq_getElem?_getD, List.getElem?_take, if_pos hj, ← List.getD_eq_getElem?_getD]
/-- One in the midst goes: the last one in its place. -/
theorem Hp.gone {g cap k m t : Nat} {W1 W3 : World} (h : HpC W b o pf pk q B (.slice (some ⟨g, 0, none⟩) (k + 1) cap) l p) (hk : l.length = k + 1) (ht : t < k + 1) (et : at' l t = m) (k1 : Kept (fun z => (Value.slice (some ⟨g, 0, none⟩) (k + 1) cap).ownBlock = some z ∨ z ∈ l) W W1)
    (s1 : Hp W1 b o pf pk q B (.slice (some ⟨g, 0, none⟩) (k + 1) cap) (swapL l t k) (swapP l t k p)) (hW : (W1.setCell ⟨g, k, none⟩ (.pointer none)).setCell ⟨b, o, none⟩ (.slice (some ⟨g, 0, none⟩) k cap) = W3) (hO : Ord (fB B l) (k + 1)) :
    ∃ L2 : List Nat, L2.length = k ∧ HpC W3 b o pf pk q B (.slice (some ⟨g, 0, none⟩) k cap) L2 (swapP l t k p) ∧ (t < k → Fix (fB B L2) k t) ∧ (t = k → Ord (fB B L2) k) ∧
      ∀ W' l' p', HpC W' b o pf pk q B (.slice (some ⟨g, 0, none⟩) k cap) l' p' → l'.Perm L2 → Kept (fun z => (Value.slice (some ⟨g, 0, none⟩) k cap).ownBlock = some z ∨ z ∈ L2) W3 W' → Ord (fB B l') l'.length → RemTo W W' b o pf pk q B (.slice (some ⟨g, 0, none⟩) (k + 1) cap) l m := by
  have kk : k < l.length := by omega
  have tt : t < l.length := by omega
  have lK : (swapL l t k).length = k + 1 := by rw [len_swap, hk]
  have eK := split_last lK
  have el : at' (swapL l t k) k = m := by rw [at_swap tt kk, if_pos rfl, et]
  rw [el] at eK
  obtain ⟨L2, hL2⟩ : ∃ L2, (swapL l t k).take k = L2 := ⟨_, rfl⟩
  have n2 : L2.length = k := by rw [← hL2, List.length_take, lK]; omega
  rw [hL2] at eK
  have atL : ∀ j, j < k → at' L2 j = at' (swapL l t k) j := fun j hj => by rw [← hL2, at_take hj]
  have co := cons_swap h.hp.nd h.co tt kk
  have s1' := s1
  rw [eK] at s1'
  obtain ⟨c1, c2, c3⟩ := s1'.cut n2 hW
  have pmK := perm_swap tt kk
  rw [eK] at pmK
  have mem2 : ∀ z, z ∈ L2 → z ∈ l := fun z hz => pmK.mem_iff.1 (List.mem_append_left _ hz)
  have mL : m ∈ l := pmK.mem_iff.1 (List.mem_append_right _ (List.mem_singleton.2 rfl))
  have nd2 := (List.nodup_append.1 s1'.nd).2.2
  have mn : m ∉ L2 := fun hz => nd2 m hz m (List.mem_singleton.2 rfl) rfl
  have nb : b ≠ g := fun e => h.hp.at_.nb (by rw [e]; rfl)
  have mg : m ≠ g := fun e => (h.hp.apart m mL).2 (by rw [e]; rfl)
  refine ⟨L2, n2, ⟨c1, fun j hj => ?_⟩, fun hlt => hO.fix_less hlt (fun j hj hne => ?_), fun e => hO.less (fun j hj => ?_), fun W' l' p' c' pm' kW hO' => ⟨⟨_, l', p', swapP l t k p m, c', hO', ?_, rfl, fun ty vs hv => ?_, ?_⟩, ?_⟩⟩
  · rw [n2] at hj
    rw [atL j hj]
    exact co j (by omega)
  · unfold fB
    rw [atL j hj, at_swap tt kk, if_neg (by omega), if_neg hne]
  · unfold fB
    rw [atL j hj, at_swap tt kk, if_neg (by omega), if_neg (by omega)]
  · have e1 : (l.erase m).Perm ((L2 ++ [m]).erase m) := pmK.symm.erase m
    have e2 : ((L2 ++ [m]).erase m).Perm L2 := by
      have := (List.perm_append_comm (l₁ := L2) (l₂ := [m])).erase m
      simpa using this
    exact pm'.trans (e1.trans e2).symm
  · have b1 := hv.kept k1 (by rintro (e | e); exact h.hp.at_.nb e; exact (h.hp.apart b e).1 rfl)
    refine (c3 ty vs b1).kept kW ?_
    rintro (e | e)
    · exact nb (by simpa [Value.ownBlock] using e.symm)
    · exact (h.hp.apart b (mem2 b e)).1 rfl
  · have b1 := s1'.ms.bk m (List.mem_append_right _ (List.mem_singleton.2 rfl))
    refine (b1.kept c2 ?_).kept kW ?_
    · rintro (e | e)
      · exact mg e
      · exact (h.hp.apart m mL).1 e
    · rintro (e | e)
      · exact mg (by simpa [Value.ownBlock] using e.symm)
      · exact mn e
  · refine ((k1.mono (fun z hz => .inr hz)).trans (c2.mono (fun z hz => ?_)) (fun _ _ h => h)).trans (kW.mono (fun z hz => ?_)) (fun _ _ h => h)
    · rcases hz with e | e
      · exact .inr (.inl (by rw [e]; rfl))
      · exact .inl e
    · rcases hz with e | e
      · exact .inr (.inl e)
      · exact .inr (.inr (mem2 z e))
/-! ### first -/
theorem first_none (h : Hp W b o pf pk q B v [] p) : Calls Try.prog 28 #[.pointer (some ⟨b, o, none⟩)] W fun e W' => e = .returned (.pointer none) ∧ W' = W := by
  obtain ⟨ov, cap, rfl⟩ := row_form h.at_.row
  have c0 := h.at_.c0
  have d0 : (([] : List Nat).length : Int) = 0 := rfl
  clear h
  go_enter Try.func28, Try.ntmps28
  go_wp2_with fail
  go_ret
  exact ⟨rfl, rfl⟩
theorem first_some (h : Hp W b o pf pk q B v l p) (hl : 0 < l.length) : Calls Try.prog 28 #[.pointer (some ⟨b, o, none⟩)] W fun e W' => e = .returned (.pointer (some ⟨at' l 0, 0, none⟩)) ∧ W' = W := by
  obtain ⟨g, cap, rfl, hc, hf⟩ := h.form hl
  obtain ⟨n, hn⟩ : ∃ n, l.length = n := ⟨_, rfl⟩
  have c0 := h.at_.c0
  have x0 := hc 0 hl
  rw [hn] at c0 hl
  have d0 : ((n : Int) == 0) = false := by simp; omega
  have d1 : (n == 0) = false := by simp; omega
  clear h hc hf hn
  go_enter Try.func28, Try.ntmps28
  go_wp2_with fail
  go_ret
  exact ⟨rfl, rfl⟩
end
end Go.Proofs.Ytdgjlekndhgjfaa
