/- A store of records, with what holds of it: contracts for laws. -/
import Derived.Test.YtmpddppjkfflnaaFy
namespace Go.Proofs.Ytmpddppjkfflnaa
open Go.ChangeShapes Go.WideShapes Go.ChangeAt Go.RowKit Go.Shelf Go.Proofs.Rx Go.Maps
set_option linter.unusedVariables false
set_option linter.unusedSimpArgs false

/-! ### Plain -/
theorem nodup_len : ∀ (B : Nat) (l : List Nat), l.Nodup → (∀ x ∈ l, x < B) → l.length ≤ B
  | 0, l, _, h => by
    cases l with
    | nil => simp
    | cons a l => have := h a (by simp); omega
  | B + 1, l, hn, h => by
    by_cases hb : B ∈ l
    · have e := List.length_erase_of_mem hb
      have := nodup_len B (l.erase B) (hn.erase B) (fun x hx => by
        have h1 := h x (List.mem_of_mem_erase hx)
        have h2 : x ≠ B := fun z => by rw [z] at hx; exact (hn.mem_erase_iff.1 hx).1 rfl
        omega)
      omega
    · have := nodup_len B l hn (fun x hx => by
        have h1 := h x hx
        have h2 : x ≠ B := fun z => hb (z ▸ hx)
        omega)
      omega
/-- Which records were given back: those that were ever out and are not. -/
structure Ok (L : List Bool) (B : List Nat) : Prop where
  nd : B.Nodup
  me : ∀ i, i ∈ B ↔ 1 ≤ i ∧ L[i - 1]? = some false
theorem Ok.nil : Ok [] [] := ⟨List.nodup_nil, fun i => by simp⟩
theorem Ok.bound {L : List Bool} {B : List Nat} (h : Ok L B) {i : Nat} (hi : i ∈ B) : 1 ≤ i ∧ i ≤ L.length := by
  obtain ⟨h1, h2⟩ := (h.me i).1 hi
  obtain ⟨h3, _⟩ := List.getElem?_eq_some_iff.1 h2
  omega
theorem Ok.le {L : List Bool} {B : List Nat} (h : Ok L B) : B.length ≤ L.length := by
  have := nodup_len (L.length + 1) (0 :: B) (List.nodup_cons.2 ⟨fun z => by have := (h.bound z).1; omega, h.nd⟩) (fun x hx => by
    rcases List.mem_cons.1 hx with e | e
    · omega
    · have := (h.bound e).2; omega)
  simp at this
  omega
theorem Ok.more {L : List Bool} (h : Ok L []) : Ok (L ++ [true]) [] := by
  refine ⟨List.nodup_nil, fun i => ?_⟩
  have := h.me i
  constructor
  · intro z; cases z
  · rintro ⟨h1, h2⟩
    refine this.2 ⟨h1, ?_⟩
    by_cases c : i - 1 < L.length
    · rwa [List.getElem?_append_left c] at h2
    · rw [List.getElem?_append_right (by omega)] at h2
      by_cases d : i - 1 - L.length = 0
      · rw [d] at h2; simp at h2
      · rw [List.getElem?_eq_none (by simp; omega)] at h2; cases h2
theorem Ok.pop {L : List Bool} {B : List Nat} {i : Nat} (h : Ok L (i :: B)) : Ok (L.set (i - 1) true) B := by
  obtain ⟨n1, n2⟩ := List.nodup_cons.1 h.nd
  obtain ⟨b1, b2⟩ := h.bound (i := i) (by simp)
  refine ⟨n2, fun k => ?_⟩
  have := h.me k
  by_cases c : k = i
  · subst c
    constructor
    · intro z; exact absurd z n1
    · rintro ⟨_, z⟩
      rw [List.getElem?_set_self (by omega)] at z
      simp at z
  · constructor
    · intro z
      obtain ⟨h1, h2⟩ := this.1 (List.mem_cons_of_mem _ z)
      exact ⟨h1, by rw [List.getElem?_set_ne (by omega)]; exact h2⟩
    · rintro ⟨h1, z⟩
      rw [List.getElem?_set_ne (by omega)] at z
      rcases List.mem_cons.1 (this.2 ⟨h1, z⟩) with e | e
      · exact absurd e c
      · exact e
theorem lv_get {L : List Bool} {i : Nat} (h : lv L i = true) : L[i - 1]? = some true := by
  obtain ⟨h1, h2⟩ := lv_le h
  rw [lv_in h1 h2 (i - 1) (by omega), h]
theorem Ok.push {L : List Bool} {B : List Nat} {i : Nat} (h : Ok L B) (hi : lv L i = true) : Ok (L.set (i - 1) false) (i :: B) := by
  have g := lv_get hi
  obtain ⟨l1, l2⟩ := lv_le hi
  have ni : i ∉ B := fun z => by rw [((h.me i).1 z).2] at g; simp at g
  refine ⟨List.nodup_cons.2 ⟨ni, h.nd⟩, fun k => ?_⟩
  by_cases c : k = i
  · subst c
    constructor
    · intro _; exact ⟨by omega, by rw [List.getElem?_set_self (by omega)]⟩
    · intro _; simp
  · constructor
    · intro z
      rcases List.mem_cons.1 z with e | e
      · exact absurd e c
      · obtain ⟨h1, h2⟩ := (h.me k).1 e
        exact ⟨h1, by rw [List.getElem?_set_ne (by omega)]; exact h2⟩
    · rintro ⟨h1, z⟩
      rw [List.getElem?_set_ne (by omega)] at z
      exact List.mem_cons_of_mem _ ((h.me k).2 ⟨h1, z⟩)
theorem Ok.less {L : List Bool} {B : List Nat} {i : Nat} (h : Ok L B) (hi : lv L i = true) : B.length + 1 ≤ L.length := by
  have := (h.push hi).le
  simpa using this
/-- What Take answers and leaves. -/
def takeI (L : List Bool) : List Nat → Int
  | [] => (L.length : Int) + 1
  | i :: _ => (i : Nat)
def takeL (L : List Bool) : List Nat → List Bool
  | [] => L ++ [true]
  | i :: _ => L.set (i - 1) true
theorem Ok.take {L : List Bool} {B : List Nat} (h : Ok L B) : Ok (takeL L B) B.tail := by
  cases B with
  | nil => exact h.more
  | cons i B => exact h.pop
theorem takeL_len (L : List Bool) (B : List Nat) : (takeL L B).length ≤ L.length + 1 := by cases B <;> simp [takeL]
def giveL (L : List Bool) (i : Int) : List Bool := if lv L i = true then L.set (i.toNat - 1) false else L
def giveB (L : List Bool) (B : List Nat) (i : Int) : List Nat := if lv L i = true then i.toNat :: B else B
def giveE (L : List Bool) (i : Int) : Int := if lv L i = true then 0 else 31
theorem giveL_len (L : List Bool) (i : Int) : (giveL L i).length = L.length := by unfold giveL; split <;> simp
theorem Ok.give {L : List Bool} {B : List Nat} (h : Ok L B) (i : Int) : Ok (giveL L i) (giveB L B i) := by
  unfold giveL giveB
  by_cases c : lv L i = true
  · rw [if_pos c, if_pos c]
    have := lv_le c
    exact h.push (by rw [show ((i.toNat : Nat) : Int) = i by omega]; exact c)
  · rw [if_neg c, if_neg c]; exact h
/-! ### In memory -/
/-- What a call leaves: nothing old has turned but F; what is its own now was, or is new. -/
def To (W W' : World) (F F' : Nat → Prop) : Prop := Kept F W W' ∧ ∀ z, F' z → F z ∨ W.heap.size ≤ z
structure Fx (N : Nat) (W : World) (fb : Nat) (F : Nat → Prop) (each : Int) (L : List Bool) (B : List Nat) : Prop where
  ex : ∃ v p bs, FxAt N W fb v p bs each ((L.length : Int) - B.length) L B ∧ ∀ z, F z ↔ ownF fb v bs z
  ok : Ok L B
  e0 : 1 ≤ each
  e1 : each ≤ 16384
section
variable {N : Nat} {W W' : World} {fb : Nat} {F : Nat → Prop} {each : Int} {L : List Bool} {B : List Nat}
theorem Fx.lt (h : Fx N W fb F each L B) {z : Nat} (hz : F z) : N ≤ z ∧ z < W.heap.size := by
  obtain ⟨v, p, bs, a, hF⟩ := h.ex
  exact a.own ((hF z).1 hz)
theorem Fx.kept {G : Nat → Prop} (h : Fx N W fb F each L B) (k : Kept G W W') (hG : ∀ z, F z → ¬ G z) : Fx N W' fb F each L B := by
  obtain ⟨v, p, bs, a, hF⟩ := h.ex
  exact ⟨⟨v, p, bs, a.kept k (fun z hz => hG z ((hF z).2 hz)), hF⟩, h.ok, h.e0, h.e1⟩
theorem Fx.below (h : Fx N W fb F each L B) (k : Below W.heap.size W W') : Fx N W' fb F each L B := h.kept (Kept.of_below (F := fun _ => False) k) (fun _ _ f => f)
theorem Fx.to {v : Value} {bs : List Nat} {c : Int} {L' : List Bool} {B' : List Nat} (hF : ∀ z, F z ↔ ownF fb v bs z) (t : FxTo N W W' fb v bs each c L' B') (ok : Ok L' B') (hc : c = (L'.length : Int) - B'.length) (e0 : 1 ≤ each) (e1 : each ≤ 16384) :
    ∃ F', Fx N W' fb F' each L' B' ∧ To W W' F F' := by
  obtain ⟨v', p', bs', a, k, n⟩ := t
  rw [hc] at a
  refine ⟨ownF fb v' bs', ⟨⟨v', p', bs', a, fun _ => Iff.rfl⟩, ok, e0, e1⟩, k.mono (fun z hz => (hF z).2 hz), fun z hz => ?_⟩
  rcases n z hz with u | u
  · exact .inl ((hF z).2 u)
  · exact .inr u
theorem fx_take (h : Fx N W fb F each L B) (hN : N ≤ W.heap.size) (hL : L.length < 100000) :
    Calls Try.prog 14 #[.pointer (some ⟨fb, 0, none⟩)] W fun e W' => e = .returned (.int .i64 (takeI L B)) ∧ ∃ F', Fx N W' fb F' each (takeL L B) B.tail ∧ To W W' F F' := by
  obtain ⟨v, p, bs, a, hF⟩ := h.ex
  have le := h.ok.le
  have ok := h.ok
  cases B with
  | nil =>
    refine (take_new a hN hL (by omega) (by omega)).mono ?_
    rintro e W' ⟨rfl, t⟩
    exact ⟨rfl, Fx.to hF t ok.take (by simp [takeL]) h.e0 h.e1⟩
  | cons i B =>
    obtain ⟨b1, b2⟩ := ok.bound (i := i) (by simp)
    refine (take_old a b1 b2 (by omega) (by omega) (by omega)).mono ?_
    rintro e W' ⟨rfl, t⟩
    exact ⟨rfl, Fx.to hF t ok.take (by simp [takeL]; omega) h.e0 h.e1⟩
theorem fx_give (h : Fx N W fb F each L B) (hN : N ≤ W.heap.size) (hL : L.length ≤ 100000) (i : Int) (h0 : -9223372036854775808 ≤ i) :
    Calls Try.prog 16 #[.pointer (some ⟨fb, 0, none⟩), .int .i64 i] W fun e W' => e = .returned (.int .i64 (giveE L i)) ∧ ∃ F', Fx N W' fb F' each (giveL L i) (giveB L B i) ∧ To W W' F F' := by
  obtain ⟨v, p, bs, a, hF⟩ := h.ex
  have le := h.ok.le
  unfold giveE
  by_cases c : lv L i = true
  · have ll := lv_le c
    obtain ⟨k, rfl⟩ : ∃ k : Nat, i = k := ⟨i.toNat, by omega⟩
    have ok := h.ok.give k
    have ls := h.ok.less c
    rw [if_pos c]
    refine (give_ok a hN hL k c (by omega) (by omega)).mono ?_
    rintro e W' ⟨rfl, t⟩
    refine ⟨rfl, ?_⟩
    unfold giveL giveB at ok ⊢
    rw [if_pos c, if_pos c] at ok ⊢
    rw [Int.toNat_natCast] at ok ⊢
    exact Fx.to hF t ok (by simp; omega) h.e0 h.e1
  · rw [if_neg c]
    refine (give_no a hL i h0 (by simpa using c)).mono ?_
    rintro e W' ⟨rfl, rfl⟩
    refine ⟨rfl, F, ?_, Kept.refl _ _, fun z hz => .inl hz⟩
    unfold giveL giveB
    rw [if_neg c, if_neg c]
    exact h
theorem fx_live (h : Fx N W fb F each L B) (hL : L.length ≤ 100000) (i : Int) (h0 : -9223372036854775808 ≤ i) :
    Calls Try.prog 18 #[.pointer (some ⟨fb, 0, none⟩), .int .i64 i] W fun e W' => e = .returned (.bool (lv L i)) ∧ W' = W := by
  obtain ⟨v, p, bs, a, hF⟩ := h.ex
  exact live_any a hL i h0
theorem fx_count (h : Fx N W fb F each L B) : Calls Try.prog 20 #[.pointer (some ⟨fb, 0, none⟩)] W fun e W' => e = .returned (.int .i64 ((L.length : Int) - B.length)) ∧ W' = W := by
  obtain ⟨v, p, bs, a, hF⟩ := h.ex
  exact count_any a
theorem fx_bytes (h : Fx N W fb F each L B) (hL : L.length ≤ 100000) : Calls Try.prog 22 #[.pointer (some ⟨fb, 0, none⟩)] W fun e W' => e = .returned (.int .i64 (byV L.length each)) ∧ ∃ j, W' = W.drewN j := by
  obtain ⟨v, p, bs, a, hF⟩ := h.ex
  exact bytes_any a hL h.e0 h.e1
theorem fx_new (hN : N ≤ W.heap.size) (s : Int) (h1 : 1 ≤ s) (h2 : s ≤ 16384) :
    Calls Try.prog 7 #[.int .i64 s] W fun e W' => ∃ fb, e = .returned (.tuple #[.pointer (some ⟨fb, 0, none⟩), .int .i64 0]) ∧ Below W.heap.size W W' ∧ ∃ F, Fx N W' fb F (16384 / s) [] [] ∧ ∀ z, F z → W.heap.size ≤ z := by
  refine (new_ok s h1 h2 W).mono ?_
  rintro e W' ⟨rfl, rfl⟩
  refine ⟨W.heap.size, rfl, below_alloc _ _, ownF W.heap.size (.slice none 0 0) [], ⟨⟨_, _, _, FxAt.new hN _, fun _ => Iff.rfl⟩, Ok.nil, ?_, Int.ediv_le_self _ (by omega)⟩, fun z hz => ?_⟩
  · exact (Int.le_ediv_iff_mul_le (by omega)).2 (by omega)
  · rcases hz with hz | hz | hz
    · omega
    · simp [Value.ownBlock] at hz
    · cases hz
end
end Go.Proofs.Ytmpddppjkfflnaa
