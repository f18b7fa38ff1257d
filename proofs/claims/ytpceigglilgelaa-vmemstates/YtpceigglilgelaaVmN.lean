/- What the system will still answer: the next of a list. -/
import Derived.Test.YtpceigglilgelaaVmA
namespace Go.Proofs.Ytpceigglilgelaa
open Go.ChangeShapes Go.WideShapes Go.ChangeAt Go.RowKit Go.Proofs.Sp

/-- A slice in block g (or nil) reads as xs. -/
def SlB (w : World) (v : Value) (xs : List Value) (g : Nat) : Prop :=
  (v = .slice none 0 0 ∧ xs = []) ∨ ∃ off cap, v = .slice (some ⟨g, off, none⟩) xs.length cap ∧ xs.length ≤ cap ∧ cap ≤ 9223372036854775807 ∧ g < w.heap.size ∧ ∀ j u, xs[j]? = some u → w.cell? ⟨g, off + j, none⟩ = some u
theorem SlB.kept {w w' : World} {v : Value} {xs : List Value} {g : Nat} (h : SlB w v xs g) (hs : w.heap.size ≤ w'.heap.size) (hg : g < w.heap.size → w'.heap[g]? = w.heap[g]?) : SlB w' v xs g := by
  rcases h with h | ⟨off, cap, h1, h2, h3, h4, h5⟩
  · exact Or.inl h
  · exact Or.inr ⟨off, cap, h1, h2, h3, by omega, fun j u hu => by rw [World.cell?_of_block (hg h4)]; exact h5 j u hu⟩

theorem next_bool (b k g : Nat) (v : Value) (l : List Bool) (w : World) (hc : w.cell? ⟨b, k, none⟩ = some v) (hf : w.frozen? ⟨b, k, none⟩ = false) (hs : SlB w v (bools l) g) :
    Calls Try.prog 55 #[.pointer (some ⟨b, k, none⟩)] w fun e w' => e = .returned (.tuple #[.bool (l.head?.getD false), .bool (!l.isEmpty)]) ∧ ((l = [] ∧ w' = w) ∨ ∃ v', w' = w.setCell ⟨b, k, none⟩ v' ∧ SlB w v' (bools l.tail) g) := by
  rcases hs with ⟨rfl, h0⟩ | ⟨off, cap, rfl, h1, h2, h3, h4⟩
  · have hl : l = [] := by simpa [bools] using h0
    subst hl
    go_enter Try.func55, Try.ntmps55
    go_wp2_with fail
    go_ret2
    exact ⟨rfl, Or.inl ⟨trivial, rfl⟩⟩
  · cases l with
    | nil =>
      have e0 : (bools []).length = 0 := rfl
      rw [e0] at hc
      go_enter Try.func55, Try.ntmps55
      go_wp2_with fail
      go_ret2
      exact ⟨rfl, Or.inl ⟨trivial, rfl⟩⟩
    | cons x r =>
      have e0 : (bools (x :: r)).length = r.length + 1 := by simp [bools]
      have c0 := h4 0 (.bool x) (by simp [bools])
      rw [Nat.add_zero] at c0
      have htl : ∀ j u, (bools r)[j]? = some u → w.cell? ⟨g, off + 1 + j, none⟩ = some u := fun j u hu => by
        have := h4 (j + 1) u (by simpa [bools] using hu)
        rwa [show off + (j + 1) = off + 1 + j by omega] at this
      have HT := hide htl
      have er : (bools r).length = r.length := by simp [bools]
      have ER := hide er
      rw [e0] at hc h1
      obtain ⟨n, hn⟩ : ∃ n, r.length = n := ⟨_, rfl⟩
      rw [hn] at hc h1 ER
      clear h4 htl e0 er hn
      have b0 : (((n : Int) + 1) == 0) = false := beq_eq_false_iff_ne.2 (by omega)
      have d1 : (1 : Int) ≤ (n : Int) + 1 := by omega
      by_cases c1 : cap = 1
      · subst c1
        obtain rfl : n = 0 := by omega
        go_enter Try.func55, Try.ntmps55
        go_wp2_with fail
        go_ret2
        have hr : r = [] := List.eq_nil_of_length_eq_zero (by have := ER.out; simpa [bools] using this)
        subst hr
        exact ⟨rfl, Or.inr ⟨_, rfl, Or.inr ⟨off, 0, rfl, Nat.le_refl _, by omega, h3, fun j u hu => by simp [bools] at hu⟩⟩⟩
      · go_enter Try.func55, Try.ntmps55
        go_wp2_with fail
        go_ret2
        refine ⟨rfl, Or.inr ⟨_, rfl, Or.inr ⟨off + 1, cap - 1, ?_, ?_, by omega, h3, HT.out⟩⟩⟩
        · show _ = Value.slice (some ⟨g, off + 1, none⟩) (bools r).length (cap - 1)
          rw [ER.out]
        · show (bools r).length ≤ cap - 1
          rw [ER.out]; omega

theorem next_u64 (b k g : Nat) (v : Value) (l : List Nat) (w : World) (hc : w.cell? ⟨b, k, none⟩ = some v) (hf : w.frozen? ⟨b, k, none⟩ = false) (hs : SlB w v (u64s l) g) :
    Calls Try.prog 56 #[.pointer (some ⟨b, k, none⟩)] w fun e w' => e = .returned (.tuple #[.int .u64 (l.head?.getD 0 : Nat), .bool (!l.isEmpty)]) ∧ ((l = [] ∧ w' = w) ∨ ∃ v', w' = w.setCell ⟨b, k, none⟩ v' ∧ SlB w v' (u64s l.tail) g) := by
  rcases hs with ⟨rfl, h0⟩ | ⟨off, cap, rfl, h1, h2, h3, h4⟩
  · have hl : l = [] := by simpa [u64s] using h0
    subst hl
    go_enter Try.func56, Try.ntmps56
    go_wp2_with fail
    go_ret2
    exact ⟨rfl, Or.inl ⟨trivial, rfl⟩⟩
  · cases l with
    | nil =>
      have e0 : (u64s []).length = 0 := rfl
      rw [e0] at hc
      go_enter Try.func56, Try.ntmps56
      go_wp2_with fail
      go_ret2
      exact ⟨rfl, Or.inl ⟨trivial, rfl⟩⟩
    | cons x r =>
      have e0 : (u64s (x :: r)).length = r.length + 1 := by simp [u64s]
      have c0 := h4 0 (.int .u64 (x : Int)) (by simp [u64s])
      rw [Nat.add_zero] at c0
      have htl : ∀ j u, (u64s r)[j]? = some u → w.cell? ⟨g, off + 1 + j, none⟩ = some u := fun j u hu => by
        have := h4 (j + 1) u (by simpa [u64s] using hu)
        rwa [show off + (j + 1) = off + 1 + j by omega] at this
      have HT := hide htl
      have er : (u64s r).length = r.length := by simp [u64s]
      have ER := hide er
      rw [e0] at hc h1
      obtain ⟨n, hn⟩ : ∃ n, r.length = n := ⟨_, rfl⟩
      rw [hn] at hc h1 ER
      clear h4 htl e0 er hn
      have b0 : (((n : Int) + 1) == 0) = false := beq_eq_false_iff_ne.2 (by omega)
      have d1 : (1 : Int) ≤ (n : Int) + 1 := by omega
      by_cases c1 : cap = 1
      · subst c1
        obtain rfl : n = 0 := by omega
        go_enter Try.func56, Try.ntmps56
        go_wp2_with fail
        go_ret2
        have hr : r = [] := List.eq_nil_of_length_eq_zero (by have := ER.out; simpa [u64s] using this)
        subst hr
        exact ⟨rfl, Or.inr ⟨_, rfl, Or.inr ⟨off, 0, rfl, Nat.le_refl _, by omega, h3, fun j u hu => by simp [u64s] at hu⟩⟩⟩
      · go_enter Try.func56, Try.ntmps56
        go_wp2_with fail
        go_ret2
        refine ⟨rfl, Or.inr ⟨_, rfl, Or.inr ⟨off + 1, cap - 1, ?_, ?_, by omega, h3, HT.out⟩⟩⟩
        · show _ = Value.slice (some ⟨g, off + 1, none⟩) (u64s r).length (cap - 1)
          rw [ER.out]
        · show (u64s r).length ≤ cap - 1
          rw [ER.out]; omega

theorem refused_core (b g : Nat) (v : Value) (l : List Bool) (w : World) (hc : w.cell? ⟨b, 1, none⟩ = some v) (hf : w.frozen? ⟨b, 1, none⟩ = false) (hs : SlB w v (bools l) g) :
    Calls Try.prog 28 #[.pointer (some ⟨b, 0, none⟩)] w fun e w' => e = .returned (.bool (l.head?.getD false)) ∧ ((l = [] ∧ w' = w) ∨ ∃ v', w' = w.setCell ⟨b, 1, none⟩ v' ∧ SlB w v' (bools l.tail) g) := by
  have hs' := hide hs
  clear hs
  go_enter Try.func28, Try.ntmps28
  go_wp2_with fail
  refine (next_bool b 1 g v l w hc hf hs'.out).mono ?_
  rintro e w1 ⟨rfl, h1⟩
  have H1 := hide h1
  clear h1 hs'
  go_wp2_with fail
  go_ret
  exact ⟨rfl, H1.out⟩
theorem right_core (p n : Int) (hp : 0 ≤ p) (hn : 0 ≤ n) (hp' : p < 18446744073709551616) (w : World) : Calls Try.prog 31 #[.int .u64 p, .int .u64 n] w fun e w' => e = .returned (.bool (decide (right p.toNat n.toNat))) ∧ w' = w := by
  by_cases h : right p.toNat n.toNat
  · have e1 : decide (right p.toNat n.toNat) = true := decide_eq_true h
    rw [e1]
    unfold right at h
    have a1 : (n != 0) = true := by rw [bne_iff_ne]; omega
    have a2 : p < 34359738368 := by omega
    have a3 : n ≤ 34359738368 - p := by omega
    clear h e1
    go_enter Try.func31, Try.ntmps31
    go_wp2_with fail
    go_ret
    exact ⟨rfl, rfl⟩
  · have e1 : decide (right p.toNat n.toNat) = false := decide_eq_false h
    rw [e1]
    unfold right at h
    by_cases a0 : n = 0
    · have a1 : (n != 0) = false := by rw [a0]; rfl
      clear h e1
      subst a0
      go_enter Try.func31, Try.ntmps31
      go_wp2_with fail
      go_ret
      exact ⟨rfl, rfl⟩
    · have a1 : (n != 0) = true := by rw [bne_iff_ne]; omega
      by_cases a2 : p < 34359738368
      · have a3 : ¬ n ≤ 34359738368 - p := by omega
        clear h e1 a0
        go_enter Try.func31, Try.ntmps31
        go_wp2_with fail
        go_ret
        exact ⟨rfl, rfl⟩
      · clear h e1 a0
        have a2' : decide (p < 34359738368) = false := by simpa using a2
        go_enter Try.func31, Try.ntmps31
        go_wp2_with fail
        go_ret
        exact ⟨rfl, rfl⟩
theorem split_core (a : Int) (ha : 0 ≤ a) (ha2 : a < 18446744073709551616) (w : World) : Calls Try.prog 67 #[.int .u64 a] w fun e w' => e = .returned (.tuple #[.int .u64 (a / 8192), .int .u64 (a % 8192 / 8)]) ∧ w' = w := by
  go_enter Try.func67, Try.ntmps67
  go_wp2_with fail
  go_ret2
  exact ⟨rfl, rfl⟩
theorem chunkUp_core (a : Int) (ha : 0 ≤ a) (ha' : a ≤ 34359738368) (w : World) : Calls Try.prog 79 #[.int .u64 a] w fun e w' => e = .returned (.int .u64 ((a + 511) / 512 * 512)) ∧ w' = w := by
  go_enter Try.func79, Try.ntmps79
  go_wp2_with fail
  go_ret
  exact ⟨ret_int (by omega), rfl⟩
end Go.Proofs.Ytpceigglilgelaa
