/- Small facts about slices that a walk makes or reads. -/
import Derived.Test.YtpceigglilgelaaFace
namespace Go.Proofs.Ytpceigglilgelaa
open Go.ChangeShapes Go.WideShapes Go.ChangeAt Go.RowKit Go.Proofs.Sp

theorem Sl.nil (w : World) : Sl w (.slice none 0 0) [] := Or.inl ⟨rfl, rfl⟩
theorem Sl.alloc (w : World) (c : Array Value) (t : TypeId) (xs : List Value) (n : Nat) (h : c.toList = xs) (hn : xs.length = n) : Sl (w.alloc (.cells c t)) (.slice (some ⟨w.heap.size, 0, none⟩) n n) xs := by
  refine Or.inr ⟨w.heap.size, 0, n, by rw [hn], by omega, by simp, fun j u hu => ?_⟩
  rw [← h] at hu
  rw [Nat.zero_add, World.cell?_alloc_new]
  simpa using hu
theorem wrap_nat (f k : Nat) : IntKind.u64.wrap ((f : Int) + (k : Int)) = (((f + k) % 18446744073709551616 : Nat) : Int) := by
  have e : IntKind.u64.wrap ((f : Int) + (k : Int)) = ((f : Int) + (k : Int)) % 18446744073709551616 := rfl
  rw [e]; omega
theorem infoU : (Try.prog.info? 23).map (fun i => (i.zero, i.size, i.bytes)) = some (some (.int .u64 0), 1, 8) := by kernel_rfl
theorem own_empty (w : World) (e : TypeId) (size : Nat) : (w.alloc (.cells #[] e)).ownsRow w.heap.size e size (.slice (some ⟨w.heap.size, 0, none⟩) 0 0) 0 [] :=
  ⟨by simp, Or.inr ⟨w.heap.size, 0, #[], rfl, Nat.le_refl _, by show (w.heap.push _)[w.heap.size]? = _; simp, Nat.le_refl _, Nat.zero_le _, by simp, by simp⟩⟩
theorem Sl.of_owns {w : World} {base : Nat} {e : TypeId} {v : Value} {n : Nat} {xs : List Value} (h : w.ownsRow base e 1 v n xs) : Sl w v xs := by
  obtain ⟨hl, h | ⟨g, cap, cur, hv, hg, hh, hc, hm, hs, ht⟩⟩ := h
  · left
    refine ⟨h.1, ?_⟩
    rw [h.2] at hl
    exact List.eq_nil_of_length_eq_zero (by omega)
  · right
    have hn : xs.length = n := by omega
    refine ⟨g, 0, cap, by rw [hn]; exact hv, by omega, ?_, fun j u hu => ?_⟩
    · by_cases c : g < w.heap.size
      · exact c
      · rw [Array.getElem?_eq_none (by omega)] at hh; simp at hh
    · rw [← ht] at hu
      have hj : cur.toList[j]? = some u := by
        rw [List.getElem?_take] at hu
        split at hu
        · exact hu
        · simp at hu
      rw [Nat.zero_add]
      unfold World.cell?
      simp only [hh]
      simpa using hj
theorem own_shape {w : World} {base : Nat} {e : TypeId} {size : Nat} {v : Value} {n : Nat} {xs : List Value} (h : w.ownsRow base e size v n xs) (hv : v ≠ .slice none 0 0) : ∃ g cap, v = .slice (some ⟨g, 0, none⟩) n cap := by
  obtain ⟨_, h | ⟨g, cap, _, h, _⟩⟩ := h
  · exact absurd h.1 hv
  · exact ⟨g, cap, h⟩
theorem u64s_get (X : Nat → Nat) (len j : Nat) (u : Value) (h : (u64s ((List.range len).map X))[j]? = some u) : j < len ∧ u = .int .u64 (X j : Int) := by
  unfold u64s at h
  by_cases hj : j < len
  · refine ⟨hj, ?_⟩
    simp [hj] at h
    exact h.symm
  · simp [hj] at h
theorem u64s_one (l : List Nat) : ∀ u ∈ u64s l, u.oneCell' = true := by
  intro u hu
  unfold u64s at hu
  obtain ⟨x, _, rfl⟩ := List.mem_map.1 hu
  rfl


theorem addr_add0 (b o j : Nat) : (⟨b, o, none⟩ : Addr).add j = ⟨b, o + j, none⟩ := by
  simp [Addr.add]

end Go.Proofs.Ytpceigglilgelaa
