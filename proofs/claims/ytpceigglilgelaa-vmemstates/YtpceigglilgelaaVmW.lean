/- The landed package's words: how they lie; load. -/
import Derived.Test.YtpceigglilgelaaMp
import Derived.Test.YtpceigglilgelaaVmN
namespace Go.Proofs.Ytpceigglilgelaa
open Go.ChangeShapes Go.WideShapes Go.ChangeAt Go.RowKit Go.Proofs.Sp Go.Maps

/-- An array of words in block a. -/
def ArrAt (w : World) (a : Nat) (f : Nat → Nat) : Prop := ∃ arr : List Value, w.heap[a]? = some (.cells arr.toArray 118 (0, 0)) ∧ arr.length = 1024 ∧ ∀ k, k < 1024 → arr[k]? = some (.int .u64 (f k : Int))
theorem ArrAt.cell {w : World} {a : Nat} {f : Nat → Nat} (h : ArrAt w a f) (k : Nat) (hk : k < 1024) : w.cell? ⟨a, k, none⟩ = some (.int .u64 (f k : Int)) := by
  obtain ⟨arr, h1, h2, h3⟩ := h
  rw [cell_of_row w a k arr.toArray _ (0, 0) h1]
  simpa using h3 k hk
theorem ArrAt.fz {w : World} {a : Nat} {f : Nat → Nat} (h : ArrAt w a f) (k : Nat) : w.frozen? ⟨a, k, none⟩ = false := by
  obtain ⟨arr, h1, _⟩ := h
  simp [World.frozen?, h1]
/-- How the words lie: two maps, at ⟨b, 8⟩ and ⟨b, 9⟩, and arrays. -/
structure WordsM (w : World) (b bp bf n : Nat) (MP MF : Nat → Nat) (A : Nat → Nat → Nat) : Prop where
  c8 : w.cell? ⟨b, 8, none⟩ = some (.map (some bp))
  c9 : w.cell? ⟨b, 9, none⟩ = some (.map (some bf))
  mp : MapIs w ptrElem bp n MP
  mf : MapIs w numElem bf n MF
  arr : ∀ p, MP p ≠ 0 → ArrAt w (MP p - 1) (A p)
  one : ∀ p q, MP p ≠ 0 → MP p = MP q → p = q
  sep : ∀ p, MP p ≠ 0 → MP p - 1 ≠ b ∧ MP p - 1 ≠ bp ∧ MP p - 1 ≠ bf
  ne : bp ≠ b ∧ bf ≠ b ∧ bp ≠ bf
def wordAt (MP MF : Nat → Nat) (A : Nat → Nat → Nat) (p k : Nat) : Nat := if MP p = 0 then MF p else A p k

set_option maxHeartbeats 1000000 in
theorem wload_core (b bp bf n : Nat) (MP MF : Nat → Nat) (A : Nat → Nat → Nat) (w : World) (h : WordsM w b bp bf n MP MF A) (a : Int) (ha : 0 ≤ a) (ha' : a < 18446744073709551616) :
    Calls Try.prog 39 #[.pointer (some ⟨b, 8, none⟩), .int .u64 a] w fun e w' => e = .returned (.int .u64 (wordAt MP MF A (a.toNat / 8192) (a.toNat % 8192 / 8) : Nat)) ∧ w' = w := by
  have c8 := h.c8
  have c9 := h.c9
  obtain ⟨p, hpe⟩ : ∃ p : Nat, p = a.toNat / 8192 := ⟨_, rfl⟩
  obtain ⟨k, hke⟩ : ∃ k : Nat, k = a.toNat % 8192 / 8 := ⟨_, rfl⟩
  have hp1 : (a / 8192 : Int) = (p : Int) := by omega
  have hk1 : (a % 8192 / 8 : Int) = (k : Int) := by omega
  have hk2 : k < 1024 := by omega
  have hpl : p < 18446744073709551616 := by omega
  rw [← hpe, ← hke]
  obtain ⟨v, hrun, hv⟩ := look_ptr h.mp p hpl
  have hnum := look_num h.mf p hpl
  have HP := hide hp1
  have HK := hide hk1
  rcases hv with ⟨hz, rfl⟩ | ⟨x, hx, rfl⟩
  · have fin : Hid (wordAt MP MF A p k = MF p) := by
      have : wordAt MP MF A p k = MF p := by unfold wordAt; rw [if_pos hz]
      exact this
    clear h hpe hke hp1 hk1 hz
    go_enter Try.func39, Try.ntmps39
    go_wp2_with (go_at_call 67; refine (split_core a ha ha' _).mono ?_; rintro e w' ⟨rfl, rfl⟩; rw [HP.out, HK.out])
    go_ret
    exact ⟨by rw [fin.out]; rfl, rfl⟩
  · have ar := h.arr p (by omega)
    rw [hx, Nat.add_sub_cancel] at ar
    have hc := ar.cell k hk2
    have fin : Hid (wordAt MP MF A p k = A p k) := by
      have : wordAt MP MF A p k = A p k := by unfold wordAt; rw [if_neg (by omega)]
      exact this
    have hk3 : (k : Int) < 1024 := by omega
    obtain ⟨y, hy⟩ : ∃ y, y = A p k := ⟨_, rfl⟩
    rw [← hy] at hc fin
    clear h hpe hke hp1 hk1 hx ar hy
    go_enter Try.func39, Try.ntmps39
    go_wp2_with (go_at_call 67; refine (split_core a ha ha' _).mono ?_; rintro e w' ⟨rfl, rfl⟩; rw [HP.out, HK.out])
    go_ret
    exact ⟨by rw [fin.out]; rfl, rfl⟩
end Go.Proofs.Ytpceigglilgelaa
