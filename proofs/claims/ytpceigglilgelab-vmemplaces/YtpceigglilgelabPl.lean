/- Spaces in which chunks are laid out one by one, as plain data: what VmemPlaces asks. No program is spoken of. -/
import Derived.Test.YtpceigglilgelabSp
import Derived.Test.YtpceigglilgelabPg
namespace Go.Proofs.Sp

theorem pigeon (f : Nat → Nat) (hf : ∀ i j, f i = f j → i = j) : ∀ (n : Nat) (Q : List Nat), Q.length < n → ∃ k, k < n ∧ f k ∉ Q
  | 0, Q, h => by omega
  | n + 1, Q, h => by
    by_cases c : f n ∈ Q
    · obtain ⟨k, hk, hn⟩ := pigeon f hf n (Q.erase (f n)) (by rw [List.length_erase_of_mem c]; have := List.length_pos_of_mem c; omega)
      refine ⟨k, by omega, fun z => hn ?_⟩
      exact (List.mem_erase_of_ne (fun e => by have := hf _ _ e; omega)).2 z
    · exact ⟨n, by omega, c⟩
theorem cnt_same {f g : Nat → Nat} {a n k : Nat} (h : ∀ p, a ≤ p → p < a + n → f p = g p) : cntI f a n k = cntI g a n k := by
  unfold cntI
  exact List.countP_congr fun p hp => by
    have := List.mem_range'_1.1 hp
    rw [h p this.1 this.2]
/-- Chunks Q are laid out, of so many that were asked for; the places that the system will name yet. -/
structure PlAt (P : List Nat) (i : Nat) (Q : List Nat) (T : Sp) : Prop where
  len : Q.length = i
  pl : T.places = P.drop i
  re : T.refuse = []
  st : ∀ p, (T.st p = 1 ∧ ∃ q ∈ Q, q ≤ p ∧ p < q + 512) ∨ (T.st p = 0 ∧ ∀ q ∈ Q, ¬ (q ≤ p ∧ p < q + 512))
  al : ∀ q ∈ Q, q % 512 = 0 ∧ q ≠ 0 ∧ q + 512 ≤ 34359738368
  cnt : cntI T.st 0 34359738368 1 = 512 * i
theorem PlAt.start (P : List Nat) : PlAt P 0 [] (Sp.new P [] []) := by
  refine ⟨rfl, rfl, rfl, fun p => Or.inr ⟨rfl, fun q h => ?_⟩, fun q h => ?_, ?_⟩
  · cases h
  · cases h
  · exact cntI_all (f := fun _ => 0) (a := 0) (n := 34359738368) (k := 1) (s := 0) (fun _ _ _ => rfl)
theorem PlAt.free {P : List Nat} {i : Nat} {Q : List Nat} {T : Sp} (h : PlAt P i Q T) {x : Nat} (h1 : x % 512 = 0) (h2 : x ≠ 0) (h3 : x < 34359738368) : free T 512 x ↔ x ∉ Q := by
  constructor
  · rintro ⟨_, _, _, f4⟩ z
    have f := f4 0 (by omega)
    rw [Nat.add_zero] at f
    rcases h.st x with ⟨a, _⟩ | ⟨_, b⟩
    · omega
    · exact b x z ⟨Nat.le_refl _, by omega⟩
  · intro z
    refine ⟨h1, h2, by omega, fun j hj => ?_⟩
    rcases h.st (x + j) with ⟨_, q, hq, a, b⟩ | ⟨a, _⟩
    · have := (h.al q hq).1
      have e : q = x := by omega
      exact absurd (e ▸ hq) z
    · exact a
/-- One more is laid out. -/
theorem PlAt.next {P : List Nat} {i : Nat} {Q : List Nat} {T : Sp} (h : PlAt P i Q T) (hi : i < 20) (hint : Nat) :
    ∃ q T', reserveS T hint 512 = (q, 0, T') ∧ PlAt P (i + 1) (q :: Q) T' ∧ q % 512 = 0 ∧ q ≠ 0 ∧ q + 512 ≤ 34359738368 ∧ q ∉ Q ∧ T'.st q = 1 ∧ T'.st (q + 511) = 1 ∧ ∀ x, P[i]? = some x → x ≠ 0 → x % 512 = 0 → x < 34359738368 → x = q ∨ x ∈ Q := by
  have ex : firstFrom T 0 512 ≠ none := fun z => by
    obtain ⟨k, hk, hn⟩ := pigeon (fun k => 512 * (k + 1)) (fun a b e => by have e : 512 * (a + 1) = 512 * (b + 1) := e; omega) 21 Q (by rw [h.len]; omega)
    exact first_none z (by decide) _ (Nat.zero_le _) ((h.free (by omega) (by omega) (by omega)).2 hn)
  cases z : (asked T 512).or ((firstFrom T hint 512).or (firstFrom T 0 512)) with
  | none =>
    exfalso
    cases a : asked T 512 <;> cases b : firstFrom T hint 512 <;> cases c : firstFrom T 0 512 <;> rw [a, b, c] at z <;> simp at z
    exact ex c
  | some q =>
    have hf := or_free z
    obtain ⟨f1, f2, f3, f4⟩ := hf
    have nq : q ∉ Q := (h.free f1 f2 (by omega)).1 ⟨f1, f2, f3, f4⟩
    have hr : reserveS T hint 512 = (q, 0, lay (takePlace (takeRefuse T)) q 512) := by
      unfold reserveS
      rw [if_neg (by decide), h.re, if_neg (by simp), z]
    have st : ∀ p, (lay (takePlace (takeRefuse T)) q 512).st p = if q ≤ p ∧ p < q + 512 then 1 else T.st p := fun p => rfl
    refine ⟨q, _, hr, ⟨?_, ?_, ?_, fun p => ?_, fun x hx => ?_, ?_⟩, f1, f2, f3, nq, ?_, ?_, fun x hx x1 x2 x3 => ?_⟩
    · rw [List.length_cons, h.len]
    · show T.places.tail = _
      rw [h.pl, List.tail_drop]
    · show T.refuse.tail = []
      rw [h.re]; rfl
    · rw [st]
      by_cases c : q ≤ p ∧ p < q + 512
      · left; rw [if_pos c]; exact ⟨rfl, q, List.mem_cons_self, c⟩
      · rw [if_neg c]
        rcases h.st p with ⟨a, x, hx, b⟩ | ⟨a, b⟩
        · left; exact ⟨a, x, List.mem_cons_of_mem _ hx, b⟩
        · right
          refine ⟨a, fun x hx => ?_⟩
          rcases List.mem_cons.1 hx with e | e
          · rw [e]; exact c
          · exact b x e
    · rcases List.mem_cons.1 hx with e | e
      · rw [e]; exact ⟨f1, f2, f3⟩
      · exact h.al x e
    · have e0 : (lay (takePlace (takeRefuse T)) q 512).st = putSt T.st q (q + 512) 1 := rfl
      have e1 : cntI T.st q 512 1 = 0 := by
        rw [cntI_all (s := 0) (fun p p1 p2 => by have := f4 (p - q) (by omega); rwa [show q + (p - q) = p by omega] at this)]
        rfl
      have e2 : cntI (putSt T.st q (q + 512) 1) 0 34359738368 1 + cntI T.st q 512 1 = cntI T.st 0 34359738368 1 + 512 := by
        obtain ⟨t, ht⟩ : ∃ t, 34359738368 = q + 512 + t := ⟨34359738368 - (q + 512), by omega⟩
        rw [ht, cntI_add, cntI_add, cntI_add T.st 0 (q + 512), cntI_add T.st 0 q]
        have a1 : cntI (putSt T.st q (q + 512) 1) 0 q 1 = cntI T.st 0 q 1 := cnt_same fun p p1 p2 => by unfold putSt; rw [if_neg (by omega)]
        have a2 : cntI (putSt T.st q (q + 512) 1) (0 + q) 512 1 = 512 := by
          rw [cntI_all (s := 1) (fun p p1 p2 => by unfold putSt; rw [if_pos (by omega)])]; rfl
        have a3 : cntI (putSt T.st q (q + 512) 1) (0 + (q + 512)) t 1 = cntI T.st (0 + (q + 512)) t 1 := cnt_same fun p p1 p2 => by unfold putSt; rw [if_neg (by omega)]
        rw [a1, a2, a3]
        simp only [Nat.zero_add]
        omega
      rw [e0]
      have := h.cnt
      omega
    · rw [st, if_pos (by omega)]
    · rw [st, if_pos (by omega)]
    · by_cases c : x ∈ Q
      · exact Or.inr c
      · left
        have hfx := (h.free x2 x1 x3).2 c
        have ha : asked T 512 = some x := by
          unfold asked
          rw [h.pl, List.head?_drop, hx]
          simp only [Option.bind_some]
          rw [if_pos hfx]
        rw [ha] at z
        simpa using z
end Go.Proofs.Sp
