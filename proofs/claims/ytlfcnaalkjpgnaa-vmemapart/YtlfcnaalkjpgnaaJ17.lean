/- J17 of the proof of both laws: texts RefA, SpB, RefB, one behind the other. -/
import Derived.Test.YtlfcnaalkjpgnaaJ01
/- The reference of chapter 3: how a space lies in memory, and its two searches. -/
namespace Go.Proofs.Ytlfcnaalkjpgnaa
open Go.ChangeShapes Go.WideShapes Go.ChangeAt Go.RowKit Go.Proofs.Sp

theorem drewN2 (w : World) (a b : Nat) : (w.drewN a).drewN b = w.drewN (a + b) := by
  unfold World.drewN; simp [Nat.add_assoc]

/-- How many of a list lie below x. -/
def pos (l : List Nat) (x : Nat) : Nat := l.countP (· < x)
theorem pos_at (l : List Nat) (x k : Nat) (hk : k ≤ l.length) (h1 : ∀ i (h : i < l.length), i < k → l[i] < x) (h2 : ∀ i (h : i < l.length), k ≤ i → x ≤ l[i]) : pos l x = k := by
  unfold pos
  have e : l = l.take k ++ l.drop k := (List.take_append_drop k l).symm
  rw [e, List.countP_append]
  have a : (l.take k).countP (fun y => decide (y < x)) = (l.take k).length := by
    rw [List.countP_eq_length]
    intro y hy
    obtain ⟨i, hi, rfl⟩ := List.getElem_of_mem hy
    have hi' : i < k ∧ i < l.length := by rw [List.length_take] at hi; omega
    rw [List.getElem_take]
    exact decide_eq_true (h1 i hi'.2 hi'.1)
  have b : (l.drop k).countP (fun y => decide (y < x)) = 0 := by
    rw [List.countP_eq_zero]
    intro y hy
    obtain ⟨i, hi, rfl⟩ := List.getElem_of_mem hy
    rw [List.getElem_drop]
    have := h2 (k + i) (by rw [List.length_drop] at hi; omega) (by omega)
    simp; omega
  rw [a, b, List.length_take]; omega
theorem found_at (l : List Nat) (x k : Nat) (hk : k ≤ l.length) (h1 : ∀ i (h : i < l.length), i < k → l[i] < x) (h2 : ∀ i (h : i < l.length), k ≤ i → x ≤ l[i]) (hs : l.Pairwise (· < ·)) :
    (if h : k < l.length then decide (l[k] = x) else false) = decide (x ∈ l) := by
  by_cases h : k < l.length
  · rw [dif_pos h, decide_eq_decide]
    constructor
    · intro e; rw [← e]; exact List.getElem_mem h
    · intro e
      obtain ⟨i, hi, e⟩ := List.getElem_of_mem e
      have a : k ≤ i := by
        by_cases c : i < k
        · have := h1 i hi c; omega
        · omega
      by_cases c : i = k
      · subst c; exact e
      · have := List.pairwise_iff_getElem.1 hs k i h hi (by omega)
        have := h2 k h (Nat.le_refl _)
        omega
  · rw [dif_neg h]
    symm
    rw [decide_eq_false_iff_not]
    intro e
    obtain ⟨i, hi, e⟩ := List.getElem_of_mem e
    have := h1 i hi (by omega)
    omega
theorem pos_le (l : List Nat) (x : Nat) : pos l x ≤ l.length := List.countP_le_length
/-- In a rising list: what stands ahead of the place, and from it on. -/
theorem pos_lt {l : List Nat} (hs : l.Pairwise (· < ·)) (x i : Nat) (h : i < l.length) : i < pos l x ↔ l[i] < x := by
  -- the place is the first that is not below x
  have hex : ∃ k, k ≤ l.length ∧ (∀ i (h : i < l.length), i < k → l[i] < x) ∧ ∀ i (h : i < l.length), k ≤ i → x ≤ l[i] := by
    clear h
    induction l with
    | nil => exact ⟨0, Nat.le_refl _, fun i h => absurd h (by simp), fun i h => absurd h (by simp)⟩
    | cons a l ih =>
      have hs' := List.pairwise_cons.1 hs
      by_cases c : a < x
      · obtain ⟨k, k1, k2, k3⟩ := ih hs'.2
        refine ⟨k + 1, by simp; omega, fun i h hi => ?_, fun i h hi => ?_⟩
        · cases i with
          | zero => exact c
          | succ i => exact k2 i (by simpa using h) (by omega)
        · cases i with
          | zero => omega
          | succ i => exact k3 i (by simpa using h) (by omega)
      · refine ⟨0, Nat.zero_le _, fun i h hi => absurd hi (by omega), fun i h hi => ?_⟩
        cases i with
        | zero => show x ≤ a; omega
        | succ i =>
          have hi' : i < l.length := by simpa using h
          have := hs'.1 l[i] (List.getElem_mem hi')
          show x ≤ l[i]
          omega
  obtain ⟨k, k1, k2, k3⟩ := hex
  rw [pos_at l x k k1 k2 k3]
  constructor
  · exact k2 i h
  · intro hx
    by_cases c : i < k
    · exact c
    · have := k3 i h (by omega)
      omega

/-- The search for a page, by what the cells hold. -/
theorem find_core (p : Nat) (o : Option Addr) (l : List Nat) (cap : Nat) (x : Int) (hx : 0 ≤ x) (w : World) (hn : l.length ≤ 1099511627776)
    (hp : w.cell? ⟨p, 3, none⟩ = some (.slice o l.length cap))
    (hN : 0 < l.length → ∃ b off, o = some ⟨b, off, none⟩ ∧ ∀ i (h : i < l.length), w.cell? ⟨b, off + i * 3, none⟩ = some (.int .u64 (l[i] : Int)))
    (hs : l.Pairwise (· < ·)) :
    Calls Try.prog 39 #[.pointer (some ⟨p, 0, none⟩), .int .u64 x] w fun e w' => e = .returned (.tuple #[.int .i64 (pos l x.toNat : Nat), .bool (decide (x.toNat ∈ l))]) ∧ ∃ k, w' = w.drewN k := by
  have fin : ∀ (k : Nat) (v : Bool), k ≤ l.length → (∀ i (h : i < l.length), i < k → (l[i] : Int) < x) → (∀ i (h : i < l.length), k ≤ i → x ≤ (l[i] : Int)) → (v = if h : k < l.length then decide (l[k] = x.toNat) else false) →
      Ending.returned (.tuple #[.int .i64 (k : Int), .bool v]) = .returned (.tuple #[.int .i64 (pos l x.toNat : Nat), .bool (decide (x.toNat ∈ l))]) := by
    intro k v h1 h2 h3 hv
    have a := pos_at l x.toNat k h1 (fun i h hi => by have := h2 i h hi; omega) (fun i h hi => by have := h3 i h hi; omega)
    have b := found_at l x.toNat k h1 (fun i h hi => by have := h2 i h hi; omega) (fun i h hi => by have := h3 i h hi; omega) hs
    rw [a, hv, b]
  have Fin : Hid _ := fin
  clear fin
  have hs' := List.pairwise_iff_getElem.1 hs
  have HS : Hid _ := hs'
  clear hs hs'
  obtain ⟨n, hln⟩ : ∃ n, n = l.length := ⟨_, rfl⟩
  by_cases h0 : 0 < l.length
  · obtain ⟨b, off, rfl, hNN⟩ := hN h0
    have HN : Hid _ := hNN
    clear hN hNN
    go_enter Try.func39, Try.ntmps39
    go_wp2
    go_quiet (fail)
    go_wp2
    go_loop [6, 7] (fun lo hi => ∃ a c : Nat, a ≤ c ∧ c ≤ l.length ∧ lo = .int .i64 a ∧ hi = .int .i64 c ∧ Hid ((∀ i (h : i < l.length), i < a → (l[i] : Int) < x) ∧ (∀ i (h : i < l.length), c ≤ i → x ≤ (l[i] : Int)))) (fun lo hi => (intOf hi - intOf lo).toNat)
    case atStart => exact ⟨0, l.length, by omega, by omega, rfl, rfl, fun i h hi => absurd hi (by omega), fun i h hi => absurd h (by omega)⟩
    case round =>
      obtain ⟨a, c, hac, hcn, rfl, rfl, hrs⟩ := hrel
      by_cases hlt : a < c
      · have hm : (a + c) / 2 < l.length := by omega
        have hc := HN.out ((a + c) / 2) hm
        obtain ⟨y, hy⟩ : ∃ y, y = l[(a + c) / 2] := ⟨_, rfl⟩
        rw [← hy] at hc
        have HY : Hid _ := hy
        clear hy
        by_cases ht : (y : Int) < x
        · go_wp2
          go_roundw
          case rel => exact ⟨(a + c) / 2 + 1, c, by omega, hcn, by go_num, rfl, fun i h hi => by
            by_cases e : i = (a + c) / 2
            · subst e; rw [← HY.out]; exact ht
            · have := HS.out i ((a + c) / 2) h hm (by omega)
              have := HY.out
              omega, hrs.out.2⟩
          case measure => simp [intOf]; omega
        · go_wp2
          go_roundw
          case rel => exact ⟨a, (a + c) / 2, by omega, by omega, rfl, by go_num, hrs.out.1, fun i h hi => by
            by_cases e : i = (a + c) / 2
            · subst e; rw [← HY.out]; omega
            · have := HS.out ((a + c) / 2) i hm h (by omega)
              have := HY.out
              omega⟩
          case measure => simp [intOf]; omega
      · have e : c = a := by omega
        subst e
        by_cases hcn' : c < l.length
        · have hd : decide ((c : Int) < (l.length : Int)) = true := by simp; exact hcn'
          have hc := HN.out c hcn'
          obtain ⟨y, hy⟩ : ∃ y, y = l[c] := ⟨_, rfl⟩
          rw [← hy] at hc
          have HY : Hid _ := hy
          clear hy
          go_wp2
          go_quiet (fail)
          go_wp2
          go_ret2
          refine ⟨Fin.out c _ hcn hrs.out.1 hrs.out.2 ?_, _, drewN2 _ _ _⟩
          rw [dif_pos hcn', ← HY.out]
          rw [Bool.eq_iff_iff]; simp; omega
        · have hd : decide ((c : Int) < (l.length : Int)) = false := by simp; omega
          go_wp2
          go_quiet (fail)
          go_wp2
          go_ret2
          refine ⟨Fin.out c _ hcn hrs.out.1 hrs.out.2 ?_, _, drewN2 _ _ _⟩
          rw [dif_neg hcn']
  · have hl0 : l.length = 0 := by omega
    rw [hl0] at hp
    have F0 : Hid _ := Fin.out 0 false (by omega) (fun i h hi => absurd hi (by omega)) (fun i h hi => absurd h (by omega)) (by rw [dif_neg (by omega)])
    clear hN Fin HS hn hln h0 hl0
    go_enter Try.func39, Try.ntmps39
    go_wp2
    go_quiet (fail)
    go_wp2
    go_loop [6, 7] (fun lo hi => lo = .int .i64 0 ∧ hi = .int .i64 0) (fun _ _ => 0)
    case atStart => exact ⟨rfl, rfl⟩
    case round =>
      obtain ⟨rfl, rfl⟩ := hrel
      go_wp2
      go_quiet (fail)
      go_wp2
      go_ret2
      exact ⟨F0.out, _, drewN2 _ _ _⟩
/-- The search for a word, by what the cells hold. -/
theorem word_core (p : Nat) (o : Option Addr) (l : List Nat) (cap : Nat) (x : Int) (hx : 0 ≤ x) (w : World) (hn : l.length ≤ 1099511627776)
    (hp : w.cell? ⟨p, 4, none⟩ = some (.slice o l.length cap))
    (hN : 0 < l.length → ∃ b off, o = some ⟨b, off, none⟩ ∧ ∀ i (h : i < l.length), w.cell? ⟨b, off + i * 2, none⟩ = some (.int .u64 (l[i] : Int)))
    (hs : l.Pairwise (· < ·)) :
    Calls Try.prog 51 #[.pointer (some ⟨p, 0, none⟩), .int .u64 x] w fun e w' => e = .returned (.tuple #[.int .i64 (pos l x.toNat : Nat), .bool (decide (x.toNat ∈ l))]) ∧ ∃ k, w' = w.drewN k := by
  have fin : ∀ (k : Nat) (v : Bool), k ≤ l.length → (∀ i (h : i < l.length), i < k → (l[i] : Int) < x) → (∀ i (h : i < l.length), k ≤ i → x ≤ (l[i] : Int)) → (v = if h : k < l.length then decide (l[k] = x.toNat) else false) →
      Ending.returned (.tuple #[.int .i64 (k : Int), .bool v]) = .returned (.tuple #[.int .i64 (pos l x.toNat : Nat), .bool (decide (x.toNat ∈ l))]) := by
    intro k v h1 h2 h3 hv
    have a := pos_at l x.toNat k h1 (fun i h hi => by have := h2 i h hi; omega) (fun i h hi => by have := h3 i h hi; omega)
    have b := found_at l x.toNat k h1 (fun i h hi => by have := h2 i h hi; omega) (fun i h hi => by have := h3 i h hi; omega) hs
    rw [a, hv, b]
  have Fin : Hid _ := fin
  clear fin
  have hs' := List.pairwise_iff_getElem.1 hs
  have HS : Hid _ := hs'
  clear hs hs'
  obtain ⟨n, hln⟩ : ∃ n, n = l.length := ⟨_, rfl⟩
  by_cases h0 : 0 < l.length
  · obtain ⟨b, off, rfl, hNN⟩ := hN h0
    have HN : Hid _ := hNN
    clear hN hNN
    go_enter Try.func51, Try.ntmps51
    go_wp2
    go_quiet (fail)
    go_wp2
    go_loop [6, 7] (fun lo hi => ∃ a c : Nat, a ≤ c ∧ c ≤ l.length ∧ lo = .int .i64 a ∧ hi = .int .i64 c ∧ Hid ((∀ i (h : i < l.length), i < a → (l[i] : Int) < x) ∧ (∀ i (h : i < l.length), c ≤ i → x ≤ (l[i] : Int)))) (fun lo hi => (intOf hi - intOf lo).toNat)
    case atStart => exact ⟨0, l.length, by omega, by omega, rfl, rfl, fun i h hi => absurd hi (by omega), fun i h hi => absurd h (by omega)⟩
    case round =>
      obtain ⟨a, c, hac, hcn, rfl, rfl, hrs⟩ := hrel
      by_cases hlt : a < c
      · have hm : (a + c) / 2 < l.length := by omega
        have hc := HN.out ((a + c) / 2) hm
        obtain ⟨y, hy⟩ : ∃ y, y = l[(a + c) / 2] := ⟨_, rfl⟩
        rw [← hy] at hc
        have HY : Hid _ := hy
        clear hy
        by_cases ht : (y : Int) < x
        · go_wp2
          go_roundw
          case rel => exact ⟨(a + c) / 2 + 1, c, by omega, hcn, by go_num, rfl, fun i h hi => by
            by_cases e : i = (a + c) / 2
            · subst e; rw [← HY.out]; exact ht
            · have := HS.out i ((a + c) / 2) h hm (by omega)
              have := HY.out
              omega, hrs.out.2⟩
          case measure => simp [intOf]; omega
        · go_wp2
          go_roundw
          case rel => exact ⟨a, (a + c) / 2, by omega, by omega, rfl, by go_num, hrs.out.1, fun i h hi => by
            by_cases e : i = (a + c) / 2
            · subst e; rw [← HY.out]; omega
            · have := HS.out ((a + c) / 2) i hm h (by omega)
              have := HY.out
              omega⟩
          case measure => simp [intOf]; omega
      · have e : c = a := by omega
        subst e
        by_cases hcn' : c < l.length
        · have hd : decide ((c : Int) < (l.length : Int)) = true := by simp; exact hcn'
          have hc := HN.out c hcn'
          obtain ⟨y, hy⟩ : ∃ y, y = l[c] := ⟨_, rfl⟩
          rw [← hy] at hc
          have HY : Hid _ := hy
          clear hy
          go_wp2
          go_quiet (fail)
          go_wp2
          go_ret2
          refine ⟨Fin.out c _ hcn hrs.out.1 hrs.out.2 ?_, _, drewN2 _ _ _⟩
          rw [dif_pos hcn', ← HY.out]
          rw [Bool.eq_iff_iff]; simp; omega
        · have hd : decide ((c : Int) < (l.length : Int)) = false := by simp; omega
          go_wp2
          go_quiet (fail)
          go_wp2
          go_ret2
          refine ⟨Fin.out c _ hcn hrs.out.1 hrs.out.2 ?_, _, drewN2 _ _ _⟩
          rw [dif_neg hcn']
  · have hl0 : l.length = 0 := by omega
    rw [hl0] at hp
    have F0 : Hid _ := Fin.out 0 false (by omega) (fun i h hi => absurd hi (by omega)) (fun i h hi => absurd h (by omega)) (by rw [dif_neg (by omega)])
    clear hN Fin HS hn hln h0 hl0
    go_enter Try.func51, Try.ntmps51
    go_wp2
    go_quiet (fail)
    go_wp2
    go_loop [6, 7] (fun lo hi => lo = .int .i64 0 ∧ hi = .int .i64 0) (fun _ _ => 0)
    case atStart => exact ⟨rfl, rfl⟩
    case round =>
      obtain ⟨rfl, rfl⟩ := hrel
      go_wp2
      go_quiet (fail)
      go_wp2
      go_ret2
      exact ⟨F0.out, _, drewN2 _ _ _⟩
end Go.Proofs.Ytlfcnaalkjpgnaa

/- Chapter 3's address space: what comes of the calls that the laws make, in closed form. -/
namespace Go.Proofs.Sp

theorem commit_ok {S : Sp} {page pages : Nat} (h1 : right page pages) (h2 : ∀ i, i < pages → S.st (page + i) ≠ 0) (j : Nat) (hj : j < pages) (h3 : S.st (page + j) ≠ 2) (h4 : S.refuse.headD false = false) :
    commitS S page pages = (0, readyN (takeRefuse S) page pages) := by
  unfold commitS
  rw [if_neg (Classical.not_not.2 h1), if_neg (Classical.not_not.2 h2), if_neg (fun h => h3 (h j hj)), h4, if_neg (by decide)]
theorem commit_refused {S : Sp} {page pages : Nat} (h1 : right page pages) (h2 : ∀ i, i < pages → S.st (page + i) ≠ 0) (j : Nat) (hj : j < pages) (h3 : S.st (page + j) ≠ 2) (h4 : S.refuse.headD false = true) :
    commitS S page pages = (13, takeRefuse S) := by
  unfold commitS
  rw [if_neg (Classical.not_not.2 h1), if_neg (Classical.not_not.2 h2), if_neg (fun h => h3 (h j hj)), if_pos h4]
theorem commit_ready {S : Sp} {page pages : Nat} (h1 : right page pages) (h2 : ∀ i, i < pages → S.st (page + i) = 2) : commitS S page pages = (0, S) := by
  unfold commitS
  rw [if_neg (Classical.not_not.2 h1), if_neg (Classical.not_not.2 fun i hi => by rw [h2 i hi]; decide), if_pos h2]
def relS (S : Sp) (page pages : Nat) : Sp := { S with st := fun p => if page ≤ p ∧ p < page + pages then 3 else S.st p }
theorem release_ok {S : Sp} {page pages : Nat} (h1 : right page pages) (h2 : ∀ i, i < pages → S.st (page + i) = 2) : releaseS S page pages = (0, relS S page pages) := by
  unfold releaseS
  rw [if_neg (Classical.not_not.2 h1), if_neg (Classical.not_not.2 h2)]
  rfl
theorem load_ok {S : Sp} {addr : Nat} (h1 : addr % 8 = 0) (h2 : S.st (addr / 8192) = 2) : loadS S addr = (S.wd addr, 0) := by
  unfold loadS; rw [if_neg (by omega), if_neg (by omega)]
def putS (S : Sp) (addr x : Nat) : Sp := { S with wd := fun a => if a = addr then x else S.wd a }
theorem store_ok {S : Sp} {addr x : Nat} (h1 : addr % 8 = 0) (h2 : S.st (addr / 8192) = 2) : storeS S addr x = (0, putS S addr x) := by
  unfold storeS; rw [if_neg (by omega), if_neg (by omega)]; rfl
def zerS (S : Sp) (addr bytes : Nat) : Sp := { S with wd := fun a => if addr ≤ a ∧ a < addr + bytes then 0 else S.wd a }

/-! ### A space in which pages 512 to 1023 are laid out -/
/-- n pages from 512 on are in state s, the others of the 512 are reserved. -/
def stN (n s p : Nat) : Nat := if 512 ≤ p ∧ p < 512 + n then s else if 512 ≤ p ∧ p < 1024 then 1 else 0
structure Base (S : Sp) (re : List Bool) (fi : List Nat) (n s : Nat) : Prop where
  refuse : S.refuse = re
  fills : S.fills = fi
  pgs : S.pgs = List.range' 512 512
  st : ∀ p, S.st p = stN n s p

theorem first_new (pl : List Nat) (re : List Bool) (fi : List Nat) : firstFrom (Sp.new pl re fi) 0 512 = some 512 :=
  first_at (by decide) ⟨by decide, by decide, by decide, fun _ _ => rfl⟩ (by decide) fun j _ h2 hf => by
    have := hf.1
    have := hf.2.1
    omega
theorem reserve_new (re : List Bool) (fi : List Nat) (h : re.headD false = false) : ∃ S1, reserveS (Sp.new [] re fi) 0 512 = (512, 0, S1) ∧ Base S1 re.tail fi 0 2 := by
  refine ⟨lay (takePlace (takeRefuse (Sp.new [] re fi))) 512 512, ?_, rfl, rfl, ?_, fun p => ?_⟩
  · unfold reserveS
    have e : (Sp.new [] re fi).refuse.headD false = false := h
    rw [if_neg (by decide), e, if_neg (by decide), first_new]
    rfl
  · show List.filter (fun x => decide (x < 512)) [] ++ (List.range' 512 512 ++ List.filter (fun x => decide (512 ≤ x)) []) = _
    rw [List.filter_nil, List.filter_nil, List.nil_append, List.append_nil]
  · show (if 512 ≤ p ∧ p < 512 + 512 then 1 else 0) = stN 0 2 p
    unfold stN
    rw [if_neg (c := 512 ≤ p ∧ p < 512 + 0) (by omega)]

theorem right512 {n : Nat} (h1 : 0 < n) (h2 : n ≤ 512) : right 512 n := ⟨h1, by omega⟩
/-- Pages that were reserved are made ready: their words are 0. -/
theorem base_commit {S : Sp} {re : List Bool} {fi : List Nat} {n s : Nat} (h : Base S re fi 0 s) (h1 : 0 < n) (h2 : n ≤ 512) (h3 : re.headD false = false) :
    ∃ S', commitS S 512 n = (0, S') ∧ Base S' re.tail fi n 2 ∧ ∀ a, 512 ≤ a / 8192 → a / 8192 < 512 + n → S'.wd a = 0 := by
  have one : ∀ i, i < n → S.st (512 + i) = 1 := fun i hi => by
    rw [h.st]; unfold stN; rw [if_neg (by omega), if_pos (by omega)]
  refine ⟨_, commit_ok (right512 h1 h2) (fun i hi => by rw [one i hi]; decide) 0 h1 (by rw [one 0 h1]; decide) (by rw [h.refuse]; exact h3), ⟨?_, ?_, ?_, ?_⟩, ?_⟩
  · rw [(readyN_keeps _ _ _).2.2]; show S.refuse.tail = _; rw [h.refuse]
  · rw [(readyN_new (takeRefuse S) 512 n one).1]; exact h.fills
  · rw [(readyN_keeps _ _ _).1]; exact h.pgs
  · intro p
    rw [readyN_st]
    show (if _ then 2 else S.st p) = _
    rw [h.st]
    unfold stN
    by_cases e : 512 ≤ p ∧ p < 512 + n
    · rw [if_pos e, if_pos e]
    · rw [if_neg e, if_neg e, if_neg (by omega)]
  · intro a ha hb
    rw [(readyN_new (takeRefuse S) 512 n one).2 a, if_pos ⟨ha, hb⟩]
/-- Pages that were released are made ready: a fill for each. -/
theorem base_again {S : Sp} {re : List Bool} {fi : List Nat} {n : Nat} (h : Base S re fi n 3) (h1 : 0 < n) (h2 : n ≤ 512) (h3 : re.headD false = false) :
    ∃ S', commitS S 512 n = (0, S') ∧ Base S' re.tail (fi.drop n) n 2 ∧ ∀ a, 512 ≤ a / 8192 → a / 8192 < 512 + n → S'.wd a = fi.getD (a / 8192 - 512) 0 := by
  have three : ∀ i, i < n → S.st (512 + i) = 3 := fun i hi => by
    rw [h.st]; unfold stN; rw [if_pos (by omega)]
  refine ⟨_, commit_ok (right512 h1 h2) (fun i hi => by rw [three i hi]; decide) 0 h1 (by rw [three 0 h1]; decide) (by rw [h.refuse]; exact h3), ⟨?_, ?_, ?_, ?_⟩, ?_⟩
  · rw [(readyN_keeps _ _ _).2.2]; show S.refuse.tail = _; rw [h.refuse]
  · rw [(readyN_again (takeRefuse S) 512 n three).1]; show S.fills.drop n = _; rw [h.fills]
  · rw [(readyN_keeps _ _ _).1]; exact h.pgs
  · intro p
    rw [readyN_st]
    show (if _ then 2 else S.st p) = _
    rw [h.st]
    unfold stN
    by_cases e : 512 ≤ p ∧ p < 512 + n
    · rw [if_pos e, if_pos e]
    · rw [if_neg e, if_neg e, if_neg e]
  · intro a ha hb
    rw [(readyN_again (takeRefuse S) 512 n three).2 a, if_pos ⟨ha, hb⟩]
    show S.fills.getD _ 0 = _
    rw [h.fills]
theorem base_ready {S : Sp} {re : List Bool} {fi : List Nat} {n : Nat} (h : Base S re fi n 2) (h1 : 0 < n) (h2 : n ≤ 512) : commitS S 512 n = (0, S) :=
  commit_ready (right512 h1 h2) fun i hi => by rw [h.st]; unfold stN; rw [if_pos (by omega)]
theorem base_release {S : Sp} {re : List Bool} {fi : List Nat} {n : Nat} (h : Base S re fi n 2) (h1 : 0 < n) (h2 : n ≤ 512) : ∃ S', releaseS S 512 n = (0, S') ∧ Base S' re fi n 3 := by
  refine ⟨_, release_ok (right512 h1 h2) fun i hi => by rw [h.st]; unfold stN; rw [if_pos (by omega)], h.refuse, h.fills, h.pgs, fun p => ?_⟩
  show (if 512 ≤ p ∧ p < 512 + n then 3 else S.st p) = _
  rw [h.st]
  unfold stN
  by_cases e : 512 ≤ p ∧ p < 512 + n
  · rw [if_pos e, if_pos e]
  · rw [if_neg e, if_neg e, if_neg e]
theorem base_st {S : Sp} {re : List Bool} {fi : List Nat} {n s : Nat} (h : Base S re fi n s) {p : Nat} (h1 : 512 ≤ p) (h2 : p < 512 + n) : S.st p = s := by rw [h.st]; unfold stN; rw [if_pos ⟨h1, h2⟩]
theorem base_stored {S : Sp} {re : List Bool} {fi : List Nat} {n s : Nat} (h : Base S re fi n s) (addr x : Nat) : Base (putS S addr x) re fi n s := ⟨h.refuse, h.fills, h.pgs, h.st⟩

/-! ### Counts -/
theorem countP_none {P : Nat → Bool} : ∀ (l : List Nat), (∀ p ∈ l, P p = false) → l.countP P = 0 := by
  intro l h
  rw [List.countP_eq_zero]
  intro p hp
  rw [h p hp]; decide
theorem countP_all {P : Nat → Bool} : ∀ (l : List Nat), (∀ p ∈ l, P p = true) → l.countP P = l.length := by
  intro l h
  exact List.countP_eq_length.2 h
theorem range_split (n : Nat) (h : n ≤ 512) : List.range' 512 512 = List.range' 512 n ++ List.range' (512 + n) (512 - n) := by
  have := List.range'_append_1 (s := 512) (m := n) (n := 512 - n)
  rw [this, show n + (512 - n) = 512 by omega]
theorem base_count {S : Sp} {re : List Bool} {fi : List Nat} {n s : Nat} (h : Base S re fi n s) (h2 : n ≤ 512) (hs : s ≠ 1) : countS S (s : Int) = n ∧ countS S 1 = 512 - n := by
  unfold countS
  rw [h.pgs, range_split n h2, List.countP_append, List.countP_append]
  have a : ∀ p ∈ List.range' 512 n, S.st p = s := fun p hp => by
    have := List.mem_range'_1.1 hp
    rw [h.st]; unfold stN; rw [if_pos (by omega)]
  have b : ∀ p ∈ List.range' (512 + n) (512 - n), S.st p = 1 := fun p hp => by
    have := List.mem_range'_1.1 hp
    rw [h.st]; unfold stN; rw [if_neg (by omega), if_pos (by omega)]
  constructor
  · rw [countP_all _ (fun p hp => by rw [a p hp]; simp), countP_none _ (fun p hp => by rw [b p hp]; simp; omega)]
    simp
  · rw [countP_none _ (fun p hp => by rw [a p hp]; simp; omega), countP_all _ (fun p hp => by rw [b p hp]; simp)]
    simp

/-! ### Clearing -/
theorem zero_ok {S : Sp} {addr bytes : Nat} (h1 : addr % 8 = 0) (h2 : bytes % 8 = 0) (h3 : bytes ≠ 0 → allReady S addr bytes) : zeroS S addr bytes = (0, zerS S addr bytes) := by
  unfold zeroS
  rw [if_neg (by omega)]
  by_cases h : bytes = 0
  · rw [if_pos h]
    have : zerS S addr bytes = S := by
      unfold zerS
      have : (fun a => if addr ≤ a ∧ a < addr + bytes then 0 else S.wd a) = S.wd := by
        funext a; rw [if_neg (by omega)]
      rw [this]
    rw [this]
  · rw [if_neg h, if_neg (Classical.not_not.2 (h3 h))]; rfl
theorem zero_align {S : Sp} {addr bytes : Nat} (h : addr % 8 ≠ 0 ∨ bytes % 8 ≠ 0) : zeroS S addr bytes = (11, S) := by unfold zeroS; rw [if_pos h]
theorem zero_fault {S : Sp} {addr bytes : Nat} (h1 : addr % 8 = 0) (h2 : bytes % 8 = 0) (h3 : bytes ≠ 0) (h4 : ¬ allReady S addr bytes) : zeroS S addr bytes = (12, S) := by
  unfold zeroS; rw [if_neg (by omega), if_neg h3, if_pos h4]

def wantZ (f a n i : Nat) : Nat := if a ≤ i ∧ i < a + n then 0 else (f + i / 1024) % 18446744073709551616
theorem zeroes_facts (f a n : Nat) (hf : f < 18446744073709551616) (hs : a + n ≤ 4096) : ∃ S1 S2 S3 S4 S5,
    reserveS (Sp.new [] [] [f, (f + 1) % 18446744073709551616, (f + 2) % 18446744073709551616, (f + 3) % 18446744073709551616]) 0 512 = (512, 0, S1) ∧ commitS S1 512 4 = (0, S2) ∧ releaseS S2 512 4 = (0, S3) ∧ commitS S3 512 4 = (0, S4) ∧
    zeroS S4 (4194304 + 8 * a) (8 * n) = (0, S5) ∧ zeroS S5 4194308 8 = (11, S5) ∧ zeroS S5 4194304 40960 = (12, S5) ∧ ∀ i, i < 4096 → loadS S5 (4194304 + 8 * i) = (wantZ f a n i, 0) := by
  obtain ⟨S1, e1, b1⟩ := reserve_new [] [f, (f + 1) % 18446744073709551616, (f + 2) % 18446744073709551616, (f + 3) % 18446744073709551616] rfl
  obtain ⟨S2, e2, b2, _⟩ := base_commit (n := 4) b1 (by decide) (by decide) rfl
  obtain ⟨S3, e3, b3⟩ := base_release (n := 4) b2 (by decide) (by decide)
  obtain ⟨S4, e4, b4, g4⟩ := base_again (n := 4) b3 (by decide) (by decide) rfl
  refine ⟨S1, S2, S3, S4, _, e1, e2, e3, e4, zero_ok (by omega) (by omega) ?_, zero_align (by decide), zero_fault (by decide) (by decide) (by decide) ?_, ?_⟩
  · intro _ i hi
    exact base_st b4 (by omega) (by omega)
  · intro h
    have := h 4 (by decide)
    have e : S4.st 516 = 2 := this
    rw [b4.st] at e
    exact absurd e (by decide)
  · intro i hi
    have d : (4194304 + 8 * i) / 8192 = 512 + i / 1024 := by omega
    have hst : (zerS S4 (4194304 + 8 * a) (8 * n)).st ((4194304 + 8 * i) / 8192) = 2 := base_st b4 (by omega) (by omega)
    rw [load_ok (by omega) hst]
    have hw : (zerS S4 (4194304 + 8 * a) (8 * n)).wd (4194304 + 8 * i) = wantZ f a n i := by
      show (if 4194304 + 8 * a ≤ 4194304 + 8 * i ∧ 4194304 + 8 * i < 4194304 + 8 * a + 8 * n then 0 else S4.wd (4194304 + 8 * i)) = _
      unfold wantZ
      by_cases c : a ≤ i ∧ i < a + n
      · rw [if_pos c, if_pos (by omega)]
      · rw [if_neg c, if_neg (by omega), g4 _ (by omega) (by omega), d, show 512 + i / 1024 - 512 = i / 1024 by omega]
        have q : i / 1024 < 4 := by omega
        generalize i / 1024 = k at *
        match k, q with
        | 0, _ => show f = _; rw [Nat.add_zero, Nat.mod_eq_of_lt hf]
        | 1, _ => rfl
        | 2, _ => rfl
        | 3, _ => rfl
    rw [hw]

/-! ### Fills, round by round -/
structure FillsAt (L : List Nat) (n u : Nat) (first : Bool) (T : Sp) : Prop where
  base : Base T [] (L.drop u) n 2
  wd : ∀ a, 512 ≤ a / 8192 → a / 8192 < 512 + n → T.wd a = if first then 0 else L.getD (u - n + (a / 8192 - 512)) 0
theorem fills_start (L : List Nat) (n : Nat) (h1 : 0 < n) (h2 : n ≤ 512) : ∃ S1 S2, reserveS (Sp.new [] [] L) 0 512 = (512, 0, S1) ∧ commitS S1 512 n = (0, S2) ∧ FillsAt L n 0 true S2 := by
  obtain ⟨S1, e1, b1⟩ := reserve_new [] L rfl
  obtain ⟨S2, e2, b2, z2⟩ := base_commit b1 h1 h2 rfl
  exact ⟨S1, S2, e1, e2, b2, fun a x y => by rw [if_pos rfl]; exact z2 a x y⟩
theorem fills_round {L : List Nat} {n u : Nat} {first : Bool} {T : Sp} (h : FillsAt L n u first T) (h1 : 0 < n) (h2 : n ≤ 512) : ∃ T1 T2, releaseS T 512 n = (0, T1) ∧ commitS T1 512 n = (0, T2) ∧ FillsAt L n (u + n) false T2 := by
  obtain ⟨T1, e1, b1⟩ := base_release h.base h1 h2
  obtain ⟨T2, e2, b2, z2⟩ := base_again b1 h1 h2 rfl
  refine ⟨T1, T2, e1, e2, by rw [List.drop_drop] at b2; exact b2, fun a x y => ?_⟩
  rw [if_neg (by decide), z2 a x y, show u + n - n = u by omega]
  rw [List.getD_eq_getElem?_getD, List.getD_eq_getElem?_getD, List.getElem?_drop]
theorem fills_load {L : List Nat} {n u : Nat} {first : Bool} {T : Sp} (h : FillsAt L n u first T) (hn : n ≤ 512) (k : Nat) (hk : k < n) : loadS T ((512 + k) * 8192 + 8 * k) = (if first then 0 else L.getD (u - n + k) 0, 0) := by
  have d : ((512 + k) * 8192 + 8 * k) / 8192 = 512 + k := by omega
  rw [load_ok (by omega) (base_st h.base (by omega) (by omega)), h.wd _ (by omega) (by omega), d, show 512 + k - 512 = k by omega]

/-! ### Refusals -/
theorem base_refused {S : Sp} {re : List Bool} {fi : List Nat} {s : Nat} (h : Base S (true :: re) fi 0 s) {n : Nat} (h1 : 0 < n) (h2 : n ≤ 512) :
    commitS S 512 n = (13, takeRefuse S) ∧ reserveS S 0 512 = (0, 13, takeRefuse S) ∧ Base (takeRefuse S) re fi 0 s := by
  have one : ∀ i, i < n → S.st (512 + i) = 1 := fun i hi => by
    rw [h.st]; unfold stN; rw [if_neg (by omega), if_pos (by omega)]
  refine ⟨commit_refused (right512 h1 h2) (fun i hi => by rw [one i hi]; decide) 0 h1 (by rw [one 0 h1]; decide) (by rw [h.refuse]; rfl), ?_, ⟨?_, h.fills, h.pgs, h.st⟩⟩
  · unfold reserveS
    rw [if_neg (by decide), h.refuse, if_pos (show (true :: re).headD false = true from rfl)]
  · show S.refuse.tail = re
    rw [h.refuse]; rfl

/-! ### What is kept -/
/-- Eight pages are ready; the first k words, 640 apart, are X's. -/
structure KeepsAt (X : Nat → Nat) (f k : Nat) (T : Sp) : Prop where
  base : Base T [] [f] 8 2
  wd : ∀ j, j < k → T.wd (4194304 + j * 640) = X j
theorem keeps_start (X : Nat → Nat) (f : Nat) : ∃ S1 S2, reserveS (Sp.new [] [] [f]) 0 512 = (512, 0, S1) ∧ commitS S1 512 8 = (0, S2) ∧ KeepsAt X f 0 S2 := by
  obtain ⟨S1, e1, b1⟩ := reserve_new [] [f] rfl
  obtain ⟨S2, e2, b2, _⟩ := base_commit (n := 8) b1 (by decide) (by decide) rfl
  exact ⟨S1, S2, e1, e2, b2, fun j h => absurd h (by omega)⟩
theorem keeps_store {X : Nat → Nat} {f k : Nat} {T : Sp} (h : KeepsAt X f k T) (hk : k < 100) : ∃ T', storeS T (4194304 + k * 640) (X k) = (0, T') ∧ KeepsAt X f (k + 1) T' := by
  refine ⟨_, store_ok (by omega) (base_st h.base (by omega) (by omega)), base_stored h.base _ _, fun j hj => ?_⟩
  show (if 4194304 + j * 640 = 4194304 + k * 640 then X k else T.wd (4194304 + j * 640)) = _
  by_cases e : j = k
  · rw [if_pos (by omega), e]
  · rw [if_neg (by omega)]; exact h.wd j (by omega)
theorem keeps_end {X : Nat → Nat} {f k : Nat} {T : Sp} (h : KeepsAt X f k T) (hk : k ≤ 100) (g : Nat) (g1 : 512 ≤ g) (g2 : g < 520) : ∃ U1 U, releaseS T g 1 = (0, U1) ∧ commitS U1 g 1 = (0, U) ∧
    (∀ j, j < k → loadS U (4194304 + j * 640) = (if (4194304 + j * 640) / 8192 = g then f else X j, 0)) ∧ loadS U (g * 8192 + 8184) = (f, 0) := by
  have hr : right g 1 := ⟨by decide, by omega⟩
  have e1 := release_ok (S := T) hr fun i hi => by rw [show g + i = g by omega]; exact base_st h.base g1 (by omega)
  have three : (relS T g 1).st g = 3 := by show (if g ≤ g ∧ g < g + 1 then 3 else T.st g) = 3; rw [if_pos (by omega)]
  have e2 := commit_ok (S := relS T g 1) hr (fun i hi => by rw [show g + i = g by omega, three]; decide) 0 (by decide) (by rw [Nat.add_zero, three]; decide) (by show T.refuse.headD false = false; rw [h.base.refuse]; rfl)
  have again := (readyN_again (takeRefuse (relS T g 1)) g 1 (fun i hi => by rw [show g + i = g by omega]; exact three)).2
  have hst : ∀ p, 512 ≤ p → p < 520 → (readyN (takeRefuse (relS T g 1)) g 1).st p = 2 := by
    intro p p1 p2
    rw [readyN_st]
    by_cases e : g ≤ p ∧ p < g + 1
    · rw [if_pos e]
    · rw [if_neg e]
      show (if g ≤ p ∧ p < g + 1 then 3 else T.st p) = 2
      rw [if_neg e]; exact base_st h.base p1 (by omega)
  have hfi : (takeRefuse (relS T g 1)).fills = [f] := h.base.fills
  refine ⟨_, _, e1, e2, fun j hj => ?_, ?_⟩
  · rw [load_ok (by omega) (hst _ (by omega) (by omega)), again]
    by_cases e : (4194304 + j * 640) / 8192 = g
    · rw [if_pos e, if_pos (by omega), hfi, show (4194304 + j * 640) / 8192 - g = 0 by omega]; rfl
    · rw [if_neg e, if_neg (by omega)]
      show (T.wd (4194304 + j * 640), 0) = _
      rw [h.wd j hj]
  · have d : (g * 8192 + 8184) / 8192 = g := by omega
    rw [load_ok (by omega) (hst _ (by omega) (by omega)), again, d, if_pos (by omega), hfi, Nat.sub_self]; rfl

end Go.Proofs.Sp

/- The reference of chapter 3: how a space lies in memory; State, Load, Count. -/
namespace Go.Proofs.Ytlfcnaalkjpgnaa
open Go.ChangeShapes Go.WideShapes Go.ChangeAt Go.RowKit Go.Proofs.Sp
set_option linter.unusedVariables false
set_option linter.unusedSimpArgs false

def pcell (S : Sp) (fl : Nat → Nat) (p : Nat) : List Value := [.int .u64 (p : Int), .int .i64 (S.st p : Int), .int .u64 (fl p : Int)]
def pcells (S : Sp) (fl : Nat → Nat) : List Value := S.pgs.flatMap (pcell S fl)
def wcell (x : Nat × Nat) : List Value := [.int .u64 (x.1 : Int), .int .u64 (x.2 : Int)]
def wcells (ws : List (Nat × Nat)) : List Value := ws.flatMap wcell
def addrs (ws : List (Nat × Nat)) : List Nat := ws.map Prod.fst

theorem addrs_get (ws : List (Nat × Nat)) (i : Nat) (h : i < ws.length) : (addrs ws)[i]'(by unfold addrs; simpa using h) = ws[i].1 := by simp [addrs]
theorem addrs_length (ws : List (Nat × Nat)) : (addrs ws).length = ws.length := by simp [addrs]
theorem pos_get {l : List Nat} (hs : l.Pairwise (· < ·)) (x : Nat) (hx : x ∈ l) : ∃ h : pos l x < l.length, l[pos l x] = x := by
  obtain ⟨i, hi, e⟩ := List.getElem_of_mem hx
  have a : pos l x = i := by
    refine pos_at l x i (by omega) (fun j hj hl => ?_) (fun j hj hl => ?_)
    · rw [← e]; exact List.pairwise_iff_getElem.1 hs j i hj hi hl
    · by_cases c : j = i
      · subst c; omega
      · have := List.pairwise_iff_getElem.1 hs i j hi hj (by omega)
        omega
  exact ⟨by omega, by simp only [a]; exact e⟩
theorem flat_get {α : Type} (n : Nat) (f : α → List Value) (hf : ∀ a, (f a).length = n) (l : List α) (i r : Nat) (hi : i < l.length) (hr : r < n) : (l.flatMap f)[i * n + r]? = (f l[i])[r]? := by
  induction l generalizing i with
  | nil => simp at hi
  | cons a l ih =>
    rw [List.flatMap_cons]
    cases i with
    | zero => rw [List.getElem?_append_left (by rw [hf]; omega)]; simp
    | succ i =>
      rw [List.getElem?_append_right (by rw [hf, Nat.add_mul]; omega), hf, show (i + 1) * n + r - n = i * n + r by rw [Nat.add_mul]; omega, ih i (by simpa using hi)]
      rfl
theorem flat_length {α : Type} (n : Nat) (f : α → List Value) (hf : ∀ a, (f a).length = n) (l : List α) : (l.flatMap f).length = l.length * n := by
  induction l with
  | nil => simp
  | cons a l ih => rw [List.flatMap_cons, List.length_append, hf, ih, List.length_cons, Nat.add_mul]; omega

/-- What a word is: what was stored, or what its page was filled with. -/
def wordV (fl : Nat → Nat) (ws : List (Nat × Nat)) (a : Nat) : Nat := ((ws.find? fun x => x.1 == a).map Prod.snd).getD (fl (a / 8192))

/-- The reference's struct lies at the head of block m: three slices of answers, the pages, the words. -/
structure RefC (w : World) (m : Nat) (S : Sp) (fl : Nat → Nat) (ws : List (Nat × Nat)) (v0 v1 v2 : Value) (o3 : Option Addr) (c3 : Nat) (o4 : Option Addr) (c4 : Nat) : Prop where
  wf : WF S
  frozen : ∀ k, k < 5 → w.frozen? ⟨m, k, none⟩ = false
  h0 : w.cell? ⟨m, 0, none⟩ = some v0
  h1 : w.cell? ⟨m, 1, none⟩ = some v1
  h2 : w.cell? ⟨m, 2, none⟩ = some v2
  h3 : w.cell? ⟨m, 3, none⟩ = some (.slice o3 S.pgs.length c3)
  h4 : w.cell? ⟨m, 4, none⟩ = some (.slice o4 ws.length c4)
  r0 : Sl w v0 (u64s S.places)
  r1 : Sl w v1 (bools S.refuse)
  r2 : Sl w v2 (u64s S.fills)
  own3 : w.ownsRow 0 66 3 (.slice o3 S.pgs.length c3) S.pgs.length (pcells S fl)
  own4 : w.ownsRow 0 68 2 (.slice o4 ws.length c4) ws.length (wcells ws)
  rising : (addrs ws).Pairwise (· < ·)
  ready : ∀ x ∈ ws, S.st (x.1 / 8192) = 2 ∧ x.1 % 8 = 0 ∧ x.2 < 18446744073709551616
  fill : ∀ p, fl p < 18446744073709551616
  word : ∀ a, a % 8 = 0 → S.st (a / 8192) = 2 → S.wd a = wordV fl ws a

variable {w : World} {m : Nat} {S : Sp} {fl : Nat → Nat} {ws : List (Nat × Nat)} {v0 v1 v2 : Value} {o3 : Option Addr} {c3 : Nat} {o4 : Option Addr} {c4 : Nat}
theorem RefC.page (h : RefC w m S fl ws v0 v1 v2 o3 c3 o4 c4) (h0 : 0 < S.pgs.length) : ∃ b off, o3 = some ⟨b, off, none⟩ ∧ ∀ i (hi : i < S.pgs.length), w.cell? ⟨b, off + i * 3, none⟩ = some (.int .u64 (S.pgs[i] : Int)) ∧
    w.cell? ⟨b, off + i * 3 + 1, none⟩ = some (.int .i64 (S.st S.pgs[i] : Int)) ∧ w.cell? ⟨b, off + i * 3 + 2, none⟩ = some (.int .u64 (fl S.pgs[i] : Int)) := by
  have own := h.own3
  obtain ⟨hl, hh | ⟨g, cap, cur, hv, _⟩⟩ := h.own3
  · omega
  · have ho : o3 = some ⟨g, 0, none⟩ := by injection hv
    have hcp : c3 = cap := by injection hv
    subst ho
    refine ⟨g, 0, rfl, fun i hi => ?_⟩
    have get := fun r (hr : r < 3) => flat_get 3 (pcell S fl) (fun _ => rfl) S.pgs i r hi hr
    have at0 := fun r (hr : r < 3) => own.cellAt (i * 3 + r) (by omega)
    refine ⟨?_, ?_, ?_⟩
    · have a := at0 0 (by decide); have b := get 0 (by decide)
      rw [show 0 + i * 3 = i * 3 + 0 by omega]
      exact a.trans b
    · have a := at0 1 (by decide); have b := get 1 (by decide)
      rw [show 0 + i * 3 + 1 = i * 3 + 1 by omega]
      exact a.trans b
    · have a := at0 2 (by decide); have b := get 2 (by decide)
      rw [show 0 + i * 3 + 2 = i * 3 + 2 by omega]
      exact a.trans b
theorem RefC.stored (h : RefC w m S fl ws v0 v1 v2 o3 c3 o4 c4) (h0 : 0 < ws.length) : ∃ b off, o4 = some ⟨b, off, none⟩ ∧ ∀ i (hi : i < ws.length), w.cell? ⟨b, off + i * 2, none⟩ = some (.int .u64 (ws[i].1 : Int)) ∧
    w.cell? ⟨b, off + i * 2 + 1, none⟩ = some (.int .u64 (ws[i].2 : Int)) := by
  have own := h.own4
  obtain ⟨hl, hh | ⟨g, cap, cur, hv, _⟩⟩ := h.own4
  · omega
  · have ho : o4 = some ⟨g, 0, none⟩ := by injection hv
    subst ho
    refine ⟨g, 0, rfl, fun i hi => ?_⟩
    have get := fun r (hr : r < 2) => flat_get 2 wcell (fun _ => rfl) ws i r hi hr
    have at0 := fun r (hr : r < 2) => own.cellAt (i * 2 + r) (by omega)
    refine ⟨?_, ?_⟩
    · have a := at0 0 (by decide); have b := get 0 (by decide)
      rw [show 0 + i * 2 = i * 2 + 0 by omega]
      exact a.trans b
    · have a := at0 1 (by decide); have b := get 1 (by decide)
      rw [show 0 + i * 2 + 1 = i * 2 + 1 by omega]
      exact a.trans b
theorem RefC.drewN (h : RefC w m S fl ws v0 v1 v2 o3 c3 o4 c4) (k : Nat) : RefC (w.drewN k) m S fl ws v0 v1 v2 o3 c3 o4 c4 :=
  ⟨h.wf, h.frozen, h.h0, h.h1, h.h2, h.h3, h.h4, h.r0, h.r1, h.r2, h.own3, h.own4, h.rising, h.ready, h.fill, h.word⟩
theorem RefC.find (h : RefC w m S fl ws v0 v1 v2 o3 c3 o4 c4) (x : Int) (hx : 0 ≤ x) (hn : S.pgs.length ≤ 1099511627776) :
    Calls Try.prog 39 #[.pointer (some ⟨m, 0, none⟩), .int .u64 x] w fun e w' => e = .returned (.tuple #[.int .i64 (pos S.pgs x.toNat : Nat), .bool (decide (x.toNat ∈ S.pgs))]) ∧ ∃ k, w' = w.drewN k :=
  find_core m o3 S.pgs c3 x hx w hn h.h3 (fun h0 => by obtain ⟨b, off, ho, hc⟩ := h.page h0; exact ⟨b, off, ho, fun i hi => (hc i hi).1⟩) h.wf.rising
theorem RefC.wordAt (h : RefC w m S fl ws v0 v1 v2 o3 c3 o4 c4) (x : Int) (hx : 0 ≤ x) (hn : ws.length ≤ 1099511627776) :
    Calls Try.prog 51 #[.pointer (some ⟨m, 0, none⟩), .int .u64 x] w fun e w' => e = .returned (.tuple #[.int .i64 (pos (addrs ws) x.toNat : Nat), .bool (decide (x.toNat ∈ addrs ws))]) ∧ ∃ k, w' = w.drewN k :=
  word_core m o4 (addrs ws) c4 x hx w (by unfold addrs; simpa using hn) (by unfold addrs; rw [List.length_map]; exact h.h4) (fun h0 => by
    obtain ⟨b, off, ho, hc⟩ := h.stored (by unfold addrs at h0; simpa using h0)
    refine ⟨b, off, ho, fun i hi => ?_⟩
    have hi' : i < ws.length := by unfold addrs at hi; simpa using hi
    rw [(hc i hi').1, addrs_get ws i hi']) h.rising

theorem RefC.state (h : RefC w m S fl ws v0 v1 v2 o3 c3 o4 c4) (x : Int) (hx : 0 ≤ x) (hn : S.pgs.length ≤ 1099511627776) :
    Calls Try.prog 31 #[.pointer (some ⟨m, 0, none⟩), .int .u64 x] w fun e w' => e = .returned (.int .i64 (S.st x.toNat : Nat)) ∧ ∃ k, w' = w.drewN k := by
  have cf := h.find x hx hn
  have h3 := h.h3
  by_cases hm : x.toNat ∈ S.pgs
  · rw [decide_eq_true hm] at cf
    obtain ⟨hp, hg⟩ := pos_get h.wf.rising x.toNat hm
    obtain ⟨b, off, rfl, hc⟩ := h.page (by omega)
    have c1 := (hc _ hp).2.1
    rw [hg] at c1
    generalize pos S.pgs x.toNat = q at *
    generalize S.st x.toNat = v at *
    obtain ⟨n, hnn⟩ : ∃ n, n = S.pgs.length := ⟨_, rfl⟩
    rw [← hnn] at hp h3
    clear hc hg hm h hn hnn
    go_enter Try.func31, Try.ntmps31
    go_wp2_with (go_at_call 39; refine cf.mono ?_; rintro e w' ⟨rfl, k, rfl⟩)
    go_ret
    exact ⟨rfl, _, rfl⟩
  · rw [decide_eq_false hm] at cf
    have hz : S.st x.toNat = 0 := by
      by_cases c : S.st x.toNat = 0
      · exact c
      · exact absurd ((h.wf.mem _).1 c) hm
    rw [hz]
    clear hz hm h hn
    go_enter Try.func31, Try.ntmps31
    go_wp2_with (go_at_call 39; refine cf.mono ?_; rintro e w' ⟨rfl, k, rfl⟩)
    go_ret
    exact ⟨rfl, _, rfl⟩
theorem right_any (a b : Int) (ha : 0 ≤ a ∧ a ≤ 18446744073709551615) (hb : 0 ≤ b ∧ b ≤ 18446744073709551615) (w : World) :
    Calls Try.prog 36 #[.int .u64 a, .int .u64 b] w fun e w' => e = .returned (.bool (decide (Sp.right a.toNat b.toNat))) ∧ w' = w := by
  have e : decide (Sp.right a.toNat b.toNat) = (decide (0 < b) && (decide (a < 34359738368) && decide (b ≤ 34359738368 - a))) := by
    rw [Bool.eq_iff_iff]; simp only [decide_eq_true_eq, Bool.and_eq_true]; unfold Sp.right; omega
  rw [e]
  clear e
  by_cases h1 : 0 < b
  · by_cases h2 : a < 34359738368
    · have d1 : decide (0 < b) = true := by simpa using h1
      have d2 : decide (a < 34359738368) = true := by simpa using h2
      go_enter Try.func36, Try.ntmps36
      go_wp2
      go_ret
      exact ⟨by simp [h1, h2], rfl⟩
    · have d2 : decide (a < 34359738368) = false := by simpa using h2
      go_enter Try.func36, Try.ntmps36
      go_wp2
      go_ret
      exact ⟨by simp, rfl⟩
  · have d1 : decide (0 < b) = false := by simpa using h1
    go_enter Try.func36, Try.ntmps36
    go_wp2
    go_ret
    exact ⟨by simp, rfl⟩
theorem wordV_found {ws : List (Nat × Nat)} (hs : (addrs ws).Pairwise (· < ·)) (fl : Nat → Nat) (a : Nat) (h : a ∈ addrs ws) : ∃ hi : pos (addrs ws) a < ws.length, wordV fl ws a = ws[pos (addrs ws) a].2 := by
  obtain ⟨hp, hg⟩ := pos_get hs a h
  have hp' : pos (addrs ws) a < ws.length := by rw [addrs_length] at hp; exact hp
  refine ⟨hp', ?_⟩
  unfold wordV
  rw [addrs_get ws _ hp'] at hg
  have : ws.find? (fun x => x.1 == a) = some ws[pos (addrs ws) a] := by
    rw [List.find?_eq_some_iff_getElem]
    refine ⟨by simpa using hg, _, hp', rfl, fun j hj => ?_⟩
    have hj' : j < ws.length := by omega
    have := (pos_lt hs a j (by rw [addrs_length]; exact hj')).1 hj
    rw [addrs_get ws j hj'] at this
    simp; omega
  rw [this]; rfl
theorem wordV_none {ws : List (Nat × Nat)} (fl : Nat → Nat) (a : Nat) (h : ¬ a ∈ addrs ws) : wordV fl ws a = fl (a / 8192) := by
  unfold wordV
  have : ws.find? (fun x => x.1 == a) = none := by
    rw [List.find?_eq_none]
    intro x hx he
    exact h (List.mem_map.2 ⟨x, hx, by simpa using he⟩)
  rw [this]; rfl
theorem RefC.load (h : RefC w m S fl ws v0 v1 v2 o3 c3 o4 c4) (x : Int) (hx : 0 ≤ x ∧ x ≤ 18446744073709551615) (hn : S.pgs.length ≤ 1099511627776) (hw : ws.length ≤ 1099511627776) :
    Calls Try.prog 23 #[.pointer (some ⟨m, 0, none⟩), .int .u64 x] w fun e w' => e = .returned (.tuple #[.int .u64 ((loadS S x.toNat).1 : Nat), .int .i64 ((loadS S x.toNat).2 : Nat)]) ∧ ∃ k, w' = w.drewN k := by
  by_cases ha : x % 8 = 0
  · have ha' : (x % 8 != 0) = false := by simpa using ha
    have cf := h.find (x / 8192) (by omega) hn
    have ed : (x / 8192).toNat = x.toNat / 8192 := by omega
    rw [ed] at cf
    have h3 := h.h3
    by_cases hm : x.toNat / 8192 ∈ S.pgs
    · rw [decide_eq_true hm] at cf
      obtain ⟨hp, hg⟩ := pos_get h.wf.rising _ hm
      obtain ⟨b, off, rfl, hc⟩ := h.page (by omega)
      have c1 := (hc _ hp).2.1
      have c2 := (hc _ hp).2.2
      rw [hg] at c1 c2
      by_cases hr : S.st (x.toNat / 8192) = 2
      · have cw := fun k => (h.drewN k).wordAt x hx.1 hw
        have hv : loadS S x.toNat = (wordV fl ws x.toNat, 0) := by rw [load_ok (by omega) hr, h.word _ (by omega) hr]
        have h4 := h.h4
        rw [hv]
        rw [hr] at c1
        by_cases hf : x.toNat ∈ addrs ws
        · rw [decide_eq_true hf] at cw
          obtain ⟨hq, hvq⟩ := wordV_found h.rising fl x.toNat hf
          obtain ⟨b4, off4, rfl, hc4⟩ := h.stored (by omega)
          have c4' := (hc4 _ hq).2
          rw [hvq]
          generalize ws[pos (addrs ws) x.toNat].2 = V at *
          generalize pos (addrs ws) x.toNat = q4 at *
          generalize pos S.pgs (x.toNat / 8192) = q at *
          obtain ⟨n, hnn⟩ : ∃ n, n = S.pgs.length := ⟨_, rfl⟩
          obtain ⟨n4, hnn4⟩ : ∃ n, n = ws.length := ⟨_, rfl⟩
          rw [← hnn] at hp h3
          rw [← hnn4] at hq h4
          clear hc hg hm h hn hnn hc4 hvq hf hv hr ed hw hnn4 ha
          go_enter Try.func23, Try.ntmps23
          go_wp2_with fail
          go_at_call 39
          refine cf.mono ?_
          rintro e w' ⟨rfl, k, rfl⟩
          go_wp2_with fail
          go_at_call 51
          refine (cw k).mono ?_
          rintro e w' ⟨rfl, k', rfl⟩
          go_wp2_with fail
          go_ret2
          exact ⟨rfl, _, rfl⟩
        · rw [decide_eq_false hf] at cw
          rw [wordV_none fl _ hf]
          generalize fl (x.toNat / 8192) = V at *
          generalize pos (addrs ws) x.toNat = q4 at *
          generalize pos S.pgs (x.toNat / 8192) = q at *
          obtain ⟨n, hnn⟩ : ∃ n, n = S.pgs.length := ⟨_, rfl⟩
          rw [← hnn] at hp h3
          clear hc hg hm h hn hnn hf hv hr ed hw ha
          go_enter Try.func23, Try.ntmps23
          go_wp2_with fail
          go_at_call 39
          refine cf.mono ?_
          rintro e w' ⟨rfl, k, rfl⟩
          go_wp2_with fail
          go_at_call 51
          refine (cw k).mono ?_
          rintro e w' ⟨rfl, k', rfl⟩
          go_wp2_with fail
          go_ret2
          exact ⟨rfl, _, rfl⟩
      · have hv : loadS S x.toNat = (0, 12) := by unfold loadS; rw [if_neg (by omega), if_pos hr]
        rw [hv]
        have hr' : ((S.st (x.toNat / 8192) : Int) != 2) = true := by simp; omega
        generalize S.st (x.toNat / 8192) = s at *
        generalize pos S.pgs (x.toNat / 8192) = q at *
        obtain ⟨n, hnn⟩ : ∃ n, n = S.pgs.length := ⟨_, rfl⟩
        rw [← hnn] at hp h3
        clear hc hg hm h hn hnn hv hr ed hw ha
        go_enter Try.func23, Try.ntmps23
        go_wp2_with fail
        go_at_call 39
        refine cf.mono ?_
        rintro e w' ⟨rfl, k, rfl⟩
        go_wp2_with fail
        go_ret2
        exact ⟨rfl, _, rfl⟩
    · rw [decide_eq_false hm] at cf
      have hz : S.st (x.toNat / 8192) = 0 := by
        by_cases c : S.st (x.toNat / 8192) = 0
        · exact c
        · exact absurd ((h.wf.mem _).1 c) hm
      have hv : loadS S x.toNat = (0, 12) := by unfold loadS; rw [if_neg (by omega), if_pos (by omega)]
      rw [hv]
      generalize pos S.pgs (x.toNat / 8192) = q at *
      clear hz hm h hn hv ed hw ha
      go_enter Try.func23, Try.ntmps23
      go_wp2_with fail
      go_at_call 39
      refine cf.mono ?_
      rintro e w' ⟨rfl, k, rfl⟩
      go_wp2_with fail
      go_ret2
      exact ⟨rfl, _, rfl⟩
  · have ha' : (x % 8 != 0) = true := by simpa using ha
    have hv : loadS S x.toNat = (0, 11) := by unfold loadS; rw [if_pos (by omega)]
    rw [hv]
    clear hv h
    go_enter Try.func23, Try.ntmps23
    go_wp2_with fail
    go_ret2
    exact ⟨rfl, 0, rfl⟩
def cN (S : Sp) (k : Int) (i : Nat) : Nat := (S.pgs.take i).countP fun p => decide ((S.st p : Int) = k)
theorem cN_le (S : Sp) (k : Int) (i : Nat) : cN S k i ≤ i := Nat.le_trans List.countP_le_length (List.length_take_le _ _)
theorem cN_succ (S : Sp) (k : Int) (i : Nat) (h : i < S.pgs.length) : cN S k (i + 1) = cN S k i + if (S.st S.pgs[i] : Int) = k then 1 else 0 := by
  unfold cN
  rw [List.take_succ_eq_append_getElem h, List.countP_append, List.countP_singleton]
  simp
set_option maxRecDepth 100000 in
theorem RefC.count (h : RefC w m S fl ws v0 v1 v2 o3 c3 o4 c4) (k : Int) (hk : -9223372036854775808 ≤ k ∧ k ≤ 9223372036854775807) (hn : S.pgs.length ≤ 1099511627776) :
    Calls Try.prog 29 #[.pointer (some ⟨m, 0, none⟩), .int .i64 k] w fun e w' => e = .returned (.int .u64 (countS S k : Nat)) ∧ ∃ k, w' = w.drewN k := by
  have h3 := h.h3
  have hfin : countS S k = cN S k S.pgs.length := by unfold cN countS; rw [List.take_length]
  have hz : k = 0 → ∀ i, cN S k i = 0 := by
    intro e i
    unfold cN
    rw [List.countP_eq_zero]
    intro p hp
    have := (h.wf.mem p).2 (List.mem_of_mem_take hp)
    simp [e]; omega
  have hle := cN_le S k
  have hsucc := cN_succ S k
  have hst : ∀ i (hi : i < S.pgs.length), S.st S.pgs[i] ≤ 3 := fun i hi => h.wf.le3 _
  have hpg := h.page
  rw [hfin]
  obtain ⟨n, hnn⟩ : ∃ n, n = S.pgs.length := ⟨_, rfl⟩
  have HP : Hid _ := hpg
  have HZ : Hid _ := hz
  have HL : Hid _ := hle
  have HS : Hid _ := hsucc
  have HT : Hid _ := hst
  have HN : Hid _ := hnn
  rw [← hnn] at h3 hn ⊢
  clear hpg hz hle hsucc hst hfin h hnn
  go_enter Try.func29, Try.ntmps29
  go_wp2_with fail
  go_loop [5, 6] (fun c i => ∃ j : Nat, j ≤ n ∧ i = .int .i64 (j : Int) ∧ c = .int .u64 (cN S k j : Int)) (fun _ i => n - (intOf i).toNat)
  case atStart => exact ⟨0, by omega, rfl, rfl⟩
  case round =>
    obtain ⟨j, hj, rfl, rfl⟩ := hrel
    by_cases hlt : j < n
    · have hlt' : j < S.pgs.length := by rw [← HN.out]; exact hlt
      obtain ⟨b, off, rfl, hc⟩ := HP.out (by omega)
      have c1 := (hc j hlt').2.1
      have hs := HS.out j hlt'
      have hb := HL.out j
      have ht := HT.out j hlt'
      generalize S.st S.pgs[j] = s at *
      have Hs : Hid _ := hs
      clear hc hs
      by_cases he : (s : Int) = k
      · have he' : ((s : Int) == k) = true := by simpa using he
        by_cases hk0 : k = 0
        · have hk' : (k != 0) = false := by simpa using hk0
          have z1 := HZ.out hk0 j
          have z2 := HZ.out hk0 (j + 1)
          clear he hk0
          go_wp2_with fail
          go_round
          case rel => exact ⟨j + 1, by omega, by go_num, by rw [z1, z2]⟩
          case measure => simp [intOf]; omega
        · have hk' : (k != 0) = true := by simpa using hk0
          clear he hk0
          go_wp2_with fail
          go_round
          case rel => exact ⟨j + 1, by omega, by go_num, by rw [Hs.out, if_pos (by simpa using he')]; go_num⟩
          case measure => simp [intOf]; omega
      · have he' : ((s : Int) == k) = false := by simpa using he
        clear he
        go_wp2_with fail
        go_round
        case rel => exact ⟨j + 1, by omega, by go_num, by rw [Hs.out, if_neg (by simpa using he')]; rfl⟩
        case measure => simp [intOf]; omega
    · obtain rfl : j = n := by omega
      go_wp2_with fail
      go_ret
      exact ⟨rfl, 0, rfl⟩
end Go.Proofs.Ytlfcnaalkjpgnaa
