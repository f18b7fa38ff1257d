/- Chapter 3's address space: what comes of the calls that the laws make, in closed form. -/
import Derived.Test.YtpceigglilgelaaSp
namespace Go.Proofs.Sp

theorem commit_ok {S : Sp} {page pages : Nat} (h1 : right page pages) (h2 : ∀ i, i < pages → S.st (page + i) ≠ 0) (j : Nat) (hj : j < pages) (h3 : S.st (page + j) ≠ 2) (h4 : S.refuse.headD false = false) :
    commitS S page pages = (0, readyN (takeRefuse S) page pages) := by
  unfold commitS
  rw [if_neg (Classical.not_not.2 h1), if_neg (Classical.not_not.2 h2), if_neg (fun h => h3 (h j hj)), h4, if_neg (by decide)]
theorem commit_refused {S : Sp} {page pages : Nat} (h1 : right page pages) (h2 : ∀ i, i < pages → S.st (page + i) ≠ 0) (j : Nat) (hj : j < pages) (h3 : S.st (page + j) ≠ 2) (h4 : S.refuse.headD false = true) :
    commitS S page pages = (13, takeRefuse S) := by
  unfold commitS
  rw [if_neg (Classical.not_not.2 h1), if_neg (Classical.not_not.2 h2), if_neg (fun h => h3 (h j hj)), if_pos h4]
theorem commit_ready {S : Sp} {page pages : Nat} (h1 : right page pages) (h2 : ∀ i, i < pages → S.st (page + i) = 2) : commitS S page pages = (0, S) := by
  unfold commitS
  rw [if_neg (Classical.not_not.2 h1), if_neg (Classical.not_not.2 fun i hi => by rw [h2 i hi]; decide), if_pos h2]
def relS (S : Sp) (page pages : Nat) : Sp := { S with st := fun p => if page ≤ p ∧ p < page + pages then 3 else S.st p }
theorem release_ok {S : Sp} {page pages : Nat} (h1 : right page pages) (h2 : ∀ i, i < pages → S.st (page + i) = 2) : releaseS S page pages = (0, relS S page pages) := by
  unfold releaseS
  rw [if_neg (Classical.not_not.2 h1), if_neg (Classical.not_not.2 h2)]
  rfl
theorem load_ok {S : Sp} {addr : Nat} (h1 : addr % 8 = 0) (h2 : S.st (addr / 8192) = 2) : loadS S addr = (S.wd addr, 0) := by
  unfold loadS; rw [if_neg (by omega), if_neg (by omega)]
def putS (S : Sp) (addr x : Nat) : Sp := { S with wd := fun a => if a = addr then x else S.wd a }
theorem store_ok {S : Sp} {addr x : Nat} (h1 : addr % 8 = 0) (h2 : S.st (addr / 8192) = 2) : storeS S addr x = (0, putS S addr x) := by
  unfold storeS; rw [if_neg (by omega), if_neg (by omega)]; rfl
def zerS (S : Sp) (addr bytes : Nat) : Sp := { S with wd := fun a => if addr ≤ a ∧ a < addr + bytes then 0 else S.wd a }

/-! ### A space in which pages 512 to 1023 are laid out -/
/-- n pages from 512 on are in state s, the others of the 512 are reserved. -/
def stN (n s p : Nat) : Nat := if 512 ≤ p ∧ p < 512 + n then s else if 512 ≤ p ∧ p < 1024 then 1 else 0
structure Base (S : Sp) (re : List Bool) (fi : List Nat) (n s : Nat) : Prop where
  refuse : S.refuse = re
  fills : S.fills = fi
  pgs : S.pgs = List.range' 512 512
  st : ∀ p, S.st p = stN n s p

theorem first_new (pl : List Nat) (re : List Bool) (fi : List Nat) : firstFrom (Sp.new pl re fi) 0 512 = some 512 :=
  first_at (by decide) ⟨by decide, by decide, by decide, fun _ _ => rfl⟩ (by decide) fun j _ h2 hf => by
    have := hf.1
    have := hf.2.1
    omega
theorem reserve_new (re : List Bool) (fi : List Nat) (h : re.headD false = false) : ∃ S1, reserveS (Sp.new [] re fi) 0 512 = (512, 0, S1) ∧ Base S1 re.tail fi 0 2 := by
  refine ⟨lay (takePlace (takeRefuse (Sp.new [] re fi))) 512 512, ?_, rfl, rfl, ?_, fun p => ?_⟩
  · unfold reserveS
    have e : (Sp.new [] re fi).refuse.headD false = false := h
    rw [if_neg (by decide), e, if_neg (by decide), first_new]
    rfl
  · show List.filter (fun x => decide (x < 512)) [] ++ (List.range' 512 512 ++ List.filter (fun x => decide (512 ≤ x)) []) = _
    rw [List.filter_nil, List.filter_nil, List.nil_append, List.append_nil]
  · show (if 512 ≤ p ∧ p < 512 + 512 then 1 else 0) = stN 0 2 p
    unfold stN
    rw [if_neg (c := 512 ≤ p ∧ p < 512 + 0) (by omega)]

theorem right512 {n : Nat} (h1 : 0 < n) (h2 : n ≤ 512) : right 512 n := ⟨h1, by omega⟩
/-- Pages that were reserved are made ready: their words are 0. -/
theorem base_commit {S : Sp} {re : List Bool} {fi : List Nat} {n s : Nat} (h : Base S re fi 0 s) (h1 : 0 < n) (h2 : n ≤ 512) (h3 : re.headD false = false) :
    ∃ S', commitS S 512 n = (0, S') ∧ Base S' re.tail fi n 2 ∧ ∀ a, 512 ≤ a / 8192 → a / 8192 < 512 + n → S'.wd a = 0 := by
  have one : ∀ i, i < n → S.st (512 + i) = 1 := fun i hi => by
    rw [h.st]; unfold stN; rw [if_neg (by omega), if_pos (by omega)]
  refine ⟨_, commit_ok (right512 h1 h2) (fun i hi => by rw [one i hi]; decide) 0 h1 (by rw [one 0 h1]; decide) (by rw [h.refuse]; exact h3), ⟨?_, ?_, ?_, ?_⟩, ?_⟩
  · rw [(readyN_keeps _ _ _).2.2]; show S.refuse.tail = _; rw [h.refuse]
  · rw [(readyN_new (takeRefuse S) 512 n one).1]; exact h.fills
  · rw [(readyN_keeps _ _ _).1]; exact h.pgs
  · intro p
    rw [readyN_st]
    show (if _ then 2 else S.st p) = _
    rw [h.st]
    unfold stN
    by_cases e : 512 ≤ p ∧ p < 512 + n
    · rw [if_pos e, if_pos e]
    · rw [if_neg e, if_neg e, if_neg (by omega)]
  · intro a ha hb
    rw [(readyN_new (takeRefuse S) 512 n one).2 a, if_pos ⟨ha, hb⟩]
/-- Pages that were released are made ready: a fill for each. -/
theorem base_again {S : Sp} {re : List Bool} {fi : List Nat} {n : Nat} (h : Base S re fi n 3) (h1 : 0 < n) (h2 : n ≤ 512) (h3 : re.headD false = false) :
    ∃ S', commitS S 512 n = (0, S') ∧ Base S' re.tail (fi.drop n) n 2 ∧ ∀ a, 512 ≤ a / 8192 → a / 8192 < 512 + n → S'.wd a = fi.getD (a / 8192 - 512) 0 := by
  have three : ∀ i, i < n → S.st (512 + i) = 3 := fun i hi => by
    rw [h.st]; unfold stN; rw [if_pos (by omega)]
  refine ⟨_, commit_ok (right512 h1 h2) (fun i hi => by rw [three i hi]; decide) 0 h1 (by rw [three 0 h1]; decide) (by rw [h.refuse]; exact h3), ⟨?_, ?_, ?_, ?_⟩, ?_⟩
  · rw [(readyN_keeps _ _ _).2.2]; show S.refuse.tail = _; rw [h.refuse]
  · rw [(readyN_again (takeRefuse S) 512 n three).1]; show S.fills.drop n = _; rw [h.fills]
  · rw [(readyN_keeps _ _ _).1]; exact h.pgs
  · intro p
    rw [readyN_st]
    show (if _ then 2 else S.st p) = _
    rw [h.st]
    unfold stN
    by_cases e : 512 ≤ p ∧ p < 512 + n
    · rw [if_pos e, if_pos e]
    · rw [if_neg e, if_neg e, if_neg e]
  · intro a ha hb
    rw [(readyN_again (takeRefuse S) 512 n three).2 a, if_pos ⟨ha, hb⟩]
    show S.fills.getD _ 0 = _
    rw [h.fills]
theorem base_ready {S : Sp} {re : List Bool} {fi : List Nat} {n : Nat} (h : Base S re fi n 2) (h1 : 0 < n) (h2 : n ≤ 512) : commitS S 512 n = (0, S) :=
  commit_ready (right512 h1 h2) fun i hi => by rw [h.st]; unfold stN; rw [if_pos (by omega)]
theorem base_release {S : Sp} {re : List Bool} {fi : List Nat} {n : Nat} (h : Base S re fi n 2) (h1 : 0 < n) (h2 : n ≤ 512) : ∃ S', releaseS S 512 n = (0, S') ∧ Base S' re fi n 3 := by
  refine ⟨_, release_ok (right512 h1 h2) fun i hi => by rw [h.st]; unfold stN; rw [if_pos (by omega)], h.refuse, h.fills, h.pgs, fun p => ?_⟩
  show (if 512 ≤ p ∧ p < 512 + n then 3 else S.st p) = _
  rw [h.st]
  unfold stN
  by_cases e : 512 ≤ p ∧ p < 512 + n
  · rw [if_pos e, if_pos e]
  · rw [if_neg e, if_neg e, if_neg e]
theorem base_st {S : Sp} {re : List Bool} {fi : List Nat} {n s : Nat} (h : Base S re fi n s) {p : Nat} (h1 : 512 ≤ p) (h2 : p < 512 + n) : S.st p = s := by rw [h.st]; unfold stN; rw [if_pos ⟨h1, h2⟩]
theorem base_stored {S : Sp} {re : List Bool} {fi : List Nat} {n s : Nat} (h : Base S re fi n s) (addr x : Nat) : Base (putS S addr x) re fi n s := ⟨h.refuse, h.fills, h.pgs, h.st⟩

/-! ### Counts -/
theorem countP_none {P : Nat → Bool} : ∀ (l : List Nat), (∀ p ∈ l, P p = false) → l.countP P = 0 := by
  intro l h
  rw [List.countP_eq_zero]
  intro p hp
  rw [h p hp]; decide
theorem countP_all {P : Nat → Bool} : ∀ (l : List Nat), (∀ p ∈ l, P p = true) → l.countP P = l.length := by
  intro l h
  exact List.countP_eq_length.2 h
theorem range_split (n : Nat) (h : n ≤ 512) : List.range' 512 512 = List.range' 512 n ++ List.range' (512 + n) (512 - n) := by
  have := List.range'_append_1 (s := 512) (m := n) (n := 512 - n)
  rw [this, show n + (512 - n) = 512 by omega]
theorem base_count {S : Sp} {re : List Bool} {fi : List Nat} {n s : Nat} (h : Base S re fi n s) (h2 : n ≤ 512) (hs : s ≠ 1) : countS S (s : Int) = n ∧ countS S 1 = 512 - n := by
  unfold countS
  rw [h.pgs, range_split n h2, List.countP_append, List.countP_append]
  have a : ∀ p ∈ List.range' 512 n, S.st p = s := fun p hp => by
    have := List.mem_range'_1.1 hp
    rw [h.st]; unfold stN; rw [if_pos (by omega)]
  have b : ∀ p ∈ List.range' (512 + n) (512 - n), S.st p = 1 := fun p hp => by
    have := List.mem_range'_1.1 hp
    rw [h.st]; unfold stN; rw [if_neg (by omega), if_pos (by omega)]
  constructor
  · rw [countP_all _ (fun p hp => by rw [a p hp]; simp), countP_none _ (fun p hp => by rw [b p hp]; simp; omega)]
    simp
  · rw [countP_none _ (fun p hp => by rw [a p hp]; simp; omega), countP_all _ (fun p hp => by rw [b p hp]; simp)]
    simp

/-! ### Clearing -/
theorem zero_ok {S : Sp} {addr bytes : Nat} (h1 : addr % 8 = 0) (h2 : bytes % 8 = 0) (h3 : bytes ≠ 0 → allReady S addr bytes) : zeroS S addr bytes = (0, zerS S addr bytes) := by
  unfold zeroS
  rw [if_neg (by omega)]
  by_cases h : bytes = 0
  · rw [if_pos h]
    have : zerS S addr bytes = S := by
      unfold zerS
      have : (fun a => if addr ≤ a ∧ a < addr + bytes then 0 else S.wd a) = S.wd := by
        funext a; rw [if_neg (by omega)]
      rw [this]
    rw [this]
  · rw [if_neg h, if_neg (Classical.not_not.2 (h3 h))]; rfl
theorem zero_align {S : Sp} {addr bytes : Nat} (h : addr % 8 ≠ 0 ∨ bytes % 8 ≠ 0) : zeroS S addr bytes = (11, S) := by unfold zeroS; rw [if_pos h]
theorem zero_fault {S : Sp} {addr bytes : Nat} (h1 : addr % 8 = 0) (h2 : bytes % 8 = 0) (h3 : bytes ≠ 0) (h4 : ¬ allReady S addr bytes) : zeroS S addr bytes = (12, S) := by
  unfold zeroS; rw [if_neg (by omega), if_neg h3, if_pos h4]

def wantZ (f a n i : Nat) : Nat := if a ≤ i ∧ i < a + n then 0 else (f + i / 1024) % 18446744073709551616
theorem zeroes_facts (f a n : Nat) (hf : f < 18446744073709551616) (hs : a + n ≤ 4096) : ∃ S1 S2 S3 S4 S5,
    reserveS (Sp.new [] [] [f, (f + 1) % 18446744073709551616, (f + 2) % 18446744073709551616, (f + 3) % 18446744073709551616]) 0 512 = (512, 0, S1) ∧ commitS S1 512 4 = (0, S2) ∧ releaseS S2 512 4 = (0, S3) ∧ commitS S3 512 4 = (0, S4) ∧
    zeroS S4 (4194304 + 8 * a) (8 * n) = (0, S5) ∧ zeroS S5 4194308 8 = (11, S5) ∧ zeroS S5 4194304 40960 = (12, S5) ∧ ∀ i, i < 4096 → loadS S5 (4194304 + 8 * i) = (wantZ f a n i, 0) := by
  obtain ⟨S1, e1, b1⟩ := reserve_new [] [f, (f + 1) % 18446744073709551616, (f + 2) % 18446744073709551616, (f + 3) % 18446744073709551616] rfl
  obtain ⟨S2, e2, b2, _⟩ := base_commit (n := 4) b1 (by decide) (by decide) rfl
  obtain ⟨S3, e3, b3⟩ := base_release (n := 4) b2 (by decide) (by decide)
  obtain ⟨S4, e4, b4, g4⟩ := base_again (n := 4) b3 (by decide) (by decide) rfl
  refine ⟨S1, S2, S3, S4, _, e1, e2, e3, e4, zero_ok (by omega) (by omega) ?_, zero_align (by decide), zero_fault (by decide) (by decide) (by decide) ?_, ?_⟩
  · intro _ i hi
    exact base_st b4 (by omega) (by omega)
  · intro h
    have := h 4 (by decide)
    have e : S4.st 516 = 2 := this
    rw [b4.st] at e
    exact absurd e (by decide)
  · intro i hi
    have d : (4194304 + 8 * i) / 8192 = 512 + i / 1024 := by omega
    have hst : (zerS S4 (4194304 + 8 * a) (8 * n)).st ((4194304 + 8 * i) / 8192) = 2 := base_st b4 (by omega) (by omega)
    rw [load_ok (by omega) hst]
    have hw : (zerS S4 (4194304 + 8 * a) (8 * n)).wd (4194304 + 8 * i) = wantZ f a n i := by
      show (if 4194304 + 8 * a ≤ 4194304 + 8 * i ∧ 4194304 + 8 * i < 4194304 + 8 * a + 8 * n then 0 else S4.wd (4194304 + 8 * i)) = _
      unfold wantZ
      by_cases c : a ≤ i ∧ i < a + n
      · rw [if_pos c, if_pos (by omega)]
      · rw [if_neg c, if_neg (by omega), g4 _ (by omega) (by omega), d, show 512 + i / 1024 - 512 = i / 1024 by omega]
        have q : i / 1024 < 4 := by omega
        generalize i / 1024 = k at *
        match k, q with
        | 0, _ => show f = _; rw [Nat.add_zero, Nat.mod_eq_of_lt hf]
        | 1, _ => rfl
        | 2, _ => rfl
        | 3, _ => rfl
    rw [hw]

/-! ### Fills, round by round -/
structure FillsAt (L : List Nat) (n u : Nat) (first : Bool) (T : Sp) : Prop where
  base : Base T [] (L.drop u) n 2
  wd : ∀ a, 512 ≤ a / 8192 → a / 8192 < 512 + n → T.wd a = if first then 0 else L.getD (u - n + (a / 8192 - 512)) 0
theorem fills_start (L : List Nat) (n : Nat) (h1 : 0 < n) (h2 : n ≤ 512) : ∃ S1 S2, reserveS (Sp.new [] [] L) 0 512 = (512, 0, S1) ∧ commitS S1 512 n = (0, S2) ∧ FillsAt L n 0 true S2 := by
  obtain ⟨S1, e1, b1⟩ := reserve_new [] L rfl
  obtain ⟨S2, e2, b2, z2⟩ := base_commit b1 h1 h2 rfl
  exact ⟨S1, S2, e1, e2, b2, fun a x y => by rw [if_pos rfl]; exact z2 a x y⟩
theorem fills_round {L : List Nat} {n u : Nat} {first : Bool} {T : Sp} (h : FillsAt L n u first T) (h1 : 0 < n) (h2 : n ≤ 512) : ∃ T1 T2, releaseS T 512 n = (0, T1) ∧ commitS T1 512 n = (0, T2) ∧ FillsAt L n (u + n) false T2 := by
  obtain ⟨T1, e1, b1⟩ := base_release h.base h1 h2
  obtain ⟨T2, e2, b2, z2⟩ := base_again b1 h1 h2 rfl
  refine ⟨T1, T2, e1, e2, by rw [List.drop_drop] at b2; exact b2, fun a x y => ?_⟩
  rw [if_neg (by decide), z2 a x y, show u + n - n = u by omega]
  rw [List.getD_eq_getElem?_getD, List.getD_eq_getElem?_getD, List.getElem?_drop]
theorem fills_load {L : List Nat} {n u : Nat} {first : Bool} {T : Sp} (h : FillsAt L n u first T) (hn : n ≤ 512) (k : Nat) (hk : k < n) : loadS T ((512 + k) * 8192 + 8 * k) = (if first then 0 else L.getD (u - n + k) 0, 0) := by
  have d : ((512 + k) * 8192 + 8 * k) / 8192 = 512 + k := by omega
  rw [load_ok (by omega) (base_st h.base (by omega) (by omega)), h.wd _ (by omega) (by omega), d, show 512 + k - 512 = k by omega]

/-! ### Refusals -/
theorem base_refused {S : Sp} {re : List Bool} {fi : List Nat} {s : Nat} (h : Base S (true :: re) fi 0 s) {n : Nat} (h1 : 0 < n) (h2 : n ≤ 512) :
    commitS S 512 n = (13, takeRefuse S) ∧ reserveS S 0 512 = (0, 13, takeRefuse S) ∧ Base (takeRefuse S) re fi 0 s := by
  have one : ∀ i, i < n → S.st (512 + i) = 1 := fun i hi => by
    rw [h.st]; unfold stN; rw [if_neg (by omega), if_pos (by omega)]
  refine ⟨commit_refused (right512 h1 h2) (fun i hi => by rw [one i hi]; decide) 0 h1 (by rw [one 0 h1]; decide) (by rw [h.refuse]; rfl), ?_, ⟨?_, h.fills, h.pgs, h.st⟩⟩
  · unfold reserveS
    rw [if_neg (by decide), h.refuse, if_pos (show (true :: re).headD false = true from rfl)]
  · show S.refuse.tail = re
    rw [h.refuse]; rfl

/-! ### What is kept -/
/-- Eight pages are ready; the first k words, 640 apart, are X's. -/
structure KeepsAt (X : Nat → Nat) (f k : Nat) (T : Sp) : Prop where
  base : Base T [] [f] 8 2
  wd : ∀ j, j < k → T.wd (4194304 + j * 640) = X j
theorem keeps_start (X : Nat → Nat) (f : Nat) : ∃ S1 S2, reserveS (Sp.new [] [] [f]) 0 512 = (512, 0, S1) ∧ commitS S1 512 8 = (0, S2) ∧ KeepsAt X f 0 S2 := by
  obtain ⟨S1, e1, b1⟩ := reserve_new [] [f] rfl
  obtain ⟨S2, e2, b2, _⟩ := base_commit (n := 8) b1 (by decide) (by decide) rfl
  exact ⟨S1, S2, e1, e2, b2, fun j h => absurd h (by omega)⟩
theorem keeps_store {X : Nat → Nat} {f k : Nat} {T : Sp} (h : KeepsAt X f k T) (hk : k < 100) : ∃ T', storeS T (4194304 + k * 640) (X k) = (0, T') ∧ KeepsAt X f (k + 1) T' := by
  refine ⟨_, store_ok (by omega) (base_st h.base (by omega) (by omega)), base_stored h.base _ _, fun j hj => ?_⟩
  show (if 4194304 + j * 640 = 4194304 + k * 640 then X k else T.wd (4194304 + j * 640)) = _
  by_cases e : j = k
  · rw [if_pos (by omega), e]
  · rw [if_neg (by omega)]; exact h.wd j (by omega)
theorem keeps_end {X : Nat → Nat} {f k : Nat} {T : Sp} (h : KeepsAt X f k T) (hk : k ≤ 100) (g : Nat) (g1 : 512 ≤ g) (g2 : g < 520) : ∃ U1 U, releaseS T g 1 = (0, U1) ∧ commitS U1 g 1 = (0, U) ∧
    (∀ j, j < k → loadS U (4194304 + j * 640) = (if (4194304 + j * 640) / 8192 = g then f else X j, 0)) ∧ loadS U (g * 8192 + 8184) = (f, 0) := by
  have hr : right g 1 := ⟨by decide, by omega⟩
  have e1 := release_ok (S := T) hr fun i hi => by rw [show g + i = g by omega]; exact base_st h.base g1 (by omega)
  have three : (relS T g 1).st g = 3 := by show (if g ≤ g ∧ g < g + 1 then 3 else T.st g) = 3; rw [if_pos (by omega)]
  have e2 := commit_ok (S := relS T g 1) hr (fun i hi => by rw [show g + i = g by omega, three]; decide) 0 (by decide) (by rw [Nat.add_zero, three]; decide) (by show T.refuse.headD false = false; rw [h.base.refuse]; rfl)
  have again := (readyN_again (takeRefuse (relS T g 1)) g 1 (fun i hi => by rw [show g + i = g by omega]; exact three)).2
  have hst : ∀ p, 512 ≤ p → p < 520 → (readyN (takeRefuse (relS T g 1)) g 1).st p = 2 := by
    intro p p1 p2
    rw [readyN_st]
    by_cases e : g ≤ p ∧ p < g + 1
    · rw [if_pos e]
    · rw [if_neg e]
      show (if g ≤ p ∧ p < g + 1 then 3 else T.st p) = 2
      rw [if_neg e]; exact base_st h.base p1 (by omega)
  have hfi : (takeRefuse (relS T g 1)).fills = [f] := h.base.fills
  refine ⟨_, _, e1, e2, fun j hj => ?_, ?_⟩
  · rw [load_ok (by omega) (hst _ (by omega) (by omega)), again]
    by_cases e : (4194304 + j * 640) / 8192 = g
    · rw [if_pos e, if_pos (by omega), hfi, show (4194304 + j * 640) / 8192 - g = 0 by omega]; rfl
    · rw [if_neg e, if_neg (by omega)]
      show (T.wd (4194304 + j * 640), 0) = _
      rw [h.wd j hj]
  · have d : (g * 8192 + 8184) / 8192 = g := by omega
    rw [load_ok (by omega) (hst _ (by omega) (by omega)), again, d, if_pos (by omega), hfi, Nat.sub_self]; rfl

end Go.Proofs.Sp
