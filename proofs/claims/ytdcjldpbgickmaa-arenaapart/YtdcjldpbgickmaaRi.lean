/- ArenaRising: all of it. -/
import Derived.Test.YtdcjldpbgickmaaCk
import Derived.Test.YtdcjldpbgickmaaEv
import Derived.Test.YtdcjldpbgickmaaArg
namespace Go.Proofs.Ytdcjldpbgickmaa
open Go.ChangeShapes Go.WideShapes Go.ChangeAt Go.RowKit Go.Shelf Go.Proofs.Rx Go.Maps
set_option linter.unusedVariables false
set_option linter.unusedSimpArgs false

attribute [local go_sem] Oper.semAt_some

/-! ### A set of numbers, as a map of truths -/
def bEl : Value → Option (DataW Unit × List MemPlace)
  | .bool x => some (.lit (.bool x), [])
  | _ => none
theorem bEl_back {v : Value} {x : Bool} {ps : List MemPlace} (h : bEl v = some (.lit (.bool x), ps)) : v = .bool x := by
  unfold bEl at h
  split at h
  · simp at h; rw [h.1]
  · cases h
theorem zeroBo (w : World) : (zeroValue 4).run Try.prog w = .ok (.bool false) w := by kernel_rfl
theorem tyBo : Try.prog.underlying 47 = some (.map 35 4) := by kernel_rfl
def SetM (w : World) (b : Nat) (S : Nat → Bool) (c : Nat) : Prop :=
  ∃ n D, w.ownsMap Try.prog 35 bEl b n D ∧ n ≤ c ∧ Maps.size D = c ∧ ∀ p, p < 18446744073709551616 → has D (key p) = S p ∧ D.atKey (key p) (.lit (.bool false)) = .lit (.bool (S p))
section
variable {w w' : World} {b c : Nat} {S : Nat → Bool}
theorem SetM.lt (h : SetM w b S c) : b < w.heap.size := by obtain ⟨n, D, h, _⟩ := h; exact h.lt
theorem SetM.same (h : SetM w b S c) (hb : w'.heap[b]? = w.heap[b]?) : SetM w' b S c := by
  obtain ⟨n, D, ⟨es, clock, h1, h2⟩, r⟩ := h
  exact ⟨n, D, ⟨es, clock, hb.trans h1, h2⟩, r⟩
theorem SetM.made (w : World) : SetM (w.alloc (.map #[] 0)) w.heap.size (fun _ => false) 0 :=
  ⟨0, _, World.ownsMap_made w Try.prog 35 bEl, Nat.le_refl _, rfl, fun _ _ => ⟨rfl, rfl⟩⟩
theorem SetM.look (h : SetM w b S c) (p : Nat) (hp : p < 18446744073709551616) :
    (Instr.lookup 47 (.map (some b)) (.int .u64 (p : Int)) false).run Try.prog w = .ok (.bool (S p)) w := by
  obtain ⟨n, D, hD, _, _, hM⟩ := h
  obtain ⟨v, ps, hrun, hv⟩ := hD.lookup keyU tyBo (zeroBo w) (zd := .lit (.bool false)) (zp := []) rfl (key_of p hp)
  rw [(hM p hp).2] at hv
  rw [hrun, bEl_back hv]
theorem SetM.len (h : SetM w b S c) (ty : TypeId) : (Builtin.len_ #[47] ty #[.map (some b)]).run Try.prog w = .ok (.int .i64 (c : Nat)) w := by
  obtain ⟨n, D, hD, _, hs, _⟩ := h
  rw [hD.len tyBo ty, hs]
theorem SetM.put (h : SetM w b S c) (hc : c < 100000) (p : Nat) (hp : p < 18446744073709551616) (hS : S p = false) :
    ∃ w', (Instr.mapUpdate 47 (.map (some b)) (.int .u64 (p : Int)) (.bool true)).run Try.prog w = .ok () w' ∧ SetM w' b (fun q => if q = p then true else S q) (c + 1) ∧ Kept (fun x => x = b) w w' := by
  obtain ⟨n, D, hD, hn, hs, hM⟩ := h
  have hn2 : n < 100000 := by omega
  have hn3 : n < maxLen := Nat.lt_trans hn2 (by decide)
  obtain ⟨w', hrun, h1, h2⟩ := hD.update keyU tyBo hn3 (key_of p hp) (val := .bool true) (d := .lit (.bool true)) (ps := []) rfl
  have e0 : Maps.size (D.put (key p) (.lit (.bool true))) = c + 1 := by rw [size_put (hD.tidy keyU), (hM p hp).1, hS, if_neg (by decide), hs]
  refine ⟨w', hrun, ⟨c + 1, _, ?_, Nat.le_refl _, e0, fun q hq => ?_⟩, Kept.of_grown h2 (fun k e => (Option.some.inj e).symm)⟩
  · obtain ⟨es, clock, e1, e2, e3, e4⟩ := h1
    refine ⟨es, clock, e1, e2, ?_, e4⟩
    rw [← e0, e4, size_eq, length_sorted]
    simp
  · by_cases z : q = p
    · subst z
      simp only [if_true]
      exact ⟨has_put_same hD.isMap (key_lit _) _, atKey_put_same hD.isMap (key_lit _) _ _⟩
    · simp only [if_neg z]
      have hne : key q ≠ key p := fun u => z (key_inj u)
      exact ⟨(has_put_other hne _).trans (hM q hq).1, (atKey_put_other hne _ _).trans (hM q hq).2⟩
end
/-- Where the law's own variables lie. -/
structure Rb where
  N : Nat
  bm : Nat
  bt : Nat
  mt : Nat
def Rb.O (b : Rb) (E : Nat → Prop) (z : Nat) : Prop := z = b.N ∨ z = b.N + 1 ∨ z = b.bm ∨ z = b.bt ∨ z = b.mt ∨ E z
structure Ri (b : Rb) (E : Nat → Prop) (w W : World) (s : Int) (mb : Nat) (C S : Nat → Bool) (K : List Nat) : Prop where
  am : Am b.N (b.O E) w W mb C (fun _ => 0)
  bs : Boxed W b.N 3 (.int .i64 s)
  br : Boxed W (b.N + 1) 4 (.bool false)
  bm : Boxed W b.bm 24 (.pointer (some ⟨mb, 0, none⟩))
  bt : Boxed W b.bt 47 (.map (some b.mt))
  se : SetM W b.mt S K.length
  nd : K.Nodup
  me : ∀ p, p ∈ K ↔ S p = true
  ne : b.N + 1 < b.bm ∧ b.N + 1 < b.bt ∧ b.bm ≠ b.bt ∧ b.N + 1 < b.mt ∧ b.mt ≠ b.bm ∧ b.mt ≠ b.bt
section
variable {b : Rb} {E : Nat → Prop} {w W W' : World} {s : Int} {mb : Nat} {C C' S : Nat → Bool} {K : List Nat}
theorem Ri.own {F : Nat → Prop} (h : Ri b E w W s mb C S K) (am : Am b.N (b.O E) w W' mb C' (fun _ => 0)) (k : Kept F W W') (hF : ∀ z, b.O (fun _ => False) z → ¬ F z) : Ri b E w W' s mb C' S K :=
  ⟨am, boxed_kept h.bs k (hF _ (.inl rfl)), boxed_kept h.br k (hF _ (.inr (.inl rfl))), boxed_kept h.bm k (hF _ (.inr (.inr (.inl rfl)))), boxed_kept h.bt k (hF _ (.inr (.inr (.inr (.inl rfl))))),
    h.se.same (k.block _ h.se.lt (hF _ (.inr (.inr (.inr (.inr (.inl rfl))))))), h.nd, h.me, h.ne⟩
theorem Rb.sub {z : Nat} (h : b.O (fun _ => False) z) : b.O E z := by
  rcases h with h | h | h | h | h | h
  · exact .inl h
  · exact .inr (.inl h)
  · exact .inr (.inr (.inl h))
  · exact .inr (.inr (.inr (.inl h)))
  · exact .inr (.inr (.inr (.inr (.inl h))))
  · exact h.elim
theorem Rb.ge {z : Nat} (h : b.O (fun _ => False) z) (ne : b.N + 1 < b.bm ∧ b.N + 1 < b.bt ∧ b.bm ≠ b.bt ∧ b.N + 1 < b.mt ∧ b.mt ≠ b.bm ∧ b.mt ≠ b.bt) : b.N ≤ z := by
  rcases h with h | h | h | h | h | h
  · omega
  · omega
  · omega
  · omega
  · omega
  · exact h.elim
theorem Ri.read (h : Ri b E w W s mb C S K) (k : Below W.heap.size W W') : Ri b E w W' s mb C S K :=
  h.own (h.am.read k).1 (Kept.of_below (F := fun _ => False) k) (fun _ _ z => z)
theorem Ri.left (h : Ri b E w W s mb C S K) (am : Am b.N (b.O E) w W' mb C' (fun _ => 0)) (k : LeftA b.N (b.O E) W W') : Ri b E w W' s mb C' S K :=
  h.own am k (fun z hz u => u.2 (Rb.sub hz))
/-- A block of the extras is written. -/
theorem Ri.ext {F : Nat → Prop} (h : Ri b E w W s mb C S K) (k : Kept F W W') (hF : ∀ z, F z → E z ∧ b.N ≤ z ∧ ¬ b.O (fun _ => False) z) : Ri b E w W' s mb C S K :=
  h.own (h.am.more (k.mono fun z hz => ⟨(hF z hz).2.1, .inr (.inr (.inr (.inr (.inr (hF z hz).1))))⟩) (fun z hz => .inl hz) (fun z hz => Nat.lt_of_lt_of_le (h.am.ol z hz) k.size)) k (fun z hz f => (hF z f).2.2 hz)
/-- New extras. -/
theorem Ri.grow {E' : Nat → Prop} (h : Ri b E w W s mb C S K) (k : Below W.heap.size W W') (hE : ∀ z, E' z → W.heap.size ≤ z ∧ z < W'.heap.size) : Ri b E' w W' s mb C S K := by
  have kk : Kept (fun _ => False) W W' := Kept.of_below k
  have am : Am b.N (b.O E') w W' mb C (fun _ => 0) := by
    refine h.am.more (kk.mono fun z hz => hz.elim) (fun z hz => ?_) (fun z hz => ?_)
    · by_cases c : E' z
      · exact .inr (hE z c).1
      · refine .inl ?_
        rcases hz with u | u | u | u | u | u
        · exact .inl u
        · exact .inr (.inl u)
        · exact .inr (.inr (.inl u))
        · exact .inr (.inr (.inr (.inl u)))
        · exact .inr (.inr (.inr (.inr (.inl u))))
        · exact absurd u c
    · by_cases c : E' z
      · exact (hE z c).2
      · refine Nat.lt_of_lt_of_le (h.am.ol z ?_) k.size
        rcases hz with u | u | u | u | u | u
        · exact .inl u
        · exact .inr (.inl u)
        · exact .inr (.inr (.inl u))
        · exact .inr (.inr (.inr (.inl u)))
        · exact .inr (.inr (.inr (.inr (.inl u))))
        · exact absurd u c
  exact ⟨am, boxed_kept h.bs kk id, boxed_kept h.br kk id, boxed_kept h.bm kk id, boxed_kept h.bt kk id, h.se.same (kk.block _ h.se.lt id), h.nd, h.me, h.ne⟩
/-- The set is written. -/
theorem Ri.put (h : Ri b E w W s mb C S K) (p : Nat) (hp : p < 18446744073709551616) (hK : K.length < 100) (hS : S p = false) (hC : C = fun q => if q = p then true else S q) (hE : ∀ z, E z → ¬ b.O (fun _ => False) z) :
    ∃ W', (Instr.mapUpdate 47 (.map (some b.mt)) (.int .u64 (p : Int)) (.bool true)).run Try.prog W = .ok () W' ∧ Ri b E w W' s mb C C (p :: K) ∧ Kept (fun x => x = b.mt) W W' := by
  obtain ⟨W', h1, h2, h3⟩ := h.se.put (by omega) p hp hS
  obtain ⟨n1, n2, n3, n4, n5, n6⟩ := h.ne
  refine ⟨W', h1, ⟨h.am.more (h3.mono fun z hz => ?_) (fun z hz => .inl hz) (fun z hz => Nat.lt_of_lt_of_le (h.am.ol z hz) h3.size), boxed_kept h.bs h3 (by omega), boxed_kept h.br h3 (by omega), boxed_kept h.bm h3 (by omega), boxed_kept h.bt h3 (by omega), ?_, ?_, fun q => ?_, h.ne⟩, h3⟩
  · subst hz; exact ⟨by omega, .inr (.inr (.inr (.inr (.inl rfl))))⟩
  · rw [List.length_cons, hC]; exact h2
  · refine List.nodup_cons.2 ⟨fun z => ?_, h.nd⟩
    rw [(h.me p).1 z] at hS; cases hS
  · rw [List.mem_cons, hC]
    by_cases z : q = p
    · simp [z]
    · simp only [z, false_or, if_false]; exact h.me q
theorem ri_arg (h : Ri b E w W s mb C S K) (c : Int) (h0 : 0 ≤ c) (hc : 67108864 ≤ c) :
    Calls Try.prog 15 #[.pointer (some ⟨mb, 0, none⟩), .int .u64 c] W fun e W' => e = .returned (.int .i64 1) ∧ Ri b E w W' s mb C S K := by
  obtain ⟨n, rfl⟩ : ∃ n : Nat, c = n := ⟨c.toNat, by omega⟩
  refine (am_add h.am n).mono ?_
  rintro e W' ⟨rfl, a, l⟩
  rw [show addC C n = C from funext fun q => by unfold addC; rw [if_neg (by omega)]] at a
  exact ⟨by unfold addE; rw [if_pos (by omega)], h.left a l⟩
theorem ri_twice (h : Ri b E w W s mb C S K) (c : Int) (h0 : 0 ≤ c) (hc : c < 67108864) (hC : C c.toNat = true) :
    Calls Try.prog 15 #[.pointer (some ⟨mb, 0, none⟩), .int .u64 c] W fun e W' => e = .returned (.int .i64 34) ∧ Ri b E w W' s mb C S K := by
  obtain ⟨n, rfl⟩ : ∃ n : Nat, c = n := ⟨c.toNat, by omega⟩
  rw [Int.toNat_natCast] at hC
  refine (am_add h.am n).mono ?_
  rintro e W' ⟨rfl, a, l⟩
  rw [show addC C n = C from funext fun q => by
    unfold addC
    by_cases z : q = n
    · rw [if_pos ⟨by omega, z⟩, z, hC]
    · rw [if_neg (by omega)]] at a
  exact ⟨by unfold addE; rw [if_neg (by omega), if_pos hC], h.left a l⟩
theorem ri_new (h : Ri b E w W s mb C S K) (c : Int) (h0 : 0 ≤ c) (hc : c < 67108864) (hC : C c.toNat = false) :
    Calls Try.prog 15 #[.pointer (some ⟨mb, 0, none⟩), .int .u64 c] W fun e W' => e = .returned (.int .i64 0) ∧ Ri b E w W' s mb (fun q => if q = c.toNat then true else C q) S K := by
  obtain ⟨n, rfl⟩ : ∃ n : Nat, c = n := ⟨c.toNat, by omega⟩
  rw [Int.toNat_natCast] at hC ⊢
  refine (am_add h.am n).mono ?_
  rintro e W' ⟨rfl, a, l⟩
  rw [show addC C n = fun q => if q = n then true else C q from funext fun q => by
    unfold addC
    by_cases z : q = n
    · rw [if_pos ⟨by omega, z⟩, if_pos z]
    · rw [if_neg (by omega), if_neg z]] at a
  exact ⟨by unfold addE; rw [if_neg (by omega), if_neg (by rw [hC]; decide)], h.left a l⟩
end
/-- Within the range: so many were told, the last of them l. -/
structure RI (N N3 n0 M : Nat) (Φ : Nat → Prop) (w : World) (s : Int) (mb : Nat) (C : Nat → Bool) (c : Nat) (B0 : Nat) (v : Value) (L : List Nat) (k l : Nat) (W : World) : Prop where
  ar : Ar W mb Φ C (fun _ => 0)
  bs : Boxed W N 3 (.int .i64 s)
  br : Boxed W (N + 1) 4 (.bool false)
  bm : Boxed W N3 24 (.pointer (some ⟨mb, 0, none⟩))
  bt : Boxed W (N3 + 2) 47 (.map (some (N3 + 1)))
  se : SetM W (N3 + 1) C c
  bn : Boxed W n0 3 (.int .i64 (k : Nat))
  bl : Boxed W (n0 + 1) 35 (.int .u64 (l : Nat))
  rd : RdC (n0 + 2) M B0 v L W
  be : Below N w W
  le : N + 2 ≤ N3 ∧ N3 + 3 ≤ n0 ∧ n0 + 2 ≤ M
section
variable {N N3 n0 M : Nat} {Φ : Nat → Prop} {w : World} {s : Int} {mb : Nat} {C : Nat → Bool} {c B0 : Nat} {v : Value} {L : List Nat} {k l : Nat} {W W' : World}
theorem RI.kept {F : Nat → Prop} (h : RI N N3 n0 M Φ w s mb C c B0 v L k l W) (kk : Kept F W W') (hF : ∀ z, F z → M ≤ z) (hP : ∀ z, Φ z → z < M) : RI N N3 n0 M Φ w s mb C c B0 v L k l W' := by
  obtain ⟨l1, l2, l3⟩ := h.le
  have nf : ∀ z, z < M → ¬ F z := fun z hz f => by have := hF z f; omega
  exact ⟨h.ar.kept kk (fun b hb => nf b (hP b hb)), boxed_kept h.bs kk (nf _ (by omega)), boxed_kept h.br kk (nf _ (by omega)), boxed_kept h.bm kk (nf _ (by omega)), boxed_kept h.bt kk (nf _ (by omega)), h.se.same (kk.block _ h.se.lt (nf _ (by omega))),
    boxed_kept h.bn kk (nf _ (by omega)), boxed_kept h.bl kk (nf _ (by omega)), h.rd.kept kk (fun z hz => .inr (hF z hz)), below_kept h.be kk (fun z hz => by have := hF z hz; omega) (by have := h.rd.hi; omega), h.le⟩
theorem RI.below (h : RI N N3 n0 M Φ w s mb C c B0 v L k l W) (kk : Below W.heap.size W W') (hP : ∀ z, Φ z → z < M) : RI N N3 n0 M Φ w s mb C c B0 v L k l W' :=
  h.kept (Kept.of_below (F := fun _ => False) kk) (fun _ f => f.elim) hP
theorem RI.setl (h : RI N N3 n0 M Φ w s mb C c B0 v L k l W) (hP : ∀ z, Φ z → z ≠ n0 ∧ z ≠ n0 + 1) (x : Nat) : RI N N3 n0 M Φ w s mb C c B0 v L k x (W.setCell ⟨n0 + 1, 0, none⟩ (.int .u64 (x : Nat))) := by
  obtain ⟨l1, l2, l3⟩ := h.le
  have kk := kept_set (F := fun z => z = n0 + 1) W (n0 + 1) 0 (.int .u64 (x : Nat)) rfl
  have nf : ∀ z, z ≠ n0 + 1 → ¬ z = n0 + 1 := fun z hz => hz
  exact ⟨h.ar.kept kk (fun b hb => (hP b hb).2), boxed_kept h.bs kk (by omega), boxed_kept h.br kk (by omega), boxed_kept h.bm kk (by omega), boxed_kept h.bt kk (by omega), h.se.same (kk.block _ h.se.lt (by omega)),
    boxed_kept h.bn kk (by omega), h.bl.set _, h.rd.kept kk (fun z hz => by omega), below_kept h.be kk (fun z hz => by omega) (by have := h.rd.hi; omega), h.le⟩
theorem RI.setn (h : RI N N3 n0 M Φ w s mb C c B0 v L k l W) (hP : ∀ z, Φ z → z ≠ n0 ∧ z ≠ n0 + 1) (x : Nat) : RI N N3 n0 M Φ w s mb C c B0 v L x l (W.setCell ⟨n0, 0, none⟩ (.int .i64 (x : Nat))) := by
  obtain ⟨l1, l2, l3⟩ := h.le
  have kk := kept_set (F := fun z => z = n0) W n0 0 (.int .i64 (x : Nat)) rfl
  exact ⟨h.ar.kept kk (fun b hb => (hP b hb).1), boxed_kept h.bs kk (by omega), boxed_kept h.br kk (by omega), boxed_kept h.bm kk (by omega), boxed_kept h.bt kk (by omega), h.se.same (kk.block _ h.se.lt (by omega)),
    h.bn.set _, boxed_kept h.bl kk (by omega), h.rd.kept kk (fun z hz => by omega), below_kept h.be kk (fun z hz => by omega) (by have := h.rd.hi; omega), h.le⟩
end
/-- The last of a list. -/
def lst (l : List Nat) : Nat := l.getLastD 0
theorem lst_one (l : List Nat) (x : Nat) : lst (l ++ [x]) = x := by simp [lst]
theorem lst_mem {l : List Nat} (h : l ≠ []) : lst l ∈ l := by
  unfold lst
  rw [List.getLastD_eq_getLast?, List.getLast?_eq_some_getLast h]
  exact List.getLast_mem h
/-- What comes next is greater. -/
theorem lst_lt {L pre : List Nat} {x : Nat} (h : L.Pairwise (· < ·)) (hp : pre ++ [x] <+: L) (hne : pre ≠ []) : lst pre < x := by
  have h1 : (pre ++ [x]).Pairwise (· < ·) := h.sublist hp.sublist
  exact (List.pairwise_append.1 h1).2.2 _ (lst_mem hne) x (by simp)
theorem len_same {L K : List Nat} (h1 : L.Nodup) (h2 : K.Nodup) (h : ∀ p, p ∈ L ↔ p ∈ K) : L.length = K.length := ((List.perm_ext_iff_of_nodup h1 h2).2 h).length_eq
set_option maxRecDepth 100000 in
set_option maxHeartbeats 2000000 in
theorem rising_in (o : Option Addr) (len cap : Nat) (w : World) (s : Int) (X : Nat → Int) (hX : U64At w o len cap X) (hl : len ≤ 100) :
    Calls Try.prog 6 #[.slice o len cap, .int .i64 s] w fun e w' => e = .returned (.bool true) ∧ Below w.heap.size w w' := by
  obtain ⟨N, hN⟩ : ∃ N, w.heap.size = N := ⟨_, rfl⟩
  have d0 : decide ((100 : Int) < (len : Int)) = false := decide_eq_false (by omega)
  have HX := hide hX
  have HL := hide hl
  clear hX hl
  refine (callsIn_wide (n := 3)).1 ?_
  refine callsIn_of_wp_marks Try.func6 rfl trivial ?_ rfl
  simp only [Try.ntmps6, List.size_toArray, List.length_cons, List.length_nil, Nat.reduceAdd, Nat.reduceSub, Array.replicate_succ, Array.replicate_zero, List.push_toArray, List.append_toArray, List.nil_append, List.cons_append]
  gi_wp2_with fail
  have bs0 : Boxed ((w.alloc (.cells #[.int .i64 s] 3)).alloc (.cells #[.bool false] 4)) N 3 (.int .i64 s) := by
    rw [← hN]; exact (Below.heap_alloc _ _ _ (by simp)).trans (Boxed.new w 3 (.int .i64 s))
  have br0 : Boxed ((w.alloc (.cells #[.int .i64 s] 3)).alloc (.cells #[.bool false] 4)) (N + 1) 4 (.bool false) := by
    have := Boxed.new (w.alloc (.cells #[.int .i64 s] 3)) 4 (.bool false)
    rw [World.size_alloc, hN] at this; exact this
  have be0 : Below N w ((w.alloc (.cells #[.int .i64 s] 3)).alloc (.cells #[.bool false] 4)) := by
    rw [← hN]; exact ((Below.refl _ w).alloc (Nat.le_refl _) _).alloc (by simp) _
  obtain ⟨w2, hw2⟩ : ∃ w2, (w.alloc (.cells #[.int .i64 s] 3)).alloc (.cells #[.bool false] 4) = w2 := ⟨_, rfl⟩
  rw [hw2] at bs0 br0 be0 ⊢
  have s2 : w2.heap.size = N + 2 := by rw [← hw2]; simp [hN]
  have C1 := am_new (N := N) (O := fun z => z = N ∨ z = N + 1) (w := w) be0 (by omega) (fun b hb => by omega)
  refine wcall2 C1 ?_
  rintro e w3 ⟨mb, rfl, a3, k3⟩
  have A3 := hide (And.intro a3 (And.intro k3 (And.intro bs0 (And.intro br0 be0))))
  clear a3 k3 bs0 br0 be0 C1
  have mk : ∀ (t : TypeId) (w : World), (Instr.makeMap t none).run Try.prog w = .ok (.map (some w.heap.size)) (w.alloc (.map #[] 0)) := fun t w => run_makeMap t w
  obtain ⟨N3, hN3⟩ : ∃ N3, w3.heap.size = N3 := ⟨_, rfl⟩
  gi_wp2_with fail
  simp only [World.size_alloc, hN3, Nat.add_assoc, Nat.reduceAdd]
  obtain ⟨w6, hw6⟩ : ∃ w6, ((w3.alloc (.cells #[.pointer (some ⟨mb, 0, none⟩)] 24)).alloc (.map #[] 0)).alloc (.cells #[.map (some (N3 + 1))] 47) = w6 := ⟨_, rfl⟩
  rw [hw6]
  have I0 := hide (show Ri ⟨N, N3, N3 + 2, N3 + 1⟩ (fun _ => False) w w6 s mb (fun _ => false) (fun _ => false) [] from by
    obtain ⟨a3, k3, bs0, br0, be0⟩ := A3.out
    have hlt : N + 2 ≤ N3 := by rw [← hN3, ← s2]; exact k3.size
    have k6 : Below w3.heap.size w3 w6 := by rw [← hw6]; exact (((Below.refl _ w3).alloc (Nat.le_refl _) _).alloc (by simp) _).alloc (by simp; omega) _
    have s6 : w6.heap.size = N3 + 3 := by rw [← hw6]; simp [hN3]
    have kk : Below w2.heap.size w2 w6 := k3.trans (k6.mono k3.size)
    have m1 : SetM ((w3.alloc (.cells #[.pointer (some ⟨mb, 0, none⟩)] 24)).alloc (.map #[] 0)) (N3 + 1) (fun _ => false) 0 := by
      have := SetM.made (w3.alloc (.cells #[.pointer (some ⟨mb, 0, none⟩)] 24))
      rw [World.size_alloc, hN3] at this; exact this
    refine ⟨?_, (kk.block N (by omega)).trans bs0, (kk.block (N + 1) (by omega)).trans br0, ?_, ?_, ?_, List.nodup_nil, fun p => by simp, by simp; omega⟩
    · refine a3.more (Kept.of_below k6) (fun z hz => ?_) (fun z hz => ?_)
      · rcases hz with u | u | u | u | u | u
        · exact .inl (.inl u)
        · exact .inl (.inr u)
        · have u : z = N3 := u; exact .inr (by omega)
        · have u : z = N3 + 2 := u; exact .inr (by omega)
        · have u : z = N3 + 1 := u; exact .inr (by omega)
        · exact u.elim
      · rcases hz with u | u | u | u | u | u
        · have u : z = N := u; omega
        · have u : z = N + 1 := u; omega
        · have u : z = N3 := u; omega
        · have u : z = N3 + 2 := u; omega
        · have u : z = N3 + 1 := u; omega
        · exact u.elim
    · show w6.heap[N3]? = _
      rw [← hw6]
      simp only [alloc_at, World.size_alloc, hN3]
      (repeat' split) <;> first | rfl | omega | simp_all
    · show w6.heap[N3 + 2]? = _
      rw [← hw6]
      simp only [alloc_at, World.size_alloc, hN3]
      (repeat' split) <;> first | rfl | omega | simp_all
    · rw [← hw6]
      refine m1.same (Below.heap_alloc _ _ _ ?_)
      simp [hN3])
  have L3 : Hid (N + 2 ≤ N3) := hide (by rw [← hN3, ← s2]; exact A3.out.2.1.size)
  clear A3 mk hw6 hN3 s2 hw2 w2 w3
  gi_loopw [7] (fun vi wr => ∃ (i : Nat) (C : Nat → Bool) (K : List Nat), vi = .int .i64 (i : Nat) ∧ i ≤ len ∧ K.length ≤ i ∧ Hid (Ri ⟨N, N3, N3 + 2, N3 + 1⟩ (fun _ => False) w wr s mb C C K)) (fun vi _ => len - (zi vi).toNat)
  case atStart => exact ⟨0, _, _, rfl, by omega, by simp, I0⟩
  case round =>
    clear I0
    obtain ⟨i, C, K, rfl, hi, hK, H⟩ := hrel
    by_cases c : i < len
    · have d : decide ((i : Int) < (len : Int)) = true := decide_eq_true (by omega)
      have i9 : (i : Int) < 100 := by have := HL.out; omega
      have p9 : IntKind.i64.wrap ((i : Int) + 1) = (i : Int) + 1 := by rw [IntKind.wrap_i64]; omega
      obtain ⟨bl, off, rfl, hbl, hcl⟩ := HX.out.at (i := i) c
      have cx : wr.cell? ⟨bl, off + i, none⟩ = some (.int .u64 (X i)) := (H.out.am.be.cell (p := ⟨bl, off + i, none⟩) (by show bl < N; omega)).trans (hcl i c)
      have x0 := HX.out.lo i
      have x1 := HX.out.hi i
      obtain ⟨p, hp⟩ : ∃ p : Nat, X i = (p : Int) := ⟨(X i).toNat, by omega⟩
      rw [hp] at cx x1
      have q1 : p < 18446744073709551616 := by omega
      have cm := H.out.bm.cell
      have ct := H.out.bt.cell
      have lm := box_lt H.out.bm
      have lt := box_lt H.out.bt
      have lb : bl < wr.heap.size := World.block_lt_of_cell? wr ⟨bl, off + i, none⟩ cx
      have lN : N < wr.heap.size := box_lt H.out.bs
      have hx := @ext_cell wr
      have hne := ext_ne wr
      have HC := hide (show ∀ W', Below N w W' → W'.cell? ⟨bl, off + i, none⟩ = some (.int .u64 (p : Nat)) from fun W' be => (be.cell (p := ⟨bl, off + i, none⟩) (by show bl < N; omega)).trans (by rw [← hp]; exact hcl i c))
      clear hcl x0 hp hbl
      gi_wp2_with fail
      refine tail_w 5 (by kernel_rfl) (by kernel_rfl) ?_
      simp only [List.take_succ_cons, List.take_zero, List.drop_succ_cons, List.drop_zero]
      repeat (refine wpQuiet_step (fun K hK => ?_); go_simp; refine hK _ ?_; clear hK K)
      refine wpQuiet_nil ?_
      rintro _ ⟨n3, rfl⟩
      have K3 := hide (H.out.read n3.h)
      generalize n3.v = V at *
      clear n3 hx hne cx cm ct lm lt lb lN
      have key : ∃ (v : Int) (C' : Nat → Bool), Hid (Calls Try.prog 15 #[.pointer (some ⟨mb, 0, none⟩), .int .u64 (p : Nat)] V fun e W' => e = .returned (.int .i64 v) ∧ Ri ⟨N, N3, N3 + 2, N3 + 1⟩ (fun _ => False) w W' s mb C' C K) ∧
          ((decide ((67108864 : Int) ≤ (p : Int)) = true ∧ v = 1 ∧ C' = C) ∨ (decide ((67108864 : Int) ≤ (p : Int)) = false ∧ C p = true ∧ v = 34 ∧ C' = C) ∨ (decide ((67108864 : Int) ≤ (p : Int)) = false ∧ C p = false ∧ v = 0 ∧ C' = fun q => if q = p then true else C q)) := by
        by_cases z : 67108864 ≤ p
        · exact ⟨1, C, ri_arg K3.out p (by omega) (by omega), .inl ⟨decide_eq_true (by omega), rfl, rfl⟩⟩
        · cases y : C p with
          | true => exact ⟨34, C, ri_twice K3.out p (by omega) (by omega) (by rw [Int.toNat_natCast]; exact y), .inr (.inl ⟨decide_eq_false (by omega), rfl, rfl, rfl⟩)⟩
          | false =>
            have := ri_new K3.out p (by omega) (by omega) (by rw [Int.toNat_natCast]; exact y)
            rw [Int.toNat_natCast] at this
            exact ⟨0, _, this, .inr (.inr ⟨decide_eq_false (by omega), rfl, rfl, rfl⟩)⟩
      obtain ⟨v, C', CA, alt⟩ := key
      gi_wp2_with fail
      refine wcall2 CA.out ?_
      rintro e W4 ⟨rfl, h4⟩
      have H4 := hide h4
      have cx := HC.out _ h4.am.be
      have ct := h4.bt.cell
      have lt := box_lt h4.bt
      have lb : bl < W4.heap.size := World.block_lt_of_cell? W4 ⟨bl, off + i, none⟩ cx
      clear h4 CA K3 H V
      rcases alt with ⟨e1, rfl, rfl⟩ | ⟨e1, e2, rfl, rfl⟩ | ⟨e1, e2, rfl, rfl⟩
      · clear ct lt lb
        gi_wp2_with fail
        exact ⟨⟨i + 1, C', K, by push_cast; rfl, by omega, by omega, H4⟩, by simp [zi]; omega⟩
      · have hx := @ext_cell W4
        have hne := ext_ne W4
        have LK : ∀ n : Ext W4, (Instr.lookup 47 (.map (some (N3 + 1))) (.int .u64 (p : Nat)) false).run Try.prog n.v = .ok (.bool true) n.v := fun n => by
          have := (H4.out.read n.h).se.look p q1
          rw [e2] at this
          exact this
        clear e2
        gi_wp2_with fail
        refine all_w (by kernel_rfl) (by kernel_rfl) ?_
        repeat (refine wpQuiet_step (fun K hK => ?_); go_simp; refine hK _ ?_; clear hK K)
        refine wpQuiet_nil ?_
        rintro _ ⟨n3, rfl⟩
        have H5 := hide (H4.out.read n3.h)
        generalize n3.v = V at *
        clear n3 hx hne cx ct lt lb LK H4 W4
        gi_wp2_with fail
        exact ⟨⟨i + 1, C', K, by push_cast; rfl, by omega, by omega, H5⟩, by simp [zi]; omega⟩
      · have hx := @ext_cell W4
        have hne := ext_ne W4
        have LK : ∀ n : Ext W4, (Instr.lookup 47 (.map (some (N3 + 1))) (.int .u64 (p : Nat)) false).run Try.prog n.v = .ok (.bool false) n.v := fun n => by
          have := (H4.out.read n.h).se.look p q1
          rw [e2] at this
          exact this
        have E2 := hide e2
        clear e2
        gi_wp2_with fail
        refine all_w (by kernel_rfl) (by kernel_rfl) ?_
        repeat (refine wpQuiet_step (fun K hK => ?_); go_simp; refine hK _ ?_; clear hK K)
        refine wpQuiet_nil ?_
        rintro _ ⟨n3, rfl⟩
        have H5 := hide (H4.out.read n3.h)
        generalize n3.v = V at *
        clear n3 hx hne cx ct lt lb LK H4 W4
        have cx := HC.out _ H5.out.am.be
        have ct := H5.out.bt.cell
        have lt := box_lt H5.out.bt
        have lb : bl < V.heap.size := World.block_lt_of_cell? V ⟨bl, off + i, none⟩ cx
        have hx := @ext_cell V
        have hne := ext_ne V
        gi_wp2_with fail
        refine tail_w 5 (by kernel_rfl) (by kernel_rfl) ?_
        simp only [List.take_succ_cons, List.take_zero, List.drop_succ_cons, List.drop_zero]
        repeat (refine wpQuiet_step (fun K hK => ?_); go_simp; refine hK _ ?_; clear hK K)
        refine wpQuiet_nil ?_
        rintro _ ⟨n3, rfl⟩
        obtain ⟨W7, p1, p2, -⟩ := (H5.out.read n3.h).put p q1 (by have := HL.out; omega) E2.out rfl (fun _ f => f.elim)
        have H7 := hide p2
        generalize n3.v = Y at *
        clear n3 hx hne cx ct lt lb p2
        gi_wp2_with fail
        exact ⟨⟨i + 1, _, p :: K, by push_cast; rfl, by omega, by simp; omega, H7⟩, by simp [zi]; omega⟩
    · have d : decide ((i : Int) < (len : Int)) = false := decide_eq_false (by omega)
      clear HX hi hK d0
      have cm := H.out.bm.cell
      have lm := box_lt H.out.bm
      obtain ⟨n0, hn0⟩ : ∃ n0, wr.heap.size = n0 := ⟨_, rfl⟩
      rw [hn0] at lm
      gi_wp2_with fail
      obtain ⟨wl, hwl⟩ : ∃ wl, (wr.alloc (.cells #[.int .i64 0] 3)).alloc (.cells #[.int .u64 0] 35) = wl := ⟨_, rfl⟩
      rw [hwl]
      have G1 := hide (show Ri ⟨N, N3, N3 + 2, N3 + 1⟩ (fun z => z = n0 ∨ z = n0 + 1) w wl s mb C C K ∧ Boxed wl n0 3 (.int .i64 0) ∧ Boxed wl (n0 + 1) 35 (.int .u64 0) from by
        have k6 : Below wr.heap.size wr wl := by rw [← hwl]; exact ((Below.refl _ wr).alloc (Nat.le_refl _) _).alloc (by simp) _
        have s6 : wl.heap.size = n0 + 2 := by rw [← hwl]; simp [hn0]
        refine ⟨H.out.grow k6 (fun z hz => by omega), ?_, ?_⟩
        · show wl.heap[n0]? = _
          rw [← hwl]
          simp only [alloc_at, World.size_alloc, hn0]
          (repeat' split) <;> first | rfl | omega | simp_all
        · show wl.heap[n0 + 1]? = _
          rw [← hwl]
          simp only [alloc_at, World.size_alloc, hn0]
          (repeat' split) <;> first | rfl | omega | simp_all)
      have G2 := hide (show N + 2 ≤ N3 ∧ N3 + 3 ≤ n0 from ⟨L3.out, by have := box_lt H.out.bt; simp only at this; omega⟩)
      have s6 : wl.heap.size = n0 + 2 := by rw [← hwl]; simp [hn0]
      clear H hwl hn0 cm lm L3
      obtain ⟨Φ, ar, hΦ⟩ := G1.out.1.am.ex
      have CC := hide (chunks_any ar)
      rw [s6] at CC
      clear ar hΦ
      refine wcall2 CC.out ?_
      rintro e w8 ⟨B0, v, L, rfl, f1, f2, f3, f4⟩
      have s8 : n0 + 2 ≤ w8.heap.size := by rw [← s6]; rw [← s6] at f4; exact f4.size
      obtain ⟨Φ, ar, hΦ⟩ := ((G1.out.1.read (by rw [s6]; exact f4)).am).ex
      have lΦ := ar.lt
      obtain ⟨M, hM⟩ : ∃ M, w8.heap.size = M := ⟨_, rfl⟩
      rw [hM] at f3 s8 lΦ
      have F0 := hide (show RI N N3 n0 M Φ w s mb C K.length B0 v L 0 0 w8 from by
        have h := G1.out.1.read (W' := w8) (by rw [s6]; exact f4)
        exact ⟨ar, h.bs, h.br, h.bm, h.bt, h.se, (f4.block _ (by omega)).trans G1.out.2.1, (f4.block _ (by omega)).trans G1.out.2.2, f3, h.am.be, G2.out.1, G2.out.2, s8⟩)
      have HP := hide (show (∀ z, Φ z → z < M) ∧ (∀ z, Φ z → z ≠ n0 ∧ z ≠ n0 + 1) from ⟨lΦ, fun z hz => by
        have := (hΦ z hz).2
        exact ⟨fun e => this (.inr (.inr (.inr (.inr (.inr (.inl e)))))), fun e => this (.inr (.inr (.inr (.inr (.inr (.inr e))))))⟩⟩)
      have FL := hide (show (∀ p, p ∈ L → C p = true ∧ p < 67108864) ∧ L.length = K.length ∧ L.Pairwise (· < ·) from ⟨fun p hp => by
        have := (f1.2 p).1 hp
        refine ⟨this, ?_⟩
        obtain ⟨kb, G, a, _⟩ := ar.ex
        exact a.lim p this, len_same (f1.1.imp (fun h => Nat.ne_of_lt h)) G1.out.1.nd (fun p => (f1.2 p).trans (G1.out.1.me p).symm), f1.1⟩)
      have SEQ := hide (chunks_seq (n0 + 2) M B0 v L f2 2)
      have F2 := hide f2
      clear f1 f2 f3 f4 s6 s8 lΦ hΦ ar G1 CC wl
      gi_wp2_with fail
      refine range_law (w := w8) rfl (enters_of Try.func19 (by kernel_rfl) rfl) SEQ.out (fun _ => rfl) (fun pre W => RI N N3 n0 M Φ w s mb C K.length B0 v L pre.length (lst pre) W)
        (fun cc pre W => cc = .exit 2 ∧ (pre.length : Int) = s ∧ RI N N3 n0 M Φ w s mb C K.length B0 v L pre.length (lst pre) W) (fun s A h => h.rd) ?hI ?hIx F0.out ?round ?done ?stop
      case hI =>
        intro s A A' h k
        rw [hM] at k
        exact h.kept k (fun x hx => by omega) HP.out.1
      case hIx =>
        rintro c s A o' ⟨rfl, h1, h2⟩ hl
        rw [hM] at hl ⊢
        exact ⟨rfl, h1, h2.kept (Kept.put (F := fun b => b = M + 1) A (M + 1) o' rfl) (fun z hz => by omega) HP.out.1⟩
      case round =>
        rintro pre x W ⟨r0, hr0⟩ _ h hp
        rw [hM] at hr0 ⊢
        have hx := FL.out.1 x (hp.subset (by simp))
        have hn : pre.length < 67108864 := by have := (pre_at hp).1; have := F2.out; omega
        have alt : (¬ 0 < pre.length) ∨ (0 < pre.length ∧ ¬ x ≤ lst pre) := by
          by_cases z : pre = []
          · exact .inl (by rw [z]; decide)
          · exact .inr ⟨List.length_pos_iff.2 z, by have := lst_lt FL.out.2.2 hp z; omega⟩
        have HE := hide (show (pre ++ [x]).length = pre.length + 1 ∧ lst (pre ++ [x]) = x from ⟨by simp, lst_one _ _⟩)
        obtain ⟨n, en⟩ : ∃ n, pre.length = n := ⟨_, rfl⟩
        obtain ⟨l, el⟩ : ∃ l, lst pre = l := ⟨_, rfl⟩
        rw [en] at HE h hn alt
        rw [el] at h alt
        have H1 := hide h
        have HX := hide hx
        have x9 := hx.2
        have CH1 := fun (Y : World) (hY : RI N N3 n0 M Φ w s mb C K.length B0 v L n l Y) => hide (show Calls Try.prog 16 #[.pointer (some ⟨mb, 0, none⟩), .int .u64 ((x : Int) * 4194304)] Y (fun e W' => e = .returned (.bool true) ∧ Below Y.heap.size Y W') from by
          have := Has_any hY.ar (x * 4194304) (by omega)
          rw [show x * 4194304 / 4194304 = x by omega, hx.1] at this
          rw [show ((x : Int) * 4194304) = ((x * 4194304 : Nat) : Int) by omega]
          exact this)
        have CH2 := fun (Y : World) (hY : RI N N3 n0 M Φ w s mb C K.length B0 v L n l Y) => hide (show Calls Try.prog 16 #[.pointer (some ⟨mb, 0, none⟩), .int .u64 ((x : Int) * 4194304 + 4194304 - 1)] Y (fun e W' => e = .returned (.bool true) ∧ Below Y.heap.size Y W') from by
          have := Has_any hY.ar (x * 4194304 + 4194304 - 1) (by omega)
          rw [show (x * 4194304 + 4194304 - 1) / 4194304 = x by omega, hx.1] at this
          rw [show ((x : Int) * 4194304 + 4194304 - 1) = ((x * 4194304 + 4194304 - 1 : Nat) : Int) by omega]
          exact this)
        clear h hr0 hp hx en el
        simp only [encsC]
        gi_wp2_with fail
        refine ⟨keepsFrom_of (Kept.refl (fun _ => False) W) (fun b hb e => e), fun r => ?_⟩
        have k2 := Kept.put (F := fun b => b = M + 1) W (M + 1) (.loop r) rfl
        obtain ⟨W2, hW2⟩ : ∃ W2, W.putObj (M + 1) (.loop r) = W2 := ⟨_, rfl⟩
        rw [hW2] at k2 ⊢
        have H2 := hide (H1.out.kept k2 (fun b hb => by omega) HP.out.1)
        have LK := H2.out.se.look x (by omega)
        rw [HX.out.1] at LK
        have ct := H2.out.bt.cell
        have cn := H2.out.bn.cell
        have cl := H2.out.bl.cell
        have cm := H2.out.bm.cell
        clear k2 hW2 H1 HX
        rcases alt with a1 | ⟨a1, a2⟩
        · gi_wp2_with fail
          refine wcall_r (CH1 _ H2.out).out ?_
          rintro e W3 ⟨rfl, b3⟩
          have H3 := hide (H2.out.below b3 HP.out.1)
          have k3 := hide (Kept.of_below (F := fun b => b = n0 ∨ b = n0 + 1) b3)
          have cm3 := H3.out.bm.cell
          clear b3 cm cn cl ct LK CH1
          gi_wp2_with fail
          refine wcall_r (CH2 _ H3.out).out ?_
          rintro e W4 ⟨rfl, b4⟩
          have H4 := hide (H3.out.below b4 HP.out.1)
          have k4 := hide (k3.out.trans (Kept.of_below (F := fun b => b = n0 ∨ b = n0 + 1) b4) (fun _ _ f => f))
          have cl := H4.out.bl.cell
          have fl := H4.out.bl.frozen
          clear b4 cm3 CH2 H3 k3 H2
          have cn := H4.out.bn.cell
          have cs := H4.out.bs.cell
          have fn := H4.out.bn.frozen
          have hl := H4.out.le
          have H5 := hide (H4.out.setl HP.out.2 x)
          have H6 := hide (H5.out.setn HP.out.2 (n + 1))
          have k6 := hide ((k4.out.trans (kept_set (F := fun b => b = n0 ∨ b = n0 + 1) W4 (n0 + 1) 0 (.int .u64 (x : Nat)) (.inr rfl)) (fun _ _ f => f)).trans (kept_set (F := fun b => b = n0 ∨ b = n0 + 1) (W4.setCell ⟨n0 + 1, 0, none⟩ (.int .u64 (x : Nat))) n0 0 (.int .i64 ((n + 1 : Nat) : Int)) (.inl rfl)) (fun _ _ f => f))
          have dn : n0 ≠ n0 + 1 := by omega
          have dm : N ≠ n0 := by omega
          have dk : N ≠ n0 + 1 := by omega
          have dn2 : n0 + 1 ≠ n0 := by omega
          have wn : IntKind.i64.wrap ((n : Int) + 1) = ((n + 1 : Nat) : Int) := by rw [IntKind.wrap_i64]; omega
          obtain ⟨n1, en1⟩ : ∃ n1 : Int, ((n + 1 : Nat) : Int) = n1 := ⟨_, rfl⟩
          have EN := hide en1
          rw [en1] at H6 k6 wn
          clear hl H4 H5 k4 en1
          by_cases es : n1 = s
          · have ee : (n1 == s) = true := beq_iff_eq.2 es
            have ES := hide es
            clear es
            gi_wp2_with fail
            exact ⟨keepsFrom_of k6.out (fun b hb e => by have := H6.out.le; omega), rfl, by rw [HE.out.1, EN.out]; exact ES.out, by
              show RI N N3 n0 M Φ w s mb C K.length B0 v L (pre ++ [x]).length (lst (pre ++ [x])) _
              rw [HE.out.1, HE.out.2]; exact H6.out⟩
          · have ee : (n1 == s) = false := beq_eq_false_iff_ne.2 es
            clear es
            gi_wp2_with fail
            exact ⟨keepsFrom_of k6.out (fun b hb e => by have := H6.out.le; omega), by
              show RI N N3 n0 M Φ w s mb C K.length B0 v L (pre ++ [x]).length (lst (pre ++ [x])) _
              rw [HE.out.1, HE.out.2]; exact H6.out⟩
        · gi_wp2_with fail
          refine wcall_r (CH1 _ H2.out).out ?_
          rintro e W3 ⟨rfl, b3⟩
          have H3 := hide (H2.out.below b3 HP.out.1)
          have k3 := hide (Kept.of_below (F := fun b => b = n0 ∨ b = n0 + 1) b3)
          have cm3 := H3.out.bm.cell
          clear b3 cm cn cl ct LK CH1
          gi_wp2_with fail
          refine wcall_r (CH2 _ H3.out).out ?_
          rintro e W4 ⟨rfl, b4⟩
          have H4 := hide (H3.out.below b4 HP.out.1)
          have k4 := hide (k3.out.trans (Kept.of_below (F := fun b => b = n0 ∨ b = n0 + 1) b4) (fun _ _ f => f))
          have cl := H4.out.bl.cell
          have fl := H4.out.bl.frozen
          clear b4 cm3 CH2 H3 k3 H2
          have cn := H4.out.bn.cell
          have cs := H4.out.bs.cell
          have fn := H4.out.bn.frozen
          have hl := H4.out.le
          have H5 := hide (H4.out.setl HP.out.2 x)
          have H6 := hide (H5.out.setn HP.out.2 (n + 1))
          have k6 := hide ((k4.out.trans (kept_set (F := fun b => b = n0 ∨ b = n0 + 1) W4 (n0 + 1) 0 (.int .u64 (x : Nat)) (.inr rfl)) (fun _ _ f => f)).trans (kept_set (F := fun b => b = n0 ∨ b = n0 + 1) (W4.setCell ⟨n0 + 1, 0, none⟩ (.int .u64 (x : Nat))) n0 0 (.int .i64 ((n + 1 : Nat) : Int)) (.inl rfl)) (fun _ _ f => f))
          have dn : n0 ≠ n0 + 1 := by omega
          have dm : N ≠ n0 := by omega
          have dk : N ≠ n0 + 1 := by omega
          have dn2 : n0 + 1 ≠ n0 := by omega
          have wn : IntKind.i64.wrap ((n : Int) + 1) = ((n + 1 : Nat) : Int) := by rw [IntKind.wrap_i64]; omega
          obtain ⟨n1, en1⟩ : ∃ n1 : Int, ((n + 1 : Nat) : Int) = n1 := ⟨_, rfl⟩
          have EN := hide en1
          rw [en1] at H6 k6 wn
          clear hl H4 H5 k4 en1
          by_cases es : n1 = s
          · have ee : (n1 == s) = true := beq_iff_eq.2 es
            have ES := hide es
            clear es
            gi_wp2_with fail
            exact ⟨keepsFrom_of k6.out (fun b hb e => by have := H6.out.le; omega), rfl, by rw [HE.out.1, EN.out]; exact ES.out, by
              show RI N N3 n0 M Φ w s mb C K.length B0 v L (pre ++ [x]).length (lst (pre ++ [x])) _
              rw [HE.out.1, HE.out.2]; exact H6.out⟩
          · have ee : (n1 == s) = false := beq_eq_false_iff_ne.2 es
            clear es
            gi_wp2_with fail
            exact ⟨keepsFrom_of k6.out (fun b hb e => by have := H6.out.le; omega), by
              show RI N N3 n0 M Φ w s mb C K.length B0 v L (pre ++ [x]).length (lst (pre ++ [x])) _
              rw [HE.out.1, HE.out.2]; exact H6.out⟩
      case done =>
        rintro W h hd
        rw [hM] at hd ⊢
        have fr := h.br.frozen
        have cn := h.bn.cell
        have cs := h.bs.cell
        have ct := h.bt.cell
        have LN := fun ty => h.se.len ty
        have hlt := h.rd.hi
        have hle := h.le
        obtain ⟨kI, hk⟩ : ∃ kI : Int, (L.length : Int) = kI := ⟨_, rfl⟩
        have HH := hide h
        have HD := hide hd
        have alt := (show (((L.length : Int) == s) = true) ∨ (((L.length : Int) == s) = false ∧ ((L.length : Int) == (K.length : Int)) = true) from by
          by_cases z : (L.length : Int) = s
          · exact .inl (beq_iff_eq.2 z)
          · exact .inr ⟨beq_eq_false_iff_ne.2 z, beq_iff_eq.2 (by rw [FL.out.2.1])⟩)
        rw [hk] at alt cn
        have CW := hide (awake_any W)
        clear h hd SEQ hk F0 FL HP F2
        have fin : ∀ W5, Below W.heap.size W W5 → ∃ W6, W5.setCell ⟨N + 1, 0, none⟩ (.bool true) = W6 ∧ Boxed W6 (N + 1) 4 (.bool true) ∧ W6.heap[M]? = some (.deferred (some [])) ∧ Below N w W6 ∧ N + 1 < W6.heap.size ∧ W5.frozen? ⟨N + 1, 0, none⟩ = false ∧ W5.cell? ⟨N + 1, 0, none⟩ = some (.bool false) := fun W5 b5 => by
          have h5 : Boxed W5 (N + 1) 4 (.bool false) := boxed_block HH.out.br (b5.block _ (by omega))
          have d5 := (b5.block M (Array.getElem?_eq_some_iff.1 HD.out).1).trans HD.out
          have k5 := kept_set (F := fun b => b = N + 1) W5 (N + 1) 0 (.bool true) rfl
          refine ⟨_, rfl, h5.set _, kept_at k5 d5 (by omega), below_kept (HH.out.be.trans (b5.mono (by omega))) k5 (fun b hb => by omega) (by have := b5.size; omega), ?_, h5.frozen, h5.cell⟩
          have := box_lt (h5.set (.bool true)); exact this
        rcases alt with al | ⟨al, al2⟩
        · gi_wp2_with fail
          refine wcall2 CW.out ?_
          rintro e W5 ⟨rfl, b5⟩
          obtain ⟨W6, e6, r6, d6, be6, l6, fz6, c6⟩ := fin W5 b5
          have R6 := hide (And.intro r6 (And.intro d6 be6))
          clear CW LN fin b5 r6 d6 be6
          gi_wp2_with fail
          try rw [e6]
          obtain ⟨r6, d6, be6⟩ := R6.out
          have k6 := Kept.put (F := fun b => b = M) W6 M (.deferred none) rfl
          have r1 := boxed_kept r6 k6 (by omega)
          have B6 := below_kept be6 k6 (fun b hb => by omega) (by omega)
          refine ⟨by simp, .inl ⟨_, _, rfl, run_takeDeferred d6, ?_⟩⟩
          exact ⟨.bool true, results_c Try.results6 _ _ ⟨N + 1, 0, none⟩ _ rfl (loadB r1), rfl, by rw [hN]; exact B6⟩
        · gi_wp2_with fail
          refine wcall2 CW.out ?_
          rintro e W5 ⟨rfl, b5⟩
          obtain ⟨W6, e6, r6, d6, be6, l6, fz6, c6⟩ := fin W5 b5
          have R6 := hide (And.intro r6 (And.intro d6 be6))
          clear CW LN fin b5 r6 d6 be6
          gi_wp2_with fail
          try rw [e6]
          obtain ⟨r6, d6, be6⟩ := R6.out
          have k6 := Kept.put (F := fun b => b = M) W6 M (.deferred none) rfl
          have r1 := boxed_kept r6 k6 (by omega)
          have B6 := below_kept be6 k6 (fun b hb => by omega) (by omega)
          refine ⟨by simp, .inl ⟨_, _, rfl, run_takeDeferred d6, ?_⟩⟩
          exact ⟨.bool true, results_c Try.results6 _ _ ⟨N + 1, 0, none⟩ _ rfl (loadB r1), rfl, by rw [hN]; exact B6⟩
      case stop =>
        rintro c pre x W hpre ⟨rfl, e1, h⟩ hd
        rw [hM] at hd ⊢
        have fr := h.br.frozen
        have cn := h.bn.cell
        have cs := h.bs.cell
        have ct := h.bt.cell
        have LN := fun ty => h.se.len ty
        have hlt := h.rd.hi
        have hle := h.le
        obtain ⟨kI, hk⟩ : ∃ kI : Int, ((pre ++ [x]).length : Int) = kI := ⟨_, rfl⟩
        have HH := hide h
        have HD := hide hd
        have alt := (show ((((pre ++ [x]).length : Int) == s) = true) ∨ ((((pre ++ [x]).length : Int) == s) = false ∧ (((pre ++ [x]).length : Int) == (K.length : Int)) = true) from .inl (beq_iff_eq.2 e1))
        rw [hk] at alt cn
        have CW := hide (awake_any W)
        clear h hd SEQ hk e1 hpre F0 FL HP F2
        have fin : ∀ W5, Below W.heap.size W W5 → ∃ W6, W5.setCell ⟨N + 1, 0, none⟩ (.bool true) = W6 ∧ Boxed W6 (N + 1) 4 (.bool true) ∧ W6.heap[M]? = some (.deferred (some [])) ∧ Below N w W6 ∧ N + 1 < W6.heap.size ∧ W5.frozen? ⟨N + 1, 0, none⟩ = false ∧ W5.cell? ⟨N + 1, 0, none⟩ = some (.bool false) := fun W5 b5 => by
          have h5 : Boxed W5 (N + 1) 4 (.bool false) := boxed_block HH.out.br (b5.block _ (by omega))
          have d5 := (b5.block M (Array.getElem?_eq_some_iff.1 HD.out).1).trans HD.out
          have k5 := kept_set (F := fun b => b = N + 1) W5 (N + 1) 0 (.bool true) rfl
          refine ⟨_, rfl, h5.set _, kept_at k5 d5 (by omega), below_kept (HH.out.be.trans (b5.mono (by omega))) k5 (fun b hb => by omega) (by have := b5.size; omega), ?_, h5.frozen, h5.cell⟩
          have := box_lt (h5.set (.bool true)); exact this
        rcases alt with al | ⟨al, al2⟩
        · gi_wp2_with fail
          refine wcall2 CW.out ?_
          rintro e W5 ⟨rfl, b5⟩
          obtain ⟨W6, e6, r6, d6, be6, l6, fz6, c6⟩ := fin W5 b5
          have R6 := hide (And.intro r6 (And.intro d6 be6))
          clear CW LN fin b5 r6 d6 be6
          gi_wp2_with fail
          try rw [e6]
          obtain ⟨r6, d6, be6⟩ := R6.out
          have k6 := Kept.put (F := fun b => b = M) W6 M (.deferred none) rfl
          have r1 := boxed_kept r6 k6 (by omega)
          have B6 := below_kept be6 k6 (fun b hb => by omega) (by omega)
          refine ⟨by simp, .inl ⟨_, _, rfl, run_takeDeferred d6, ?_⟩⟩
          exact ⟨.bool true, results_c Try.results6 _ _ ⟨N + 1, 0, none⟩ _ rfl (loadB r1), rfl, by rw [hN]; exact B6⟩
        · gi_wp2_with fail
          refine wcall2 CW.out ?_
          rintro e W5 ⟨rfl, b5⟩
          obtain ⟨W6, e6, r6, d6, be6, l6, fz6, c6⟩ := fin W5 b5
          have R6 := hide (And.intro r6 (And.intro d6 be6))
          clear CW LN fin b5 r6 d6 be6
          gi_wp2_with fail
          try rw [e6]
          obtain ⟨r6, d6, be6⟩ := R6.out
          have k6 := Kept.put (F := fun b => b = M) W6 M (.deferred none) rfl
          have r1 := boxed_kept r6 k6 (by omega)
          have B6 := below_kept be6 k6 (fun b hb => by omega) (by omega)
          refine ⟨by simp, .inl ⟨_, _, rfl, run_takeDeferred d6, ?_⟩⟩
          exact ⟨.bool true, results_c Try.results6 _ _ ⟨N + 1, 0, none⟩ _ rfl (loadB r1), rfl, by rw [hN]; exact B6⟩
theorem rising_out (o : Option Addr) (len cap : Nat) (w : World) (s : Int) (hl : 100 < len) :
    Calls Try.prog 6 #[.slice o len cap, .int .i64 s] w fun e w' => e = .returned (.bool true) ∧ Below w.heap.size w w' := by
  obtain ⟨N, hN⟩ : ∃ N, w.heap.size = N := ⟨_, rfl⟩
  have d0 : decide ((100 : Int) < (len : Int)) = true := decide_eq_true (by omega)
  refine (callsIn_wide (n := 3)).1 ?_
  refine callsIn_of_wp_marks Try.func6 rfl trivial ?_ rfl
  simp only [Try.ntmps6, List.size_toArray, List.length_cons, List.length_nil, Nat.reduceAdd, Nat.reduceSub, Array.replicate_succ, Array.replicate_zero, List.push_toArray, List.append_toArray, List.nil_append, List.cons_append]
  have br0 : Boxed ((w.alloc (.cells #[.int .i64 s] 3)).alloc (.cells #[.bool true] 4)) (N + 1) 4 (.bool true) := by
    have := Boxed.new (w.alloc (.cells #[.int .i64 s] 3)) 4 (.bool true)
    rw [World.size_alloc, hN] at this; exact this
  have be0 : Below N w ((w.alloc (.cells #[.int .i64 s] 3)).alloc (.cells #[.bool true] 4)) := by
    rw [← hN]; exact ((Below.refl _ w).alloc (Nat.le_refl _) _).alloc (by simp) _
  have R := hide (And.intro br0 be0)
  clear br0 be0
  gi_wp2_with fail
  exact ⟨.bool true, results_c Try.results6 _ _ ⟨N + 1, 0, none⟩ _ rfl (loadB R.out.1), rfl, by rw [hN]; exact R.out.2⟩
theorem rising_any (o : Option Addr) (len cap : Nat) (w : World) (s : Int) (X : Nat → Int) (hX : U64At w o len cap X) :
    Calls Try.prog 6 #[.slice o len cap, .int .i64 s] w fun e w' => e = .returned (.bool true) ∧ Below w.heap.size w w' := by
  by_cases h : len ≤ 100
  · exact rising_in o len cap w s X hX h
  · exact rising_out o len cap w s (by omega)
end Go.Proofs.Ytdcjldpbgickmaa
