/- What VmemPlaces wants of lists that come in, of a copy, and of a map of bools beside a space. -/
import Derived.Test.YtpceigglilgelabHelp
import Derived.Test.YtpceigglilgelabMp
import Derived.Laws.AppendOwnNone
namespace Go.Proofs.Ytpceigglilgelab
open Go.ChangeShapes Go.WideShapes Go.ChangeAt Go.RowKit Go.Proofs.Sp Go.Maps

/-- A list that came in: nil, or its cells. -/
structure ArgAt (w : World) (o : Option Addr) (len cap : Nat) (X : Nat → Nat) : Prop where
  nil : o = none → len = 0 ∧ cap = 0
  cells : ∀ ad, o = some ad → ∀ i, i < len → w.cell? (ad.add i) = some (.int .u64 (X i : Int))
  small : ∀ i, X i < 18446744073709551616
theorem spot_none {w : World} {b off : Nat} {sp : Option Nat} {v : Value} (h : w.cell? ⟨b, off, sp⟩ = some v) : sp = none := by
  unfold World.cell? at h
  cases sp with
  | none => rfl
  | some x => split at h <;> simp at h
theorem ArgAt.at {w : World} {o : Option Addr} {len cap : Nat} {X : Nat → Nat} (h : ArgAt w o len cap X) {i : Nat} (hi : i < len) : ∃ b off, o = some ⟨b, off, none⟩ ∧ b < w.heap.size ∧ ∀ i, i < len → w.cell? ⟨b, off + i, none⟩ = some (.int .u64 (X i : Int)) := by
  cases ho : o with
  | none => have := (h.nil ho).1; omega
  | some a =>
    obtain ⟨b, off, sp⟩ := a
    have c0 := h.cells _ ho 0 (by omega)
    have hs : sp = none := spot_none (by simpa [Addr.add] using c0)
    subst hs
    have hb : b < w.heap.size := cell_lt (by simpa [Addr.add] using c0)
    refine ⟨b, off, rfl, hb, fun j hj => ?_⟩
    have := h.cells _ ho j hj
    rwa [addr_add0] at this
/-- append(own, src...), whatever the source: one cell an element. -/
theorem append_src {P : Program} {w : World} {ops : Array Oper} {rest : List Oper} {o : Oper} {a : Act} {Q : Exit → Act → World → Prop} (hgd : o.guard = none) (s x : Operand) (t : TypeId)
    (ho : o.op = .call { callee := .builtin .append, args := #[s, x], argTypes := #[t, t] })
    (base : Nat) (e : TypeId) (i : TypeInfo) (z : Value) (bytes : Nat) (ht : P.underlying t = some (.slice e)) (hi : P.info? e = some i) (hz : i.zero = some z)
    (hsize : i.size = 1) (hby : i.bytes = bytes) (hzs : z.cells.size = 1)
    (v : Value) (n : Nat) (xs : List Value) (hs : a.eval s = v) (hown : w.ownsRow base e 1 v n xs) (hnn : v ≠ .slice none 0 0)
    (src : Option Addr) (m c : Nat) (news : List Value) (hx : a.eval x = .slice src m c) (hl : news.length = m) (hnone : src = none → m = 0 ∧ c = 0) (hnews : ∀ ad, src = some ad → ∀ j u, news[j]? = some u → w.cell? (ad.add j) = some u) (h1 : ∀ u ∈ news, u.oneCell' = true)
    (h63 : n + m ≤ maxLen) (hbytes : (n + m) * bytes ≤ 140737488355328) (hbase : base ≤ w.heap.size)
    (h : ∀ v' w', w'.ownsRow base e 1 v' (n + m) (xs ++ news) → w.grownBy w' v.ownBlock → v' ≠ .slice none 0 0 → wpList P ops Q rest (a.put o.dst v') w') : wpList P ops Q (o :: rest) a w := by
  cases src with
  | none =>
    obtain ⟨rfl, rfl⟩ := hnone rfl
    obtain rfl : news = [] := List.eq_nil_of_length_eq_zero hl
    refine wpList_append_own_none hgd s x t ho base e i 1 ht hi v n xs hs hown hx ?_
    exact h v w (by rw [Nat.add_zero, List.append_nil]; exact hown) (World.grownBy.refl _ _) hnn
  | some ad =>
    refine wpList_append_own w hgd s x t ho base e i z 1 bytes ht hi hz hsize hby hzs (by decide) v n xs hs hown ad m c news hx (by omega) (hnews ad rfl) h1 h63 hbytes hbase ?_
    intro v' w' k1 k2 k3
    exact h v' w' k1 k2 (fun z => hnn (k3.1 z).1)
/-- How a bool reads. -/
def boolElem : Value → Option (DataW Unit × List MemPlace)
  | .bool b => some (dat (if b then 1 else 0), [])
  | _ => none
theorem zeroB (w : World) : (zeroValue 4).run Try.prog w = .ok (.bool false) w := by kernel_rfl
theorem bool_of {v : Value} {n : Nat} {ps : List MemPlace} (h : boolElem v = some (dat n, ps)) : v = .bool (decide (n = 1)) := by
  unfold boolElem at h
  split at h
  · rename_i b
    cases b <;> simp [dat] at h
    · have : n = 0 := by omega
      subst this; rfl
    · have : n = 1 := by omega
      subst this; rfl
  · cases h
theorem look_bool {w : World} {b n : Nat} {M : Nat → Nat} (h : MapIs w boolElem b n M) (p : Nat) (hp : p < 18446744073709551616) :
    (Instr.lookup 36 (.map (some b)) (.int .u64 (p : Int)) false).run Try.prog w = .ok (.bool (decide (M p = 1))) w := by
  obtain ⟨D, hD, hM⟩ := h
  obtain ⟨v, ps, hrun, hv⟩ := hD.lookup (e := 4) keyU Try.underlying36 (zeroB w) (zd := dat 0) (zp := []) rfl (key_of p hp)
  rw [hM p hp] at hv
  rw [hrun, bool_of hv]

/-! ### A space, and a map beside it -/
def JM (I : Inv) (w0 : World) (m : Addr) (bm : Nat) (w : World) (S : Sp) (K n : Nat) (M : Nat → Nat) : Prop :=
  ∃ F, I w m S F K ∧ (∀ b, F b → w0.heap.size ≤ b) ∧ Below w0.heap.size w0 w ∧ ¬ F bm ∧ w0.heap.size ≤ bm ∧ MapIs w boolElem bm n M
theorem JM.below {I : Inv} {w0 w : World} {m : Addr} {bm : Nat} {S : Sp} {K n : Nat} {M : Nat → Nat} (h : JM I w0 m bm w S K n M) : Below w0.heap.size w0 w := by obtain ⟨_, _, _, h, _⟩ := h; exact h
theorem JM.map {I : Inv} {w0 w : World} {m : Addr} {bm : Nat} {S : Sp} {K n : Nat} {M : Nat → Nat} (h : JM I w0 m bm w S K n M) : MapIs w boolElem bm n M := by obtain ⟨_, _, _, _, _, _, h⟩ := h; exact h
theorem JM.step {I : Inv} {w0 w w' : World} {m : Addr} {bm : Nat} {S' : Sp} {F : Nat → Prop} {K' n : Nat} {M : Nat → Nat} (h2 : ∀ b, F b → w0.heap.size ≤ b) (h3 : Below w0.heap.size w0 w) (h4 : ¬ F bm) (h5 : w0.heap.size ≤ bm) (h6 : MapIs w boolElem bm n M) (h : Step I F w w' m S' K') : JM I w0 m bm w' S' K' n M := by
  obtain ⟨F', a, b, c⟩ := h
  have hs := h3.size
  have hl := h6.lt
  refine ⟨F', a, fun x hx => ?_, h3.trans (b.below hs h2), fun z => ?_, h5, h6.kept (b.block bm hl h4)⟩
  · rcases c x hx with hx | hx
    · exact h2 x hx
    · omega
  · rcases c bm z with z | z
    · exact h4 z
    · omega
theorem JM.put {I : Inv} (Fc : Face vm I) {w0 w : World} {m : Addr} {bm : Nat} {S : Sp} {K n : Nat} {M : Nat → Nat} (h : JM I w0 m bm w S K n M) (hn : n ≤ 1000) (p : Nat) (hp : p < 18446744073709551616) :
    ∃ w', (Instr.mapUpdate 36 (.map (some bm)) (.int .u64 (p : Int)) (.bool true)).run Try.prog w = .ok () w' ∧ JM I w0 m bm w' S K (n + 1) (fun q => if q = p then 1 else M q) := by
  obtain ⟨F, h1, h2, h3, h4, h5, h6⟩ := h
  obtain ⟨w', hrun, k1, k2⟩ := h6.put Try.underlying36 (by unfold maxLen; omega) p hp (v := .bool true) (x := 1) (ps := []) rfl
  refine ⟨w', hrun, F, Fc.kept h1 k2.size (fun b hb => k2.block b (Fc.lt h1 b hb) (fun e => h4 (by injection e with e; exact e ▸ hb))), h2, ?_, h4, h5, k1⟩
  exact h3.grown k2 h3.size (fun k hk => by injection hk with hk; omega)
theorem JM.more {I : Inv} {w0 w : World} {m : Addr} {bm : Nat} {S : Sp} {K n : Nat} {M M' : Nat → Nat} (h : JM I w0 m bm w S K n M) (hM : ∀ q, M q = M' q) : JM I w0 m bm w S K n M' := by rw [show M' = M from funext fun q => (hM q).symm]; exact h
theorem JM.wf {I : Inv} (Fc : Face vm I) {w0 w : World} {m : Addr} {bm : Nat} {S : Sp} {K n : Nat} {M : Nat → Nat} (h : JM I w0 m bm w S K n M) : WF S := by obtain ⟨_, h, _⟩ := h; exact Fc.wf h
variable {I : Inv} {w0 w : World} {m : Addr} {bm : Nat} {S S' : Sp} {K n : Nat} {M : Nat → Nat}
theorem JM.reserve (Fc : Face vm I) {a b : Int} {q er : Nat} (h : reserveS S a.toNat b.toNat = (q, er, S')) (hj : JM I w0 m bm w S K n M) (ha : two64 a) (hb : two64 b) (hK : K ≤ lim) :
    Calls Try.prog vm.reserve #[.pointer (some m), .int .u64 a, .int .u64 b] w fun e w' => e = .returned (.tuple #[.int .u64 (q : Int), .int .i64 (er : Int)]) ∧ JM I w0 m bm w' S' (K + cost er b.toNat) n M := by
  obtain ⟨F, h1, h2, h3, h4, h5, h6⟩ := hj
  have := Fc.reserve a b ha hb h1 hK
  rw [h] at this
  exact this.mono fun e w' ⟨he, hs⟩ => ⟨he, JM.step h2 h3 h4 h5 h6 hs⟩
theorem JM.state (Fc : Face vm I) {a : Int} {x : Nat} (h : S.st a.toNat = x) (hj : JM I w0 m bm w S K n M) (ha : two64 a) (hK : K ≤ lim) :
    Calls Try.prog vm.state #[.pointer (some m), .int .u64 a] w fun e w' => e = .returned (.int .i64 (x : Int)) ∧ JM I w0 m bm w' S K n M := by
  obtain ⟨F, h1, h2, h3, h4, h5, h6⟩ := hj
  have := Fc.state a ha h1 hK
  rw [h] at this
  exact this.mono fun e w' ⟨he, hs⟩ => ⟨he, JM.step h2 h3 h4 h5 h6 hs⟩
theorem JM.count (Fc : Face vm I) {k : Int} {x : Nat} (h : countS S k = x) (hj : JM I w0 m bm w S K n M) (h1 : -9223372036854775808 ≤ k) (h2 : k ≤ 9223372036854775807) (hK : K ≤ lim) :
    Calls Try.prog vm.count #[.pointer (some m), .int .i64 k] w fun e w' => e = .returned (.int .u64 (x : Int)) ∧ JM I w0 m bm w' S K n M := by
  obtain ⟨F, k1, k2, k3, k4, k5, k6⟩ := hj
  have := Fc.count k h1 h2 k1 hK
  rw [h] at this
  exact this.mono fun e w' ⟨he, hs⟩ => ⟨he, JM.step k2 k3 k4 k5 k6 hs⟩
end Go.Proofs.Ytpceigglilgelab
