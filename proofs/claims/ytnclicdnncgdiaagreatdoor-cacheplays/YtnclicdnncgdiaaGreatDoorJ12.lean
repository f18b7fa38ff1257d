/- J12 of the proof of both laws: texts Xg, Xh, Xi, one behind the other. -/
import Derived.Test.YtnclicdnncgdiaaGreatDoorJ11
import Derived.Deep.Quiet
import Derived.StillTail
import Derived.Deep.RegionHeld
import Derived.OwnWalkIn
import Derived.TacticsInMore
/- Package radix: the numbers of rows, one by one: the iterator's contract; a loop over numbers. -/
namespace Go.Proofs.YtnclicdnncgdiaaGreatDoor
open Go.ChangeShapes Go.WideShapes Go.ChangeAt Go.RowKit Go.Proofs.Bt Go.Shelf Go.Proofs.Rx Go.Maps
set_option linter.unusedVariables false
set_option linter.unusedSimpArgs false

attribute [local go_sem] Oper.semAt_some

/-- How many rows at a depth a span meets. -/
def cntR (D a b : Nat) : Nat := (b - 1) / sz D + 1 - a / sz D
/-- What the iterator reads. -/
structure RdS (B0 B1 D a b : Nat) (w : World) : Prop where
  sp : w.heap[B0]? = some (.cells #[.int .u64 (a : Nat), .int .u64 (b : Nat)] 92 (0, 0))
  dp : w.heap[B1]? = some (.cells #[.int .i64 (D : Nat)] 3 (0, 0))
  tab : TabW w
theorem range_pre {j N : Nat} (h : j < N) : List.range j ++ [j] <+: List.range N := by
  rw [← List.range_succ, List.prefix_iff_eq_take, List.length_range, List.take_range, Nat.min_eq_left (by omega)]
theorem pre_range {pre : List Nat} {x N : Nat} (h : pre ++ [x] <+: List.range N) : pre = List.range pre.length ∧ x = pre.length ∧ pre.length < N := by
  have hl := h.length_le
  simp at hl
  have h1 : pre ++ [x] = (List.range N).take (pre.length + 1) := by
    have := List.prefix_iff_eq_take.1 h
    simpa using this
  rw [List.take_range, Nat.min_eq_left (by omega), List.range_succ] at h1
  have h2 := List.append_inj h1 (by simp)
  refine ⟨h2.1, ?_, by omega⟩
  simpa using h2.2
def encs1 (f j : Nat) : Array Value := #[.int .u64 ((f + j : Nat) : Int)]
set_option maxRecDepth 100000 in
set_option maxHeartbeats 1000000 in
theorem rows_seq (B0 B1 D a b : Nat) (hD : D ≤ 6) (hab : a < b) (hb : b ≤ 34359738368) (n : Nat) :
    SeqB n Tryz.prog 94 #[.pointer (some ⟨B0, 0, none⟩), .pointer (some ⟨B1, 0, none⟩)] (encs1 (a / sz D)) (RdS B0 B1 D a b) (List.range (cntR D a b)) := by
  intro l J Jx W hR hJ hY h0
  obtain ⟨f, hf⟩ : ∃ f, a / sz D = f := ⟨_, rfl⟩
  obtain ⟨N, hN⟩ : ∃ N, cntR D a b = N := ⟨_, rfl⟩
  rw [hf, hN] at hY
  rw [hN]
  have rd : ∀ j A, J (List.range j) A → Hid (A.cell? ⟨B0, 0, none⟩ = some (.int .u64 (a : Nat)) ∧ A.cell? ⟨B0, 1, none⟩ = some (.int .u64 (b : Nat)) ∧ A.cell? ⟨B1, 0, none⟩ = some (.int .i64 (D : Nat)) ∧ A.cell? ⟨0, D, none⟩ = some (.int .i64 (sh D : Nat))) := fun j A h => by
    have r := hR _ _ h
    exact hide ⟨by simp [World.cell?, r.sp], by simp [World.cell?, r.sp], by simp [World.cell?, r.dp], r.tab.2 D (by omega)⟩
  have HJ := hide hJ
  have HY := hide hY
  have H0 := hide h0
  have lt : ∀ j : Nat, ((f + j) * sz D < b ↔ j < N) := fun j => by
    unfold cntR at hN
    have hp := sz_pos D
    have h1 : (f + j) * sz D < b ↔ f + j ≤ (b - 1) / sz D := by
      rw [Nat.le_div_iff_mul_le hp]; omega
    have h2 : f ≤ (b - 1) / sz D := by rw [← hf]; exact Nat.div_le_div_right (by omega)
    rw [h1]; omega
  have hfb : (f + N) * sz D ≤ b + 2 * 34359738368 := by
    have h1 : ¬ (f + N) * sz D < b := fun z => by have := (lt N).1 z; omega
    have hz := sz_le D hD
    by_cases c : N = 0
    · subst c
      rw [Nat.add_zero]
      have : f * sz D ≤ a := by rw [← hf]; exact Nat.div_mul_le_self _ _
      omega
    · have h2 := (lt (N - 1)).2 (by omega)
      have e : (f + N) * sz D = (f + (N - 1)) * sz D + sz D := by rw [← Nat.succ_mul]; congr 1; omega
      omega
  have LT := hide lt
  have DL : ∀ (I : Int) (j : Nat), I = ((f + j : Nat) : Int) → decide (I * ((sz D : Nat) : Int) < ((b : Nat) : Int)) = decide (j < N) := fun I j e => by
    rw [e, ← Int.natCast_mul, decide_eq_decide, Int.ofNat_lt]; exact lt j
  have HWR : ∀ (I : Int) (j : Nat), I = ((f + j : Nat) : Int) → j ≤ N → IntKind.u64.wrap (I * ((sz D : Nat) : Int)) = I * ((sz D : Nat) : Int) := fun I j e hj => by
    have h1 : (f + j) * sz D ≤ (f + N) * sz D := Nat.mul_le_mul_right _ (by omega)
    rw [e, ← Int.natCast_mul, IntKind.wrap_u64]
    generalize (f + j) * sz D = X at *
    omega
  clear hR hJ hY h0 hN lt
  rcases cases_d hD with rfl | rfl | rfl | rfl | rfl | rfl | rfl
  all_goals
    clear hD
    simp only [sh, sz, Int.cast_ofNat_Int] at rd LT hf hfb DL HWR
    refine callsIn_of_wp Tryz.func94 rfl trivial ?_ rfl
    simp only [Tryz.ntmps94, List.size_toArray, List.length_cons, List.length_nil, Nat.reduceAdd, Nat.reduceSub, Array.replicate_succ, Array.replicate_zero, List.push_toArray, List.append_toArray, List.nil_append, List.cons_append]
    obtain ⟨r0', r1', r2', r3'⟩ := (rd 0 _ H0.out).out
    have H1 := hide (HJ.out _ _ _ H0.out (drew_below _))
    gi_wp2_with fail
    refine wpIn_wide.2 (still_all (by kernel_rfl) (by kernel_rfl) ?_)
    repeat still_step
    refine wpStill_nil ?_
    gi_wp2_with fail
    gi_loopw [4] (fun iv wr => ∃ (I : Int) (j : Nat), iv = .int .u64 I ∧ 0 ≤ I ∧ j ≤ N ∧ Hid (I = ((f + j : Nat) : Int)) ∧ Hid (J (List.range j) wr)) (fun iv _ => N + f - (intOf iv).toNat)
    case atStart => exact ⟨_, 0, rfl, by omega, by omega, hide (by omega), H1⟩
    case round =>
      obtain ⟨I, j, rfl, i0, hj, HI, HX⟩ := hrel
      obtain ⟨r0, r1, r2, r3⟩ := (rd j _ HX.out).out
      have HX1 := hide (HJ.out _ _ _ HX.out (drew_below _))
      have i1 : I ≤ 70368744177664 := by have := HI.out; omega
      have dl := DL I j HI.out
      have hw := HWR I j HI.out hj
      clear DL HWR rd LT r0' r1' r2' r3'
      by_cases hlt : j < N
      · rw [decide_eq_true hlt] at dl
        obtain ⟨fn, tmps, assign, body, hy, hRr⟩ := HY.out (List.range j) j _ (range_pre hlt) HX1.out
        simp only [encs1] at hy
        rw [← HI.out] at hy
        have HRR := hide hRr
        clear hRr HX
        gi_wp2_with fail
        refine wpIn_wide.2 (still_all (by kernel_rfl) (by kernel_rfl) ?_)
        repeat still_step
        refine wpStill_nil ?_
        gi_wp2_with fail
        refine ⟨(fun h => by cases h), HRR.out.mono ?_⟩
        clear HRR hy
        rintro e' w4 (⟨rfl, j4⟩ | ⟨rfl, jx4⟩)
        · have X := hide j4
          rw [← List.range_succ] at X
          clear j4
          gi_wp2_with fail
          refine ⟨⟨I + 1, j + 1, rfl, by omega, by omega, hide (by have := HI.out; omega), X⟩, ?_⟩
          have := HI.out
          simp [intOf]; omega
        · have X := hide jx4
          clear jx4
          gi_wp2_with fail
          refine bodyPost_ret (results_none rfl _ _ _) rfl ?_
          exact ⟨⟨_, rfl⟩, .inr ⟨_, _, range_pre hlt, X.out⟩⟩
      · rw [decide_eq_false hlt] at dl
        obtain rfl : j = N := by omega
        clear HX
        gi_wp2_with fail
        refine wpIn_wide.2 (still_all (by kernel_rfl) (by kernel_rfl) ?_)
        repeat still_step
        refine wpStill_nil ?_
        gi_wp2_with fail
        go_end0
        exact ⟨⟨_, rfl⟩, .inl HX1.out⟩
end Go.Proofs.YtnclicdnncgdiaaGreatDoor

/- A region that draws its order, inside a loop's round too: what only reads, or calls what turns nothing old, comes first, in whatever order; the rest follows in a row. -/
namespace Go.Proofs.Rx
open Go
set_option linter.unusedVariables false
set_option linter.unusedSimpArgs false

/-- A fence that lets all in, outside a round or inside one. -/
abbrev FW (ro : Option Nat) : Fence := { Fence.wide with round := ro }
section
variable {P : Program} {ops : Array Oper} {md : Region.Mode} {C : World → Prop} {ro : Option Nat} {m : Nat}
theorem calls_fw {f : FuncId} {args : Array Value} {w : World} {R : Ending → World → Prop} (h : Calls P f args w R) : CallsIn (FW ro) m P f args w R := callsIn_wide (n := m).2 h
theorem opIn_quiet {o : Oper} {a : Act} {K : Act → Prop} {K' : Act → World → Prop} {Q' : Exit → Act → World → Prop} {w : World} (hd : ∀ c, o.op ≠ .defer c) (hw : C w) (h : ∀ a w', C w' → K a → K' a w') (hh : o.quiet P a C K) : o.wpIn (FW ro) m P a w K' Q' := by
  obtain ⟨v, h1, h2⟩ := hh
  have h3 := h1 w hw
  unfold Oper.quietAt at h3
  refine ⟨fun _ _ => trivial, ?_⟩
  rw [Oper.semAt_plain _ _ _ hd]
  generalize (execOp a.eval o).run P w = r at *
  cases r with
  | ok n w' =>
    cases n <;> simp only [Oper.quietUpon] at h3 <;> simp only [Oper.uponIn]
    case value u =>
      obtain ⟨e1, e2⟩ := h3
      rw [e1, e2]
      exact h _ _ hw h2
    case skip =>
      obtain ⟨e1, e2⟩ := h3
      rw [e1, ← e2]
      exact h _ _ hw h2
    case enter f args =>
      obtain ⟨e1, hc⟩ := h3
      rw [e1]
      refine ⟨fun z => (by cases z), calls_fw (hc.mono fun e w'' ⟨he, hw''⟩ => ?_)⟩
      subst he
      exact h _ _ hw'' h2
  | halt x w' => simp only [Oper.quietUpon] at h3
/-- No operation is a defer statement, and none has a guard. -/
def plainB (ops : Array Oper) : Bool := ops.toList.all fun o => o.guard.isNone && (match o.op with | .defer _ => false | _ => true)
theorem plain_at (h : plainB ops = true) {i : Nat} {o : Oper} (hi : ops[i]? = some o) : o.guard = none ∧ ∀ c, o.op ≠ .defer c := by
  have hm : o ∈ ops.toList := by
    have := Array.getElem?_eq_some_iff.1 hi
    obtain ⟨h1, h2⟩ := this
    rw [← h2]; exact Array.getElem_mem_toList h1
  have := List.all_eq_true.1 h o hm
  simp only [Bool.and_eq_true, Option.isNone_iff_eq_none] at this
  refine ⟨this.1, fun c hc => ?_⟩
  rw [hc] at this
  simp at this
theorem wanted_none {o : Oper} (h : o.guard = none) (ops : Array Oper) (t : Array Value) : Region.wanted o (yielded ops t) = true := by
  simp [Region.wanted, h]
theorem opIn_of_q (hp : plainB ops = true) {ops' : Array Oper} {i : Nat} (he : ops'[i]? = ops[i]?) {a : Act} {K : Act → Prop} {K' : Act → World → Prop} {Q' : Exit → Act → World → Prop} {w : World} (hC : C w) (h : ∀ a w', C w' → K a → K' a w') (hh : qOp P ops' C i K a) : wpOpIn (FW ro) m P ops Q' i K' a w := by
  unfold qOp at hh
  unfold wpOpIn
  rw [he] at hh
  cases ho : ops[i]? with
  | none => rw [ho] at hh; exact h _ _ hC hh
  | some o =>
    rw [ho] at hh
    obtain ⟨g, nd⟩ := plain_at hp ho
    simp only [wanted_none g, if_true] at hh ⊢
    exact opIn_quiet nd hC h hh
theorem anyIn_quiet (hp : plainB ops = true) {Q : Act → Prop} {Q' : Exit → Act → World → Prop} (hQ : ∀ a w, C w → Q a → Q' .normal a w) : ∀ (fuel : Nat) (listed : Array Bool) (a : Act) (w : World), C w →
    wpAnyQ P md ops C Q fuel listed a → wpAnyIn (FW ro) m P md ops Q' fuel listed a w
  | 0, _, _, _, hw, h => ⟨h.1, hQ _ _ hw h.2⟩
  | fuel + 1, _, _, _, hw, h => ⟨fun h0 => hQ _ _ hw (h.1 h0), fun i hi => opIn_of_q hp rfl hw (fun a' w' hw' => anyIn_quiet hp hQ fuel _ a' w' hw') (h.2 i hi)⟩
/-- A region that only reads, or calls what keeps to the class. -/
theorem region_all {id : Nat} {Q : Exit → Act → World → Prop} {a : Act} {w : World} {l : List Oper} (C : World → Prop) (hm : P.follows .mixedOrders = true) (hB : (Region.lexB .any l.toArray && plainB l.toArray) = true) (hC : C w.drew)
    (h : wpQuiet P l.toArray C (fun a' => ∀ w', C w' → Q .normal a' w') l a) : (Code.region id l.toArray true).wpIn (FW ro) m P Q a w := by
  simp only [Region.lexB, Bool.and_eq_true] at hB
  refine wpIn_region_any hm (anyIn_quiet hB.2 (Q := fun a' => ∀ w', C w' → Q .normal a' w') (fun _ w' hw' h => h w' hw') _ _ _ _ hC ?_)
  have := wpAnyQ_lex (P := P) (C := C) (md := .any) hB.1.1 l 0 (Array.replicate l.toArray.size false) a (by simp) (by simpa using hB.1.2) h
  simpa using this
/-- What comes in a row. -/
theorem anyIn_seq {Q' : Exit → Act → World → Prop} {F : Fence} : ∀ (l : List Oper) (k : Nat) (listed : Array Bool) (a : Act) (w : World), (∀ j, l[j]? = ops[k + j]?) →
    Region.seqB md ops l.length k listed = true → wpListIn F m P ops Q' l a w → wpAnyIn F m P md ops Q' l.length listed a w
  | [], _, _, _, _, _, hB, h => ⟨by simpa [Region.seqB] using hB, h⟩
  | o :: l, k, listed, a, w, hl, hB, h => by
    have h0 : ops[k]? = some o := by simpa using (hl 0).symm
    simp only [List.length_cons, Region.seqB, Bool.and_eq_true, decide_eq_true_eq] at hB
    refine ⟨fun h1 => (by rw [hB.1] at h1; cases h1), fun i hi => ?_⟩
    rw [hB.1] at hi
    have hik : i = k := by simpa using hi
    subst hik
    have hw : wpOpIn F m P ops Q' i (wpListIn F m P ops Q' l) a w := by unfold wpOpIn; simp only [h0]; exact h
    exact wpOpIn_mono (fun a' w' h' => anyIn_seq l (i + 1) _ a' w' (fun j => by have := hl (j + 1); simpa [Nat.add_assoc, Nat.add_comm 1 j] using this) hB.2 h') hw
/-- How many of the first ones have not come yet. -/
def open_ (listed : Array Bool) : Nat → Nat
  | 0 => 0
  | n + 1 => open_ listed n + if listed.getD n true = false then 1 else 0
theorem open_zero {listed : Array Bool} : ∀ {n}, open_ listed n = 0 → ∀ i, i < n → listed.getD i true ≠ false
  | 0, _, i, hi => by omega
  | n + 1, h, i, hi => by
    unfold open_ at h
    by_cases z : listed.getD n true = false
    · rw [if_pos z] at h; omega
    · by_cases e : i = n
      · rw [e]; exact z
      · exact open_zero (n := n) (by rw [if_neg z] at h; omega) i (by omega)
theorem open_some {listed : Array Bool} : ∀ {n}, 0 < open_ listed n → ∃ i, i < n ∧ listed.getD i true = false ∧ ∀ j, j < i → listed.getD j true ≠ false
  | 0, h => by simp [open_] at h
  | n + 1, h => by
    by_cases c : 0 < open_ listed n
    · obtain ⟨i, h1, h2, h3⟩ := open_some c
      exact ⟨i, by omega, h2, h3⟩
    · unfold open_ at h
      by_cases z : listed.getD n true = false
      · exact ⟨n, by omega, z, fun j hj => open_zero (n := n) (by omega) j hj⟩
      · rw [if_neg z] at h; omega
theorem open_set {listed : Array Bool} {i : Nat} (hi : listed.getD i true = false) : ∀ n, open_ (listed.setIfInBounds i true) n = open_ listed n - (if i < n then 1 else 0)
  | 0 => by simp [open_]
  | n + 1 => by
    have hs : i < listed.size := by
      rcases Nat.lt_or_ge i listed.size with h | h
      · exact h
      · simp [Array.getElem?_eq_none h] at hi
    have ih := open_set hi n
    unfold open_
    rw [ih]
    have pos : i < n → 0 < open_ listed n := fun hin => by
      rcases Nat.eq_zero_or_pos (open_ listed n) with z | z
      · exact absurd hi (open_zero z i hin)
      · exact z
    by_cases e : i = n
    · subst e
      have : (listed.setIfInBounds i true).getD i true = true := by simp [Array.getD, hs]
      rw [this, hi]
      simp
    · have : (listed.setIfInBounds i true).getD n true = listed.getD n true := by simp [Array.getD_eq_getD_getElem?, Array.getElem?_setIfInBounds_ne e]
      rw [this]
      by_cases c : i < n
      · have := pos c
        rw [if_pos c, if_pos (by omega : i < n + 1)]; omega
      · rw [if_neg c, if_neg (by omega : ¬ i < n + 1)]; omega
/-- What a head must be: each waits for earlier ones alone. -/
def backB (ops : Array Oper) (md : Region.Mode) (n : Nat) : Bool := (List.range n).all fun i => match ops[i]? with | some o => o.after.toList.all fun e => !Region.binds md e || decide (e.on < i) | none => false
theorem back_at {n : Nat} (h : backB ops md n = true) {i : Nat} (hi : i < n) : ∃ o, ops[i]? = some o ∧ ∀ e ∈ o.after, Region.binds md e = true → e.on < i := by
  have := List.all_eq_true.1 h i (List.mem_range.2 hi)
  cases ho : ops[i]? with
  | none => simp [ho] at this
  | some o =>
    simp only [ho] at this
    refine ⟨o, rfl, fun e he hb => ?_⟩
    have h2 := List.all_eq_true.1 this e (Array.mem_toList_iff.2 he)
    simp only [Bool.or_eq_true, Bool.not_eq_true', decide_eq_true_eq] at h2
    rcases h2 with h2 | h2
    · rw [hb] at h2; cases h2
    · exact h2
/-- All of the head have come, nothing of the tail. -/
def headDone (n k : Nat) : Array Bool := (List.replicate n true ++ List.replicate k false).toArray
theorem head_tail {hd : Array Oper} {n g : Nat} (hp : plainB ops = true) (hn : n < ops.size) (hh : ∀ i, i < n → hd[i]? = ops[i]?) (hs : hd.size = n) (hb : backB ops md n = true) (hsink : Region.sinkB md ops n = true) (hchain : Region.chainB md ops n = true)
    {K : Act → Prop} {Q : Exit → Act → World → Prop} (hT : ∀ a w, C w → K a → wpAnyIn (FW ro) m P md ops Q g (headDone n (ops.size - n)) a w) :
    ∀ (f : Nat) (listed listed' : Array Bool) (a : Act) (w : World), open_ listed n = f → HeadInv md ops n listed → listed'.size = n → (∀ i, i < n → listed'[i]? = listed[i]?) → C w →
      wpAnyQ P md hd C K f listed' a → wpAnyIn (FW ro) m P md ops Q (f + g) listed a w
  | 0, listed, listed', a, w, ho, inv, hs', hl, hw, h => by
    rw [Nat.zero_add]
    have e : listed = headDone n (ops.size - n) := by
      apply Array.ext
      · rw [inv.size]; simp [headDone]; omega
      · intro i h1 h2
        simp only [headDone, List.getElem_toArray]
        by_cases c : i < n
        · have := open_zero ho i c
          simp [Array.getD, h1] at this
          rw [List.getElem_append_left (by simpa using c)]
          simpa using this
        · have := inv.tail i (by omega) (by rw [← inv.size]; exact h1)
          simp [Array.getD, h1] at this
          rw [List.getElem_append_right (by simpa using c)]
          simpa using this
    rw [e]
    exact hT a w hw h.2
  | f + 1, listed, listed', a, w, ho, inv, hs', hl, hw, h => by
    obtain ⟨i0, i1, i2, i3⟩ := open_some (by omega : 0 < open_ listed n)
    have same : ∀ i, i < n → ∀ d, listed'.getD i d = listed.getD i d := fun i hi d => by simp only [Array.getD_eq_getD_getElem?, hl i hi]
    have r0 : i0 ∈ Region.ready md ops listed := by
      obtain ⟨o, ho', ha⟩ := back_at hb i1
      refine mem_ready.2 ⟨i2, o, ho', fun e he hbind => ?_⟩
      have h1 := ha e he hbind
      have h2 := i3 e.on h1
      have h3 : e.on < listed.size := by rw [inv.size]; omega
      simp [Array.getD, h3] at h2 ⊢
      exact h2
    rw [show f + 1 + g = (f + g) + 1 by omega]
    refine ⟨fun z => (by rw [z] at r0; cases r0), fun i hi => ?_⟩
    have hin : i < n := by
      rcases Nat.lt_or_ge i n with c | c
      · exact c
      · exact absurd hi (tail_waits hsink hchain hn inv (n - i0) i0 rfl i1 i2 i c)
    obtain ⟨q1, o, q2, q3⟩ := mem_ready.1 hi
    obtain ⟨o', p1, p2⟩ := back_at hb hin
    have hoo : o' = o := Option.some.inj (p1.symm.trans q2)
    subst hoo
    have r' : i ∈ Region.ready md hd listed' := mem_ready.2 ⟨by rw [same i hin]; exact q1, o', by rw [hh i hin]; exact q2, fun e he hbind => by
      have := p2 e he hbind
      rw [same e.on (by omega)]; exact q3 e he hbind⟩
    refine opIn_of_q hp (hh i hin) hw (fun a' w' hw' hk => ?_) (h.2 i r')
    refine head_tail hp hn hh hs hb hsink hchain hT f _ _ a' w' ?_ (inv.set hi hin) (by simpa using hs') (fun j hj => ?_) hw' hk
    · rw [open_set q1, if_pos hin]; omega
    · by_cases e : i = j
      · subst e
        rw [Array.getElem?_setIfInBounds_self, Array.getElem?_setIfInBounds_self, if_pos (by omega), if_pos (by rw [inv.size]; omega)]
      · rw [Array.getElem?_setIfInBounds_ne e, Array.getElem?_setIfInBounds_ne e]; exact hl j hj
/-- What is asked of a region's operations, by reckoning. -/
def tailB (l : List Oper) (n : Nat) : Bool :=
  decide (n < l.length) && plainB l.toArray && backB l.toArray .any n && Region.sinkB .any l.toArray n && Region.chainB .any l.toArray n && Region.lexB .any (l.take n).toArray && Region.seqB .any l.toArray (l.length - n) n (headDone n (l.length - n))
/-- A region whose first n operations only read, or call what keeps to the class; the rest follows in a row. -/
theorem region_tail {id : Nat} {Q : Exit → Act → World → Prop} {a : Act} {w : World} {l : List Oper} (C : World → Prop) (n : Nat) (hm : P.follows .mixedOrders = true) (hB : tailB l n = true) (hC : C w.drew)
    (h : wpQuiet P (l.take n).toArray C (fun a' => ∀ w', C w' → wpListIn (FW ro) m P l.toArray Q (l.drop n) a' w') (l.take n) a) : (Code.region id l.toArray true).wpIn (FW ro) m P Q a w := by
  simp only [tailB, Bool.and_eq_true, decide_eq_true_eq] at hB
  obtain ⟨⟨⟨⟨⟨⟨hn, hp⟩, hb⟩, hs⟩, hc⟩, hlex⟩, hseq⟩ := hB
  simp only [Region.lexB, Bool.and_eq_true] at hlex
  have htl : (l.take n).length = n := by simp; omega
  refine wpIn_region_any hm ?_
  have e : l.toArray.size = n + (l.length - n) := by simp; omega
  have hq := wpAnyQ_lex (P := P) (C := C) (md := .any) hlex.1 (l.take n) 0 (Array.replicate (l.take n).toArray.size false) a (by simp) (by simpa using hlex.2) h
  rw [e]
  have hop : ∀ k N, k ≤ N → open_ (Array.replicate N false) k = k := fun k => by
    induction k with
    | zero => intro N _; rfl
    | succ k ih => intro N hN; unfold open_; rw [ih N (by omega), if_pos]; simp [Array.getD]; omega
  have inv0 : HeadInv .any l.toArray n (Array.replicate (n + (l.length - n)) false) :=
    ⟨by rw [e]; simp, fun j oj _ hl => (by rw [getD_replicate_false] at hl; cases hl), fun t _ ht => getD_in (by rw [e] at ht; simpa using ht) (getD_replicate_false _ _)⟩
  refine head_tail (hd := (l.take n).toArray) (g := l.length - n) hp (by simpa using hn) (fun i hi => ?_) (by simpa using htl) hb hs hc (K := fun a' => ∀ w', C w' → wpListIn (FW ro) m P l.toArray Q (l.drop n) a' w') (fun a' w' hw' hk => ?_) n _ (Array.replicate n false) a _ (hop _ _ (by omega)) inv0 (by simp) (fun i hi => ?_) hC ?_
  · simp [List.getElem?_take, hi]
  · have := anyIn_seq (P := P) (ops := l.toArray) (md := .any) (m := m) (F := FW ro) (Q' := Q) (l.drop n) n (headDone n (l.length - n)) a' w' (fun j => by simp) (by simpa using hseq) (hk w' hw')
    simpa using this
  · simp [Array.getElem?_replicate, hi]
    omega
  · rw [htl] at hq
    simpa [htl] using hq
/-- What is asked, and that memory does not run out. -/
def NoOut (Q : Exit → Act → World → Prop) (e : Exit) (a : Act) (w : World) : Prop := e ≠ .outgrown ∧ Q e a w
theorem rows_fw {r : String} {args : Array Value} {w : World} {R : Value → World → Prop} (h : Rows P r args w R) : RowsIn (FW ro) m P r args w R := fun c cs _ =>
  let ⟨v, w', q, s⟩ := h c cs
  ⟨v, w', q, stepsIn_wide.2 s⟩
theorem opIn_of_op (hp : plainB ops = true) {Q : Exit → Act → World → Prop} {i : Nat} {a : Act} {w : World} {K K' : Act → World → Prop} (h : ∀ a w, K a w → K' a w) (hh : wpOp P ops (NoOut Q) i K a w) : wpOpIn (FW ro) m P ops Q i K' a w := by
  unfold wpOp at hh
  unfold wpOpIn
  cases ho : ops[i]? with
  | none => rw [ho] at hh; exact h _ _ hh
  | some o =>
    rw [ho] at hh
    obtain ⟨g, nd⟩ := plain_at hp ho
    simp only [wanted_none g, if_true] at hh ⊢
    rcases hh with hh | ⟨_, a', w', z⟩
    · refine ⟨fun _ _ => trivial, ?_⟩
      rw [Oper.semAt_plain _ _ _ nd]
      unfold Oper.wp at hh
      generalize (execOp a.eval o).run P w = r at *
      cases r with
      | ok n w' =>
        cases n <;> simp only [Oper.upon] at hh <;> simp only [Oper.uponIn]
        case value u => exact h _ _ hh
        case skip => exact h _ _ hh
        case defer d => exact h _ _ hh
        case enter f args =>
          refine ⟨fun z => (by cases z), calls_fw (hh.mono fun e w'' he => ?_)⟩
          cases e with
          | returned v => exact h _ _ he
          | panicked c => exact he.2
          | outgrown =>
            obtain ⟨_, _, z⟩ := he
            exact absurd rfl z.1
        case row r args => exact ⟨fun z => (by cases z), rows_fw (hh.mono fun v w'' he => h _ _ he)⟩
      | halt x w' =>
        cases x <;> simp only [Oper.upon] at hh <;> simp only [Oper.uponIn]
        case panic u => exact hh.2
    · exact absurd rfl z.1
theorem anyIn_of_any (hp : plainB ops = true) {Q : Exit → Act → World → Prop} : ∀ (fuel : Nat) (listed : Array Bool) (a : Act) (w : World), wpAny P md ops (NoOut Q) fuel listed a w → wpAnyIn (FW ro) m P md ops Q fuel listed a w
  | 0, _, _, _, h => ⟨h.1, h.2.2⟩
  | fuel + 1, _, _, _, h => ⟨fun h0 => (h.1 h0).2, fun i hi => opIn_of_op hp (fun a' w' => anyIn_of_any hp fuel _ a' w') (h.2 i hi)⟩
/-- A region by whatever walk of its orders outside a round. -/
theorem region_held {id : Nat} {Q : Exit → Act → World → Prop} {a : Act} {w : World} {l : List Oper} {S : World → Prop} (hm : P.follows .mixedOrders = true) (hB : plainB l.toArray = true)
    (h : wpAnyH P .any l.toArray (NoOut Q) S l.toArray.size (Array.replicate l.toArray.size false) a w.drew) : (Code.region id l.toArray true).wpIn (FW ro) m P Q a w :=
  wpIn_region_any hm (anyIn_of_any hB _ _ _ _ (wpAny_of_held _ _ _ _ h))
end
end Go.Proofs.Rx

/- A loop over an iterator that may run a loop of its own: how it is walked. -/
namespace Go.Proofs.YtnclicdnncgdiaaGreatDoor
open Go.ChangeShapes Go.WideShapes Go.ChangeAt Go.RowKit Go.Proofs.Bt Go.Shelf Go.Proofs.Rx Go.Maps
set_option linter.unusedVariables false
set_option linter.unusedSimpArgs false

/-- A loop's own record, or the list of what it defers. -/
def NC (A : World) (b : Nat) : Prop := ∃ o, A.heap[b]? = some o ∧ ((∃ r, o = .loop r) ∨ ∃ d, o = .deferred d)
theorem NC.loop {A : World} {b : Nat} {r : Loop} (h : A.heap[b]? = some (.loop r)) : NC A b := ⟨_, h, .inl ⟨r, rfl⟩⟩
theorem NC.deferred {A : World} {b : Nat} {d : Option (List Deferred)} (h : A.heap[b]? = some (.deferred d)) : NC A b := ⟨_, h, .inr ⟨d, rfl⟩⟩
theorem NC.not_cells {A : World} {b : Nat} {cs : Array Value} {t : TypeId} {z : Nat × Nat} (h : A.heap[b]? = some (.cells cs t z)) : ¬ NC A b := by
  rintro ⟨o, ho, h1⟩
  rw [h] at ho
  cases ho
  rcases h1 with ⟨r, e⟩ | ⟨d, e⟩ <;> cases e
/-- How an iterator goes that yields so many times, and may have loops of its own: the rounds leave alone what is made from its call on. -/
def SeqK (n : Nat) (P : Program) (gf : Nat) (lb : Array Value) (encs : Nat → Array Value) (Rd : World → Prop) (N : Nat) : Prop :=
  ∀ (l : Nat) (J Jx : Nat → World → Prop) (W : World), (∀ s A, J s A → Rd A) →
    (∀ s A A', J s A → Kept (fun b => W.heap.size ≤ b ∧ NC A b) A A' → J s A') →
    (∀ s A A', Jx s A → Kept (fun b => W.heap.size ≤ b ∧ NC A b) A A' → Jx s A') →
    (∀ k W1, k < N → J k W1 → W.heap.size ≤ W1.heap.size → YieldAt Fence.wide (n - 1) P l (encs k) W1 fun e W' =>
      Kept (fun b => b < W.heap.size) W1 W' ∧ ((e = .returned (.bool true) ∧ J (k + 1) W') ∨ (e = .returned (.bool false) ∧ Jx k W'))) →
    J 0 W →
    CallsIn Fence.wide n P gf (#[.func (.yield l) #[] #[]] ++ lb) W fun e W' => (∃ v, e = .returned v) ∧ (J N W' ∨ ∃ k, k < N ∧ Jx k W')
theorem yieldAt_mono {F : Fence} {m : Nat} {P : Program} {l : Nat} {args : Array Value} {W : World} {R R' : Ending → World → Prop} (h : YieldAt F m P l args W R) (hr : ∀ e w', R e w' → R' e w') : YieldAt F m P l args W R' := by
  obtain ⟨fn, tmps, assign, body, hy, hR⟩ := h
  exact ⟨fn, tmps, assign, body, hy, hR.mono hr⟩
theorem SeqK.of_B {n : Nat} {P : Program} {gf : Nat} {lb : Array Value} {encs : Nat → Array Value} {Rd : World → Prop} {N : Nat} (h : SeqB n P gf lb encs Rd (List.range N)) : SeqK n P gf lb encs Rd N := by
  intro l J Jx W hR hJ hJx hY h0
  refine (h l (fun pre A => J pre.length A ∧ W.heap.size ≤ A.heap.size) (fun pre A => Jx (pre.length - 1) A) W (fun s A z => hR _ A z.1) (fun s A A' z k => ⟨hJ _ _ _ z.1 (Kept.of_below k), Nat.le_trans z.2 k.size⟩) (fun pre x W1 hp z => ?_) ⟨h0, Nat.le_refl _⟩).mono ?_
  · obtain ⟨e1, e2, e3⟩ := pre_range hp
    subst e2
    refine yieldAt_mono (hY pre.length W1 e3 z.1 z.2) ?_
    rintro e W' ⟨hk, (⟨he, hj⟩ | ⟨he, hj⟩)⟩
    · exact .inl ⟨he, by simpa using hj, Nat.le_trans z.2 hk.size⟩
    · exact .inr ⟨he, by simpa using hj⟩
  · rintro e W' ⟨hv, (z | ⟨pre, x, hp, z⟩)⟩
    · exact ⟨hv, .inl (by simpa using z.1)⟩
    · obtain ⟨e1, e2, e3⟩ := pre_range hp
      exact ⟨hv, .inr ⟨pre.length, e3, by simpa using z⟩⟩
/-- How the body of a round may be left. -/
def endK (B : Nat) (I : Nat → World → Prop) (Ix : Code → Nat → World → Prop) (k : Nat) (W₁ : World) : Exit → Act → World → Prop
  | .normal, _, W' => Kept (fun b => b < B) W₁ W' ∧ I (k + 1) W'
  | .exit id, _, W' => Kept (fun b => b < B) W₁ W' ∧ Ix (.exit id) k W'
  | .ret, _, W' => Kept (fun b => b < B) W₁ W' ∧ Ix .ret k W'
  | _, _, _ => False
/-- A range over such an iterator. -/
theorem range_K {P : Program} {g : Operand} {ps : Array Tmp} {assign body : Code} {Q : Exit → Act → World → Prop} {a : Act} {w : World} {n : Nat}
    {gf : Nat} {lb : Array Value} (hg : a.eval g = .func (.func gf) #[] lb) (eg : ∀ args w, (callFunc gf args).run P w = .ok (.enter gf args) w)
    {encs : Nat → Array Value} {Rd : World → Prop} {N : Nat} (hseq : SeqK (n - 1) P gf lb encs Rd N) (hps : ∀ x, (encs x).size = ps.size)
    (I : Nat → World → Prop) (Ix : Code → Nat → World → Prop)
    (hR : ∀ s A, I s A → Rd A)
    (hI : ∀ s A A', I s A → Kept (fun b => w.heap.size ≤ b ∧ NC A b) A A' → I s A')
    (hIx : ∀ c s A A', Ix c s A → Kept (fun b => w.heap.size ≤ b ∧ NC A b) A A' → Ix c s A') (h0 : I 0 w)
    (hround : ∀ (k : Nat) (W : World), (∃ r, W.heap[w.heap.size + 1]? = some (.loop r)) → W.heap[w.heap.size]? = some (.deferred (some [])) → w.heap.size + 2 ≤ W.heap.size → I k W → k < N →
      assign.wpIn (Fence.wide.inRound (w.heap.size + 1)) (n - 1 - 1) P (Exit.then (fun a₁ W₁ => Kept (fun b => b < w.heap.size) W W₁ ∧
        ∀ r, body.wpIn (Fence.wide.inRound (w.heap.size + 1)) (n - 1 - 1) P (endK w.heap.size I Ix k (W₁.putObj (w.heap.size + 1) (.loop r))) a₁ (W₁.putObj (w.heap.size + 1) (.loop r))) (fun _ _ _ => False))
        { tmps := (ps.zip (encs k)).foldl (fun t (p, v) => t.setIfInBounds p v) a.tmps, defers := [] } W)
    (hdone : ∀ (W : World), I N W → W.heap[w.heap.size]? = some (.deferred (some [])) → Q .normal { a with defers := { target := .collected w.heap.size, args := #[] } :: a.defers } W)
    (hstop : ∀ (c : Code) (k : Nat) (W : World), k < N → Ix c k W → W.heap[w.heap.size]? = some (.deferred (some [])) → c.wpIn Fence.wide n P Q { a with defers := { target := .collected w.heap.size, args := #[] } :: a.defers } W) :
    (Code.rangeFunc g ps assign body).wpIn Fence.wide n P Q a w := by
  refine wpIn_rangeFunc fun fn hfn => ?_
  generalize hrec : (fun st pe => ({ state := st, pending := pe, fn, tmps := a.tmps, params := ps, assign, body, defers := w.heap.size } : Loop)) = rec
  obtain ⟨W1, hW1⟩ : ∃ W1, (w.alloc (.deferred (some []))).alloc (.loop (rec .ready none)) = W1 := ⟨_, rfl⟩
  have s1 : W1.heap.size = w.heap.size + 2 := by rw [← hW1]; simp
  have hb1 : Below w.heap.size w W1 := by rw [← hW1]; exact ((Below.refl _ w).alloc (Nat.le_refl _) _).alloc (by simp) _
  have hl1 : W1.heap[w.heap.size + 1]? = some (.loop (rec .ready none)) := by
    have := World.alloc_heap_new (w.alloc (.deferred (some []))) (.loop (rec .ready none))
    rw [World.size_alloc, hW1] at this; exact this
  have hd1 : W1.heap[w.heap.size]? = some (.deferred (some [])) := by
    rw [← hW1]; exact (Below.heap_alloc _ _ _ (by simp)).trans (World.alloc_heap_new w _)
  refine ⟨w.heap.size + 1, [{ target := .collected w.heap.size, args := #[] }], W1, { target := .fn (.func gf) lb, args := #[.func (.yield (w.heap.size + 1)) #[] #[]] }, W1, gf, #[.func (.yield (w.heap.size + 1)) #[] #[]] ++ lb, W1, ?_, ?_, fun _ _ => trivial, ?_, (fun h => by cases h), ?_⟩
  · rw [← hW1, ← hrec]; exact run_enterLoop_outer _ _ _ _ _
  · simp only [resolve, hg]; simp [go_sem]
  · simp [invoke, go_sem, eg]
  have own : ∀ {A A' : World}, Kept (fun b => W1.heap.size ≤ b ∧ NC A b) A A' → (∀ k, k < w.heap.size + 2 → ∀ o, A.heap[k]? = some o → A'.heap[k]? = some o) := fun {A A'} hk k hk2 o ho => kept_at hk ho (fun z => by have := z.1; omega)
  refine (hseq (w.heap.size + 1)
    (fun k W => I k W ∧ W.heap[w.heap.size + 1]? = some (.loop (rec .ready none)) ∧ W.heap[w.heap.size]? = some (.deferred (some [])))
    (fun k W => ∃ c, Ix c k W ∧ W.heap[w.heap.size + 1]? = some (.loop (rec .done (some c))) ∧ W.heap[w.heap.size]? = some (.deferred (some [])))
    W1 (fun s A h => hR s A h.1) ?_ ?_ ?_ ⟨hI _ _ _ h0 (Kept.of_below hb1), hl1, hd1⟩).mono ?_
  · -- the iterator's own steps
    rintro s A A' ⟨hi, hl, hd⟩ hk
    exact ⟨hI _ _ _ hi (hk.mono fun b hb => ⟨by have := hb.1; omega, hb.2⟩), own hk _ (by omega) _ hl, own hk _ (by omega) _ hd⟩
  · rintro s A A' ⟨c, hi, hl, hd⟩ hk
    exact ⟨c, hIx _ _ _ _ hi (hk.mono fun b hb => ⟨by have := hb.1; omega, hb.2⟩), own hk _ (by omega) _ hl, own hk _ (by omega) _ hd⟩
  · -- a round
    rintro k W hlen ⟨hi, hl, hd⟩ hsz
    have hlt : w.heap.size + 1 < W.heap.size := (Array.getElem?_eq_some_iff.1 hl).1
    have hy := run_yield (P := P) (args := encs k) hl (by rw [← hrec]; exact hps k)
    rw [← hrec] at hy
    refine ⟨fn, _, assign, body, hy, roundIn_of_wpIn hfn (wpIn_mono (hround k W ⟨_, hl⟩ hd (by omega) hi hlen) ?_)⟩
    rintro e a₁ W₁ hp
    cases e with
    | normal =>
      obtain ⟨hk, hb⟩ := hp
      have hl' := kept_at hk hl (by omega)
      have hd' := kept_at hk hd (by omega)
      have hlt1 := (Array.getElem?_eq_some_iff.1 hl').1
      refine ⟨_, run_beginRound hl' (by rw [← hrec]), wpIn_mono (hb _) ?_⟩
      rintro e a₂ W₂ hq
      cases e with
      | normal =>
        obtain ⟨q1, q3⟩ := hq
        have hl2 := kept_at q1 (World.putObj_heap_same hlt1) (by omega)
        have hlt2 := (Array.getElem?_eq_some_iff.1 hl2).1
        have hd2 := kept_at q1 ((World.putObj_heap_other (by omega)).trans hd') (by omega)
        have kk := ((hk.mono (G := fun b => b < W1.heap.size) (fun b hb => by omega)).trans (Kept.put (F := fun b => b < W1.heap.size) W₁ (w.heap.size + 1) _ (by omega)) (fun _ _ z => z)).trans (q1.mono (G := fun b => b < W1.heap.size) (fun b hb => by omega)) (fun _ _ z => z)
        refine ⟨_, _, run_endRound none hl2, ⟨kk.trans (Kept.put (F := fun b => b < W1.heap.size) W₂ (w.heap.size + 1) _ (by omega)) (fun _ _ z => z), .inl ⟨rfl, ⟨hI _ _ _ q3 (Kept.put _ _ _ ⟨by omega, NC.loop hl2⟩), ?_, ?_⟩⟩⟩⟩
        · rw [World.putObj_heap_same hlt2, ← hrec]; rfl
        · exact (World.putObj_heap_other (by omega)).trans hd2
      | exit id =>
        obtain ⟨q1, q3⟩ := hq
        have hl2 := kept_at q1 (World.putObj_heap_same hlt1) (by omega)
        have hlt2 := (Array.getElem?_eq_some_iff.1 hl2).1
        have hd2 := kept_at q1 ((World.putObj_heap_other (by omega)).trans hd') (by omega)
        have kk := ((hk.mono (G := fun b => b < W1.heap.size) (fun b hb => by omega)).trans (Kept.put (F := fun b => b < W1.heap.size) W₁ (w.heap.size + 1) _ (by omega)) (fun _ _ z => z)).trans (q1.mono (G := fun b => b < W1.heap.size) (fun b hb => by omega)) (fun _ _ z => z)
        refine ⟨_, _, run_endRound (some (.exit id)) hl2, ⟨kk.trans (Kept.put (F := fun b => b < W1.heap.size) W₂ (w.heap.size + 1) _ (by omega)) (fun _ _ z => z), .inr ⟨rfl, .exit id, hIx _ _ _ _ q3 (Kept.put _ _ _ ⟨by omega, NC.loop hl2⟩), ?_, ?_⟩⟩⟩
        · rw [World.putObj_heap_same hlt2, ← hrec]; rfl
        · exact (World.putObj_heap_other (by omega)).trans hd2
      | ret =>
        obtain ⟨q1, q3⟩ := hq
        have hl2 := kept_at q1 (World.putObj_heap_same hlt1) (by omega)
        have hlt2 := (Array.getElem?_eq_some_iff.1 hl2).1
        have hd2 := kept_at q1 ((World.putObj_heap_other (by omega)).trans hd') (by omega)
        have kk := ((hk.mono (G := fun b => b < W1.heap.size) (fun b hb => by omega)).trans (Kept.put (F := fun b => b < W1.heap.size) W₁ (w.heap.size + 1) _ (by omega)) (fun _ _ z => z)).trans (q1.mono (G := fun b => b < W1.heap.size) (fun b hb => by omega)) (fun _ _ z => z)
        refine ⟨_, _, run_endRound (some .ret) hl2, ⟨kk.trans (Kept.put (F := fun b => b < W1.heap.size) W₂ (w.heap.size + 1) _ (by omega)) (fun _ _ z => z), .inr ⟨rfl, .ret, hIx _ _ _ _ q3 (Kept.put _ _ _ ⟨by omega, NC.loop hl2⟩), ?_, ?_⟩⟩⟩
        · rw [World.putObj_heap_same hlt2, ← hrec]; rfl
        · exact (World.putObj_heap_other (by omega)).trans hd2
      | goto t => exact hq.elim
      | panic ch => exact hq.elim
      | outgrown => exact hq.elim
    | ret => exact hp.elim
    | exit id => exact hp.elim
    | goto t => exact hp.elim
    | panic ch => exact hp.elim
    | outgrown => exact hp.elim
  · -- behind the loop
    rintro e W2 ⟨⟨v, rfl⟩, (⟨hi, hl, hd⟩ | ⟨k, hSp, c, hi, hl, hd⟩)⟩
    · have he := run_endLoop (P := P) hl (by rw [← hrec]; simp)
      refine ⟨none, _, by rw [← hrec] at he; exact he, hdone _ (hI _ _ _ hi (Kept.put _ _ _ ⟨by omega, NC.loop hl⟩)) ((World.putObj_heap_other (by omega)).trans hd)⟩
    · have he := run_endLoop (P := P) hl (by rw [← hrec]; simp)
      refine ⟨some c, _, by rw [← hrec] at he; exact he, hstop c k _ hSp (hIx _ _ _ _ hi (Kept.put _ _ _ ⟨by omega, NC.loop hl⟩)) ((World.putObj_heap_other (by omega)).trans hd)⟩
end Go.Proofs.YtnclicdnncgdiaaGreatDoor
