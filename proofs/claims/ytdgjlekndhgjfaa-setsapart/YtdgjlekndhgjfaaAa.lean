/- act: each arm does the same to both. -/
import Derived.Test.YtdgjlekndhgjfaaRv
import Derived.Test.YtdgjlekndhgjfaaRm
import Derived.Test.YtdgjlekndhgjfaaArg
namespace Go.Proofs.Ytdgjlekndhgjfaa
open Go.ChangeShapes Go.WideShapes Go.ChangeAt Go.RowKit Go.Shelf Go.Proofs.Rx Go.Maps Go.Proofs.Hm
set_option linter.unusedVariables false
set_option linter.unusedSimpArgs false

attribute [local go_sem] Oper.semAt_some

section
variable {N : Nat} {w W W' : World} {s r c : Nat} {L : List On} {rest : List Thing}
/-- Both with the same spans, first of what a law has. -/
def Duo (N : Nat) (w W : World) (s r c : Nat) (L1 L2 : List On) (rest : List Thing) : Prop := Sep N w W (tSets s c L1 :: tRef r L2 :: rest)
def ActTo (N : Nat) (w : World) (s r c : Nat) (rest : List Thing) (e : Ending) (W' : World) : Prop := e = .returned (.bool true) ∧ ∃ L', Duo N w W' s r (c + 3) L' L' rest
theorem Duo.okl {L1 L2 : List On} (h : Duo N w W s r c L1 L2 rest) : OkL L1 ∧ L1.length ≤ c := by
  obtain ⟨F, hF⟩ := Sep.have h 0 (Nat.zero_lt_succ _)
  exact ⟨tSets_ok hF, tSets_len hF⟩
theorem Duo.up {L1 L2 : List On} {c' : Nat} (h : Duo N w W s r c L1 L2 rest) (hc : c ≤ c') : Duo N w W s r c' L1 L2 rest := Sep.as h 0 (Nat.zero_lt_succ _) (tSets s c' L1) (fun F hF => tSets_mono hc hF)
theorem Duo.box {L1 L2 : List On} {b : Nat} {t : TypeId} {vs : Array Value} (h : Duo N w W s r c L1 L2 (rest ++ [tBk b t vs])) : Bk W b t vs := by
  obtain ⟨F, hF⟩ := Sep.have h (rest.length + 2) (by simp)
  have e : (tSets s c L1 :: tRef r L2 :: (rest ++ [tBk b t vs]))[rest.length + 2]'(by simp) = tBk b t vs := by simp
  rw [e] at hF
  exact hF.1
theorem Duo.out {L1 L2 : List On} {t : Thing} (h : Duo N w W s r c L1 L2 (rest ++ [t])) : Duo N w W s r c L1 L2 rest := Sep.fewer (l := tSets s c L1 :: tRef r L2 :: rest) (l' := [t]) h
theorem Duo.made {L1 L2 : List On} (h : Duo N w W s r c L1 L2 rest) (t : TypeId) (vs : Array Value) : Duo N w (W.alloc (.cells vs t)) s r c L1 L2 (rest ++ [tBk W.heap.size t vs]) :=
  Sep.more h (below_alloc W _) (tBk W.heap.size t vs) (F' := fun z => z = W.heap.size) ⟨World.alloc_heap_new W _, fun _ => Iff.rfl⟩ (fun z hz => by rw [hz]; exact Nat.le_refl _)
theorem Duo.read {L1 L2 : List On} (h : Duo N w W s r c L1 L2 rest) (k : Below W.heap.size W W') : Duo N w W' s r c L1 L2 rest := Sep.read h k
theorem Duo.land {L1 L2 L1' : List On} {c' : Nat} (h : Duo N w W s r c L1 L2 rest) {f : FuncId} {args : Array Value} {v : Value} (k : ∀ F, (tSets s c L1).P W F → Calls Try.prog f args W fun e W' => e = .returned v ∧ Turn s c' L1' W W' F) :
    Calls Try.prog f args W fun e W' => e = .returned v ∧ Duo N w W' s r c' L1' L2 rest := Sep.call h 0 (Nat.zero_lt_succ _) rfl k
theorem Duo.refc {L1 L2 L2' : List On} (h : Duo N w W s r c L1 L2 rest) {f : FuncId} {args : Array Value} {v : Value} (k : ∀ F, (tRef r L2).P W F → Calls Try.prog f args W fun e W' => e = .returned v ∧ RTurn r L2' W W' F) :
    Calls Try.prog f args W fun e W' => e = .returned v ∧ Duo N w W' s r c L1 L2' rest :=
  Sep.step h 1 (Nat.succ_lt_succ (Nat.zero_lt_succ _)) (tRef r L2') (R := fun e _ => e = .returned v) (fun F hF => k F hF)
set_option maxRecDepth 100000 in
set_option maxHeartbeats 2000000 in
theorem act_1 (h : Duo N w W s r c L L rest) (hc : c ≤ 4000) (id cl : Int) (bs : Nat) (np fu sw : Bool) (i0 : -9223372036854775808 ≤ id ∧ id ≤ 9223372036854775807) (l0 : -9223372036854775808 ≤ cl ∧ cl ≤ 9223372036854775807) (b0 : bs < 18446744073709551616) :
    Calls Try.prog 8 #[.pointer (some ⟨s, 0, none⟩), .pointer (some ⟨r, 0, none⟩), .agg #[.int .i64 1, .int .i64 id, .int .i64 cl, .int .u64 (bs : Nat), .bool np, .bool fu, .bool sw]] W (ActTo N w s r c rest) := by
  obtain ⟨ok, len⟩ := h.okl
  obtain ⟨R, hR⟩ : ∃ R : Ending → World → Prop, R = ActTo N w s r c rest := ⟨_, rfl⟩
  rw [← hR]
  have hb := h.made 32 #[.int .i64 1, .int .i64 id, .int .i64 cl, .int .u64 (bs : Nat), .bool np, .bool fu, .bool sw]
  obtain ⟨ab, hab⟩ : ∃ ab, W.heap.size = ab := ⟨_, rfl⟩
  obtain ⟨WA, hWA⟩ : ∃ WA, W.alloc (.cells #[.int .i64 1, .int .i64 id, .int .i64 cl, .int .u64 (bs : Nat), .bool np, .bool fu, .bool sw] 32) = WA := ⟨_, rfl⟩
  rw [hWA, hab] at hb
  have CL := hide ((hb.read (drew_below WA)).land (fun F hF => fput hF (by omega) id bs cl np fu sw i0.2 b0))
  have CR := hide (fun W1 (h1 : Duo N w W1 s r (c + 3) (putL L id bs cl np fu sw) L (rest ++ [tBk ab 32 #[.int .i64 1, .int .i64 id, .int .i64 cl, .int .u64 (bs : Nat), .bool np, .bool fu, .bool sw]])) => h1.refc (fun F hF => gput hF (by omega) id bs cl np fu sw))
  have FIN := hide (show ∀ W2, Duo N w W2 s r (c + 3) (putL L id bs cl np fu sw) (putL L id bs cl np fu sw) (rest ++ [tBk ab 32 #[.int .i64 1, .int .i64 id, .int .i64 cl, .int .u64 (bs : Nat), .bool np, .bool fu, .bool sw]]) → R (.returned (.bool true)) W2 from fun W2 h2 => by rw [hR]; exact ⟨rfl, _, h2.out⟩)
  have BX := hide (fun W1 (h1 : Duo N w W1 s r (c + 3) (putL L id bs cl np fu sw) L (rest ++ [tBk ab 32 #[.int .i64 1, .int .i64 id, .int .i64 cl, .int .u64 (bs : Nat), .bool np, .bool fu, .bool sw]])) => h1.box)
  have BX2 := hide (fun W1 (h1 : Duo N w W1 s r (c + 3) (putL L id bs cl np fu sw) (putL L id bs cl np fu sw) (rest ++ [tBk ab 32 #[.int .i64 1, .int .i64 id, .int .i64 cl, .int .u64 (bs : Nat), .bool np, .bool fu, .bool sw]])) => h1.box)
  obtain ⟨E, hE⟩ : ∃ E, putE L id bs cl = E := ⟨_, rfl⟩
  rw [hE] at CL
  simp only [hE] at CR
  have eE : (E == E) = true := by simp
  have HH := hide (And.intro hab hWA)
  have kb := hb.box
  have y0 := kb.cell 0 _ rfl
  have y1 := kb.cell 1 _ rfl
  have y2 := kb.cell 2 _ rfl
  have y3 := kb.cell 3 _ rfl
  have y4 := kb.cell 4 _ rfl
  have y5 := kb.cell 5 _ rfl
  have y6 := kb.cell 6 _ rfl
  have VB := hide (show ∀ W1, Bk W1 ab 32 #[.int .i64 1, .int .i64 id, .int .i64 cl, .int .u64 (bs : Nat), .bool np, .bool fu, .bool sw] → W1.cell? ⟨ab, 1, none⟩ = some (.int .i64 id) ∧ W1.cell? ⟨ab, 2, none⟩ = some (.int .i64 cl) ∧ W1.cell? ⟨ab, 3, none⟩ = some (.int .u64 (bs : Nat)) ∧ W1.cell? ⟨ab, 4, none⟩ = some (.bool np) ∧ W1.cell? ⟨ab, 5, none⟩ = some (.bool fu) ∧ W1.cell? ⟨ab, 6, none⟩ = some (.bool sw) from fun W1 kb => ⟨kb.cell 1 _ rfl, kb.cell 2 _ rfl, kb.cell 3 _ rfl, kb.cell 4 _ rfl, kb.cell 5 _ rfl, kb.cell 6 _ rfl⟩)
  clear h hb kb hab hWA hR ok len i0 l0 b0 hc hE
  go_enter Try.func8, Try.ntmps8
  go_upto_region 1 with fail
  rw [HH.out.2, HH.out.1]
  go_wp2_with fail
  go_region_held3 (fun w' => w'.cell? ⟨ab, 1, none⟩ = some (.int .i64 id) ∧ (w'.cell? ⟨ab, 2, none⟩ = some (.int .i64 cl) ∧ w'.cell? ⟨ab, 3, none⟩ = some (.int .u64 (bs : Nat)) ∧ w'.cell? ⟨ab, 4, none⟩ = some (.bool np) ∧ w'.cell? ⟨ab, 5, none⟩ = some (.bool fu) ∧ w'.cell? ⟨ab, 6, none⟩ = some (.bool sw))) (first | (go_keep; done)) (first
    | (go_at_call 12; refine CL.out.mono ?_; rintro e W1 ⟨rfl, p1⟩; obtain ⟨v1, v2, v3, v4, v5, v6⟩ := VB.out W1 (BX.out W1 p1); have C2 := hide (CR.out W1 p1); clear CL CR BX p1 y0 y1 y2 y3 y4 y5 y6)
    | (go_at_call 18; refine C2.out.mono ?_; rintro e W2 ⟨rfl, p2⟩; obtain ⟨u1, u2, u3, u4, u5, u6⟩ := VB.out W2 (BX2.out W2 p2); have P2 := hide p2; clear C2 BX2 p2 v1 v2 v3 v4 v5 v6))
  have FF := hide (FIN.out _ P2.out)
  go_wp2_with fail
  first | exact FF.out | (go_ret; exact FF.out)
set_option maxRecDepth 100000 in
set_option maxHeartbeats 2000000 in
theorem act_2 (h : Duo N w W s r c L L rest) (hc : c ≤ 4000) (id cl : Int) (bs : Nat) (np fu sw : Bool) (i0 : -9223372036854775808 ≤ id ∧ id ≤ 9223372036854775807) (l0 : -9223372036854775808 ≤ cl ∧ cl ≤ 9223372036854775807) (b0 : bs < 18446744073709551616) :
    Calls Try.prog 8 #[.pointer (some ⟨s, 0, none⟩), .pointer (some ⟨r, 0, none⟩), .agg #[.int .i64 2, .int .i64 id, .int .i64 cl, .int .u64 (bs : Nat), .bool np, .bool fu, .bool sw]] W (ActTo N w s r c rest) := by
  obtain ⟨ok, len⟩ := h.okl
  obtain ⟨R, hR⟩ : ∃ R : Ending → World → Prop, R = ActTo N w s r c rest := ⟨_, rfl⟩
  rw [← hR]
  have hb := h.made 32 #[.int .i64 2, .int .i64 id, .int .i64 cl, .int .u64 (bs : Nat), .bool np, .bool fu, .bool sw]
  obtain ⟨ab, hab⟩ : ∃ ab, W.heap.size = ab := ⟨_, rfl⟩
  obtain ⟨WA, hWA⟩ : ∃ WA, W.alloc (.cells #[.int .i64 2, .int .i64 id, .int .i64 cl, .int .u64 (bs : Nat), .bool np, .bool fu, .bool sw] 32) = WA := ⟨_, rfl⟩
  rw [hWA, hab] at hb
  have CL := hide (hb.land (fun F hF => ftake hF (by omega) cl np fu sw l0))
  have CR := hide (fun W1 (h1 : Duo N w W1 s r c (takeL L (low (fits ⟨cl, np, fu⟩ sw) L)) L (rest ++ [tBk ab 32 #[.int .i64 2, .int .i64 id, .int .i64 cl, .int .u64 (bs : Nat), .bool np, .bool fu, .bool sw]])) => h1.refc (fun F hF => rtake_any hF (by omega) ok.nd cl np fu sw))
  have FIN := hide (show ∀ W2, Duo N w W2 s r c (takeL L (low (fits ⟨cl, np, fu⟩ sw) L)) (takeL L (low (fits ⟨cl, np, fu⟩ sw) L)) (rest ++ [tBk ab 32 #[.int .i64 2, .int .i64 id, .int .i64 cl, .int .u64 (bs : Nat), .bool np, .bool fu, .bool sw]]) → R (.returned (.bool true)) W2 from fun W2 h2 => by rw [hR]; exact ⟨rfl, _, h2.out.up (by omega)⟩)
  have BX := hide (fun W1 (h1 : Duo N w W1 s r c (takeL L (low (fits ⟨cl, np, fu⟩ sw) L)) L (rest ++ [tBk ab 32 #[.int .i64 2, .int .i64 id, .int .i64 cl, .int .u64 (bs : Nat), .bool np, .bool fu, .bool sw]])) => h1.box)
  obtain ⟨E, hE⟩ : ∃ E, lowI (low (fits ⟨cl, np, fu⟩ sw) L) = E := ⟨_, rfl⟩
  obtain ⟨O, hO⟩ : ∃ O, (low (fits ⟨cl, np, fu⟩ sw) L).isSome = O := ⟨_, rfl⟩
  rw [hE, hO] at CL
  simp only [hE, hO] at CR
  have eE : (E == E) = true := by simp
  have eO : (O == O) = true := by simp
  have HH := hide (And.intro hab hWA)
  have kb := hb.box
  have y0 := kb.cell 0 _ rfl
  have y1 := kb.cell 1 _ rfl
  have y2 := kb.cell 2 _ rfl
  have y3 := kb.cell 3 _ rfl
  have y4 := kb.cell 4 _ rfl
  have y5 := kb.cell 5 _ rfl
  have y6 := kb.cell 6 _ rfl
  have VB := hide (show ∀ W1, Bk W1 ab 32 #[.int .i64 2, .int .i64 id, .int .i64 cl, .int .u64 (bs : Nat), .bool np, .bool fu, .bool sw] → W1.cell? ⟨ab, 1, none⟩ = some (.int .i64 id) ∧ W1.cell? ⟨ab, 2, none⟩ = some (.int .i64 cl) ∧ W1.cell? ⟨ab, 3, none⟩ = some (.int .u64 (bs : Nat)) ∧ W1.cell? ⟨ab, 4, none⟩ = some (.bool np) ∧ W1.cell? ⟨ab, 5, none⟩ = some (.bool fu) ∧ W1.cell? ⟨ab, 6, none⟩ = some (.bool sw) from fun W1 kb => ⟨kb.cell 1 _ rfl, kb.cell 2 _ rfl, kb.cell 3 _ rfl, kb.cell 4 _ rfl, kb.cell 5 _ rfl, kb.cell 6 _ rfl⟩)
  clear h hb kb hab hWA hR ok len i0 l0 b0 hc hE hO
  go_enter Try.func8, Try.ntmps8
  go_upto_region 1 with fail
  rw [HH.out.2, HH.out.1]
  go_wp2_with fail
  refine CL.out.mono ?_
  rintro e W1 ⟨rfl, p1⟩
  obtain ⟨v1, v2, v3, v4, v5, v6⟩ := VB.out W1 (BX.out W1 p1)
  have C2 := hide (CR.out W1 p1)
  clear CL CR BX p1 y0 y1 y2 y3 y4 y5 y6
  go_wp2_with fail
  refine C2.out.mono ?_
  rintro e W2 ⟨rfl, p2⟩
  have FF := hide (FIN.out _ p2)
  clear C2 p2 FIN
  go_wp2_with fail
  first | exact FF.out | (go_ret; exact FF.out)
set_option maxRecDepth 100000 in
set_option maxHeartbeats 2000000 in
theorem act_3 (h : Duo N w W s r c L L rest) (hc : c ≤ 4000) (id cl : Int) (bs : Nat) (np fu sw : Bool) (i0 : -9223372036854775808 ≤ id ∧ id ≤ 9223372036854775807) (l0 : -9223372036854775808 ≤ cl ∧ cl ≤ 9223372036854775807) (b0 : bs < 18446744073709551616) :
    Calls Try.prog 8 #[.pointer (some ⟨s, 0, none⟩), .pointer (some ⟨r, 0, none⟩), .agg #[.int .i64 3, .int .i64 id, .int .i64 cl, .int .u64 (bs : Nat), .bool np, .bool fu, .bool sw]] W (ActTo N w s r c rest) := by
  obtain ⟨ok, len⟩ := h.okl
  obtain ⟨R, hR⟩ : ∃ R : Ending → World → Prop, R = ActTo N w s r c rest := ⟨_, rfl⟩
  rw [← hR]
  have hb := h.made 32 #[.int .i64 3, .int .i64 id, .int .i64 cl, .int .u64 (bs : Nat), .bool np, .bool fu, .bool sw]
  obtain ⟨ab, hab⟩ : ∃ ab, W.heap.size = ab := ⟨_, rfl⟩
  obtain ⟨WA, hWA⟩ : ∃ WA, W.alloc (.cells #[.int .i64 3, .int .i64 id, .int .i64 cl, .int .u64 (bs : Nat), .bool np, .bool fu, .bool sw] 32) = WA := ⟨_, rfl⟩
  rw [hWA, hab] at hb
  have CL := hide ((hb.read (drew_below WA)).land (fun F hF => fremove hF (by omega) id i0))
  have CR := hide (fun W1 (h1 : Duo N w W1 s r c (removeL L id) L (rest ++ [tBk ab 32 #[.int .i64 3, .int .i64 id, .int .i64 cl, .int .u64 (bs : Nat), .bool np, .bool fu, .bool sw]])) => h1.refc (fun F hF => rremove_any hF (by omega) ok.nd id))
  have FIN := hide (show ∀ W2, Duo N w W2 s r c (removeL L id) (removeL L id) (rest ++ [tBk ab 32 #[.int .i64 3, .int .i64 id, .int .i64 cl, .int .u64 (bs : Nat), .bool np, .bool fu, .bool sw]]) → R (.returned (.bool true)) W2 from fun W2 h2 => by rw [hR]; exact ⟨rfl, _, h2.out.up (by omega)⟩)
  have BX := hide (fun W1 (h1 : Duo N w W1 s r c (removeL L id) L (rest ++ [tBk ab 32 #[.int .i64 3, .int .i64 id, .int .i64 cl, .int .u64 (bs : Nat), .bool np, .bool fu, .bool sw]])) => h1.box)
  have BX2 := hide (fun W1 (h1 : Duo N w W1 s r c (removeL L id) (removeL L id) (rest ++ [tBk ab 32 #[.int .i64 3, .int .i64 id, .int .i64 cl, .int .u64 (bs : Nat), .bool np, .bool fu, .bool sw]])) => h1.box)
  obtain ⟨E, hE⟩ : ∃ E, removeE L id = E := ⟨_, rfl⟩
  rw [hE] at CL
  simp only [hE] at CR
  have eE : (E == E) = true := by simp
  have HH := hide (And.intro hab hWA)
  have kb := hb.box
  have y0 := kb.cell 0 _ rfl
  have y1 := kb.cell 1 _ rfl
  have y2 := kb.cell 2 _ rfl
  have y3 := kb.cell 3 _ rfl
  have y4 := kb.cell 4 _ rfl
  have y5 := kb.cell 5 _ rfl
  have y6 := kb.cell 6 _ rfl
  have VB := hide (show ∀ W1, Bk W1 ab 32 #[.int .i64 3, .int .i64 id, .int .i64 cl, .int .u64 (bs : Nat), .bool np, .bool fu, .bool sw] → W1.cell? ⟨ab, 1, none⟩ = some (.int .i64 id) ∧ W1.cell? ⟨ab, 2, none⟩ = some (.int .i64 cl) ∧ W1.cell? ⟨ab, 3, none⟩ = some (.int .u64 (bs : Nat)) ∧ W1.cell? ⟨ab, 4, none⟩ = some (.bool np) ∧ W1.cell? ⟨ab, 5, none⟩ = some (.bool fu) ∧ W1.cell? ⟨ab, 6, none⟩ = some (.bool sw) from fun W1 kb => ⟨kb.cell 1 _ rfl, kb.cell 2 _ rfl, kb.cell 3 _ rfl, kb.cell 4 _ rfl, kb.cell 5 _ rfl, kb.cell 6 _ rfl⟩)
  clear h hb kb hab hWA hR ok len i0 l0 b0 hc hE
  go_enter Try.func8, Try.ntmps8
  go_upto_region 1 with fail
  rw [HH.out.2, HH.out.1]
  go_wp2_with fail
  go_region_held3 (fun w' => w'.cell? ⟨ab, 1, none⟩ = some (.int .i64 id)) (first | (go_keep; done)) (first
    | (go_at_call 16; refine CL.out.mono ?_; rintro e W1 ⟨rfl, p1⟩; obtain ⟨v1, v2, v3, v4, v5, v6⟩ := VB.out W1 (BX.out W1 p1); have C2 := hide (CR.out W1 p1); clear CL CR BX p1 y0 y1 y2 y3 y4 y5 y6)
    | (go_at_call 20; refine C2.out.mono ?_; rintro e W2 ⟨rfl, p2⟩; obtain ⟨u1, u2, u3, u4, u5, u6⟩ := VB.out W2 (BX2.out W2 p2); have P2 := hide p2; clear C2 BX2 p2 v1 v2 v3 v4 v5 v6))
  have FF := hide (FIN.out _ P2.out)
  go_wp2_with fail
  first | exact FF.out | (go_ret; exact FF.out)
set_option maxRecDepth 100000 in
set_option maxHeartbeats 2000000 in
theorem act_4 (h : Duo N w W s r c L L rest) (hc : c ≤ 4000) (id cl : Int) (bs : Nat) (np fu sw : Bool) (i0 : -9223372036854775808 ≤ id ∧ id ≤ 9223372036854775807) (l0 : -9223372036854775808 ≤ cl ∧ cl ≤ 9223372036854775807) (b0 : bs < 18446744073709551616) :
    Calls Try.prog 8 #[.pointer (some ⟨s, 0, none⟩), .pointer (some ⟨r, 0, none⟩), .agg #[.int .i64 4, .int .i64 id, .int .i64 cl, .int .u64 (bs : Nat), .bool np, .bool fu, .bool sw]] W (ActTo N w s r c rest) := by
  obtain ⟨ok, len⟩ := h.okl
  obtain ⟨R, hR⟩ : ∃ R : Ending → World → Prop, R = ActTo N w s r c rest := ⟨_, rfl⟩
  rw [← hR]
  have hb := h.made 32 #[.int .i64 4, .int .i64 id, .int .i64 cl, .int .u64 (bs : Nat), .bool np, .bool fu, .bool sw]
  obtain ⟨ab, hab⟩ : ∃ ab, W.heap.size = ab := ⟨_, rfl⟩
  obtain ⟨WA, hWA⟩ : ∃ WA, W.alloc (.cells #[.int .i64 4, .int .i64 id, .int .i64 cl, .int .u64 (bs : Nat), .bool np, .bool fu, .bool sw] 32) = WA := ⟨_, rfl⟩
  rw [hWA, hab] at hb
  have CL := hide (hb.land (fun F hF => fleast hF))
  have CR := hide (fun W1 (h1 : Duo N w W1 s r c L L (rest ++ [tBk ab 32 #[.int .i64 4, .int .i64 id, .int .i64 cl, .int .u64 (bs : Nat), .bool np, .bool fu, .bool sw]])) => h1.refc (fun F hF => gleast hF (by omega)))
  have FIN := hide (show ∀ W2, Duo N w W2 s r c L L (rest ++ [tBk ab 32 #[.int .i64 4, .int .i64 id, .int .i64 cl, .int .u64 (bs : Nat), .bool np, .bool fu, .bool sw]]) → R (.returned (.bool true)) W2 from fun W2 h2 => by rw [hR]; exact ⟨rfl, _, h2.out.up (by omega)⟩)
  have BX := hide (fun W1 (h1 : Duo N w W1 s r c L L (rest ++ [tBk ab 32 #[.int .i64 4, .int .i64 id, .int .i64 cl, .int .u64 (bs : Nat), .bool np, .bool fu, .bool sw]])) => h1.box)
  obtain ⟨E, hE⟩ : ∃ E, lowI (low uns L) = E := ⟨_, rfl⟩
  obtain ⟨O, hO⟩ : ∃ O, (low uns L).isSome = O := ⟨_, rfl⟩
  rw [hE, hO] at CL
  simp only [hE, hO] at CR
  have eE : (E == E) = true := by simp
  have eO : (O == O) = true := by simp
  have HH := hide (And.intro hab hWA)
  have kb := hb.box
  have y0 := kb.cell 0 _ rfl
  have y1 := kb.cell 1 _ rfl
  have y2 := kb.cell 2 _ rfl
  have y3 := kb.cell 3 _ rfl
  have y4 := kb.cell 4 _ rfl
  have y5 := kb.cell 5 _ rfl
  have y6 := kb.cell 6 _ rfl
  have VB := hide (show ∀ W1, Bk W1 ab 32 #[.int .i64 4, .int .i64 id, .int .i64 cl, .int .u64 (bs : Nat), .bool np, .bool fu, .bool sw] → W1.cell? ⟨ab, 1, none⟩ = some (.int .i64 id) ∧ W1.cell? ⟨ab, 2, none⟩ = some (.int .i64 cl) ∧ W1.cell? ⟨ab, 3, none⟩ = some (.int .u64 (bs : Nat)) ∧ W1.cell? ⟨ab, 4, none⟩ = some (.bool np) ∧ W1.cell? ⟨ab, 5, none⟩ = some (.bool fu) ∧ W1.cell? ⟨ab, 6, none⟩ = some (.bool sw) from fun W1 kb => ⟨kb.cell 1 _ rfl, kb.cell 2 _ rfl, kb.cell 3 _ rfl, kb.cell 4 _ rfl, kb.cell 5 _ rfl, kb.cell 6 _ rfl⟩)
  clear h hb kb hab hWA hR ok len i0 l0 b0 hc hE hO
  go_enter Try.func8, Try.ntmps8
  go_upto_region 1 with fail
  rw [HH.out.2, HH.out.1]
  go_wp2_with fail
  refine CL.out.mono ?_
  rintro e W1 ⟨rfl, p1⟩
  obtain ⟨v1, v2, v3, v4, v5, v6⟩ := VB.out W1 (BX.out W1 p1)
  have C2 := hide (CR.out W1 p1)
  clear CL CR BX p1 y0 y1 y2 y3 y4 y5 y6
  go_wp2_with fail
  refine C2.out.mono ?_
  rintro e W2 ⟨rfl, p2⟩
  have FF := hide (FIN.out _ p2)
  clear C2 p2 FIN
  go_wp2_with fail
  first | exact FF.out | (go_ret; exact FF.out)
set_option maxRecDepth 100000 in
set_option maxHeartbeats 2000000 in
theorem act_5 (h : Duo N w W s r c L L rest) (hc : c ≤ 4000) (id cl : Int) (bs : Nat) (np fu sw : Bool) (i0 : -9223372036854775808 ≤ id ∧ id ≤ 9223372036854775807) (l0 : -9223372036854775808 ≤ cl ∧ cl ≤ 9223372036854775807) (b0 : bs < 18446744073709551616) :
    Calls Try.prog 8 #[.pointer (some ⟨s, 0, none⟩), .pointer (some ⟨r, 0, none⟩), .agg #[.int .i64 5, .int .i64 id, .int .i64 cl, .int .u64 (bs : Nat), .bool np, .bool fu, .bool sw]] W (ActTo N w s r c rest) := by
  obtain ⟨ok, len⟩ := h.okl
  obtain ⟨R, hR⟩ : ∃ R : Ending → World → Prop, R = ActTo N w s r c rest := ⟨_, rfl⟩
  rw [← hR]
  have hb := h.made 32 #[.int .i64 5, .int .i64 id, .int .i64 cl, .int .u64 (bs : Nat), .bool np, .bool fu, .bool sw]
  obtain ⟨ab, hab⟩ : ∃ ab, W.heap.size = ab := ⟨_, rfl⟩
  obtain ⟨WA, hWA⟩ : ∃ WA, W.alloc (.cells #[.int .i64 5, .int .i64 id, .int .i64 cl, .int .u64 (bs : Nat), .bool np, .bool fu, .bool sw] 32) = WA := ⟨_, rfl⟩
  rw [hWA, hab] at hb
  have CL := hide (hb.land (fun F hF => fflip hF))
  have CR := hide (fun W1 (h1 : Duo N w W1 s r c (flipL L) L (rest ++ [tBk ab 32 #[.int .i64 5, .int .i64 id, .int .i64 cl, .int .u64 (bs : Nat), .bool np, .bool fu, .bool sw]])) => h1.refc (fun F hF => rflip_any hF (by omega)))
  have FIN := hide (show ∀ W2, Duo N w W2 s r c (flipL L) (flipL L) (rest ++ [tBk ab 32 #[.int .i64 5, .int .i64 id, .int .i64 cl, .int .u64 (bs : Nat), .bool np, .bool fu, .bool sw]]) → R (.returned (.bool true)) W2 from fun W2 h2 => by rw [hR]; exact ⟨rfl, _, h2.out.up (by omega)⟩)
  have BX := hide (fun W1 (h1 : Duo N w W1 s r c (flipL L) L (rest ++ [tBk ab 32 #[.int .i64 5, .int .i64 id, .int .i64 cl, .int .u64 (bs : Nat), .bool np, .bool fu, .bool sw]])) => h1.box)
  obtain ⟨E, hE⟩ : ∃ E, flipE L = E := ⟨_, rfl⟩
  rw [hE] at CL
  simp only [hE] at CR
  have eE : (E == E) = true := by simp
  have HH := hide (And.intro hab hWA)
  have kb := hb.box
  have y0 := kb.cell 0 _ rfl
  have y1 := kb.cell 1 _ rfl
  have y2 := kb.cell 2 _ rfl
  have y3 := kb.cell 3 _ rfl
  have y4 := kb.cell 4 _ rfl
  have y5 := kb.cell 5 _ rfl
  have y6 := kb.cell 6 _ rfl
  have VB := hide (show ∀ W1, Bk W1 ab 32 #[.int .i64 5, .int .i64 id, .int .i64 cl, .int .u64 (bs : Nat), .bool np, .bool fu, .bool sw] → W1.cell? ⟨ab, 1, none⟩ = some (.int .i64 id) ∧ W1.cell? ⟨ab, 2, none⟩ = some (.int .i64 cl) ∧ W1.cell? ⟨ab, 3, none⟩ = some (.int .u64 (bs : Nat)) ∧ W1.cell? ⟨ab, 4, none⟩ = some (.bool np) ∧ W1.cell? ⟨ab, 5, none⟩ = some (.bool fu) ∧ W1.cell? ⟨ab, 6, none⟩ = some (.bool sw) from fun W1 kb => ⟨kb.cell 1 _ rfl, kb.cell 2 _ rfl, kb.cell 3 _ rfl, kb.cell 4 _ rfl, kb.cell 5 _ rfl, kb.cell 6 _ rfl⟩)
  clear h hb kb hab hWA hR ok len i0 l0 b0 hc hE
  go_enter Try.func8, Try.ntmps8
  go_upto_region 1 with fail
  rw [HH.out.2, HH.out.1]
  go_wp2_with fail
  refine CL.out.mono ?_
  rintro e W1 ⟨rfl, p1⟩
  obtain ⟨v1, v2, v3, v4, v5, v6⟩ := VB.out W1 (BX.out W1 p1)
  have C2 := hide (CR.out W1 p1)
  clear CL CR BX p1 y0 y1 y2 y3 y4 y5 y6
  go_wp2_with fail
  refine C2.out.mono ?_
  rintro e W2 ⟨rfl, p2⟩
  have FF := hide (FIN.out _ p2)
  clear C2 p2 FIN
  go_wp2_with fail
  first | exact FF.out | (go_ret; exact FF.out)
set_option maxRecDepth 100000 in
theorem act_no (h : Duo N w W s r c L L rest) (x id cl : Int) (bs : Nat) (np fu sw : Bool) (hx : x ≠ 1 ∧ x ≠ 2 ∧ x ≠ 3 ∧ x ≠ 4 ∧ x ≠ 5) :
    Calls Try.prog 8 #[.pointer (some ⟨s, 0, none⟩), .pointer (some ⟨r, 0, none⟩), .agg #[.int .i64 x, .int .i64 id, .int .i64 cl, .int .u64 (bs : Nat), .bool np, .bool fu, .bool sw]] W (ActTo N w s r c rest) := by
  have FF := hide (show ActTo N w s r c rest (.returned (.bool true)) (W.alloc (.cells #[.int .i64 x, .int .i64 id, .int .i64 cl, .int .u64 (bs : Nat), .bool np, .bool fu, .bool sw] 32)) from ⟨rfl, L, (h.read (below_alloc W _)).up (by omega)⟩)
  have e1 : (x == 1) = false := by simpa using hx.1
  have e2 : (x == 2) = false := by simpa using hx.2.1
  have e3 : (x == 3) = false := by simpa using hx.2.2.1
  have e4 : (x == 4) = false := by simpa using hx.2.2.2.1
  have e5 : (x == 5) = false := by simpa using hx.2.2.2.2
  obtain ⟨R, hR⟩ : ∃ R : Ending → World → Prop, R = ActTo N w s r c rest := ⟨_, rfl⟩
  rw [← hR] at FF ⊢
  clear h hx hR
  go_enter Try.func8, Try.ntmps8
  go_wp2_with fail
  first | exact FF.out | (go_ret; exact FF.out)
theorem act_any (h : Duo N w W s r c L L rest) (hc : c ≤ 4000) (x id cl : Int) (bs : Nat) (np fu sw : Bool) (i0 : -9223372036854775808 ≤ id ∧ id ≤ 9223372036854775807) (l0 : -9223372036854775808 ≤ cl ∧ cl ≤ 9223372036854775807) (b0 : bs < 18446744073709551616) :
    Calls Try.prog 8 #[.pointer (some ⟨s, 0, none⟩), .pointer (some ⟨r, 0, none⟩), .agg #[.int .i64 x, .int .i64 id, .int .i64 cl, .int .u64 (bs : Nat), .bool np, .bool fu, .bool sw]] W (ActTo N w s r c rest) := by
  by_cases c1 : x = 1
  · subst c1; exact act_1 h hc id cl bs np fu sw i0 l0 b0
  by_cases c2 : x = 2
  · subst c2; exact act_2 h hc id cl bs np fu sw i0 l0 b0
  by_cases c3 : x = 3
  · subst c3; exact act_3 h hc id cl bs np fu sw i0 l0 b0
  by_cases c4 : x = 4
  · subst c4; exact act_4 h hc id cl bs np fu sw i0 l0 b0
  by_cases c5 : x = 5
  · subst c5; exact act_5 h hc id cl bs np fu sw i0 l0 b0
  exact act_no h x id cl bs np fu sw ⟨c1, c2, c3, c4, c5⟩
end
end Go.Proofs.Ytdgjlekndhgjfaa
