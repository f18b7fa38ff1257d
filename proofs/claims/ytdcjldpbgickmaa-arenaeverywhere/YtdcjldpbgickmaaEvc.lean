/- ArenaEverywhere: where an address lies (c). -/
import Derived.Test.YtdcjldpbgickmaaEv
namespace Go.Proofs.Ytdcjldpbgickmaa
open Go.ChangeShapes Go.WideShapes Go.ChangeAt Go.RowKit Go.Shelf Go.Proofs.Rx Go.Maps
set_option linter.unusedVariables false
set_option linter.unusedSimpArgs false

set_option maxRecDepth 100000 in
set_option maxHeartbeats 4000000 in
theorem ev_c1 {W : World} {R : Ending → World → Prop} {C1 : Nat → Bool} {V1 V2 : Nat → Int} {CI PI NI AI id : Int} (h : EvC W R C1 V1 V2 CI PI NI AI id 0) (e1 : decide ((512 * CI + PI) * 8192 ≤ AI) = false) (f1 : decide (0 < PI) = true) :
    Calls Try.prog 5 #[.int .u64 CI, .int .u64 PI, .int .u64 NI, .int .u64 AI, .int .i64 id] W R := by
  have CN := hide (am_new (N := W.heap.size) (O := fun _ => False) (w := W) (Below.refl _ W) (Nat.le_refl _) (fun _ f => f.elim))
  have SS0 := hide h.SS0
  have SS1 := hide h.SS1
  have SS2 := hide h.SS2
  have SS3 := hide h.SS3
  have AA0 := hide h.AA0
  have AA1 := hide h.AA1
  have AA2 := hide h.AA2
  have AA3 := hide h.AA3
  have AA4 := hide h.AA4
  have AA5 := hide h.AA5
  have AA6 := hide h.AA6
  have BB0 := hide h.BB0
  have HR := hide h.HR
  have d0 := h.d0
  have d1 := h.d1
  have d2 := h.d2
  have d3 := h.d3
  have d4 := h.d4
  have u1 := h.u1
  have u2 := h.u2
  have u3 := h.u3
  have u4 := h.u4
  have u5 := h.u5
  have u6 := h.u6
  have u7 := h.u7
  clear h
  try have v1 := of_decide_eq_true e1
  try have v2 : 1 ≤ (512 * CI + PI) * 8192 := by have := of_decide_eq_true f1; omega
  go_enter Try.func5, Try.ntmps5
  go_wp2_with fail
  refine CN.out.mono ?_
  rintro e W1 ⟨mb, rfl, m1, -⟩
  have K1 := SS0.out _ _ m1
  clear m1
  go_wp2_with fail
  refine K1.out.mono ?_
  rintro e W2 ⟨rfl, m2, -⟩
  have K2 := SS1.out _ _ m2
  clear m2 K1
  go_wp2_with fail
  refine K2.out.mono ?_
  rintro e W3 ⟨rfl, m3, -⟩
  have K3 := SS2.out _ _ m3
  clear m3 K2
  go_wp2_with fail
  refine K3.out.mono ?_
  rintro e W4 ⟨rfl, m4, -⟩
  have K4 := AA0.out _ _ m4
  have M4 := hide m4
  clear m4 K3
  go_wp2_with fail
  refine K4.out.mono ?_
  rintro e W5 ⟨rfl, k5⟩
  have m5 := (M4.out.read k5).1
  have K5 := BB0.out _ _ m5
  have M5 := hide m5
  clear m5 k5 M4 K4
  go_wp2_with fail
  refine K5.out.mono ?_
  rintro e W6 ⟨rfl, k6⟩
  have m6 := (M5.out.read k6).1
  have K6 := AA1.out _ _ m6
  have M6 := hide m6
  clear m6 k6 M5 K5
  go_wp2_with fail
  refine K6.out.mono ?_
  rintro e W7 ⟨rfl, k7⟩
  have m7 := (M6.out.read k7).1
  have K7 := AA2.out _ _ m7
  have M7 := hide m7
  clear m7 k7 M6 K6
  go_wp2_with fail
  refine K7.out.mono ?_
  rintro e W8 ⟨rfl, k8⟩
  have M8 := hide (M7.out.read k8).1
  clear k8 M7 K7
  go_wp2_with fail
  first
    | (have K8 := AA3.out f1 _ _ M8.out
       refine K8.out.mono ?_
       rintro e W9 ⟨rfl, k9⟩
       have M9 := hide (M8.out.read k9).1
       clear k9 M8 K8
       go_wp2_with fail
       have K9 := AA4.out _ _ M9.out
       refine K9.out.mono ?_
       clear K9)
    | (have M9 := M8
       have K9 := AA4.out _ _ M9.out
       refine K9.out.mono ?_
       clear K9)
  rintro e Wa ⟨rfl, ka⟩
  have Ma := hide (M9.out.read ka).1
  clear ka M9
  have Ka := AA5.out _ _ Ma.out
  go_wp2_with fail
  refine Ka.out.mono ?_
  rintro e Wb ⟨rfl, kb⟩
  have Mb := hide (Ma.out.read kb).1
  clear kb Ma Ka
  have Kb := SS3.out _ _ Mb.out
  go_wp2_with fail
  refine Kb.out.mono ?_
  rintro e Wc ⟨rfl, mc, -⟩
  have Kc := AA6.out _ _ mc
  have Mc := hide mc
  clear mc Kb Mb
  go_wp2_with fail
  refine Kc.out.mono ?_
  rintro e Wd ⟨rfl, kd⟩
  have Md := hide (Mc.out.read kd).1
  clear kd Mc Kc
  have Kd := hide (awake_any Wd)
  go_wp2_with fail
  refine Kd.out.mono ?_
  rintro e We ⟨rfl, ke⟩
  have FF := hide (show R (.returned (.bool true)) We from by rw [HR.out]; exact ⟨rfl, Md.out.be.trans (ke.mono Md.out.nw)⟩)
  clear ke Md Kd
  go_wp2_with fail
  first | exact FF.out | (go_ret; exact FF.out)
set_option maxRecDepth 100000 in
set_option maxHeartbeats 4000000 in
theorem ev_c2 {W : World} {R : Ending → World → Prop} {C1 : Nat → Bool} {V1 V2 : Nat → Int} {CI PI NI AI id : Int} (h : EvC W R C1 V1 V2 CI PI NI AI id 0) (e1 : decide ((512 * CI + PI) * 8192 ≤ AI) = false) (f1 : decide (0 < PI) = false) :
    Calls Try.prog 5 #[.int .u64 CI, .int .u64 PI, .int .u64 NI, .int .u64 AI, .int .i64 id] W R := by
  have CN := hide (am_new (N := W.heap.size) (O := fun _ => False) (w := W) (Below.refl _ W) (Nat.le_refl _) (fun _ f => f.elim))
  have SS0 := hide h.SS0
  have SS1 := hide h.SS1
  have SS2 := hide h.SS2
  have SS3 := hide h.SS3
  have AA0 := hide h.AA0
  have AA1 := hide h.AA1
  have AA2 := hide h.AA2
  have AA3 := hide h.AA3
  have AA4 := hide h.AA4
  have AA5 := hide h.AA5
  have AA6 := hide h.AA6
  have BB0 := hide h.BB0
  have HR := hide h.HR
  have d0 := h.d0
  have d1 := h.d1
  have d2 := h.d2
  have d3 := h.d3
  have d4 := h.d4
  have u1 := h.u1
  have u2 := h.u2
  have u3 := h.u3
  have u4 := h.u4
  have u5 := h.u5
  have u6 := h.u6
  have u7 := h.u7
  clear h
  try have v1 := of_decide_eq_true e1
  try have v2 : 1 ≤ (512 * CI + PI) * 8192 := by have := of_decide_eq_true f1; omega
  go_enter Try.func5, Try.ntmps5
  go_wp2_with fail
  refine CN.out.mono ?_
  rintro e W1 ⟨mb, rfl, m1, -⟩
  have K1 := SS0.out _ _ m1
  clear m1
  go_wp2_with fail
  refine K1.out.mono ?_
  rintro e W2 ⟨rfl, m2, -⟩
  have K2 := SS1.out _ _ m2
  clear m2 K1
  go_wp2_with fail
  refine K2.out.mono ?_
  rintro e W3 ⟨rfl, m3, -⟩
  have K3 := SS2.out _ _ m3
  clear m3 K2
  go_wp2_with fail
  refine K3.out.mono ?_
  rintro e W4 ⟨rfl, m4, -⟩
  have K4 := AA0.out _ _ m4
  have M4 := hide m4
  clear m4 K3
  go_wp2_with fail
  refine K4.out.mono ?_
  rintro e W5 ⟨rfl, k5⟩
  have m5 := (M4.out.read k5).1
  have K5 := BB0.out _ _ m5
  have M5 := hide m5
  clear m5 k5 M4 K4
  go_wp2_with fail
  refine K5.out.mono ?_
  rintro e W6 ⟨rfl, k6⟩
  have m6 := (M5.out.read k6).1
  have K6 := AA1.out _ _ m6
  have M6 := hide m6
  clear m6 k6 M5 K5
  go_wp2_with fail
  refine K6.out.mono ?_
  rintro e W7 ⟨rfl, k7⟩
  have m7 := (M6.out.read k7).1
  have K7 := AA2.out _ _ m7
  have M7 := hide m7
  clear m7 k7 M6 K6
  go_wp2_with fail
  refine K7.out.mono ?_
  rintro e W8 ⟨rfl, k8⟩
  have M8 := hide (M7.out.read k8).1
  clear k8 M7 K7
  go_wp2_with fail
  first
    | (have K8 := AA3.out f1 _ _ M8.out
       refine K8.out.mono ?_
       rintro e W9 ⟨rfl, k9⟩
       have M9 := hide (M8.out.read k9).1
       clear k9 M8 K8
       go_wp2_with fail
       have K9 := AA4.out _ _ M9.out
       refine K9.out.mono ?_
       clear K9)
    | (have M9 := M8
       have K9 := AA4.out _ _ M9.out
       refine K9.out.mono ?_
       clear K9)
  rintro e Wa ⟨rfl, ka⟩
  have Ma := hide (M9.out.read ka).1
  clear ka M9
  have Ka := AA5.out _ _ Ma.out
  go_wp2_with fail
  refine Ka.out.mono ?_
  rintro e Wb ⟨rfl, kb⟩
  have Mb := hide (Ma.out.read kb).1
  clear kb Ma Ka
  have Kb := SS3.out _ _ Mb.out
  go_wp2_with fail
  refine Kb.out.mono ?_
  rintro e Wc ⟨rfl, mc, -⟩
  have Kc := AA6.out _ _ mc
  have Mc := hide mc
  clear mc Kb Mb
  go_wp2_with fail
  refine Kc.out.mono ?_
  rintro e Wd ⟨rfl, kd⟩
  have Md := hide (Mc.out.read kd).1
  clear kd Mc Kc
  have Kd := hide (awake_any Wd)
  go_wp2_with fail
  refine Kd.out.mono ?_
  rintro e We ⟨rfl, ke⟩
  have FF := hide (show R (.returned (.bool true)) We from by rw [HR.out]; exact ⟨rfl, Md.out.be.trans (ke.mono Md.out.nw)⟩)
  clear ke Md Kd
  go_wp2_with fail
  first | exact FF.out | (go_ret; exact FF.out)
end Go.Proofs.Ytdcjldpbgickmaa
