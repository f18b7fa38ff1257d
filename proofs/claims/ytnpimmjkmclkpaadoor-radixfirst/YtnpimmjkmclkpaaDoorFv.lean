/- RadixFirst: what is allocated is the first row of so many free pages. -/
import Derived.Test.YtnpimmjkmclkpaaDoorFw
import Derived.BigQuiet
import Derived.Deep.CutRange
import Derived.Deep.DeepCutAuto
import Derived.Deep.CutBlock
namespace Go.Proofs.YtnpimmjkmclkpaaDoor
open Go.ChangeShapes Go.WideShapes Go.ChangeAt Go.RowKit Go.Proofs.Bt Go.Shelf Go.Proofs.Rx Go.Maps Go.Proofs.Pk
set_option linter.unusedVariables false
set_option linter.unusedSimpArgs false

set_option maxRecDepth 100000 in
set_option maxHeartbeats 4000000 in
def first_rest : Part first_part.G := by
  apply Part.mk
  case pf =>
    intro HGIVE
    intro w l0 c0 o1 l1 c1 n8_left X n10_left Y N R FIN HY HN e0 e1 e2 e3 n21_h w1 tb w2 W0 U hU n28_K n29_a wr u4 n32_u u11 n34_u u13 n36_u u15 u16 u17 u18 n41_u n42_u n43_u n44_u n45_u n46_u n47_u n48_u n49_u n50_u n51_u n52_u n53_u n54_u n55_u n56_u n57_u n58_u n59_u n60_u n61_u n62_u n63_u n64_u n65_u n66_u n67_u n68_u n69_u n70_u n71_u n72_u n73_u n74_u n75_u n76_u n77_u n78_u n79_u n80_u n81_u n82_u n83_u n84_u n85_u n86_u n87_u n88_u n89_u n90_u n91_u n92_u n93_u n94_u n95_u n96_u n97_u n98_u n99_u n100_u n101_u n102_u n103_u n104_u n105_u n106_u n107_u n108_u n109_u n110_u n111_u n112_u n113_u n114_u n115_u n116_u n117_u n118_u n119_u n120_u n121_u n122_u n123_u n124_u n125_u n126_u n127_u n128_u n129_u n130_u n131_u n132_u n133_u n134_u n135_u n136_u n137_u n138_u n139_u n140_u n141_u n142_u n143_u n144_u n145_u n146_u n147_u n148_u n149_u n150_u n151_u n152_u n153_u n154_u n155_u n156_u n157_u n158_u n159_u n160_u n161_u n162_u n163_u n164_u n165_u n166_u n167_u n168_u n169_u n170_u n171_u n172_u n173_u n174_u n175_u n176_u n177_u n178_u n179_u n180_u n181_u n182_u n183_u n184_u n185_u n186_u n187_u n188_u n189_u n190_u n191_u n192_u n193_u n194_u n195_u n196_u n197_u n198_u n199_u n200_u n201_u n202_u n203_u n204_u n205_u n206_u n207_u n208_u n209_u n210_u n211_u n212_u n213_u n214_u n215_u n216_u k va vn k0 k1 st u la ln c hk b0 off0 HX hb0 A y1 y0 XS a1' a2' a3 n239_Q n240_K n241_a n242_h n243_wc u10 u12 n246_u n247_u n248_u n249_u n250_u n251_u n252_u n253_u n254_u n255_u n256_u n257_u n258_u n259_u n260_u n261_u n262_u n263_u n264_u n265_u n266_u n267_u n268_u n269_u n270_u n271_u n272_u want q0 q1 n276_K n277_a wc u14 u38 u39 u40 u41 u42 u43 u44 u45 u46 u47 u48 u49 u50 u51 u52 u53 u54 u55 u56 u57 u58 u59 u60 u61 u62 u63 u64 u65 u66 u67 u68 u69 u70 u71 u72 u73 u74 u75 u76 u77 u78 u79 u80 u81 u82 u83 u84 u85 u86 u87 u88 u89 u90 u91 u92 u93 u94 u95 u96 u97 u98 u99 u100 u101 u102 u103 u104 u105 u106 u107 u108 u109 u110 u111 u112 u113 u114 u115 u116 u117 u118 u119 u120 u121 u122 u123 u124 u125 u126 u127 u128 u129 u130 u131 u132 u133 u134 u135 u136 u137 u138 u139 u140 u141 u142 u143 u144 u145 u146 u147 u148 u149 u150 u151 u152 u153 u154 u155 u156 u157 u158 u159 u160 u161 u162 u163 u164 u165 u166 u167 u168 u169 u170 u171 u172 u173 u174 u175 u176 u177 u178 u179 u180 u181 u182 u183 u184 u185 u186 u187 u188 u189 u190 u191 u192 u193 u194 u195 u196 u197 u198 u199 u200 u201 u202 u203 u204 u205 u206 u207 u208 u209 u210 u211 u212 u213 FS0 y x s0 s1 s2 s3 HD
    go_upto_region 23 with fail
    go_cut [116] (fun bv wx => bv = .bool false ∧ wx = wc)
    case first =>
      rcases HD.out with ⟨rfl, rfl, rfl, -⟩ | ⟨p, rfl, rfl, rfl, hf, -⟩
      · go_wp2_with fail
        go_meet
        exact ⟨rfl, rfl⟩
      · have pI : (p : Int) + (A : Int) ≤ 1536 := by have := hf.le; omega
        clear hf
        go_wp2_with fail
        go_meet
        exact ⟨rfl, rfl⟩
    case rest =>
      obtain ⟨rfl, rfl⟩ := hcut
      go_upto_if 118 with fail
      go_cut [7, 8] (fun av nv wx => ∃ va' vn' : Value, va' = av ∧ vn' = nv ∧ Hid (∃ st' u' la' ln' c', FrI N U tb w va' vn' (k + 1).toNat st' u' la' ln' c' wx))
      case first =>
        rcases HD.out with ⟨rfl, rfl, rfl, h3⟩ | ⟨p, rfl, rfl, rfl, hf, h3⟩
        · have IN := hide (show FrI N U tb w va vn (k + 1).toNat st u la ln c wc from ⟨h3.ls, h3.fs, h3.os, by have := h3.ck; omega⟩)
          clear h3 HD
          go_wp2_with fail
          go_meet
          exact ⟨va, vn, rfl, rfl, hide ⟨_, _, _, _, _, IN.out⟩⟩
        · have HFU := hide hf
          have L3 := hide h3
          clear hf h3 HD
          have FS := hide (fs_take FS0.out.1 p A HFU.out.le)
          have OS := hide (FS0.out.2.1.push HFU.out.le HFU.out.fr)
          have CK := hide FS0.out.2.2
          have pA : p + A ≤ 1536 := HFU.out.le
          have pI : (p : Int) + (A : Int) ≤ 1536 := by omega
          have x0 := XS.out _ L3.out.t.be
          go_wp2_with fail
          go_loopw [16] (fun kv wr3 => ∃ y : Int, kv = .int .i64 y ∧ (p : Int) ≤ y ∧ y ≤ (p : Int) + (A : Int) ∧ Hid (Ls N U tb w (setSt st (1536 + p) (1536 + p + A) 1) (uni6 u p y.toNat) va vn c c la ln wr3)) (fun kv _ => ((p : Int) + (A : Int) - intOf kv).toNat)
          case atStart => exact ⟨(p : Int), rfl, by omega, by omega, hide (L3.out.congr (fun q hq => by unfold uni6; rw [Int.toNat_natCast, show decide (p ≤ q ∧ q < p) = false from decide_eq_false (by omega), Bool.or_false]))⟩
          case round =>
            clear L3 x0
            obtain ⟨y, rfl, s0, s1, L4⟩ := hrel
            have x0 := XS.out _ L4.out.t.be
            by_cases hy : y < (p : Int) + (A : Int)
            · have x6 := L4.out.b.cell y.toNat (by omega)
              have z6 := L4.out.b.fz y.toNat
              have l6 := L4.out.b.lt
              have s2 : y < 1536 := by omega
              have s3 : 0 ≤ y := by omega
              go_wp2_with fail
              have hs := L4.out.own (k := y.toNat) (x := true) (by omega)
              refine ⟨⟨y + 1, rfl, by omega, by omega, hide (hs.congr (fun q hq => ?_))⟩, ?_⟩
              · unfold uni6
                by_cases e : q = y.toNat
                · rw [if_pos e, show decide (p ≤ q ∧ q < (y + 1).toNat) = true from decide_eq_true (by omega), Bool.or_true]
                · rw [if_neg e]
                  congr 1
                  rw [decide_eq_decide]
                  omega
              · simp [intOf]; omega
            have hy' : y = (p : Int) + (A : Int) := by omega
            subst hy'
            have L5 := hide (show Ls N U tb w (setSt st (1536 + p) (1536 + p + A) 1) (uni6 u p (p + A)) va vn c c la ln wr from by have h := L4.out; rwa [show ((p : Int) + (A : Int)).toNat = p + A by omega] at h)
            clear L4 hy
            obtain ⟨W4, hW4⟩ : ∃ W4, wr.alloc (.cells #[.int .u64 (1536 + (p : Int))] 22) = W4 := ⟨_, rfl⟩
            have cK : c < 1000 := by have := CK.out; omega
            obtain ⟨gA, cap, Y4, hrun, h5⟩ := L5.out.pushA cK (1536 + p) (W2 := W4) (by rw [← hW4]; rfl) 36
            have RUN := hide hrun
            have L6 := hide h5
            have y5 := XS.out _ L6.out.t.be
            obtain ⟨W6, hW6⟩ : ∃ W6, Y4.alloc (.cells #[.int .u64 (A : Nat)] 22) = W6 := ⟨_, rfl⟩
            obtain ⟨gB, cap2, Y6, hrun2, h7⟩ := L6.out.pushN cK A (W2 := W6) (by rw [← hW6]) 36
            have RUN2 := hide hrun2
            obtain ⟨c2, hc2⟩ : ∃ c2, c + 1 = c2 := ⟨_, rfl⟩
            rw [hc2] at RUN RUN2 h7
            have IN := hide (show FrI N U tb w (.slice (some ⟨gA, 0, none⟩) c2 cap) (.slice (some ⟨gB, 0, none⟩) c2 cap2) (k + 1).toNat (setSt st (1536 + p) (1536 + p + A) 1) (uni6 u p (p + A)) (la ++ [1536 + p]) (ln ++ [A]) c2 Y6 from ⟨h7, FS.out, OS.out, by have := CK.out; omega⟩)
            have cI : (c2 : Int) ≤ 60 := by have := CK.out; omega
            clear hrun hrun2 h5 h7 L5 L6 FS OS hc2 cK HFU
            go_wp2_with (at_builtin; first | (refine list_append_run (by rfl) (.tmp 134) (.tmp 136) 36 (by rfl) (by rfl) (by rfl) RUN.out ?_) | (refine list_append_run (by rfl) (.tmp 138) (.tmp 143) 36 (by rfl) (by rfl) (by rfl) RUN2.out ?_))
            go_meet
            exact ⟨_, _, rfl, rfl, hide ⟨_, _, _, _, _, IN.out⟩⟩
      case rest =>
        clear HD
        obtain ⟨va', vn', rfl, rfl, HG⟩ := hcut
        obtain ⟨st', u', la', ln', c', hG⟩ := HG.out
        have IN := hide hG
        clear HG hG FS0
        obtain ⟨oa, capa, on, capn, rfl, rfl, sa, sn⟩ := IN.out.ls.slices
        have cI : (c' : Int) ≤ 60 := by have := IN.out.ck; omega
        clear sa sn
        rename_i n37_u n276_u n277_u n278_u n279_u n280_u n281_u n282_u n283_u n284_u n285_u n286_u n287_u n288_u n289_u n290_u n291_u n292_u n293_u n294_u n295_u n296_u n297_u n298_u n299_u n300_u n301_u n302_u n303_u n304_u n305_u n306_u n307_u n308_u n309_u n310_u n311_u n312_u n313_u n314_u n315_u n316_u n317_u n318_u n319_u n320_u n321_u n322_u n323_u n324_u n325_u n326_u n327_u n328_u n329_u n330_u n331_u n332_u n333_u n334_u n335_u n336_u n337_u n338_u n339_u n340_u n341_u n342_u n343_u n344_u n345_u n346_u n347_u n348_u n349_u n350_u n351_u n352_u n353_u n354_u n355_u n356_u n357_u n358_u n359_u n360_u n361_u n362_u n363_u n364_u n365_u n366_u n367_u n368_u n369_u n370_u n371_u n372_u n373_u n374_u n375_u n376_u n377_u n378_u n379_u n380_u n381_u n382_u n383_u n384_u n385_u n386_u n387_u n388_u n389_u n390_u n391_u n392_u n393_u n394_u n395_u n396_u n397_u n398_u n399_u n400_u n401_u n402_u n403_u n404_u n405_u n406_u n407_u n408_u n409_u n410_u n411_u n412_u n413_u n414_u n415_u n416_u n417_u n418_u n419_u n420_u n421_u n422_u n423_u n424_u n425_u n426_u n427_u n428_u n429_u n430_u n431_u n432_u n433_u n434_u n435_u n436_u n437_u n438_u n439_u n440_u n441_u n442_u n443_u n444_u n445_u n446_u n447_u n448_u n449_u n450_u n451_u n458_wc n459_u n460_u n461_u n462_u n463_u n464_u n465_u n466_u n467_u n468_u n469_u n470_u n471_u n472_u n473_u n474_u n475_u n476_u n477_u n478_u n479_u n480_u n481_u n482_u n483_u n484_u n485_u n486_u n487_u n488_u n489_u n490_u n491_u n492_u n493_u n494_u n495_u n496_u n497_u n498_u n499_u n500_u n501_u n502_u n503_u n504_u n505_u n506_u n507_u n508_u n509_u n510_u n511_u n512_u n513_u n514_u n515_u n516_u n517_u n518_u n519_u n520_u n521_u n522_u n523_u n524_u n525_u n526_u n527_u n528_u n529_u n530_u n531_u n532_u n533_u n534_u n535_u n536_u n537_u n538_u n539_u n540_u n541_u n542_u n543_u n544_u n545_u n546_u n547_u n548_u n549_u n550_u n551_u n552_u n553_u n554_u n555_u n556_u n557_u n558_u n559_u n560_u n561_u n562_u n563_u n564_u n565_u n566_u n567_u n568_u n569_u n570_u n571_u n572_u n573_u n574_u n575_u n576_u n577_u n578_u n579_u n580_u n581_u n582_u n583_u n584_u n585_u n586_u n587_u n588_u n589_u n590_u n591_u n592_u n593_u n594_u n595_u n596_u n597_u n598_u n599_u n600_u n601_u n602_u n603_u n604_u n605_u n606_u n607_u n608_u n609_u n610_u n611_u n612_u n613_u n614_u n615_u n616_u n617_u n618_u n619_u n620_u n621_u n622_u n623_u n624_u n625_u n626_u n627_u n628_u n629_u n630_u n631_u n632_u n633_u n634_K n635_a
        revert w l0 c0 o1 l1 c1 n8_left X n10_left Y N R FIN HY HN e0 e1 e2 e3 n21_h w1 tb w2 W0 U hU n28_K n29_a wr u4 n32_u u11 n34_u u13 n36_u u15 n37_u u17 u18 n41_u n42_u n43_u n44_u n45_u n46_u n47_u n48_u n49_u n50_u n51_u n52_u n53_u n54_u n55_u n56_u n57_u n58_u n59_u n60_u n61_u n62_u n63_u n64_u n65_u n66_u n67_u n68_u n69_u n70_u n71_u n72_u n73_u n74_u n75_u n76_u n77_u n78_u n79_u n80_u n81_u n82_u n83_u n84_u n85_u n86_u n87_u n88_u n89_u n90_u n91_u n92_u n93_u n94_u n95_u n96_u n97_u n98_u n99_u n100_u n101_u n102_u n103_u n104_u n105_u n106_u n107_u n108_u n109_u n110_u n111_u n112_u n113_u n114_u n115_u n116_u n117_u n118_u n119_u n120_u n121_u n122_u n123_u n124_u n125_u n126_u n127_u n128_u n129_u n130_u n131_u n132_u n133_u n134_u n135_u n136_u n137_u n138_u n139_u n140_u n141_u n142_u n143_u n144_u n145_u n146_u n147_u n148_u n149_u n150_u n151_u n152_u n153_u n154_u n155_u n156_u n157_u n158_u n159_u n160_u n161_u n162_u n163_u n164_u n165_u n166_u n167_u n168_u n169_u n170_u n171_u n172_u n173_u n174_u n175_u n176_u n177_u n178_u n179_u n180_u n181_u n182_u n183_u n184_u n185_u n186_u n187_u n188_u n189_u n190_u n191_u n192_u n193_u n194_u n195_u n196_u n197_u n198_u n199_u n200_u n201_u n202_u n203_u n204_u n205_u n206_u n207_u n208_u n209_u n210_u n211_u n212_u n213_u n214_u n215_u n216_u k va vn k0 k1 st u la ln c hk b0 off0 HX hb0 A y1 y0 XS a1' a2' a3 n239_Q n240_K n241_a n242_h n243_wc u10 u12 n246_u n247_u n248_u n249_u n250_u n251_u n252_u n253_u n254_u n255_u n256_u n257_u n258_u n259_u n260_u n261_u n262_u n263_u n264_u n265_u n266_u n267_u n268_u n269_u n270_u n271_u n272_u want q0 q1 u14 n276_u n277_u n278_u n279_u n280_u n281_u n282_u n283_u n284_u n285_u n286_u n287_u n288_u n289_u n290_u n291_u n292_u n293_u n294_u n295_u n296_u n297_u n298_u n299_u n300_u n301_u n302_u n303_u n304_u n305_u n306_u n307_u n308_u n309_u n310_u n311_u n312_u n313_u n314_u n315_u n316_u n317_u n318_u n319_u n320_u n321_u n322_u n323_u n324_u n325_u n326_u n327_u n328_u n329_u n330_u n331_u n332_u n333_u n334_u n335_u n336_u n337_u n338_u n339_u n340_u n341_u n342_u n343_u n344_u n345_u n346_u n347_u n348_u n349_u n350_u n351_u n352_u n353_u n354_u n355_u n356_u n357_u n358_u n359_u n360_u n361_u n362_u n363_u n364_u n365_u n366_u n367_u n368_u n369_u n370_u n371_u n372_u n373_u n374_u n375_u n376_u n377_u n378_u n379_u n380_u n381_u n382_u n383_u n384_u n385_u n386_u n387_u n388_u n389_u n390_u n391_u n392_u n393_u n394_u n395_u n396_u n397_u n398_u n399_u n400_u n401_u n402_u n403_u n404_u n405_u n406_u n407_u n408_u n409_u n410_u n411_u n412_u n413_u n414_u n415_u n416_u n417_u n418_u n419_u n420_u n421_u n422_u n423_u n424_u n425_u n426_u n427_u n428_u n429_u n430_u n431_u n432_u n433_u n434_u n435_u n436_u n437_u n438_u n439_u n440_u n441_u n442_u n443_u n444_u n445_u n446_u n447_u n448_u n449_u n450_u n451_u y x s0 s1 s2 s3 n458_wc n459_u n460_u n461_u n462_u n463_u n464_u n465_u n466_u n467_u n468_u n469_u n470_u n471_u n472_u n473_u n474_u n475_u n476_u n477_u n478_u n479_u n480_u n481_u n482_u n483_u n484_u n485_u n486_u n487_u n488_u n489_u n490_u n491_u n492_u n493_u n494_u n495_u n496_u n497_u n498_u n499_u n500_u n501_u n502_u n503_u n504_u n505_u n506_u n507_u n508_u n509_u n510_u n511_u n512_u n513_u n514_u n515_u n516_u n517_u n518_u n519_u n520_u n521_u n522_u n523_u n524_u n525_u n526_u n527_u n528_u n529_u n530_u n531_u n532_u n533_u n534_u n535_u n536_u n537_u n538_u n539_u n540_u n541_u n542_u n543_u n544_u n545_u n546_u n547_u n548_u n549_u n550_u n551_u n552_u n553_u n554_u n555_u n556_u n557_u n558_u n559_u n560_u n561_u n562_u n563_u n564_u n565_u n566_u n567_u n568_u n569_u n570_u n571_u n572_u n573_u n574_u n575_u n576_u n577_u n578_u n579_u n580_u n581_u n582_u n583_u n584_u n585_u n586_u n587_u n588_u n589_u n590_u n591_u n592_u n593_u n594_u n595_u n596_u n597_u n598_u n599_u n600_u n601_u n602_u n603_u n604_u n605_u n606_u n607_u n608_u n609_u n610_u n611_u n612_u n613_u n614_u n615_u n616_u n617_u n618_u n619_u n620_u n621_u n622_u n623_u n624_u n625_u n626_u n627_u n628_u n629_u n630_u n631_u n632_u n633_u n634_K n635_a wc u16 u38 u39 u40 u41 u42 u43 u44 u45 u46 u47 u48 u49 u50 u51 u52 u53 u54 u55 u56 u57 u58 u59 u60 u61 u62 u63 u64 u65 u66 u67 u68 u69 u70 u71 u72 u73 u74 u75 u76 u77 u78 u79 u80 u81 u82 u83 u84 u85 u86 u87 u88 u89 u90 u91 u92 u93 u94 u95 u96 u97 u98 u99 u100 u101 u102 u103 u104 u105 u106 u107 u108 u109 u110 u111 u112 u113 u114 u115 u116 u117 u118 u119 u120 u121 u122 u123 u124 u125 u126 u127 u128 u129 u130 u131 u132 u133 u134 u135 u136 u137 u138 u139 u140 u141 u142 u143 u144 u145 u146 u147 u148 u149 u150 u151 u152 u153 u154 u155 u156 u157 u158 u159 u160 u161 u162 u163 u164 u165 u166 u167 u168 u169 u170 u171 u172 u173 u174 u175 u176 u177 u178 u179 u180 u181 u182 u183 u184 u185 u186 u187 u188 u189 u190 u191 u192 u193 u194 u195 u196 u197 u198 u199 u200 u201 u202 u203 u204 u205 u206 u207 u208 u209 u210 u211 u212 u213 st' u' la' ln' c' oa capa on capn IN cI
        exact HGIVE.out
end Go.Proofs.YtnpimmjkmclkpaaDoor
/- RadixFirst: what is allocated is the first row of so many free pages. -/
namespace Go.Proofs.YtnpimmjkmclkpaaDoor
open Go.ChangeShapes Go.WideShapes Go.ChangeAt Go.RowKit Go.Proofs.Bt Go.Shelf Go.Proofs.Rx Go.Maps Go.Proofs.Pk
set_option linter.unusedVariables false
set_option linter.unusedSimpArgs false

set_option maxRecDepth 100000 in
set_option maxHeartbeats 4000000 in
theorem first_give : first_rest.G := by
  intro w l0 c0 o1 l1 c1 n8_left X n10_left Y N R FIN HY HN e0 e1 e2 e3 n21_h w1 tb w2 W0 U hU n28_K n29_a wr u4 n32_u u11 n34_u u13 n36_u u15 n37_u u17 u18 n41_u n42_u n43_u n44_u n45_u n46_u n47_u n48_u n49_u n50_u n51_u n52_u n53_u n54_u n55_u n56_u n57_u n58_u n59_u n60_u n61_u n62_u n63_u n64_u n65_u n66_u n67_u n68_u n69_u n70_u n71_u n72_u n73_u n74_u n75_u n76_u n77_u n78_u n79_u n80_u n81_u n82_u n83_u n84_u n85_u n86_u n87_u n88_u n89_u n90_u n91_u n92_u n93_u n94_u n95_u n96_u n97_u n98_u n99_u n100_u n101_u n102_u n103_u n104_u n105_u n106_u n107_u n108_u n109_u n110_u n111_u n112_u n113_u n114_u n115_u n116_u n117_u n118_u n119_u n120_u n121_u n122_u n123_u n124_u n125_u n126_u n127_u n128_u n129_u n130_u n131_u n132_u n133_u n134_u n135_u n136_u n137_u n138_u n139_u n140_u n141_u n142_u n143_u n144_u n145_u n146_u n147_u n148_u n149_u n150_u n151_u n152_u n153_u n154_u n155_u n156_u n157_u n158_u n159_u n160_u n161_u n162_u n163_u n164_u n165_u n166_u n167_u n168_u n169_u n170_u n171_u n172_u n173_u n174_u n175_u n176_u n177_u n178_u n179_u n180_u n181_u n182_u n183_u n184_u n185_u n186_u n187_u n188_u n189_u n190_u n191_u n192_u n193_u n194_u n195_u n196_u n197_u n198_u n199_u n200_u n201_u n202_u n203_u n204_u n205_u n206_u n207_u n208_u n209_u n210_u n211_u n212_u n213_u n214_u n215_u n216_u k va vn k0 k1 st u la ln c hk b0 off0 HX hb0 A y1 y0 XS a1' a2' a3 n239_Q n240_K n241_a n242_h n243_wc u10 u12 n246_u n247_u n248_u n249_u n250_u n251_u n252_u n253_u n254_u n255_u n256_u n257_u n258_u n259_u n260_u n261_u n262_u n263_u n264_u n265_u n266_u n267_u n268_u n269_u n270_u n271_u n272_u want q0 q1 u14 n276_u n277_u n278_u n279_u n280_u n281_u n282_u n283_u n284_u n285_u n286_u n287_u n288_u n289_u n290_u n291_u n292_u n293_u n294_u n295_u n296_u n297_u n298_u n299_u n300_u n301_u n302_u n303_u n304_u n305_u n306_u n307_u n308_u n309_u n310_u n311_u n312_u n313_u n314_u n315_u n316_u n317_u n318_u n319_u n320_u n321_u n322_u n323_u n324_u n325_u n326_u n327_u n328_u n329_u n330_u n331_u n332_u n333_u n334_u n335_u n336_u n337_u n338_u n339_u n340_u n341_u n342_u n343_u n344_u n345_u n346_u n347_u n348_u n349_u n350_u n351_u n352_u n353_u n354_u n355_u n356_u n357_u n358_u n359_u n360_u n361_u n362_u n363_u n364_u n365_u n366_u n367_u n368_u n369_u n370_u n371_u n372_u n373_u n374_u n375_u n376_u n377_u n378_u n379_u n380_u n381_u n382_u n383_u n384_u n385_u n386_u n387_u n388_u n389_u n390_u n391_u n392_u n393_u n394_u n395_u n396_u n397_u n398_u n399_u n400_u n401_u n402_u n403_u n404_u n405_u n406_u n407_u n408_u n409_u n410_u n411_u n412_u n413_u n414_u n415_u n416_u n417_u n418_u n419_u n420_u n421_u n422_u n423_u n424_u n425_u n426_u n427_u n428_u n429_u n430_u n431_u n432_u n433_u n434_u n435_u n436_u n437_u n438_u n439_u n440_u n441_u n442_u n443_u n444_u n445_u n446_u n447_u n448_u n449_u n450_u n451_u y x s0 s1 s2 s3 n458_wc n459_u n460_u n461_u n462_u n463_u n464_u n465_u n466_u n467_u n468_u n469_u n470_u n471_u n472_u n473_u n474_u n475_u n476_u n477_u n478_u n479_u n480_u n481_u n482_u n483_u n484_u n485_u n486_u n487_u n488_u n489_u n490_u n491_u n492_u n493_u n494_u n495_u n496_u n497_u n498_u n499_u n500_u n501_u n502_u n503_u n504_u n505_u n506_u n507_u n508_u n509_u n510_u n511_u n512_u n513_u n514_u n515_u n516_u n517_u n518_u n519_u n520_u n521_u n522_u n523_u n524_u n525_u n526_u n527_u n528_u n529_u n530_u n531_u n532_u n533_u n534_u n535_u n536_u n537_u n538_u n539_u n540_u n541_u n542_u n543_u n544_u n545_u n546_u n547_u n548_u n549_u n550_u n551_u n552_u n553_u n554_u n555_u n556_u n557_u n558_u n559_u n560_u n561_u n562_u n563_u n564_u n565_u n566_u n567_u n568_u n569_u n570_u n571_u n572_u n573_u n574_u n575_u n576_u n577_u n578_u n579_u n580_u n581_u n582_u n583_u n584_u n585_u n586_u n587_u n588_u n589_u n590_u n591_u n592_u n593_u n594_u n595_u n596_u n597_u n598_u n599_u n600_u n601_u n602_u n603_u n604_u n605_u n606_u n607_u n608_u n609_u n610_u n611_u n612_u n613_u n614_u n615_u n616_u n617_u n618_u n619_u n620_u n621_u n622_u n623_u n624_u n625_u n626_u n627_u n628_u n629_u n630_u n631_u n632_u n633_u n634_K n635_a wc u16 u38 u39 u40 u41 u42 u43 u44 u45 u46 u47 u48 u49 u50 u51 u52 u53 u54 u55 u56 u57 u58 u59 u60 u61 u62 u63 u64 u65 u66 u67 u68 u69 u70 u71 u72 u73 u74 u75 u76 u77 u78 u79 u80 u81 u82 u83 u84 u85 u86 u87 u88 u89 u90 u91 u92 u93 u94 u95 u96 u97 u98 u99 u100 u101 u102 u103 u104 u105 u106 u107 u108 u109 u110 u111 u112 u113 u114 u115 u116 u117 u118 u119 u120 u121 u122 u123 u124 u125 u126 u127 u128 u129 u130 u131 u132 u133 u134 u135 u136 u137 u138 u139 u140 u141 u142 u143 u144 u145 u146 u147 u148 u149 u150 u151 u152 u153 u154 u155 u156 u157 u158 u159 u160 u161 u162 u163 u164 u165 u166 u167 u168 u169 u170 u171 u172 u173 u174 u175 u176 u177 u178 u179 u180 u181 u182 u183 u184 u185 u186 u187 u188 u189 u190 u191 u192 u193 u194 u195 u196 u197 u198 u199 u200 u201 u202 u203 u204 u205 u206 u207 u208 u209 u210 u211 u212 u213 st' u' la' ln' c' oa capa on capn IN cI
  by_cases g1 : k < l1
  · obtain ⟨b1, off1, rfl, hb1, hcl1⟩ := HY.out.at (i := k.toNat) (by omega)
    have YS := hide (show ∀ Z, Below N w Z → Z.cell? ⟨b1, off1 + k.toNat, none⟩ = some (.int .i64 (Y k.toNat)) from fun Z hZ => (cell_block (hZ.block b1 (by rw [← HN.out]; exact hb1)) _).trans (hcl1 k.toNat (by omega)))
    have y2 := HY.out.lo k.toNat
    have y3 := HY.out.hi k.toNat
    obtain ⟨G, hG⟩ : ∃ G, Y k.toNat = G := ⟨_, rfl⟩
    rw [hG] at y2 y3 YS
    have x1 := YS.out _ IN.out.ls.t.be
    clear hcl1 hG
    by_cases g2 : G < 0
    · go_wp2_with fail
      refine ⟨⟨k + 1, (.slice oa c' capa), (.slice on c' capn), rfl, rfl, rfl, by omega, by omega, hide ⟨_, _, _, _, _, IN.out⟩⟩, ?_⟩
      simp [intOf]; omega
    have g2' : 0 ≤ G := by omega
    clear g2
    by_cases g3 : ¬ G < (c' : Int)
    · go_wp2_with fail
      refine ⟨⟨k + 1, (.slice oa c' capa), (.slice on c' capn), rfl, rfl, rfl, by omega, by omega, hide ⟨_, _, _, _, _, IN.out⟩⟩, ?_⟩
      simp [intOf]; omega
    have g3' : G < (c' : Int) := Classical.not_not.1 g3
    clear g3
    obtain ⟨oa', ca', on', cn', ea, en, sa, sn⟩ := IN.out.ls.slices
    obtain ⟨ga, hga, ga1, ga2⟩ := sa (by omega)
    obtain ⟨gn, hgn, gn1, gn2⟩ := sn (by omega)
    cases ea
    cases en
    subst hga hgn
    have x2 := owns_cell IN.out.ls.on' (k := G.toNat) (by omega)
    obtain ⟨M, hM⟩ : ∃ M : Nat, ln'.getD G.toNat 0 = M := ⟨_, rfl⟩
    rw [hM] at x2
    have HMM := hide hM
    clear hM
    by_cases g4 : ¬ 0 < M
    · have d4 : decide ((0 : Int) < (M : Int)) = false := decide_eq_false (by omega)
      have D4 := hide d4
      have m0 : (M : Int) = 0 := by omega
      clear g4 d4
      go_wp2_with fail
      refine ⟨⟨k + 1, (.slice (some ⟨ga, 0, none⟩) c' capa), (.slice (some ⟨gn, 0, none⟩) c' capn), rfl, rfl, rfl, by omega, by omega, hide ⟨_, _, _, _, _, IN.out⟩⟩, ?_⟩
      simp [intOf]; omega
    have g4' : 0 < M := Classical.not_not.1 g4
    clear g4
    have g4I : 0 < (M : Int) := by omega
    obtain ⟨p', hp, p1, p2, p3⟩ := out_used IN.out.fs IN.out.os (x := G.toNat) (by rw [owns_len IN.out.ls.oa]; omega) (by rw [HMM.out]; exact g4')
    rw [HMM.out] at p1 p2 p3
    have x3 := owns_cell IN.out.ls.oa (k := G.toNat) (by omega)
    rw [hp, show ((1536 + p' : Nat) : Int) = 1536 + (p' : Int) from rfl] at x3
    have pI' : (p' : Int) + (M : Int) ≤ 1536 := by omega
    have CV := hide (t9_give (IN.out.ls.below (drew_below wc)).t (1536 + p') M p2 p3)
    rw [show ((1536 + p' : Nat) : Int) = 1536 + (p' : Int) from rfl] at CV
    have FS2 := hide (fs_give IN.out.fs p' M p1)
    have OS2 := hide (show Outst (sub6 u' p' (p' + M)) la' (ln'.set G.toNat 0) from by
      have h := IN.out.os.give (k := G.toNat) (by rw [owns_len IN.out.ls.oa]; omega) (by rw [HMM.out]; exact g4')
      rwa [hp, HMM.out, show 1536 + p' - 1536 = p' by omega] at h)
    have AS := hide (show ∀ Z ux lx sx, Ls N U tb w sx ux (.slice (some ⟨ga, 0, none⟩) c' capa) (.slice (some ⟨gn, 0, none⟩) c' capn) c' c' la' lx Z → lx = ln' → Z.cell? ⟨ga, G.toNat, none⟩ = some (.int .u64 (1536 + (p' : Int))) ∧ Z.cell? ⟨gn, G.toNat, none⟩ = some (.int .u64 (M : Nat)) from fun Z ux lx sx hZ e => by
      subst e
      have q1 := owns_cell hZ.oa (k := G.toNat) (by omega)
      have q2 := owns_cell hZ.on' (k := G.toNat) (by omega)
      rw [hp, show ((1536 + p' : Nat) : Int) = 1536 + (p' : Int) from rfl] at q1
      rw [HMM.out] at q2
      exact ⟨q1, q2⟩)
    clear hp p1 p2 p3 g4'
    go_wp2_with fail
    refine norm0 ?_
    refine wp_region_held_drew (S := fun Z => Z.cell? ⟨ga, G.toNat, none⟩ = some (.int .u64 (1536 + (p' : Int))) ∧ Z.cell? ⟨gn, G.toNat, none⟩ = some (.int .u64 (M : Nat))) (by as_aux_lemma => kernel_rfl) ⟨x3, x2⟩ (fun hHeld => ?_)
    refine wpAnyH_take (i := 0) (oi := _) (v := ?_) rfl (by as_aux_lemma => kernel_rfl) (by as_aux_lemma => kernel_rfl) (by as_aux_lemma => kernel_rfl) (fun _ _ _ h => by cases h.1) (Or.inl ⟨by rfl, ?_⟩) (by assumption) ?_
    rotate_left
    · (intro Z hSw; go_simp; try with_reducible rfl)
    try simp only [Act.put, List.setIfInBounds_toArray, List.set_cons_zero, List.set_cons_succ]
    refine wpAnyH_take (i := 1) (oi := _) (v := ?_) rfl (by as_aux_lemma => kernel_rfl) (by as_aux_lemma => kernel_rfl) (by as_aux_lemma => kernel_rfl) (fun _ _ _ h => by cases h.1) (Or.inl ⟨by rfl, ?_⟩) (by assumption) ?_
    rotate_left
    · (intro Z hSw; go_simp; try with_reducible rfl)
    try simp only [Act.put, List.setIfInBounds_toArray, List.set_cons_zero, List.set_cons_succ]
    refine wpAnyH_take (i := 2) (oi := _) (v := ?_) rfl (by as_aux_lemma => kernel_rfl) (by as_aux_lemma => kernel_rfl) (by as_aux_lemma => kernel_rfl) (fun _ _ _ h => by cases h.1) (Or.inl ⟨by rfl, ?_⟩) (by assumption) ?_
    rotate_left
    · (intro Z hSw; go_simp; try with_reducible rfl)
    try simp only [Act.put, List.setIfInBounds_toArray, List.set_cons_zero, List.set_cons_succ]
    refine wpAnyH_take (i := 3) (oi := _) (v := ?_) rfl (by as_aux_lemma => kernel_rfl) (by as_aux_lemma => kernel_rfl) (by as_aux_lemma => kernel_rfl) (fun _ _ _ h => by cases h.1) (Or.inl ⟨by rfl, ?_⟩) (by assumption) ?_
    rotate_left
    · (intro Z hSw; go_simp; try with_reducible rfl)
    try simp only [Act.put, List.setIfInBounds_toArray, List.set_cons_zero, List.set_cons_succ]
    refine wpAnyH_take (i := 4) (oi := _) (v := ?_) rfl (by as_aux_lemma => kernel_rfl) (by as_aux_lemma => kernel_rfl) (by as_aux_lemma => kernel_rfl) (fun _ _ _ h => by cases h.1) (Or.inl ⟨by rfl, ?_⟩) (by assumption) ?_
    rotate_left
    · (intro Z hSw; obtain ⟨s0, s1⟩ := hSw; go_simp; try with_reducible rfl)
    try simp only [Act.put, List.setIfInBounds_toArray, List.set_cons_zero, List.set_cons_succ]
    refine wpAnyH_take (i := 5) (oi := _) (v := ?_) rfl (by as_aux_lemma => kernel_rfl) (by as_aux_lemma => kernel_rfl) (by as_aux_lemma => kernel_rfl) (fun _ _ _ h => by cases h.1) (Or.inl ⟨by rfl, ?_⟩) (by assumption) ?_
    rotate_left
    · (intro Z hSw; go_simp; try with_reducible rfl)
    try simp only [Act.put, List.setIfInBounds_toArray, List.set_cons_zero, List.set_cons_succ]
    refine wpAnyH_take (i := 6) (oi := _) (v := ?_) rfl (by as_aux_lemma => kernel_rfl) (by as_aux_lemma => kernel_rfl) (by as_aux_lemma => kernel_rfl) (fun _ _ _ h => by cases h.1) (Or.inl ⟨by rfl, ?_⟩) (by assumption) ?_
    rotate_left
    · (intro Z hSw; go_simp; try with_reducible rfl)
    try simp only [Act.put, List.setIfInBounds_toArray, List.set_cons_zero, List.set_cons_succ]
    refine wpAnyH_take (i := 7) (oi := _) (v := ?_) rfl (by as_aux_lemma => kernel_rfl) (by as_aux_lemma => kernel_rfl) (by as_aux_lemma => kernel_rfl) (fun _ _ _ h => by cases h.1) (Or.inl ⟨by rfl, ?_⟩) (by assumption) ?_
    rotate_left
    · (intro Z hSw; go_simp; try with_reducible rfl)
    try simp only [Act.put, List.setIfInBounds_toArray, List.set_cons_zero, List.set_cons_succ]
    refine wpAnyH_take (i := 8) (oi := _) (v := ?_) rfl (by as_aux_lemma => kernel_rfl) (by as_aux_lemma => kernel_rfl) (by as_aux_lemma => kernel_rfl) (fun _ _ _ h => by cases h.1) (Or.inl ⟨by rfl, ?_⟩) (by assumption) ?_
    rotate_left
    · (intro Z hSw; obtain ⟨s0, s1⟩ := hSw; go_simp; try with_reducible rfl)
    try simp only [Act.put, List.setIfInBounds_toArray, List.set_cons_zero, List.set_cons_succ]
    refine wpAnyH_ready (rs := [9]) (by as_aux_lemma => kernel_rfl) (by simp) ?_
    refine AllReadyH.cons (o := ⟨some 188, _, _, _, _, _⟩) rfl (fun K hK => ?_) AllReadyH.nil
    go_simp
    refine CV.out.mono ?_
    rintro e W8 ⟨rfl, t8, l8⟩
    have L8 := hide ((IN.out.ls.below (drew_below wc)).left t8 l8)
    refine hK.out _ _ (AS.out _ _ _ _ L8.out rfl) (fun hHeld => ?_)
    clear hK K t8 l8
    try simp only [Act.put, List.setIfInBounds_toArray, List.set_cons_zero, List.set_cons_succ]
    refine wpAnyH_take (i := 10) (oi := _) (v := ?_) rfl (by as_aux_lemma => kernel_rfl) (by as_aux_lemma => kernel_rfl) (by as_aux_lemma => kernel_rfl) (fun _ _ _ h => by cases h.1) (Or.inl ⟨by rfl, ?_⟩) (by assumption) ?_
    rotate_left
    · (intro Z hSw; go_simp; try with_reducible rfl)
    try simp only [Act.put, List.setIfInBounds_toArray, List.set_cons_zero, List.set_cons_succ]
    refine wpAnyH_done (by as_aux_lemma => kernel_rfl) ⟨rfl, ?_⟩ _
    clear hHeld CV x1 x2 x3
    obtain ⟨x3, x2⟩ := AS.out _ _ _ _ L8.out rfl
    have CKK := hide IN.out.ck
    clear IN
    go_wp2_with fail
    go_loopw [18] (fun kv wr3 => ∃ y : Int, kv = .int .u64 (1536 + y) ∧ (p' : Int) ≤ y ∧ y ≤ (p' : Int) + (M : Int) ∧ Hid (Ls N U tb w (setSt st' (1536 + p') (1536 + p' + M) 2) (sub6 u' p' y.toNat) (.slice (some ⟨ga, 0, none⟩) c' capa) (.slice (some ⟨gn, 0, none⟩) c' capn) c' c' la' ln' wr3)) (fun kv _ => (1536 + (p' : Int) + (M : Int) - intOf kv).toNat)
    case atStart => exact ⟨(p' : Int), rfl, by omega, by omega, hide (L8.out.congr (fun q hq => by unfold sub6; rw [Int.toNat_natCast, show decide (p' ≤ q ∧ q < p') = false from decide_eq_false (by omega), Bool.not_false, Bool.and_true]))⟩
    case round =>
      clear L8 x2 x3
      obtain ⟨y, rfl, s0, s1, L4⟩ := hrel
      obtain ⟨x3, x2⟩ := AS.out _ _ _ _ L4.out rfl
      by_cases hy : y < (p' : Int) + (M : Int)
      · have dj : decide (1536 + y < 1536 + (p' : Int) + (M : Int)) = true := decide_eq_true (by omega)
        have s2 : y < 1536 := by omega
        have s3 : 0 ≤ y := by omega
        go_wp2_with fail
        go_quiet (fail)
        have L9 := hide (L4.out.below (show Below wr.heap.size wr (wr.drewN nq) from ⟨rfl, rfl, rfl, Nat.le_refl _, fun _ _ => rfl⟩))
        generalize wr.drewN nq = W9 at *
        have x6 := L9.out.b.cell y.toNat (by omega)
        have z6 := L9.out.b.fz y.toNat
        have l6 := L9.out.b.lt
        have ey : 1536 + y - 1536 = y := by omega
        clear L4 x2 x3 dj
        go_wp2_with fail
        have hs := L9.out.own (k := y.toNat) (x := false) (by omega)
        refine ⟨⟨y + 1, by go_num, by omega, by omega, hide (hs.congr (fun q hq => ?_))⟩, ?_⟩
        · unfold sub6
          by_cases e : q = y.toNat
          · rw [if_pos e, show decide (p' ≤ q ∧ q < (y + 1).toNat) = true from decide_eq_true (by omega), Bool.not_true, Bool.and_false]
          · rw [if_neg e]
            congr 2
            rw [decide_eq_decide]
            omega
        · simp [intOf]; omega
      have dj : decide (1536 + y < 1536 + (p' : Int) + (M : Int)) = false := decide_eq_false (by omega)
      have hy' : y = (p' : Int) + (M : Int) := by omega
      have L9 := hide (show Ls N U tb w (setSt st' (1536 + p') (1536 + p' + M) 2) (sub6 u' p' (p' + M)) (.slice (some ⟨ga, 0, none⟩) c' capa) (.slice (some ⟨gn, 0, none⟩) c' capn) c' c' la' ln' wr from by have h := L4.out; rwa [hy', show ((p' : Int) + (M : Int)).toNat = p' + M by omega] at h)
      clear hy hy' L4
      go_wp2_with fail
      go_quiet (fail)
      have L10 := hide (L9.out.below (show Below wr.heap.size wr (wr.drewN nq) from ⟨rfl, rfl, rfl, Nat.le_refl _, fun _ _ => rfl⟩))
      generalize wr.drewN nq = W10 at *
      clear x2 x3 dj L9
      obtain ⟨x3, x2⟩ := AS.out _ _ _ _ L10.out rfl
      have fz := L10.out.on'.frozenAt G.toNat
      have lz := (L10.out.on'.lt gn rfl).2
      have NX := hide (show FrI N U tb w (.slice (some ⟨ga, 0, none⟩) c' capa) (.slice (some ⟨gn, 0, none⟩) c' capn) (k + 1).toNat _ _ la' (ln'.set G.toNat 0) c' (W10.setCell ⟨gn, G.toNat, none⟩ (.int .u64 0)) from ⟨L10.out.clearN (by omega), FS2.out, OS2.out, CKK.out⟩)
      clear L10
      go_wp2_with fail
      refine ⟨⟨k + 1, (.slice (some ⟨ga, 0, none⟩) c' capa), (.slice (some ⟨gn, 0, none⟩) c' capn), rfl, rfl, rfl, by omega, by omega, hide ⟨_, _, _, _, _, NX.out⟩⟩, ?_⟩
      simp [intOf]; omega
  have g1' : (l1 : Int) ≤ k := by omega
  clear g1
  go_wp2_with fail
  refine ⟨⟨k + 1, (.slice oa c' capa), (.slice on c' capn), rfl, rfl, rfl, by omega, by omega, hide ⟨_, _, _, _, _, IN.out⟩⟩, ?_⟩
  simp [intOf]; omega
end Go.Proofs.YtnpimmjkmclkpaaDoor
/- RadixFirst: what is allocated is the first row of so many free pages. -/
namespace Go.Proofs.YtnpimmjkmclkpaaDoor
open Go.ChangeShapes Go.WideShapes Go.ChangeAt Go.RowKit Go.Proofs.Bt Go.Shelf Go.Proofs.Rx Go.Maps Go.Proofs.Pk
set_option linter.unusedVariables false
set_option linter.unusedSimpArgs false

set_option maxRecDepth 100000 in
set_option maxHeartbeats 4000000 in
theorem first_end : first_part.H := by
  intro w o0 l0 c0 o1 l1 c1 n9_left X n11_left Y N R FIN HX HY HN e0 e1 e2 e3 n23_h w1 tb w2 W0 U hU n30_K n31_a wr u4 u10 u11 u12 u13 u14 u15 u16 u17 u18 u38 u39 u40 u41 u42 u43 u44 u45 u46 u47 u48 u49 u50 u51 u52 u53 u54 u55 u56 u57 u58 u59 u60 u61 u62 u63 u64 u65 u66 u67 u68 u69 u70 u71 u72 u73 u74 u75 u76 u77 u78 u79 u80 u81 u82 u83 u84 u85 u86 u87 u88 u89 u90 u91 u92 u93 u94 u95 u96 u97 u98 u99 u100 u101 u102 u103 u104 u105 u106 u107 u108 u109 u110 u111 u112 u113 u114 u115 u116 u117 u118 u119 u120 u121 u122 u123 u124 u125 u126 u127 u128 u129 u130 u131 u132 u133 u134 u135 u136 u137 u138 u139 u140 u141 u142 u143 u144 u145 u146 u147 u148 u149 u150 u151 u152 u153 u154 u155 u156 u157 u158 u159 u160 u161 u162 u163 u164 u165 u166 u167 u168 u169 u170 u171 u172 u173 u174 u175 u176 u177 u178 u179 u180 u181 u182 u183 u184 u185 u186 u187 u188 u189 u190 u191 u192 u193 u194 u195 u196 u197 u198 u199 u200 u201 u202 u203 u204 u205 u206 u207 u208 u209 u210 u211 u212 u213 k va vn k0 k1 st u la ln c II hk'
  obtain ⟨oa, capa, on, capn, rfl, rfl, sa, sn⟩ := II.out.ls.slices
  clear sa sn
  go_wp2_with fail
  go_loopw [19, 20] (fun fv kv wr3 => ∃ (f y : Int), fv = .int .u64 f ∧ kv = .int .i64 y ∧ 0 ≤ y ∧ y ≤ 1536 ∧ 0 ≤ f ∧ f ≤ y ∧ Hid (f = (cnt (fun j => !u j) 0 y.toNat : Nat) ∧ FrI N U tb w (.slice oa c capa) (.slice on c capn) k.toNat st u la ln c wr3)) (fun _ kv _ => (1536 - intOf kv).toNat)
  case atStart => exact ⟨0, 0, rfl, rfl, by omega, by omega, by omega, by omega, hide ⟨rfl, II.out⟩⟩
  case round =>
    clear II
    obtain ⟨f, y, rfl, rfl, y0, y1, f0, f1, HJ⟩ := hrel
    by_cases hy : y < 1536
    · have x6 := HJ.out.2.ls.b.cell y.toNat (by omega)
      obtain ⟨b, hb⟩ : ∃ b, u y.toNat = b := ⟨_, rfl⟩
      rw [hb] at x6
      have hc := cnt_succ (fun j => !u j) y.toNat
      have HC := hide hc
      have HB := hide hb
      clear hc hb
      cases b with
      | true =>
        go_wp2_with fail
        refine ⟨⟨f, y + 1, rfl, rfl, by omega, by omega, by omega, by omega, hide ⟨?_, HJ.out.2⟩⟩, ?_⟩
        · have h := HC.out
          rw [HB.out] at h
          rw [show (y + 1).toNat = y.toNat + 1 by omega, h, HJ.out.1]; rfl
        · simp [intOf]; omega
      | false =>
        go_wp2_with fail
        refine ⟨⟨f + 1, y + 1, by go_num, rfl, by omega, by omega, by omega, by omega, hide ⟨?_, HJ.out.2⟩⟩, ?_⟩
        · have h := HC.out
          rw [HB.out] at h
          rw [show (y + 1).toNat = y.toNat + 1 by omega, h, HJ.out.1]; rfl
        · simp [intOf]; omega
    have hy' : y = 1536 := by omega
    subst hy'
    have CR := hide (t9_free HJ.out.2.ls.t)
    have ef : (frT st : Int) = f := by rw [fs_count HJ.out.2.fs, HJ.out.1]; rfl
    rw [ef] at CR
    clear hy HJ ef
    go_wp2_with fail
    refine CR.out.mono ?_
    rintro e w7 ⟨rfl, t7, -⟩
    have CW := hide (awake_any t7.tab)
    have B7 := hide t7.be
    have L7 := hide t7.tr.lt.2.2
    clear CR t7
    go_wp2_with fail
    refine CW.out.mono ?_
    rintro e w8 ⟨rfl, b8⟩
    have F := hide (FIN.out _ (B7.out.trans (b8.mono L7.out)))
    clear CW b8
    go_wp2_with fail
    try go_ret
    exact F.out
end Go.Proofs.YtnpimmjkmclkpaaDoor
/- RadixFirst: what is allocated is the first row of so many free pages. -/
namespace Go.Proofs.YtnpimmjkmclkpaaDoor
open Go.ChangeShapes Go.WideShapes Go.ChangeAt Go.RowKit Go.Proofs.Bt Go.Shelf Go.Proofs.Rx Go.Maps Go.Proofs.Pk
set_option linter.unusedVariables false
set_option linter.unusedSimpArgs false

theorem first_any (w : World) (ht : TabW w) (o0 : Option Addr) (l0 c0 : Nat) (hA0 : l0 ≤ maxLen ∧ l0 ≤ c0 ∧ ∃ X, U64At w o0 l0 c0 X) (o1 : Option Addr) (l1 c1 : Nat) (hA1 : l1 ≤ maxLen ∧ l1 ≤ c1 ∧ ∃ X, IntsAt w o1 l1 c1 X) :
    Calls Tryd.prog 5 #[.slice o0 l0 c0, .slice o1 l1 c1] w fun e w' => e = .returned (.bool true) ∧ Below w.heap.size w w' :=
  first_part.pf ⟨first_rest.pf ⟨first_give⟩⟩ ⟨first_end⟩ w ht o0 l0 c0 hA0 o1 l1 c1 hA1
end Go.Proofs.YtnpimmjkmclkpaaDoor
