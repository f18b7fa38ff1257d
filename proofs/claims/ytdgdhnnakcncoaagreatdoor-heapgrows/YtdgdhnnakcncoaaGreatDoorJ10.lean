/- Of the proof of HeapClasses: texts RXf, RXg, RXi. -/
import Derived.Test.YtdgdhnnakcncoaaGreatDoorJ09
import Derived.Test.YtdgdhnnakcncoaaGreatDoorJ06
import Derived.Test.YtdgdhnnakcncoaaGreatDoorJ07
import Derived.Deep.Cut
namespace Go.Proofs.YtdgdhnnakcncoaaGreatDoor
set_option maxHeartbeats 1600000
open Go.ChangeShapes Go.WideShapes Go.ChangeAt Go.RowKit Go.Proofs.Bt Go.Shelf Go.Proofs.Rx Go.Maps
set_option linter.unusedVariables false
set_option linter.unusedSimpArgs false
structure Tid where
 B:Nat
 tb:Nat
 lb:Nat
 cm:Nat
 cap:Nat
 mp:Nat→Nat
def Wr (T:Tid) (C:Ch) (x:Nat):Prop:=x=T.cm∨(∃d,d≤6∧x=T.mp d)∨∃i b c,C i=some (b,c)∧x=b
def Foot (T:Tid) (C:Ch) (x:Nat):Prop:=Wr T C x∨x=T.tb∨x=T.lb
structure RadAt (w:World) (T:Tid) (L:Lv) (C:Ch):Prop where
 tab:TabW w
 c0:w.cell? ⟨T.tb,0,none⟩=some (.slice (some ⟨T.lb,0,none⟩) 7 T.cap)
 c1:w.cell? ⟨T.tb,1,none⟩=some (.map (some T.cm))
 lv:∀d,d≤6→w.cell? ⟨T.lb,d,none⟩=some (.map (some (T.mp d)))
 mp:∀d,d≤6→MapG encR w (T.mp d) (L d)
 cm:MapG encC w T.cm (fun i=>(C i).map (·.1))
 ch:∀i b c,C i=some (b,c)→ChS w b c
 apM:∀d d',d≤6→d'≤6→T.mp d=T.mp d'→d=d'
 apC:∀d,d≤6→T.mp d≠T.cm
 apT:¬Wr T C T.tb∧¬Wr T C T.lb
 apB:∀i b c,C i=some (b,c)→b≠T.cm∧∀d,d≤6→b≠T.mp d
 inj:∀i i' b c c',C i=some (b,c)→C i'=some (b,c')→i=i'
 base:∀x,Foot T C x→T.B≤x
 two:2≤T.B
section
variable {w w':World} {T:Tid} {L:Lv} {C:Ch}
theorem RadAt.lt (h:RadAt w T L C) {x:Nat} (hx:Foot T C x):x<w.heap.size:=by
 rcases hx with (rfl|⟨d,hd,rfl⟩|⟨i,b,c,hc,rfl⟩)|rfl|rfl
 ·exact h.cm.lt
 ·exact (h.mp d hd).lt
 ·exact (h.ch i _ c hc).lt
 ·exact cellLt h.c0
 ·exact cellLt (h.lv 0 (by omega))
theorem RadAt.kept {F:Nat→Prop} (h:RadAt w T L C) (k:Kept F w w') (hF:∀x,F x→¬Foot T C x∧T.B≤x):RadAt w' T L C:=by
 have nf:∀{x},Foot T C x→¬F x:=fun hx z=>(hF _ z).1 hx
 have bl:∀{x},Foot T C x→w'.heap[x]? =w.heap[x]? :=fun hx=>k.block _ (h.lt hx) (nf hx)
 have t0:Foot T C T.tb:= .inr (.inl rfl)
 have l0:Foot T C T.lb:= .inr (.inr rfl)
 have h2:=h.two
 exact ⟨h.tab.kept k ⟨fun z=>by have:=(hF _ z).2;omega,fun z=>by have:=(hF _ z).2;omega⟩,(cell_block (bl t0) 0).trans h.c0,(cell_block (bl t0) 1).trans h.c1,fun d hd=>(cell_block (bl l0) d).trans (h.lv d hd),
  fun d hd=>(h.mp d hd).kept (bl (.inl (.inr (.inl ⟨d,hd,rfl⟩)))),h.cm.kept (bl (.inl (.inl rfl))),fun i b c hc=>(h.ch i b c hc).kept k (nf (.inl (.inr (.inr ⟨i,b,c,hc,rfl⟩)))),h.apM,h.apC,h.apT,h.apB,h.inj,h.base,h.two⟩
theorem RadAt.below (h:RadAt w T L C) (k:Below w.heap.size w w'):RadAt w' T L C:=by
 have bl:∀{x},Foot T C x→w'.heap[x]? =w.heap[x]? :=fun hx=>k.block _ (h.lt hx)
 have t0:Foot T C T.tb:= .inr (.inl rfl)
 have l0:Foot T C T.lb:= .inr (.inr rfl)
 exact ⟨h.tab.below k,(cell_block (bl t0) 0).trans h.c0,(cell_block (bl t0) 1).trans h.c1,fun d hd=>(cell_block (bl l0) d).trans (h.lv d hd),
  fun d hd=>(h.mp d hd).kept (bl (.inl (.inr (.inl ⟨d,hd,rfl⟩)))),h.cm.kept (bl (.inl (.inl rfl))),fun i b c hc=>(h.ch i b c hc).below k,h.apM,h.apC,h.apT,h.apB,h.inj,h.base,h.two⟩
end
theorem set7 {w w1:World} {N:Nat} {a0 a1 a2 a3 a4 a5 a6:Value} (h:Below N w w1):Below N w (((((((w1.setCell ⟨N,0,none⟩ a0).setCell ⟨N,1,none⟩ a1).setCell ⟨N,2,none⟩ a2).setCell ⟨N,3,none⟩ a3).setCell ⟨N,4,none⟩ a4).setCell ⟨N,5,none⟩ a5).setCell ⟨N,6,none⟩ a6):=
 ((((((h.setCell (Nat.le_refl _) _).setCell (Nat.le_refl _) _).setCell (Nat.le_refl _) _).setCell (Nat.le_refl _) _).setCell (Nat.le_refl _) _).setCell (Nat.le_refl _) _).setCell (Nat.le_refl _) _
abbrev tp (T:Tid):Value:= .pointer (some ⟨T.tb,0,none⟩)
set_option maxRecDepth 20000 in
theorem row_any {w:World} {T:Tid} {L:Lv} {C:Ch} (h:RadAt w T L C) (d i rest:Nat) (hd:d≤6) (hi:i<18446744073709551616) (hr:rest≤3):
 Calls Tryz.prog 186 #[tp T, .int .i64 (d:Nat), .int .u64 (i:Nat), .int .i64 (rest:Nat)] w fun e w'=>e= .returned (rwV (row L d i rest))∧Below w.heap.size w w':=by
 obtain ⟨N,hN⟩:∃N,w.heap.size=N:=⟨_,rfl⟩
 obtain ⟨W,hW⟩:∃W,w.alloc (.cells #[.int .u64 0, .int .u64 0, .int .u64 0, .int .i64 0, .int .i64 0, .int .i64 0, .int .i64 0] 221)=W:=⟨_,rfl⟩
 have bW:Below N w W:=by rw[←hW,←hN];exact grown1 w _
 have h':=h.below (w':=W) (by rw[hN];exact bW)
 have nW:W.heap[N]? =some (.cells #[.int .u64 0, .int .u64 0, .int .u64 0, .int .i64 0, .int .i64 0, .int .i64 0, .int .i64 0] 221):=by rw[←hW,←hN];exact World.alloc_heap_new w _
 obtain ⟨x0,x1,x2,x3,x4,x5,x6⟩:=cells7 nW
 obtain ⟨z0,z1,z2,z3,z4,z5,z6⟩:=frozen7 (fun k=>(by simp[World.frozen?,nW]:W.frozen? ⟨N,k,none⟩=false))
 have lW:=(Array.getElem?_eq_some_iff.1 nW).1
 have c0:=h'.c0
 have cl:=h'.lv d hd
 have hl:=(h'.mp d hd).looks tyL (zeroR _) i hi
 have hlb:=h'.lt (x:=T.lb) (.inr (.inr rfl))
 have htb:=h'.lt (x:=T.tb) (.inr (.inl rfl))
 have CE:=fun W hW=>hide (even_any d rest hd hr W hW)
 have HT:=hide h'.tab
 have BW:=hide bW
 have HW:=hide hW
 have HN:=hide hN
 have dl:(d:Int)<7:=by omega
 have d0:(0:Int)≤d:=by omega
 obtain ⟨R,hR⟩:∃R,R=(fun (e:Ending) (w':World)=>e= .returned (rwV (row L d i rest))∧Below w.heap.size w w'):=⟨_,rfl⟩
 rw[←hR]
 have HR:=hide hR
 clear hR h bW nW hW h' hN
 unfold tp
 cases hm:L d i with
 |some r=>
  rw[hm] at hl
  have er:row L d i rest=r:=by unfold row;rw[hm];rfl
  have FIN:=hide (show ∀a z,Below N w ((((((((W.setCell ⟨N,0,none⟩ (.int .u64 (r.t.p:Nat))).setCell ⟨N,1,none⟩ (.int .u64 (r.t.f:Nat))).setCell ⟨N,2,none⟩ (.int .u64 (r.t.r:Nat))).setCell ⟨N,3,none⟩ (.int .i64 (r.s:Nat))).setCell ⟨N,4,none⟩ (.int .i64 (r.m:Nat))).setCell ⟨N,5,none⟩ (.int .i64 (r.e:Nat))).setCell ⟨N,6,none⟩ a).alloc z) from fun a z=>below7 BW.out (Nat.le_of_lt lW))
  have HE:=hide er
  simp only[valO,encR,rwV,Option.isSome_some] at hl
  clear er hm
  go_enter Tryz.func186,Tryz.ntmps186
  go_upto_region 1 with fail
  rw[HW.out,HN.out]
  go_wp2_with fail
  refine bodyPost_ret (v:=rwV r) (by simp[results,Tryz.results186,go_sem,lW,x0,x1,x2,x3,x4,x5,x6,rwV]) rfl ?_
  rw[HR.out,HE.out]
  exact ⟨rfl,by rw[HN.out];exact FIN.out _ _⟩
 |none=>
  rw[hm] at hl
  have er:row L d i rest=Rx.even d rest:=by unfold row;rw[hm];rfl
  have HE:=hide er
  obtain ⟨r,hr'⟩:∃r,Rx.even d rest=r:=⟨_,rfl⟩
  rw[hr'] at HE CE
  simp only[valO,encR,rwV,Option.isSome_none,zeroRw] at hl
  have ZZ:=hide (show ∀X,Below W.heap.size W X→X.heap[N]? =W.heap[N]? from fun X hX=>hX.block N lW)
  unfold rwV at CE
  clear er hm hr'
  go_enter Tryz.func186,Tryz.ntmps186
  go_upto_region 1 with fail
  rw[HW.out,HN.out]
  go_wp2_with fail
  refine (CE _ (HT.out.below (grown1 _ _))).out.mono ?_
  rintro e w3 ⟨rfl,b3⟩
  have b4:Below W.heap.size W w3:=(grown1 W _).trans (b3.mono (by simp))
  have l4:N<w3.heap.size:=Nat.lt_of_lt_of_le lW b4.size
  have y0:=(b4.cell (p:=⟨N,0,none⟩) lW).trans x0
  have y1:=(b4.cell (p:=⟨N,1,none⟩) lW).trans x1
  have y2:=(b4.cell (p:=⟨N,2,none⟩) lW).trans x2
  have y3:=(b4.cell (p:=⟨N,3,none⟩) lW).trans x3
  have y4:=(b4.cell (p:=⟨N,4,none⟩) lW).trans x4
  have y5:=(b4.cell (p:=⟨N,5,none⟩) lW).trans x5
  have y6:=(b4.cell (p:=⟨N,6,none⟩) lW).trans x6
  have v0:=(b4.frozen (p:=⟨N,0,none⟩) lW).trans z0
  have v1:=(b4.frozen (p:=⟨N,1,none⟩) lW).trans z1
  have v2:=(b4.frozen (p:=⟨N,2,none⟩) lW).trans z2
  have v3:=(b4.frozen (p:=⟨N,3,none⟩) lW).trans z3
  have v4:=(b4.frozen (p:=⟨N,4,none⟩) lW).trans z4
  have v5:=(b4.frozen (p:=⟨N,5,none⟩) lW).trans z5
  have v6:=(b4.frozen (p:=⟨N,6,none⟩) lW).trans z6
  have FIN:=hide (show ∀a0 a1 a2 a3 a4 a5 a6,Below N w (((((((w3.setCell ⟨N,0,none⟩ a0).setCell ⟨N,1,none⟩ a1).setCell ⟨N,2,none⟩ a2).setCell ⟨N,3,none⟩ a3).setCell ⟨N,4,none⟩ a4).setCell ⟨N,5,none⟩ a5).setCell ⟨N,6,none⟩ a6) from fun a0 a1 a2 a3 a4 a5 a6=>set7 (BW.out.trans (b4.mono (Nat.le_of_lt lW))))
  clear b3 b4 x0 x1 x2 x3 x4 x5 x6 z0 z1 z2 z3 z4 z5 z6 CE
  go_wp2_with fail
  refine bodyPost_ret (v:=rwV r) (by simp[results,Tryz.results186,go_sem,l4,y0,y1,y2,y3,y4,y5,y6,rwV]) rfl ?_
  rw[HR.out,HE.out]
  exact ⟨rfl,by rw[HN.out];exact FIN.out _ _ _ _ _ _ _⟩
theorem top_any {w:World} {T:Tid} {L:Lv} {C:Ch} (h:RadAt w T L C):
 Calls Tryz.prog 130 #[tp T] w fun e w'=>e= .returned (rwV (row L 0 0 0))∧Below w.heap.size w w':=by
 have CR:=fun W (hW:RadAt W T L C)=>hide (row_any hW 0 0 0 (by omega) (by omega) (by omega))
 obtain ⟨r,hr⟩:∃r,row L 0 0 0=r:=⟨_,rfl⟩
 rw[hr] at CR ⊢
 have HH:=hide h
 obtain ⟨N,hN⟩:∃N,w.heap.size=N:=⟨_,rfl⟩
 obtain ⟨R,hR⟩:∃R,R=(fun (e:Ending) (w':World)=>e= .returned (rwV r)∧Below w.heap.size w w'):=⟨_,rfl⟩
 rw[←hR]
 have HR:=hide hR
 simp only[Int.cast_ofNat_Int] at CR
 unfold rwV at CR
 unfold tp at CR ⊢
 clear hR h hr
 go_enter Tryz.func130,Tryz.ntmps130
 go_wp2_with fail
 refine (CR _ (HH.out.below (grown1 _ _))).out.mono ?_
 rintro e w1 ⟨rfl,b1⟩
 obtain ⟨B1,l1,c1,fz1⟩:=alloc_at1 w _ _ b1 N hN
 have HB:=hide B1
 have HN:=hide hN
 obtain ⟨x0,x1,x2,x3,x4,x5,x6⟩:=cells7 c1
 obtain ⟨z0,z1,z2,z3,z4,z5,z6⟩:=frozen7 fz1
 clear b1 B1 hN c1 fz1 CR
 have FIN:=hide (show ∀a0 a1 a2 a3 a4 a5 a6,Below N w (((((((w1.setCell ⟨N,0,none⟩ a0).setCell ⟨N,1,none⟩ a1).setCell ⟨N,2,none⟩ a2).setCell ⟨N,3,none⟩ a3).setCell ⟨N,4,none⟩ a4).setCell ⟨N,5,none⟩ a5).setCell ⟨N,6,none⟩ a6) from fun a0 a1 a2 a3 a4 a5 a6=>set7 HB.out)
 go_wp2_with fail
 refine bodyPost_ret (v:=rwV r) (by simp[results,Tryz.results130,go_sem,l1,x0,x1,x2,x3,x4,x5,x6,rwV]) rfl ?_
 rw[HR.out]
 exact ⟨rfl,by rw[HN.out];exact FIN.out _ _ _ _ _ _ _⟩
end Go.Proofs.YtdgdhnnakcncoaaGreatDoor
namespace Go.Proofs.YtdgdhnnakcncoaaGreatDoor
set_option maxHeartbeats 1600000
open Go.ChangeShapes Go.WideShapes Go.ChangeAt Go.RowKit Go.Proofs.Bt Go.Shelf Go.Proofs.Rx Go.Maps
set_option linter.unusedVariables false
set_option linter.unusedSimpArgs false
attribute [local go_sem] Oper.semAt_some
def cntR (D a b:Nat):Nat:=(b - 1)/sz D+1 - a/sz D
structure RdS (B0 B1 D a b:Nat) (w:World):Prop where
 sp:w.heap[B0]? =some (.cells #[.int .u64 (a:Nat), .int .u64 (b:Nat)] 282 (0,0))
 dp:w.heap[B1]? =some (.cells #[.int .i64 (D:Nat)] 3 (0,0))
 tab:TabW w
theorem range_pre {j N:Nat} (h:j<N):List.range j++ [j] <+: List.range N:=by
 rw[←List.range_succ,List.prefix_iff_eq_take,List.length_range,List.take_range,Nat.min_eq_left (by omega)]
theorem pre_range {pre:List Nat} {x N:Nat} (h:pre++ [x] <+: List.range N):pre=List.range pre.length∧x=pre.length∧pre.length<N:=by
 have hl:=h.length_le
 simp at hl
 have h1:pre++ [x]=(List.range N).take (pre.length+1):=by
  have:=List.prefix_iff_eq_take.1 h
  simpa using this
 rw[List.take_range,Nat.min_eq_left (by omega),List.range_succ] at h1
 have h2:=List.append_inj h1 (by simp)
 refine ⟨h2.1,?_,by omega⟩
 simpa using h2.2
def encs1 (f j:Nat):Array Value:=#[.int .u64 ((f+j:Nat):Int)]
set_option maxRecDepth 100000 in
set_option maxHeartbeats 1000000 in
theorem rows_seq (B0 B1 D a b:Nat) (hD:D≤6) (hab:a<b) (hb:b≤34359738368) (n:Nat):
 SeqB n Tryz.prog 289 #[.pointer (some ⟨B0,0,none⟩), .pointer (some ⟨B1,0,none⟩)] (encs1 (a/sz D)) (RdS B0 B1 D a b) (List.range (cntR D a b)):=by
 intro l J Jx W hR hJ hY h0
 obtain ⟨f,hf⟩:∃f,a/sz D=f:=⟨_,rfl⟩
 obtain ⟨N,hN⟩:∃N,cntR D a b=N:=⟨_,rfl⟩
 rw[hf,hN] at hY
 rw[hN]
 have rd:∀j A,J (List.range j) A→Hid (A.cell? ⟨B0,0,none⟩=some (.int .u64 (a:Nat))∧A.cell? ⟨B0,1,none⟩=some (.int .u64 (b:Nat))∧A.cell? ⟨B1,0,none⟩=some (.int .i64 (D:Nat))∧A.cell? ⟨1,D,none⟩=some (.int .i64 (sh D:Nat))):=fun j A h=>by
  have r:=hR _ _ h
  exact hide ⟨by simp[World.cell?,r.sp],by simp[World.cell?,r.sp],by simp[World.cell?,r.dp],r.tab.2 D (by omega)⟩
 have HJ:=hide hJ
 have HY:=hide hY
 have H0:=hide h0
 have lt:∀j:Nat,((f+j) * sz D<b↔j<N):=fun j=>by
  unfold cntR at hN
  have hp:=sz_pos D
  have h1:(f+j) * sz D<b↔f+j≤(b - 1)/sz D:=by
   rw[Nat.le_div_iff_mul_le hp];omega
  have h2:f≤(b - 1)/sz D:=by rw[←hf];exact Nat.div_le_div_right (by omega)
  rw[h1];omega
 have hfb:(f+N) * sz D≤b+2 * 34359738368:=by
  have h1:¬(f+N) * sz D<b:=fun z=>by have:=(lt N).1 z;omega
  have hz:=sz_le D hD
  by_cases c:N=0
  ·subst c
   rw[Nat.add_zero]
   have:f * sz D≤a:=by rw[←hf];exact Nat.div_mul_le_self _ _
   omega
  ·have h2:=(lt (N - 1)).2 (by omega)
   have e:(f+N) * sz D=(f+(N - 1)) * sz D+sz D:=by rw[←Nat.succ_mul];congr 1;omega
   omega
 have LT:=hide lt
 have DL:∀(I:Int) (j:Nat),I=((f+j:Nat):Int)→decide (I *((sz D:Nat):Int)<((b:Nat):Int))=decide (j<N):=fun I j e=>by
  rw[e,←Int.natCast_mul,decide_eq_decide,Int.ofNat_lt];exact lt j
 have HWR:∀(I:Int) (j:Nat),I=((f+j:Nat):Int)→j≤N→IntKind.u64.wrap (I *((sz D:Nat):Int))=I *((sz D:Nat):Int):=fun I j e hj=>by
  have h1:(f+j) * sz D≤(f+N) * sz D:=Nat.mul_le_mul_right _ (by omega)
  rw[e,←Int.natCast_mul,IntKind.wrap_u64]
  generalize (f+j) * sz D=X at *
  omega
 clear hR hJ hY h0 hN lt
 rcases cases_d hD with rfl|rfl|rfl|rfl|rfl|rfl|rfl
 all_goals
  clear hD
  simp only[sh,sz,Int.cast_ofNat_Int] at rd LT hf hfb DL HWR
  refine callsIn_of_wp Tryz.func289 rfl trivial ?_ rfl
  simp only[Tryz.ntmps289,List.size_toArray,List.length_cons,List.length_nil,Nat.reduceAdd,Nat.reduceSub,Array.replicate_succ,Array.replicate_zero,List.push_toArray,List.append_toArray,List.nil_append,List.cons_append]
  obtain ⟨r0',r1',r2',r3'⟩:=(rd 0 _ H0.out).out
  have H1:=hide (HJ.out _ _ _ H0.out (drew_below _))
  gi_wp2_with fail
  refine wpIn_wide.2 (still_all (by kernel_rfl) (by kernel_rfl) ?_)
  repeat still_step
  refine wpStill_nil ?_
  gi_wp2_with fail
  gi_loopw [4] (fun iv wr=>∃(I:Int) (j:Nat),iv= .int .u64 I∧0≤I∧j≤N∧Hid (I=((f+j:Nat):Int))∧Hid (J (List.range j) wr)) (fun iv _=>N+f -(intOf iv).toNat)
  case atStart=>exact ⟨_,0,rfl,by omega,by omega,hide (by omega),H1⟩
  case round=>
   obtain ⟨I,j,rfl,i0,hj,HI,HX⟩:=hrel
   obtain ⟨r0,r1,r2,r3⟩:=(rd j _ HX.out).out
   have HX1:=hide (HJ.out _ _ _ HX.out (drew_below _))
   have i1:I≤70368744177664:=by have:=HI.out;omega
   have dl:=DL I j HI.out
   have hw:=HWR I j HI.out hj
   clear DL HWR rd LT r0' r1' r2' r3'
   by_cases hlt:j<N
   ·rw[decide_eq_true hlt] at dl
    obtain ⟨fn,tmps,assign,body,hy,hRr⟩:=HY.out (List.range j) j _ (range_pre hlt) HX1.out
    simp only[encs1] at hy
    rw[←HI.out] at hy
    have HRR:=hide hRr
    clear hRr HX
    gi_wp2_with fail
    refine wpIn_wide.2 (still_all (by kernel_rfl) (by kernel_rfl) ?_)
    repeat still_step
    refine wpStill_nil ?_
    gi_wp2_with fail
    refine ⟨(fun h=>by cases h),HRR.out.mono ?_⟩
    clear HRR hy
    rintro e' w4 (⟨rfl,j4⟩|⟨rfl,jx4⟩)
    ·have X:=hide j4
     rw[←List.range_succ] at X
     clear j4
     gi_wp2_with fail
     refine ⟨⟨I+1,j+1,rfl,by omega,by omega,hide (by have:=HI.out;omega),X⟩,?_⟩
     have:=HI.out
     simp[intOf];omega
    ·have X:=hide jx4
     clear jx4
     gi_wp2_with fail
     refine bodyPost_ret (results_none rfl _ _ _) rfl ?_
     exact ⟨⟨_,rfl⟩, .inr ⟨_,_,range_pre hlt,X.out⟩⟩
   ·rw[decide_eq_false hlt] at dl
    obtain rfl:j=N:=by omega
    clear HX
    gi_wp2_with fail
    refine wpIn_wide.2 (still_all (by kernel_rfl) (by kernel_rfl) ?_)
    repeat still_step
    refine wpStill_nil ?_
    gi_wp2_with fail
    go_end0
    exact ⟨⟨_,rfl⟩, .inl HX1.out⟩
end Go.Proofs.YtdgdhnnakcncoaaGreatDoor
namespace Go.Proofs.YtdgdhnnakcncoaaGreatDoor
set_option maxHeartbeats 1600000
open Go.ChangeShapes Go.WideShapes Go.ChangeAt Go.RowKit Go.Proofs.Bt Go.Shelf Go.Proofs.Rx Go.Maps
set_option linter.unusedVariables false
set_option linter.unusedSimpArgs false
def NC (A:World) (b:Nat):Prop:=∃o,A.heap[b]? =some o∧((∃r,o= .loop r)∨∃d,o= .deferred d)
theorem NC.loop {A:World} {b:Nat} {r:Loop} (h:A.heap[b]? =some (.loop r)):NC A b:=⟨_,h, .inl ⟨r,rfl⟩⟩
theorem NC.deferred {A:World} {b:Nat} {d:Option (List Deferred)} (h:A.heap[b]? =some (.deferred d)):NC A b:=⟨_,h, .inr ⟨d,rfl⟩⟩
def SeqK (n:Nat) (P:Program) (gf:Nat) (lb:Array Value) (encs:Nat→Array Value) (Rd:World→Prop) (N:Nat):Prop:=
 ∀(l:Nat) (J Jx:Nat→World→Prop) (W:World),(∀s A,J s A→Rd A)→
  (∀s A A',J s A→Kept (fun b=>W.heap.size≤b∧NC A b) A A'→J s A')→
  (∀s A A',Jx s A→Kept (fun b=>W.heap.size≤b∧NC A b) A A'→Jx s A')→
  (∀k W1,k<N→J k W1→W.heap.size≤W1.heap.size→YieldAt Fence.wide (n - 1) P l (encs k) W1 fun e W'=>
   Kept (fun b=>b<W.heap.size) W1 W'∧((e= .returned (.bool true)∧J (k+1) W')∨(e= .returned (.bool false)∧Jx k W')))→
  J 0 W→
  CallsIn Fence.wide n P gf (#[.func (.yield l) #[] #[]]++lb) W fun e W'=>(∃v,e= .returned v)∧(J N W'∨∃k,k<N∧Jx k W')
theorem yieldAt_mono {F:Fence} {m:Nat} {P:Program} {l:Nat} {args:Array Value} {W:World} {R R':Ending→World→Prop} (h:YieldAt F m P l args W R) (hr:∀e w',R e w'→R' e w'):YieldAt F m P l args W R':=by
 obtain ⟨fn,tmps,assign,body,hy,hR⟩:=h
 exact ⟨fn,tmps,assign,body,hy,hR.mono hr⟩
theorem SeqK.of_B {n:Nat} {P:Program} {gf:Nat} {lb:Array Value} {encs:Nat→Array Value} {Rd:World→Prop} {N:Nat} (h:SeqB n P gf lb encs Rd (List.range N)):SeqK n P gf lb encs Rd N:=by
 intro l J Jx W hR hJ hJx hY h0
 refine (h l (fun pre A=>J pre.length A∧W.heap.size≤A.heap.size) (fun pre A=>Jx (pre.length - 1) A) W (fun s A z=>hR _ A z.1) (fun s A A' z k=>⟨hJ _ _ _ z.1 (Kept.of_below k),Nat.le_trans z.2 k.size⟩) (fun pre x W1 hp z=> ?_) ⟨h0,Nat.le_refl _⟩).mono ?_
 ·obtain ⟨e1,e2,e3⟩:=pre_range hp
  subst e2
  refine yieldAt_mono (hY pre.length W1 e3 z.1 z.2) ?_
  rintro e W' ⟨hk,(⟨he,hj⟩|⟨he,hj⟩)⟩
  ·exact .inl ⟨he,by simpa using hj,Nat.le_trans z.2 hk.size⟩
  ·exact .inr ⟨he,by simpa using hj⟩
 ·rintro e W' ⟨hv,(z|⟨pre,x,hp,z⟩)⟩
  ·exact ⟨hv, .inl (by simpa using z.1)⟩
  ·obtain ⟨e1,e2,e3⟩:=pre_range hp
   exact ⟨hv, .inr ⟨pre.length,e3,by simpa using z⟩⟩
def endK (B:Nat) (I:Nat→World→Prop) (Ix:Code→Nat→World→Prop) (k:Nat) (W₁:World):Exit→Act→World→Prop
 | .normal,_,W'=>Kept (fun b=>b<B) W₁ W'∧I (k+1) W'
 | .exit id,_,W'=>Kept (fun b=>b<B) W₁ W'∧Ix (.exit id) k W'
 | .ret,_,W'=>Kept (fun b=>b<B) W₁ W'∧Ix .ret k W'
 |_,_,_=>False
theorem range_K {P:Program} {g:Operand} {ps:Array Tmp} {assign body:Code} {Q:Exit→Act→World→Prop} {a:Act} {w:World} {n:Nat}
 {gf:Nat} {lb:Array Value} (hg:a.eval g= .func (.func gf) #[] lb) (eg:∀args w,(callFunc gf args).run P w= .ok (.enter gf args) w)
 {encs:Nat→Array Value} {Rd:World→Prop} {N:Nat} (hseq:SeqK (n - 1) P gf lb encs Rd N) (hps:∀x,(encs x).size=ps.size)
 (I:Nat→World→Prop) (Ix:Code→Nat→World→Prop)
 (hR:∀s A,I s A→Rd A)
 (hI:∀s A A',I s A→Kept (fun b=>w.heap.size≤b∧NC A b) A A'→I s A')
 (hIx:∀c s A A',Ix c s A→Kept (fun b=>w.heap.size≤b∧NC A b) A A'→Ix c s A') (h0:I 0 w)
 (hround:∀(k:Nat) (W:World),(∃r,W.heap[w.heap.size+1]? =some (.loop r))→W.heap[w.heap.size]? =some (.deferred (some []))→w.heap.size+2≤W.heap.size→I k W→k<N→
  assign.wpIn (Fence.wide.inRound (w.heap.size+1)) (n - 1 - 1) P (Exit.then (fun a₁ W₁=>Kept (fun b=>b<w.heap.size) W W₁∧
   ∀r,body.wpIn (Fence.wide.inRound (w.heap.size+1)) (n - 1 - 1) P (endK w.heap.size I Ix k (W₁.putObj (w.heap.size+1) (.loop r))) a₁ (W₁.putObj (w.heap.size+1) (.loop r))) (fun _ _ _=>False))
   {tmps:=(ps.zip (encs k)).foldl (fun t (p,v)=>t.setIfInBounds p v) a.tmps,defers:=[]} W)
 (hdone:∀(W:World),I N W→W.heap[w.heap.size]? =some (.deferred (some []))→Q .normal {a with defers:={target:= .collected w.heap.size,args:=#[]}::a.defers} W)
 (hstop:∀(c:Code) (k:Nat) (W:World),k<N→Ix c k W→W.heap[w.heap.size]? =some (.deferred (some []))→c.wpIn Fence.wide n P Q {a with defers:={target:= .collected w.heap.size,args:=#[]}::a.defers} W):
 (Code.rangeFunc g ps assign body).wpIn Fence.wide n P Q a w:=by
 refine wpIn_rangeFunc fun fn hfn=> ?_
 generalize hrec:(fun st pe=>({state:=st,pending:=pe,fn,tmps:=a.tmps,params:=ps,assign,body,defers:=w.heap.size}:Loop))=rec
 obtain ⟨W1,hW1⟩:∃W1,(w.alloc (.deferred (some []))).alloc (.loop (rec .ready none))=W1:=⟨_,rfl⟩
 have s1:W1.heap.size=w.heap.size+2:=by rw[←hW1];simp
 have hb1:Below w.heap.size w W1:=by rw[←hW1];exact ((Below.refl _ w).alloc (Nat.le_refl _) _).alloc (by simp) _
 have hl1:W1.heap[w.heap.size+1]? =some (.loop (rec .ready none)):=by
  have:=World.alloc_heap_new (w.alloc (.deferred (some []))) (.loop (rec .ready none))
  rw[World.size_alloc,hW1] at this;exact this
 have hd1:W1.heap[w.heap.size]? =some (.deferred (some [])):=by
  rw[←hW1];exact (Below.heap_alloc _ _ _ (by simp)).trans (World.alloc_heap_new w _)
 refine ⟨w.heap.size+1,[{target:= .collected w.heap.size,args:=#[]}],W1,{target:= .fn (.func gf) lb,args:=#[.func (.yield (w.heap.size+1)) #[] #[]]},W1,gf,#[.func (.yield (w.heap.size+1)) #[] #[]]++lb,W1,?_,?_,fun _ _=>trivial,?_,(fun h=>by cases h),?_⟩
 ·rw[←hW1,←hrec];exact run_enterLoop_outer _ _ _ _ _
 ·simp only[resolve,hg];simp[go_sem]
 ·simp[invoke,go_sem,eg]
 have own:∀{A A':World},Kept (fun b=>W1.heap.size≤b∧NC A b) A A'→(∀k,k<w.heap.size+2→∀o,A.heap[k]? =some o→A'.heap[k]? =some o):=fun {A A'} hk k hk2 o ho=>kept_at hk ho (fun z=>by have:=z.1;omega)
 refine (hseq (w.heap.size+1)
  (fun k W=>I k W∧W.heap[w.heap.size+1]? =some (.loop (rec .ready none))∧W.heap[w.heap.size]? =some (.deferred (some [])))
  (fun k W=>∃c,Ix c k W∧W.heap[w.heap.size+1]? =some (.loop (rec .done (some c)))∧W.heap[w.heap.size]? =some (.deferred (some [])))
  W1 (fun s A h=>hR s A h.1) ?_ ?_ ?_ ⟨hI _ _ _ h0 (Kept.of_below hb1),hl1,hd1⟩).mono ?_
 ·
  rintro s A A' ⟨hi,hl,hd⟩ hk
  exact ⟨hI _ _ _ hi (hk.mono fun b hb=>⟨by have:=hb.1;omega,hb.2⟩),own hk _ (by omega) _ hl,own hk _ (by omega) _ hd⟩
 ·rintro s A A' ⟨c,hi,hl,hd⟩ hk
  exact ⟨c,hIx _ _ _ _ hi (hk.mono fun b hb=>⟨by have:=hb.1;omega,hb.2⟩),own hk _ (by omega) _ hl,own hk _ (by omega) _ hd⟩
 ·
  rintro k W hlen ⟨hi,hl,hd⟩ hsz
  have hlt:w.heap.size+1<W.heap.size:=(Array.getElem?_eq_some_iff.1 hl).1
  have hy:=run_yield (P:=P) (args:=encs k) hl (by rw[←hrec];exact hps k)
  rw[←hrec] at hy
  refine ⟨fn,_,assign,body,hy,roundIn_of_wpIn hfn (wpIn_mono (hround k W ⟨_,hl⟩ hd (by omega) hi hlen) ?_)⟩
  rintro e a₁ W₁ hp
  cases e with
  |normal=>
   obtain ⟨hk,hb⟩:=hp
   have hl':=kept_at hk hl (by omega)
   have hd':=kept_at hk hd (by omega)
   have hlt1:=(Array.getElem?_eq_some_iff.1 hl').1
   refine ⟨_,run_beginRound hl' (by rw[←hrec]),wpIn_mono (hb _) ?_⟩
   rintro e a₂ W₂ hq
   cases e with
   |normal=>
    obtain ⟨q1,q3⟩:=hq
    have hl2:=kept_at q1 (World.putObj_heap_same hlt1) (by omega)
    have hlt2:=(Array.getElem?_eq_some_iff.1 hl2).1
    have hd2:=kept_at q1 ((World.putObj_heap_other (by omega)).trans hd') (by omega)
    have kk:=((hk.mono (G:=fun b=>b<W1.heap.size) (fun b hb=>by omega)).trans (Kept.put (F:=fun b=>b<W1.heap.size) W₁ (w.heap.size+1) _ (by omega)) (fun _ _ z=>z)).trans (q1.mono (G:=fun b=>b<W1.heap.size) (fun b hb=>by omega)) (fun _ _ z=>z)
    refine ⟨_,_,run_endRound none hl2,⟨kk.trans (Kept.put (F:=fun b=>b<W1.heap.size) W₂ (w.heap.size+1) _ (by omega)) (fun _ _ z=>z), .inl ⟨rfl,⟨hI _ _ _ q3 (Kept.put _ _ _ ⟨by omega,NC.loop hl2⟩),?_,?_⟩⟩⟩⟩
    ·rw[World.putObj_heap_same hlt2,←hrec];rfl
    ·exact (World.putObj_heap_other (by omega)).trans hd2
   |exit id=>
    obtain ⟨q1,q3⟩:=hq
    have hl2:=kept_at q1 (World.putObj_heap_same hlt1) (by omega)
    have hlt2:=(Array.getElem?_eq_some_iff.1 hl2).1
    have hd2:=kept_at q1 ((World.putObj_heap_other (by omega)).trans hd') (by omega)
    have kk:=((hk.mono (G:=fun b=>b<W1.heap.size) (fun b hb=>by omega)).trans (Kept.put (F:=fun b=>b<W1.heap.size) W₁ (w.heap.size+1) _ (by omega)) (fun _ _ z=>z)).trans (q1.mono (G:=fun b=>b<W1.heap.size) (fun b hb=>by omega)) (fun _ _ z=>z)
    refine ⟨_,_,run_endRound (some (.exit id)) hl2,⟨kk.trans (Kept.put (F:=fun b=>b<W1.heap.size) W₂ (w.heap.size+1) _ (by omega)) (fun _ _ z=>z), .inr ⟨rfl, .exit id,hIx _ _ _ _ q3 (Kept.put _ _ _ ⟨by omega,NC.loop hl2⟩),?_,?_⟩⟩⟩
    ·rw[World.putObj_heap_same hlt2,←hrec];rfl
    ·exact (World.putObj_heap_other (by omega)).trans hd2
   |ret=>
    obtain ⟨q1,q3⟩:=hq
    have hl2:=kept_at q1 (World.putObj_heap_same hlt1) (by omega)
    have hlt2:=(Array.getElem?_eq_some_iff.1 hl2).1
    have hd2:=kept_at q1 ((World.putObj_heap_other (by omega)).trans hd') (by omega)
    have kk:=((hk.mono (G:=fun b=>b<W1.heap.size) (fun b hb=>by omega)).trans (Kept.put (F:=fun b=>b<W1.heap.size) W₁ (w.heap.size+1) _ (by omega)) (fun _ _ z=>z)).trans (q1.mono (G:=fun b=>b<W1.heap.size) (fun b hb=>by omega)) (fun _ _ z=>z)
    refine ⟨_,_,run_endRound (some .ret) hl2,⟨kk.trans (Kept.put (F:=fun b=>b<W1.heap.size) W₂ (w.heap.size+1) _ (by omega)) (fun _ _ z=>z), .inr ⟨rfl, .ret,hIx _ _ _ _ q3 (Kept.put _ _ _ ⟨by omega,NC.loop hl2⟩),?_,?_⟩⟩⟩
    ·rw[World.putObj_heap_same hlt2,←hrec];rfl
    ·exact (World.putObj_heap_other (by omega)).trans hd2
   |goto t=>exact hq.elim
   |panic ch=>exact hq.elim
   |outgrown=>exact hq.elim
  |ret=>exact hp.elim
  |exit id=>exact hp.elim
  |goto t=>exact hp.elim
  |panic ch=>exact hp.elim
  |outgrown=>exact hp.elim
 ·
  rintro e W2 ⟨⟨v,rfl⟩,(⟨hi,hl,hd⟩|⟨k,hSp,c,hi,hl,hd⟩)⟩
  ·have he:=run_endLoop (P:=P) hl (by rw[←hrec];simp)
   refine ⟨none,_,by rw[←hrec] at he;exact he,hdone _ (hI _ _ _ hi (Kept.put _ _ _ ⟨by omega,NC.loop hl⟩)) ((World.putObj_heap_other (by omega)).trans hd)⟩
  ·have he:=run_endLoop (P:=P) hl (by rw[←hrec];simp)
   refine ⟨some c,_,by rw[←hrec] at he;exact he,hstop c k _ hSp (hIx _ _ _ _ hi (Kept.put _ _ _ ⟨by omega,NC.loop hl⟩)) ((World.putObj_heap_other (by omega)).trans hd)⟩
end Go.Proofs.YtdgdhnnakcncoaaGreatDoor
