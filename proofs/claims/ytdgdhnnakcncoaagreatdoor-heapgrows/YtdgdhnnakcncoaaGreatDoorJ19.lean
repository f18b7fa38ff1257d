/- Of the proof of HeapClasses: texts RXv. -/
import Derived.Test.YtdgdhnnakcncoaaGreatDoorJ18
namespace Go.Proofs.YtdgdhnnakcncoaaGreatDoor
set_option maxHeartbeats 1600000
open Go.ChangeShapes Go.WideShapes Go.ChangeAt Go.RowKit Go.Proofs.Bt Go.Shelf Go.Proofs.Rx Go.Maps Go.Proofs.Pk
set_option linter.unusedVariables false
set_option linter.unusedSimpArgs false
attribute [local go_sem] Oper.semAt_some
set_option maxRecDepth 100000 in
set_option maxHeartbeats 4000000 in
theorem setIn_core (T:Tid) (n d:Nat) (hnd:n+d=6) (IH:d<6→SetOk T (n - 1) (d+1)):SetOk T n d:=by
 intro w L C st h h4 i r a b s hG hi hab hb h1 h2 hs hm
 have hd:d≤6:=by omega
 obtain ⟨A,hA⟩:∃A:Nat,i * sz d=A:=⟨_,rfl⟩
 obtain ⟨B,hB⟩:∃B:Nat,(i+1) * sz d=B:=⟨_,rfl⟩
 rw[hA] at h2 hm
 rw[hB] at h1 hm
 rw[hA,hB]
 have hz:=sz_pos d
 have hzl:=sz_le d hd
 have hBA:B=A+sz d:=by rw[←hB,←hA,Nat.succ_mul]
 have i1:i<34359738368:=by
  have:i+1≤(i+1) * sz d:=Nat.le_mul_of_pos_right _ hz
  omega
 obtain ⟨a',ha'⟩:∃a':Nat,max a A=a':=⟨_,rfl⟩
 obtain ⟨b',hb'⟩:∃b':Nat,min b B=b':=⟨_,rfl⟩
 rw[ha',hb'] at hm ⊢
 obtain ⟨st1,hst1⟩:∃st1,setSt st a' b' s=st1:=⟨_,rfl⟩
 rw[hst1]
 obtain ⟨R,hR⟩:∃R,R=SetP T L C st1 n d i w:=⟨_,rfl⟩
 rw[←hR]
 obtain ⟨N,hN⟩:∃N,w.heap.size=N:=⟨_,rfl⟩
 obtain ⟨W5,hW5⟩:∃W5,W5=((((((w.alloc (.cells #[tp T] 114)).alloc (.cells #[.int .i64 (d:Nat)] 3)).alloc (.cells #[.int .u64 (r.t.p:Nat), .int .u64 (r.t.f:Nat), .int .u64 (r.t.r:Nat), .int .i64 (r.s:Nat), .int .i64 (r.m:Nat), .int .i64 (r.e:Nat), .int .i64 (r.rest:Nat)] 221)).alloc (.cells #[.int .u64 (a:Nat), .int .u64 (b:Nat)] 282)).alloc (.cells #[.int .i64 (s:Nat)] 219)).alloc (.cells #[.int .u64 0, .int .u64 0, .int .u64 0, .int .i64 0, .int .i64 0, .int .i64 0, .int .i64 0] 221)):=⟨_,rfl⟩
 have bW5:Below N w W5:=by rw[hW5,←hN];exact ((((((Below.refl _ w).alloc (Nat.le_refl _) _).alloc (by simp) _).alloc (by simp;omega) _).alloc (by simp;omega) _).alloc (by simp;omega) _).alloc (by simp;omega) _
 have K5:=hide (show SI N W5 T d r (a:Nat) (b:Nat) s from by rw[hW5];exact SI.new w T d r _ _ s N hN)
 have R0:=hide h
 have R5:=hide (h.below (by rw[hN];exact bW5))
 have B5:=hide bW5
 have CN:=fun X hX=>hide (in_any d hd (i:Int) (a:Int) (b:Int) (A:Int) (B:Int) (by omega) (by omega) (by rw[←hA,Int.natCast_mul]) (by rw[←hB,Int.natCast_mul];rfl) (by omega) X hX)
 rw[show max (a:Int) (A:Int)=(a':Int) by omega,show min (b:Int) (B:Int)=(b':Int) by omega] at CN
 have CP:=fun X=>hide (pages_any (a':Int) (b':Int) (by omega) (by omega) (by omega) X)
 have CS:=fun X hX=>hide (size_any d hd X hX)
 have HA:=hide hA
 have HB:=hide hB
 have HW5:=hide hW5
 have HN:=hide hN
 have HR:=hide hR
 have HG:=hide hG
 have HBA:=hide hBA
 have HM:=hide hm
 have H4:=hide h4
 have HS1:=hide hst1
 have FS:=hide (show Four st1 from by rw[←hst1];exact setSt_four h4 hs.2)
 have c3:=K5.out.sp.cell 0 _ rfl
 have c3':=K5.out.sp.cell 1 _ rfl
 have c1:=K5.out.dp.cell 0 _ rfl
 have ab1:A≤a':=by omega
 have ab2:a'<b':=by omega
 have ab3:b'≤B:=by omega
 have ab4:b'≤34359738368:=by omega
 clear h hN hW5 bW5 hA hB hR hG hBA ha' hb' h1 h2 hm h4 hst1
 unfold spanV at CN CP
 unfold rwV spanV tp
 unfold tp at HW5
 refine (callsIn_wide (n:=3)).1 ?_
 refine callsIn_of_wp_marks Tryz.func201 rfl trivial ?_ rfl
 simp only[Tryz.ntmps201,List.size_toArray,List.length_cons,List.length_nil,Nat.reduceAdd,Nat.reduceSub,Array.replicate_succ,Array.replicate_zero,List.push_toArray,List.append_toArray,List.nil_append,List.cons_append]
 gi_wp2_with fail
 simp only[Nat.add_assoc,Nat.reduceAdd]
 rw[←HW5.out,HN.out]
 refine wcall2 (CN _ R5.out.tab).out ?_
 rintro e w6 ⟨rfl,b6⟩
 obtain ⟨V,hV⟩:∃V,(w6.setCell ⟨N+3,0,none⟩ (.int .u64 (a':Nat))).setCell ⟨N+3,1,none⟩ (.int .u64 (b':Nat))=V:=⟨_,rfl⟩
 have si6:=K5.out.below b6
 have x3:=si6.sp.cell 0 _ rfl
 have x3':=si6.sp.cell 1 _ rfl
 have z3:=si6.sp.fz 0
 have z3':=si6.sp.fz 1
 have k1:Kept (fun x=>x=N+3) w6 V:=by
  rw[←hV]
  exact (kept_set (F:=fun x=>x=N+3) w6 (N+3) 0 (.int .u64 (a':Nat)) rfl).trans (kept_set (F:=fun x=>x=N+3) (w6.setCell ⟨N+3,0,none⟩ (.int .u64 (a':Nat))) (N+3) 1 (.int .u64 (b':Nat)) rfl) (fun _ _ z=>z)
 have RV:=hide (R0.out.new (R5.out.below b6) k1 (fun x hx=>by rw[HN.out];omega))
 have SV:=hide (show SI N V T d r (a':Nat) (b':Nat) s from by rw[←hV];exact si6.setP _ _)
 have KV:=hide (show Kept (Wr T C) w V from (Kept.of_below (F:=Wr T C) (show Below w.heap.size w w6 from by
  have:=B5.out
  rw[←HN.out] at this
  exact this.trans (b6.mono this.size))).trans k1 (fun x hx hz=>by rw[HN.out] at hx;omega))
 clear b6 CN c1 c3 c3' si6 K5 R5 HW5 B5 k1
 gi_wp2_with fail
 try rw[hV]
 have y1:=SV.out.dp.cell 0 _ rfl
 have y2:=SV.out.sp.cell 0 _ rfl
 have y3:=SV.out.sp.cell 1 _ rfl
 have l1:=SV.out.dp.lt
 have l2:=SV.out.sp.lt
 have hx:= @ext_cell V
 have hne:=ext_ne V
 have HTB:=hide RV.out.tab
 clear hV x3 x3' z3 z3' W5
 by_cases c1:b' - a'=sz d
 ·have e1:((b':Int) -(a':Int)==((sz d:Nat):Int))=true:=beq_iff_eq.2 (by omega)
  refine all_w (by kernel_rfl) (by kernel_rfl) ?_
  repeat (first|go_big_quiet_step (first|exact calm_of (CP _).out|exact calm_same (CS _ (HTB.out.below (Ext.h _))).out)|(refine wpQuiet_step (fun K hK=> ?_);go_simp;refine hK _ ?_;clear hK K))
  refine wpQuiet_nil ?_
  rintro _ ⟨n2,rfl⟩
  have S2:=hide (SV.out.below n2.h)
  have R2:=hide (RV.out.below n2.h)
  have K2:=hide (KV.out.trans (Kept.of_below (F:=fun _=>False) n2.h) (fun _ _ z=>z.elim))
  generalize n2.v=V2 at *
  clear n2 y1 y2 y3 l1 l2 hx hne HTB e1 SV RV KV IH CP
  have CE:=fun Z hZ=>hide (even_any d s hd hs.2 Z hZ)
  obtain ⟨r1,hr1⟩:∃r1,Rx.even d s=r1:=⟨_,rfl⟩
  rw[hr1] at CE
  have y1:=S2.out.dp.cell 0 _ rfl
  have y4:=S2.out.sv.cell 0 _ rfl
  unfold rwV at CE
  gi_wp2_with fail
  refine wcall2 (CE _ R2.out.tab).out ?_
  rintro e w7 ⟨rfl,b7⟩
  have S7:=hide (S2.out.below b7)
  have R7:=hide (R2.out.below b7)
  have K7:=hide (K2.out.trans (Kept.of_below (F:=fun _=>False) b7) (fun _ _ z=>z.elim))
  have v0:=S7.out.rw.cell 0 _ rfl
  have v1:=S7.out.rw.cell 1 _ rfl
  have v2:=S7.out.rw.cell 2 _ rfl
  have v3:=S7.out.rw.cell 3 _ rfl
  have v4:=S7.out.rw.cell 4 _ rfl
  have v5:=S7.out.rw.cell 5 _ rfl
  have v6:=S7.out.rw.cell 6 _ rfl
  obtain ⟨f0,f1,f2,f3,f4,f5,f6⟩:=frozen7 S7.out.rw.fz
  have l7:=S7.out.rw.lt
  obtain ⟨X,hX⟩:∃X,((((((w7.setCell ⟨N+2,0,none⟩ (.int .u64 (r1.t.p:Nat))).setCell ⟨N+2,1,none⟩ (.int .u64 (r1.t.f:Nat))).setCell ⟨N+2,2,none⟩ (.int .u64 (r1.t.r:Nat))).setCell ⟨N+2,3,none⟩ (.int .i64 (r1.s:Nat))).setCell ⟨N+2,4,none⟩ (.int .i64 (r1.m:Nat))).setCell ⟨N+2,5,none⟩ (.int .i64 (r1.e:Nat))).setCell ⟨N+2,6,none⟩ (.int .i64 (r1.rest:Nat))=X:=⟨_,rfl⟩
  have MM:=hide (show SM N w X T L C st1 n d i r1 (a':Nat) (b':Nat) s from by
   have kf:=kset7 w7 (N+2) (.int .u64 (r1.t.p:Nat)) (.int .u64 (r1.t.f:Nat)) (.int .u64 (r1.t.r:Nat)) (.int .i64 (r1.s:Nat)) (.int .i64 (r1.m:Nat)) (.int .i64 (r1.e:Nat)) (.int .i64 (r1.rest:Nat))
   have fin:=((((((S7.out.rw.set 0 (.int .u64 (r1.t.p:Nat))).set 1 (.int .u64 (r1.t.f:Nat))).set 2 (.int .u64 (r1.t.r:Nat))).set 3 (.int .i64 (r1.s:Nat))).set 4 (.int .i64 (r1.m:Nat))).set 5 (.int .i64 (r1.e:Nat))).set 6 (.int .i64 (r1.rest:Nat))
   rw[hX] at kf fin
   refine ⟨⟨S7.out.tr.kept kf (by omega),S7.out.dp.kept kf (by omega),fin,S7.out.sp.kept kf (by omega),S7.out.sv.kept kf (by omega),S7.out.rs.kept kf (by omega)⟩,⟨L,C,rad_own R0.out HN.out R7.out (NewC.refl _ _) kf (fun x hx=>by omega),?_,HG.out.hang hnd,fun z=> ?_,Outs.refl _ _ _ _ _,NewC.refl _ _⟩,K7.out.trans kf (fun x hx hz=>by rw[HN.out] at hx;omega)⟩
   ·rw[←hr1,HA.out]
    have al1:All st1 A (sz d) s:=fun q q1 q2=>by rw[←HS1.out];exact setSt_in (by have:=HBA.out;omega)
    exact al1.tl.symm
   ·rw[←hr1,al_even hs.2] at z;cases z)
  clear y1 y4 CE b7 hr1 S2 R2 K2
  gi_wp2_with fail
  try rw[hX]
  clear hX v0 v1 v2 v3 v4 v5 v6 f0 f1 f2 f3 f4 f5 f6 l7 S7 R7 K7
  have si:=MM.out.si
  have y1:=si.dp.cell 0 _ rfl
  have t0:=si.rw.cell 0 _ rfl
  have t1:=si.rw.cell 1 _ rfl
  have t2:=si.rw.cell 2 _ rfl
  have l1:=si.dp.lt
  have l2:=si.rw.lt
  have hx:= @ext_cell X
  have hne:=ext_ne X
  have HTB:=hide (show TabW X from by obtain ⟨_,_,h1,_⟩:=MM.out.ex;exact h1.tab)
  have CA:=fun Y=>hide (alike_any r1.t (sz d) Y)
  obtain ⟨o,ho⟩:∃o,al r1.t (sz d)=o:=⟨_,rfl⟩
  rw[ho] at CA
  unfold tlV at CA
  clear si
  gi_wp2_with fail
  refine all_w (by kernel_rfl) (by kernel_rfl) ?_
  repeat (first|go_big_quiet_step (first|exact calm_of (CA _).out|exact calm_same (CS _ (HTB.out.below (Ext.h _))).out)|(refine wpQuiet_step (fun K hK=> ?_);go_simp;refine hK _ ?_;clear hK K))
  refine wpQuiet_nil ?_
  rintro _ ⟨n2,rfl⟩
  have M2:=hide (MM.out.below n2.h)
  generalize n2.v=Y at *
  clear n2 y1 t0 t1 t2 l1 l2 hx hne HTB MM CA
  obtain ⟨L1,C1,ra,e1,hg1,gd1,o1,nc1⟩:=M2.out.ex
  have RA:=hide ra
  have GD:=hide gd1
  have HG1:=hide hg1
  have O1:=hide o1
  have NC1:=hide nc1
  have E1:=hide e1
  have HO:=hide ho
  clear ra gd1 hg1 o1 nc1 e1 ho
  cases o with
  |none=>
   simp only[Option.getD_none,Option.isSome_none]
   have si:=M2.out.si
   have t0:=si.rw.cell 0 _ rfl
   have t1:=si.rw.cell 1 _ rfl
   have t2:=si.rw.cell 2 _ rfl
   have t3:=si.rw.cell 3 _ rfl
   have t4:=si.rw.cell 4 _ rfl
   have t5:=si.rw.cell 5 _ rfl
   have t6:=si.rw.cell 6 _ rfl
   have x0:=si.rs.cell 0 _ rfl
   have x1:=si.rs.cell 1 _ rfl
   have x2:=si.rs.cell 2 _ rfl
   have x3:=si.rs.cell 3 _ rfl
   have x4:=si.rs.cell 4 _ rfl
   have x5:=si.rs.cell 5 _ rfl
   have x6:=si.rs.cell 6 _ rfl
   obtain ⟨z0,z1,z2,z3,z4,z5,z6⟩:=frozen7 si.rs.fz
   have l2:=si.rw.lt
   have l5:=si.rs.lt
   have SIY:=hide si
   have RX:=hide RA.out
   have OUTX:=hide O1.out
   have NCX:=hide NC1.out
   have KWX:=hide M2.out.kw
   clear si
   gi_wp2_with fail
   have fin:=(((((((SIY.out.rs.set 0 (.int .u64 (r1.t.p:Nat))).set 1 (.int .u64 (r1.t.f:Nat))).set 2 (.int .u64 (r1.t.r:Nat))).set 3 (.int .i64 (r1.s:Nat))).set 4 (.int .i64 (r1.m:Nat))).set 5 (.int .i64 (r1.e:Nat))).set 6 (.int .i64 (r1.rest:Nat)))
   have kf:=kset7 Y (N+5) (.int .u64 (r1.t.p:Nat)) (.int .u64 (r1.t.f:Nat)) (.int .u64 (r1.t.r:Nat)) (.int .i64 (r1.s:Nat)) (.int .i64 (r1.m:Nat)) (.int .i64 (r1.e:Nat)) (.int .i64 (r1.rest:Nat))
   refine ⟨rwV r1,results_c Tryz.results201 _ _ ⟨N+5,0,none⟩ _ rfl (row7 fin),?_⟩
   rw[HR.out]
   exact ⟨r1,_,_,rfl,rad_own R0.out HN.out RX.out (NCX.out.mono (by omega)) kf (fun x hx=>by omega),GD.out HO.out,OUTX.out,NCX.out.mono (by rw[HN.out];omega),KWX.out.trans kf (fun x hx hz=>by rw[HN.out] at hx;omega)⟩
  |some s'=>
   simp only[Option.getD_some,Option.isSome_some]
   have s3:=(al_some HO.out).1
   have CF:=hide (forget_any T n d hnd Y L1 C1 RA.out i HG1.out hi)
   have AL:=hide (show All st1 (i * sz d) (sz d) s' from all_of_tl FS.out s3 (by rw[←E1.out];exact (al_some HO.out).2))
   have CE:=fun Z hZ=>hide (even_any d s' hd s3 Z hZ)
   obtain ⟨r2,hr2⟩:∃r2,Rx.even d s'=r2:=⟨_,rfl⟩
   rw[hr2] at CE
   have HR2:=hide hr2
   have y0:=M2.out.si.tr.cell 0 _ rfl
   have y1:=M2.out.si.dp.cell 0 _ rfl
   unfold rwV at CE
   unfold tp at CF y0
   clear hr2
   gi_wp2_with fail
   refine wcall2 CF.out ?_
   rintro e w5 ⟨rfl,⟨L2,C2,r5,b2,o2,sub2⟩,k5⟩
   have SI5:=hide (M2.out.si.kept k5 (fun x hx=>by
    rcases NC1.out.wr hx with z|z
    ·have:=R0.out.lt (.inl z);rw[HN.out] at this;exact .inl this
    ·exact .inr (by omega)))
   have NC2:=hide (show NewC (N+6) C C2 from fun j b c hc=>NC1.out j b c (sub2 j _ hc))
   have KW5:=hide (M2.out.kw.trans k5 (fun x hx hz=>(NC1.out.wr hz).resolve_right (by rw[HN.out] at hx;omega)))
   have OUTX:=hide (O1.out.trans o2)
   have BA:=hide b2
   have R5:=hide r5
   have y1:=SI5.out.dp.cell 0 _ rfl
   clear r5 b2 o2 sub2 k5 CF
   gi_wp2_with fail
   refine wcall2 (CE _ R5.out.tab).out ?_
   rintro e w6 ⟨rfl,b6⟩
   have SI6:=hide (SI5.out.below b6)
   have RX:=hide (R5.out.below b6)
   have NCX:=hide NC2.out
   have KWX:=hide (KW5.out.trans (Kept.of_below (F:=fun _=>False) b6) (fun _ _ z=>z.elim))
   have si:=SI6.out
   have x0:=si.rs.cell 0 _ rfl
   have x1:=si.rs.cell 1 _ rfl
   have x2:=si.rs.cell 2 _ rfl
   have x3:=si.rs.cell 3 _ rfl
   have x4:=si.rs.cell 4 _ rfl
   have x5:=si.rs.cell 5 _ rfl
   have x6:=si.rs.cell 6 _ rfl
   obtain ⟨z0,z1,z2,z3,z4,z5,z6⟩:=frozen7 si.rs.fz
   have l5:=si.rs.lt
   clear si b6 CE
   gi_wp2_with fail
   have fin:=(((((((SI6.out.rs.set 0 (.int .u64 (r2.t.p:Nat))).set 1 (.int .u64 (r2.t.f:Nat))).set 2 (.int .u64 (r2.t.r:Nat))).set 3 (.int .i64 (r2.s:Nat))).set 4 (.int .i64 (r2.m:Nat))).set 5 (.int .i64 (r2.e:Nat))).set 6 (.int .i64 (r2.rest:Nat)))
   have kf:=kset7 w6 (N+5) (.int .u64 (r2.t.p:Nat)) (.int .u64 (r2.t.f:Nat)) (.int .u64 (r2.t.r:Nat)) (.int .i64 (r2.s:Nat)) (.int .i64 (r2.m:Nat)) (.int .i64 (r2.e:Nat)) (.int .i64 (r2.rest:Nat))
   refine ⟨rwV r2,results_c Tryz.results201 _ _ ⟨N+5,0,none⟩ _ rfl (row7 fin),?_⟩
   rw[HR.out]
   exact ⟨r2,_,_,rfl,rad_own R0.out HN.out RX.out (NCX.out.mono (by omega)) kf (fun x hx=>by omega),by rw[←HR2.out];exact Rx.Good.of_even s3 hnd AL.out BA.out,OUTX.out,NCX.out.mono (by rw[HN.out];omega),KWX.out.trans kf (fun x hx hz=>by rw[HN.out] at hx;omega)⟩
 ·have e1:((b':Int) -(a':Int)==((sz d:Nat):Int))=false:=beq_eq_false_iff_ne.2 (by omega)
  refine all_w (by kernel_rfl) (by kernel_rfl) ?_
  repeat (first|go_big_quiet_step (first|exact calm_of (CP _).out|exact calm_same (CS _ (HTB.out.below (Ext.h _))).out)|(refine wpQuiet_step (fun K hK=> ?_);go_simp;refine hK _ ?_;clear hK K))
  refine wpQuiet_nil ?_
  rintro _ ⟨n2,rfl⟩
  have S2:=hide (SV.out.below n2.h)
  have R2:=hide (RV.out.below n2.h)
  have K2:=hide (KV.out.trans (Kept.of_below (F:=fun _=>False) n2.h) (fun _ _ z=>z.elim))
  generalize n2.v=V2 at *
  clear n2 y1 y2 y3 l1 l2 hx hne HTB e1 SV RV KV CP
  have y0:=S2.out.tr.cell 0 _ rfl
  have y1:=S2.out.dp.cell 0 _ rfl
  have y2:=S2.out.sp.cell 0 _ rfl
  have y3:=S2.out.sp.cell 1 _ rfl
  have y4:=S2.out.sv.cell 0 _ rfl
  have y5:=S2.out.rw.cell 6 _ rfl
  unfold tp at y0
  by_cases d6:d=6
  ·subst d6
   obtain rfl:n=0:=by omega
   have e6:sz 6=512:=rfl
   have CK:=hide (setInChunk_any R2.out H4.out HG.out (by rw[e6] at hi;omega) a' b' s (by have:=HA.out;rw[e6] at this;omega) ab2 (by have:=HB.out;rw[e6] at this;omega) hs (by
    rcases HM.out with z|z|⟨z,z'⟩
    ·exact .inl z
    ·exact .inr z
    ·exfalso
     have h5:=HA.out
     have h6:=HBA.out
     rw[e6] at h5 h6 c1
     obtain ⟨x,hx⟩:=z
     obtain ⟨x',hx'⟩:=z'
     omega))
   rw[HS1.out] at CK
   unfold tp spanV at CK
   simp only[Int.cast_ofNat_Int] at y1 ⊢
   clear IH
   gi_wp2_with fail
   refine wcall2 CK.out ?_
   rintro e w7 ⟨r1,blk,c',rfl,rad,hcs,hbk,ht,hsu,hrest,k7⟩
   have fl:∀x,(x=T.cm∨∃c,C i=some (x,c))→x<N:=fun x hx=>by
    rw[←HN.out]
    rcases hx with z|⟨c,z⟩
    ·exact R0.out.lt (.inl (.inl z))
    ·exact R0.out.lt (.inl (.inr (.inr ⟨i,x,c,z,rfl⟩)))
   have S7:=hide (S2.out.kept k7 (fun x hx=> .inl (fl x hx)))
   have K7:=hide (K2.out.trans k7 (fun x hx hz=>by
    rcases hz with z|⟨c,z⟩
    ·exact .inl z
    ·exact .inr (.inr ⟨i,x,c,z,rfl⟩)))
   have NC7:NewC (N+6) C (putC C i (blk,c')):=fun j b c hc=>by
    by_cases z:j=i
    ·subst z
     rw[putC_same] at hc
     cases hc
     rcases hbk with z|z
     ·exact .inl z
     ·have:=S2.out.rs.lt;exact .inr (by omega)
    ·rw[putC_other z] at hc
     exact .inl ⟨c,hc⟩
   have v0:=S7.out.rw.cell 0 _ rfl
   have v1:=S7.out.rw.cell 1 _ rfl
   have v2:=S7.out.rw.cell 2 _ rfl
   have v3:=S7.out.rw.cell 3 _ rfl
   have v4:=S7.out.rw.cell 4 _ rfl
   have v5:=S7.out.rw.cell 5 _ rfl
   have v6:=S7.out.rw.cell 6 _ rfl
   obtain ⟨f0,f1,f2,f3,f4,f5,f6⟩:=frozen7 S7.out.rw.fz
   have l7:=S7.out.rw.lt
   obtain ⟨X,hX⟩:∃X,((((((w7.setCell ⟨N+2,0,none⟩ (.int .u64 (r1.t.p:Nat))).setCell ⟨N+2,1,none⟩ (.int .u64 (r1.t.f:Nat))).setCell ⟨N+2,2,none⟩ (.int .u64 (r1.t.r:Nat))).setCell ⟨N+2,3,none⟩ (.int .i64 (r1.s:Nat))).setCell ⟨N+2,4,none⟩ (.int .i64 (r1.m:Nat))).setCell ⟨N+2,5,none⟩ (.int .i64 (r1.e:Nat))).setCell ⟨N+2,6,none⟩ (.int .i64 (r1.rest:Nat))=X:=⟨_,rfl⟩
   have MM:=hide (show SM N w X T L C st1 0 6 i r1 (a':Nat) (b':Nat) s from by
    have kf:=kset7 w7 (N+2) (.int .u64 (r1.t.p:Nat)) (.int .u64 (r1.t.f:Nat)) (.int .u64 (r1.t.r:Nat)) (.int .i64 (r1.s:Nat)) (.int .i64 (r1.m:Nat)) (.int .i64 (r1.e:Nat)) (.int .i64 (r1.rest:Nat))
    have fin:=((((((S7.out.rw.set 0 (.int .u64 (r1.t.p:Nat))).set 1 (.int .u64 (r1.t.f:Nat))).set 2 (.int .u64 (r1.t.r:Nat))).set 3 (.int .i64 (r1.s:Nat))).set 4 (.int .i64 (r1.m:Nat))).set 5 (.int .i64 (r1.e:Nat))).set 6 (.int .i64 (r1.rest:Nat))
    rw[hX] at kf fin
    have et:r1.t=tl st1 (i * sz 6) (sz 6):=by rw[e6,Nat.mul_comm];exact ht
    refine ⟨⟨S7.out.tr.kept kf (by omega),S7.out.dp.kept kf (by omega),fin,S7.out.sp.kept kf (by omega),S7.out.sv.kept kf (by omega),S7.out.rs.kept kf (by omega)⟩,⟨L,_,rad_own R0.out HN.out rad NC7 kf (fun x hx=>by omega),et,trivial,fun z=>⟨⟨et,fun _=>by rw[e6,Nat.mul_comm];exact hsu,by omega⟩,fun s' z'=>(by rw[z] at z';cases z'),fun _=>⟨blk,c',putC_same _ _ _,hcs⟩⟩,⟨fun _ _ _=>rfl,fun j hj=>putC_other (fun z=>hj (by rw[z];exact ⟨Nat.le_refl _,Nat.le_refl _⟩))⟩,NC7⟩,K7.out.trans kf (fun x hx hz=>by rw[HN.out] at hx;omega)⟩)
   clear y0 y1 y2 y3 y4 y5 CK k7 fl S2 R2 K2 rad hcs hbk ht hsu hrest NC7
   unfold rwV
   gi_wp2_with fail
   try rw[hX]
   clear hX v0 v1 v2 v3 v4 v5 v6 f0 f1 f2 f3 f4 f5 f6 l7 S7 K7
   have si:=MM.out.si
   have y1:=si.dp.cell 0 _ rfl
   have t0:=si.rw.cell 0 _ rfl
   have t1:=si.rw.cell 1 _ rfl
   have t2:=si.rw.cell 2 _ rfl
   have l1:=si.dp.lt
   have l2:=si.rw.lt
   have hx:= @ext_cell X
   have hne:=ext_ne X
   have HTB:=hide (show TabW X from by obtain ⟨_,_,h1,_⟩:=MM.out.ex;exact h1.tab)
   have CA:=fun Y=>hide (alike_any r1.t (sz 6) Y)
   obtain ⟨o,ho⟩:∃o,al r1.t (sz 6)=o:=⟨_,rfl⟩
   rw[ho] at CA
   unfold tlV at CA
   clear si
   gi_wp2_with fail
   refine all_w (by kernel_rfl) (by kernel_rfl) ?_
   repeat (first|go_big_quiet_step (first|exact calm_of (CA _).out|exact calm_same (CS _ (HTB.out.below (Ext.h _))).out)|(refine wpQuiet_step (fun K hK=> ?_);go_simp;refine hK _ ?_;clear hK K))
   refine wpQuiet_nil ?_
   rintro _ ⟨n2,rfl⟩
   have M2:=hide (MM.out.below n2.h)
   generalize n2.v=Y at *
   clear n2 y1 t0 t1 t2 l1 l2 hx hne HTB MM CA
   obtain ⟨L1,C1,ra,e1,hg1,gd1,o1,nc1⟩:=M2.out.ex
   have RA:=hide ra
   have GD:=hide gd1
   have HG1:=hide hg1
   have O1:=hide o1
   have NC1:=hide nc1
   have E1:=hide e1
   have HO:=hide ho
   clear ra gd1 hg1 o1 nc1 e1 ho
   cases o with
   |none=>
    simp only[Option.getD_none,Option.isSome_none]
    have si:=M2.out.si
    have t0:=si.rw.cell 0 _ rfl
    have t1:=si.rw.cell 1 _ rfl
    have t2:=si.rw.cell 2 _ rfl
    have t3:=si.rw.cell 3 _ rfl
    have t4:=si.rw.cell 4 _ rfl
    have t5:=si.rw.cell 5 _ rfl
    have t6:=si.rw.cell 6 _ rfl
    have x0:=si.rs.cell 0 _ rfl
    have x1:=si.rs.cell 1 _ rfl
    have x2:=si.rs.cell 2 _ rfl
    have x3:=si.rs.cell 3 _ rfl
    have x4:=si.rs.cell 4 _ rfl
    have x5:=si.rs.cell 5 _ rfl
    have x6:=si.rs.cell 6 _ rfl
    obtain ⟨z0,z1,z2,z3,z4,z5,z6⟩:=frozen7 si.rs.fz
    have l2:=si.rw.lt
    have l5:=si.rs.lt
    have SIY:=hide si
    have RX:=hide RA.out
    have OUTX:=hide O1.out
    have NCX:=hide NC1.out
    have KWX:=hide M2.out.kw
    clear si
    gi_wp2_with fail
    have fin:=(((((((SIY.out.rs.set 0 (.int .u64 (r1.t.p:Nat))).set 1 (.int .u64 (r1.t.f:Nat))).set 2 (.int .u64 (r1.t.r:Nat))).set 3 (.int .i64 (r1.s:Nat))).set 4 (.int .i64 (r1.m:Nat))).set 5 (.int .i64 (r1.e:Nat))).set 6 (.int .i64 (r1.rest:Nat)))
    have kf:=kset7 Y (N+5) (.int .u64 (r1.t.p:Nat)) (.int .u64 (r1.t.f:Nat)) (.int .u64 (r1.t.r:Nat)) (.int .i64 (r1.s:Nat)) (.int .i64 (r1.m:Nat)) (.int .i64 (r1.e:Nat)) (.int .i64 (r1.rest:Nat))
    refine ⟨rwV r1,results_c Tryz.results201 _ _ ⟨N+5,0,none⟩ _ rfl (row7 fin),?_⟩
    rw[HR.out]
    exact ⟨r1,_,_,rfl,rad_own R0.out HN.out RX.out (NCX.out.mono (by omega)) kf (fun x hx=>by omega),GD.out HO.out,OUTX.out,NCX.out.mono (by rw[HN.out];omega),KWX.out.trans kf (fun x hx hz=>by rw[HN.out] at hx;omega)⟩
   |some s'=>
    simp only[Option.getD_some,Option.isSome_some]
    have s3:=(al_some HO.out).1
    have CF:=hide (forget_any T 0 6 rfl Y L1 C1 RA.out i HG1.out hi)
    have AL:=hide (show All st1 (i * sz 6) (sz 6) s' from all_of_tl FS.out s3 (by rw[←E1.out];exact (al_some HO.out).2))
    have CE:=fun Z hZ=>hide (even_any 6 s' (by omega) s3 Z hZ)
    obtain ⟨r2,hr2⟩:∃r2,Rx.even 6 s'=r2:=⟨_,rfl⟩
    rw[hr2] at CE
    have HR2:=hide hr2
    have y0:=M2.out.si.tr.cell 0 _ rfl
    have y1:=M2.out.si.dp.cell 0 _ rfl
    unfold rwV at CE
    unfold tp at CF y0
    clear hr2
    gi_wp2_with fail
    refine wcall2 CF.out ?_
    rintro e w5 ⟨rfl,⟨L2,C2,r5,b2,o2,sub2⟩,k5⟩
    have SI5:=hide (M2.out.si.kept k5 (fun x hx=>by
     rcases NC1.out.wr hx with z|z
     ·have:=R0.out.lt (.inl z);rw[HN.out] at this;exact .inl this
     ·exact .inr (by omega)))
    have NC2:=hide (show NewC (N+6) C C2 from fun j b c hc=>NC1.out j b c (sub2 j _ hc))
    have KW5:=hide (M2.out.kw.trans k5 (fun x hx hz=>(NC1.out.wr hz).resolve_right (by rw[HN.out] at hx;omega)))
    have OUTX:=hide (O1.out.trans o2)
    have BA:=hide b2
    have R5:=hide r5
    have y1:=SI5.out.dp.cell 0 _ rfl
    clear r5 b2 o2 sub2 k5 CF
    gi_wp2_with fail
    refine wcall2 (CE _ R5.out.tab).out ?_
    rintro e w6 ⟨rfl,b6⟩
    have SI6:=hide (SI5.out.below b6)
    have RX:=hide (R5.out.below b6)
    have NCX:=hide NC2.out
    have KWX:=hide (KW5.out.trans (Kept.of_below (F:=fun _=>False) b6) (fun _ _ z=>z.elim))
    have si:=SI6.out
    have x0:=si.rs.cell 0 _ rfl
    have x1:=si.rs.cell 1 _ rfl
    have x2:=si.rs.cell 2 _ rfl
    have x3:=si.rs.cell 3 _ rfl
    have x4:=si.rs.cell 4 _ rfl
    have x5:=si.rs.cell 5 _ rfl
    have x6:=si.rs.cell 6 _ rfl
    obtain ⟨z0,z1,z2,z3,z4,z5,z6⟩:=frozen7 si.rs.fz
    have l5:=si.rs.lt
    clear si b6 CE
    gi_wp2_with fail
    have fin:=(((((((SI6.out.rs.set 0 (.int .u64 (r2.t.p:Nat))).set 1 (.int .u64 (r2.t.f:Nat))).set 2 (.int .u64 (r2.t.r:Nat))).set 3 (.int .i64 (r2.s:Nat))).set 4 (.int .i64 (r2.m:Nat))).set 5 (.int .i64 (r2.e:Nat))).set 6 (.int .i64 (r2.rest:Nat)))
    have kf:=kset7 w6 (N+5) (.int .u64 (r2.t.p:Nat)) (.int .u64 (r2.t.f:Nat)) (.int .u64 (r2.t.r:Nat)) (.int .i64 (r2.s:Nat)) (.int .i64 (r2.m:Nat)) (.int .i64 (r2.e:Nat)) (.int .i64 (r2.rest:Nat))
    refine ⟨rwV r2,results_c Tryz.results201 _ _ ⟨N+5,0,none⟩ _ rfl (row7 fin),?_⟩
    rw[HR.out]
    exact ⟨r2,_,_,rfl,rad_own R0.out HN.out RX.out (NCX.out.mono (by omega)) kf (fun x hx=>by omega),by rw[←HR2.out];exact Rx.Good.of_even s3 rfl AL.out BA.out,OUTX.out,NCX.out.mono (by rw[HN.out];omega),KWX.out.trans kf (fun x hx hz=>by rw[HN.out] at hx;omega)⟩
  ·have dlt:d<6:=by omega
   obtain ⟨n',rfl⟩:∃n',n=n'+1:=⟨n - 1,by omega⟩
   have IH':=hide (IH dlt)
   rw[Nat.add_sub_cancel] at IH'
   have db:((d:Int)==6)=false:=beq_eq_false_iff_ne.2 (by omega)
   have d0:(0:Int)≤(d:Int):=by omega
   have d7:(d:Int)<6:=by omega
   obtain ⟨Q,hQ⟩:∃Q,V2.heap.size=Q:=⟨_,rfl⟩
   have lQ:N+6≤Q:=by have:=S2.out.rs.lt;omega
   obtain ⟨Z,hZ⟩:∃Z,(V2.alloc (.cells #[.int .u64 (a':Nat), .int .u64 (b':Nat)] 282)).alloc (.cells #[.int .i64 ((d:Int)+1)] 3)=Z:=⟨_,rfl⟩
   have bZ:Below V2.heap.size V2 Z:=by rw[←hZ];exact ((Below.refl _ V2).alloc (Nat.le_refl _) _).alloc (by simp) _
   have z1:Z.heap[Q]? =some (.cells #[.int .u64 (a':Nat), .int .u64 (b':Nat)] 282 (0,0)):=by rw[←hZ,alloc_at,if_neg (by simp;omega),alloc_at,if_pos hQ.symm]
   have z2:Z.heap[Q+1]? =some (.cells #[.int .i64 ((d:Int)+1)] 3 (0,0)):=by rw[←hZ,alloc_at,if_pos (by simp;omega)]
   have sZ:Z.heap.size=Q+2:=by rw[←hZ];simp;omega
   have FT:=hide HG.out.fact
   have FR:=FT.out.2.2
   have u0:setSt st a' (upto (d+1) a' b' 0) s=st:=by rw[upto_zero ab2];exact setSt_none
   have er:withT r (tl st (i * sz d) (sz d))=r:=by unfold withT;rw[←FT.out.1]
   have I0:=hide (show SL N w T L C st n' d i r a' b' s Q 0 Z from ⟨by rw[u0,er];exact S2.out.below bZ,⟨z1,z2,(R2.out.below bZ).tab⟩,⟨L,C,R2.out.below bZ,by rw[u0,←FT.out.1];exact SInv.zero HG.out,NewC.refl _ _⟩,K2.out.trans (Kept.of_below (F:=fun _=>False) bZ) (fun _ _ z=>z.elim)⟩)
   have CRW:=fun X=>hide (spanRows_any (a':Int) (b':Int) (d+1) X)
   have SEQ:=hide (rows_seq Q (Q+1) (d+1) a' b' (by omega) ab2 (by omega) (3 - 1))
   obtain ⟨f,hf⟩:∃f,a'/sz (d+1)=f:=⟨_,rfl⟩
   rw[hf] at SEQ
   have NB:=hide (show T.cm<Q+2∧∀d,d≤6→T.mp d<Q+2 from ⟨by have:=R0.out.lt (x:=T.cm) (.inl (.inl rfl));rw[HN.out] at this;omega,fun d hd=>by have:=R0.out.lt (x:=T.mp d) (.inl (.inr (.inl ⟨d,hd,rfl⟩)));rw[HN.out] at this;omega⟩)
   have HZ:=hide hZ
   have HQ:=hide hQ
   have HF:=hide hf
   unfold spanV at CRW
   clear IH bZ z1 z2 hZ hQ hf u0 er R2 K2
   gi_wp2_with fail
   refine wcall2 (CRW _).out ?_
   rintro e w8 ⟨rfl,hw8⟩
   have e8:w8=Z:=by rw[hw8,←HZ.out];rfl
   rw[e8]
   clear hw8 e8 w8 CRW
   rw[HQ.out]
   clear y0 y1 y2 y3 y4 y5 S2 HZ HQ V2
   gi_wp2_with fail
   refine range_law (w:=Z) rfl (enters_of Tryz.func289 (by kernel_rfl) rfl) SEQ.out (fun _=>rfl) (fun pre X=>SL N w T L C st n' d i r a' b' s Q pre.length X) (fun c pre X=>False) (fun s X h=>h.rd) ?hI ?hIx I0.out ?round ?done ?stop
   case hI=>
    intro s X X' h k
    exact h.kept k HN.out R0.out lQ (fun x hx=>by rw[sZ] at hx;omega)
   case hIx=>rintro c s X o' h _;exact h
   case stop=>rintro c pre x X hk h;exact h.elim
   case round=>
    rintro pre x X ⟨r0,hr0⟩ hdf h hk
    obtain ⟨e1,e2,e3⟩:=pre_range hk
    subst e2
    obtain ⟨k,hkk⟩:∃k,pre.length=k:=⟨_,rfl⟩
    rw[sZ] at hr0 hdf ⊢
    rw[hkk] at h e3 ⊢
    have HNX:=hide (show ∀X',SL N w T L C st n' d i r a' b' s Q (k+1) X'→SL N w T L C st n' d i r a' b' s Q (pre++ [k]).length X' from fun X' hX=>by rw[List.length_append,hkk];exact hX)
    have HI:=hide h
    have lX:Q+3<X.heap.size:=(Array.getElem?_eq_some_iff.1 hr0).1
    clear h hr0 hdf hk e1 hkk
    simp only[encs1]
    have kl:=(cnt_lt (D:=d+1) ab2).1 e3
    have MO:=hide (HM.out.kid (s:=s) dlt ab2 kl)
    obtain ⟨k1,k2,k3,k4⟩:=kid_range (j:=a'/sz (d+1)+k) dlt (by rw[HA.out];exact ab1) (by rw[HB.out];exact ab3) (by omega) kl
    obtain ⟨v1,v2,v3,v4⟩:=upto_succ ab2 kl
    rw[HF.out] at kl k1 k2 k3 k4 v1 v2
    rw[HB.out] at k3
    obtain ⟨j,hj⟩:∃j,f+k=j:=⟨_,rfl⟩
    rw[hj] at kl k1 k2 k3 k4 v1 v2 ⊢
    have hB35:B≤34359738368:=by rw[←HB.out];exact hi
    have j64:j<67108864:=by
     have h2:512≤sz (d+1):=by
      have:∀d,d<6→512≤sz (d+1):=by decide
      exact this d dlt
     have h3:(j+1) * 512≤(j+1) * sz (d+1):=Nat.mul_le_mul_left _ h2
     omega
    gi_wp2_with fail
    refine ⟨keepsFrom_of (Kept.refl (fun _=>False) X) (fun b hb e=>e),fun r1=> ?_⟩
    have kp:=Kept.put (F:=fun b=>b=Q+3) X (Q+2+1) (.loop r1) rfl
    obtain ⟨X2,hX2⟩:∃X2,X.putObj (Q+2+1) (.loop r1)=X2:=⟨_,rfl⟩
    rw[hX2] at kp ⊢
    have I3:=hide (HI.out.kept kp HN.out R0.out lQ (fun x hx=>by omega))
    have lz:Q+4≤X2.heap.size:=by have:=kp.size;omega
    obtain ⟨L1,C1,ra,sv,nc⟩:=I3.out.ex
    have RA:=hide ra
    have SVI:=hide sv
    have NC1:=hide nc
    obtain ⟨u,hu⟩:∃u,upto (d+1) a' b' k=u:=⟨_,rfl⟩
    obtain ⟨u',hu'⟩:∃u',upto (d+1) a' b' (k+1)=u':=⟨_,rfl⟩
    have si3:=I3.out.si
    rw[hu] at si3 SVI MO v1 v3 v4
    rw[hu'] at MO v2 v3
    obtain ⟨stk,hstk⟩:∃stk,setSt st a' u s=stk:=⟨_,rfl⟩
    rw[hstk] at si3 SVI MO
    have F4:=hide (show Four stk from by rw[←hstk];exact setSt_four H4.out hs.2)
    have smore:=setSt_more (st:=st) (s:=s) v4 v3
    rw[hstk] at smore
    obtain ⟨st2,hst2⟩:∃st2,setSt st a' u' s=st2:=⟨_,rfl⟩
    rw[hst2] at smore
    have G1:=hide (SVI.out.kids j k1 k2)
    obtain ⟨q,hq⟩:∃q,row L1 (d+1) j r.rest=q:=⟨_,rfl⟩
    rw[hq] at G1
    obtain ⟨tk,htk⟩:∃tk,tl stk (i * sz d) (sz d)=tk:=⟨_,rfl⟩
    rw[htk] at si3 SVI
    have SI3:=hide si3
    have CW:=fun Y hY=>hide (row_any (w:=Y) (T:=T) (L:=L1) (C:=C1) hY (d+1) j r.rest (by omega) (by omega) FR)
    rw[hq] at CW
    have y0:=si3.tr.cell 0 _ rfl
    have y1:=si3.dp.cell 0 _ rfl
    have y6:=si3.rw.cell 6 _ rfl
    have hre:(withT r tk).rest=r.rest:=rfl
    rw[hre] at y6
    have HX:=hide (And.intro hu (And.intro hu' (And.intro hstk (And.intro hst2 (And.intro htk hq)))))
    have SMO:=hide smore
    unfold tp at y0 CW
    unfold rwV at CW
    clear kp hX2 HI ra sv nc hu hu' hstk hst2 hq htk si3 smore lX r0 hj
    gi_wp2_with fail
    refine wcall2 (CW _ RA.out).out ?_
    rintro e Y1 ⟨rfl,b1⟩
    obtain ⟨p1,hp1⟩:∃p1,Y1.heap.size=p1:=⟨_,rfl⟩
    obtain ⟨Y2,hY2⟩:∃Y2,Y1.alloc (.cells #[.int .u64 (q.t.p:Nat), .int .u64 (q.t.f:Nat), .int .u64 (q.t.r:Nat), .int .i64 (q.s:Nat), .int .i64 (q.m:Nat), .int .i64 (q.e:Nat), .int .i64 (q.rest:Nat)] 221)=Y2:=⟨_,rfl⟩
    have b2:Below X2.heap.size X2 Y2:=by rw[←hY2];exact b1.alloc b1.size _
    have w2:Bk Y2 p1 221 #[.int .u64 (q.t.p:Nat), .int .u64 (q.t.f:Nat), .int .u64 (q.t.r:Nat), .int .i64 (q.s:Nat), .int .i64 (q.m:Nat), .int .i64 (q.e:Nat), .int .i64 (q.rest:Nat)]:=by rw[←hY2,←hp1];exact World.alloc_heap_new Y1 _
    have w2s:p1<Y2.heap.size:=w2.lt
    have lp1:X2.heap.size≤p1:=by rw[←hp1];exact b1.size
    have r2:=RA.out.below b2
    have s2:=SI3.out.below b2
    have nW:∀x,N≤x→x<Q+4→¬Wr T C1 x:=fun x h1 h2 h3=>by
     rcases NC1.out.wr h3 with z|z
     ·have:=R0.out.lt (.inl z);rw[HN.out] at this;omega
     ·omega
    have nP:¬Wr T C1 p1:=fun z=>by have:=(RA.out.below b1).lt (.inl z);omega
    have CI:=IH'.out Y2 L1 C1 stk r2 F4.out j q a' b' s G1.out (by omega) ab2 ab4 k4 kl hs (by rw[←v1,←v2];exact MO.out)
    rw[←v1,←v2,SMO.out] at CI
    have CIH:=hide CI
    have W2:=hide w2
    have B2:=hide b2
    have NW:=hide nW
    have NP:=hide nP
    have y0:=s2.tr.cell 0 _ rfl
    have y1:=s2.dp.cell 0 _ rfl
    have y2:=s2.sp.cell 0 _ rfl
    have y3:=s2.sp.cell 1 _ rfl
    have y4:=s2.sv.cell 0 _ rfl
    have q0:=w2.cell 0 _ rfl
    have q1:=w2.cell 1 _ rfl
    have q2:=w2.cell 2 _ rfl
    have q3:=w2.cell 3 _ rfl
    have q4:=w2.cell 4 _ rfl
    have q5:=w2.cell 5 _ rfl
    have q6:=w2.cell 6 _ rfl
    have S2:=hide s2
    unfold tp at y0
    unfold tp rwV spanV at CIH
    clear CI w2 b2 b1 nW nP r2 s2 CW y6
    gi_wp2_with fail
    refine wcall2 CIH.out ?_
    rintro e Y3 ⟨rI,L2,C2,rfl,r3,g3,o3,n3,k3'⟩
    unfold rwV
    obtain ⟨p2,hp2⟩:∃p2,Y3.heap.size=p2:=⟨_,rfl⟩
    obtain ⟨Y4,hY4⟩:∃Y4,Y3.alloc (.cells #[.int .u64 (rI.t.p:Nat), .int .u64 (rI.t.f:Nat), .int .u64 (rI.t.r:Nat), .int .i64 (rI.s:Nat), .int .i64 (rI.m:Nat), .int .i64 (rI.e:Nat), .int .i64 (rI.rest:Nat)] 221)=Y4:=⟨_,rfl⟩
    have b4:Below Y3.heap.size Y3 Y4:=by rw[←hY4];exact grown1 Y3 _
    have w4:Bk Y4 p2 221 #[.int .u64 (rI.t.p:Nat), .int .u64 (rI.t.f:Nat), .int .u64 (rI.t.r:Nat), .int .i64 (rI.s:Nat), .int .i64 (rI.m:Nat), .int .i64 (rI.e:Nat), .int .i64 (rI.rest:Nat)]:=by rw[←hY4,←hp2];exact World.alloc_heap_new Y3 _
    have lp2:N<p2:=by
     have h6:=k3'.size
     have h7:=w2s
     omega
    have R4:=hide (r3.below b4)
    have KA4:=hide (show Kept (Wr T C1) X2 Y4 from ((Kept.of_below (F:=Wr T C1) B2.out).trans k3' (fun _ _ z=>z)).trans (Kept.of_below (F:=Wr T C1) b4) (fun _ _ z=>z))
    have V4:=hide ((W2.out.kept k3' NP.out).below b4)
    have W4:=hide w4
    have s4:=S2.out.kept ((k3'.trans (Kept.of_below (F:=Wr T C1) b4) (fun _ _ z=>z))) (fun x hx=>by
     rcases Nat.lt_or_ge x N with z|z
     ·exact .inl z
     ·rcases Nat.lt_or_ge x (Q+4) with y|y
      ·exact absurd hx (NW.out x z y)
      ·exact .inr (by omega))
    have S4:=hide s4
    have GI:=hide g3
    have OI:=hide o3
    have NI:=hide n3
    have CK:=hide (keep_any R4.out (d+1) j r.rest (by omega) j64 FR rI)
    have y0:=s4.tr.cell 0 _ rfl
    have y1:=s4.dp.cell 0 _ rfl
    have y6:=s4.rw.cell 6 _ rfl
    rw[hre] at y6
    have p0:=w4.cell 0 _ rfl
    have p1':=w4.cell 1 _ rfl
    have p2':=w4.cell 2 _ rfl
    have p3':=w4.cell 3 _ rfl
    have p4':=w4.cell 4 _ rfl
    have p5':=w4.cell 5 _ rfl
    have p6':=w4.cell 6 _ rfl
    unfold tp at y0 CK
    unfold rwV at CK
    clear r3 g3 o3 n3 k3' b4 w4 s4 q0 q1 q2 q3 q4 q5 q6 y2 y3 y4 CIH
    gi_wp2_with fail
    refine wcall2 CK.out ?_
    rintro e Y5 ⟨rfl,⟨o,ho,r5⟩,k5⟩
    have mpN:T.mp (d+1)<N:=by have:=R0.out.lt (x:=T.mp (d+1)) (.inl (.inr (.inl ⟨d+1,by omega,rfl⟩)));rw[HN.out] at this;exact this
    have KA5:=hide (show Kept (Wr T C1) X2 Y5 from KA4.out.trans (k5.mono (G:=Wr T C1) (fun x hx=> .inr (.inl ⟨d+1,by omega,hx⟩))) (fun _ _ z=>z))
    have S5:=hide (S4.out.kept k5 (fun x hx=>by omega))
    have V5:=hide (V4.out.kept k5 (by omega))
    have W5:=hide (W4.out.kept k5 (by omega))
    have R5:=hide r5
    have HO:=hide ho
    have insj:=kid_ins (d:=d) (i:=i) (k:=j) dlt k1 k2
    have e2:(j+1) * sz (d+1)=j * sz (d+1)+sz (d+1):=Nat.succ_mul _ _
    have e1:(i+1) * sz d=i * sz d+sz d:=Nat.succ_mul _ _
    have houts:∀q,¬(j * sz (d+1)≤q∧q<(j+1) * sz (d+1))→stk q=st2 q:=fun q hq=>by
     rw[←SMO.out];exact (setSt_out (by omega)).symm
    have sw:=tl_swap (st:=stk) (st':=st2) (A:=i * sz d) (n:=sz d) (K:=j * sz (d+1)) (z:=sz (d+1)) insj.1 (by have:=insj.2;omega) (fun q _ _ hq=>houts q (by omega))
    have hkt:=HX.out.2.2.2.2.1
    rw[hkt,←G1.out.fact.1,←GI.out.fact.1] at sw
    have tle:=tl_le stk (i * sz d) (sz d)
    rw[hkt] at tle
    have tle2:=tl_le st2 (i * sz d) (sz d)
    rw[sw.1] at tle2
    have CLs:=fun Z=>hide (less_any tk q.t (by omega) sw.2 Z)
    have CPl:=fun Z=>hide (plus_any (tk.sub q.t) rI.t (by unfold Tl.add at tle2;dsimp only at tle2;omega) Z)
    have STP:=hide (SInv.step (by omega) SVI.out k1 k2 houts OI.out GI.out HO.out)
    rw[HX.out.2.2.2.2.2] at STP
    obtain ⟨ta,hta⟩:∃ta,(tk.sub q.t).add rI.t=ta:=⟨_,rfl⟩
    rw[hta] at CPl STP sw
    have SW:=hide sw.1
    obtain ⟨ts,hts⟩:∃ts,tk.sub q.t=ts:=⟨_,rfl⟩
    rw[hts] at CLs CPl
    have y0:=S5.out.rw.cell 0 _ rfl
    have y1:=S5.out.rw.cell 1 _ rfl
    have y2:=S5.out.rw.cell 2 _ rfl
    rw[show (withT r tk).t=tk from rfl] at y0 y1 y2
    have q0:=V5.out.cell 0 _ rfl
    have q1:=V5.out.cell 1 _ rfl
    have q2:=V5.out.cell 2 _ rfl
    have g0:=W5.out.cell 0 _ rfl
    have g1:=W5.out.cell 1 _ rfl
    have g2:=W5.out.cell 2 _ rfl
    have m0:=S5.out.rw.lt
    have m1:=V5.out.lt
    have m2:=W5.out.lt
    have hx:= @ext_cell Y5
    have hne:=ext_ne Y5
    unfold tlV at CLs CPl
    clear ho r5 k5 insj e2 e1 houts sw tle tle2 hkt hta hts CK y6 p0 p1' p2' p3' p4' p5' p6' S4 V4 W4 R4 KA4
    gi_wp2_with fail
    refine tail_r 9 (by kernel_rfl) (by kernel_rfl) ?_
    simp only[List.take_succ_cons,List.take_zero,List.drop_succ_cons,List.drop_zero]
    repeat (first|go_big_quiet_step (first|exact calm_of (CLs _).out|exact calm_of (CPl _).out)|(refine wpQuiet_step (fun K hK=> ?_);go_simp;refine hK _ ?_;clear hK K))
    refine wpQuiet_nil ?_
    rintro _ ⟨n6,rfl⟩
    have S6:=hide (S5.out.below n6.h)
    have R6:=hide (R5.out.below n6.h)
    have KA6:=hide (KA5.out.trans (Kept.of_below (F:=Wr T C1) n6.h) (fun _ _ z=>z))
    generalize n6.v=Y6 at *
    have x0:=S6.out.rw.cell 0 _ rfl
    have x1:=S6.out.rw.cell 1 _ rfl
    have x2:=S6.out.rw.cell 2 _ rfl
    have f0:=S6.out.rw.fz 0
    have f1:=S6.out.rw.fz 1
    have f2:=S6.out.rw.fz 2
    have l6:=S6.out.rw.lt
    obtain ⟨Y7,hY7⟩:∃Y7,((Y6.setCell ⟨N+2,0,none⟩ (.int .u64 (ta.p:Nat))).setCell ⟨N+2,1,none⟩ (.int .u64 (ta.f:Nat))).setCell ⟨N+2,2,none⟩ (.int .u64 (ta.r:Nat))=Y7:=⟨_,rfl⟩
    have kq:Kept (fun x=>x=N+2) Y6 Y7:=by
     rw[←hY7]
     exact ((kept_set (F:=fun x=>x=N+2) Y6 (N+2) 0 _ rfl).trans (kept_set (F:=fun x=>x=N+2) _ (N+2) 1 _ rfl) (fun _ _ z=>z)).trans (kept_set (F:=fun x=>x=N+2) _ (N+2) 2 _ rfl) (fun _ _ z=>z)
    have rw7:=((S6.out.rw.set 0 (.int .u64 (ta.p:Nat))).set 1 (.int .u64 (ta.f:Nat))).set 2 (.int .u64 (ta.r:Nat))
    rw[hY7] at rw7
    have NCN:NewC (Q+4) C C2:=NC1.out.trans NI.out (by omega)
    have R7:RadAt Y7 T (putL L2 (d+1) j o) C2:=rad_own R0.out HN.out R6.out (NCN.mono (by omega)) kq (fun x hx=>by omega)
    have KF:Kept (fun x=>Wr T C1 x∨x=N+2) X2 Y7:=(KA6.out.mono (fun _ z=> .inl z)).trans (kq.mono (fun _ z=> .inr z)) (fun _ _ z=>z)
    have KFr:=hide (RA.out.keeps2 NB.out (show N+2<Q+2 by omega) KF)
    have eS:setSt st a' (upto (d+1) a' b' (k+1)) s=st2:=by rw[HX.out.2.1];exact HX.out.2.2.2.1
    have eN:N≤Q∧Q<Q+4∧N≤Q+1∧Q+1<Q+4:=by omega
    have two:=R0.out.two
    have FIN:=hide (show SL N w T L C st n' d i r a' b' s Q (k+1) Y7 from by
     refine ⟨?_,⟨kept_at KF I3.out.rd.sp (fun z=>z.elim (NW.out _ eN.1 eN.2.1) (by omega)),kept_at KF I3.out.rd.dp (fun z=>z.elim (NW.out _ eN.2.2.1 eN.2.2.2) (by omega)),R7.tab⟩,⟨_,C2,R7,?_,NCN⟩,I3.out.kw.trans KF (fun x hx hz=> ?_)⟩
     ·rw[eS,SW.out]
      exact ⟨S6.out.tr.kept kq (by omega),S6.out.dp.kept kq (by omega),rw7,S6.out.sp.kept kq (by omega),S6.out.sv.kept kq (by omega),S6.out.rs.kept kq (by omega)⟩
     ·rw[eS,SW.out];exact STP.out
     ·rw[HN.out] at hx
      rcases hz with z|z
      ·exact (NC1.out.wr z).resolve_right (by omega)
      ·omega)
    clear n6 hx hne CLs CPl y0 y1 y2 q0 q1 q2 g0 g1 g2 m0 m1 m2 kq rw7 NCN R7 KF eS eN
    gi_wp2_with fail
    try rw[hY7]
    exact ⟨KFr.out,HNX.out _ FIN.out⟩
   case done=>
    rintro X0 h hdf
    rw[sZ] at hdf ⊢
    rw[List.length_range] at h
    have HD0:=hide hdf
    have eS:setSt st a' (upto (d+1) a' b' (cntR (d+1) a' b')) s=st1:=by rw[upto_end ab2];exact HS1.out
    have s0:=h.si
    obtain ⟨L1,C1,ra,sv,nc⟩:=h.ex
    rw[eS] at s0 sv
    obtain ⟨tk,htk⟩:∃tk,tl st1 (i * sz d) (sz d)=tk:=⟨_,rfl⟩
    rw[htk] at s0 sv
    have CB:=hide (sumBelow_any ra st1 d i r.rest dlt hi FR (fun j hj=>(sv.kids _ (by omega) (by rw[Nat.mul_succ];omega)).fact.2.1 (by omega)))
    have S0:=hide s0
    have RA:=hide ra
    have SVI:=hide sv
    have NC1:=hide nc
    have KW0:=hide h.kw
    have y0:=s0.tr.cell 0 _ rfl
    have y1:=s0.dp.cell 0 _ rfl
    have y6:=s0.rw.cell 6 _ rfl
    rw[show (withT r tk).rest=r.rest from rfl] at y6
    have HTK:=hide htk
    unfold tp at y0 CB
    clear h hdf eS s0 ra sv nc htk
    gi_wp2_with fail
    refine wcall2 CB.out ?_
    rintro e w7 ⟨⟨sS,sM,sE,rfl,hsum⟩,b7⟩
    unfold sumV
    have S7:=hide (S0.out.below b7)
    have R7:=hide (RA.out.below b7)
    have K7:=hide (KW0.out.trans (Kept.of_below (F:=fun _=>False) b7) (fun _ _ z=>z.elim))
    have HD7:=hide ((b7.block (Q+2) (Array.getElem?_eq_some_iff.1 HD0.out).1).trans HD0.out)
    have HSM:=hide hsum
    have v3:=S7.out.rw.cell 3 _ rfl
    have v4:=S7.out.rw.cell 4 _ rfl
    have v5:=S7.out.rw.cell 5 _ rfl
    obtain ⟨f0,f1,f2,f3,f4,f5,f6⟩:=frozen7 S7.out.rw.fz
    have l7:=S7.out.rw.lt
    obtain ⟨X,hX⟩:∃X,((w7.setCell ⟨N+2,3,none⟩ (.int .i64 (sS:Nat))).setCell ⟨N+2,4,none⟩ (.int .i64 (sM:Nat))).setCell ⟨N+2,5,none⟩ (.int .i64 (sE:Nat))=X:=⟨_,rfl⟩
    obtain ⟨r1,hr1⟩:∃r1,r1=(⟨tk,sS,sM,sE,r.rest⟩:Rw):=⟨_,rfl⟩
    have kf:Kept (fun x=>x=N+2) w7 X:=by
     rw[←hX]
     exact ((kept_set (F:=fun x=>x=N+2) w7 (N+2) 3 _ rfl).trans (kept_set (F:=fun x=>x=N+2) _ (N+2) 4 _ rfl) (fun _ _ z=>z)).trans (kept_set (F:=fun x=>x=N+2) _ (N+2) 5 _ rfl) (fun _ _ z=>z)
    have HDF:=hide (kept_at kf HD7.out (by omega))
    have MM:=hide (show SM N w X T L C st1 (n'+1) d i r1 (a':Nat) (b':Nat) s from by
     have fin:=((S7.out.rw.set 3 (.int .i64 (sS:Nat))).set 4 (.int .i64 (sM:Nat))).set 5 (.int .i64 (sE:Nat))
     rw[hX] at fin
     have sv:SInv L C n' d i r1.rest st1 L1 C1 r1.t:=by rw[hr1];exact SVI.out
     refine ⟨⟨S7.out.tr.kept kf (by omega),S7.out.dp.kept kf (by omega),by rw[hr1];exact fin,S7.out.sp.kept kf (by omega),S7.out.sv.kept kf (by omega),S7.out.rs.kept kf (by omega)⟩,⟨L1,C1,rad_own R0.out HN.out R7.out (NC1.out.mono (by omega)) kf (fun x hx=>by omega),by rw[hr1];exact HTK.out.symm,SVI.out.hang (by omega) FR,fun z=>sv.good (by rw[hr1];exact FR) (fun hd0=>by rw[hr1];exact HSM.out hd0) z,SVI.out.outs,NC1.out.mono (by omega)⟩,K7.out.trans kf (fun x hx hz=>by rw[HN.out] at hx;omega)⟩)
    clear y0 y1 y6 CB b7 hsum kf hr1
    gi_wp2_with fail
    try rw[hX]
    clear hX v3 v4 v5 f0 f1 f2 f3 f4 f5 f6 l7 S7 R7 K7 HD7 HD0 S0 RA SVI NC1 KW0
    have si:=MM.out.si
    have y1:=si.dp.cell 0 _ rfl
    have t0:=si.rw.cell 0 _ rfl
    have t1:=si.rw.cell 1 _ rfl
    have t2:=si.rw.cell 2 _ rfl
    have l1:=si.dp.lt
    have l2:=si.rw.lt
    have hx:= @ext_cell X
    have hne:=ext_ne X
    have HTB:=hide (show TabW X from by obtain ⟨_,_,h1,_⟩:=MM.out.ex;exact h1.tab)
    have CA:=fun Y=>hide (alike_any r1.t (sz d) Y)
    obtain ⟨o,ho⟩:∃o,al r1.t (sz d)=o:=⟨_,rfl⟩
    rw[ho] at CA
    unfold tlV at CA
    clear si
    gi_wp2_with fail
    refine all_w (by kernel_rfl) (by kernel_rfl) ?_
    repeat (first|go_big_quiet_step (first|exact calm_of (CA _).out|exact calm_same (CS _ (HTB.out.below (Ext.h _))).out)|(refine wpQuiet_step (fun K hK=> ?_);go_simp;refine hK _ ?_;clear hK K))
    refine wpQuiet_nil ?_
    rintro _ ⟨n2,rfl⟩
    have M2:=hide (MM.out.below n2.h)
    have HD2:=hide ((n2.h.block (Q+2) (Array.getElem?_eq_some_iff.1 HDF.out).1).trans HDF.out)
    generalize n2.v=Y at *
    clear n2 y1 t0 t1 t2 l1 l2 hx hne HTB MM CA HDF
    obtain ⟨L1,C1,ra,e1,hg1,gd1,o1,nc1⟩:=M2.out.ex
    have RA:=hide ra
    have GD:=hide gd1
    have HG1:=hide hg1
    have O1:=hide o1
    have NC1:=hide nc1
    have E1:=hide e1
    have HO:=hide ho
    clear ra gd1 hg1 o1 nc1 e1 ho
    cases o with
    |none=>
     simp only[Option.getD_none,Option.isSome_none]
     have si:=M2.out.si
     have t0:=si.rw.cell 0 _ rfl
     have t1:=si.rw.cell 1 _ rfl
     have t2:=si.rw.cell 2 _ rfl
     have t3:=si.rw.cell 3 _ rfl
     have t4:=si.rw.cell 4 _ rfl
     have t5:=si.rw.cell 5 _ rfl
     have t6:=si.rw.cell 6 _ rfl
     have x0:=si.rs.cell 0 _ rfl
     have x1:=si.rs.cell 1 _ rfl
     have x2:=si.rs.cell 2 _ rfl
     have x3:=si.rs.cell 3 _ rfl
     have x4:=si.rs.cell 4 _ rfl
     have x5:=si.rs.cell 5 _ rfl
     have x6:=si.rs.cell 6 _ rfl
     obtain ⟨z0,z1,z2,z3,z4,z5,z6⟩:=frozen7 si.rs.fz
     have l2:=si.rw.lt
     have l5:=si.rs.lt
     have SIY:=hide si
     have RX:=hide RA.out
     have OUTX:=hide O1.out
     have NCX:=hide NC1.out
     have KWX:=hide M2.out.kw
     have HDX:=hide HD2.out
     clear si
     gi_wp2_with fail
     have fin:=(((((((SIY.out.rs.set 0 (.int .u64 (r1.t.p:Nat))).set 1 (.int .u64 (r1.t.f:Nat))).set 2 (.int .u64 (r1.t.r:Nat))).set 3 (.int .i64 (r1.s:Nat))).set 4 (.int .i64 (r1.m:Nat))).set 5 (.int .i64 (r1.e:Nat))).set 6 (.int .i64 (r1.rest:Nat)))
     have kf:=kset7 Y (N+5) (.int .u64 (r1.t.p:Nat)) (.int .u64 (r1.t.f:Nat)) (.int .u64 (r1.t.r:Nat)) (.int .i64 (r1.s:Nat)) (.int .i64 (r1.m:Nat)) (.int .i64 (r1.e:Nat)) (.int .i64 (r1.rest:Nat))
     have hd4:=kept_at kf HDX.out (by omega)
     refine ⟨by simp, .inl ⟨_,_,rfl,run_takeDeferred hd4,?_⟩⟩
     have R7:=rad_own R0.out HN.out RX.out (NCX.out.mono (by omega)) kf (fun x hx=>by omega)
     have kz:=fun (Y:World)=>Kept.put (F:=fun b=>b=Q+2) Y (Q+2) (.deferred none) rfl
     have R8:=R7.kept (kz _) (fun x hx=>by subst hx;exact ⟨R7.not_deferred hd4,R0.out.base_le (by rw[HN.out];omega)⟩)
     refine ⟨rwV r1,results_c Tryz.results201 _ _ ⟨N+5,0,none⟩ _ rfl (row7 (fin.kept (kz _) (by omega))),?_⟩
     rw[HR.out]
     exact ⟨r1,_,_,rfl,R8,GD.out HO.out,OUTX.out,NCX.out.mono (by rw[HN.out];omega),(KWX.out.trans kf (fun x hx hz=>by rw[HN.out] at hx;omega)).trans (kz _) (fun x hx hz=>by rw[HN.out] at hx;omega)⟩
    |some s'=>
     simp only[Option.getD_some,Option.isSome_some]
     have s3:=(al_some HO.out).1
     have CF:=hide (forget_any T (n'+1) d hnd Y L1 C1 RA.out i HG1.out hi)
     have AL:=hide (show All st1 (i * sz d) (sz d) s' from all_of_tl FS.out s3 (by rw[←E1.out];exact (al_some HO.out).2))
     have CE:=fun Z hZ=>hide (even_any d s' hd s3 Z hZ)
     obtain ⟨r2,hr2⟩:∃r2,Rx.even d s'=r2:=⟨_,rfl⟩
     rw[hr2] at CE
     have HR2:=hide hr2
     have y0:=M2.out.si.tr.cell 0 _ rfl
     have y1:=M2.out.si.dp.cell 0 _ rfl
     unfold rwV at CE
     unfold tp at CF y0
     clear hr2
     gi_wp2_with fail
     refine wcall2 CF.out ?_
     rintro e w5 ⟨rfl,⟨L2,C2,r5,b2,o2,sub2⟩,k5⟩
     have SI5:=hide (M2.out.si.kept k5 (fun x hx=>by
      rcases NC1.out.wr hx with z|z
      ·have:=R0.out.lt (.inl z);rw[HN.out] at this;exact .inl this
      ·exact .inr (by omega)))
     have NC2:=hide (show NewC (N+6) C C2 from fun j b c hc=>NC1.out j b c (sub2 j _ hc))
     have KW5:=hide (M2.out.kw.trans k5 (fun x hx hz=>(NC1.out.wr hz).resolve_right (by rw[HN.out] at hx;omega)))
     have OUTX:=hide (O1.out.trans o2)
     have BA:=hide b2
     have R5:=hide r5
     have HD5:=hide ((RA.out.keeps NB.out k5).same (Q+2) _ (by omega) HD2.out rfl)
     have y1:=SI5.out.dp.cell 0 _ rfl
     clear r5 b2 o2 sub2 k5 CF
     gi_wp2_with fail
     refine wcall2 (CE _ R5.out.tab).out ?_
     rintro e w6 ⟨rfl,b6⟩
     have SI6:=hide (SI5.out.below b6)
     have RX:=hide (R5.out.below b6)
     have NCX:=hide NC2.out
     have KWX:=hide (KW5.out.trans (Kept.of_below (F:=fun _=>False) b6) (fun _ _ z=>z.elim))
     have HDX:=hide ((b6.block (Q+2) (Array.getElem?_eq_some_iff.1 HD5.out).1).trans HD5.out)
     have si:=SI6.out
     have x0:=si.rs.cell 0 _ rfl
     have x1:=si.rs.cell 1 _ rfl
     have x2:=si.rs.cell 2 _ rfl
     have x3:=si.rs.cell 3 _ rfl
     have x4:=si.rs.cell 4 _ rfl
     have x5:=si.rs.cell 5 _ rfl
     have x6:=si.rs.cell 6 _ rfl
     obtain ⟨z0,z1,z2,z3,z4,z5,z6⟩:=frozen7 si.rs.fz
     have l5:=si.rs.lt
     clear si b6 CE
     gi_wp2_with fail
     have fin:=(((((((SI6.out.rs.set 0 (.int .u64 (r2.t.p:Nat))).set 1 (.int .u64 (r2.t.f:Nat))).set 2 (.int .u64 (r2.t.r:Nat))).set 3 (.int .i64 (r2.s:Nat))).set 4 (.int .i64 (r2.m:Nat))).set 5 (.int .i64 (r2.e:Nat))).set 6 (.int .i64 (r2.rest:Nat)))
     have kf:=kset7 w6 (N+5) (.int .u64 (r2.t.p:Nat)) (.int .u64 (r2.t.f:Nat)) (.int .u64 (r2.t.r:Nat)) (.int .i64 (r2.s:Nat)) (.int .i64 (r2.m:Nat)) (.int .i64 (r2.e:Nat)) (.int .i64 (r2.rest:Nat))
     have hd4:=kept_at kf HDX.out (by omega)
     refine ⟨by simp, .inl ⟨_,_,rfl,run_takeDeferred hd4,?_⟩⟩
     have R7:=rad_own R0.out HN.out RX.out (NCX.out.mono (by omega)) kf (fun x hx=>by omega)
     have kz:=fun (Y:World)=>Kept.put (F:=fun b=>b=Q+2) Y (Q+2) (.deferred none) rfl
     have R8:=R7.kept (kz _) (fun x hx=>by subst hx;exact ⟨R7.not_deferred hd4,R0.out.base_le (by rw[HN.out];omega)⟩)
     refine ⟨rwV r2,results_c Tryz.results201 _ _ ⟨N+5,0,none⟩ _ rfl (row7 (fin.kept (kz _) (by omega))),?_⟩
     rw[HR.out]
     exact ⟨r2,_,_,rfl,R8,by rw[←HR2.out];exact Rx.Good.of_even s3 hnd AL.out BA.out,OUTX.out,NCX.out.mono (by rw[HN.out];omega),(KWX.out.trans kf (fun x hx hz=>by rw[HN.out] at hx;omega)).trans (kz _) (fun x hx hz=>by rw[HN.out] at hx;omega)⟩
theorem setIn_any (T:Tid):∀n d,n+d=6→SetOk T n d
 |0,d,h=>setIn_core T 0 d h (fun z=>by omega)
 |n+1,d,h=>setIn_core T (n+1) d h (fun _=>setIn_any T n (d+1) (by omega))
end Go.Proofs.YtdgdhnnakcncoaaGreatDoor
