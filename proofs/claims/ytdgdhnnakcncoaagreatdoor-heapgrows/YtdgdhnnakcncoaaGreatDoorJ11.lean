/- Of the proof of HeapClasses: texts RXj. -/
import Derived.Test.YtdgdhnnakcncoaaGreatDoorJ10
namespace Go.Proofs.YtdgdhnnakcncoaaGreatDoor
set_option maxHeartbeats 1600000
open Go.ChangeShapes Go.WideShapes Go.ChangeAt Go.RowKit Go.Proofs.Bt Go.Shelf Go.Proofs.Rx Go.Maps
set_option linter.unusedVariables false
set_option linter.unusedSimpArgs false
attribute [local go_sem] Oper.semAt_some
theorem tail_w {P:Program} {m id:Nat} {Q:Exit→Act→World→Prop} {a:Act} {w:World} {l:List Oper} (n:Nat) (hm:P.follows .mixedOrders=true) (hB:tailB l n=true)
 (h:wpQuiet P (l.take n).toArray (fun w'=>∃n:Ext w,w'=n.v) (fun a'=>∀w',(∃n:Ext w,w'=n.v)→wpListIn Fence.wide m P l.toArray Q (l.drop n) a' w') (l.take n) a):(Code.region id l.toArray true).wpIn Fence.wide m P Q a w:=
 region_tail (ro:=none) (fun w'=>∃n:Ext w,w'=n.v) n hm hB ⟨⟨w.drew,drew_below w⟩,rfl⟩ h
theorem tail_r {P:Program} {m id r:Nat} {Q:Exit→Act→World→Prop} {a:Act} {w:World} {l:List Oper} (n:Nat) (hm:P.follows .mixedOrders=true) (hB:tailB l n=true)
 (h:wpQuiet P (l.take n).toArray (fun w'=>∃n:Ext w,w'=n.v) (fun a'=>∀w',(∃n:Ext w,w'=n.v)→wpListIn (Fence.wide.inRound r) m P l.toArray Q (l.drop n) a' w') (l.take n) a):(Code.region id l.toArray true).wpIn (Fence.wide.inRound r) m P Q a w:=
 region_tail (ro:=some r) (fun w'=>∃n:Ext w,w'=n.v) n hm hB ⟨⟨w.drew,drew_below w⟩,rfl⟩ h
theorem all_r {P:Program} {m id r:Nat} {Q:Exit→Act→World→Prop} {a:Act} {w:World} {l:List Oper} (hm:P.follows .mixedOrders=true) (hB:(Region.lexB .any l.toArray&&plainB l.toArray)=true)
 (h:wpQuiet P l.toArray (fun w'=>∃n:Ext w,w'=n.v) (fun a'=>∀w',(∃n:Ext w,w'=n.v)→Q .normal a' w') l a):(Code.region id l.toArray true).wpIn (Fence.wide.inRound r) m P Q a w:=
 region_all (ro:=some r) (fun w'=>∃n:Ext w,w'=n.v) hm hB ⟨⟨w.drew,drew_below w⟩,rfl⟩ h
theorem calm_same {P:Program} {f:FuncId} {args:Array Value} {w:World} {n:Ext w} {v:Value} (h:Calls P f args n.v fun e w'=>e= .returned v∧w'=n.v):Calls P f args n.v fun e w''=>e= .returned v∧∃m:Ext w,w''=m.v:=
 h.mono fun _ w' ⟨he,hm⟩=>⟨he,n,hm⟩
structure RdB (BD BI BT BR:Nat) (d i rest:Nat) (T:Tid) (L:Lv) (C:Ch) (w:World):Prop where
 dp:Boxed w BD 3 (.int .i64 (d:Nat))
 ix:Boxed w BI 39 (.int .u64 (i:Nat))
 tr:Boxed w BT 114 (tp T)
 rs:Boxed w BR 219 (.int .i64 (rest:Nat))
 rad:RadAt w T L C
theorem below_any (T:Tid) (d i rest:Nat) (w:World):
 Calls Tryz.prog 195 #[tp T, .int .i64 (d:Nat), .int .u64 (i:Nat), .int .i64 (rest:Nat)] w fun e w'=>
  e= .returned (.func (.func 250) #[] #[.pointer (some ⟨w.heap.size+1,0,none⟩), .pointer (some ⟨w.heap.size+2,0,none⟩), .pointer (some ⟨w.heap.size,0,none⟩), .pointer (some ⟨w.heap.size+3,0,none⟩)])∧
  w'=(((w.alloc (.cells #[tp T] 114)).alloc (.cells #[.int .i64 (d:Nat)] 3)).alloc (.cells #[.int .u64 (i:Nat)] 39)).alloc (.cells #[.int .i64 (rest:Nat)] 219):=by
 unfold tp
 go_enter Tryz.func195,Tryz.ntmps195
 go_wp2_with fail
 go_ret
 exact ⟨rfl,rfl⟩
def encsB (L:Lv) (d i rest j:Nat):Array Value:=#[.int .u64 ((fan d * i+j:Nat):Int),rwV (row L (d+1) (fan d * i+j) rest)]
structure BI (J:Nat→World→Prop) (N0 S0 S1 l d a b k:Nat) (A:World):Prop where
 j:J k A
 y:A.heap[N0]? =some (.cells #[.func (.yield l) #[] #[]] 340 (0,0))
 rd:RdS S0 S1 (d+1) a b A
theorem round_any {a b r:Nat} {P:Program} {l:Nat} {f:FuncId} {tmps:Array Value} {assign body:Code} {w:World} {R:Ending→World→Prop} (h:RoundIn Fence.wide a P l f tmps assign body w R):RoundIn (Fence.wide.inRound r) b P l f tmps assign body w R:=
 ⟨h.1,fun c cs _=>h.2 c cs (room_wide _)⟩
theorem row_div {d i:Nat} (hd:d<6):i * sz d/sz (d+1)=fan d * i∧cntR (d+1) (i * sz d) ((i+1) * sz d)=fan d:=by
 have e:=sz_fan d hd
 have hp:=sz_pos (d+1)
 have e1:i * sz d=fan d * i * sz (d+1):=by rw[e,←Nat.mul_assoc,Nat.mul_comm i]
 have e2:(i+1) * sz d=(fan d * i+fan d) * sz (d+1):=by rw[e,←Nat.mul_assoc,Nat.mul_comm (i+1),Nat.mul_succ]
 have h1:i * sz d/sz (d+1)=fan d * i:=by rw[e1,Nat.mul_div_cancel _ hp]
 refine ⟨h1,?_⟩
 unfold cntR
 rw[h1,e2]
 have hf:=fan_pos d
 have h2:((fan d * i+fan d) * sz (d+1) - 1)/sz (d+1)=fan d * i+fan d - 1:=by
  rw[Nat.div_eq_iff hp]
  have e3:(fan d * i+fan d) * sz (d+1)=(fan d * i+fan d - 1) * sz (d+1)+sz (d+1):=by rw[←Nat.succ_mul];congr 1;omega
  omega
 rw[h2];omega
theorem BI.kept {F:Nat→Prop} {J:Nat→World→Prop} {N0 S0 S1 l d a b k:Nat} {A A':World} (h:BI J N0 S0 S1 l d a b k A) (hj:J k A') (kk:Kept F A A') (hF:∀x,F x→x≠0∧x≠1∧x≠N0∧x≠S0∧x≠S1):BI J N0 S0 S1 l d a b k A':=
 ⟨hj,kept_at kk h.y (fun z=>(hF _ z).2.2.1 rfl),kept_at kk h.rd.sp (fun z=>(hF _ z).2.2.2.1 rfl),kept_at kk h.rd.dp (fun z=>(hF _ z).2.2.2.2 rfl),h.rd.tab.kept kk ⟨fun z=>(hF _ z).1 rfl,fun z=>(hF _ z).2.1 rfl⟩⟩
set_option maxRecDepth 100000 in
set_option maxHeartbeats 1000000 in
theorem below_seq (BD BIx BT BR d i rest:Nat) (T:Tid) (L:Lv) (C:Ch) (hd:d<6) (hi:(i+1) * sz d≤34359738368) (hr:rest≤3) (n:Nat):
 SeqK n Tryz.prog 250 #[.pointer (some ⟨BD,0,none⟩), .pointer (some ⟨BIx,0,none⟩), .pointer (some ⟨BT,0,none⟩), .pointer (some ⟨BR,0,none⟩)] (encsB L d i rest) (RdB BD BIx BT BR d i rest T L C) (fan d):=by
 intro l J Jx W hR hJ hJx hY h0
 obtain ⟨N0,hN⟩:∃N0,W.heap.size=N0:=⟨_,rfl⟩
 have HR:=hide hR
 have HJ:=hide hJ
 have HJx:=hide hJx
 have HY:=hide hY
 have H0:=hide h0
 obtain ⟨W0,hW0⟩:∃W0,W.alloc (.cells #[.func (.yield l) #[] #[]] 340)=W0:=⟨_,rfl⟩
 have b0:Below N0 W W0:=by rw[←hW0,←hN];exact grown1 W _
 have y0:W0.heap[N0]? =some (.cells #[.func (.yield l) #[] #[]] 340 (0,0)):=by rw[←hW0,←hN];exact World.alloc_heap_new W _
 have J0:=hide (HJ.out 0 W W0 h0 (Kept.of_below (by rw[hN];exact b0)))
 have rd0:=HR.out _ _ J0.out
 have c1:=rd0.dp.cell
 have c2:=rd0.ix.cell
 have l1:=box_lt rd0.dp
 have l2:=box_lt rd0.ix
 have hx:= @ext_cell W0
 have hne:=ext_ne W0
 have HT:=hide rd0.rad.tab
 have hz:=sz_pos d
 have i1:i<34359738368:=by
  have:i+1≤(i+1) * sz d:=Nat.le_mul_of_pos_right _ hz
  omega
 obtain ⟨A,hA⟩:∃A:Nat,i * sz d=A:=⟨_,rfl⟩
 obtain ⟨B,hB⟩:∃B:Nat,(i+1) * sz d=B:=⟨_,rfl⟩
 have CS:=fun X hX=>hide (spanOf_at d (by omega) (i:Int) (A:Int) (B:Int) (by omega) (by omega) (by rw[←hA,Int.natCast_mul]) (by rw[←hB,Int.natCast_mul];rfl) (by omega) X hX)
 have CR:=fun X=>hide (spanRows_any (A:Int) (B:Int) (d+1) X)
 have d6:(d:Int)<6:=by omega
 have d0:(0:Int)≤d:=by omega
 have HN:=hide hN
 have HW0:=hide hW0
 have Y0:=hide y0
 have B0:=hide b0
 clear hR hJ hJx hY h0 rd0 hN hW0 y0 b0
 unfold spanV at CS CR
 refine callsIn_of_wp_marks Tryz.func250 rfl trivial ?_ rfl
 simp only[Tryz.ntmps250,List.size_toArray,List.length_cons,List.length_nil,Nat.reduceAdd,Nat.reduceSub,Array.replicate_succ,Array.replicate_zero,List.push_toArray,List.append_toArray,List.nil_append,List.cons_append]
 gi_wp2_with fail
 rw[HW0.out,HN.out]
 refine tail_w 5 (by kernel_rfl) (by kernel_rfl) ?_
 simp only[List.take_succ_cons,List.take_zero,List.drop_succ_cons,List.drop_zero]
 repeat (first|go_big_quiet_step (exact calm_of (CS _ (HT.out.below (Ext.h _))).out)|(refine wpQuiet_step (fun K hK=> ?_);go_simp;refine hK _ ?_;clear hK K))
 refine wpQuiet_nil ?_
 rintro _ ⟨n1,rfl⟩
 gi_wp2_with fail
 refine wcall (CR n1.v).out ?_
 rintro e w2 ⟨rfl,hw2⟩
 obtain ⟨S,hS⟩:∃S,n1.v.heap.size=S:=⟨_,rfl⟩
 have bb:Below n1.v.heap.size n1.v w2:=by rw[hw2];exact ((Below.refl _ _).alloc (Nat.le_refl _) _).alloc (by simp) _
 have b2:Below N0 W w2:=(B0.out.trans (n1.h.mono (by have:=(Array.getElem?_eq_some_iff.1 Y0.out).1;omega))).trans (bb.mono (by have:=n1.h.size;have:=(Array.getElem?_eq_some_iff.1 Y0.out).1;omega))
 have ln:N0<n1.v.heap.size:=by have:=n1.h.size;have:=(Array.getElem?_eq_some_iff.1 Y0.out).1;omega
 have y2:w2.heap[N0]? =some (.cells #[.func (.yield l) #[] #[]] 340 (0,0)):=(bb.block N0 ln).trans ((n1.h.block N0 (Array.getElem?_eq_some_iff.1 Y0.out).1).trans Y0.out)
 have p0:w2.heap[S]? =some (.cells #[.int .u64 (A:Nat), .int .u64 (B:Nat)] 282 (0,0)):=by rw[hw2,alloc_at,if_neg (by simp;omega),alloc_at,if_pos hS.symm]
 have p1:w2.heap[S+1]? =some (.cells #[.int .i64 ((d:Int)+1)] 3 (0,0)):=by rw[hw2,alloc_at,if_pos (by simp;omega)];rfl
 have s2:w2.heap.size=S+2:=by rw[hw2];simp;omega
 have J2:=HJ.out 0 W w2 H0.out (Kept.of_below (by rw[HN.out];exact b2))
 have I2:=hide (show BI J N0 S (S+1) l d A B 0 w2 from ⟨J2,y2,p0,p1,(HR.out _ _ J2).rad.tab⟩)
 have nS:N0<S:=by omega
 have q:=row_div (i:=i) hd
 rw[hA,hB] at q
 have hAB:A<B:=by
  have:(i+1) * sz d=i * sz d+sz d:=Nat.succ_mul _ _
  omega
 have seq:=SeqK.of_B (rows_seq S (S+1) (d+1) A B (by omega) hAB (by omega) (n - 1))
 rw[q.1,q.2] at seq
 have SEQ:=hide seq
 have NW:=hide (show W.heap.size=N0 from HN.out)
 have HAB:=hide (And.intro hA hB)
 rw[hS]
 clear CS CR hw2 bb b2 ln y2 p0 p1 J2 seq q hS c1 c2 l1 l2 hx hne HT J0 Y0 B0 HW0 H0 hA hB n1
 gi_wp2_with fail
 refine range_K (w:=w2) rfl (enters_of Tryz.func289 (by kernel_rfl) rfl) SEQ.out (fun _=>rfl) (BI J N0 S (S+1) l d A B) (fun c k X=>c= .ret∧Jx k X) (fun s X h=>h.rd) ?hI ?hIx I2.out ?round ?done ?stop
 case hI=>
  intro s X X' h k
  have hj:=HJ.out _ _ _ h.j (k.mono fun b hb=>⟨by rw[NW.out];rw[s2] at hb;omega,hb.2⟩)
  exact h.kept hj k (fun x hx=>by rw[s2] at hx;omega)
 case hIx=>
  rintro c s X X' ⟨rfl,h⟩ k
  exact ⟨rfl,HJx.out _ _ _ h (k.mono fun b hb=>⟨by rw[NW.out];rw[s2] at hb;omega,hb.2⟩)⟩
 case round=>
  rintro k X ⟨r0,hr0⟩ hdf hsz h hk
  rw[s2] at hr0 hdf hsz ⊢
  have HI:=hide h
  have HR0:=hide hr0
  clear h hr0 hdf
  simp only[encs1]
  obtain ⟨KK,hKK⟩:∃KK:Int,((fan d * i+k:Nat):Int)=KK:=⟨_,rfl⟩
  rw[hKK]
  have HK:=hide hKK
  clear hKK
  gi_wp2_with fail
  refine ⟨Kept.refl _ _,fun r=> ?_⟩
  have kp:=Kept.put (F:=fun b=>b=S+3) X (S+2+1) (.loop r) rfl
  have kj:=Kept.put (F:=fun b=>W.heap.size≤b∧NC X b) X (S+2+1) (.loop r) ⟨by rw[NW.out];omega,NC.loop HR0.out⟩
  have jx:=HJ.out _ _ _ HI.out.j kj
  obtain ⟨X2,hX2⟩:∃X2,X.putObj (S+2+1) (.loop r)=X2:=⟨_,rfl⟩
  rw[hX2] at kp jx ⊢
  have I3:=hide (HI.out.kept jx kp (fun x hx=>by omega))
  have lz:S+4≤X2.heap.size:=by have:=kp.size;omega
  have rd:=HR.out _ _ jx
  have c1:=rd.dp.cell
  have c2:=rd.tr.cell
  have c3:=rd.rs.cell
  have c4:X2.cell? ⟨N0,0,none⟩=some (.func (.yield l) #[] #[]):=by simp[World.cell?,I3.out.y]
  have l1:=box_lt rd.dp
  have l2:=box_lt rd.tr
  have l3:=box_lt rd.rs
  have l4:N0<X2.heap.size:=by omega
  have RA:=hide rd.rad
  have hx:= @ext_cell X2
  have hne:=ext_ne X2
  have kb:fan d * i+k<18446744073709551616:=by
   have h1:(fan d * i+k+1)≤fan d *(i+1):=by rw[Nat.mul_succ];omega
   have h2:fan d *(i+1)≤fan d *(i+1) * sz (d+1):=Nat.le_mul_of_pos_right _ (sz_pos _)
   have h3:fan d *(i+1) * sz (d+1)=(i+1) * sz d:=by rw[sz_fan d hd,←Nat.mul_assoc,Nat.mul_comm (i+1)]
   omega
  have CW:=fun Y hY=>hide (row_any (w:=Y) (T:=T) (L:=L) (C:=C) hY (d+1) (fan d * i+k) rest (by omega) kb hr)
  obtain ⟨rw_,hrw⟩:∃rw_,row L (d+1) (fan d * i+k) rest=rw_:=⟨_,rfl⟩
  rw[hrw,HK.out] at CW
  have HRW:=hide hrw
  unfold tp at c2
  unfold tp rwV at CW
  have YY:=hide (HY.out k)
  clear rd kp kj hX2 hrw HI HR0 r0
  gi_wp2_with fail
  refine tail_r 8 (by kernel_rfl) (by kernel_rfl) ?_
  simp only[List.take_succ_cons,List.take_zero,List.drop_succ_cons,List.drop_zero]
  repeat (first|go_big_quiet_step (exact calm_of (CW _ (RA.out.below (Ext.h _))).out)|(refine wpQuiet_step (fun K hK=> ?_);go_simp;refine hK _ ?_;clear hK K))
  refine wpQuiet_nil ?_
  rintro _ ⟨n2,rfl⟩
  have jj:=HJ.out k X2 n2.v I3.out.j (Kept.of_below n2.h)
  obtain ⟨fn,tm,asg,bdy,hy,hRr⟩:=YY.out n2.v hk jj (by have:=n2.h.size;rw[NW.out];omega)
  have HRR:=hide (round_any (r:=S+2+1) (b:=n - 1 - 1 - 1) hRr)
  unfold encsB at hy
  rw[HRW.out,HK.out] at hy
  unfold rwV at hy
  clear hRr jj YY CW
  gi_wp2_with fail
  refine ⟨(fun h=>by cases h),HRR.out.mono ?_⟩
  clear HRR hy
  rintro e' w4 ⟨hk4,(⟨rfl,j4⟩|⟨rfl,jx4⟩)⟩
  ·have kk:=(Kept.of_below (F:=fun b=>b<S+2) n2.h).trans (hk4.mono (G:=fun b=>b<S+2) (fun b hb=>by rw[NW.out] at hb;omega)) (fun _ _ z=>z)
   have kq:=(Kept.of_below (F:=fun b=>b<N0) n2.h).trans (hk4.mono (G:=fun b=>b<N0) (fun b hb=>by rw[NW.out] at hb;omega)) (fun _ _ z=>z)
   have FF:=hide (show Kept (fun b=>b<S+2) X2 w4∧BI J N0 S (S+1) l d A B (k+1) w4 from ⟨kk,j4,kept_at kq I3.out.y (by omega),kept_at kq I3.out.rd.sp (by omega),kept_at kq I3.out.rd.dp (by omega),(HR.out _ _ j4).rad.tab⟩)
   clear kk kq hk4 j4 I3
   gi_wp2_with fail
   exact FF.out
  ·have kk:=(Kept.of_below (F:=fun b=>b<S+2) n2.h).trans (hk4.mono (G:=fun b=>b<S+2) (fun b hb=>by rw[NW.out] at hb;omega)) (fun _ _ z=>z)
   have F1:=hide kk
   have F2:=hide jx4
   clear kk hk4 jx4 I3
   gi_wp2_with fail
   exact ⟨F1.out,rfl,F2.out⟩
 case done=>
  rintro X h hdf
  rw[s2] at hdf ⊢
  have HH:=hide h
  have HD:=hide hdf
  clear h hdf
  gi_wp2_with fail
  refine ⟨by simp, .inl ⟨_,_,rfl,run_takeDeferred HD.out,?_⟩⟩
  refine ⟨.tuple #[],by simp[results,Tryz.results250,go_sem],⟨_,rfl⟩, .inl (HJ.out _ _ _ HH.out.j (Kept.put _ _ _ ⟨by rw[NW.out];omega,NC.deferred HD.out⟩))⟩
 case stop=>
  rintro c k X hk ⟨rfl,h⟩ hdf
  rw[s2] at hdf ⊢
  have HH:=hide h
  have HD:=hide hdf
  clear h hdf
  gi_wp2_with fail
  refine ⟨by simp, .inl ⟨_,_,rfl,run_takeDeferred HD.out,?_⟩⟩
  refine ⟨.tuple #[],by simp[results,Tryz.results250,go_sem],⟨_,rfl⟩, .inr ⟨k,hk,HJx.out _ _ _ HH.out (Kept.put _ _ _ ⟨by rw[NW.out];omega,NC.deferred HD.out⟩)⟩⟩
end Go.Proofs.YtdgdhnnakcncoaaGreatDoor
