/- Of the proof of HeapClasses: texts RXn. -/
import Derived.Test.YtdgdhnnakcncoaaGreatDoorJ13
import Derived.Test.YtdgdhnnakcncoaaGreatDoorJ06
namespace Go.Proofs.YtdgdhnnakcncoaaGreatDoor
set_option maxHeartbeats 1600000
open Go.ChangeShapes Go.WideShapes Go.ChangeAt Go.RowKit Go.Proofs.Bt Go.Shelf Go.Proofs.Rx Go.Maps
set_option linter.unusedVariables false
set_option linter.unusedSimpArgs false
attribute [local go_sem] Oper.semAt_some
theorem held_r {P:Program} {m id r:Nat} {Q:Exit→Act→World→Prop} {a:Act} {w:World} {l:List Oper} (S:World→Prop) (hm:P.follows .mixedOrders=true) (hB:plainB l.toArray=true) (hS:S w.drew)
 (h:S w.drew→wpAnyH P .any l.toArray (NoOut Q) S l.toArray.size (Array.replicate l.toArray.size false) a w.drew):(Code.region id l.toArray true).wpIn (Fence.wide.inRound r) m P Q a w:=
 region_held (ro:=some r) (S:=S) hm hB (h hS)
def dropC (C:Ch) (i:Nat):Ch:=fun j=>if j=i then none else C j
theorem RadAt.delC {w w':World} {T:Tid} {L:Lv} {C:Ch} (h:RadAt w T L C) {i:Nat} (hm:MapG encC w' T.cm (fun q=>if q=i then none else (C q).map (·.1))) (hg:w.grownBy w' (some T.cm)):RadAt w' T L (dropC C i)∧Kept (fun x=>x=T.cm) w w':=by
 have k:Kept (fun x=>x=T.cm) w w':=Kept.of_grown hg (fun k e=>by cases e;rfl)
 have wr:Wr T C T.cm:= .inl rfl
 have two:=h.two
 have b0:=h.base _ (.inl wr)
 have sub:∀j x,dropC C i j=some x→C j=some x:=fun j x hx=>by
  unfold dropC at hx
  split at hx
  ·cases hx
  ·exact hx
 have wsub:∀x,Wr T (dropC C i) x→Wr T C x:=fun x hx=>by
  rcases hx with e|⟨d,hd,e⟩|⟨j,b,c,hc,e⟩
  ·exact .inl e
  ·exact .inr (.inl ⟨d,hd,e⟩)
  ·exact .inr (.inr ⟨j,b,c,sub _ _ hc,e⟩)
 have bl:∀{x},x<w.heap.size→x≠T.cm→w'.heap[x]? =w.heap[x]? :=fun hx hne=>k.block _ hx hne
 have t0:T.tb≠T.cm:=fun z=>h.apT.1 (z▸wr)
 have l0:T.lb≠T.cm:=fun z=>h.apT.2 (z▸wr)
 have bt:=bl (h.lt (x:=T.tb) (.inr (.inl rfl))) t0
 have blb:=bl (h.lt (x:=T.lb) (.inr (.inr rfl))) l0
 refine ⟨⟨h.tab.kept k ⟨by omega,by omega⟩,(cell_block bt 0).trans h.c0,(cell_block bt 1).trans h.c1,fun d' hd'=>(cell_block blb d').trans (h.lv d' hd'),fun d' hd'=>(h.mp d' hd').kept (bl (h.mp d' hd').lt (h.apC d' hd')),?_,fun j b c hc=>(h.ch j b c (sub _ _ hc)).kept k (h.apB j b c (sub _ _ hc)).1,h.apM,h.apC,⟨fun z=>h.apT.1 (wsub _ z),fun z=>h.apT.2 (wsub _ z)⟩,fun j b c hc=>h.apB j b c (sub _ _ hc),fun j j' b c c' hc hc'=>h.inj j j' b c c' (sub _ _ hc) (sub _ _ hc'),fun x hx=>h.base x (hx.imp (wsub x) id),h.two⟩,k⟩
 have:(fun j=>(dropC C i j).map (·.1))=fun q=>if q=i then none else (C q).map (·.1):=by
  funext q
  unfold dropC
  by_cases z:q=i
  ·rw[if_pos z,if_pos z];rfl
  ·rw[if_neg z,if_neg z]
 rw[this];exact hm
def ForP (T:Tid) (L:Lv) (C:Ch) (d i:Nat) (w:World) (e:Ending) (w':World):Prop:=
 e= .returned (.tuple #[])∧(∃L' C',RadAt w' T L' C'∧Bare d (i * sz d) ((i+1) * sz d) L' C'∧Outs d (i * sz d) ((i+1) * sz d) L L' C C'∧∀x y,C' x=some y→C x=some y)∧Kept (Wr T C) w w'
def ForOk (T:Tid) (n d:Nat):Prop:=
 ∀(w:World) (L:Lv) (C:Ch),RadAt w T L C→∀i,Hang L C n d i→(i+1) * sz d≤34359738368→Calls Tryz.prog 260 #[tp T, .int .i64 (d:Nat), .int .u64 (i:Nat)] w (ForP T L C d i w)
structure FG (N:Nat) (w:World) (T:Tid) (d i:Nat) (L:Lv) (C:Ch) (Q k:Nat) (X:World):Prop where
 tr:Bk X N 114 #[tp T]
 dp:Bk X (N+1) 3 #[.int .i64 (d:Nat)]
 rd:RdS Q (Q+1) (d+1) (i * sz d) ((i+1) * sz d) X
 ex:∃L' C',RadAt X T L' C'∧FInv L C d i k L' C'
 kw:Kept (Wr T C) w X
theorem wr_sub {T:Tid} {C C':Ch} (h:∀x y,C' x=some y→C x=some y) {x:Nat} (hx:Wr T C' x):Wr T C x:=by
 rcases hx with e|⟨d,hd,e⟩|⟨j,b,c,hc,e⟩
 ·exact .inl e
 ·exact .inr (.inl ⟨d,hd,e⟩)
 ·exact .inr (.inr ⟨j,b,c,h _ _ hc,e⟩)
theorem FG.kept {F:Nat→Prop} {N:Nat} {w X X':World} {T:Tid} {d i:Nat} {L:Lv} {C:Ch} {Q k:Nat} (h:FG N w T d i L C Q k X) (kk:Kept F X X') (hN:w.heap.size=N) (h0:RadAt w T L C) (hQ:N+2≤Q) (hF:∀x,F x→Q+2≤x):FG N w T d i L C Q k X':=by
 obtain ⟨L',C',r,f⟩:=h.ex
 refine ⟨h.tr.kept kk (fun z=>by have:=hF _ z;omega),h.dp.kept kk (fun z=>by have:=hF _ z;omega),⟨kept_at kk h.rd.sp (fun z=>by have:=hF _ z;omega),kept_at kk h.rd.dp (fun z=>by have:=hF _ z;omega),h.rd.tab.kept kk ⟨fun z=>by have:=hF _ z;omega,fun z=>by have:=hF _ z;omega⟩⟩,⟨L',C',r.kept kk (fun x hx=>⟨fun z=> ?_,?_⟩),f⟩,h.kw.trans kk (fun x hx hf=>by have:=hF _ hf;omega)⟩
 ·have h1:Foot T C x:=z.imp (wr_sub f.sub) id
  have:=h0.lt h1
  have:=hF _ hx
  omega
 ·have:=h0.base T.tb (.inr (.inl rfl))
  have:=h0.lt (x:=T.tb) (.inr (.inl rfl))
  have:=hF _ hx
  omega
theorem RadAt.keeps {W W':World} {T:Tid} {L:Lv} {C:Ch} {B:Nat} (h:RadAt W T L C) (hB:T.cm<B∧∀d,d≤6→T.mp d<B) (k:Kept (Wr T C) W W'):KeepsFrom B W W':=by
 refine ⟨k.size,fun b o hb ho hc=>kept_at k ho (fun z=> ?_)⟩
 rcases z with e|⟨d,hd,e⟩|⟨j,b',c,hj,e⟩
 ·have:=hB.1;omega
 ·have:=hB.2 d hd;omega
 ·subst e
  obtain ⟨g,h1,h2⟩:=(h.ch j _ c hj).row.used
  have h3:=h1.cell 0 (by omega)
  unfold World.cell? at h3
  rw[ho] at h3
  cases o with
  |cells cs t z=>cases hc
  |_=>simp at h3
set_option maxRecDepth 100000 in
set_option maxHeartbeats 2000000 in
theorem forget_core (T:Tid) (n d:Nat) (hnd:n+d=6) (IH:d<6→ForOk T (n - 1) (d+1)):ForOk T n d:=by
 intro w L C h i hG hi
 have hd:d≤6:=by omega
 obtain ⟨R,hR⟩:∃R,R=ForP T L C d i w:=⟨_,rfl⟩
 rw[←hR]
 obtain ⟨N,hN⟩:∃N,w.heap.size=N:=⟨_,rfl⟩
 obtain ⟨V,hV⟩:∃V,(w.alloc (.cells #[tp T] 114)).alloc (.cells #[.int .i64 (d:Nat)] 3)=V:=⟨_,rfl⟩
 have bV:Below N w V:=by rw[←hV,←hN];exact ((Below.refl _ w).alloc (Nat.le_refl _) _).alloc (by simp) _
 have k0:Bk V N 114 #[tp T]:=by unfold Bk;rw[←hV,alloc_at,if_neg (by simp;omega),alloc_at,if_pos hN.symm]
 have k1:Bk V (N+1) 3 #[.int .i64 (d:Nat)]:=by unfold Bk;rw[←hV,alloc_at,if_pos (by simp;omega)]
 have RV:=hide (h.below (by rw[hN];exact bV))
 have R0:=hide h
 have HR:=hide hR
 have HN:=hide hN
 have HV:=hide hV
 have HG:=hide hG
 have BV:=hide bV
 have K0:=hide k0
 have K1:=hide k1
 have y0:=k0.cell 0 _ rfl
 have y1:=k1.cell 0 _ rfl
 have hz:=sz_pos d
 have i1:i<34359738368:=by
  have:i+1≤(i+1) * sz d:=Nat.le_mul_of_pos_right _ hz
  omega
 clear hR h hG bV k0 k1
 unfold tp at y0 hV ⊢
 refine (callsIn_wide (n:=3)).1 ?_
 refine callsIn_of_wp_marks Tryz.func260 rfl trivial ?_ rfl
 simp only[Tryz.ntmps260,List.size_toArray,List.length_cons,List.length_nil,Nat.reduceAdd,Nat.reduceSub,Array.replicate_succ,Array.replicate_zero,List.push_toArray,List.append_toArray,List.nil_append,List.cons_append]
 by_cases d6:d=6
 ·subst d6
  have x1:=RV.out.c1
  obtain ⟨w2,hrun,hm,hg⟩:=RV.out.cm.del tyC 0 i (by omega)
  have U:=hide (RV.out.delC hm hg)
  have F:=hide (show R (.returned (.tuple #[])) w2 from by
   rw[HR.out]
   refine ⟨rfl,⟨L,dropC C i,U.out.1,⟨fun d' j hd' h6 _=>by omega,fun j hj=> ?_⟩,⟨fun _ _ _=>rfl,fun j hj=> ?_⟩,fun x y hx=> ?_⟩,(Kept.of_below (by rw[HN.out];exact BV.out)).trans U.out.2 (fun x _ hx=> .inl hx)⟩
   ·rw[ins_self hj];unfold dropC;rw[if_pos rfl]
   ·unfold dropC;rw[if_neg];intro z;rw[z] at hj;exact hj ⟨Nat.le_refl _,Nat.le_refl _⟩
   ·unfold dropC at hx;split at hx
    ·cases hx
    ·exact hx)
  simp only[Int.cast_ofNat_Int] at hV y1 ⊢
  clear hm hg U IH HV
  gi_wp2_with fail
  exact ⟨.tuple #[],by simp[results,Tryz.results260,go_sem],F.out⟩
 ·have dlt:d<6:=by omega
  obtain ⟨n',rfl⟩:∃n',n=n'+1:=⟨n - 1,by omega⟩
  have IH':=hide (IH dlt)
  rw[Nat.add_sub_cancel] at IH'
  have db:((d:Int)==6)=false:=beq_eq_false_iff_ne.2 (by omega)
  have d0:(0:Int)≤(d:Int):=by omega
  have d7:(d:Int)<6:=by omega
  have hwr:IntKind.i64.wrap ((d:Int)+1)=(d:Int)+1:=by rw[IntKind.wrap_i64];omega
  have htn:((d:Int)+1).toNat=d+1:=by omega
  have hb0:(0:Int)≤(d:Int)+1:=by omega
  have hb1:(d:Int)+1<7:=by omega
  obtain ⟨A,hA⟩:∃A:Nat,i * sz d=A:=⟨_,rfl⟩
  obtain ⟨B,hB⟩:∃B:Nat,(i+1) * sz d=B:=⟨_,rfl⟩
  have hAB:A<B:=by rw[←hA,←hB,Nat.succ_mul];omega
  have CS:=fun X hX=>hide (spanOf_at d (by omega) (i:Int) (A:Int) (B:Int) (by omega) (by omega) (by rw[←hA,Int.natCast_mul]) (by rw[←hB,Int.natCast_mul];rfl) (by omega) X hX)
  have CRW:=fun X=>hide (spanRows_any (A:Int) (B:Int) (d+1) X)
  have HT:=hide RV.out.tab
  have l1:=K1.out.lt
  have hx:= @ext_cell V
  have hne:=ext_ne V
  have HAB:=hide (And.intro hA hB)
  unfold spanV at CS CRW
  clear IH hA hB HV
  gi_wp2_with fail
  refine tail_w 5 (by kernel_rfl) (by kernel_rfl) ?_
  simp only[List.take_succ_cons,List.take_zero,List.drop_succ_cons,List.drop_zero]
  repeat (first|go_big_quiet_step (exact calm_of (CS _ (HT.out.below (Ext.h _))).out)|(refine wpQuiet_step (fun K hK=> ?_);go_simp;refine hK _ ?_;clear hK K))
  refine wpQuiet_nil ?_
  rintro _ ⟨n1,rfl⟩
  gi_wp2_with fail
  refine wcall2 (CRW n1.v).out ?_
  rintro e Z ⟨rfl,hZ⟩
  obtain ⟨Q,hQ⟩:∃Q,n1.v.heap.size=Q:=⟨_,rfl⟩
  have bZ:Below n1.v.heap.size n1.v Z:=by rw[hZ];exact ((Below.refl _ _).alloc (Nat.le_refl _) _).alloc (by simp) _
  have lQ:N+2≤Q:=by have:=n1.h.size;omega
  have p0:Z.heap[Q]? =some (.cells #[.int .u64 (A:Nat), .int .u64 (B:Nat)] 282 (0,0)):=by rw[hZ,alloc_at,if_neg (by simp;omega),alloc_at,if_pos hQ.symm]
  have p1:Z.heap[Q+1]? =some (.cells #[.int .i64 ((d:Int)+1)] 3 (0,0)):=by rw[hZ,alloc_at,if_pos (by simp;omega)];rfl
  have sZ:Z.heap.size=Q+2:=by rw[hZ];simp;omega
  have bw:Below w.heap.size w Z:=by
   have h1:Below w.heap.size w V:=by rw[HN.out];exact BV.out
   exact (h1.trans (n1.h.mono h1.size)).trans (bZ.mono (Nat.le_trans h1.size n1.h.size))
  have RZ:=(RV.out.below n1.h).below bZ
  have I0:=hide (show FG N w T d i L C Q 0 Z from ⟨(K0.out.below n1.h).below bZ,(K1.out.below n1.h).below bZ,by rw[HAB.out.1,HAB.out.2];exact ⟨p0,p1,RZ.tab⟩,⟨L,C,RZ,FInv.zero L C d i⟩,Kept.of_below bw⟩)
  have q:=row_div (i:=i) dlt
  rw[HAB.out.1,HAB.out.2] at q
  have SEQ:=hide (rows_seq Q (Q+1) (d+1) A B (by omega) hAB (by rw[←HAB.out.2];exact hi) (3 - 1))
  rw[q.1,q.2] at SEQ
  have NB:=hide (show T.cm<Q+2∧∀d,d≤6→T.mp d<Q+2 from ⟨by have:=R0.out.lt (x:=T.cm) (.inl (.inl rfl));rw[HN.out] at this;omega,fun d hd=>by have:=R0.out.lt (x:=T.mp d) (.inl (.inr (.inl ⟨d,hd,rfl⟩)));rw[HN.out] at this;omega⟩)
  rw[hQ]
  clear CS CRW hZ bZ p0 p1 bw RZ q hQ hx hne HT n1 hV y0 y1 l1 K0 K1 BV RV
  gi_wp2_with fail
  refine range_law (w:=Z) rfl (enters_of Tryz.func289 (by kernel_rfl) rfl) SEQ.out (fun _=>rfl) (fun pre X=>FG N w T d i L C Q pre.length X) (fun c pre X=>False) (fun s X h=>by have:=h.rd;rwa[HAB.out.1,HAB.out.2] at this) ?hI ?hIx I0.out ?round ?done ?stop
  case hI=>
   intro s X X' h k
   exact h.kept k HN.out R0.out lQ (fun x hx=>by rw[sZ] at hx;omega)
  case hIx=>rintro c s X o' h _;exact h
  case stop=>rintro c pre x X hk h;exact h.elim
  case round=>
   rintro pre x X ⟨r0,hr0⟩ hdf h hk
   obtain ⟨e1,e2,e3⟩:=pre_range hk
   subst e2
   obtain ⟨k,hkk⟩:∃k,pre.length=k:=⟨_,rfl⟩
   rw[sZ] at hr0 hdf ⊢
   rw[hkk] at h e3 ⊢
   have NX:∀X',FG N w T d i L C Q (k+1) X'→FG N w T d i L C Q (pre++ [k]).length X':=fun X' hX=>by rw[List.length_append,hkk];exact hX
   have HNX:=hide NX
   have HI:=hide h
   have lX:Q+3<X.heap.size:=(Array.getElem?_eq_some_iff.1 hr0).1
   clear h hr0 hdf hk NX e1 hkk
   simp only[encs1]
   obtain ⟨J,hJ⟩:∃J:Int,((fan d * i+k:Nat):Int)=J:=⟨_,rfl⟩
   rw[hJ]
   have HJ:=hide hJ
   clear hJ
   gi_wp2_with fail
   refine ⟨keepsFrom_of (Kept.refl (fun _=>False) X) (fun b hb e=>e),fun r1=> ?_⟩
   have kp:=Kept.put (F:=fun b=>b=Q+3) X (Q+2+1) (.loop r1) rfl
   obtain ⟨X2,hX2⟩:∃X2,X.putObj (Q+2+1) (.loop r1)=X2:=⟨_,rfl⟩
   rw[hX2] at kp ⊢
   have I3:=hide (HI.out.kept kp HN.out R0.out lQ (fun x hx=>by omega))
   have lz:Q+3<X2.heap.size:=by have:=kp.size;omega
   obtain ⟨L1,C1,r1',f1⟩:=I3.out.ex
   have RA:=hide r1'
   have FI:=hide f1
   have jb:fan d * i+k<67108864:=by
    have h1:(fan d * i+k+1) * sz (d+1)≤(i+1) * sz d:=(kid_ins (d:=d) (i:=i) (k:=fan d * i+k) dlt (by omega) (by rw[Nat.mul_succ];omega)).2
    have h2:512≤sz (d+1):=by
     have:∀d,d<6→512≤sz (d+1):=by decide
     exact this d dlt
    have h3:(fan d * i+k+1) * 512≤(fan d * i+k+1) * sz (d+1):=Nat.mul_le_mul_left _ h2
    omega
   have g0:=I3.out.tr.cell 0 _ rfl
   have g1:=I3.out.dp.cell 0 _ rfl
   have g2:=r1'.c0
   have g3:=r1'.lv (d+1) (by omega)
   have m0:=I3.out.tr.lt
   have m1:=I3.out.dp.lt
   have m2:=r1'.lt (x:=T.tb) (.inr (.inl rfl))
   have m3:=r1'.lt (x:=T.lb) (.inr (.inr rfl))
   have hx:∀Y,Below X2.heap.size X2 Y→∀b o,b<X2.heap.size→Y.cell? ⟨b,o,none⟩=X2.cell? ⟨b,o,none⟩:=fun Y hY b o hb=>hY.cell (p:=⟨b,o,none⟩) hb
   have LK0:=fun (Y:World) (hY:Below X2.heap.size X2 Y)=>((r1'.below hY).mp (d+1) (by omega)).looks tyL (zeroR _) (fan d * i+k) (by omega)
   rw[HJ.out] at LK0
   have d1:(d+1:Nat)<7:=by omega
   have k1:fan d * i≤fan d * i+k:=by omega
   have k2:fan d * i+k<fan d *(i+1):=by rw[Nat.mul_succ];omega
   obtain ⟨hgn,hgh⟩:=HG.out (fan d * i+k) k1 k2
   have ag:=f1.rest (fan d * i+k) (Nat.le_refl _) k2
   have ins:=kid_ins dlt k1 k2
   unfold tp at g0
   clear kp hX2 HI r1' f1 lX r0
   cases hm:L1 (d+1) (fan d * i+k) with
   |none=>
    have LK:=LK0
    rw[hm] at LK
    simp only[valO,encR,rwV,Option.isSome_none,zeroRw] at LK
    have hLn:L (d+1) (fan d * i+k)=none:=by rw[←ag.1 (d+1) _ (by omega) ⟨Nat.le_refl _,Nat.le_refl _⟩];exact hm
    have FF:=hide (show ∀X',Below X2.heap.size X2 X'→FG N w T d i L C Q (k+1) X' from fun X' hb=>by
     have i4:=I3.out.kept (F:=fun _=>False) (Kept.of_below hb) HN.out R0.out lQ (fun x z=>z.elim)
     exact ⟨i4.tr,i4.dp,i4.rd,⟨L1,C1,RA.out.below hb,FI.out.step dlt e3 hm ((hgn hLn).congr (fun d' x hd' hx=>ag.1 d' x (by omega) hx) (fun x hx=>ag.2 x hx)) (fun _ _ _=>rfl) (fun _ _=>rfl) (fun _ _ z=>z)⟩,i4.kw⟩)
    clear LK0 hm hLn hgn hgh ag
    gi_wp2_with fail
    refine held_r (fun Y=>Below X2.heap.size X2 Y) (by kernel_rfl) (by kernel_rfl) (drew_below _) (fun hHeld=> ?_)
    refine wpAnyH_take (i:=0) (oi:=_) (v:= ?_) rfl (by kernel_rfl) (by kernel_rfl) (by kernel_rfl) (fun _ _ _ h=>h) (Or.inl ⟨by rfl,?_⟩) (by assumption) ?_
    rotate_left
    ·(intro Y hSw;have hy:=hx Y hSw;have lk:=LK Y hSw;go_simp;try with_reducible rfl)
    try simp only[Act.put,List.setIfInBounds_toArray,List.set_cons_zero,List.set_cons_succ]
    refine wpAnyH_take (i:=1) (oi:=_) (v:= ?_) rfl (by kernel_rfl) (by kernel_rfl) (by kernel_rfl) (fun _ _ _ h=>h) (Or.inl ⟨by rfl,?_⟩) (by assumption) ?_
    rotate_left
    ·(intro Y hSw;have hy:=hx Y hSw;have lk:=LK Y hSw;go_simp;try with_reducible rfl)
    try simp only[Act.put,List.setIfInBounds_toArray,List.set_cons_zero,List.set_cons_succ]
    refine wpAnyH_take (i:=2) (oi:=_) (v:= ?_) rfl (by kernel_rfl) (by kernel_rfl) (by kernel_rfl) (fun _ _ _ h=>h) (Or.inl ⟨by rfl,?_⟩) (by assumption) ?_
    rotate_left
    ·(intro Y hSw;have hy:=hx Y hSw;have lk:=LK Y hSw;go_simp;try with_reducible rfl)
    try simp only[Act.put,List.setIfInBounds_toArray,List.set_cons_zero,List.set_cons_succ]
    refine wpAnyH_take (i:=3) (oi:=_) (v:= ?_) rfl (by kernel_rfl) (by kernel_rfl) (by kernel_rfl) (fun _ _ _ h=>h) (Or.inl ⟨by rfl,?_⟩) (by assumption) ?_
    rotate_left
    ·(intro Y hSw;have hy:=hx Y hSw;have lk:=LK Y hSw;go_simp;try with_reducible rfl)
    try simp only[Act.put,List.setIfInBounds_toArray,List.set_cons_zero,List.set_cons_succ]
    refine wpAnyH_take (i:=4) (oi:=_) (v:= ?_) rfl (by kernel_rfl) (by kernel_rfl) (by kernel_rfl) (fun _ _ _ h=>h) (Or.inl ⟨by rfl,?_⟩) (by assumption) ?_
    rotate_left
    ·(intro Y hSw;have hy:=hx Y hSw;have lk:=LK Y hSw;go_simp;try with_reducible rfl)
    try simp only[Act.put,List.setIfInBounds_toArray,List.set_cons_zero,List.set_cons_succ]
    refine wpAnyH_take (i:=5) (oi:=_) (v:= ?_) rfl (by kernel_rfl) (by kernel_rfl) (by kernel_rfl) (fun _ _ _ h=>h) (Or.inl ⟨by rfl,?_⟩) (by assumption) ?_
    rotate_left
    ·(intro Y hSw;have hy:=hx Y hSw;have lk:=LK Y hSw;go_simp;try with_reducible rfl)
    try simp only[Act.put,List.setIfInBounds_toArray,List.set_cons_zero,List.set_cons_succ]
    refine wpAnyH_take (i:=6) (oi:=_) (v:= ?_) rfl (by kernel_rfl) (by kernel_rfl) (by kernel_rfl) (fun _ _ _ h=>h) (Or.inl ⟨by rfl,?_⟩) (by assumption) ?_
    rotate_left
    ·(intro Y hSw;have hy:=hx Y hSw;have lk:=LK Y hSw;go_simp;try with_reducible rfl)
    try simp only[Act.put,List.setIfInBounds_toArray,List.set_cons_zero,List.set_cons_succ]
    refine wpAnyH_take (i:=7) (oi:=_) (v:= ?_) rfl (by kernel_rfl) (by kernel_rfl) (by kernel_rfl) (fun _ _ _ h=>h) (Or.inl ⟨by rfl,?_⟩) (by assumption) ?_
    rotate_left
    ·(intro Y hSw;have hy:=hx Y hSw;have lk:=LK Y hSw;go_simp;try with_reducible rfl)
    try simp only[Act.put,List.setIfInBounds_toArray,List.set_cons_zero,List.set_cons_succ]
    refine wpAnyH_take (i:=8) (oi:=_) (v:= ?_) rfl (by kernel_rfl) (by kernel_rfl) (by kernel_rfl) (fun _ _ _ h=>h) (Or.inl ⟨by rfl,?_⟩) (by assumption) ?_
    rotate_left
    ·(intro Y hSw;have hy:=hx Y hSw;have lk:=LK Y hSw;go_simp;try with_reducible rfl)
    try simp only[Act.put,List.setIfInBounds_toArray,List.set_cons_zero,List.set_cons_succ]
    refine wpAnyH_take (i:=9) (oi:=_) (v:= ?_) rfl (by kernel_rfl) (by kernel_rfl) (by kernel_rfl) (fun _ _ _ h=>h) (Or.inl ⟨by rfl,?_⟩) (by assumption) ?_
    rotate_left
    ·(intro Y hSw;have hy:=hx Y hSw;have lk:=LK Y hSw;go_simp;try with_reducible rfl)
    try simp only[Act.put,List.setIfInBounds_toArray,List.set_cons_zero,List.set_cons_succ]
    refine wpAnyH_take (i:=10) (oi:=_) (v:= ?_) rfl (by kernel_rfl) (by kernel_rfl) (by kernel_rfl) (fun _ _ _ h=>h) (Or.inl ⟨by rfl,?_⟩) (by assumption) ?_
    rotate_left
    ·(intro Y hSw;have hy:=hx Y hSw;have lk:=LK Y hSw;go_simp;try with_reducible rfl)
    try simp only[Act.put,List.setIfInBounds_toArray,List.set_cons_zero,List.set_cons_succ]
    refine wpAnyH_take (i:=11) (oi:=_) (v:= ?_) rfl (by kernel_rfl) (by kernel_rfl) (by kernel_rfl) (fun _ _ _ h=>h) (Or.inl ⟨by rfl,?_⟩) (by assumption) ?_
    rotate_left
    ·(intro Y hSw;have hy:=hx Y hSw;have lk:=LK Y hSw;go_simp;try with_reducible rfl)
    try simp only[Act.put,List.setIfInBounds_toArray,List.set_cons_zero,List.set_cons_succ]
    refine wpAnyH_take (i:=12) (oi:=_) (v:= ?_) rfl (by kernel_rfl) (by kernel_rfl) (by kernel_rfl) (fun _ _ _ h=>h) (Or.inl ⟨by rfl,?_⟩) (by assumption) ?_
    rotate_left
    ·(intro Y hSw;have hy:=hx Y hSw;have lk:=LK Y hSw;go_simp;try with_reducible rfl)
    try simp only[Act.put,List.setIfInBounds_toArray,List.set_cons_zero,List.set_cons_succ]
    refine wpAnyH_ready (rs:=[13]) (by kernel_rfl) (by simp) ?_
    refine AllReadyH.cons (o:=⟨some 7,_,_,_,_,_⟩) rfl (fun K hK=> ?_) AllReadyH.nil
    go_simp
    refine hK.out _ _ ((drew_below X2).alloc (Nat.le_refl _) _) (fun hHeld=> ?_)
    clear hK K
    try simp only[Act.put,List.setIfInBounds_toArray,List.set_cons_zero,List.set_cons_succ]
    refine wpAnyH_ready (rs:=[14]) (by kernel_rfl) (by simp) ?_
    refine AllReadyH.cons (o:=⟨none,_,_,_,_,_⟩) rfl (fun K hK=> ?_) AllReadyH.nil
    go_simp
    refine hK.out _ _ ((grown1 X2 _).drew) (fun hHeld=> ?_)
    clear hK K
    try simp only[Act.put,List.setIfInBounds_toArray,List.set_cons_zero,List.set_cons_succ]
    refine wpAnyH_ready (rs:=[15]) (by kernel_rfl) (by simp) ?_
    refine AllReadyH.cons (o:=⟨some 8,_,_,_,_,_⟩) rfl (fun K hK=> ?_) AllReadyH.nil
    go_simp
    refine hK.out _ _ ((grown1 X2 _).drew) (fun hHeld=> ?_)
    clear hK K
    try simp only[Act.put,List.setIfInBounds_toArray,List.set_cons_zero,List.set_cons_succ]
    refine wpAnyH_done (by kernel_rfl) ⟨(fun z=>by cases z),?_⟩ _
    have BX:=hide hHeld
    clear hHeld
    gi_wp2_with fail
    exact ⟨keepsFrom_of (Kept.of_below (F:=fun _=>False) BX.out) (fun b hb e=>e),HNX.out _ (FF.out _ BX.out)⟩
   |some q=>
    have LK:=LK0
    rw[hm] at LK
    simp only[valO,encR,rwV,Option.isSome_some] at LK
    clear LK0 hm hgn
    gi_wp2_with fail
    refine held_r (fun Y=>Below X2.heap.size X2 Y) (by kernel_rfl) (by kernel_rfl) (drew_below _) (fun hHeld=> ?_)
    refine wpAnyH_take (i:=0) (oi:=_) (v:= ?_) rfl (by kernel_rfl) (by kernel_rfl) (by kernel_rfl) (fun _ _ _ h=>h) (Or.inl ⟨by rfl,?_⟩) (by assumption) ?_
    rotate_left
    ·(intro Y hSw;have hy:=hx Y hSw;have lk:=LK Y hSw;go_simp;try with_reducible rfl)
    try simp only[Act.put,List.setIfInBounds_toArray,List.set_cons_zero,List.set_cons_succ]
    refine wpAnyH_take (i:=1) (oi:=_) (v:= ?_) rfl (by kernel_rfl) (by kernel_rfl) (by kernel_rfl) (fun _ _ _ h=>h) (Or.inl ⟨by rfl,?_⟩) (by assumption) ?_
    rotate_left
    ·(intro Y hSw;have hy:=hx Y hSw;have lk:=LK Y hSw;go_simp;try with_reducible rfl)
    try simp only[Act.put,List.setIfInBounds_toArray,List.set_cons_zero,List.set_cons_succ]
    refine wpAnyH_take (i:=2) (oi:=_) (v:= ?_) rfl (by kernel_rfl) (by kernel_rfl) (by kernel_rfl) (fun _ _ _ h=>h) (Or.inl ⟨by rfl,?_⟩) (by assumption) ?_
    rotate_left
    ·(intro Y hSw;have hy:=hx Y hSw;have lk:=LK Y hSw;go_simp;try with_reducible rfl)
    try simp only[Act.put,List.setIfInBounds_toArray,List.set_cons_zero,List.set_cons_succ]
    refine wpAnyH_take (i:=3) (oi:=_) (v:= ?_) rfl (by kernel_rfl) (by kernel_rfl) (by kernel_rfl) (fun _ _ _ h=>h) (Or.inl ⟨by rfl,?_⟩) (by assumption) ?_
    rotate_left
    ·(intro Y hSw;have hy:=hx Y hSw;have lk:=LK Y hSw;go_simp;try with_reducible rfl)
    try simp only[Act.put,List.setIfInBounds_toArray,List.set_cons_zero,List.set_cons_succ]
    refine wpAnyH_take (i:=4) (oi:=_) (v:= ?_) rfl (by kernel_rfl) (by kernel_rfl) (by kernel_rfl) (fun _ _ _ h=>h) (Or.inl ⟨by rfl,?_⟩) (by assumption) ?_
    rotate_left
    ·(intro Y hSw;have hy:=hx Y hSw;have lk:=LK Y hSw;go_simp;try with_reducible rfl)
    try simp only[Act.put,List.setIfInBounds_toArray,List.set_cons_zero,List.set_cons_succ]
    refine wpAnyH_take (i:=5) (oi:=_) (v:= ?_) rfl (by kernel_rfl) (by kernel_rfl) (by kernel_rfl) (fun _ _ _ h=>h) (Or.inl ⟨by rfl,?_⟩) (by assumption) ?_
    rotate_left
    ·(intro Y hSw;have hy:=hx Y hSw;have lk:=LK Y hSw;go_simp;try with_reducible rfl)
    try simp only[Act.put,List.setIfInBounds_toArray,List.set_cons_zero,List.set_cons_succ]
    refine wpAnyH_take (i:=6) (oi:=_) (v:= ?_) rfl (by kernel_rfl) (by kernel_rfl) (by kernel_rfl) (fun _ _ _ h=>h) (Or.inl ⟨by rfl,?_⟩) (by assumption) ?_
    rotate_left
    ·(intro Y hSw;have hy:=hx Y hSw;have lk:=LK Y hSw;go_simp;try with_reducible rfl)
    try simp only[Act.put,List.setIfInBounds_toArray,List.set_cons_zero,List.set_cons_succ]
    refine wpAnyH_take (i:=7) (oi:=_) (v:= ?_) rfl (by kernel_rfl) (by kernel_rfl) (by kernel_rfl) (fun _ _ _ h=>h) (Or.inl ⟨by rfl,?_⟩) (by assumption) ?_
    rotate_left
    ·(intro Y hSw;have hy:=hx Y hSw;have lk:=LK Y hSw;go_simp;try with_reducible rfl)
    try simp only[Act.put,List.setIfInBounds_toArray,List.set_cons_zero,List.set_cons_succ]
    refine wpAnyH_take (i:=8) (oi:=_) (v:= ?_) rfl (by kernel_rfl) (by kernel_rfl) (by kernel_rfl) (fun _ _ _ h=>h) (Or.inl ⟨by rfl,?_⟩) (by assumption) ?_
    rotate_left
    ·(intro Y hSw;have hy:=hx Y hSw;have lk:=LK Y hSw;go_simp;try with_reducible rfl)
    try simp only[Act.put,List.setIfInBounds_toArray,List.set_cons_zero,List.set_cons_succ]
    refine wpAnyH_take (i:=9) (oi:=_) (v:= ?_) rfl (by kernel_rfl) (by kernel_rfl) (by kernel_rfl) (fun _ _ _ h=>h) (Or.inl ⟨by rfl,?_⟩) (by assumption) ?_
    rotate_left
    ·(intro Y hSw;have hy:=hx Y hSw;have lk:=LK Y hSw;go_simp;try with_reducible rfl)
    try simp only[Act.put,List.setIfInBounds_toArray,List.set_cons_zero,List.set_cons_succ]
    refine wpAnyH_take (i:=10) (oi:=_) (v:= ?_) rfl (by kernel_rfl) (by kernel_rfl) (by kernel_rfl) (fun _ _ _ h=>h) (Or.inl ⟨by rfl,?_⟩) (by assumption) ?_
    rotate_left
    ·(intro Y hSw;have hy:=hx Y hSw;have lk:=LK Y hSw;go_simp;try with_reducible rfl)
    try simp only[Act.put,List.setIfInBounds_toArray,List.set_cons_zero,List.set_cons_succ]
    refine wpAnyH_take (i:=11) (oi:=_) (v:= ?_) rfl (by kernel_rfl) (by kernel_rfl) (by kernel_rfl) (fun _ _ _ h=>h) (Or.inl ⟨by rfl,?_⟩) (by assumption) ?_
    rotate_left
    ·(intro Y hSw;have hy:=hx Y hSw;have lk:=LK Y hSw;go_simp;try with_reducible rfl)
    try simp only[Act.put,List.setIfInBounds_toArray,List.set_cons_zero,List.set_cons_succ]
    refine wpAnyH_take (i:=12) (oi:=_) (v:= ?_) rfl (by kernel_rfl) (by kernel_rfl) (by kernel_rfl) (fun _ _ _ h=>h) (Or.inl ⟨by rfl,?_⟩) (by assumption) ?_
    rotate_left
    ·(intro Y hSw;have hy:=hx Y hSw;have lk:=LK Y hSw;go_simp;try with_reducible rfl)
    try simp only[Act.put,List.setIfInBounds_toArray,List.set_cons_zero,List.set_cons_succ]
    refine wpAnyH_ready (rs:=[13]) (by kernel_rfl) (by simp) ?_
    refine AllReadyH.cons (o:=⟨some 7,_,_,_,_,_⟩) rfl (fun K hK=> ?_) AllReadyH.nil
    go_simp
    refine hK.out _ _ ((drew_below X2).alloc (Nat.le_refl _) _) (fun hHeld=> ?_)
    clear hK K
    try simp only[Act.put,List.setIfInBounds_toArray,List.set_cons_zero,List.set_cons_succ]
    refine wpAnyH_ready (rs:=[14]) (by kernel_rfl) (by simp) ?_
    refine AllReadyH.cons (o:=⟨none,_,_,_,_,_⟩) rfl (fun K hK=> ?_) AllReadyH.nil
    go_simp
    refine hK.out _ _ ((grown1 X2 _).drew) (fun hHeld=> ?_)
    clear hK K
    try simp only[Act.put,List.setIfInBounds_toArray,List.set_cons_zero,List.set_cons_succ]
    refine wpAnyH_ready (rs:=[15]) (by kernel_rfl) (by simp) ?_
    refine AllReadyH.cons (o:=⟨some 8,_,_,_,_,_⟩) rfl (fun K hK=> ?_) AllReadyH.nil
    go_simp
    refine hK.out _ _ ((grown1 X2 _).drew) (fun hHeld=> ?_)
    clear hK K
    try simp only[Act.put,List.setIfInBounds_toArray,List.set_cons_zero,List.set_cons_succ]
    refine wpAnyH_done (by kernel_rfl) ⟨(fun z=>by cases z),?_⟩ _
    obtain ⟨X3,hX3⟩:∃X3,(X2.alloc (.cells #[.int .u64 (q.t.p:Nat), .int .u64 (q.t.f:Nat), .int .u64 (q.t.r:Nat), .int .i64 (q.s:Nat), .int .i64 (q.m:Nat), .int .i64 (q.e:Nat), .int .i64 (q.rest:Nat)] 221)).drew=X3:=⟨_,rfl⟩
    rw[hX3] at hHeld ⊢
    have BX:=hide hHeld
    have I4:=hide (I3.out.kept (F:=fun _=>False) (Kept.of_below hHeld) HN.out R0.out lQ (fun x z=>z.elim))
    have R4:=hide (RA.out.below hHeld)
    clear hHeld hX3 LK hx g0 g1 g2 g3 m0 m1 m2 m3
    have g0:=I4.out.tr.cell 0 _ rfl
    have g1:=I4.out.dp.cell 0 _ rfl
    have g2:=R4.out.c0
    have g3:=R4.out.lv (d+1) (by omega)
    have m0:=I4.out.tr.lt
    have m1:=I4.out.dp.lt
    have m2:=R4.out.lt (x:=T.tb) (.inr (.inl rfl))
    have m3:=R4.out.lt (x:=T.lb) (.inr (.inr rfl))
    have hx:= @ext_cell X3
    have hne:=ext_ne X3
    unfold tp at g0
    gi_wp2_with fail
    refine tail_r 9 (by kernel_rfl) (by kernel_rfl) ?_
    simp only[List.take_succ_cons,List.take_zero,List.drop_succ_cons,List.drop_zero]
    repeat (first|go_big_quiet_step (fail)|(refine wpQuiet_step (fun K hK=> ?_);go_simp;refine hK _ ?_;clear hK K))
    refine wpQuiet_nil ?_
    rintro _ ⟨n2,rfl⟩
    have R5:=R4.out.below n2.h
    obtain ⟨w2,hrun,hm2,hg2⟩:=(R5.mp (d+1) (by omega)).del tyL 0 (fan d * i+k) (by omega)
    rw[HJ.out] at hrun
    have U:=R5.upL (i:=fan d * i+k) (by omega) hm2 hg2
    have B5:=BX.out.trans (n2.h.mono BX.out.size)
    have kw2:=(Kept.of_below (F:=fun x=>x=T.mp (d+1)) B5).trans U.2 (fun _ _ z=>z)
    have tr2:Bk w2 N 114 #[tp T]:=I3.out.tr.kept kw2 (fun z=>by have:=R0.out.lt (x:=T.mp (d+1)) (.inl (.inr (.inl ⟨d+1,by omega,rfl⟩)));rw[HN.out] at this;omega)
    have dp2:Bk w2 (N+1) 3 #[.int .i64 (d:Nat)]:=I3.out.dp.kept kw2 (fun z=>by have:=R0.out.lt (x:=T.mp (d+1)) (.inl (.inr (.inl ⟨d+1,by omega,rfl⟩)));rw[HN.out] at this;omega)
    have HA2:Hang (putL L1 (d+1) (fan d * i+k) none) C1 n' (d+1) (fan d * i+k):=hgh.congr (by omega) (fun d' x hd' hx=>by rw[putL_other (fun y=>by omega)];exact ag.1 d' x (by omega) hx) (fun x hx=>ag.2 x hx)
    have CF:=hide (IH'.out w2 _ C1 U.1 (fan d * i+k) HA2 (by have:=ins.2;omega))
    rw[HJ.out] at CF
    have U1:=hide U.1
    have KW:=hide kw2
    have TR2:=hide tr2
    have DP2:=hide dp2
    have h0:=tr2.cell 0 _ rfl
    have h1:=dp2.cell 0 _ rfl
    unfold tp at h0 CF
    clear hm2 hg2 U B5 kw2 tr2 dp2 HA2 R5 hx hne g0 g1 g2 g3 m0 m1 m2 m3 hgh
    gi_wp2_with fail
    refine wcall2 CF.out ?_
    rintro e w5 ⟨rfl,⟨L2,C2,r2,b2,o2,s2⟩,k5⟩
    have KA:=hide ((KW.out.mono (G:=Wr T C1) (fun x hx=> .inr (.inl ⟨d+1,by omega,hx⟩))).trans k5 (fun _ _ z=>z))
    have wlt:∀{x},Wr T C1 x→T.B≤x∧x<N:=fun {x} hx=>by
     have h3:Wr T C x:=wr_sub FI.out.sub hx
     have h4:=R0.out.lt (.inl h3)
     have h5:=R0.out.base x (.inl h3)
     rw[HN.out] at h4
     exact ⟨h5,h4⟩
    have two:=R0.out.two
    have FF:=hide (show FG N w T d i L C Q (k+1) w5 from ⟨I3.out.tr.kept KA.out (fun z=>by have:=wlt z;omega),I3.out.dp.kept KA.out (fun z=>by have:=wlt z;omega),⟨kept_at KA.out I3.out.rd.sp (fun z=>by have:=wlt z;omega),kept_at KA.out I3.out.rd.dp (fun z=>by have:=wlt z;omega),r2.tab⟩,
     ⟨L2,C2,r2,FI.out.step dlt e3 (by rw[o2.lv _ _ (fun y=>by omega)];exact putL_same _ _ _ _) b2 (fun d' x z=>by
      rw[o2.lv d' x (fun y=>z ⟨by omega,y.2.1,y.2.2⟩)]
      exact putL_other (fun y=>z ⟨by omega,by omega,by rw[y.1,y.2];exact ⟨Nat.le_refl _,Nat.le_refl _⟩⟩)) (fun x z=>o2.ch x z) s2⟩,I3.out.kw.trans KA.out (fun x _ hx=>wr_sub FI.out.sub hx)⟩)
    have KF:=hide (RA.out.keeps NB.out KA.out)
    clear k5 r2 b2 o2 s2 wlt CF TR2 DP2 h0 h1
    gi_wp2_with fail
    exact ⟨KF.out,HNX.out _ FF.out⟩
  case done=>
   rintro X h hdf
   rw[sZ] at hdf ⊢
   have HD:=hide hdf
   obtain ⟨L',C',r',f'⟩:=h.ex
   have e:(List.range (fan d)).length=fan d:=by simp
   rw[e] at f'
   have F:=hide (show ∀X',Kept (fun b=>b=Q+2) X X'→R (.returned (.tuple #[])) X' from fun X' kk=>by
    have h':=h.kept kk HN.out R0.out lQ (fun x hx=>by omega)
    obtain ⟨L',C',r',f'⟩:=h'.ex
    rw[e] at f'
    rw[HR.out]
    exact ⟨rfl,⟨L',C',r',f'.bare dlt,f'.outs,f'.sub⟩,h'.kw⟩)
   clear h hdf r' f'
   gi_wp2_with fail
   refine ⟨by simp, .inl ⟨_,_,rfl,run_takeDeferred HD.out,?_⟩⟩
   exact ⟨.tuple #[],by simp[results,Tryz.results260,go_sem],F.out _ (Kept.put _ _ _ rfl)⟩
theorem forget_any (T:Tid):∀n d,n+d=6→ForOk T n d
 |0,d,h=>forget_core T 0 d h (fun z=>by omega)
 |n+1,d,h=>forget_core T (n+1) d h (fun _=>forget_any T n (d+1) (by omega))
end Go.Proofs.YtdgdhnnakcncoaaGreatDoor
