/- Of the proof of HeapClasses: texts RXk. -/
import Derived.Test.YtdgdhnnakcncoaaGreatDoorJ11
namespace Go.Proofs.YtdgdhnnakcncoaaGreatDoor
set_option maxHeartbeats 1600000
open Go.ChangeShapes Go.WideShapes Go.ChangeAt Go.RowKit Go.Proofs.Bt Go.Shelf Go.Proofs.Rx Go.Maps
set_option linter.unusedVariables false
set_option linter.unusedSimpArgs false
attribute [local go_sem] Oper.semAt_some
theorem all_w {P:Program} {m id:Nat} {Q:Exit→Act→World→Prop} {a:Act} {w:World} {l:List Oper} (hm:P.follows .mixedOrders=true) (hB:(Region.lexB .any l.toArray&&plainB l.toArray)=true)
 (h:wpQuiet P l.toArray (fun w'=>∃n:Ext w,w'=n.v) (fun a'=>∀w',(∃n:Ext w,w'=n.v)→Q .normal a' w') l a):(Code.region id l.toArray true).wpIn Fence.wide m P Q a w:=
 region_all (ro:=none) (fun w'=>∃n:Ext w,w'=n.v) hm hB ⟨⟨w.drew,drew_below w⟩,rfl⟩ h
def Bk (W:World) (b:Nat) (t:TypeId) (vs:Array Value):Prop:=W.heap[b]? =some (.cells vs t (0,0))
theorem Bk.lt {W:World} {b:Nat} {t:TypeId} {vs:Array Value} (h:Bk W b t vs):b<W.heap.size:=(Array.getElem?_eq_some_iff.1 h).1
theorem Bk.cell {W:World} {b:Nat} {t:TypeId} {vs:Array Value} (h:Bk W b t vs) (k:Nat) (v:Value) (hv:vs[k]? =some v):W.cell? ⟨b,k,none⟩=some v:=by
 simp[World.cell?,show W.heap[b]? =_ from h,hv]
theorem Bk.fz {W:World} {b:Nat} {t:TypeId} {vs:Array Value} (h:Bk W b t vs) (k:Nat):W.frozen? ⟨b,k,none⟩=false:=by
 simp[World.frozen?,show W.heap[b]? =_ from h]
theorem Bk.kept {F:Nat→Prop} {W W':World} {b:Nat} {t:TypeId} {vs:Array Value} (h:Bk W b t vs) (k:Kept F W W') (hF:¬F b):Bk W' b t vs:=kept_at k h hF
theorem Bk.below {W W':World} {b:Nat} {t:TypeId} {vs:Array Value} (h:Bk W b t vs) (k:Below W.heap.size W W'):Bk W' b t vs:=(k.block b h.lt).trans h
theorem Bk.set {W:World} {b:Nat} {t:TypeId} {vs:Array Value} (h:Bk W b t vs) (k:Nat) (v:Value):Bk (W.setCell ⟨b,k,none⟩ v) b t (vs.setIfInBounds k v):=by
 obtain ⟨hlt,hk⟩:=Array.getElem?_eq_some_iff.1 h
 show (W.heap.modify b _)[b]? =_
 rw[Array.getElem?_eq_getElem (by rw[Array.size_modify];exact hlt),Array.getElem_modify_self,hk]
 rfl
theorem Bk.other {W:World} {b b':Nat} {t:TypeId} {vs:Array Value} (h:Bk W b t vs) (hne:b≠b') (k:Nat) (v:Value):Bk (W.setCell ⟨b',k,none⟩ v) b t vs:=(Below.heap_setCell _ _ _ _ hne).trans h
structure CI (N:Nat) (w W:World) (T:Tid) (d:Nat) (r:Rw) (a b:Int) (t:Tl):Prop where
 tr:Bk W N 114 #[tp T]
 dp:Bk W (N+1) 3 #[.int .i64 (d:Nat)]
 rw:Bk W (N+2) 221 #[.int .u64 (r.t.p:Nat), .int .u64 (r.t.f:Nat), .int .u64 (r.t.r:Nat), .int .i64 (r.s:Nat), .int .i64 (r.m:Nat), .int .i64 (r.e:Nat), .int .i64 (r.rest:Nat)]
 sp:Bk W (N+3) 282 #[.int .u64 a, .int .u64 b]
 rs:Bk W (N+4) 216 #[.int .u64 (t.p:Nat), .int .u64 (t.f:Nat), .int .u64 (t.r:Nat)]
 be:Below N w W
section
variable {N:Nat} {w W W':World} {T:Tid} {d:Nat} {r:Rw} {a b:Int} {t:Tl}
theorem CI.kept {F:Nat→Prop} (h:CI N w W T d r a b t) (k:Kept F W W') (hF:∀x,F x→N+5≤x):CI N w W' T d r a b t:=
 ⟨h.tr.kept k (fun z=>by have:=hF _ z;omega),h.dp.kept k (fun z=>by have:=hF _ z;omega),h.rw.kept k (fun z=>by have:=hF _ z;omega),h.sp.kept k (fun z=>by have:=hF _ z;omega),h.rs.kept k (fun z=>by have:=hF _ z;omega),below_kept h.be k (fun x hx=>by have:=hF _ hx;omega) (by have:=h.tr.lt;omega)⟩
theorem CI.kept' {F:Nat→Prop} (h:CI N w W T d r a b t) (k:Kept F W W') (hF:∀x,F x→N+5≤x):CI N w W' T d r a b t:=h.kept k hF
theorem CI.below (h:CI N w W T d r a b t) (k:Below W.heap.size W W'):CI N w W' T d r a b t:=h.kept (F:=fun _=>False) (Kept.of_below k) (fun _ z=>z.elim)
theorem CI.setP (h:CI N w W T d r a b t) (a' b':Int):CI N w ((W.setCell ⟨N+3,0,none⟩ (.int .u64 a')).setCell ⟨N+3,1,none⟩ (.int .u64 b')) T d r a' b' t:=
 ⟨(h.tr.other (by omega) _ _).other (by omega) _ _,(h.dp.other (by omega) _ _).other (by omega) _ _,(h.rw.other (by omega) _ _).other (by omega) _ _,(h.sp.set 0 _).set 1 _,(h.rs.other (by omega) _ _).other (by omega) _ _,(h.be.setCell (by simp) _).setCell (by simp) _⟩
theorem CI.setT (h:CI N w W T d r a b t) (p f g:Nat):CI N w (((W.setCell ⟨N+4,0,none⟩ (.int .u64 (p:Nat))).setCell ⟨N+4,1,none⟩ (.int .u64 (f:Nat))).setCell ⟨N+4,2,none⟩ (.int .u64 (g:Nat))) T d r a b ⟨p,f,g⟩:=
 ⟨((h.tr.other (by omega) _ _).other (by omega) _ _).other (by omega) _ _,((h.dp.other (by omega) _ _).other (by omega) _ _).other (by omega) _ _,((h.rw.other (by omega) _ _).other (by omega) _ _).other (by omega) _ _,((h.sp.other (by omega) _ _).other (by omega) _ _).other (by omega) _ _,((h.rs.set 0 _).set 1 _).set 2 _,((h.be.setCell (by simp) _).setCell (by simp) _).setCell (by simp) _⟩
theorem CI.new (w:World) (T:Tid) (d:Nat) (r:Rw) (a b:Int) (N:Nat) (hN:w.heap.size=N):
 CI N w (((((w.alloc (.cells #[tp T] 114)).alloc (.cells #[.int .i64 (d:Nat)] 3)).alloc (.cells #[.int .u64 (r.t.p:Nat), .int .u64 (r.t.f:Nat), .int .u64 (r.t.r:Nat), .int .i64 (r.s:Nat), .int .i64 (r.m:Nat), .int .i64 (r.e:Nat), .int .i64 (r.rest:Nat)] 221)).alloc (.cells #[.int .u64 a, .int .u64 b] 282)).alloc (.cells #[.int .u64 0, .int .u64 0, .int .u64 0] 216)) T d r a b ⟨0,0,0⟩:=by
 subst hN
 refine ⟨?_,?_,?_,?_,?_,?_⟩
 case refine_6=>exact (((((Below.refl _ w).alloc (Nat.le_refl _) _).alloc (by simp) _).alloc (by simp;omega) _).alloc (by simp;omega) _).alloc (by simp;omega) _
 all_goals
  unfold Bk
  simp only[alloc_at,World.size_alloc]
  (repeat' split)<;>first|rfl|omega|simp_all
end
def CntP (st:Nat→Nat) (a b:Nat) (w:World) (e:Ending) (w':World):Prop:=e= .returned (tlV (tl st a (b - a)))∧Below w.heap.size w w'
def CountOk (T:Tid) (L:Lv) (C:Ch) (st:Nat→Nat) (n d:Nat):Prop:=
 ∀(w:World),RadAt w T L C→∀(i:Nat) (r:Rw) (a b:Nat),Rx.Good L C st n d i r→(i+1) * sz d≤34359738368→a<b→b≤34359738368→a<(i+1) * sz d→i * sz d<b→
  Calls Tryz.prog 188 #[tp T, .int .i64 (d:Nat), .int .u64 (i:Nat),rwV r,spanV a b] w (CntP st (max a (i * sz d)) (min b ((i+1) * sz d)) w)
theorem RadAt.foot_lt {w:World} {T:Tid} {L:Lv} {C:Ch} (h:RadAt w T L C) {x:Nat} (hx:w.heap.size≤x):¬Foot T C x:=fun z=>by have:=h.lt z;omega
theorem RadAt.new {w W W':World} {T:Tid} {L:Lv} {C:Ch} {F:Nat→Prop} (h:RadAt w T L C) (hW:RadAt W T L C) (k:Kept F W W') (hF:∀x,F x→w.heap.size≤x):RadAt W' T L C:=
 hW.kept k fun x hx=>⟨h.foot_lt (hF x hx),by have:=hF x hx;have:=h.base T.tb (.inr (.inl rfl));have:=h.lt (x:=T.tb) (.inr (.inl rfl));omega⟩
theorem kid_range {d i j a b:Nat} (hd:d<6) (h1:i * sz d≤a) (h2:b≤(i+1) * sz d) (h3:a/sz (d+1)≤j) (h4:j * sz (d+1)<b):fan d * i≤j∧j<fan d *(i+1)∧(j+1) * sz (d+1)≤(i+1) * sz d∧a<(j+1) * sz (d+1):=by
 have e:=sz_fan d hd
 have hp:=sz_pos (d+1)
 have e1:i * sz d=fan d * i * sz (d+1):=by rw[e,←Nat.mul_assoc,Nat.mul_comm i]
 have e2:(i+1) * sz d=fan d *(i+1) * sz (d+1):=by rw[e,←Nat.mul_assoc,Nat.mul_comm (i+1)]
 have q1:fan d * i≤a/sz (d+1):=(Nat.le_div_iff_mul_le hp).2 (by rw[←e1];exact h1)
 have q2:j<fan d *(i+1):=Nat.lt_of_mul_lt_mul_right (a:=sz (d+1)) (by rw[←e2];omega)
 refine ⟨by omega,q2,?_,?_⟩
 ·rw[e2];exact Nat.mul_le_mul_right _ q2
 ·have:=Nat.lt_div_mul_add (a:=a) hp
  have h5:(a/sz (d+1)+1) * sz (d+1)≤(j+1) * sz (d+1):=Nat.mul_le_mul_right _ (by omega)
  rw[Nat.succ_mul] at h5
  omega
def upto (D a b k:Nat):Nat:=max a (min b ((a/sz D+k) * sz D))
theorem upto_zero {D a b:Nat} (h:a<b):upto D a b 0=a:=by
 unfold upto
 have:=Nat.div_mul_le_self a (sz D)
 rw[Nat.add_zero];omega
theorem upto_succ {D a b k:Nat} (hab:a<b) (h:(a/sz D+k) * sz D<b):upto D a b k=max a ((a/sz D+k) * sz D)∧upto D a b (k+1)=min b ((a/sz D+k+1) * sz D)∧upto D a b k≤upto D a b (k+1)∧a≤upto D a b k:=by
 unfold upto
 have hp:=sz_pos D
 have h1:=Nat.lt_div_mul_add (a:=a) hp
 have e:(a/sz D+k+1) * sz D=(a/sz D+k) * sz D+sz D:=Nat.succ_mul _ _
 have h2:a/sz D * sz D≤(a/sz D+k) * sz D:=Nat.mul_le_mul_right _ (by omega)
 rw[show a/sz D+(k+1)=a/sz D+k+1 by omega]
 generalize (a/sz D+k) * sz D=X at *
 generalize (a/sz D+k+1) * sz D=Y at *
 generalize a/sz D * sz D=Z at *
 omega
theorem cnt_lt {D a b k:Nat} (hab:a<b):k<cntR D a b↔(a/sz D+k) * sz D<b:=by
 unfold cntR
 have hp:=sz_pos D
 have h1:(a/sz D+k) * sz D<b↔a/sz D+k≤(b - 1)/sz D:=by
  rw[Nat.le_div_iff_mul_le hp];omega
 have h2:a/sz D≤(b - 1)/sz D:=Nat.div_le_div_right (by omega)
 rw[h1];omega
theorem upto_end {D a b:Nat} (hab:a<b):upto D a b (cntR D a b)=b:=by
 have h1:¬(a/sz D+cntR D a b) * sz D<b:=fun z=>by have:=(cnt_lt hab).2 z;omega
 unfold upto
 omega
structure CJ (N:Nat) (w W:World) (T:Tid) (L:Lv) (C:Ch) (d:Nat) (r:Rw) (a b:Int):Prop where
 ci:CI N w W T d r a b ⟨0,0,0⟩
 rad:RadAt W T L C
theorem CJ.below {N:Nat} {w W W':World} {T:Tid} {L:Lv} {C:Ch} {d:Nat} {r:Rw} {a b:Int} (h:CJ N w W T L C d r a b) (k:Below W.heap.size W W'):CJ N w W' T L C d r a b:=⟨h.ci.below k,h.rad.below k⟩
theorem tally3 {W:World} {b:Nat} {p f g:Nat} (h:Bk W b 216 #[.int .u64 (p:Nat), .int .u64 (f:Nat), .int .u64 (g:Nat)]):(loadVar 216 ⟨b,0,none⟩).run Tryz.prog W= .ok (tlV ⟨p,f,g⟩) W:=by
 have c0:=h.cell 0 _ rfl
 have c1:=h.cell 1 _ rfl
 have c2:=h.cell 2 _ rfl
 simp[go_sem,c0,c1,c2,tlV]
theorem results_c {fn:Func} {p:Tmp} {ty:TypeId} (h:fn.results=#[.cell p ty]) (tmps:Array Value) (w:World) (a:Addr) (v:Value) (ha:tmps.getD p undef= .pointer (some a)) (hv:(loadVar ty a).run Tryz.prog w= .ok v w):
 (results fn tmps).run Tryz.prog w= .ok v w:=by
 have hp':tmps[p]?.getD undef= .pointer (some a):=by simpa using ha
 simp[results,h,hp',asAddr,hv]
structure CL (N:Nat) (w:World) (T:Tid) (L:Lv) (C:Ch) (d:Nat) (r:Rw) (a b:Nat) (st:Nat→Nat) (Q k:Nat) (X:World):Prop where
 cj:CJ N w X T L C d r (a:Nat) (b:Nat)
 acc:Bk X Q 216 #[.int .u64 ((tl st a (upto (d+1) a b k - a)).p:Nat), .int .u64 ((tl st a (upto (d+1) a b k - a)).f:Nat), .int .u64 ((tl st a (upto (d+1) a b k - a)).r:Nat)]
 rd:RdS (Q+1) (Q+2) (d+1) a b X
theorem CL.kept {F:Nat→Prop} {N:Nat} {w X X':World} {T:Tid} {L:Lv} {C:Ch} {d:Nat} {r:Rw} {a b:Nat} {st:Nat→Nat} {Q k:Nat} (h:CL N w T L C d r a b st Q k X) (kk:Kept F X X') (hN:N+5≤Q) (hw:w.heap.size=N) (h0:RadAt w T L C) (hF:∀x,F x→Q+3≤x):CL N w T L C d r a b st Q k X':=
 ⟨⟨h.cj.ci.kept kk (fun x hx=>by have:=hF _ hx;omega),h0.new h.cj.rad kk (fun x hx=>by have:=hF _ hx;omega)⟩,h.acc.kept kk (fun z=>by have:=hF _ z;omega),
  kept_at kk h.rd.sp (fun z=>by have:=hF _ z;omega),kept_at kk h.rd.dp (fun z=>by have:=hF _ z;omega),h.rd.tab.kept kk ⟨fun z=>by have:=hF _ z;omega,fun z=>by have:=hF _ z;omega⟩⟩
set_option maxRecDepth 100000 in
set_option maxHeartbeats 2000000 in
theorem countIn_core (T:Tid) (L:Lv) (C:Ch) (st:Nat→Nat) (h4:Four st) (n d:Nat) (hnd:n+d=6) (IH:d<6→CountOk T L C st (n - 1) (d+1)):CountOk T L C st n d:=by
 intro w h i r a b hG hi hab hb h1 h2
 have hd:d≤6:=by omega
 obtain ⟨R,hR⟩:∃R,R=CntP st (max a (i * sz d)) (min b ((i+1) * sz d)) w:=⟨_,rfl⟩
 rw[←hR]
 obtain ⟨N,hN⟩:∃N,w.heap.size=N:=⟨_,rfl⟩
 obtain ⟨W5,hW5⟩:∃W5,W5=(((((w.alloc (.cells #[tp T] 114)).alloc (.cells #[.int .i64 (d:Nat)] 3)).alloc (.cells #[.int .u64 (r.t.p:Nat), .int .u64 (r.t.f:Nat), .int .u64 (r.t.r:Nat), .int .i64 (r.s:Nat), .int .i64 (r.m:Nat), .int .i64 (r.e:Nat), .int .i64 (r.rest:Nat)] 221)).alloc (.cells #[.int .u64 (a:Nat), .int .u64 (b:Nat)] 282)).alloc (.cells #[.int .u64 0, .int .u64 0, .int .u64 0] 216)):=⟨_,rfl⟩
 have K5:=hide (show CI N w W5 T d r (a:Nat) (b:Nat) ⟨0,0,0⟩ from by rw[hW5];exact CI.new w T d r _ _ N hN)
 have R0:=hide h
 have R5:=hide (h.below (by rw[hN];exact K5.out.be))
 obtain ⟨A,hA⟩:∃A:Nat,i * sz d=A:=⟨_,rfl⟩
 obtain ⟨B,hB⟩:∃B:Nat,(i+1) * sz d=B:=⟨_,rfl⟩
 rw[hA,hB] at hR
 rw[hA] at h2
 rw[hB] at h1 hi
 have hz:=sz_pos d
 have hzl:=sz_le d hd
 have hBA:B=A+sz d:=by rw[←hB,←hA,Nat.succ_mul]
 have i1:i<34359738368:=by
  have:i+1≤(i+1) * sz d:=Nat.le_mul_of_pos_right _ hz
  omega
 obtain ⟨a',ha'⟩:∃a':Nat,max a A=a':=⟨_,rfl⟩
 obtain ⟨b',hb'⟩:∃b':Nat,min b B=b':=⟨_,rfl⟩
 rw[ha',hb'] at hR
 have CN:=fun X hX=>hide (in_any d hd (i:Int) (a:Int) (b:Int) (A:Int) (B:Int) (by omega) (by omega) (by rw[←hA,Int.natCast_mul]) (by rw[←hB,Int.natCast_mul];rfl) (by omega) X hX)
 rw[show max (a:Int) (A:Int)=(a':Int) by omega,show min (b:Int) (B:Int)=(b':Int) by omega] at CN
 have CP:=fun X=>hide (pages_any (a':Int) (b':Int) (by omega) (by omega) (by omega) X)
 have CS:=fun X hX=>hide (size_any d hd X hX)
 have HA:=hide hA
 have HB:=hide hB
 have HW5:=hide hW5
 have HN:=hide hN
 have HR:=hide hR
 have HG:=hide hG
 have HBA:=hide hBA
 have ci5:=K5.out
 have c3:=ci5.sp.cell 0 _ rfl
 have c3':=ci5.sp.cell 1 _ rfl
 have c1:=ci5.dp.cell 0 _ rfl
 have ab1:A≤a':=by omega
 have ab2:a'<b':=by omega
 have ab3:b'≤B:=by omega
 have ab4:b'≤34359738368:=by omega
 have HP:=hide (And.intro ha' hb')
 clear h hN hW5 hA hB ci5 hR hG hBA ha' hb' h1 h2
 unfold spanV at CN CP
 unfold rwV spanV tp
 unfold tp at HW5
 refine (callsIn_wide (n:=3)).1 ?_
 refine callsIn_of_wp_marks Tryz.func188 rfl trivial ?_ rfl
 simp only[Tryz.ntmps188,List.size_toArray,List.length_cons,List.length_nil,Nat.reduceAdd,Nat.reduceSub,Array.replicate_succ,Array.replicate_zero,List.push_toArray,List.append_toArray,List.nil_append,List.cons_append]
 gi_wp2_with fail
 simp only[Nat.add_assoc,Nat.reduceAdd]
 rw[←HW5.out,HN.out]
 refine wcall2 (CN _ R5.out.tab).out ?_
 rintro e w6 ⟨rfl,b6⟩
 obtain ⟨V,hV⟩:∃V,(w6.setCell ⟨N+3,0,none⟩ (.int .u64 (a':Nat))).setCell ⟨N+3,1,none⟩ (.int .u64 (b':Nat))=V:=⟨_,rfl⟩
 have ci6:=K5.out.below b6
 have x3:=ci6.sp.cell 0 _ rfl
 have x3':=ci6.sp.cell 1 _ rfl
 have z3:=ci6.sp.fz 0
 have z3':=ci6.sp.fz 1
 have K7:=hide (show CJ N w V T L C d r (a':Nat) (b':Nat) from by
  refine ⟨by rw[←hV];exact ci6.setP _ _,?_⟩
  rw[←hV]
  have k1:=(kept_set (F:=fun x=>x=N+3) w6 (N+3) 0 (.int .u64 (a':Nat)) rfl).trans (kept_set (F:=fun x=>x=N+3) (w6.setCell ⟨N+3,0,none⟩ (.int .u64 (a':Nat))) (N+3) 1 (.int .u64 (b':Nat)) rfl) (fun _ _ z=>z)
  exact R0.out.new (R5.out.below b6) k1 (fun x hx=>by rw[HN.out];omega))
 clear b6 CN c1 c3 c3' ci6 K5 R5 HW5
 gi_wp2_with fail
 try rw[hV]
 have ci:=K7.out.ci
 have y1:=ci.dp.cell 0 _ rfl
 have y2:=ci.sp.cell 0 _ rfl
 have y3:=ci.sp.cell 1 _ rfl
 have l1:=ci.dp.lt
 have l2:=ci.sp.lt
 have hx:= @ext_cell V
 have hne:=ext_ne V
 have HTB:=hide K7.out.rad.tab
 clear ci hV x3 x3' z3 z3' W5
 by_cases c1:b' - a'=sz d
 ·have e1:((b':Int) -(a':Int)==((sz d:Nat):Int))=true:=beq_iff_eq.2 (by omega)
  refine all_w (by kernel_rfl) (by kernel_rfl) ?_
  repeat (first|go_big_quiet_step (first|exact calm_of (CP _).out|exact calm_same (CS _ (HTB.out.below (Ext.h _))).out)|(refine wpQuiet_step (fun K hK=> ?_);go_simp;refine hK _ ?_;clear hK K))
  refine wpQuiet_nil ?_
  rintro _ ⟨n2,rfl⟩
  have K8:=hide (K7.out.below n2.h)
  generalize n2.v=X at *
  clear n2
  have FIN:=hide (show ∀X',CI N w X' T d r (a':Nat) (b':Nat) r.t→R (.returned (tlV r.t)) X' from fun X' hX=>by
   rw[HR.out]
   refine ⟨?_,by rw[HN.out];exact hX.be⟩
   have:=HG.out.fact.1
   rw[HA.out] at this
   rw[show a'=A by have:=HBA.out;omega,show b' - A=sz d by have:=HBA.out;omega,this])
  have ci:=K8.out.ci
  have t0:=ci.rw.cell 0 _ rfl
  have t1:=ci.rw.cell 1 _ rfl
  have t2:=ci.rw.cell 2 _ rfl
  have u0:=ci.rs.cell 0 _ rfl
  have u1:=ci.rs.cell 1 _ rfl
  have u2:=ci.rs.cell 2 _ rfl
  have z0:=ci.rs.fz 0
  have z1:=ci.rs.fz 1
  have z2:=ci.rs.fz 2
  clear ci y1 y2 y3 l1 l2 hx hne HTB e1 CP CS IH
  gi_wp2_with fail
  have fin:=K8.out.ci.setT r.t.p r.t.f r.t.r
  exact ⟨tlV r.t,results_c Tryz.results188 _ _ ⟨N+4,0,none⟩ _ rfl (tally3 fin.rs),FIN.out _ fin⟩
 ·have e1:((b':Int) -(a':Int)==((sz d:Nat):Int))=false:=beq_eq_false_iff_ne.2 (by omega)
  refine all_w (by kernel_rfl) (by kernel_rfl) ?_
  repeat (first|go_big_quiet_step (first|exact calm_of (CP _).out|exact calm_same (CS _ (HTB.out.below (Ext.h _))).out)|(refine wpQuiet_step (fun K hK=> ?_);go_simp;refine hK _ ?_;clear hK K))
  refine wpQuiet_nil ?_
  rintro _ ⟨n2,rfl⟩
  have K8:=hide (K7.out.below n2.h)
  generalize n2.v=X at *
  clear n2 y1 y2 y3 l1 l2 hx hne HTB e1 K7 V w6
  have ci:=K8.out.ci
  have y1:=ci.dp.cell 0 _ rfl
  have t0:=ci.rw.cell 0 _ rfl
  have t1:=ci.rw.cell 1 _ rfl
  have t2:=ci.rw.cell 2 _ rfl
  have l1:=ci.dp.lt
  have l2:=ci.rw.lt
  have hx:= @ext_cell X
  have hne:=ext_ne X
  have HTB:=hide K8.out.rad.tab
  have CA:=fun Y=>hide (alike_any r.t (sz d) Y)
  obtain ⟨o,ho⟩:∃o,al r.t (sz d)=o:=⟨_,rfl⟩
  rw[ho] at CA
  unfold tlV at CA
  clear ci
  gi_wp2_with fail
  refine all_w (by kernel_rfl) (by kernel_rfl) ?_
  repeat (first|go_big_quiet_step (first|exact calm_of (CA _).out|exact calm_same (CS _ (HTB.out.below (Ext.h _))).out)|(refine wpQuiet_step (fun K hK=> ?_);go_simp;refine hK _ ?_;clear hK K))
  refine wpQuiet_nil ?_
  rintro _ ⟨n2,rfl⟩
  have K9:=hide (K8.out.below n2.h)
  generalize n2.v=Y at *
  clear n2 y1 t0 t1 t2 l1 l2 hx hne HTB K8 CA X
  have ci:=K9.out.ci
  have y1:=ci.dp.cell 0 _ rfl
  have y2:=ci.sp.cell 0 _ rfl
  have y3:=ci.sp.cell 1 _ rfl
  have u0:=ci.rs.cell 0 _ rfl
  have u1:=ci.rs.cell 1 _ rfl
  have u2:=ci.rs.cell 2 _ rfl
  have z0:=ci.rs.fz 0
  have z1:=ci.rs.fz 1
  have z2:=ci.rs.fz 2
  cases o with
  |some s=>
   obtain ⟨s3,hs⟩:=al_some ho
   have al1:=HG.out.all h4 ho
   rw[HA.out] at al1
   have al2:All st a' (b' - a') s:=al1.sub ab1 (by have:=HBA.out;omega)
   have FIN:=hide (show ∀X',CI N w X' T d r (a':Nat) (b':Nat) (tlOf s (b' - a'))→R (.returned (tlV (tlOf s (b' - a')))) X' from fun X' hX=>by
    rw[HR.out]
    exact ⟨by rw[al2.tl],by rw[HN.out];exact hX.be⟩)
   have CT:=fun Z=>hide (tallyOf_any s (b' - a') s3 Z)
   rw[show ((b' - a':Nat):Int)=(b':Int) -(a':Int) by omega] at CT
   obtain ⟨t,ht⟩:∃t,tlOf s (b' - a')=t:=⟨_,rfl⟩
   rw[ht] at CT FIN
   unfold tlV at CT
   simp only[Option.getD_some,Option.isSome_some]
   clear ho hs al1 al2 ht IH ci
   gi_wp2_with fail
   refine wcall2 (CP _).out ?_
   rintro e w8 ⟨rfl,b8⟩
   have K10:=hide (K9.out.below b8)
   have j0:=K10.out.ci.rs.cell 0 _ rfl
   have j1:=K10.out.ci.rs.cell 1 _ rfl
   have j2:=K10.out.ci.rs.cell 2 _ rfl
   clear b8 K9 u0 u1 u2 z0 z1 z2 y1 y2 y3
   gi_wp2_with fail
   refine wcall2 (CT _).out ?_
   rintro e w9 ⟨rfl,b9⟩
   have K11:=hide (K10.out.below b9)
   have j0:=K11.out.ci.rs.cell 0 _ rfl
   have j1:=K11.out.ci.rs.cell 1 _ rfl
   have j2:=K11.out.ci.rs.cell 2 _ rfl
   have z0:=K11.out.ci.rs.fz 0
   have z1:=K11.out.ci.rs.fz 1
   have z2:=K11.out.ci.rs.fz 2
   clear b9 K10
   gi_wp2_with fail
   have fin:=K11.out.ci.setT t.p t.f t.r
   exact ⟨tlV t,results_c Tryz.results188 _ _ ⟨N+4,0,none⟩ _ rfl (tally3 fin.rs),FIN.out _ fin⟩
  |none=>
   simp only[Option.getD_none,Option.isSome_none]
   by_cases d6:d=6
   ·
    subst d6
    obtain rfl:n=0:=by omega
    obtain ⟨blk,c,hc,hcs⟩:=HG.out.chunk ho
    have hlook:=fun (Z:World) (hZ:RadAt Z T L C)=>(hZ.cm.look tyC (zeroC _) i (by omega):_)
    have hch:=fun (Z:World) (hZ:RadAt Z T L C)=>hZ.ch i blk c hc
    rw[hc] at hlook
    have LK:∀m:Ext Y,(Instr.lookup 173 (.map (some T.cm)) (.int .u64 (i:Nat)) false).run Tryz.prog m.v= .ok (.pointer (some ⟨blk,0,none⟩)) m.v:=fun m=>hlook m.v (K9.out.rad.below m.h)
    have e6:sz 6=512:=rfl
    rw[e6] at HA HB HBA hz hzl c1
    have qa:a'=512 * i+a'%512:=by have:=HA.out;have:=HBA.out;omega
    have CT:=fun (m:Ext Y)=>hide (tallyC_any blk c m.v (hch m.v (K9.out.rad.below m.h)) (a'%512) (b' - a') (by have:=HA.out;have:=HBA.out;omega))
    have et:tl c (a'%512) (b' - a')=tl st a' (b' - a'):=by
     unfold tl
     have key:∀k,k<b' - a'→c (a'%512+k)=st (a'+k):=fun k hk=>by
      have:=hcs (a'%512+k) (by have:=HA.out;have:=HBA.out;omega)
      rw[this];congr 1;omega
     rw[cnt_congr (f:=inU c) (g:=inU st) (j:=a') fun k hk=>by unfold inU;rw[key k hk],cnt_congr (f:=fre c) (g:=fre st) (j:=a') fun k hk=>by unfold fre;rw[key k hk],cnt_congr (f:=rel c) (g:=rel st) (j:=a') fun k hk=>by unfold rel;rw[key k hk]]
    rw[et] at CT
    have FIN:=hide (show ∀X',CI N w X' T 6 r (a':Nat) (b':Nat) (tl st a' (b' - a'))→R (.returned (tlV (tl st a' (b' - a')))) X' from fun X' hX=>by
     rw[HR.out]
     exact ⟨rfl,by rw[HN.out];exact hX.be⟩)
    obtain ⟨t,ht⟩:∃t,tl st a' (b' - a')=t:=⟨_,rfl⟩
    rw[ht] at CT FIN
    rw[show ((b' - a':Nat):Int)=(b':Int) -(a':Int) by omega,show ((a'%512:Nat):Int)=(a':Int)%512 from rfl] at CT
    unfold tlV at CT
    have q0:=ci.tr.cell 0 _ rfl
    have q1:=K9.out.rad.c1
    have l0:=ci.tr.lt
    have l1:=K9.out.rad.lt (x:=T.tb) (.inr (.inl rfl))
    have l2:=ci.sp.lt
    have hx:= @ext_cell Y
    have hne:=ext_ne Y
    have m0:(0:Int)≤(a':Int)%512:=by omega
    have m1:(a':Int)%512<512:=by omega
    have m2:(0:Int)≤(b':Int) -(a':Int):=by omega
    have m3:(b':Int) -(a':Int)≤512:=by have:=HA.out;have:=HBA.out;omega
    unfold tp at q0
    simp only[Int.cast_ofNat_Int] at y1 ⊢
    clear ho hc hcs hlook hch et ht IH ci qa
    gi_wp2_with fail
    refine tail_w 14 (by kernel_rfl) (by kernel_rfl) ?_
    simp only[List.take_succ_cons,List.take_zero,List.drop_succ_cons,List.drop_zero]
    repeat (first|go_big_quiet_step (first|exact calm_of (CP _).out|exact calm_of (CT _).out)|(refine wpQuiet_step (fun K hK=> ?_);go_simp;refine hK _ ?_;clear hK K))
    refine wpQuiet_nil ?_
    rintro _ ⟨n3,rfl⟩
    have K10:=hide (K9.out.below n3.h)
    generalize n3.v=Z at *
    have j0:=K10.out.ci.rs.cell 0 _ rfl
    have j1:=K10.out.ci.rs.cell 1 _ rfl
    have j2:=K10.out.ci.rs.cell 2 _ rfl
    have z0:=K10.out.ci.rs.fz 0
    have z1:=K10.out.ci.rs.fz 1
    have z2:=K10.out.ci.rs.fz 2
    clear n3 hx hne LK CT CP
    gi_wp2_with fail
    have fin:=K10.out.ci.setT t.p t.f t.r
    exact ⟨tlV t,results_c Tryz.results188 _ _ ⟨N+4,0,none⟩ _ rfl (tally3 fin.rs),FIN.out _ fin⟩
   ·
    have dlt:d<6:=by omega
    obtain ⟨n',rfl⟩:∃n',n=n'+1:=⟨n - 1,by omega⟩
    have IH':=hide (IH dlt)
    rw[Nat.add_sub_cancel] at IH'
    have db:((d:Int)==6)=false:=beq_eq_false_iff_ne.2 (by omega)
    have d0:(0:Int)≤(d:Int):=by omega
    have d7:(d:Int)<6:=by omega
    obtain ⟨Q,hQ⟩:∃Q,Y.heap.size=Q:=⟨_,rfl⟩
    have lQ:N+5≤Q:=by have:=ci.rs.lt;omega
    obtain ⟨Z,hZ⟩:∃Z,((Y.alloc (.cells #[.int .u64 0, .int .u64 0, .int .u64 0] 216)).alloc (.cells #[.int .u64 (a':Nat), .int .u64 (b':Nat)] 282)).alloc (.cells #[.int .i64 ((d:Int)+1)] 3)=Z:=⟨_,rfl⟩
    have bZ:Below Y.heap.size Y Z:=by rw[←hZ];exact (((Below.refl _ Y).alloc (Nat.le_refl _) _).alloc (by simp) _).alloc (by simp;omega) _
    have z0:Z.heap[Q]? =some (.cells #[.int .u64 0, .int .u64 0, .int .u64 0] 216 (0,0)):=by rw[←hZ,alloc_at,if_neg (by simp;omega),alloc_at,if_neg (by simp;omega),alloc_at,if_pos hQ.symm]
    have z1:Z.heap[Q+1]? =some (.cells #[.int .u64 (a':Nat), .int .u64 (b':Nat)] 282 (0,0)):=by rw[←hZ,alloc_at,if_neg (by simp;omega),alloc_at,if_pos (by simp;omega)]
    have z2:Z.heap[Q+2]? =some (.cells #[.int .i64 ((d:Int)+1)] 3 (0,0)):=by rw[←hZ,alloc_at,if_pos (by simp;omega)]
    have sZ:Z.heap.size=Q+3:=by rw[←hZ];simp;omega
    have KZ:=K9.out.below bZ
    have I0:=hide (show CL N w T L C d r a' b' st Q 0 Z from ⟨KZ,by
     have e0:upto (d+1) a' b' 0 - a'=0:=by rw[upto_zero ab2];omega
     rw[e0];exact z0,⟨z1,z2,KZ.rad.tab⟩⟩)
    have CRW:=fun X=>hide (spanRows_any (a':Int) (b':Int) (d+1) X)
    have SEQ:=hide (SeqK.of_B (rows_seq (Q+1) (Q+2) (d+1) a' b' (by omega) ab2 (by omega) (3 - 1)))
    obtain ⟨f,hf⟩:∃f,a'/sz (d+1)=f:=⟨_,rfl⟩
    rw[hf] at SEQ
    have FIN:=hide (show ∀X',CI N w X' T d r (a':Nat) (b':Nat) (tl st a' (b' - a'))→R (.returned (tlV (tl st a' (b' - a')))) X' from fun X' hX=>by
     rw[HR.out]
     exact ⟨rfl,by rw[HN.out];exact hX.be⟩)
    have l1:=ci.dp.lt
    have l2:=ci.sp.lt
    have HZ:=hide hZ
    have HQ:=hide hQ
    have HF:=hide hf
    have HO:=hide ho
    unfold spanV at CRW
    clear ci IH u0 u1 u2 bZ z0 z1 z2 KZ hZ hQ ho hf CP CS
    gi_wp2_with fail
    refine wcall2 (CRW _).out ?_
    rintro e w8 ⟨rfl,hw8⟩
    have e8:w8=Z:=by rw[hw8,←HZ.out];rfl
    rw[e8]
    clear hw8 e8 w8 CRW
    simp only[World.size_alloc,Nat.add_assoc,Nat.reduceAdd]
    rw[HQ.out]
    gi_wp2_with fail
    refine range_K (w:=Z) rfl (enters_of Tryz.func289 (by kernel_rfl) rfl) SEQ.out (fun _=>rfl) (CL N w T L C d r a' b' st Q) (fun c k X=>False) (fun s X h=>h.rd) ?hI ?hIx I0.out ?round ?done ?stop
    case hI=>
     intro s X X' h k
     exact h.kept k lQ HN.out R0.out (fun x hx=>by rw[sZ] at hx;omega)
    case hIx=>rintro c s X X' h k;exact h
    case stop=>rintro c k X hk h;exact h.elim
    case round=>
     rintro k X ⟨r0,hr0⟩ hdf hsz h hk
     rw[sZ] at hr0 hdf hsz ⊢
     have HI:=hide h
     clear h hr0 hdf
     simp only[encs1]
     have kl:=(cnt_lt (D:=d+1) ab2).1 hk
     obtain ⟨k1,k2,k3,k4⟩:=kid_range (j:=a'/sz (d+1)+k) dlt (by rw[HA.out];exact ab1) (by rw[HB.out];exact ab3) (by omega) kl
     obtain ⟨v1,v2,v3,v4⟩:=upto_succ ab2 kl
     rw[HF.out] at kl k1 k2 k3 k4 v1 v2
     rw[HB.out] at k3
     obtain ⟨j,hj⟩:∃j,f+k=j:=⟨_,rfl⟩
     rw[hj] at kl k1 k2 k3 k4 v1 v2 ⊢
     have G1:=hide (HG.out.kid k1 k2)
     have FR:=HG.out.fact.2.2
     have j64:j<18446744073709551616:=by
      have h1:j+1≤(j+1) * sz (d+1):=Nat.le_mul_of_pos_right _ (sz_pos _)
      omega
     gi_wp2_with fail
     refine ⟨Kept.refl _ _,fun r1=> ?_⟩
     have kp:=Kept.put (F:=fun b=>b=Q+4) X (Q+3+1) (.loop r1) rfl
     obtain ⟨X2,hX2⟩:∃X2,X.putObj (Q+3+1) (.loop r1)=X2:=⟨_,rfl⟩
     rw[hX2] at kp ⊢
     have I3:=hide (HI.out.kept kp lQ HN.out R0.out (fun x hx=>by omega))
     have lz:Q+5≤X2.heap.size:=by have:=kp.size;omega
     have cj:=I3.out.cj
     obtain ⟨t,ht⟩:∃t,tl st a' (upto (d+1) a' b' k - a')=t:=⟨_,rfl⟩
     have ac:=I3.out.acc
     rw[ht] at ac
     have g0:=cj.ci.tr.cell 0 _ rfl
     have g1:=cj.ci.dp.cell 0 _ rfl
     have g2:=cj.ci.rw.cell 6 _ rfl
     have g3:=cj.ci.sp.cell 0 _ rfl
     have g4:=cj.ci.sp.cell 1 _ rfl
     have o0:=ac.cell 0 _ rfl
     have o1:=ac.cell 1 _ rfl
     have o2:=ac.cell 2 _ rfl
     have m0:=cj.ci.tr.lt
     have m1:=cj.ci.dp.lt
     have m2:=cj.ci.rw.lt
     have m3:=cj.ci.sp.lt
     have m4:=ac.lt
     have hx:= @ext_cell X2
     have hne:=ext_ne X2
     have CW:=fun (m:Ext X2)=>hide (row_any (cj.rad.below m.h) (d+1) j r.rest (by omega) j64 FR)
     obtain ⟨q,hq⟩:∃q,row L (d+1) j r.rest=q:=⟨_,rfl⟩
     rw[hq] at CW G1
     have CC:=fun (m:Ext X2)=>hide (IH'.out m.v (cj.rad.below m.h) j q a' b' G1.out (by omega) ab2 ab4 k4 kl)
     rw[←v1,←v2] at CC
     obtain ⟨t2,ht2⟩:∃t2,tl st (upto (d+1) a' b' k) (upto (d+1) a' b' (k+1) - upto (d+1) a' b' k)=t2:=⟨_,rfl⟩
     have et:tl st a' (upto (d+1) a' b' (k+1) - a')=t.add t2:=by
      rw[←ht,←ht2,show upto (d+1) a' b' (k+1) - a'=(upto (d+1) a' b' k - a')+(upto (d+1) a' b' (k+1) - upto (d+1) a' b' k) by omega,tl_add]
      congr 2
      omega
     have tb:=tl_le st a' (upto (d+1) a' b' (k+1) - a')
     have ub:upto (d+1) a' b' (k+1)≤b':=by rw[v2];omega
     rw[et] at tb
     have CD:=fun Z=>hide (plus_any t t2 (by unfold Tl.add at tb;dsimp only at tb;omega) Z)
     unfold CntP at CC
     rw[ht2] at CC
     have NX:=hide (show ∀X',Kept (fun b=>b<Q+3) X2 X'→CJ N w X' T L C d r (a':Nat) (b':Nat)→Bk X' Q 216 #[.int .u64 ((t.add t2).p:Nat), .int .u64 ((t.add t2).f:Nat), .int .u64 ((t.add t2).r:Nat)]→RdS (Q+1) (Q+2) (d+1) a' b' X'→Kept (fun b=>b<Q+3) X2 X'∧CL N w T L C d r a' b' st Q (k+1) X' from fun X' kk c1 c2 c3=>⟨kk,c1,by rw[et];exact c2,c3⟩)
     have AC:=hide ac
     obtain ⟨ta,hta⟩:∃ta,t.add t2=ta:=⟨_,rfl⟩
     rw[hta] at CD NX
     unfold tlV at CC CD
     unfold tp at g0
     unfold tp spanV at CC
     unfold tp at CW
     unfold rwV at CC CW
     clear cj ac ht ht2 et tb hq hj kp hX2 HI k1 k2 k3 k4 kl v1 v2 v3 v4 r0 ub hta
     gi_wp2_with fail
     refine tail_r 15 (by kernel_rfl) (by kernel_rfl) ?_
     simp only[List.take_succ_cons,List.take_zero,List.drop_succ_cons,List.drop_zero]
     repeat (first|go_big_quiet_step (first|exact calm_of (CW _).out|exact calm_of (CC _).out|exact calm_of (CD _).out)|(refine wpQuiet_step (fun K hK=> ?_);go_simp;refine hK _ ?_;clear hK K))
     refine wpQuiet_nil ?_
     rintro _ ⟨n3,rfl⟩
     have A5:=hide (AC.out.below n3.h)
     have J5:=hide (I3.out.cj.below n3.h)
     have D5:=hide (show RdS (Q+1) (Q+2) (d+1) a' b' n3.v from ⟨(n3.h.block _ (Array.getElem?_eq_some_iff.1 I3.out.rd.sp).1).trans I3.out.rd.sp,(n3.h.block _ (Array.getElem?_eq_some_iff.1 I3.out.rd.dp).1).trans I3.out.rd.dp,I3.out.rd.tab.below n3.h⟩)
     have KB:=hide (Kept.of_below (F:=fun b=>b<Q+3) n3.h)
     generalize n3.v=X5 at *
     have o0:=A5.out.cell 0 _ rfl
     have o1:=A5.out.cell 1 _ rfl
     have o2:=A5.out.cell 2 _ rfl
     have p0:=A5.out.fz 0
     have p1:=A5.out.fz 1
     have p2:=A5.out.fz 2
     clear n3 hx hne CW CC CD AC I3 m0 m1 m2 m3 m4 g0 g1 g2 g3 g4
     gi_wp2_with fail
     obtain ⟨X6,hX6⟩:∃X6,((X5.setCell ⟨Q,0,none⟩ (.int .u64 (ta.p:Nat))).setCell ⟨Q,1,none⟩ (.int .u64 (ta.f:Nat))).setCell ⟨Q,2,none⟩ (.int .u64 (ta.r:Nat))=X6:=⟨_,rfl⟩
     have kq:Kept (fun b=>b=Q) X5 X6:=by
      rw[←hX6]
      exact ((kept_set (F:=fun b=>b=Q) X5 Q 0 _ rfl).trans (kept_set (F:=fun b=>b=Q) _ Q 1 _ rfl) (fun _ _ z=>z)).trans (kept_set (F:=fun b=>b=Q) _ Q 2 _ rfl) (fun _ _ z=>z)
     have a6:=((A5.out.set 0 (.int .u64 (ta.p:Nat))).set 1 (.int .u64 (ta.f:Nat))).set 2 (.int .u64 (ta.r:Nat))
     try rw[hX6]
     rw[hX6] at a6
     exact NX.out X6 (KB.out.trans (kq.mono (G:=fun b=>b<Q+3) (fun b hb=>by omega)) (fun _ _ z=>z)) ⟨J5.out.ci.kept' kq (fun x hx=>by omega),R0.out.new J5.out.rad kq (fun x hx=>by rw[HN.out];omega)⟩ a6 ⟨kept_at kq D5.out.sp (by omega),kept_at kq D5.out.dp (by omega),D5.out.tab.kept kq ⟨by omega,by omega⟩⟩
    case done=>
     rintro X h hdf
     rw[sZ] at hdf ⊢
     have HI:=hide h
     have HD:=hide hdf
     have cj:=h.cj
     have ac:=h.acc
     rw[upto_end ab2] at ac
     obtain ⟨t,ht⟩:∃t,tl st a' (b' - a')=t:=⟨_,rfl⟩
     rw[ht] at FIN ac
     have o0:=ac.cell 0 _ rfl
     have o1:=ac.cell 1 _ rfl
     have o2:=ac.cell 2 _ rfl
     have p0:=cj.ci.rs.cell 0 _ rfl
     have p1:=cj.ci.rs.cell 1 _ rfl
     have p2:=cj.ci.rs.cell 2 _ rfl
     have f0:=cj.ci.rs.fz 0
     have f1:=cj.ci.rs.fz 1
     have f2:=cj.ci.rs.fz 2
     have CJX:=hide cj
     clear h hdf cj ac ht
     gi_wp2_with fail
     have fin:=CJX.out.ci.setT t.p t.f t.r
     have hd4:=kept_at (((kept_set (F:=fun b=>b=N+4) X (N+4) 0 (.int .u64 (t.p:Nat)) rfl).trans (kept_set (F:=fun b=>b=N+4) _ (N+4) 1 (.int .u64 (t.f:Nat)) rfl) (fun _ _ z=>z)).trans (kept_set (F:=fun b=>b=N+4) _ (N+4) 2 (.int .u64 (t.r:Nat)) rfl) (fun _ _ z=>z)) HD.out (by omega)
     refine ⟨by simp, .inl ⟨_,_,rfl,run_takeDeferred hd4,?_⟩⟩
     have kz:=Kept.put (F:=fun b=>b=Q+3) (((X.setCell ⟨N+4,0,none⟩ (.int .u64 (t.p:Nat))).setCell ⟨N+4,1,none⟩ (.int .u64 (t.f:Nat))).setCell ⟨N+4,2,none⟩ (.int .u64 (t.r:Nat))) (Q+3) (.deferred none) rfl
     have fin2:=fin.kept kz (fun x hx=>by omega)
     exact ⟨tlV t,results_c Tryz.results188 _ _ ⟨N+4,0,none⟩ _ rfl (tally3 fin2.rs),FIN.out _ fin2⟩
end Go.Proofs.YtdgdhnnakcncoaaGreatDoor
