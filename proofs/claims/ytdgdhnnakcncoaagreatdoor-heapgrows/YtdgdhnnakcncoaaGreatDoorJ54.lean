/- Of the proof of HeapGrows: texts RXw, RXx, RXy, RXz, RYa. -/
import Derived.Test.YtdgdhnnakcncoaaGreatDoorJ19
import Derived.Deep.AppendLies
namespace Go.Proofs.YtdgdhnnakcncoaaGreatDoor
set_option maxHeartbeats 1600000
open Go.ChangeShapes Go.WideShapes Go.ChangeAt Go.RowKit Go.Proofs.Bt Go.Shelf Go.Proofs.Rx Go.Maps Go.Proofs.Pk
set_option linter.unusedVariables false
set_option linter.unusedSimpArgs false
theorem fld60a (p f g s m e r:Value) (w:World):(Instr.field 221 (.agg #[p,f,g,s,m,e,r]) 0).run Tryz.prog w= .ok (.agg #[p,f,g]) w:=by
 simp[Instr.field,run_underlying Tryz.underlying221,part,go_sem,asAgg]
theorem fld55a (p f g:Value) (w:World):(Instr.field 216 (.agg #[p,f,g]) 0).run Tryz.prog w= .ok p w:=by
 simp[Instr.field,run_underlying Tryz.underlying216,part,go_sem,asAgg]
theorem fld55b (p f g:Value) (w:World):(Instr.field 216 (.agg #[p,f,g]) 1).run Tryz.prog w= .ok f w:=by
 simp[Instr.field,run_underlying Tryz.underlying216,part,go_sem,asAgg]
theorem fld55c (p f g:Value) (w:World):(Instr.field 216 (.agg #[p,f,g]) 2).run Tryz.prog w= .ok g w:=by
 simp[Instr.field,run_underlying Tryz.underlying216,part,go_sem,asAgg]
theorem fld63a (p f:Value) (w:World):(Instr.field 282 (.agg #[p,f]) 0).run Tryz.prog w= .ok p w:=by
 simp[Instr.field,run_underlying Tryz.underlying282,part,go_sem,asAgg]
set_option maxRecDepth 100000 in
theorem set9_any {w:World} {T:Tid} {L:Lv} {C:Ch} {st:Nat→Nat} (h:Tree w T L C st) (p n s:Nat) (hn:1≤n) (hpn:p+n≤34359738368) (hs:1≤s∧s≤3) (hm:Mono st p (p+n)):
 Calls Tryz.prog 145 #[tp T, .int .u64 (p:Nat), .int .u64 (n:Nat), .int .i64 (s:Nat)] w fun e w'=>e= .returned (.tuple #[])∧(∃L' C',Tree w' T L' C' (setSt st p (p+n) s)∧NewC w.heap.size C C')∧Kept (Wr T C) w w':=by
 obtain ⟨R,hR⟩:∃R,R=(fun (e:Ending) (w':World)=>e= .returned (.tuple #[])∧(∃L' C',Tree w' T L' C' (setSt st p (p+n) s)∧NewC w.heap.size C C')∧Kept (Wr T C) w w'):=⟨_,rfl⟩
 rw[←hR]
 have HR:=hide hR
 have HH:=hide h
 have CT:=hide (top_any h.rad)
 obtain ⟨r,hr⟩:∃r,row L 0 0 0=r:=⟨_,rfl⟩
 have e0:sz 0=34359738368:=rfl
 have G0:=h.good
 rw[hr] at CT G0
 have CI:=fun X (hX:RadAt X T L C)=>hide (setIn_any T 6 0 rfl X L C st hX h.four 0 r p (p+n) s G0 (by rw[e0];omega) (by omega) hpn (by rw[e0];omega) (by omega) hs (by
  rw[show max p (0 * sz 0)=p by omega,show min (p+n) ((0+1) * sz 0)=p+n by rw[e0];omega];exact hm))
 rw[show max p (0 * sz 0)=p by omega,show min (p+n) ((0+1) * sz 0)=p+n by rw[e0];omega] at CI
 have p0:(0:Int)≤p:=by omega
 have n0:(1:Int)≤n:=by omega
 have pn:(p:Int)+(n:Int)≤34359738368:=by omega
 rw[show ((p+n:Nat):Int)=(p:Int)+(n:Int) from rfl] at CI
 simp only[Int.cast_ofNat_Int] at CI
 unfold tp at CT CI ⊢
 unfold rwV at CT CI
 unfold spanV at CI
 clear hR h hm G0 hr
 go_enter Tryz.func145,Tryz.ntmps145
 go_wp2_with fail
 refine CT.out.mono ?_
 rintro e w1 ⟨rfl,b1⟩
 have B1:=hide b1
 have R1:=hide (HH.out.rad.below b1)
 clear b1 CT
 go_wp2_with fail
 refine (CI _ R1.out).out.mono ?_
 rintro e w2 ⟨r2,L2,C2,rfl,rad2,g2,o2,nc2,k2⟩
 have R2:=hide rad2
 have G2:=hide g2
 have NC2:=hide nc2
 have K2:=hide ((Kept.of_below (F:=Wr T C) B1.out).trans k2 (fun _ _ z=>z))
 have CK:=hide (keep_any rad2 0 0 0 (by omega) (by omega) (by omega) r2)
 have s1:=B1.out.size
 unfold rwV
 unfold tp rwV at CK
 simp only[Int.cast_ofNat_Int] at CK
 clear CI rad2 g2 o2 nc2 k2
 go_wp2_with fail
 refine CK.out.mono ?_
 rintro e w3 ⟨rfl,⟨o,ho,rad3⟩,k3⟩
 have F:=hide (show R (.returned (.tuple #[])) w3 from by
  rw[HR.out]
  refine ⟨rfl,⟨_,C2,⟨rad3,?_,setSt_four HH.out.four hs.2,fun q hq=> ?_⟩,NC2.out.mono (by omega)⟩,K2.out.trans k3 (fun x hx hz=> .inr (.inl ⟨0,by omega,hz⟩))⟩
  ·have er:row (putL L2 0 0 o) 0 0 0=r2:=by unfold row;rw[putL_same];exact ho
   rw[er]
   exact G2.out.congr rfl ⟨fun d x hd _=>(putL_other (fun z=>by omega)).symm,fun _ _=>rfl,fun _ _ _=>rfl⟩
  ·rw[setSt_out (by omega)];exact HH.out.out q hq)
 clear CK ho rad3 k3
 go_wp2_with fail
 exact bodyPost_ret (v:= .tuple #[]) (by simp[results,Tryz.results145,go_sem]) rfl F.out
def TreeE (B:Nat) (O:Nat→Prop) (w:World) (tb:Nat) (st:Nat→Nat):Prop:=∃T L C,T.tb=tb∧T.B=B∧Tree w T L C st∧∀x,O x→¬Foot T C x∧B≤x∧x<w.heap.size
theorem TreeE.lt {B:Nat} {O:Nat→Prop} {w:World} {tb:Nat} {st:Nat→Nat} (h:TreeE B O w tb st):tb<w.heap.size∧B≤tb∧B≤w.heap.size:=by
 obtain ⟨T,L,C,rfl,rfl,h1,h2⟩:=h
 have:=h1.rad.lt (x:=T.tb) (.inr (.inl rfl))
 have:=h1.rad.base T.tb (.inr (.inl rfl))
 omega
theorem TreeE.four {B:Nat} {O:Nat→Prop} {w:World} {tb:Nat} {st:Nat→Nat} (h:TreeE B O w tb st):Four st:=by
 obtain ⟨T,L,C,rfl,rfl,h1,h2⟩:=h
 exact h1.four
theorem TreeE.out {B:Nat} {O:Nat→Prop} {w:World} {tb:Nat} {st:Nat→Nat} (h:TreeE B O w tb st):∀q,34359738368≤q→st q=0:=by
 obtain ⟨T,L,C,rfl,rfl,h1,h2⟩:=h
 exact h1.out
theorem TreeE.more {B:Nat} {O O':Nat→Prop} {w w':World} {tb:Nat} {st:Nat→Nat} (h:TreeE B O w tb st) (hb:Below w.heap.size w w') (hO:∀x,O' x→O x∨(w.heap.size≤x∧x<w'.heap.size)):TreeE B O' w' tb st:=by
 have lt:=h.lt
 obtain ⟨T,L,C,e1,e2,h1,h2⟩:=h
 refine ⟨T,L,C,e1,e2,h1.below hb,fun x hx=> ?_⟩
 have:=hb.size
 rcases hO x hx with z|z
 ·obtain ⟨a,b,c⟩:=h2 x z
  exact ⟨a,b,by omega⟩
 ·exact ⟨h1.rad.foot_lt z.1,by omega,z.2⟩
theorem TreeE.below {B:Nat} {O:Nat→Prop} {w w':World} {tb:Nat} {st:Nat→Nat} (h:TreeE B O w tb st) (hb:Below w.heap.size w w'):TreeE B O w' tb st:=h.more hb (fun x hx=> .inl hx)
theorem TreeE.kept {B:Nat} {O F:Nat→Prop} {w w':World} {tb:Nat} {st:Nat→Nat} (h:TreeE B O w tb st) (k:Kept F w w') (hF:∀x,F x→O x):TreeE B O w' tb st:=by
 obtain ⟨T,L,C,e1,e2,h1,h2⟩:=h
 refine ⟨T,L,C,e1,e2,⟨h1.rad.kept k (fun x hx=>⟨(h2 x (hF x hx)).1,by rw[e2];exact (h2 x (hF x hx)).2.1⟩),h1.good,h1.four,h1.out⟩,fun x hx=> ?_⟩
 obtain ⟨a,b,c⟩:=h2 x hx
 have:=k.size
 exact ⟨a,b,by omega⟩
def Chg (B:Nat) (O:Nat→Prop) (w:World) (tb:Nat) (st:Nat→Nat) (w':World):Prop:=TreeE B O w' tb st∧Kept (fun x=>B≤x∧¬O x) w w'
theorem Chg.of {B:Nat} {O:Nat→Prop} {w w':World} {T:Tid} {L:Lv} {C:Ch} {st0 st:Nat→Nat} (h:Tree w T L C st0) (hB:T.B=B) (hO:∀x,O x→¬Foot T C x∧B≤x∧x<w.heap.size) (hx:∃L' C',Tree w' T L' C' st∧NewC w.heap.size C C') (k:Kept (Wr T C) w w'):Chg B O w T.tb st w':=by
 obtain ⟨L',C',h1,nc⟩:=hx
 refine ⟨⟨T,L',C',rfl,hB,h1,fun x hx=> ?_⟩,k.mono (fun x hx=>⟨by rw[←hB];exact h.rad.base x (.inl hx),fun z=>(hO x z).1 (.inl hx)⟩)⟩
 obtain ⟨a,b,c⟩:=hO x hx
 have:=k.size
 refine ⟨fun z=> ?_,b,by omega⟩
 rcases z with z|z
 ·rcases nc.wr z with y|y
  ·exact a (.inl y)
  ·omega
 ·exact a (.inr z)
theorem Chg.same {B:Nat} {O:Nat→Prop} {w w':World} {tb:Nat} {st:Nat→Nat} (h:TreeE B O w tb st) (hb:Below w.heap.size w w'):Chg B O w tb st w':=⟨h.below hb,Kept.of_below hb⟩
theorem TreeE.top {B:Nat} {O:Nat→Prop} {w:World} {tb:Nat} {st:Nat→Nat} (h:TreeE B O w tb st):
 Calls Tryz.prog 130 #[.pointer (some ⟨tb,0,none⟩)] w fun e w'=>(∃r,r.t=tl st 0 34359738368∧e= .returned (rwV r))∧Below w.heap.size w w':=by
 obtain ⟨T,L,C,rfl,rfl,h1,h2⟩:=h
 refine (top_any h1.rad).mono ?_
 rintro e w' ⟨he,hb⟩
 have:=h1.good.fact.1
 rw[Nat.zero_mul] at this
 exact ⟨⟨_,this,he⟩,hb⟩
set_option maxRecDepth 100000 in
theorem released9_any {B:Nat} {O:Nat→Prop} {w:World} {tb:Nat} {st:Nat→Nat} (h:TreeE B O w tb st):
 Calls Tryz.prog 76 #[.pointer (some ⟨tb,0,none⟩)] w fun e w'=>e= .returned (.int .u64 ((tl st 0 34359738368).r:Nat))∧Below w.heap.size w w':=by
 have CT:=hide h.top
 clear h
 obtain ⟨t,ht⟩:∃t,tl st 0 34359738368=t:=⟨_,rfl⟩
 rw[ht] at CT ⊢
 clear ht
 go_enter Tryz.func76,Tryz.ntmps76
 go_wp2_with fail
 refine CT.out.mono ?_
 rintro e w1 ⟨⟨r,rfl,rfl⟩,b1⟩
 have HB:=hide b1
 unfold rwV
 have g0:=fld60a
 have g1:=fld55b
 have g2:=fld55c
 clear b1 CT
 go_wp2_with fail
 go_ret
 exact ⟨rfl,HB.out⟩
theorem TreeE.count {B:Nat} {O:Nat→Prop} {w:World} {tb:Nat} {st:Nat→Nat} (h:TreeE B O w tb st) (p n:Nat) (hp:p<18446744073709551616) (hn:n<18446744073709551616):
 Calls Tryz.prog 134 #[.pointer (some ⟨tb,0,none⟩), .int .u64 (p:Nat), .int .u64 (n:Nat)] w fun e w'=>e= .returned (tlV (cntT st p n))∧Below w.heap.size w w':=by
 obtain ⟨T,L,C,rfl,rfl,h1,h2⟩:=h
 exact count9_any h1 p n hp hn
theorem TreeE.set {B:Nat} {O:Nat→Prop} {w:World} {tb:Nat} {st:Nat→Nat} (h:TreeE B O w tb st) (p n s:Nat) (hn:1≤n) (hpn:p+n≤34359738368) (hs:1≤s∧s≤3) (hm:Mono st p (p+n)):
 Calls Tryz.prog 145 #[.pointer (some ⟨tb,0,none⟩), .int .u64 (p:Nat), .int .u64 (n:Nat), .int .i64 (s:Nat)] w fun e w'=>e= .returned (.tuple #[])∧Chg B O w tb (setSt st p (p+n) s) w':=by
 obtain ⟨T,L,C,rfl,rfl,h1,h2⟩:=h
 refine (set9_any h1 p n s hn hpn hs hm).mono ?_
 rintro e w' ⟨he,hx,k⟩
 exact ⟨he,Chg.of h1 rfl h2 hx k⟩
theorem Chg.after {B:Nat} {O:Nat→Prop} {w w1 w2:World} {tb:Nat} {st:Nat→Nat} (hb:Below w.heap.size w w1) (h:Chg B O w1 tb st w2):Chg B O w tb st w2:=⟨h.1,(Kept.of_below hb).trans h.2 (fun _ _ z=>z)⟩
theorem Chg.next {B:Nat} {O:Nat→Prop} {w w1 w2:World} {tb:Nat} {st:Nat→Nat} (h:Chg B O w tb st w1) (hb:Below w1.heap.size w1 w2):Chg B O w tb st w2:=⟨h.1.below hb,h.2.trans (Kept.of_below (F:=fun _=>False) hb) (fun _ _ z=>z.elim)⟩
theorem Chg.fewer {B b:Nat} {O:Nat→Prop} {w w':World} {tb:Nat} {st:Nat→Nat} (h:Chg B (fun x=>O x∨x=b) w tb st w'):Chg B O w tb st w':=by
 obtain ⟨⟨T,L,C,e1,e2,h1,h2⟩,k⟩:=h
 exact ⟨⟨T,L,C,e1,e2,h1,fun x hx=>h2 x (.inl hx)⟩,k.mono (fun x hx=>⟨hx.1,fun z=>hx.2 (.inl z)⟩)⟩
theorem cntT_in {st:Nat→Nat} {p n:Nat} (h:¬(n=0∨(cntT st p n).p<n)):1≤n∧p+n≤34359738368∧cntT st p n=tl st p n:=by
 unfold cntT at h ⊢
 by_cases z:n=0∨34359738368<p+n
 ·rw[if_pos z] at h;dsimp only at h;omega
 ·rw[if_neg z];exact ⟨by omega,by omega,rfl⟩
theorem all_free {st:Nat→Nat} {p n:Nat} (h:¬(tl st p n).f<n):∀q,p≤q→q<p+n→2≤st q:=fun q q1 q2=>by
 have h1:=(tl_le st p n).2.1
 have h2:cnt (fre st) p n=n:=by unfold tl at h h1;dsimp only at h h1;omega
 have:=cnt_full.1 h2 (q - p) (by omega)
 rw[show p+(q - p)=q by omega] at this
 unfold fre at this
 exact of_decide_eq_true this
def TakeP (B:Nat) (O:Nat→Prop) (w:World) (tb:Nat) (st:Nat→Nat) (p n:Nat) (e:Ending) (w':World):Prop:=
 (n=0∨(cntT st p n).p<n→e= .returned (.tuple #[.int .u64 0, .int .i64 10])∧Chg B O w tb st w')∧
 (¬(n=0∨(cntT st p n).p<n)→(tl st p n).f<n→e= .returned (.tuple #[.int .u64 0, .int .i64 32])∧Chg B O w tb st w')∧
 (¬(n=0∨(cntT st p n).p<n)→¬(tl st p n).f<n→e= .returned (.tuple #[.int .u64 ((tl st p n).r:Nat), .int .i64 0])∧Chg B O w tb (setSt st p (p+n) 1) w')
theorem tal_box {w1 W:World} {b:Nat} {t:Tl} (hb:w1.heap.size=b) (hW:W=w1.alloc (.cells #[.int .u64 (t.p:Nat), .int .u64 (t.f:Nat), .int .u64 (t.r:Nat)] 216)):Bk W b 216 #[.int .u64 (t.p:Nat), .int .u64 (t.f:Nat), .int .u64 (t.r:Nat)]:=by rw[hW,←hb];exact World.alloc_heap_new w1 _
set_option maxRecDepth 100000 in
theorem take9_any {B:Nat} {O:Nat→Prop} {w:World} {tb:Nat} {st:Nat→Nat} (h:TreeE B O w tb st) (p n:Nat) (hp:p<18446744073709551616) (hn:n<18446744073709551616):
 Calls Tryz.prog 305 #[.pointer (some ⟨tb,0,none⟩), .int .u64 (p:Nat), .int .u64 (n:Nat)] w (TakeP B O w tb st p n):=by
 obtain ⟨R,hR⟩:∃R,R=TakeP B O w tb st p n:=⟨_,rfl⟩
 rw[←hR]
 have HR:=hide hR
 have HH:=hide h
 have CC:=hide (h.count p n hp hn)
 obtain ⟨t,ht⟩:∃t,cntT st p n=t:=⟨_,rfl⟩
 rw[ht] at CC
 unfold tlV at CC
 have HT:=hide ht
 have q:((n:Int)==0)=true∨((n:Int)==0)=false∧(decide (t.p<n)=true∨decide (t.p<n)=false∧(decide (t.f<n)=true∨decide (t.f<n)=false)):=by
  simp only[decide_eq_true_eq,decide_eq_false_iff_not,beq_eq_false_iff_ne,beq_iff_eq,ne_eq]
  omega
 clear hR h ht
 go_enter Tryz.func305,Tryz.ntmps305
 go_wp2_with fail
 refine CC.out.mono ?_
 rintro e w1 ⟨rfl,b1⟩
 obtain ⟨b,hb⟩:∃b,w1.heap.size=b:=⟨_,rfl⟩
 obtain ⟨W,hW⟩:∃W,w1.alloc (.cells #[.int .u64 (t.p:Nat), .int .u64 (t.f:Nat), .int .u64 (t.r:Nat)] 216)=W:=⟨_,rfl⟩
 have TB:=hide (tal_box hb hW.symm)
 have bW:Below w.heap.size w W:=by rw[←hW];exact b1.alloc b1.size _
 have BW:=hide bW
 have s1:=b1.size
 have c0:=TB.out.cell 0 _ rfl
 have c1:=TB.out.cell 1 _ rfl
 have c2:=TB.out.cell 2 _ rfl
 clear b1 CC bW
 rcases q with d1|⟨d1,d2|⟨d2,d3|d3⟩⟩
 ·have F:=hide (show R (.returned (.tuple #[.int .u64 0, .int .i64 10])) W from by
   have z:n=0∨(cntT st p n).p<n:= .inl (by simp only[beq_iff_eq] at d1;omega)
   rw[HR.out]
   exact ⟨fun _=>⟨rfl,Chg.same HH.out BW.out⟩,fun y=>absurd z y,fun y=>absurd z y⟩)
  go_wp2_with fail
  first|exact F.out|(refine bodyPost_ret (results_tmp2 rfl _ _ _) rfl ?_;exact F.out)
 ·have F:=hide (show R (.returned (.tuple #[.int .u64 0, .int .i64 10])) W from by
   have z:n=0∨(cntT st p n).p<n:= .inr (by rw[HT.out];simp only[decide_eq_true_eq] at d2;omega)
   rw[HR.out]
   exact ⟨fun _=>⟨rfl,Chg.same HH.out BW.out⟩,fun y=>absurd z y,fun y=>absurd z y⟩)
  go_wp2_with fail
  first|exact F.out|(refine bodyPost_ret (results_tmp2 rfl _ _ _) rfl ?_;exact F.out)
 ·have nb:¬(n=0∨(cntT st p n).p<n):=by rw[HT.out];simp only[beq_eq_false_iff_ne,ne_eq,decide_eq_false_iff_not] at d1 d2;omega
  obtain ⟨n1,n2,n3⟩:=cntT_in nb
  have F:=hide (show R (.returned (.tuple #[.int .u64 0, .int .i64 32])) W from by
   have z:(tl st p n).f<n:=by rw[←n3,HT.out];simp only[decide_eq_true_eq] at d3;omega
   rw[HR.out]
   exact ⟨fun y=>absurd y nb,fun _ _=>⟨rfl,Chg.same HH.out BW.out⟩,fun _ y=>absurd z y⟩)
  clear nb n3
  go_wp2_with fail
  first|exact F.out|(refine bodyPost_ret (results_tmp2 rfl _ _ _) rfl ?_;exact F.out)
 ·have nb:¬(n=0∨(cntT st p n).p<n):=by rw[HT.out];simp only[beq_eq_false_iff_ne,ne_eq,decide_eq_false_iff_not] at d1 d2;omega
  obtain ⟨n1,n2,n3⟩:=cntT_in nb
  have z:¬(tl st p n).f<n:=by rw[←n3,HT.out];simp only[decide_eq_false_iff_not] at d3;omega
  have TW:=hide (show TreeE B (fun x=>O x∨x=b) W tb st from HH.out.more BW.out (fun x hx=>hx.imp id (fun e=>by
   have h1:=TB.out.lt
   subst e
   exact ⟨by omega,h1⟩)))
  have CS:=hide (TW.out.set p n 1 n1 n2 ⟨by omega,by omega⟩ (.inr (.inl (all_free z))))
  simp only[Int.cast_ofNat_Int] at CS
  have F:=hide (show ∀W',Chg B (fun x=>O x∨x=b) W tb (setSt st p (p+n) 1) W'→R (.returned (.tuple #[.int .u64 (t.r:Nat), .int .i64 0])) W' from fun W' hc=>by
   rw[HR.out]
   exact ⟨fun y=>absurd y nb,fun _ y=>absurd y z,fun _ _=>⟨by rw[←n3,HT.out],hc.fewer.after BW.out⟩⟩)
  clear nb n3 z
  go_wp2_with fail
  refine CS.out.mono ?_
  rintro e w3 ⟨rfl,hc⟩
  have c2:=(TB.out.kept hc.2 (fun z=>z.2 (.inr rfl))).cell 2 _ rfl
  have HC:=hide hc
  clear hc CS
  go_wp2_with fail
  first|exact (F.out _ HC.out)|(refine bodyPost_ret (results_tmp2 rfl _ _ _) rfl ?_;exact (F.out _ HC.out))
def GrowBad (c n:Nat):Prop:=n=0∨262144<n∨67108864<c+n
def GrowP (B:Nat) (O:Nat→Prop) (w:World) (tb:Nat) (st:Nat→Nat) (c n:Nat) (e:Ending) (w':World):Prop:=
 (GrowBad c n→e= .returned (.int .i64 1)∧Chg B O w tb st w')∧
 (¬GrowBad c n→0<(tl st (c * 512) (n * 512)).p→e= .returned (.int .i64 34)∧Chg B O w tb st w')∧
 (¬GrowBad c n→¬0<(tl st (c * 512) (n * 512)).p→e= .returned (.int .i64 0)∧Chg B O w tb (setSt st (c * 512) (c * 512+n * 512) 3) w')
set_option maxRecDepth 100000 in
theorem grow_any {B:Nat} {O:Nat→Prop} {w:World} {tb:Nat} {st:Nat→Nat} (h:TreeE B O w tb st) (c n:Nat) (hc:c<18446744073709551616) (hn:n<18446744073709551616):
 Calls Tryz.prog 281 #[.pointer (some ⟨tb,0,none⟩), .int .u64 (c:Nat), .int .u64 (n:Nat)] w (GrowP B O w tb st c n):=by
 obtain ⟨R,hR⟩:∃R,R=GrowP B O w tb st c n:=⟨_,rfl⟩
 rw[←hR]
 have HR:=hide hR
 have HH:=hide h
 have BAD:=hide (show GrowBad c n→∀W,Below w.heap.size w W→R (.returned (.int .i64 1)) W from fun z W hW=>by
  rw[HR.out];exact ⟨fun _=>⟨rfl,Chg.same HH.out hW⟩,fun y=>absurd z y,fun y=>absurd z y⟩)
 have q:((n:Int)==0)=true∨((n:Int)==0)=false∧(decide ((262144:Int)<(n:Int))=true∨decide ((262144:Int)<(n:Int))=false∧(decide ((67108864:Int) -(n:Int)<(c:Int))=true∨decide ((67108864:Int) -(n:Int)<(c:Int))=false)):=by
  simp only[decide_eq_true_eq,decide_eq_false_iff_not,beq_eq_false_iff_ne,beq_iff_eq,ne_eq]
  omega
 have n0:(0:Int)≤n:=by omega
 have n1:(n:Int)<18446744073709551616:=by omega
 have c0:(0:Int)≤c:=by omega
 clear hR h
 rcases q with d1|⟨d1,d2|⟨d2,d3|d3⟩⟩
 ·have F:=hide (BAD.out (.inl (by simp only[beq_iff_eq] at d1;omega)) w (Below.refl _ _))
  clear BAD HR
  generalize (c:Int)=P at *
  generalize (n:Int)=M at *
  go_enter Tryz.func281,Tryz.ntmps281
  go_wp2_with fail
  first|exact F.out|(go_ret;exact F.out)
 ·have F:=hide (BAD.out (.inr (.inl (by simp only[decide_eq_true_eq] at d2;omega))) w (Below.refl _ _))
  clear BAD HR
  generalize (c:Int)=P at *
  generalize (n:Int)=M at *
  go_enter Tryz.func281,Tryz.ntmps281
  go_wp2_with fail
  first|exact F.out|(go_ret;exact F.out)
 ·have F:=hide (BAD.out (.inr (.inr (by simp only[decide_eq_true_eq] at d3;omega))) w (Below.refl _ _))
  have m1:(n:Int)≤262144:=by simp only[decide_eq_false_iff_not] at d2;omega
  clear BAD HR
  generalize (c:Int)=P at *
  generalize (n:Int)=M at *
  go_enter Tryz.func281,Tryz.ntmps281
  go_wp2_with fail
  first|exact F.out|(go_ret;exact F.out)
 ·have nb:¬GrowBad c n:=by
   unfold GrowBad
   simp only[beq_eq_false_iff_ne,ne_eq,decide_eq_false_iff_not] at d1 d2 d3
   omega
  have NB:=hide nb
  have nb':n≠0∧n≤262144∧c+n≤67108864:=by unfold GrowBad at nb;omega
  have CC:=fun X (hX:TreeE B O X tb st)=>hide (hX.count (c * 512) (n * 512) (by omega) (by omega))
  have ec:cntT st (c * 512) (n * 512)=tl st (c * 512) (n * 512):=by unfold cntT;rw[if_neg (by omega)]
  rw[ec] at CC
  have HT:∃t,tl st (c * 512) (n * 512)=t:=⟨_,rfl⟩
  obtain ⟨t,ht⟩:=HT
  rw[ht] at CC
  have HT:=hide ht
  have CS:=fun X (hX:TreeE B O X tb st)=>hide (hX.set (c * 512) (n * 512) 3 (by omega) (by omega) ⟨by omega,by omega⟩ (.inr (.inr ⟨⟨c,by omega⟩,⟨c+n,by omega⟩⟩)))
  rw[Int.natCast_mul,Int.natCast_mul] at CC CS
  simp only[Int.cast_ofNat_Int] at CC CS
  have m1:(n:Int)≤262144:=by omega
  have m2:(1:Int)≤n:=by omega
  have m3:(c:Int)+n≤67108864:=by omega
  have g0:=fld55a
  unfold tlV at CC
  clear nb nb' ec ht BAD
  go_enter Tryz.func281,Tryz.ntmps281
  go_wp2_with fail
  refine (CC _ HH.out).out.mono ?_
  rintro e w1 ⟨rfl,b1⟩
  have B1:=hide b1
  have T1:=hide (HH.out.below b1)
  by_cases z:0<t.p
  ·have d4:decide (0<t.p)=true:=decide_eq_true z
   have F:=hide (show R (.returned (.int .i64 34)) w1 from by
    rw[HR.out]
    exact ⟨fun y=>absurd y NB.out,fun _ _=>⟨rfl,Chg.same HH.out B1.out⟩,fun _ y=>absurd (by rw[HT.out];exact z) y⟩)
   clear b1 CC CS z
   go_wp2_with fail
   first|exact F.out|(go_ret;exact F.out)
  ·have d4:decide (0<t.p)=false:=decide_eq_false z
   have F:=hide (show ∀W',Chg B O w1 tb (setSt st (c * 512) (c * 512+n * 512) 3) W'→R (.returned (.int .i64 0)) W' from fun W' hc=>by
    rw[HR.out]
    exact ⟨fun y=>absurd y NB.out,fun _ y=>absurd y (by rw[HT.out];exact z),fun _ _=>⟨rfl,hc.after B1.out⟩⟩)
   clear b1 CC z
   go_wp2_with fail
   refine (CS _ T1.out).out.mono ?_
   rintro e w3 ⟨rfl,hc⟩
   have HC:=hide hc
   clear hc CS
   go_wp2_with fail
   first|exact F.out _ HC.out|(go_ret;exact F.out _ HC.out)
theorem infoMap:(Tryz.prog.info? 178).map (fun i=>(i.zero,i.size,i.bytes))=some (some (.map none),1,8):=by kernel_rfl
theorem wp_append_run {P:Program} {w w':World} {o:Oper} {a:Act} {K:Act→World→Prop} {Q:Exit→Act→World→Prop} (s x:Operand) (t:TypeId)
 (ho:o.op= .call {callee:= .builtin .append,args:=#[s,x],argTypes:=#[t,t]}) {v u v':Value} (hs:a.eval s=v) (hx:a.eval x=u) (hr:(Builtin.append_ #[t,t] o.type #[v,u]).run P w= .ok v' w') (h:K (a.put o.dst v') w'):o.wp P a w K Q:=by
 unfold Oper.wp execOp
 simp only[ho,resolve,invoke,builtin,Sem.run_bind,Sem.run_pure,Result.andThen_ok,List.map_toArray,List.map_cons,List.map_nil,hs,hx,hr]
 exact h
theorem list_append_run {P:Program} {w w':World} {ops:Array Oper} {rest:List Oper} {o:Oper} {a:Act} {Q:Exit→Act→World→Prop} (hgd:o.guard=none) (s x:Operand) (t:TypeId)
 (ho:o.op= .call {callee:= .builtin .append,args:=#[s,x],argTypes:=#[t,t]}) {v u v':Value} (hs:a.eval s=v) (hx:a.eval x=u) (hr:(Builtin.append_ #[t,t] o.type #[v,u]).run P w= .ok v' w') (h:wpList P ops Q rest (a.put o.dst v') w'):wpList P ops Q (o::rest) a w:=
 wpList_plain hgd fun _ hK=>wp_append_run s x t ho hs hx hr (hK _ _ h)
def mv (mp:Nat→Nat) (k:Nat):List Value:=(List.range k).map fun d=> .map (some (mp d))
theorem mv_succ (mp:Nat→Nat) (k:Nat):mv mp (k+1)=mv mp k++ [.map (some (mp k))]:=by simp[mv,List.range_succ]
theorem mv_congr {mp mp':Nat→Nat} {k:Nat} (h:∀d,d<k→mp d=mp' d):mv mp k=mv mp' k:=by
 unfold mv
 exact List.map_congr_left fun d hd=>by rw[h d (List.mem_range.1 hd)]
theorem mv_at {mp:Nat→Nat} {k d:Nat} (h:d<k):(mv mp k)[d]? =some (.map (some (mp d))):=by simp[mv,h]
structure NW (N:Nat) (w:World) (k:Nat) (v:Value) (mp:Nat→Nat) (X:World):Prop where
 be:Below N w X
 tc:Bk X (N+1) 176 #[v, .map (some N)]
 cm:MapG encC X N (fun _=>none)
 own:X.ownsRow (N+2) 178 1 v k (mv mp k)
 mps:∀d,d<k→MapG encR X (mp d) (fun _=>none)∧N+2≤mp d
 inj:∀d d',d<k→d'<k→mp d=mp d'→d=d'
 nv:∀g,v.ownBlock=some g→∀d,d<k→mp d≠g
theorem NW.step {N:Nat} {w:World} {k:Nat} {v:Value} {mp:Nat→Nat} {X:World} (h:NW N w k v mp X) (hk:k<7) (ty:TypeId):
 ∃g cap Y,(Builtin.append_ #[174,174] ty #[v, .slice (some ⟨X.heap.size+1,0,none⟩) 1 1]).run Tryz.prog ((X.alloc (.map #[] 0)).alloc (.cells #[.map (some X.heap.size)] 178))= .ok (.slice (some ⟨g,0,none⟩) (k+1) cap) Y∧N+1<Y.heap.size∧Bk Y (N+1) 176 #[v, .map (some N)]∧
  ∃mp',NW N w (k+1) (.slice (some ⟨g,0,none⟩) (k+1) cap) mp' (Y.setCell ⟨N+1,0,none⟩ (.slice (some ⟨g,0,none⟩) (k+1) cap)):=by
 obtain ⟨i0,hi0,hz0,hz1,hz2⟩:=Mg.info_parts infoMap
 obtain ⟨X1,hX1⟩:∃X1,X.alloc (.map #[] 0)=X1:=⟨_,rfl⟩
 obtain ⟨X2,hX2⟩:∃X2,X1.alloc (.cells #[.map (some X.heap.size)] 178)=X2:=⟨_,rfl⟩
 have s1:X1.heap.size=X.heap.size+1:=by rw[←hX1];simp
 have s2:X2.heap.size=X.heap.size+2:=by rw[←hX2];simp;omega
 have b2:Below X.heap.size X X2:=by rw[←hX2,←hX1];exact ((Below.refl _ X).alloc (Nat.le_refl _) _).alloc (by simp) _
 have lt:=h.tc.lt
 have own2:X2.ownsRow (N+2) 178 1 v k (mv mp k):=owns_kept h.own (fun x hx=>b2.block x (h.own.lt x hx).2)
 have n2:X2.heap[X.heap.size+1]? =some (.cells #[.map (some X.heap.size)] 178 (0,0)):=by rw[←hX2,←s1];exact World.alloc_heap_new X1 _
 obtain ⟨g,cap,Y,r1,o1,g1,hat,hlt⟩:=run_append_lies (P:=Tryz.prog) X2 174 ty (N+2) 178 i0 _ 1 8 Tryz.underlying174 hi0 hz0 hz1 hz2 rfl (by decide) v k (mv mp k) own2 ⟨X.heap.size+1,0,none⟩ 1 1 [.map (some X.heap.size)] rfl (World.news_of_block n2) (by intro u hu;simp at hu;rw[hu];rfl) (by decide) (by unfold maxLen;omega) (by omega) (by omega) _ rfl
 have vlt:∀x,v.ownBlock=some x→N+2≤x∧x<X.heap.size:=fun x hx=>h.own.lt x hx
 have blk:∀x,x<X2.heap.size→v.ownBlock≠some x→Y.heap[x]? =X2.heap[x]? :=fun x hx hv=>g1.block x hx (fun e=>hv e.symm)
 have old:∀x,x<X.heap.size→v.ownBlock≠some x→Y.heap[x]? =X.heap[x]? :=fun x hx hv=>(blk x (by omega) hv).trans (b2.block x hx)
 have tcY:Bk Y (N+1) 176 #[v, .map (some N)]:=(old (N+1) lt (fun e=>by have:=vlt _ e;omega)).trans h.tc
 have gN:N+2≤g:=by
  rcases hat with e|e
  ·exact (vlt g e).1
  ·omega
 have sY:=g1.size
 refine ⟨g,cap,Y,by rw[hX1,hX2];exact r1,by omega,tcY,fun d=>if d<k then mp d else X.heap.size,?_⟩
 obtain ⟨Z,hZ⟩:∃Z,Y.setCell ⟨N+1,0,none⟩ (.slice (some ⟨g,0,none⟩) (k+1) cap)=Z:=⟨_,rfl⟩
 have kz:Kept (fun x=>x=N+1) Y Z:=by rw[←hZ];exact kept_set (F:=fun x=>x=N+1) Y (N+1) 0 _ rfl
 rw[hZ]
 have em:∀d,d<k→(if d<k then mp d else X.heap.size)=mp d:=fun d hd=>if_pos hd
 have e2:mv (fun d=>if d<k then mp d else X.heap.size) (k+1)=mv mp k++ [.map (some X.heap.size)]:=by
  rw[mv_succ,if_neg (by omega),mv_congr (mp:=fun d=>if d<k then mp d else X.heap.size) (mp':=mp) em]
 have mlt:∀d,d<k→mp d<X.heap.size:=fun d hd=>(h.mps d hd).1.lt
 refine ⟨?_,?_,?_,?_,fun d hd=> ?_,fun d d' hd hd'=> ?_,fun g' hg d hd=> ?_⟩
 ·have b3:Below N w Y:=((h.be.trans (b2.mono (by omega)))).grown g1 (by omega) (fun x hx=>by have:=vlt x hx;omega)
  exact below_kept b3 kz (fun x hx=>by omega) (by omega)
 ·have:=tcY.set 0 (.slice (some ⟨g,0,none⟩) (k+1) cap)
  rw[←hZ];exact this
 ·exact (h.cm.kept (old N (by omega) (fun e=>by have:=vlt _ e;omega))).kept (kz.block N (by omega) (by omega))
 ·rw[e2]
  exact owns_kept o1 (fun x hx=>by
   have e:g=x:=by simpa [Value.ownBlock] using hx
   exact kz.block x (by omega) (by omega))
 ·by_cases z:d<k
  ·rw[if_pos z]
   obtain ⟨m1,m2⟩:=h.mps d z
   exact ⟨(m1.kept (old (mp d) m1.lt (fun e=>h.nv _ e d z rfl))).kept (kz.block _ (by have:=m1.lt;omega) (by omega)),m2⟩
  ·rw[if_neg z]
   have m1:MapG encR X1 X.heap.size (fun _=>none):=by rw[←hX1];exact MapG.made encR X
   have m2:MapG encR X2 X.heap.size (fun _=>none):=m1.below (by rw[←hX2];exact grown1 X1 _)
   exact ⟨(m2.kept (blk X.heap.size (by omega) (fun e=>by have:=vlt _ e;omega))).kept (kz.block _ (by omega) (by omega)),by omega⟩
 ·by_cases z:d<k
  ·by_cases z':d'<k
   ·rw[if_pos z,if_pos z'];exact h.inj d d' z z'
   ·rw[if_pos z,if_neg z'];intro e;have:=mlt d z;omega
  ·by_cases z':d'<k
   ·rw[if_neg z,if_pos z'];intro e;have:=mlt d' z';omega
   ·intro _;omega
 ·have e:g=g':=by simpa [Value.ownBlock] using hg
  subst e
  by_cases z:d<k
  ·rw[if_pos z]
   rcases hat with e|e
   ·exact h.nv g e d z
   ·have:=mlt d z;omega
  ·rw[if_neg z]
   rcases hat with e|e
   ·have:=vlt g e;omega
   ·omega
theorem NW.tree {N:Nat} {w:World} {v:Value} {mp:Nat→Nat} {X:World} (h:NW N w 7 v mp X) (ht:TabW X) (h2:2≤N):TreeE N (fun _=>False) X (N+1) (fun _=>0):=by
 obtain ⟨g,cap,hv,hb,hg⟩:=h.own.form (by decide)
 subst hv
 refine ⟨⟨N,N+1,g,N,cap,mp⟩,fun _ _=>none,fun _=>none,rfl,rfl,⟨⟨ht,h.tc.cell 0 _ rfl,h.tc.cell 1 _ rfl,fun d hd=> ?_,fun d hd=>(h.mps d (by omega)).1,h.cm,fun i b c hc=>(by cases hc),fun d d' hd hd' e=>h.inj d d' (by omega) (by omega) e,fun d hd e=> ?_,⟨?_,?_⟩,fun i b c hc=>(by cases hc),fun i i' b c c' hc=>(by cases hc),fun x hx=> ?_,h2⟩,?_,fun q=>by decide,fun q _=>rfl⟩,fun x hx=>hx.elim⟩
 ·have:=h.own.cells (g:=g) rfl d _ (mv_at (by omega))
  rw[Mg.addr_add0,Nat.zero_add] at this
  exact this
 ·have:=(h.mps d (by omega)).2
  dsimp only at e
  omega
 ·rintro (e|⟨d,hd,e⟩|⟨i,b,c,hc,_⟩)
  ·dsimp only at e;omega
  ·have:=(h.mps d (by omega)).2;dsimp only at e;omega
  ·cases hc
 ·rintro (e|⟨d,hd,e⟩|⟨i,b,c,hc,_⟩)
  ·dsimp only at e;omega
  ·exact h.nv g rfl d (by omega) (by dsimp only at e;exact e.symm)
  ·cases hc
 ·rcases hx with (e|⟨d,hd,e⟩|⟨i,b,c,hc,_⟩)|e|e
  ·dsimp only at e ⊢;omega
  ·have:=(h.mps d (by omega)).2;dsimp only at e ⊢;omega
  ·cases hc
  ·dsimp only at e ⊢;omega
  ·dsimp only at e ⊢;omega
 ·exact Rx.Good.of_even (by decide) rfl (fun q _ _=>rfl) ⟨fun _ _ _ _ _=>rfl,fun _ _=>rfl⟩
theorem tab_two {w:World} (h:TabW w):2≤w.heap.size:=h.lt
set_option maxRecDepth 100000 in
theorem new9_any {w:World} (ht:TabW w):Calls Tryz.prog 42 #[] w fun e w'=>(∃tb,e= .returned (.pointer (some ⟨tb,0,none⟩))∧TreeE w.heap.size (fun _=>False) w' tb (fun _=>0))∧Below w.heap.size w w':=by
 obtain ⟨R,hR⟩:∃R,R=(fun (e:Ending) (w':World)=>(∃tb,e= .returned (.pointer (some ⟨tb,0,none⟩))∧TreeE w.heap.size (fun _=>False) w' tb (fun _=>0))∧Below w.heap.size w w'):=⟨_,rfl⟩
 rw[←hR]
 have HR:=hide hR
 obtain ⟨N,hN⟩:∃N,w.heap.size=N:=⟨_,rfl⟩
 have HN:=hide hN
 have HT:=hide ht
 obtain ⟨X0,hX0⟩:∃X0,(w.alloc (.map #[] 0)).alloc (.cells #[.slice none 0 0, .map (some N)] 176)=X0:=⟨_,rfl⟩
 have N0:=hide (show NW N w 0 (.slice none 0 0) (fun _=>0) X0 from by
  have t0:Bk X0 (N+1) 176 #[.slice none 0 0, .map (some N)]:=by unfold Bk;rw[←hX0,alloc_at,if_pos (by simp;omega)]
  refine ⟨by rw[←hX0,←hN];exact ((Below.refl _ w).alloc (Nat.le_refl _) _).alloc (by simp) _,t0,?_,World.ownsRow_nil _ _ _ _,fun d hd=>by omega,fun d d' hd=>by omega,fun g hg=>by cases hg⟩
  have m1:MapG encC (w.alloc (.map #[] 0)) N (fun _=>none):=by rw[←hN];exact MapG.made encC w
  rw[←hX0]
  exact m1.below (grown1 _ _))
 have mk:∀(t:TypeId) (w:World),(Instr.makeMap t none).run Tryz.prog w= .ok (.map (some w.heap.size)) (w.alloc (.map #[] 0)):=fun t w=>run_makeMap t w
 clear hR ht
 go_enter Tryz.func42,Tryz.ntmps42
 go_wp2_with fail
 go_loopw [5] (fun iv wr=>∃(k:Nat),iv= .int .i64 (k:Int)∧k≤7∧Hid (∃v mp,NW N w k v mp wr)) (fun iv _=>7 -(intOf iv).toNat)
 case atStart=>exact ⟨0,rfl,Nat.zero_le _,hide ⟨_,_,N0.out⟩⟩
 case round=>
  clear N0 hX0
  obtain ⟨k,rfl,hk,HH⟩:=hrel
  obtain ⟨v,mp,h⟩:=HH.out
  clear HH
  by_cases hlt:k<7
  ·obtain ⟨g,cap,Y,hrun,lY,tY,mp',hN'⟩:=h.step hlt 174
   have RUN:=hide hrun
   have NX:=hide hN'
   have c0:=h.tc.cell 0 _ rfl
   have y0:=tY.cell 0 _ rfl
   have f0:=tY.fz 0
   have l0:=h.tc.lt
   have i1:(k:Int)<7:=by omega
   have d1:decide (k<7)=true:=decide_eq_true hlt
   have i2:(0:Int)≤(k:Int):=by omega
   clear h hrun tY hN'
   go_wp2_with (at_builtin;refine list_append_run (by rfl) (.tmp 11) (.tmp 13) 174 (by rfl) (by rfl) (by rfl) RUN.out ?_)
   go_roundw
   case rel=>exact ⟨k+1,by go_num,by omega,hide ⟨_,_,NX.out⟩⟩
   case measure=>simp[intOf];omega
  ·obtain rfl:k=7:=by omega
   have F:=hide (show R (.returned (.pointer (some ⟨N+1,0,none⟩))) wr from by
    rw[HR.out]
    have hb:Below w.heap.size w wr:=by rw[HN.out];exact h.be
    refine ⟨⟨N+1,rfl,?_⟩,hb⟩
    rw[HN.out]
    exact h.tree (HT.out.below hb) (by rw[←HN.out];exact tab_two HT.out))
   clear h
   go_wp2_with fail
   first|exact F.out|(go_ret;exact F.out)
def up (D i k:Nat):Nat:=i/2^(sh k - sh D)
theorem TreeE.tab {B:Nat} {O:Nat→Prop} {w:World} {tb:Nat} {st:Nat→Nat} (h:TreeE B O w tb st):TabW w:=by
 obtain ⟨T,L,C,rfl,rfl,h1,h2⟩:=h
 exact h1.rad.tab
end Go.Proofs.YtdgdhnnakcncoaaGreatDoor
