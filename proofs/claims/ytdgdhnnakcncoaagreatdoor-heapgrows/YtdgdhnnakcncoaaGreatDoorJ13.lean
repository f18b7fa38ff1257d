/- Of the proof of HeapClasses: texts RXl, RXm. -/
import Derived.Test.YtdgdhnnakcncoaaGreatDoorJ12
import Derived.Test.YtdgdhnnakcncoaaGreatDoorJ06
namespace Go.Proofs.YtdgdhnnakcncoaaGreatDoor
set_option maxHeartbeats 1600000
open Go.ChangeShapes Go.WideShapes Go.ChangeAt Go.RowKit Go.Proofs.Bt Go.Shelf Go.Proofs.Rx Go.Maps
set_option linter.unusedVariables false
set_option linter.unusedSimpArgs false
theorem countIn_any (T:Tid) (L:Lv) (C:Ch) (st:Nat→Nat) (h4:Four st):∀n d,n+d=6→CountOk T L C st n d
 |0,d,h=>countIn_core T L C st h4 0 d h (fun z=>by omega)
 |n+1,d,h=>countIn_core T L C st h4 (n+1) d h (fun _=>countIn_any T L C st h4 n (d+1) (by omega))
structure Tree (w:World) (T:Tid) (L:Lv) (C:Ch) (st:Nat→Nat):Prop where
 rad:RadAt w T L C
 good:Rx.Good L C st 6 0 0 (row L 0 0 0)
 four:Four st
 out:∀q,34359738368≤q→st q=0
theorem Tree.below {w w':World} {T:Tid} {L:Lv} {C:Ch} {st:Nat→Nat} (h:Tree w T L C st) (k:Below w.heap.size w w'):Tree w' T L C st:=⟨h.rad.below k,h.good,h.four,h.out⟩
def cntT (st:Nat→Nat) (p n:Nat):Tl:=if n=0∨34359738368<p+n then ⟨0,0,0⟩ else tl st p n
set_option maxRecDepth 100000 in
set_option maxHeartbeats 1000000 in
theorem count9_any {w:World} {T:Tid} {L:Lv} {C:Ch} {st:Nat→Nat} (h:Tree w T L C st) (p n:Nat) (hp:p<18446744073709551616) (hn:n<18446744073709551616):
 Calls Tryz.prog 134 #[tp T, .int .u64 (p:Nat), .int .u64 (n:Nat)] w fun e w'=>e= .returned (tlV (cntT st p n))∧Below w.heap.size w w':=by
 obtain ⟨R,hR⟩:∃R,R=(fun (e:Ending) (w':World)=>e= .returned (tlV (cntT st p n))∧Below w.heap.size w w'):=⟨_,rfl⟩
 rw[←hR]
 obtain ⟨N,hN⟩:∃N,w.heap.size=N:=⟨_,rfl⟩
 have HR:=hide hR
 have HN:=hide hN
 have HH:=hide h
 have BAD:=hide (show (n=0∨34359738368<p+n)→∀W,Below N w W→R (.returned (tlV ⟨0,0,0⟩)) W from fun z W hW=>by
  rw[HR.out,show cntT st p n=⟨0,0,0⟩ from if_pos z];exact ⟨rfl,by rw[HN.out];exact hW⟩)
 have OKK:=hide (show ¬(n=0∨34359738368<p+n)→∀W,Below N w W→R (.returned (tlV (tl st p n))) W from fun z W hW=>by
  rw[HR.out,show cntT st p n=tl st p n from if_neg z];exact ⟨rfl,by rw[HN.out];exact hW⟩)
 have q:((n:Int)==0)=true∨((n:Int)==0)=false∧(decide ((34359738368:Int)<(n:Int))=true∨decide ((34359738368:Int)<(n:Int))=false∧(decide ((34359738368:Int) -(n:Int)<(p:Int))=true∨decide ((34359738368:Int) -(n:Int)<(p:Int))=false)):=by
  simp only[decide_eq_true_eq,decide_eq_false_iff_not,beq_eq_false_iff_ne,beq_iff_eq,ne_eq]
  omega
 clear hR h
 unfold tp
 unfold tlV at BAD
 have n0:(0:Int)≤n:=by omega
 have n1:(n:Int)<18446744073709551616:=by omega
 have p0:(0:Int)≤p:=by omega
 rcases q with d1|⟨d1,d2|⟨d2,d3|d3⟩⟩
 ·have F:=hide (BAD.out (.inl (by simp only[beq_iff_eq] at d1;omega)))
  clear BAD OKK HR hp hn hN
  simp only[Int.cast_ofNat_Int] at F
  generalize (p:Int)=P at *
  generalize (n:Int)=M at *
  go_enter Tryz.func134,Tryz.ntmps134
  go_wp2_with fail
  refine bodyPost_ret (v:= .agg #[.int .u64 0, .int .u64 0, .int .u64 0]) (by simp[results,Tryz.results134,go_sem]) rfl (F.out _ (by rw[←HN.out];exact grown1 _ _))
 ·have F:=hide (BAD.out (.inr (by simp only[decide_eq_true_eq] at d2;omega)))
  clear BAD OKK HR hp hn hN
  simp only[Int.cast_ofNat_Int] at F
  generalize (p:Int)=P at *
  generalize (n:Int)=M at *
  go_enter Tryz.func134,Tryz.ntmps134
  go_wp2_with fail
  refine bodyPost_ret (v:= .agg #[.int .u64 0, .int .u64 0, .int .u64 0]) (by simp[results,Tryz.results134,go_sem]) rfl (F.out _ (by rw[←HN.out];exact grown1 _ _))
 ·have F:=hide (BAD.out (.inr (by simp only[decide_eq_true_eq] at d3;omega)))
  have n2:(n:Int)≤34359738368:=by simp only[decide_eq_false_iff_not] at d2;omega
  clear BAD OKK HR hp hn hN
  simp only[Int.cast_ofNat_Int] at F
  generalize (p:Int)=P at *
  generalize (n:Int)=M at *
  go_enter Tryz.func134,Tryz.ntmps134
  go_wp2_with fail
  refine bodyPost_ret (v:= .agg #[.int .u64 0, .int .u64 0, .int .u64 0]) (by simp[results,Tryz.results134,go_sem]) rfl (F.out _ (by rw[←HN.out];exact grown1 _ _))
 ·have z:¬(n=0∨34359738368<p+n):=by simp only[decide_eq_false_iff_not,beq_eq_false_iff_ne,ne_eq] at d1 d2 d3;omega
  have F:=hide (OKK.out z)
  have n2:(n:Int)≤34359738368:=by simp only[decide_eq_false_iff_not] at d2;omega
  have p1:(p:Int)≤34359738368:=by omega
  have CT:=fun W (hW:RadAt W T L C)=>hide (top_any hW)
  have CC:=fun W (hW:RadAt W T L C)=>hide (countIn_any T L C st HH.out.four 6 0 rfl W hW 0 (row L 0 0 0) p (p+n) HH.out.good (by decide) (by omega) (by omega) (by show p<(0+1) * 34359738368;omega) (by omega))
  have e1:max p (0 * sz 0)=p:=by omega
  have e2:min (p+n) ((0+1) * sz 0)=p+n:=by show min (p+n) ((0+1) * 34359738368)=p+n;omega
  rw[e1,e2] at CC
  unfold CntP at CC
  rw[show p+n - p=n by omega] at CC
  obtain ⟨r,hr⟩:∃r,row L 0 0 0=r:=⟨_,rfl⟩
  obtain ⟨t,ht⟩:∃t,tl st p n=t:=⟨_,rfl⟩
  rw[hr] at CT CC
  rw[ht] at CC F
  rw[show ((p+n:Nat):Int)=(p:Int)+(n:Int) by omega] at CC
  simp only[Int.cast_ofNat_Int] at CC
  unfold tp at CT CC
  unfold rwV at CT CC
  unfold spanV tlV at CC
  unfold tlV at F
  clear BAD OKK HR z hr ht e1 e2 hp hn
  generalize (p:Int)=P at *
  generalize (n:Int)=M at *
  go_enter Tryz.func134,Tryz.ntmps134
  go_wp2_with fail
  refine (CT _ (HH.out.rad.below (grown1 _ _))).out.mono ?_
  rintro e w1 ⟨rfl,b1⟩
  have R1:=hide ((HH.out.rad.below (grown1 _ _)).below b1)
  obtain ⟨B1,l1,c1,fz1⟩:=alloc_at1 w _ _ b1 N HN.out
  have HB:=hide B1
  have BK:=hide (show Bk w1 N 216 _ from c1)
  clear b1 B1 c1 fz1 CT
  go_wp2_with fail
  refine (CC _ R1.out).out.mono ?_
  rintro e w2 ⟨rfl,b2⟩
  have bk:=BK.out.below b2
  have x0:=bk.cell 0 _ rfl
  have x1:=bk.cell 1 _ rfl
  have x2:=bk.cell 2 _ rfl
  have z0:=bk.fz 0
  have z1:=bk.fz 1
  have z2:=bk.fz 2
  have B2:=hide (HB.out.trans (b2.mono (Nat.le_of_lt l1)))
  have K2:=hide bk
  clear b2 bk R1 CC
  go_wp2_with fail
  have fin:=((K2.out.set 0 (.int .u64 (t.p:Nat))).set 1 (.int .u64 (t.f:Nat))).set 2 (.int .u64 (t.r:Nat))
  exact bodyPost_ret (results_c Tryz.results134 _ _ ⟨N,0,none⟩ _ rfl (tally3 fin)) rfl (F.out _ (((B2.out.setCell (Nat.le_refl _) _).setCell (Nat.le_refl _) _).setCell (Nat.le_refl _) _))
end Go.Proofs.YtdgdhnnakcncoaaGreatDoor
namespace Go.Proofs.YtdgdhnnakcncoaaGreatDoor
set_option maxHeartbeats 1600000
open Go.ChangeShapes Go.WideShapes Go.ChangeAt Go.RowKit Go.Proofs.Bt Go.Shelf Go.Proofs.Rx Go.Maps
set_option linter.unusedVariables false
set_option linter.unusedSimpArgs false
theorem eq_sm (d:Nat) (a b c a' b' c':Int) (w:World):(Op.equalIn (d+1+1) 218 (.agg #[.int .i64 a, .int .i64 b, .int .i64 c]) (.agg #[.int .i64 a', .int .i64 b', .int .i64 c'])).run Tryz.prog w= .ok (decide (a=a'∧b=b'∧c=c')) w:=by
 have hu:Tryz.prog.underlying 218=some (.struct (Tryz.prog.fieldsOf 218)):=by kernel_rfl
 have hh:Tryz.prog.stoodInHeld 218=false:=by kernel_rfl
 rw[run_equalIn_agg w (d+1) _ _ _ hu hh]
 have he:=Tryz.underlying3
 have hf:(Tryz.prog.fieldsOf 218).toList.map (fun f=>(f.name,f.type,f.offset))= [("Start",3,0),("Max",3,1),("End",3,2)]:=by kernel_rfl
 have hq:∀(x y:Int) (w:World),(Op.equalIn (d+1) 3 (.int .i64 x) (.int .i64 y)).run Tryz.prog w= .ok (x==y) w:=fun x y w=>run_equalIn_int w d _ _ _ x y he
 generalize (Tryz.prog.fieldsOf 218).toList=l at hf ⊢
 rcases l with _|⟨f0,_|⟨f1,_|⟨f2,_|⟨f3,l⟩⟩⟩⟩
 ·simp at hf
 ·simp at hf
 ·simp at hf
 ·simp only[List.map_cons,List.map_nil,List.cons.injEq,Prod.mk.injEq,and_true] at hf
  obtain ⟨⟨n0,t0,o0⟩,⟨n1,t1,o1⟩,n2,t2,o2⟩:=hf
  have hp:∀(xs:Array Value) (i:Nat) (v:Value) (w:World),xs[i]? =some v→(part 3 xs i).run Tryz.prog w= .ok v w:=fun xs i v w h=>by
   have ha:=Tryz.isAgg3
   simp[part,ha,go_sem,h]
  have p0:=fun w=>hp #[.int .i64 a, .int .i64 b, .int .i64 c] 0 (.int .i64 a) w rfl
  have p1:=fun w=>hp #[.int .i64 a, .int .i64 b, .int .i64 c] 1 (.int .i64 b) w rfl
  have p2:=fun w=>hp #[.int .i64 a, .int .i64 b, .int .i64 c] 2 (.int .i64 c) w rfl
  have p3:=fun w=>hp #[.int .i64 a', .int .i64 b', .int .i64 c'] 0 (.int .i64 a') w rfl
  have p4:=fun w=>hp #[.int .i64 a', .int .i64 b', .int .i64 c'] 1 (.int .i64 b') w rfl
  have p5:=fun w=>hp #[.int .i64 a', .int .i64 b', .int .i64 c'] 2 (.int .i64 c') w rfl
  simp only[Op.eqFields,n0,t0,o0,n1,t1,o1,n2,t2,o2,ne_eq,String.reduceEq,not_false_eq_true,if_true,Sem.run_bind,p0,p1,p2,p3,p4,p5,Result.andThen_ok,hq,Sem.run_ite,Sem.run_pure]
  by_cases e0:a=a'<;>by_cases e1:b=b'<;>by_cases e2:c=c'<;>simp[e0,e1,e2,Sem.run_pure]
 ·simp at hf
theorem eq_rw7 (d:Nat) (p f g s m e r p' f' g' s' m' e' r':Int) (w:World):(Op.equalIn (d+1+1+1) 221 (.agg #[.int .u64 p, .int .u64 f, .int .u64 g, .int .i64 s, .int .i64 m, .int .i64 e, .int .i64 r]) (.agg #[.int .u64 p', .int .u64 f', .int .u64 g', .int .i64 s', .int .i64 m', .int .i64 e', .int .i64 r'])).run Tryz.prog w=
 .ok (decide ((p=p'∧f=f'∧g=g')∧(s=s'∧m=m'∧e=e')∧r=r')) w:=by
 have hu:Tryz.prog.underlying 221=some (.struct (Tryz.prog.fieldsOf 221)):=by kernel_rfl
 have hh:Tryz.prog.stoodInHeld 221=false:=by kernel_rfl
 rw[run_equalIn_agg w (d+1+1) _ _ _ hu hh]
 have he:Tryz.prog.underlying 219=some (.int .i64):=by kernel_rfl
 have hf:(Tryz.prog.fieldsOf 221).toList.map (fun f=>(f.name,f.type,f.offset))= [("tally",216,0),("sum",218,3),("rest",219,6)]:=by kernel_rfl
 have q0:∀(x y z x' y' z':Int) (w:World),(Op.equalIn (d+1+1) 216 (.agg #[.int .u64 x, .int .u64 y, .int .u64 z]) (.agg #[.int .u64 x', .int .u64 y', .int .u64 z'])).run Tryz.prog w= .ok (decide (x=x'∧y=y'∧z=z')) w:=fun x y z x' y' z' w=>eq_tl d x y z x' y' z' w
 have q1:∀(x y z x' y' z':Int) (w:World),(Op.equalIn (d+1+1) 218 (.agg #[.int .i64 x, .int .i64 y, .int .i64 z]) (.agg #[.int .i64 x', .int .i64 y', .int .i64 z'])).run Tryz.prog w= .ok (decide (x=x'∧y=y'∧z=z')) w:=fun x y z x' y' z' w=>eq_sm d x y z x' y' z' w
 have q2:∀(x y:Int) (w:World),(Op.equalIn (d+1+1) 219 (.int .i64 x) (.int .i64 y)).run Tryz.prog w= .ok (x==y) w:=fun x y w=>run_equalIn_int w (d+1) _ _ _ x y he
 generalize (Tryz.prog.fieldsOf 221).toList=l at hf ⊢
 rcases l with _|⟨f0,_|⟨f1,_|⟨f2,_|⟨f3,l⟩⟩⟩⟩
 ·simp at hf
 ·simp at hf
 ·simp at hf
 ·simp only[List.map_cons,List.map_nil,List.cons.injEq,Prod.mk.injEq,and_true] at hf
  obtain ⟨⟨n0,t0,o0⟩,⟨n1,t1,o1⟩,n2,t2,o2⟩:=hf
  have hA:∀(p f g s m e r:Int) (w:World),(part 216 #[.int .u64 p, .int .u64 f, .int .u64 g, .int .i64 s, .int .i64 m, .int .i64 e, .int .i64 r] 0).run Tryz.prog w= .ok (.agg #[.int .u64 p, .int .u64 f, .int .u64 g]) w:=fun p f g s m e r w=>by
   have h1:=Tryz.isAgg216
   have h2:=Tryz.sizeOf216
   simp[part,h1,h2,go_sem]
  have hB:∀(p f g s m e r:Int) (w:World),(part 218 #[.int .u64 p, .int .u64 f, .int .u64 g, .int .i64 s, .int .i64 m, .int .i64 e, .int .i64 r] 3).run Tryz.prog w= .ok (.agg #[.int .i64 s, .int .i64 m, .int .i64 e]) w:=fun p f g s m e r w=>by
   have h1:=Tryz.isAgg218
   have h2:=Tryz.sizeOf218
   simp[part,h1,h2,go_sem]
  have hC:∀(p f g s m e r:Int) (w:World),(part 219 #[.int .u64 p, .int .u64 f, .int .u64 g, .int .i64 s, .int .i64 m, .int .i64 e, .int .i64 r] 6).run Tryz.prog w= .ok (.int .i64 r) w:=fun p f g s m e r w=>by
   have h1:=Tryz.isAgg219
   simp[part,h1,go_sem]
  simp only[Op.eqFields,n0,t0,o0,n1,t1,o1,n2,t2,o2,ne_eq,String.reduceEq,not_false_eq_true,if_true,Sem.run_bind,hA,hB,hC,Result.andThen_ok,q0,q1,q2,Sem.run_ite,Sem.run_pure]
  by_cases e0:p=p'∧f=f'∧g=g'
  ·by_cases e1:s=s'∧m=m'∧e=e'
   ·by_cases e2:r=r'<;>simp[e0,e1,e2]
   ·simp[e0,e1]
  ·simp[e0]
 ·simp at hf
theorem eq_rw (a b:Rw) (w:World):(Op.equalIn 10000 221 (.agg #[.int .u64 (a.t.p:Nat), .int .u64 (a.t.f:Nat), .int .u64 (a.t.r:Nat), .int .i64 (a.s:Nat), .int .i64 (a.m:Nat), .int .i64 (a.e:Nat), .int .i64 (a.rest:Nat)]) (.agg #[.int .u64 (b.t.p:Nat), .int .u64 (b.t.f:Nat), .int .u64 (b.t.r:Nat), .int .i64 (b.s:Nat), .int .i64 (b.m:Nat), .int .i64 (b.e:Nat), .int .i64 (b.rest:Nat)])).run Tryz.prog w=
 .ok (decide (((a.t.p:Int)=(b.t.p:Int)∧(a.t.f:Int)=(b.t.f:Int)∧(a.t.r:Int)=(b.t.r:Int))∧((a.s:Int)=(b.s:Int)∧(a.m:Int)=(b.m:Int)∧(a.e:Int)=(b.e:Int))∧(a.rest:Int)=(b.rest:Int))) w:=eq_rw7 9997 _ _ _ _ _ _ _ _ _ _ _ _ _ _ w
theorem rw_ext {a b:Rw} (h:((a.t.p:Int)=(b.t.p:Int)∧(a.t.f:Int)=(b.t.f:Int)∧(a.t.r:Int)=(b.t.r:Int))∧((a.s:Int)=(b.s:Int)∧(a.m:Int)=(b.m:Int)∧(a.e:Int)=(b.e:Int))∧(a.rest:Int)=(b.rest:Int)):a=b:=by
 obtain ⟨⟨p,f,g⟩,s,m,e,r⟩:=a
 obtain ⟨⟨p',f',g'⟩,s',m',e',r'⟩:=b
 dsimp only at h
 obtain ⟨⟨h1,h2,h3⟩,⟨h4,h5,h6⟩,h7⟩:=h
 have:p=p':=by omega
 have:f=f':=by omega
 have:g=g':=by omega
 have:s=s':=by omega
 have:m=m':=by omega
 have:e=e':=by omega
 have:r=r':=by omega
 subst_vars
 rfl
def putL (L:Lv) (d i:Nat) (o:Option Rw):Lv:=fun d' j=>if d'=d∧j=i then o else L d' j
theorem putL_same (L:Lv) (d i:Nat) (o:Option Rw):putL L d i o d i=o:=by unfold putL;rw[if_pos ⟨rfl,rfl⟩]
theorem putL_other {L:Lv} {d i d' j:Nat} {o:Option Rw} (h:¬(d'=d∧j=i)):putL L d i o d' j=L d' j:=by unfold putL;rw[if_neg h]
theorem RadAt.upL {w w':World} {T:Tid} {L:Lv} {C:Ch} (h:RadAt w T L C) {d i:Nat} (hd:d≤6) {o:Option Rw} (hm:MapG encR w' (T.mp d) (fun q=>if q=i then o else L d q)) (hg:w.grownBy w' (some (T.mp d))):RadAt w' T (putL L d i o) C∧Kept (fun x=>x=T.mp d) w w':=by
 have k:Kept (fun x=>x=T.mp d) w w':=Kept.of_grown hg (fun k e=>by cases e;rfl)
 have wr:Wr T C (T.mp d):= .inr (.inl ⟨d,hd,rfl⟩)
 have two:=h.two
 have b0:=h.base _ (.inl wr)
 have bl:∀{x},x<w.heap.size→x≠T.mp d→w'.heap[x]? =w.heap[x]? :=fun hx hne=>k.block _ hx hne
 have t0:T.tb≠T.mp d:=fun z=>h.apT.1 (z▸wr)
 have l0:T.lb≠T.mp d:=fun z=>h.apT.2 (z▸wr)
 have bt:=bl (h.lt (x:=T.tb) (.inr (.inl rfl))) t0
 have blb:=bl (h.lt (x:=T.lb) (.inr (.inr rfl))) l0
 refine ⟨⟨h.tab.kept k ⟨by omega,by omega⟩,(cell_block bt 0).trans h.c0,(cell_block bt 1).trans h.c1,fun d' hd'=>(cell_block blb d').trans (h.lv d' hd'),fun d' hd'=> ?_,h.cm.kept (bl h.cm.lt (fun z=>h.apC d hd z.symm)),fun j b c hc=>(h.ch j b c hc).kept k (fun z=>(h.apB j b c hc).2 d hd z),h.apM,h.apC,h.apT,h.apB,h.inj,h.base,h.two⟩,k⟩
 by_cases e:d'=d
 ·subst e
  have:putL L d' i o d'=fun q=>if q=i then o else L d' q:=by
   funext q
   unfold putL
   by_cases z:q=i
   ·rw[if_pos ⟨rfl,z⟩,if_pos z]
   ·rw[if_neg (fun y=>z y.2),if_neg z]
  rw[this];exact hm
 ·have:putL L d i o d'=L d':=by funext q;exact putL_other (fun y=>e y.1)
  rw[this]
  exact (h.mp d' hd').kept (bl (h.mp d' hd').lt (fun z=>e (h.apM d' d hd' hd z)))
set_option maxRecDepth 100000 in
set_option maxHeartbeats 1000000 in
theorem keep_any {w:World} {T:Tid} {L:Lv} {C:Ch} (h:RadAt w T L C) (d i rest:Nat) (hd:d≤6) (hi:i<67108864) (hr:rest≤3) (r:Rw):
 Calls Tryz.prog 200 #[tp T, .int .i64 (d:Nat), .int .u64 (i:Nat), .int .i64 (rest:Nat),rwV r] w fun e w'=>e= .returned (.tuple #[])∧(∃o:Option Rw,o.getD (Rx.even d rest)=r∧RadAt w' T (putL L d i o) C)∧Kept (fun x=>x=T.mp d) w w':=by
 obtain ⟨R,hR⟩:∃R,R=(fun (e:Ending) (w':World)=>e= .returned (.tuple #[])∧(∃o:Option Rw,o.getD (Rx.even d rest)=r∧RadAt w' T (putL L d i o) C)∧Kept (fun x=>x=T.mp d) w w'):=⟨_,rfl⟩
 rw[←hR]
 have HR:=hide hR
 have H0:=hide h
 have CE:=fun W hW=>hide (even_any d rest hd hr W hW)
 obtain ⟨q,hq⟩:∃q,Rx.even d rest=q:=⟨_,rfl⟩
 rw[hq] at CE HR
 obtain ⟨N,hN⟩:∃N,w.heap.size=N:=⟨_,rfl⟩
 obtain ⟨W,hW⟩:∃W,w.alloc (.cells #[.int .u64 (r.t.p:Nat), .int .u64 (r.t.f:Nat), .int .u64 (r.t.r:Nat), .int .i64 (r.s:Nat), .int .i64 (r.m:Nat), .int .i64 (r.e:Nat), .int .i64 (r.rest:Nat)] 221)=W:=⟨_,rfl⟩
 have bW:Below w.heap.size w W:=by rw[←hW];exact grown1 w _
 have bk:Bk W N 221 #[.int .u64 (r.t.p:Nat), .int .u64 (r.t.f:Nat), .int .u64 (r.t.r:Nat), .int .i64 (r.s:Nat), .int .i64 (r.m:Nat), .int .i64 (r.e:Nat), .int .i64 (r.rest:Nat)]:=by rw[←hW,←hN];exact World.alloc_heap_new w _
 have RW:=hide (h.below bW)
 have BK:=hide bk
 have BW:=hide bW
 have HW:=hide hW
 have HN:=hide hN
 have c0:=bk.cell 0 _ rfl
 have c1:=bk.cell 1 _ rfl
 have c2:=bk.cell 2 _ rfl
 have c3:=bk.cell 3 _ rfl
 have c4:=bk.cell 4 _ rfl
 have c5:=bk.cell 5 _ rfl
 have c6:=bk.cell 6 _ rfl
 have lN:=bk.lt
 have hx:= @ext_cell W
 have hne:=ext_ne W
 have dl:(d:Int)<7:=by omega
 have d0:(0:Int)≤d:=by omega
 clear hR h bk bW hW hN
 unfold rwV at CE ⊢
 unfold tp
 by_cases e:r=q
 ·have EQ:∀X,(Op.equalIn 10000 221 (.agg #[.int .u64 (r.t.p:Nat), .int .u64 (r.t.f:Nat), .int .u64 (r.t.r:Nat), .int .i64 (r.s:Nat), .int .i64 (r.m:Nat), .int .i64 (r.e:Nat), .int .i64 (r.rest:Nat)]) (.agg #[.int .u64 (q.t.p:Nat), .int .u64 (q.t.f:Nat), .int .u64 (q.t.r:Nat), .int .i64 (q.s:Nat), .int .i64 (q.m:Nat), .int .i64 (q.e:Nat), .int .i64 (q.rest:Nat)])).run Tryz.prog X= .ok true X:=fun X=>(eq_rw r q X).trans (by rw[e];simp)
  have HE:=hide e
  clear e
  go_enter Tryz.func200,Tryz.ntmps200
  go_upto_region 1 with fail
  rw[HW.out,HN.out]
  refine wp_region_calm (by kernel_rfl) (by kernel_rfl) ?_
  repeat (first|go_big_quiet_step (exact calm_of (CE _ (RW.out.tab.below (Ext.h _))).out)|(refine wpQuiet_step (fun K hK=> ?_);go_simp;refine hK _ ?_;clear hK K))
  refine wpQuiet_nil ?_
  rintro _ ⟨n1,rfl⟩
  have R1:=RW.out.below n1.h
  have B1:=hide (BW.out.trans (n1.h.mono BW.out.size))
  obtain ⟨w2,hrun,hm,hg⟩:=(R1.mp d hd).del tyL 0 i (by omega)
  have x0:=R1.c0
  have x1:=R1.lv d hd
  have U:=hide (R1.upL hd hm hg)
  have F:=hide (show R (.returned (.tuple #[])) w2 from by
   rw[HR.out]
   exact ⟨rfl,⟨none,HE.out.symm,U.out.1⟩,(Kept.of_below B1.out).trans U.out.2 (fun _ _ z=>z)⟩)
  clear hm hg EQ CE hx hne c0 c1 c2 c3 c4 c5 c6 U R1
  generalize n1.v=X at *
  go_wp2_with fail
  exact bodyPost_ret (results_none rfl _ _ _) rfl F.out
 ·have EQ:∀X,(Op.equalIn 10000 221 (.agg #[.int .u64 (r.t.p:Nat), .int .u64 (r.t.f:Nat), .int .u64 (r.t.r:Nat), .int .i64 (r.s:Nat), .int .i64 (r.m:Nat), .int .i64 (r.e:Nat), .int .i64 (r.rest:Nat)]) (.agg #[.int .u64 (q.t.p:Nat), .int .u64 (q.t.f:Nat), .int .u64 (q.t.r:Nat), .int .i64 (q.s:Nat), .int .i64 (q.m:Nat), .int .i64 (q.e:Nat), .int .i64 (q.rest:Nat)])).run Tryz.prog X= .ok false X:=fun X=>(eq_rw r q X).trans (by rw[decide_eq_false (fun z=>e (rw_ext z))])
  clear e
  go_enter Tryz.func200,Tryz.ntmps200
  go_upto_region 1 with fail
  rw[HW.out,HN.out]
  refine wp_region_calm (by kernel_rfl) (by kernel_rfl) ?_
  repeat (first|go_big_quiet_step (exact calm_of (CE _ (RW.out.tab.below (Ext.h _))).out)|(refine wpQuiet_step (fun K hK=> ?_);go_simp;refine hK _ ?_;clear hK K))
  refine wpQuiet_nil ?_
  rintro _ ⟨n1,rfl⟩
  have R1:=RW.out.below n1.h
  have B1:=hide (BW.out.trans (n1.h.mono BW.out.size))
  have K1:=hide (BK.out.below n1.h)
  clear EQ CE hx hne c0 c1 c2 c3 c4 c5 c6 lN
  generalize n1.v=X at *
  clear n1
  have x0:=R1.c0
  have x1:=R1.lv d hd
  have l0:=R1.lt (x:=T.tb) (.inr (.inl rfl))
  have l1:=R1.lt (x:=T.lb) (.inr (.inr rfl))
  have c0:=K1.out.cell 0 _ rfl
  have c1:=K1.out.cell 1 _ rfl
  have c2:=K1.out.cell 2 _ rfl
  have c3:=K1.out.cell 3 _ rfl
  have c4:=K1.out.cell 4 _ rfl
  have c5:=K1.out.cell 5 _ rfl
  have c6:=K1.out.cell 6 _ rfl
  have lN:=K1.out.lt
  have hx:= @ext_cell X
  have hne:=ext_ne X
  have RX:=hide R1
  clear R1
  go_wp2_with fail
  refine (wpIn_wide (n:=0)).1 (tail_w 9 (by kernel_rfl) (by kernel_rfl) ?_)
  simp only[List.take_succ_cons,List.take_zero,List.drop_succ_cons,List.drop_zero]
  repeat (first|go_big_quiet_step (fail)|(refine wpQuiet_step (fun K hK=> ?_);go_simp;refine hK _ ?_;clear hK K))
  refine wpQuiet_nil ?_
  rintro _ ⟨n2,rfl⟩
  have R2:=RX.out.below n2.h
  obtain ⟨w2,hrun,hm,hg⟩:=(R2.mp d hd).put tyL i hi r
  have U:=hide (R2.upL hd hm hg)
  have B2:=B1.out.trans (n2.h.mono B1.out.size)
  have F:=hide (show R (.returned (.tuple #[])) w2 from by
   rw[HR.out]
   exact ⟨rfl,⟨some r,rfl,U.out.1⟩,(Kept.of_below B2).trans U.out.2 (fun _ _ z=>z)⟩)
  simp only[encR,rwV] at hrun
  clear hm hg R2 U hx hne B2
  gi_wp2_with fail
  go_wp2_with fail
  first|exact bodyPost_ret (results_none rfl _ _ _) rfl F.out|exact bodyPost_end (results_none rfl _ _ _) rfl F.out
end Go.Proofs.YtdgdhnnakcncoaaGreatDoor
