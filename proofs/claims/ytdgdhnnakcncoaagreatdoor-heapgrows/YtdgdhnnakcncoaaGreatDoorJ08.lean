/- Of the proof of HeapClasses: texts RXc. -/
import Derived.Test.YtdgdhnnakcncoaaGreatDoorJ07
namespace Go.Proofs.YtdgdhnnakcncoaaGreatDoor
set_option maxHeartbeats 1600000
open Go.ChangeShapes Go.WideShapes Go.ChangeAt Go.RowKit Go.Proofs.Bt Go.Shelf Go.Proofs.Rx
set_option linter.unusedVariables false
set_option linter.unusedSimpArgs false
structure Ext (w:World) where
 v:World
 h:Below w.heap.size w v
theorem ext_ne (w:World):Nonempty (Ext w):=⟨⟨w,Below.refl _ _⟩⟩
theorem ext_cell {w:World} (n:Ext w) (b o:Nat) (h:b<w.heap.size):n.v.cell? ⟨b,o,none⟩=w.cell? ⟨b,o,none⟩:=n.h.cell (p:=⟨b,o,none⟩) h
theorem wp_region_calm {P:Program} {id:Nat} {Q:Exit→Act→World→Prop} {a:Act} {w:World} {l:List Oper} (hm:P.follows .mixedOrders=true) (hB:Region.lexB .any l.toArray=true)
 (h:wpQuiet P l.toArray (fun w'=>∃n:Ext w,w'=n.v) (fun a'=>∀w',(∃n:Ext w,w'=n.v)→Q .normal a' w') l a):(Code.region id l.toArray true).wp P Q a w:=
 wp_region_quiet (C:=fun w'=>∃n:Ext w,w'=n.v) hm hB ⟨⟨{w with drawn:=w.drawn+1},⟨rfl,rfl,rfl,Nat.le_refl _,fun _ _=>rfl⟩⟩,rfl⟩ (by simpa using h)
theorem calm_of {P:Program} {f:FuncId} {args:Array Value} {w:World} {n:Ext w} {v:Value} (h:Calls P f args n.v fun e w'=>e= .returned v∧Below n.v.heap.size n.v w'):Calls P f args n.v fun e w''=>e= .returned v∧∃m:Ext w,w''=m.v:=
 h.mono fun _ w' ⟨he,hm⟩=>⟨he,⟨w',n.h.trans (hm.mono n.h.size)⟩,rfl⟩
def tlV (t:Tl):Value:= .agg #[.int .u64 (t.p:Nat), .int .u64 (t.f:Nat), .int .u64 (t.r:Nat)]
theorem tallyOf_any (s n:Nat) (hs:s≤3) (w:World):
 Calls Tryz.prog 244 #[.int .i64 (s:Nat), .int .u64 (n:Nat)] w fun e w'=>e= .returned (tlV (tlOf s n))∧Below w.heap.size w w':=by
 have hc:s=0∨s=1∨s=2∨s=3:=by omega
 obtain ⟨N,hN⟩:∃N:Int,(n:Int)=N:=⟨_,rfl⟩
 rcases hc with rfl|rfl|rfl|rfl
 all_goals
  clear hs
  unfold tlOf tlV
  simp only[if_true,if_false,Nat.reduceLeDiff,Nat.reduceEqDiff,Int.cast_ofNat_Int,Nat.succ_ne_self,hN]
  clear hN
  go_enter Tryz.func244,Tryz.ntmps244
  go_wp2_with fail
  exact bodyPost_ret (v:= .agg #[_,_,_]) (by simp[results,Tryz.results244,go_sem]) rfl ⟨rfl,grown1 _ _⟩
theorem plus_any (a b:Tl) (ha:a.p+b.p<18446744073709551616∧a.f+b.f<18446744073709551616∧a.r+b.r<18446744073709551616) (w:World):
 Calls Tryz.prog 247 #[tlV a,tlV b] w fun e w'=>e= .returned (tlV (a.add b))∧Below w.heap.size w w':=by
 obtain ⟨p,f,r⟩:=a
 obtain ⟨p',f',r'⟩:=b
 unfold Tl.add tlV
 dsimp only at ha ⊢
 have e1:((p+p':Nat):Int)=(p:Int)+(p':Int):=by omega
 have e2:((f+f':Nat):Int)=(f:Int)+(f':Int):=by omega
 have e3:((r+r':Nat):Int)=(r:Int)+(r':Int):=by omega
 rw[e1,e2,e3]
 clear e1 e2 e3
 have k1:(0:Int)≤p∧(0:Int)≤p'∧(p:Int)+p'<18446744073709551616:=by omega
 have k2:(0:Int)≤f∧(0:Int)≤f'∧(f:Int)+f'<18446744073709551616:=by omega
 have k3:(0:Int)≤r∧(0:Int)≤r'∧(r:Int)+r'<18446744073709551616:=by omega
 clear ha
 generalize (p:Int)=P at *
 generalize (p':Int)=P' at *
 generalize (f:Int)=F at *
 generalize (f':Int)=F' at *
 generalize (r:Int)=R at *
 generalize (r':Int)=R' at *
 obtain ⟨k11,k12,k13⟩:=k1
 obtain ⟨k21,k22,k23⟩:=k2
 obtain ⟨k31,k32,k33⟩:=k3
 go_enter Tryz.func247,Tryz.ntmps247
 go_wp2_with fail
 refine bodyPost_ret (v:= .agg #[.int .u64 (P+P'), .int .u64 (F+F'), .int .u64 (R+R')]) (by simp[results,Tryz.results247,go_sem]) rfl ⟨rfl,?_⟩
 exact (((Below.refl _ w).alloc (Nat.le_refl _) _).alloc (by simp) _).alloc (by simp;omega) _
theorem less_any (a b:Tl) (h1:a.p<18446744073709551616∧a.f<18446744073709551616∧a.r<18446744073709551616) (ha:b.p≤a.p∧b.f≤a.f∧b.r≤a.r) (w:World):
 Calls Tryz.prog 258 #[tlV a,tlV b] w fun e w'=>e= .returned (tlV (a.sub b))∧Below w.heap.size w w':=by
 obtain ⟨p,f,r⟩:=a
 obtain ⟨p',f',r'⟩:=b
 unfold Tl.sub tlV
 dsimp only at ha h1 ⊢
 have e1:((p - p':Nat):Int)=(p:Int) -(p':Int):=by omega
 have e2:((f - f':Nat):Int)=(f:Int) -(f':Int):=by omega
 have e3:((r - r':Nat):Int)=(r:Int) -(r':Int):=by omega
 rw[e1,e2,e3]
 clear e1 e2 e3
 have k1:(0:Int)≤p'∧(p':Int)≤p∧(p:Int)<18446744073709551616:=by omega
 have k2:(0:Int)≤f'∧(f':Int)≤f∧(f:Int)<18446744073709551616:=by omega
 have k3:(0:Int)≤r'∧(r':Int)≤r∧(r:Int)<18446744073709551616:=by omega
 clear ha h1
 generalize (p:Int)=P at *
 generalize (p':Int)=P' at *
 generalize (f:Int)=F at *
 generalize (f':Int)=F' at *
 generalize (r:Int)=R at *
 generalize (r':Int)=R' at *
 obtain ⟨k11,k12,k13⟩:=k1
 obtain ⟨k21,k22,k23⟩:=k2
 obtain ⟨k31,k32,k33⟩:=k3
 go_enter Tryz.func258,Tryz.ntmps258
 go_wp2_with fail
 refine bodyPost_ret (v:= .agg #[.int .u64 (P - P'), .int .u64 (F - F'), .int .u64 (R - R')]) (by simp[results,Tryz.results258,go_sem]) rfl ⟨rfl,?_⟩
 exact (((Below.refl _ w).alloc (Nat.le_refl _) _).alloc (by simp) _).alloc (by simp;omega) _
theorem eq_tl (d:Nat) (a b c a' b' c':Int) (w:World):(Op.equalIn (d+1+1) 216 (.agg #[.int .u64 a, .int .u64 b, .int .u64 c]) (.agg #[.int .u64 a', .int .u64 b', .int .u64 c'])).run Tryz.prog w= .ok (decide (a=a'∧b=b'∧c=c')) w:=by
 have hu:Tryz.prog.underlying 216=some (.struct (Tryz.prog.fieldsOf 216)):=by kernel_rfl
 have hh:Tryz.prog.stoodInHeld 216=false:=by kernel_rfl
 rw[run_equalIn_agg w (d+1) _ _ _ hu hh]
 have he:=Tryz.underlying39
 have hf:(Tryz.prog.fieldsOf 216).toList.map (fun f=>(f.name,f.type,f.offset))= [("pages",39,0),("free",39,1),("released",39,2)]:=by kernel_rfl
 have h0:(#[.int .u64 a, .int .u64 b, .int .u64 c]:Array Value)[0]? =some (.int .u64 a):=rfl
 have hq:∀(x y:Int) (w:World),(Op.equalIn (d+1) 39 (.int .u64 x) (.int .u64 y)).run Tryz.prog w= .ok (x==y) w:=fun x y w=>run_equalIn_int w d _ _ _ x y he
 generalize (Tryz.prog.fieldsOf 216).toList=l at hf ⊢
 rcases l with _|⟨f0,_|⟨f1,_|⟨f2,_|⟨f3,l⟩⟩⟩⟩
 ·simp at hf
 ·simp at hf
 ·simp at hf
 ·skip
  simp only[List.map_cons,List.map_nil,List.cons.injEq,Prod.mk.injEq,and_true] at hf
  obtain ⟨⟨n0,t0,o0⟩,⟨n1,t1,o1⟩,n2,t2,o2⟩:=hf
  have hp:∀(xs:Array Value) (i:Nat) (v:Value) (w:World),xs[i]? =some v→(part 39 xs i).run Tryz.prog w= .ok v w:=fun xs i v w h=>by
   have ha:=Tryz.isAgg39
   simp[part,ha,go_sem,h]
  have p0:=fun w=>hp #[.int .u64 a, .int .u64 b, .int .u64 c] 0 (.int .u64 a) w rfl
  have p1:=fun w=>hp #[.int .u64 a, .int .u64 b, .int .u64 c] 1 (.int .u64 b) w rfl
  have p2:=fun w=>hp #[.int .u64 a, .int .u64 b, .int .u64 c] 2 (.int .u64 c) w rfl
  have p3:=fun w=>hp #[.int .u64 a', .int .u64 b', .int .u64 c'] 0 (.int .u64 a') w rfl
  have p4:=fun w=>hp #[.int .u64 a', .int .u64 b', .int .u64 c'] 1 (.int .u64 b') w rfl
  have p5:=fun w=>hp #[.int .u64 a', .int .u64 b', .int .u64 c'] 2 (.int .u64 c') w rfl
  simp only[Op.eqFields,n0,t0,o0,n1,t1,o1,n2,t2,o2,ne_eq,String.reduceEq,not_false_eq_true,if_true,Sem.run_bind,p0,p1,p2,p3,p4,p5,Result.andThen_ok,hq,Sem.run_ite,Sem.run_pure]
  by_cases e0:a=a'<;>by_cases e1:b=b'<;>by_cases e2:c=c'<;>simp[e0,e1,e2,Sem.run_pure]
 ·simp at hf
set_option maxHeartbeats 1000000 in
set_option maxRecDepth 20000 in
theorem alike_any (t:Tl) (n:Nat) (w:World):
 Calls Tryz.prog 243 #[tlV t, .int .u64 (n:Nat)] w fun e w'=>e= .returned (.tuple #[.int .i64 ((al t n).getD 0:Nat), .bool (al t n).isSome])∧Below w.heap.size w w':=by
 have CT:=fun s hs w=>hide (tallyOf_any s n hs w)
 unfold tlV at CT ⊢
 have hx:= @ext_cell
 have YES:∀s,t=tlOf s n→∀w,(Op.equalIn 10000 216 (.agg #[.int .u64 (t.p:Nat), .int .u64 (t.f:Nat), .int .u64 (t.r:Nat)]) (.agg #[.int .u64 ((tlOf s n).p:Nat), .int .u64 ((tlOf s n).f:Nat), .int .u64 ((tlOf s n).r:Nat)])).run Tryz.prog w= .ok true w:=fun s c w=>(eq_tl 9998 _ _ _ _ _ _ w).trans (by rw[c];simp)
 have NO:∀s,t≠tlOf s n→∀w,(Op.equalIn 10000 216 (.agg #[.int .u64 (t.p:Nat), .int .u64 (t.f:Nat), .int .u64 (t.r:Nat)]) (.agg #[.int .u64 ((tlOf s n).p:Nat), .int .u64 ((tlOf s n).f:Nat), .int .u64 ((tlOf s n).r:Nat)])).run Tryz.prog w= .ok false w:=fun s c w=>(eq_tl 9998 _ _ _ _ _ _ w).trans (by
  rw[decide_eq_false]
  rintro ⟨h1,h2,h3⟩
  apply c
  obtain ⟨p,f,r⟩:=t
  generalize tlOf s n=T at *
  obtain ⟨p',f',r'⟩:=T
  dsimp only at h1 h2 h3
  congr 1<;>omega)
 have FIN:=hide (show ∀(s:Nat) (b:Bool) (W:World),al t n=(if b then some s else none)→(b=false→s=0)→Below w.heap.size w W→(fun e w'=>e=Ending.returned (.tuple #[.int .i64 ((al t n).getD 0:Nat), .bool (al t n).isSome])∧Below w.heap.size w w') (.returned (.tuple #[.int .i64 (s:Nat), .bool b])) W from fun s b W h1 h2 hb=>by
  rw[h1]
  cases b
  ·rw[h2 rfl];exact ⟨rfl,hb⟩
  ·exact ⟨rfl,hb⟩)
 obtain ⟨R,hR⟩:∃R,R=(fun (e:Ending) (w':World)=>e=Ending.returned (.tuple #[.int .i64 ((al t n).getD 0:Nat), .bool (al t n).isSome])∧Below w.heap.size w w'):=⟨_,rfl⟩
 rw[←hR] at FIN ⊢
 clear hR
 have hne:=fun W=>ext_ne W
 obtain ⟨N,hN⟩:∃N,w.heap.size=N:=⟨_,rfl⟩
 obtain ⟨W0,hW0⟩:∃W0,w.alloc (.cells #[.int .u64 (t.p:Nat), .int .u64 (t.f:Nat), .int .u64 (t.r:Nat)] 216)=W0:=⟨_,rfl⟩
 have B0:Below N w W0:=by rw[←hW0,←hN];exact grown1 w _
 have hb0:=World.alloc_heap_new w (.cells #[.int .u64 (t.p:Nat), .int .u64 (t.f:Nat), .int .u64 (t.r:Nat)] 216)
 rw[hW0,hN] at hb0
 have l0:N<W0.heap.size:=(Array.getElem?_eq_some_iff.1 hb0).1
 have x0:W0.cell? ⟨N,0,none⟩=some (.int .u64 (t.p:Nat)):=by simp[World.cell?,hb0]
 have y0:W0.cell? ⟨N,1,none⟩=some (.int .u64 (t.f:Nat)):=by simp[World.cell?,hb0]
 have z0:W0.cell? ⟨N,2,none⟩=some (.int .u64 (t.r:Nat)):=by simp[World.cell?,hb0]
 rw[hN] at FIN
 have HW:=hide hW0
 have HN:=hide hN
 have HB0:=hide B0
 clear hW0 hb0 hN B0
 by_cases c0:t=tlOf 0 n
 ·have D0:=YES 0 c0
  have FF:=hide (fun W=>FIN.out 0 true W (by unfold al;rw[if_pos c0];rfl) (fun z=>by cases z))
  clear YES NO FIN c0
  go_enter Tryz.func243,Tryz.ntmps243
  go_wp2_with fail
  rw[HW.out,HN.out]
  refine wp_loop_rounds 5 ?_
  rw[rounds_succ]
  go_wp2_with fail
  refine wp_region_calm (by kernel_rfl) (by kernel_rfl) ?_
  repeat (first|go_big_quiet_step (exact calm_of (CT 0 (by omega) _).out)|(refine wpQuiet_step (fun K hK=> ?_);go_simp;refine hK _ ?_;clear hK K))
  refine wpQuiet_nil ?_
  rintro _ ⟨n0,rfl⟩
  have l1:N<n0.v.heap.size:=Nat.lt_of_lt_of_le l0 n0.h.size
  have x1:=(n0.h.cell (p:=⟨N,0,none⟩) l0).trans x0
  have y1:=(n0.h.cell (p:=⟨N,1,none⟩) l0).trans y0
  have z1:=(n0.h.cell (p:=⟨N,2,none⟩) l0).trans z0
  have HB1:=hide (HB0.out.trans (n0.h.mono (Nat.le_of_lt l0)))
  generalize n0.v=W1 at *
  clear n0 x0 y0 z0
  go_wp2_with fail
  first|exact FF.out _ HB1.out|(go_ret2;exact FF.out _ HB1.out)
 have D0:=NO 0 c0
 by_cases c1:t=tlOf 1 n
 ·have D1:=YES 1 c1
  have FF:=hide (fun W=>FIN.out 1 true W (by unfold al;rw[if_neg c0,if_pos c1];rfl) (fun z=>by cases z))
  clear YES NO FIN c0 c1
  go_enter Tryz.func243,Tryz.ntmps243
  go_wp2_with fail
  rw[HW.out,HN.out]
  refine wp_loop_rounds 5 ?_
  rw[rounds_succ]
  go_wp2_with fail
  refine wp_region_calm (by kernel_rfl) (by kernel_rfl) ?_
  repeat (first|go_big_quiet_step (exact calm_of (CT 0 (by omega) _).out)|(refine wpQuiet_step (fun K hK=> ?_);go_simp;refine hK _ ?_;clear hK K))
  refine wpQuiet_nil ?_
  rintro _ ⟨n0,rfl⟩
  have l1:N<n0.v.heap.size:=Nat.lt_of_lt_of_le l0 n0.h.size
  have x1:=(n0.h.cell (p:=⟨N,0,none⟩) l0).trans x0
  have y1:=(n0.h.cell (p:=⟨N,1,none⟩) l0).trans y0
  have z1:=(n0.h.cell (p:=⟨N,2,none⟩) l0).trans z0
  have HB1:=hide (HB0.out.trans (n0.h.mono (Nat.le_of_lt l0)))
  generalize n0.v=W1 at *
  clear n0 x0 y0 z0
  go_wp2_with fail
  rw[rounds_succ]
  go_wp2_with fail
  refine wp_region_calm (by kernel_rfl) (by kernel_rfl) ?_
  repeat (first|go_big_quiet_step (exact calm_of (CT 1 (by omega) _).out)|(refine wpQuiet_step (fun K hK=> ?_);go_simp;refine hK _ ?_;clear hK K))
  refine wpQuiet_nil ?_
  rintro _ ⟨n1,rfl⟩
  have l2:N<n1.v.heap.size:=Nat.lt_of_lt_of_le l1 n1.h.size
  have x2:=(n1.h.cell (p:=⟨N,0,none⟩) l1).trans x1
  have y2:=(n1.h.cell (p:=⟨N,1,none⟩) l1).trans y1
  have z2:=(n1.h.cell (p:=⟨N,2,none⟩) l1).trans z1
  have HB2:=hide (HB1.out.trans (n1.h.mono (Nat.le_of_lt l1)))
  generalize n1.v=W2 at *
  clear n1 x1 y1 z1
  go_wp2_with fail
  first|exact FF.out _ HB2.out|(go_ret2;exact FF.out _ HB2.out)
 have D1:=NO 1 c1
 by_cases c2:t=tlOf 2 n
 ·have D2:=YES 2 c2
  have FF:=hide (fun W=>FIN.out 2 true W (by unfold al;rw[if_neg c0,if_neg c1,if_pos c2];rfl) (fun z=>by cases z))
  clear YES NO FIN c0 c1 c2
  go_enter Tryz.func243,Tryz.ntmps243
  go_wp2_with fail
  rw[HW.out,HN.out]
  refine wp_loop_rounds 5 ?_
  rw[rounds_succ]
  go_wp2_with fail
  refine wp_region_calm (by kernel_rfl) (by kernel_rfl) ?_
  repeat (first|go_big_quiet_step (exact calm_of (CT 0 (by omega) _).out)|(refine wpQuiet_step (fun K hK=> ?_);go_simp;refine hK _ ?_;clear hK K))
  refine wpQuiet_nil ?_
  rintro _ ⟨n0,rfl⟩
  have l1:N<n0.v.heap.size:=Nat.lt_of_lt_of_le l0 n0.h.size
  have x1:=(n0.h.cell (p:=⟨N,0,none⟩) l0).trans x0
  have y1:=(n0.h.cell (p:=⟨N,1,none⟩) l0).trans y0
  have z1:=(n0.h.cell (p:=⟨N,2,none⟩) l0).trans z0
  have HB1:=hide (HB0.out.trans (n0.h.mono (Nat.le_of_lt l0)))
  generalize n0.v=W1 at *
  clear n0 x0 y0 z0
  go_wp2_with fail
  rw[rounds_succ]
  go_wp2_with fail
  refine wp_region_calm (by kernel_rfl) (by kernel_rfl) ?_
  repeat (first|go_big_quiet_step (exact calm_of (CT 1 (by omega) _).out)|(refine wpQuiet_step (fun K hK=> ?_);go_simp;refine hK _ ?_;clear hK K))
  refine wpQuiet_nil ?_
  rintro _ ⟨n1,rfl⟩
  have l2:N<n1.v.heap.size:=Nat.lt_of_lt_of_le l1 n1.h.size
  have x2:=(n1.h.cell (p:=⟨N,0,none⟩) l1).trans x1
  have y2:=(n1.h.cell (p:=⟨N,1,none⟩) l1).trans y1
  have z2:=(n1.h.cell (p:=⟨N,2,none⟩) l1).trans z1
  have HB2:=hide (HB1.out.trans (n1.h.mono (Nat.le_of_lt l1)))
  generalize n1.v=W2 at *
  clear n1 x1 y1 z1
  go_wp2_with fail
  rw[rounds_succ]
  go_wp2_with fail
  refine wp_region_calm (by kernel_rfl) (by kernel_rfl) ?_
  repeat (first|go_big_quiet_step (exact calm_of (CT 2 (by omega) _).out)|(refine wpQuiet_step (fun K hK=> ?_);go_simp;refine hK _ ?_;clear hK K))
  refine wpQuiet_nil ?_
  rintro _ ⟨n2,rfl⟩
  have l3:N<n2.v.heap.size:=Nat.lt_of_lt_of_le l2 n2.h.size
  have x3:=(n2.h.cell (p:=⟨N,0,none⟩) l2).trans x2
  have y3:=(n2.h.cell (p:=⟨N,1,none⟩) l2).trans y2
  have z3:=(n2.h.cell (p:=⟨N,2,none⟩) l2).trans z2
  have HB3:=hide (HB2.out.trans (n2.h.mono (Nat.le_of_lt l2)))
  generalize n2.v=W3 at *
  clear n2 x2 y2 z2
  go_wp2_with fail
  first|exact FF.out _ HB3.out|(go_ret2;exact FF.out _ HB3.out)
 have D2:=NO 2 c2
 by_cases c3:t=tlOf 3 n
 ·have D3:=YES 3 c3
  have FF:=hide (fun W=>FIN.out 3 true W (by unfold al;rw[if_neg c0,if_neg c1,if_neg c2,if_pos c3];rfl) (fun z=>by cases z))
  clear YES NO FIN c0 c1 c2 c3
  go_enter Tryz.func243,Tryz.ntmps243
  go_wp2_with fail
  rw[HW.out,HN.out]
  refine wp_loop_rounds 5 ?_
  rw[rounds_succ]
  go_wp2_with fail
  refine wp_region_calm (by kernel_rfl) (by kernel_rfl) ?_
  repeat (first|go_big_quiet_step (exact calm_of (CT 0 (by omega) _).out)|(refine wpQuiet_step (fun K hK=> ?_);go_simp;refine hK _ ?_;clear hK K))
  refine wpQuiet_nil ?_
  rintro _ ⟨n0,rfl⟩
  have l1:N<n0.v.heap.size:=Nat.lt_of_lt_of_le l0 n0.h.size
  have x1:=(n0.h.cell (p:=⟨N,0,none⟩) l0).trans x0
  have y1:=(n0.h.cell (p:=⟨N,1,none⟩) l0).trans y0
  have z1:=(n0.h.cell (p:=⟨N,2,none⟩) l0).trans z0
  have HB1:=hide (HB0.out.trans (n0.h.mono (Nat.le_of_lt l0)))
  generalize n0.v=W1 at *
  clear n0 x0 y0 z0
  go_wp2_with fail
  rw[rounds_succ]
  go_wp2_with fail
  refine wp_region_calm (by kernel_rfl) (by kernel_rfl) ?_
  repeat (first|go_big_quiet_step (exact calm_of (CT 1 (by omega) _).out)|(refine wpQuiet_step (fun K hK=> ?_);go_simp;refine hK _ ?_;clear hK K))
  refine wpQuiet_nil ?_
  rintro _ ⟨n1,rfl⟩
  have l2:N<n1.v.heap.size:=Nat.lt_of_lt_of_le l1 n1.h.size
  have x2:=(n1.h.cell (p:=⟨N,0,none⟩) l1).trans x1
  have y2:=(n1.h.cell (p:=⟨N,1,none⟩) l1).trans y1
  have z2:=(n1.h.cell (p:=⟨N,2,none⟩) l1).trans z1
  have HB2:=hide (HB1.out.trans (n1.h.mono (Nat.le_of_lt l1)))
  generalize n1.v=W2 at *
  clear n1 x1 y1 z1
  go_wp2_with fail
  rw[rounds_succ]
  go_wp2_with fail
  refine wp_region_calm (by kernel_rfl) (by kernel_rfl) ?_
  repeat (first|go_big_quiet_step (exact calm_of (CT 2 (by omega) _).out)|(refine wpQuiet_step (fun K hK=> ?_);go_simp;refine hK _ ?_;clear hK K))
  refine wpQuiet_nil ?_
  rintro _ ⟨n2,rfl⟩
  have l3:N<n2.v.heap.size:=Nat.lt_of_lt_of_le l2 n2.h.size
  have x3:=(n2.h.cell (p:=⟨N,0,none⟩) l2).trans x2
  have y3:=(n2.h.cell (p:=⟨N,1,none⟩) l2).trans y2
  have z3:=(n2.h.cell (p:=⟨N,2,none⟩) l2).trans z2
  have HB3:=hide (HB2.out.trans (n2.h.mono (Nat.le_of_lt l2)))
  generalize n2.v=W3 at *
  clear n2 x2 y2 z2
  go_wp2_with fail
  rw[rounds_succ]
  go_wp2_with fail
  refine wp_region_calm (by kernel_rfl) (by kernel_rfl) ?_
  repeat (first|go_big_quiet_step (exact calm_of (CT 3 (by omega) _).out)|(refine wpQuiet_step (fun K hK=> ?_);go_simp;refine hK _ ?_;clear hK K))
  refine wpQuiet_nil ?_
  rintro _ ⟨n3,rfl⟩
  have l4:N<n3.v.heap.size:=Nat.lt_of_lt_of_le l3 n3.h.size
  have x4:=(n3.h.cell (p:=⟨N,0,none⟩) l3).trans x3
  have y4:=(n3.h.cell (p:=⟨N,1,none⟩) l3).trans y3
  have z4:=(n3.h.cell (p:=⟨N,2,none⟩) l3).trans z3
  have HB4:=hide (HB3.out.trans (n3.h.mono (Nat.le_of_lt l3)))
  generalize n3.v=W4 at *
  clear n3 x3 y3 z3
  go_wp2_with fail
  first|exact FF.out _ HB4.out|(go_ret2;exact FF.out _ HB4.out)
 have D3:=NO 3 c3
 have FF:=hide (fun W=>FIN.out 0 false W (by unfold al;rw[if_neg c0,if_neg c1,if_neg c2,if_neg c3];rfl) (fun z=>rfl))
 clear YES NO FIN c0 c1 c2 c3
 go_enter Tryz.func243,Tryz.ntmps243
 go_wp2_with fail
 rw[HW.out,HN.out]
 refine wp_loop_rounds 5 ?_
 rw[rounds_succ]
 go_wp2_with fail
 refine wp_region_calm (by kernel_rfl) (by kernel_rfl) ?_
 repeat (first|go_big_quiet_step (exact calm_of (CT 0 (by omega) _).out)|(refine wpQuiet_step (fun K hK=> ?_);go_simp;refine hK _ ?_;clear hK K))
 refine wpQuiet_nil ?_
 rintro _ ⟨n0,rfl⟩
 have l1:N<n0.v.heap.size:=Nat.lt_of_lt_of_le l0 n0.h.size
 have x1:=(n0.h.cell (p:=⟨N,0,none⟩) l0).trans x0
 have y1:=(n0.h.cell (p:=⟨N,1,none⟩) l0).trans y0
 have z1:=(n0.h.cell (p:=⟨N,2,none⟩) l0).trans z0
 have HB1:=hide (HB0.out.trans (n0.h.mono (Nat.le_of_lt l0)))
 generalize n0.v=W1 at *
 clear n0 x0 y0 z0
 go_wp2_with fail
 rw[rounds_succ]
 go_wp2_with fail
 refine wp_region_calm (by kernel_rfl) (by kernel_rfl) ?_
 repeat (first|go_big_quiet_step (exact calm_of (CT 1 (by omega) _).out)|(refine wpQuiet_step (fun K hK=> ?_);go_simp;refine hK _ ?_;clear hK K))
 refine wpQuiet_nil ?_
 rintro _ ⟨n1,rfl⟩
 have l2:N<n1.v.heap.size:=Nat.lt_of_lt_of_le l1 n1.h.size
 have x2:=(n1.h.cell (p:=⟨N,0,none⟩) l1).trans x1
 have y2:=(n1.h.cell (p:=⟨N,1,none⟩) l1).trans y1
 have z2:=(n1.h.cell (p:=⟨N,2,none⟩) l1).trans z1
 have HB2:=hide (HB1.out.trans (n1.h.mono (Nat.le_of_lt l1)))
 generalize n1.v=W2 at *
 clear n1 x1 y1 z1
 go_wp2_with fail
 rw[rounds_succ]
 go_wp2_with fail
 refine wp_region_calm (by kernel_rfl) (by kernel_rfl) ?_
 repeat (first|go_big_quiet_step (exact calm_of (CT 2 (by omega) _).out)|(refine wpQuiet_step (fun K hK=> ?_);go_simp;refine hK _ ?_;clear hK K))
 refine wpQuiet_nil ?_
 rintro _ ⟨n2,rfl⟩
 have l3:N<n2.v.heap.size:=Nat.lt_of_lt_of_le l2 n2.h.size
 have x3:=(n2.h.cell (p:=⟨N,0,none⟩) l2).trans x2
 have y3:=(n2.h.cell (p:=⟨N,1,none⟩) l2).trans y2
 have z3:=(n2.h.cell (p:=⟨N,2,none⟩) l2).trans z2
 have HB3:=hide (HB2.out.trans (n2.h.mono (Nat.le_of_lt l2)))
 generalize n2.v=W3 at *
 clear n2 x2 y2 z2
 go_wp2_with fail
 rw[rounds_succ]
 go_wp2_with fail
 refine wp_region_calm (by kernel_rfl) (by kernel_rfl) ?_
 repeat (first|go_big_quiet_step (exact calm_of (CT 3 (by omega) _).out)|(refine wpQuiet_step (fun K hK=> ?_);go_simp;refine hK _ ?_;clear hK K))
 refine wpQuiet_nil ?_
 rintro _ ⟨n3,rfl⟩
 have l4:N<n3.v.heap.size:=Nat.lt_of_lt_of_le l3 n3.h.size
 have x4:=(n3.h.cell (p:=⟨N,0,none⟩) l3).trans x3
 have y4:=(n3.h.cell (p:=⟨N,1,none⟩) l3).trans y3
 have z4:=(n3.h.cell (p:=⟨N,2,none⟩) l3).trans z3
 have HB4:=hide (HB3.out.trans (n3.h.mono (Nat.le_of_lt l3)))
 generalize n3.v=W4 at *
 clear n3 x3 y3 z3
 go_wp2_with fail
 rw[rounds_succ]
 go_wp2_with fail
 first|exact FF.out _ HB4.out|(go_ret2;exact FF.out _ HB4.out)
end Go.Proofs.YtdgdhnnakcncoaaGreatDoor
