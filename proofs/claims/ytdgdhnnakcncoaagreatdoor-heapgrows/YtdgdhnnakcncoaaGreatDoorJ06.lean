/- Of the proof of HeapClasses: texts RCb, RXp, RXq, RXr. -/
import Derived.Test.YtdgdhnnakcncoaaGreatDoorJ05
import Derived.Test.YtdgdhnnakcncoaaGreatDoorJ02
namespace Go.Proofs.YtdgdhnnakcncoaaGreatDoor
set_option maxHeartbeats 1600000
open Go.ChangeShapes Go.WideShapes Go.ChangeAt Go.RowKit Go.Proofs.Bt Go.Shelf
set_option linter.unusedVariables false
set_option linter.unusedSimpArgs false
theorem new_row {w:World} {b ro:Nat} {cs:Array Value} {t:TypeId} (h:w.heap[b]? =some (.cells cs t (0,0))) (hc:∀k,k<8→cs[ro+k]? =some (.int .u64 0)):RowF w b ro (fun _=>false):=
 ⟨fun _=>0,⟨fun k hk=>by simp[World.cell?,h,hc k hk],fun k hk=>by simp[World.frozen?,h],fun _=>by omega⟩,fun i _=>by unfold bitW;simp⟩
def zeros16:Array Value:=#[.int .u64 0, .int .u64 0, .int .u64 0, .int .u64 0, .int .u64 0, .int .u64 0, .int .u64 0, .int .u64 0, .int .u64 0, .int .u64 0, .int .u64 0, .int .u64 0, .int .u64 0, .int .u64 0, .int .u64 0, .int .u64 0]
theorem zeros_at (k:Nat) (hk:k<16):zeros16[k]? =some (.int .u64 0):=by
 rw[show zeros16=Array.replicate 16 (.int .u64 0) from rfl,Array.getElem?_replicate,if_pos hk]
theorem findC_any (b:Nat) (u g:Nat→Bool) (w:World) (h:ChF w b u g) (ht:TabW w) (n from_:Int) (hn:n≤9223372036854775807) (hf:from_≤9223372036854775807):
 Calls Tryz.prog 315 #[.pointer (some ⟨b,0,none⟩), .int .i64 n, .int .i64 from_] w (FindR w u n from_):=by
 have cC:=find_any b 0 u n from_ hn hf w h.used ht
 clear h ht
 go_enter Tryz.func315,Tryz.ntmps315
 go_wp2_with fail
 go_at_call 318
 refine cC.mono ?_
 rintro e w1 ⟨i,ok,rfl,p1,k1⟩
 have K1:=hide k1
 have P1:=hide p1
 clear k1 p1
 go_wp2_with fail
 go_ret2
 exact ⟨i,ok,rfl,P1.out,K1.out⟩
theorem sumC_any (b:Nat) (u g:Nat→Bool) (w:World) (h:ChF w b u g) (ht:TabW w):
 Calls Tryz.prog 295 #[.pointer (some ⟨b,0,none⟩)] w (SumR w u):=by
 have HC:=hide h
 have HT:=hide ht
 clear h ht
 go_enter Tryz.func295,Tryz.ntmps295
 go_wp2_with fail
 go_at_call 310
 have k0:Below w.heap.size w (w.alloc (Obj.cells #[Value.int IntKind.i64 0,Value.int IntKind.i64 0,Value.int IntKind.i64 0] 218)):=(Below.refl _ w).alloc (Nat.le_refl _) _
 have hz:=alloc_at w (Obj.cells #[Value.int IntKind.i64 0,Value.int IntKind.i64 0,Value.int IntKind.i64 0] 218) w.heap.size
 rw[if_pos rfl] at hz
 have hs:(w.alloc (Obj.cells #[Value.int IntKind.i64 0,Value.int IntKind.i64 0,Value.int IntKind.i64 0] 218)).heap.size=w.heap.size+1:=by simp
 obtain ⟨w0,hw0⟩:∃w0,w0=w.alloc (Obj.cells #[Value.int IntKind.i64 0,Value.int IntKind.i64 0,Value.int IntKind.i64 0] 218):=⟨_,rfl⟩
 rw[←hw0] at k0 hz hs ⊢
 refine (sum_any b 0 u w0 (HC.out.below k0).used (HT.out.below k0)).mono ?_
 rintro e w1 ⟨s,m,n,rfl,p1,k1⟩
 have hz1:SumAt w1 w.heap.size 0 0 0:=(k1.block _ (by omega)).trans hz
 have c0:=hz1.c0
 have c1:=hz1.c1
 have c2:=hz1.c2
 have g0:=hz1.fz 0
 have g1:=hz1.fz 1
 have g2:=hz1.fz 2
 have HZ:=hide hz1
 unfold sumV
 have K1:=hide (k0.trans (k1.mono k0.size))
 have P1:=hide p1
 clear k1 p1 k0 hz hs hw0 w0 hz1
 go_wp2_with fail
 have ks:=fun (w':World) (k:Nat) (v:Value)=>kept_set (F:=fun b=>b=w.heap.size) w' w.heap.size k v rfl
 have k5:=((ks w1 0 (.int .i64 (s:Nat))).trans (ks _ 1 (.int .i64 (m:Nat))) (fun _ _ h=>h)).trans (ks _ 2 (.int .i64 (n:Nat))) (fun _ _ h=>h)
 have o4:=((HZ.out.set0 (s:Nat)).set1 (m:Nat)).set2 (n:Nat)
 have B4:=below_kept K1.out k5 (fun x hx=>by omega) K1.out.size
 have d0:=o4.c0
 have d1:=o4.c1
 have d2:=o4.c2
 refine bodyPost_ret (v:=sumV s m n) ?_ rfl ?_
 ·simp[results,Tryz.results295,go_sem,sumV,Nat.add_assoc,d0,d1,d2,Result.andThen]
 ·exact ⟨s,m,n,rfl,P1.out,B4⟩
theorem newC_any (w:World):Calls Tryz.prog 252 #[] w fun e w'=>e= .returned (.pointer (some ⟨w.heap.size,0,none⟩))∧ChF w' w.heap.size (fun _=>false) (setF (fun _=>false) 0 512)∧Below w.heap.size w w':=by
 obtain ⟨N,hN⟩:∃N,w.heap.size=N:=⟨_,rfl⟩
 obtain ⟨w0,hw0⟩:∃w0,w0=w.alloc (.cells zeros16 240):=⟨_,rfl⟩
 have k0:Below N w w0:=by rw[hw0,←hN];exact (Below.refl _ w).alloc (Nat.le_refl _) _
 have hz:w0.heap[N]? =some (.cells zeros16 240 (0,0)):=by rw[hw0,←hN,alloc_at,if_pos rfl]
 have h0:ChF w0 N (fun _=>false) (fun _=>false):=⟨new_row hz (fun k hk=>zeros_at _ (by omega)),new_row hz (fun k hk=>zeros_at _ (by omega))⟩
 have H0:=hide h0
 have K0:=hide k0
 have W0:=hide hw0
 rw[hN]
 clear hw0 k0 hz h0
 go_enter Tryz.func252,Tryz.ntmps252
 go_wp2_with fail
 go_at_call 199
 have e0:=W0.out
 unfold zeros16 at e0
 rw[←e0]
 clear e0 W0
 refine (set_int N 8 (fun _=>false) w0 H0.out.gone 0 512 (by omega) (by omega) (by omega)).mono ?_
 rintro e w1 ⟨rfl,r1,k1⟩
 have HC:=hide (H0.out.setG k1 r1)
 have KK:=hide (K0.out.trans (k1.kept.below (by have:=K0.out.size;omega) (fun x hx=>by omega)))
 clear r1 k1
 go_wp2_with fail
 go_ret
 exact ⟨rfl,HC.out,KK.out⟩
theorem RowAt.all0 {w:World} {b:Nat} {g:Nat→Nat} (h:RowAt w b 0 g):w.cell? ⟨b,0,none⟩=some (.int .u64 ((g 0:Nat):Int))∧w.cell? ⟨b,1,none⟩=some (.int .u64 ((g 1:Nat):Int))∧w.cell? ⟨b,2,none⟩=some (.int .u64 ((g 2:Nat):Int))∧w.cell? ⟨b,3,none⟩=some (.int .u64 ((g 3:Nat):Int))∧w.cell? ⟨b,4,none⟩=some (.int .u64 ((g 4:Nat):Int))∧w.cell? ⟨b,5,none⟩=some (.int .u64 ((g 5:Nat):Int))∧w.cell? ⟨b,6,none⟩=some (.int .u64 ((g 6:Nat):Int))∧w.cell? ⟨b,7,none⟩=some (.int .u64 ((g 7:Nat):Int)):=
 ⟨h.cell 0 (by omega),h.cell 1 (by omega),h.cell 2 (by omega),h.cell 3 (by omega),h.cell 4 (by omega),h.cell 5 (by omega),h.cell 6 (by omega),h.cell 7 (by omega)⟩
theorem RowAt.all8 {w:World} {b:Nat} {g:Nat→Nat} (h:RowAt w b 8 g):w.cell? ⟨b,8,none⟩=some (.int .u64 ((g 0:Nat):Int))∧w.cell? ⟨b,9,none⟩=some (.int .u64 ((g 1:Nat):Int))∧w.cell? ⟨b,10,none⟩=some (.int .u64 ((g 2:Nat):Int))∧w.cell? ⟨b,11,none⟩=some (.int .u64 ((g 3:Nat):Int))∧w.cell? ⟨b,12,none⟩=some (.int .u64 ((g 4:Nat):Int))∧w.cell? ⟨b,13,none⟩=some (.int .u64 ((g 5:Nat):Int))∧w.cell? ⟨b,14,none⟩=some (.int .u64 ((g 6:Nat):Int))∧w.cell? ⟨b,15,none⟩=some (.int .u64 ((g 7:Nat):Int)):=
 ⟨h.cell 0 (by omega),h.cell 1 (by omega),h.cell 2 (by omega),h.cell 3 (by omega),h.cell 4 (by omega),h.cell 5 (by omega),h.cell 6 (by omega),h.cell 7 (by omega)⟩
theorem RowAt.range {w:World} {b ro:Nat} {g:Nat→Nat} (h:RowAt w b ro g):w.rangeAt b ro (cells8 g).toList:=fun j v hv=>by
 have hj:j<8:=(List.getElem?_eq_some_iff.1 hv).1
 have:(cells8 g).toList[j]? =some (.int .u64 ((g j:Nat):Int)):=by
  match j,hj with
  |0,_|1,_|2,_|3,_|4,_|5,_|6,_|7,_=>rfl
 rw[this] at hv
 cases hv
 exact h.cell j hj
def put8 (w:World) (b:Nat) (g:Nat→Nat):World:=((((((((w.setCell ⟨b,0,none⟩ (.int .u64 ((g 0:Nat):Int))).setCell ⟨b,1,none⟩ (.int .u64 ((g 1:Nat):Int))).setCell ⟨b,2,none⟩ (.int .u64 ((g 2:Nat):Int))).setCell ⟨b,3,none⟩ (.int .u64 ((g 3:Nat):Int))).setCell ⟨b,4,none⟩ (.int .u64 ((g 4:Nat):Int))).setCell ⟨b,5,none⟩ (.int .u64 ((g 5:Nat):Int))).setCell ⟨b,6,none⟩ (.int .u64 ((g 6:Nat):Int))).setCell ⟨b,7,none⟩ (.int .u64 ((g 7:Nat):Int)))
theorem RowAt.put8 {w:World} {b:Nat} {g g':Nat→Nat} (h:RowAt w b 0 g) (hg:∀k,g' k<18446744073709551616):RowAt (put8 w b g') b 0 g':=by
 have h0:=h.set 0 (g' 0) (by omega) (hg 0)
 have h1:=h0.set 1 (g' 1) (by omega) (hg 1)
 have h2:=h1.set 2 (g' 2) (by omega) (hg 2)
 have h3:=h2.set 3 (g' 3) (by omega) (hg 3)
 have h4:=h3.set 4 (g' 4) (by omega) (hg 4)
 have h5:=h4.set 5 (g' 5) (by omega) (hg 5)
 have h6:=h5.set 6 (g' 6) (by omega) (hg 6)
 have h7:=h6.set 7 (g' 7) (by omega) (hg 7)
 refine RowAt.congr h7 (fun k hk=> ?_) hg
 match k,hk with
 |0,_|1,_|2,_|3,_|4,_|5,_|6,_|7,_=>rfl
theorem kept_put8 (w:World) (b:Nat) (g:Nat→Nat):Kept (fun x=>x=b) w (put8 w b g):=by
 have ks:=fun (w':World) (k:Nat) (v:Value)=>kept_set (F:=fun x=>x=b) w' b k v rfl
 have tr:∀{w1 w2 w3:World},Kept (fun x=>x=b) w1 w2→Kept (fun x=>x=b) w2 w3→Kept (fun x=>x=b) w1 w3:=fun h k=>h.trans k (fun _ _ h=>h)
 exact tr (tr (tr (tr (tr (tr (tr (ks _ 0 _) (ks _ 1 _)) (ks _ 2 _)) (ks _ 3 _)) (ks _ 4 _)) (ks _ 5 _)) (ks _ 6 _)) (ks _ 7 _)
theorem new8 {w:World} {b:Nat} {g:Nat→Nat} {t:TypeId} (h:w.heap[b]? =some (.cells (cells8 g) t (0,0))) (hg:∀k,g k<18446744073709551616):RowAt w b 0 g:=
 ⟨fun k hk=>by
  match k,hk with
  |0,_|1,_|2,_|3,_|4,_|5,_|6,_|7,_=>simp[World.cell?,h,cells8],fun k hk=>by simp[World.frozen?,h],hg⟩
theorem row_info:(Tryz.prog.info? 238).map (·.size)=some 8:=by kernel_rfl
theorem RowAt.load {w:World} {b ro:Nat} {g:Nat→Nat} (h:RowAt w b ro g):(loadVar 238 ⟨b,ro,none⟩).run Tryz.prog w= .ok (words g) w:=
 run_loadVar_mid (P:=Tryz.prog) w b ro 238 (cells8 g).toList _ h.range Tryz.underlying238 rfl row_info
theorem results_two {fn:Func} {p q:Tmp} {ty ty':TypeId} (h:fn.results=#[.cell p ty, .cell q ty']) (tmps:Array Value) (w:World) (a a':Addr) (v v':Value) (ha:tmps.getD p undef= .pointer (some a)) (ha':tmps.getD q undef= .pointer (some a')) (hv:(loadVar ty a).run Tryz.prog w= .ok v w) (hv':(loadVar ty' a').run Tryz.prog w= .ok v' w):
 (results fn tmps).run Tryz.prog w= .ok (.tuple #[v,v']) w:=by
 have hp':tmps[p]?.getD undef= .pointer (some a):=by simpa using ha
 have hq':tmps[q]?.getD undef= .pointer (some a'):=by simpa using ha'
 simp[results,h,hp',hq',asAddr,hv,hv']
set_option maxRecDepth 100000 in
set_option maxHeartbeats 4000000 in
theorem rows_any (b:Nat) (u g:Nat→Bool) (w:World) (h:ChF w b u g):
 Calls Tryz.prog 287 #[.pointer (some ⟨b,0,none⟩)] w fun e w'=>∃gu gg:Nat→Nat,e= .returned (.tuple #[words gu,words gg])∧(∀k,gu k<18446744073709551616)∧(∀k,gg k<18446744073709551616)∧(∀i,i<512→bitW gu i=u i)∧(∀i,i<512→bitW gg i=g i)∧Below w.heap.size w w':=by
 obtain ⟨⟨gu,hu,fu⟩,⟨gg,hg,fg⟩⟩:=h
 obtain ⟨N,hN⟩:∃N,w.heap.size=N:=⟨_,rfl⟩
 have hb:=hu.lt
 obtain ⟨w0,hw0⟩:∃w0,w0=(w.alloc (.cells (cells8 (fun _=>0)) 238)).alloc (.cells (cells8 (fun _=>0)) 238):=⟨_,rfl⟩
 have k0:Below w.heap.size w w0:=by rw[hw0];exact ((Below.refl _ w).alloc (Nat.le_refl _) _).alloc (by simp) _
 have z0:w0.heap[w.heap.size]? =some (.cells (cells8 (fun _=>0)) 238 (0,0)):=by rw[hw0,alloc_at,if_neg (by simp),alloc_at,if_pos rfl]
 have z1:w0.heap[w.heap.size+1]? =some (.cells (cells8 (fun _=>0)) 238 (0,0)):=by rw[hw0,alloc_at,if_pos (by simp)]
 have R:=hide (show ∀W,Below w.heap.size w W→∃gu' gg':Nat→Nat,Ending.returned (.tuple #[words gu,words gg])= .returned (.tuple #[words gu',words gg'])∧(∀k,gu' k<18446744073709551616)∧(∀k,gg' k<18446744073709551616)∧(∀i,i<512→bitW gu' i=u i)∧(∀i,i<512→bitW gg' i=g i)∧Below w.heap.size w W from fun W hW=>⟨gu,gg,rfl,hu.fit,hg.fit,fu,fg,hW⟩)
 have W0:=hide hw0
 have Z0:=hide (new8 z0 (fun _=>by omega))
 have Z1:=hide (new8 z1 (fun _=>by omega))
 have K0:=hide k0
 have HU:=hide (hu.below k0)
 have HG:=hide (hg.below k0)
 rw[hN] at Z0 Z1
 have n0:b≠N:=by omega
 have n1:b≠N+1:=by omega
 have n2:N≠b:=by omega
 have n3:N+1≠b:=by omega
 clear hw0 z0 z1 k0 hu hg fu fg hb
 go_enter Tryz.func287,Tryz.ntmps287
 go_wp2_with fail
 have e0:=W0.out
 unfold cells8 at e0
 simp only[Int.ofNat_zero,Int.natCast_zero] at e0
 rw[←e0]
 clear e0 W0
 obtain ⟨u0,u1,u2,u3,u4,u5,u6,u7⟩:=HU.out.all0
 obtain ⟨v0,v1,v2,v3,v4,v5,v6,v7⟩:=HG.out.all8
 obtain ⟨x0,x1,x2,x3,x4,x5,x6,x7⟩:=Z0.out.all0
 obtain ⟨y0,y1,y2,y3,y4,y5,y6,y7⟩:=Z1.out.all0
 have p0:=Z0.out.frozen 0 (by omega)
 have p1:=Z0.out.frozen 1 (by omega)
 have p2:=Z0.out.frozen 2 (by omega)
 have p3:=Z0.out.frozen 3 (by omega)
 have p4:=Z0.out.frozen 4 (by omega)
 have p5:=Z0.out.frozen 5 (by omega)
 have p6:=Z0.out.frozen 6 (by omega)
 have p7:=Z0.out.frozen 7 (by omega)
 have q0:=Z1.out.frozen 0 (by omega)
 have q1:=Z1.out.frozen 1 (by omega)
 have q2:=Z1.out.frozen 2 (by omega)
 have q3:=Z1.out.frozen 3 (by omega)
 have q4:=Z1.out.frozen 4 (by omega)
 have q5:=Z1.out.frozen 5 (by omega)
 have q6:=Z1.out.frozen 6 (by omega)
 have q7:=Z1.out.frozen 7 (by omega)
 simp only[Nat.zero_add] at p0 p1 p2 p3 p4 p5 p6 p7 q0 q1 q2 q3 q4 q5 q6 q7
 go_region_held3 (fun w'=>w'.cell? ⟨b,0,none⟩=some (.int .u64 ((gu 0:Nat):Int))∧w'.cell? ⟨b,1,none⟩=some (.int .u64 ((gu 1:Nat):Int))∧w'.cell? ⟨b,2,none⟩=some (.int .u64 ((gu 2:Nat):Int))∧w'.cell? ⟨b,3,none⟩=some (.int .u64 ((gu 3:Nat):Int))∧w'.cell? ⟨b,4,none⟩=some (.int .u64 ((gu 4:Nat):Int))∧w'.cell? ⟨b,5,none⟩=some (.int .u64 ((gu 5:Nat):Int))∧w'.cell? ⟨b,6,none⟩=some (.int .u64 ((gu 6:Nat):Int))∧w'.cell? ⟨b,7,none⟩=some (.int .u64 ((gu 7:Nat):Int))∧w'.cell? ⟨b,8,none⟩=some (.int .u64 ((gg 0:Nat):Int))∧w'.cell? ⟨b,9,none⟩=some (.int .u64 ((gg 1:Nat):Int))∧w'.cell? ⟨b,10,none⟩=some (.int .u64 ((gg 2:Nat):Int))∧w'.cell? ⟨b,11,none⟩=some (.int .u64 ((gg 3:Nat):Int))∧w'.cell? ⟨b,12,none⟩=some (.int .u64 ((gg 4:Nat):Int))∧w'.cell? ⟨b,13,none⟩=some (.int .u64 ((gg 5:Nat):Int))∧w'.cell? ⟨b,14,none⟩=some (.int .u64 ((gg 6:Nat):Int))∧w'.cell? ⟨b,15,none⟩=some (.int .u64 ((gg 7:Nat):Int))) (go_keep) (fail)
 have r0:=(Z0.out.put8 HU.out.fit)
 have kk:=kept_put8 w0 N gu
 have r1:=(Z1.out.kept kk (by omega)).put8 HG.out.fit
 have kk2:=kept_put8 (put8 w0 N gu) (N+1) gg
 have r0':=r0.kept kk2 (by omega)
 have be:=below_kept (below_kept K0.out kk (fun x hx=>by omega) K0.out.size) kk2 (fun x hx=>by omega) (Nat.le_trans K0.out.size kk.size)
 have bd:=be.trans ((drew_below _).mono be.size)
 have d0:=r0'.below (drew_below _)
 have d1:=r1.below (drew_below _)
 obtain ⟨Wf,hWf⟩:∃Wf,Wf=(put8 (put8 w0 N gu) (N+1) gg).drew:=⟨_,rfl⟩
 rw[←hWf] at bd d0 d1
 unfold put8 at hWf
 have HW:=hide hWf
 have D0:=hide d0
 have D1:=hide d1
 have BD:=hide bd
 rw[←hWf]
 clear hWf d0 d1 bd r0 r1 r0' be kk kk2
 go_wp2_with fail
 exact bodyPost_ret (results_two Tryz.results287 _ Wf ⟨N,0,none⟩ ⟨N+1,0,none⟩ _ _ rfl rfl D0.out.load D1.out.load) rfl (R.out _ BD.out)
end Go.Proofs.YtdgdhnnakcncoaaGreatDoor
namespace Go.Proofs.Rx
open Go.Proofs.Bt Go.Proofs.Pk
abbrev Lv:=Nat→Nat→Option Rw
abbrev Ch:=Nat→Option (Nat×(Nat→Nat))
def row (L:Lv) (d i rest:Nat):Rw:=(L d i).getD (even d rest)
def Fact (st:Nat→Nat) (d i:Nat) (r:Rw):Prop:=r.t=tl st (i * sz d) (sz d)∧(0<d→Su st (i * sz d) (sz d) r)∧r.rest≤3
def Good (L:Lv) (C:Ch) (st:Nat→Nat):Nat→Nat→Nat→Rw→Prop
 |0,d,i,r=>Fact st d i r∧(∀s,al r.t (sz d)=some s→r=even d s∧C i=none)∧(al r.t (sz d)=none→∃b c,C i=some (b,c)∧∀k,k<512→c k=st (512 * i+k))
 |n+1,d,i,r=>Fact st d i r∧(∀s,al r.t (sz d)=some s→r=even d s∧∀k,k<fan d→L (d+1) (fan d * i+k)=none)∧∀k,k<fan d→Good L C st n (d+1) (fan d * i+k) (row L (d+1) (fan d * i+k) r.rest)
theorem Good.fact {L:Lv} {C:Ch} {st:Nat→Nat} {n d i:Nat} {r:Rw} (h:Good L C st n d i r):Fact st d i r:=by
 cases n<;>exact h.1
theorem Good.even {L:Lv} {C:Ch} {st:Nat→Nat} {n d i:Nat} {r:Rw} (h:Good L C st n d i r) {s:Nat} (hs:al r.t (sz d)=some s):r=even d s:=by
 cases n
 ·exact (h.2.1 s hs).1
 ·exact (h.2.1 s hs).1
theorem Good.kid {L:Lv} {C:Ch} {st:Nat→Nat} {n d i:Nat} {r:Rw} (h:Good L C st (n+1) d i r) {k:Nat} (h0:fan d * i≤k) (h1:k<fan d *(i+1)):Good L C st n (d+1) k (row L (d+1) k r.rest):=by
 have e:fan d *(i+1)=fan d * i+fan d:=Nat.mul_succ _ _
 have:=h.2.2 (k - fan d * i) (by omega)
 rwa[show fan d * i+(k - fan d * i)=k by omega] at this
theorem Good.chunk {L:Lv} {C:Ch} {st:Nat→Nat} {d i:Nat} {r:Rw} (h:Good L C st 0 d i r) (ha:al r.t (sz d)=none):∃b c,C i=some (b,c)∧∀k,k<512→c k=st (512 * i+k):=h.2.2 ha
theorem Good.all {L:Lv} {C:Ch} {st:Nat→Nat} (h4:Four st) {n d i:Nat} {r:Rw} (h:Good L C st n d i r) {s:Nat} (hs:al r.t (sz d)=some s):All st (i * sz d) (sz d) s:=by
 obtain ⟨h1,h2⟩:=al_some hs
 exact all_of_tl h4 h1 (by rw[←h.fact.1];exact h2)
def Ins (a b d i:Nat):Prop:=a≤i * sz d∧(i+1) * sz d≤b
theorem kid_ins {d i k:Nat} (hd:d<6) (h0:fan d * i≤k) (h1:k<fan d *(i+1)):Ins (i * sz d) ((i+1) * sz d) (d+1) k:=by
 have e:=sz_fan d hd
 unfold Ins
 rw[e]
 constructor
 ·rw[←Nat.mul_assoc,Nat.mul_comm i];exact Nat.mul_le_mul_right _ h0
 ·rw[←Nat.mul_assoc,Nat.mul_comm (i+1)];exact Nat.mul_le_mul_right _ h1
structure Agree (D a b:Nat) (L L':Lv) (C C':Ch) (st st':Nat→Nat):Prop where
 lv:∀d i,D<d→Ins a b d i→L d i=L' d i
 ch:∀i,Ins a b 6 i→C i=C' i
 st:∀q,a≤q→q<b→st q=st' q
theorem Agree.sub {D a b:Nat} {L L':Lv} {C C':Ch} {st st':Nat→Nat} (h:Agree D a b L L' C C' st st') {D' a' b':Nat} (hD:D≤D') (ha:a≤a') (hb:b'≤b):Agree D' a' b' L L' C C' st st':=
 ⟨fun d i hd hi=>h.lv d i (by omega) ⟨Nat.le_trans ha hi.1,Nat.le_trans hi.2 hb⟩,fun i hi=>h.ch i ⟨Nat.le_trans ha hi.1,Nat.le_trans hi.2 hb⟩,fun q h1 h2=>h.st q (by omega) (by omega)⟩
theorem Fact.congr {st st':Nat→Nat} {d i:Nat} {r:Rw} (h:Fact st d i r) (hs:∀q,i * sz d≤q→q<(i+1) * sz d→st q=st' q):Fact st' d i r:=by
 have e:(i+1) * sz d=i * sz d+sz d:=Nat.succ_mul _ _
 refine ⟨h.1.trans (tl_congr fun q h1 h2=>hs q h1 (by omega)),fun hd=> ?_,h.2.2⟩
 exact sumN_congr (h.2.1 hd) fun k hk=>by unfold bsy fre;rw[hs _ (by omega) (by omega)]
theorem Good.congr {L L':Lv} {C C':Ch} {st st':Nat→Nat}:∀{n d i:Nat} {r:Rw},n+d=6→Good L C st n d i r→Agree d (i * sz d) ((i+1) * sz d) L L' C C' st st'→Good L' C' st' n d i r
 |0,d,i,r,hn,h,g=>by
  obtain rfl:d=6:=by omega
  have ec:C' i=C i:=(g.ch i ⟨Nat.le_refl _,Nat.le_refl _⟩).symm
  refine ⟨h.1.congr g.st,fun s hs=>⟨(h.2.1 s hs).1,by rw[ec];exact (h.2.1 s hs).2⟩,fun ha=> ?_⟩
  obtain ⟨b,c,e1,e2⟩:=h.2.2 ha
  refine ⟨b,c,ec.trans e1,fun k hk=>(e2 k hk).trans ?_⟩
  have e:sz 6=512:=rfl
  exact g.st _ (by rw[e];omega) (by rw[e];omega)
 |n+1,d,i,r,hn,h,g=>by
  have hk:∀k,k<fan d→L (d+1) (fan d * i+k)=L' (d+1) (fan d * i+k):=fun k hk=>g.lv _ _ (by omega) (kid_ins (by omega) (by omega) (by rw[Nat.mul_succ];omega))
  refine ⟨h.1.congr g.st,fun s hs=>⟨(h.2.1 s hs).1,fun k hk'=>by rw[←hk k hk'];exact (h.2.1 s hs).2 k hk'⟩,fun k hk'=> ?_⟩
  have:=h.2.2 k hk'
  have e:row L (d+1) (fan d * i+k) r.rest=row L' (d+1) (fan d * i+k) r.rest:=by unfold row;rw[hk k hk']
  rw[←e]
  have hi:=kid_ins (d:=d) (i:=i) (k:=fan d * i+k) (by omega) (by omega) (by rw[Nat.mul_succ];omega)
  exact Good.congr (by omega) this (g.sub (by omega) hi.1 hi.2)
def Bare (D a b:Nat) (L:Lv) (C:Ch):Prop:=(∀d i,D<d→d≤6→Ins a b d i→L d i=none)∧∀i,Ins a b 6 i→C i=none
theorem Bare.sub {D a b:Nat} {L:Lv} {C:Ch} (h:Bare D a b L C) {D' a' b':Nat} (hD:D≤D') (ha:a≤a') (hb:b'≤b):Bare D' a' b' L C:=
 ⟨fun d i hd h6 hi=>h.1 d i (by omega) h6 ⟨Nat.le_trans ha hi.1,Nat.le_trans hi.2 hb⟩,fun i hi=>h.2 i ⟨Nat.le_trans ha hi.1,Nat.le_trans hi.2 hb⟩⟩
theorem even_fact {st:Nat→Nat} {d i s:Nat} (hs:s≤3) (h:All st (i * sz d) (sz d) s):Fact st d i (even d s):=⟨h.tl.symm,fun _=>even_su h,hs⟩
theorem al_even {d s:Nat} (hs:s≤3):al (even d s).t (sz d)=some s:=al_of (sz_pos d) hs
theorem All.sub {st:Nat→Nat} {a n s a' n':Nat} (h:All st a n s) (h1:a≤a') (h2:a'+n'≤a+n):All st a' n' s:=fun q q1 q2=>h q (by omega) (by omega)
theorem Good.of_even {L:Lv} {C:Ch} {st:Nat→Nat} {s:Nat} (hs:s≤3):∀{n d i:Nat},n+d=6→All st (i * sz d) (sz d) s→Bare d (i * sz d) ((i+1) * sz d) L C→Good L C st n d i (Rx.even d s)
 |0,d,i,hn,ha,hb=>by
  obtain rfl:d=6:=by omega
  refine ⟨even_fact hs ha,fun s' h'=> ?_,fun h'=> ?_⟩
  ·rw[al_even hs] at h'
   cases h'
   exact ⟨rfl,hb.2 i ⟨Nat.le_refl _,Nat.le_refl _⟩⟩
  ·rw[al_even hs] at h';cases h'
 |n+1,d,i,hn,ha,hb=>by
  have hi:∀k,k<fan d→Ins (i * sz d) ((i+1) * sz d) (d+1) (fan d * i+k):=fun k hk=>kid_ins (by omega) (by omega) (by rw[Nat.mul_succ];omega)
  have hl:∀k,k<fan d→L (d+1) (fan d * i+k)=none:=fun k hk=>hb.1 _ _ (by omega) (by omega) (hi k hk)
  refine ⟨even_fact hs ha,fun s' h'=> ?_,fun k hk=> ?_⟩
  ·rw[al_even hs] at h'
   cases h'
   exact ⟨rfl,hl⟩
  ·have e:row L (d+1) (fan d * i+k) (Rx.even d s).rest=Rx.even (d+1) s:=by unfold row;rw[hl k hk];rfl
   rw[e]
   have h2:=hi k hk
   have e1:(i+1) * sz d=i * sz d+sz d:=Nat.succ_mul _ _
   have e2:(fan d * i+k+1) * sz (d+1)=(fan d * i+k) * sz (d+1)+sz (d+1):=Nat.succ_mul _ _
   unfold Ins at h2
   exact Good.of_even hs (by omega) (ha.sub h2.1 (by omega)) (hb.sub (by omega) h2.1 h2.2)
theorem Good.bare {L:Lv} {C:Ch} {st:Nat→Nat}:∀{n d i:Nat} {r:Rw},n+d=6→Good L C st n d i r→∀{s},al r.t (sz d)=some s→Bare d (i * sz d) ((i+1) * sz d) L C
 |0,d,i,r,hn,h,s,hs=>by
  obtain rfl:d=6:=by omega
  have e:sz 6=512:=rfl
  refine ⟨fun d' j hd h6 _=>by omega,fun j hj=> ?_⟩
  unfold Ins at hj
  rw[e] at hj
  obtain rfl:j=i:=by omega
  exact (h.2.1 s hs).2
 |n+1,d,i,r,hn,h,s,hs=>by
  obtain ⟨e0,hl⟩:=h.2.1 s hs
  have hs3:=(al_some hs).1
  have kb:∀k,k<fan d→Bare (d+1) ((fan d * i+k) * sz (d+1)) ((fan d * i+k+1) * sz (d+1)) L C:=fun k hk=>by
   have h1:=h.2.2 k hk
   have e:row L (d+1) (fan d * i+k) r.rest=Rx.even (d+1) s:=by unfold row;rw[hl k hk,e0];rfl
   rw[e] at h1
   exact Good.bare (by omega) h1 (al_even hs3)
  have hf:∀d' j,d<d'→d'≤6→Ins (i * sz d) ((i+1) * sz d) d' j→∃k,k<fan d∧Ins ((fan d * i+k) * sz (d+1)) ((fan d * i+k+1) * sz (d+1)) d' j:=fun d' j hd h6 hj=>by
   obtain ⟨m,hm⟩:∃m,sz (d+1)=m * sz d':=by
    have:∀x y,x≤6→y≤6→x≤y→∃m,sz x=m * sz y:=fun x y hx hy=>by
     have hx':=sz_pow x hx
     have hy':=sz_pow y hy
     intro hxy
     have hsh:sh y≤sh x:=by
      have:∀x,x≤6→∀y,y≤6→x≤y→sh y≤sh x:=by decide
      exact this x hx y hy hxy
     exact ⟨2^(sh x - sh y),by rw[hx',hy',←Nat.pow_add];congr 1;omega⟩
    exact this (d+1) d' (by omega) h6 (by omega)
   have mp:0<m:=by
    rcases Nat.eq_zero_or_pos m with z|z
    ·rw[z,Nat.zero_mul] at hm;have:=sz_pos (d+1);omega
    ·exact z
   have zp:=sz_pos d'
   have e1:=sz_fan d (by omega)
   unfold Ins at hj ⊢
   rw[e1,hm] at hj
   rw[hm]
   have a1:i *(fan d * m)≤j:=by
    have:=hj.1
    rw[show i *(fan d *(m * sz d'))=i *(fan d * m) * sz d' by simp only[Nat.mul_assoc]] at this
    exact Nat.le_of_mul_le_mul_right this zp
   have a2:j+1≤(i+1) *(fan d * m):=by
    have:=hj.2
    rw[show (i+1) *(fan d *(m * sz d'))=(i+1) *(fan d * m) * sz d' by simp only[Nat.mul_assoc]] at this
    exact Nat.le_of_mul_le_mul_right this zp
   have q0:fan d * i≤j/m:=(Nat.le_div_iff_mul_le mp).2 (by rw[show fan d * i * m=i *(fan d * m) by rw[Nat.mul_comm (fan d),Nat.mul_assoc]];exact a1)
   have q1:j/m<fan d * i+fan d:=by
    rw[Nat.div_lt_iff_lt_mul mp]
    rw[show (fan d * i+fan d) * m=(i+1) *(fan d * m) by rw[←Nat.mul_succ,Nat.mul_comm (fan d),Nat.mul_assoc]]
    omega
   refine ⟨j/m - fan d * i,by omega,?_⟩
   rw[show fan d * i+(j/m - fan d * i)=j/m by omega]
   constructor
   ·rw[←Nat.mul_assoc];exact Nat.mul_le_mul_right _ (Nat.div_mul_le_self j m)
   ·rw[←Nat.mul_assoc];exact Nat.mul_le_mul_right _ (by
     have:=Nat.lt_div_mul_add (a:=j) mp
     rw[Nat.succ_mul];omega)
  refine ⟨fun d' j hd h6 hj=> ?_,fun j hj=> ?_⟩
  ·obtain ⟨k,k1,k2⟩:=hf d' j hd h6 hj
   by_cases z:d'=d+1
   ·subst z
    have zp:=sz_pos (d+1)
    unfold Ins at k2
    have b1:=Nat.le_of_mul_le_mul_right k2.1 zp
    have b2:=Nat.le_of_mul_le_mul_right k2.2 zp
    have:j=fan d * i+k:=by omega
    rw[this];exact hl k k1
   ·exact (kb k k1).1 d' j (by omega) h6 k2
  ·obtain ⟨k,k1,k2⟩:=hf 6 j (by omega) (by omega) hj
   exact (kb k k1).2 j k2
end Go.Proofs.Rx
namespace Go.Proofs.Rx
open Go.Proofs.Bt Go.Proofs.Pk
set_option linter.unusedVariables false
set_option linter.unusedSimpArgs false
theorem sz_dvd {x y:Nat} (hx:x≤6) (hy:y≤6) (hxy:x≤y):∃m,sz x=m * sz y:=by
 have hx':=sz_pow x hx
 have hy':=sz_pow y hy
 have hsh:sh y≤sh x:=by
  have:∀x,x≤6→∀y,y≤6→x≤y→sh y≤sh x:=by decide
  exact this x hx y hy hxy
 exact ⟨2^(sh x - sh y),by rw[hx',hy',←Nat.pow_add];congr 1;omega⟩
theorem kid_of {d i d' j:Nat} (hd:d<d') (h6:d'≤6) (hj:Ins (i * sz d) ((i+1) * sz d) d' j):∃k,fan d * i≤k∧k<fan d *(i+1)∧Ins (k * sz (d+1)) ((k+1) * sz (d+1)) d' j:=by
 obtain ⟨m,hm⟩:=sz_dvd (x:=d+1) (y:=d') (by omega) h6 (by omega)
 have mp:0<m:=by
  rcases Nat.eq_zero_or_pos m with z|z
  ·rw[z,Nat.zero_mul] at hm;have:=sz_pos (d+1);omega
  ·exact z
 have zp:=sz_pos d'
 have e1:=sz_fan d (by omega)
 unfold Ins at hj ⊢
 rw[e1,hm] at hj
 rw[hm]
 have a1:i *(fan d * m)≤j:=by
  have:=hj.1
  rw[show i *(fan d *(m * sz d'))=i *(fan d * m) * sz d' by simp only[Nat.mul_assoc]] at this
  exact Nat.le_of_mul_le_mul_right this zp
 have a2:j+1≤(i+1) *(fan d * m):=by
  have:=hj.2
  rw[show (i+1) *(fan d *(m * sz d'))=(i+1) *(fan d * m) * sz d' by simp only[Nat.mul_assoc]] at this
  exact Nat.le_of_mul_le_mul_right this zp
 refine ⟨j/m,(Nat.le_div_iff_mul_le mp).2 (by rw[show fan d * i * m=i *(fan d * m) by rw[Nat.mul_comm (fan d),Nat.mul_assoc]];exact a1),?_,?_,?_⟩
 ·rw[Nat.div_lt_iff_lt_mul mp,show fan d *(i+1) * m=(i+1) *(fan d * m) by rw[Nat.mul_comm (fan d),Nat.mul_assoc]]
  omega
 ·rw[←Nat.mul_assoc];exact Nat.mul_le_mul_right _ (Nat.div_mul_le_self j m)
 ·rw[←Nat.mul_assoc];exact Nat.mul_le_mul_right _ (by
   have:=Nat.lt_div_mul_add (a:=j) mp
   rw[Nat.succ_mul];omega)
theorem ins_apart {D j k d' x:Nat} (h1:Ins (j * sz D) ((j+1) * sz D) d' x) (h2:Ins (k * sz D) ((k+1) * sz D) d' x):j=k:=by
 unfold Ins at h1 h2
 have zp:=sz_pos d'
 have e:(x+1) * sz d'=x * sz d'+sz d':=Nat.succ_mul _ _
 have a1:j * sz D<(k+1) * sz D:=by omega
 have a2:k * sz D<(j+1) * sz D:=by omega
 have b1:=Nat.lt_of_mul_lt_mul_right a1
 have b2:=Nat.lt_of_mul_lt_mul_right a2
 omega
theorem ins_self {d j k:Nat} (h:Ins (k * sz d) ((k+1) * sz d) d j):j=k:=by
 unfold Ins at h
 have zp:=sz_pos d
 have b1:=Nat.le_of_mul_le_mul_right h.1 zp
 have b2:=Nat.le_of_mul_le_mul_right h.2 zp
 omega
structure Outs (D a b:Nat) (L L':Lv) (C C':Ch):Prop where
 lv:∀d i,¬(D<d∧d≤6∧Ins a b d i)→L' d i=L d i
 ch:∀i,¬Ins a b 6 i→C' i=C i
theorem Outs.refl (D a b:Nat) (L:Lv) (C:Ch):Outs D a b L L C C:=⟨fun _ _ _=>rfl,fun _ _=>rfl⟩
theorem Outs.trans {D a b:Nat} {L L' L'':Lv} {C C' C'':Ch} (h:Outs D a b L L' C C') (k:Outs D a b L' L'' C' C''):Outs D a b L L'' C C'':=
 ⟨fun d i z=>(k.lv d i z).trans (h.lv d i z),fun i z=>(k.ch i z).trans (h.ch i z)⟩
theorem Outs.wide {D a b D' a' b':Nat} {L L':Lv} {C C':Ch} (h:Outs D a b L L' C C') (hD:D'≤D) (ha:a'≤a) (hb:b≤b'):Outs D' a' b' L L' C C':=
 ⟨fun d i z=>h.lv d i (fun y=>z ⟨by omega,y.2.1,Nat.le_trans ha y.2.2.1,Nat.le_trans y.2.2.2 hb⟩),fun i z=>h.ch i (fun y=>z ⟨Nat.le_trans ha y.1,Nat.le_trans y.2 hb⟩)⟩
def Hang (L:Lv) (C:Ch):Nat→Nat→Nat→Prop
 |0,_,_=>True
 |n+1,d,i=>∀k,fan d * i≤k→k<fan d *(i+1)→(L (d+1) k=none→Bare (d+1) (k * sz (d+1)) ((k+1) * sz (d+1)) L C)∧Hang L C n (d+1) k
theorem Good.hang {L:Lv} {C:Ch} {st:Nat→Nat}:∀{n d i:Nat} {r:Rw},n+d=6→Good L C st n d i r→Hang L C n d i
 |0,d,i,r,_,_=>trivial
 |n+1,d,i,r,hn,h=>fun k h0 h1=>by
  have g:=h.kid h0 h1
  refine ⟨fun z=> ?_,Good.hang (by omega) g⟩
  have e:row L (d+1) k r.rest=Rx.even (d+1) r.rest:=by unfold row;rw[z];rfl
  rw[e] at g
  exact Good.bare (by omega) g (al_even h.1.2.2)
theorem Hang.congr {L L':Lv} {C C':Ch}:∀{n d i:Nat},n+d=6→Hang L C n d i→(∀d' j,d<d'→Ins (i * sz d) ((i+1) * sz d) d' j→L' d' j=L d' j)→(∀j,Ins (i * sz d) ((i+1) * sz d) 6 j→C' j=C j)→Hang L' C' n d i
 |0,d,i,_,_,_,_=>trivial
 |n+1,d,i,hn,h,hl,hc=>fun k h0 h1=>by
  obtain ⟨g1,g2⟩:=h k h0 h1
  have hi:=kid_ins (by omega) h0 h1
  have sub:∀{d' j},Ins (k * sz (d+1)) ((k+1) * sz (d+1)) d' j→Ins (i * sz d) ((i+1) * sz d) d' j:=fun z=>⟨Nat.le_trans hi.1 z.1,Nat.le_trans z.2 hi.2⟩
  refine ⟨fun z=> ?_,Hang.congr (by omega) g2 (fun d' j hd hj=>hl d' j (by omega) (sub hj)) (fun j hj=>hc j (sub hj))⟩
  rw[hl (d+1) k (by omega) hi] at z
  exact ⟨fun d' j hd h6 hj=>(hl d' j (by omega) (sub hj)).trans ((g1 z).1 d' j hd h6 hj),fun j hj=>(hc j (sub hj)).trans ((g1 z).2 j hj)⟩
theorem Bare.congr {D a b:Nat} {L L':Lv} {C C':Ch} (h:Bare D a b L C) (hl:∀d j,D<d→Ins a b d j→L' d j=L d j) (hc:∀j,Ins a b 6 j→C' j=C j):Bare D a b L' C':=
 ⟨fun d j hd h6 hj=>(hl d j hd hj).trans (h.1 d j hd h6 hj),fun j hj=>(hc j hj).trans (h.2 j hj)⟩
theorem bare_of_kids {L:Lv} {C:Ch} {d i:Nat} (hd:d<6) (h:∀k,fan d * i≤k→k<fan d *(i+1)→L (d+1) k=none∧Bare (d+1) (k * sz (d+1)) ((k+1) * sz (d+1)) L C):Bare d (i * sz d) ((i+1) * sz d) L C:=by
 refine ⟨fun d' j hd' h6 hj=> ?_,fun j hj=> ?_⟩
 ·obtain ⟨k,k0,k1,k2⟩:=kid_of hd' h6 hj
  by_cases z:d'=d+1
  ·subst z
   rw[ins_self k2];exact (h k k0 k1).1
  ·exact (h k k0 k1).2.1 d' j (by omega) h6 k2
 ·obtain ⟨k,k0,k1,k2⟩:=kid_of (d':=6) (by omega) (by omega) hj
  exact (h k k0 k1).2.2 j k2
end Go.Proofs.Rx
namespace Go.Proofs.Rx
open Go.Proofs.Bt Go.Proofs.Pk
set_option linter.unusedVariables false
set_option linter.unusedSimpArgs false
structure FInv (L:Lv) (C:Ch) (d i k:Nat) (L':Lv) (C':Ch):Prop where
 outs:Outs d (i * sz d) ((i+1) * sz d) L L' C C'
 done:∀j,fan d * i≤j→j<fan d * i+k→L' (d+1) j=none∧Bare (d+1) (j * sz (d+1)) ((j+1) * sz (d+1)) L' C'
 rest:∀j,fan d * i+k≤j→j<fan d *(i+1)→(∀d' x,d<d'→Ins (j * sz (d+1)) ((j+1) * sz (d+1)) d' x→L' d' x=L d' x)∧∀x,Ins (j * sz (d+1)) ((j+1) * sz (d+1)) 6 x→C' x=C x
 sub:∀x y,C' x=some y→C x=some y
theorem FInv.zero (L:Lv) (C:Ch) (d i:Nat):FInv L C d i 0 L C:=⟨Outs.refl _ _ _ _ _,fun j h1 h2=>by omega,fun j _ _=>⟨fun _ _ _ _=>rfl,fun _ _=>rfl⟩,fun _ _ h=>h⟩
theorem FInv.step {L L' L2:Lv} {C C' C2:Ch} {d i k:Nat} (hd:d<6) (h:FInv L C d i k L' C') (hk:k<fan d) (hn:L2 (d+1) (fan d * i+k)=none) (hb:Bare (d+1) ((fan d * i+k) * sz (d+1)) ((fan d * i+k+1) * sz (d+1)) L2 C2)
 (hl:∀d' x,¬(d<d'∧d'≤6∧Ins ((fan d * i+k) * sz (d+1)) ((fan d * i+k+1) * sz (d+1)) d' x)→L2 d' x=L' d' x) (hc:∀x,¬Ins ((fan d * i+k) * sz (d+1)) ((fan d * i+k+1) * sz (d+1)) 6 x→C2 x=C' x) (hs:∀x y,C2 x=some y→C' x=some y):FInv L C d i (k+1) L2 C2:=by
 have hi:=kid_ins (d:=d) (i:=i) (k:=fan d * i+k) hd (by omega) (by rw[Nat.mul_succ];omega)
 have far:∀{j d' x},j≠fan d * i+k→Ins (j * sz (d+1)) ((j+1) * sz (d+1)) d' x→¬Ins ((fan d * i+k) * sz (d+1)) ((fan d * i+k+1) * sz (d+1)) d' x:=fun hne h1 h2=>hne (ins_apart h1 h2)
 refine ⟨⟨fun d' x z=>(hl d' x (fun y=>z ⟨y.1,y.2.1,Nat.le_trans hi.1 y.2.2.1,Nat.le_trans y.2.2.2 hi.2⟩)).trans (h.outs.lv d' x z),fun x z=>(hc x (fun y=>z ⟨Nat.le_trans hi.1 y.1,Nat.le_trans y.2 hi.2⟩)).trans (h.outs.ch x z)⟩,fun j h1 h2=> ?_,fun j h1 h2=> ?_,fun x y z=>h.sub x y (hs x y z)⟩
 ·by_cases e:j=fan d * i+k
  ·rw[e];exact ⟨hn,hb⟩
  ·obtain ⟨g1,g2⟩:=h.done j h1 (by omega)
   refine ⟨(hl (d+1) j (fun y=>far e ⟨Nat.le_refl _,Nat.le_refl _⟩ y.2.2)).trans g1,g2.congr (fun d' x _ hx=>hl d' x (fun y=>far e hx y.2.2)) (fun x hx=>hc x (far e hx))⟩
 ·have e:j≠fan d * i+k:=by omega
  obtain ⟨g1,g2⟩:=h.rest j (by omega) h2
  exact ⟨fun d' x hd' hx=>(hl d' x (fun y=>far e hx y.2.2)).trans (g1 d' x hd' hx),fun x hx=>(hc x (far e hx)).trans (g2 x hx)⟩
theorem FInv.bare {L L':Lv} {C C':Ch} {d i:Nat} (hd:d<6) (h:FInv L C d i (fan d) L' C'):Bare d (i * sz d) ((i+1) * sz d) L' C':=
 bare_of_kids hd fun k h0 h1=>h.done k h0 (by rw[Nat.mul_succ] at h1;omega)
end Go.Proofs.Rx
