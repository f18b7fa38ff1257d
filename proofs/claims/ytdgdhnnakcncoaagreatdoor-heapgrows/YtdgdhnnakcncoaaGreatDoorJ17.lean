/- Of the proof of HeapClasses: texts RXt. -/
import Derived.Test.YtdgdhnnakcncoaaGreatDoorJ15
import Derived.Test.YtdgdhnnakcncoaaGreatDoorJ16
import Derived.OwnWalkIn
namespace Go.Proofs.YtdgdhnnakcncoaaGreatDoor
set_option maxHeartbeats 1600000
open Go.ChangeShapes Go.WideShapes Go.ChangeAt Go.RowKit Go.Proofs.Bt Go.Shelf Go.Proofs.Rx Go.Maps Go.Proofs.Pk
set_option linter.unusedVariables false
set_option linter.unusedSimpArgs false
attribute [local go_sem] Oper.semAt_some
theorem owns_kept {w w':World} {base:Nat} {e:TypeId} {size:Nat} {v:Value} {n:Nat} {xs:List Value} (h:w.ownsRow base e size v n xs) (hk:∀x,v.ownBlock=some x→w'.heap[x]? =w.heap[x]?):w'.ownsRow base e size v n xs:=by
 obtain ⟨h1,h2|⟨g,cap,cur,e1,hb,hh,r⟩⟩:=h
 ·exact ⟨h1,Or.inl h2⟩
 ·exact ⟨h1,Or.inr ⟨g,cap,cur,e1,hb,(hk g (by rw[e1];rfl)).trans hh,r⟩⟩
def tk (L:Lv) (d i rest k:Nat):List Sm:=(List.range k).map fun j=>sm (row L (d+1) (fan d * i+j) rest)
theorem tk_len (L:Lv) (d i rest k:Nat):(tk L d i rest k).length=k:=by simp[tk]
theorem tk_succ (L:Lv) (d i rest k:Nat):tk L d i rest (k+1)=tk L d i rest k++ [sm (row L (d+1) (fan d * i+k) rest)]:=by simp[tk,List.range_succ]
theorem tk_at (L:Lv) (d i rest k:Nat) {j:Nat} (hj:j<k):Mg.nth (tk L d i rest k) j=sm (row L (d+1) (fan d * i+j) rest):=by
 unfold Mg.nth tk
 simp[hj]
theorem flat_snoc (t:List Sm) (s:Sm):Mg.flat (t++ [s])=Mg.flat t++ [.int .i64 s.s, .int .i64 s.m, .int .i64 s.e]:=Mg.flat_app t [s]
structure SB (N Q:Nat) (w:World) (T:Tid) (L:Lv) (C:Ch) (d i rest k:Nat) (X:World):Prop where
 be:Below N w X
 rs:Bk X N 218 #[.int .i64 0, .int .i64 0, .int .i64 0]
 own:X.ownsRow N 218 3 (.slice (some ⟨N+1,0,none⟩) k 64) k (Mg.flat (tk L d i rest k))
 var:Bk X Q 376 #[.slice (some ⟨N+1,0,none⟩) k 64]
 rd:RdB (Q+2) (Q+3) (Q+1) (Q+4) d i rest T L C X
theorem RdB.kept {F:Nat→Prop} {a b c e d i rest:Nat} {T:Tid} {L:Lv} {C:Ch} {w X X':World} (h:RdB a b c e d i rest T L C X) (h0:RadAt w T L C) (kk:Kept F X X') (hF:∀x,F x→w.heap.size≤x∧x≠a∧x≠b∧x≠c∧x≠e):RdB a b c e d i rest T L C X':=
 ⟨boxed_kept h.dp kk (fun z=>(hF _ z).2.1 rfl),boxed_kept h.ix kk (fun z=>(hF _ z).2.2.1 rfl),boxed_kept h.tr kk (fun z=>(hF _ z).2.2.2.1 rfl),boxed_kept h.rs kk (fun z=>(hF _ z).2.2.2.2 rfl),h0.new h.rad kk (fun x hx=>(hF x hx).1)⟩
theorem SB.kept {F:Nat→Prop} {N Q:Nat} {w X X':World} {T:Tid} {L:Lv} {C:Ch} {d i rest k:Nat} (h:SB N Q w T L C d i rest k X) (kk:Kept F X X') (hQ:N+1<Q) (hw:w.heap.size=N) (h0:RadAt w T L C) (hF:∀x,F x→Q+5≤x):SB N Q w T L C d i rest k X':=by
 refine ⟨below_kept h.be kk (fun x hx=>by have:=hF _ hx;omega) (by have:=h.rs.lt;omega),h.rs.kept kk (fun z=>by have:=hF _ z;omega),owns_kept h.own (fun x hx=> ?_),h.var.kept kk (fun z=>by have:=hF _ z;omega),h.rd.kept h0 kk (fun x hx=>by have:=hF _ hx;omega)⟩
 have e:N+1=x:=by simpa [Value.ownBlock] using hx
 exact kk.block x (by have:=h.own.lt (N+1) rfl;omega) (fun z=>by have:=hF _ z;omega)
theorem infoSum:(Tryz.prog.info? 218).map (fun i=>(i.zero,i.size,i.bytes))=some (some (.agg #[.int .i64 0, .int .i64 0, .int .i64 0]),3,24):=by kernel_rfl
theorem norm_only {F:Fence} {n:Nat} {P:Program} {c:Code} {Q:Exit→Act→World→Prop} {a:Act} {w:World} (h:c.wpIn F n P (fun e a w=>e= .normal∧Q .normal a w) a w):c.wpIn F n P Q a w:=
 wpIn_mono h fun e a w ⟨he,hq⟩=>by rw[he];exact hq
def SbP (st:Nat→Nat) (d i:Nat) (w:World) (e:Ending) (w':World):Prop:=(∃s m e':Nat,e= .returned (sumV (s:Nat) (m:Nat) (e':Nat))∧(1≤d→SumN (bsy st (i * sz d)) (sz d) s m e'))∧Below w.heap.size w w'
theorem sum3 {W:World} {b:Nat} {s m e:Int} (h:Bk W b 218 #[.int .i64 s, .int .i64 m, .int .i64 e]):(loadVar 218 ⟨b,0,none⟩).run Tryz.prog W= .ok (sumV s m e) W:=by
 have c0:=h.cell 0 _ rfl
 have c1:=h.cell 1 _ rfl
 have c2:=h.cell 2 _ rfl
 simp[go_sem,c0,c1,c2,sumV]
set_option maxRecDepth 100000 in
set_option maxHeartbeats 2000000 in
theorem sumBelow_any {w:World} {T:Tid} {L:Lv} {C:Ch} (h:RadAt w T L C) (st:Nat→Nat) (d i rest:Nat) (hd:d<6) (hi:(i+1) * sz d≤34359738368) (hr:rest≤3)
 (hsu:∀j,j<fan d→Su st ((fan d * i+j) * sz (d+1)) (sz (d+1)) (row L (d+1) (fan d * i+j) rest)):
 Calls Tryz.prog 259 #[tp T, .int .i64 (d:Nat), .int .u64 (i:Nat), .int .i64 (rest:Nat)] w (SbP st d i w):=by
 obtain ⟨R,hR⟩:∃R,R=SbP st d i w:=⟨_,rfl⟩
 rw[←hR]
 have HR:=hide hR
 obtain ⟨N,hN⟩:∃N,w.heap.size=N:=⟨_,rfl⟩
 have HN:=hide hN
 have R0:=hide h
 have HS:=hide hsu
 obtain ⟨V,hV⟩:∃V,w.alloc (.cells #[.int .i64 0, .int .i64 0, .int .i64 0] 218)=V:=⟨_,rfl⟩
 have bV:Below N w V:=by rw[←hV,←hN];exact grown1 w _
 have rV:Bk V N 218 #[.int .i64 0, .int .i64 0, .int .i64 0]:=by rw[←hV,←hN];exact World.alloc_heap_new w _
 have sV:V.heap.size=N+1:=by rw[←hV];simp;omega
 have HV:=hide hV
 have BV:=hide bV
 have RV:=hide rV
 clear hR h hsu bV rV hV
 refine (callsIn_wide (n:=3)).1 ?_
 refine callsIn_of_wp_marks Tryz.func259 rfl trivial ?_ rfl
 simp only[Tryz.ntmps259,List.size_toArray,List.length_cons,List.length_nil,Nat.reduceAdd,Nat.reduceSub,Array.replicate_succ,Array.replicate_zero,List.push_toArray,List.append_toArray,List.nil_append,List.cons_append]
 by_cases d0:d=0
 ·subst d0
  simp only[Int.cast_ofNat_Int]
  gi_wp2_with fail
  rw[HV.out]
  refine ⟨sumV 0 0 0,results_c Tryz.results259 _ _ ⟨N,0,none⟩ _ rfl (sum3 RV.out),?_⟩
  rw[HR.out]
  exact ⟨⟨0,0,0,rfl,fun z=>by omega⟩,by rw[HN.out];exact BV.out⟩
 ·have dn:((d:Int)==0)=false:=beq_eq_false_iff_ne.2 (by omega)
  obtain ⟨i0,hi0,hz0,hz1,hz2⟩:=Mg.info_parts infoSum
  obtain ⟨W,hrun,oW,gW⟩:=run_make_own (P:=Tryz.prog) V N 376 218 i0 _ 3 Tryz.underlying376 hi0 hz0 hz1 .i64 .i64 64 (by rw[hz2];decide) (by unfold maxLen;decide) (by omega)
  obtain ⟨Q,hQ⟩:∃Q,W.heap.size=Q:=⟨_,rfl⟩
  rw[sV] at hrun oW
  simp only[Int.cast_ofNat_Int] at hrun
  have lQ:N+1<Q:=by have:=(oW.lt (N+1) rfl).2;omega
  obtain ⟨W1,hW1⟩:∃W1,W.alloc (.cells #[.slice (some ⟨N+1,0,none⟩) 0 64] 376)=W1:=⟨_,rfl⟩
  obtain ⟨Z,hZ⟩:∃Z,(((W1.alloc (.cells #[tp T] 114)).alloc (.cells #[.int .i64 (d:Nat)] 3)).alloc (.cells #[.int .u64 (i:Nat)] 39)).alloc (.cells #[.int .i64 (rest:Nat)] 219)=Z:=⟨_,rfl⟩
  have s1:W1.heap.size=Q+1:=by rw[←hW1];simp;omega
  have sZ:Z.heap.size=Q+5:=by rw[←hZ];simp;omega
  have b1:Below V.heap.size V W:=⟨gW.os,gW.tape,gW.output,gW.size,fun b hb=>gW.block b hb (by simp)⟩
  have bZ1:Below W1.heap.size W1 Z:=by rw[←hZ];exact ((((Below.refl _ W1).alloc (Nat.le_refl _) _).alloc (by simp) _).alloc (by simp;omega) _).alloc (by simp;omega) _
  have bZ:Below W.heap.size W Z:=Below.trans (by rw[←hW1];exact grown1 W _) (bZ1.mono (by omega))
  have bz:Below N w Z:=(BV.out.trans (b1.mono (by omega))).trans (bZ.mono (by omega))
  have vZ:Bk Z Q 376 #[.slice (some ⟨N+1,0,none⟩) 0 64]:=Bk.below (by rw[←hW1,←hQ];exact World.alloc_heap_new W _) bZ1
  have p1:Z.heap[Q+1]? =some (.cells #[tp T] 114 (0,0)):=by rw[←hZ,alloc_at,if_neg (by simp;omega),alloc_at,if_neg (by simp;omega),alloc_at,if_neg (by simp;omega),alloc_at,if_pos (by omega)]
  have p2:Z.heap[Q+2]? =some (.cells #[.int .i64 (d:Nat)] 3 (0,0)):=by rw[←hZ,alloc_at,if_neg (by simp;omega),alloc_at,if_neg (by simp;omega),alloc_at,if_pos (by simp;omega)]
  have p3:Z.heap[Q+3]? =some (.cells #[.int .u64 (i:Nat)] 39 (0,0)):=by rw[←hZ,alloc_at,if_neg (by simp;omega),alloc_at,if_pos (by simp;omega)]
  have p4:Z.heap[Q+4]? =some (.cells #[.int .i64 (rest:Nat)] 219 (0,0)):=by rw[←hZ,alloc_at,if_pos (by simp;omega)]
  have I0:=hide (show SB N Q w T L C d i rest 0 Z from ⟨bz,(RV.out.below b1).below bZ,owns_kept oW (fun x hx=>by
   have e:N+1=x:=by simpa [Value.ownBlock] using hx
   exact bZ.block x (by omega)),vZ,⟨p2,p3,p1,p4,R0.out.below (by rw[HN.out];exact bz)⟩⟩)
  have CB:=hide (below_any T d i rest W1)
  rw[s1] at CB
  have SEQ:=hide (below_seq (Q+2) (Q+3) (Q+1) (Q+4) d i rest T L C hd hi hr (3 - 1))
  have fd:fan d≤64:=by
   have:d=1∨d=2∨d=3∨d=4∨d=5:=by omega
   rcases this with rfl|rfl|rfl|rfl|rfl<;>decide
  have HZ:=hide hZ
  have HQ:=hide hQ
  clear b1 bZ1 bZ bz vZ p1 p2 p3 p4 oW gW hZ
  have hV:=HV.out
  unfold tp at CB HZ ⊢
  gi_wp2_with fail
  refine wcall2 CB.out ?_
  rintro e w8 ⟨rfl,hw8⟩
  rw[HZ.out] at hw8
  rw[hw8]
  simp only[Nat.add_assoc,Nat.reduceAdd]
  clear hw8 w8 CB hrun hV hW1 HZ HV BV RV s1 sV hQ HQ V W W1
  gi_wp2_with fail
  refine range_K (w:=Z) rfl (enters_of Tryz.func250 (by kernel_rfl) rfl) SEQ.out (fun _=>rfl) (SB N Q w T L C d i rest) (fun c k X=>False) (fun s X h=>h.rd) ?hI ?hIx I0.out ?round ?done ?stop
  case hI=>
   intro s X X' h k
   exact h.kept k lQ HN.out R0.out (fun x hx=>by rw[sZ] at hx;omega)
  case hIx=>rintro c s X X' h k;exact h
  case stop=>rintro c k X hk h;exact h.elim
  case round=>
   rintro k X ⟨r0,hr0⟩ hdf hsz h hk
   rw[sZ] at hr0 hdf hsz ⊢
   have HI:=hide h
   clear h hr0 hdf
   unfold encsB rwV
   obtain ⟨q,hq⟩:∃q,row L (d+1) (fan d * i+k) rest=q:=⟨_,rfl⟩
   rw[hq]
   have HQQ:=hide hq
   obtain ⟨KK,hKK⟩:∃KK:Int,((fan d * i+k:Nat):Int)=KK:=⟨_,rfl⟩
   rw[hKK]
   clear hKK hq
   obtain ⟨B,hB⟩:∃B,X.heap.size=B:=⟨_,rfl⟩
   obtain ⟨X1,hX1⟩:∃X1,X.alloc (.cells #[.int .u64 (q.t.p:Nat), .int .u64 (q.t.f:Nat), .int .u64 (q.t.r:Nat), .int .i64 (q.s:Nat), .int .i64 (q.m:Nat), .int .i64 (q.e:Nat), .int .i64 (q.rest:Nat)] 221)=X1:=⟨_,rfl⟩
   have b1:Below X.heap.size X X1:=by rw[←hX1];exact grown1 X _
   have f1:Bk X1 B 221 #[.int .u64 (q.t.p:Nat), .int .u64 (q.t.f:Nat), .int .u64 (q.t.r:Nat), .int .i64 (q.s:Nat), .int .i64 (q.m:Nat), .int .i64 (q.e:Nat), .int .i64 (q.rest:Nat)]:=by rw[←hX1,←hB];exact World.alloc_heap_new X _
   have B1:=hide b1
   have F1:=hide f1
   clear b1 f1
   gi_wp2_with fail
   clear hX1
   refine ⟨Kept.of_below B1.out,fun r1=> ?_⟩
   have kp:=Kept.put (F:=fun b=>b=Q+6) X1 (Q+5+1) (.loop r1) rfl
   obtain ⟨X2,hX2⟩:∃X2,X1.putObj (Q+5+1) (.loop r1)=X2:=⟨_,rfl⟩
   rw[hX2] at kp ⊢
   have I3:=hide ((HI.out.kept (F:=fun _=>False) (Kept.of_below B1.out) lQ HN.out R0.out (fun x z=>z.elim)).kept kp lQ HN.out R0.out (fun x hx=>by omega))
   have F2:=F1.out.kept kp (by omega)
   have c3:=F2.cell 3 _ rfl
   have c4:=F2.cell 4 _ rfl
   have c5:=F2.cell 5 _ rfl
   have lB:=F2.lt
   have vv:=I3.out.var.cell 0 _ rfl
   have lv:=I3.out.var.lt
   have OW:=hide I3.out.own
   have hk64:k+1≤64:=by omega
   have NX:=hide (show ∀X5 X6,(X2.alloc (.cells #[.int .i64 (q.s:Nat), .int .i64 (q.m:Nat), .int .i64 (q.e:Nat)] 218)).grownBy X5 (some (N+1))→X5.ownsRow N 218 3 (.slice (some ⟨N+1,0,none⟩) (k+1) 64) (k+1) (Mg.flat (tk L d i rest k)++ [.int .i64 (q.s:Nat), .int .i64 (q.m:Nat), .int .i64 (q.e:Nat)])→X6=X5.setCell ⟨Q,0,none⟩ (.slice (some ⟨N+1,0,none⟩) (k+1) 64)→Kept (fun b=>b<Q+5) X2 X6∧SB N Q w T L C d i rest (k+1) X6 from fun X5 X6 g5 o5 e6=>by
    have k5:Kept (fun x=>x=N+1) X2 X5:=(Kept.of_below (F:=fun x=>x=N+1) (grown1 X2 _)).trans (Kept.of_grown (F:=fun x=>x=N+1) g5 (fun j e=>by cases e;rfl)) (fun _ _ z=>z)
    have k6:Kept (fun x=>x=Q) X5 X6:=by rw[e6];exact kept_set (F:=fun x=>x=Q) X5 Q 0 _ rfl
    have kk:Kept (fun x=>x=N+1∨x=Q) X2 X6:=(k5.mono (G:=fun x=>x=N+1∨x=Q) (fun _ z=> .inl z)).trans (k6.mono (G:=fun x=>x=N+1∨x=Q) (fun _ z=> .inr z)) (fun _ _ z=>z)
    refine ⟨kk.mono (fun x hx=>by omega),below_kept I3.out.be kk (fun x hx=>by omega) (by have:=I3.out.rs.lt;omega),I3.out.rs.kept kk (by omega),?_,?_,I3.out.rd.kept R0.out kk (fun x hx=>by rw[HN.out];omega)⟩
    ·rw[tk_succ,HQQ.out,flat_snoc]
     exact owns_kept o5 (fun x hx=>by
      have e:N+1=x:=by simpa [Value.ownBlock] using hx
      exact k6.block x (by have:=(o5.lt (N+1) rfl).2;omega) (by omega))
    ·have:=(I3.out.var.kept k5 (by omega)).set 0 (.slice (some ⟨N+1,0,none⟩) (k+1) 64)
     rw[e6];exact this)
   clear kp hX2 HI F2 B1 F1
   gi_wp2_with (gi_at_builtin;refine wpListIn_append_fits _ rfl _ _ 376 rfl N 218 i0 3 Tryz.underlying376 hi0 hz1 (N+1) k 64 _ rfl (OW.out.alloc _) ⟨X2.heap.size,0,none⟩ 1 1 [.int .i64 (q.s:Nat), .int .i64 (q.m:Nat), .int .i64 (q.e:Nat)] rfl rfl (World.news_of_block (heap_alloc_new _ _)) (by intro u hu;simp at hu;rcases hu with rfl|rfl|rfl<;>rfl) hk64 (fun X5 o5 g5=> ?_);have O5:=hide o5;have G5:=hide g5;have l5:Q<X5.heap.size:=(Nat.lt_of_lt_of_le (by simp;omega) g5.size);have z5:X5.frozen? ⟨Q,0,none⟩=false:=(World.frozen?_of_block (a:=⟨Q,0,none⟩) ((g5.block Q (by simp;omega) (by simp;omega)).trans (Below.heap_alloc _ _ _ lv))).trans (I3.out.var.fz 0);have y5:X5.cell? ⟨Q,0,none⟩=some (.slice (some ⟨N+1,0,none⟩) k 64):=(World.cell?_of_block (a:=⟨Q,0,none⟩) ((g5.block Q (by simp;omega) (by simp;omega)).trans (Below.heap_alloc _ _ _ lv))).trans vv;clear o5 g5)
   exact NX.out _ _ G5.out O5.out rfl
  case done=>
   rintro X h hdf
   rw[sZ] at hdf ⊢
   have HI:=hide h
   have HD:=hide hdf
   have hp:=sz_pos (d+1)
   have p21:sz (d+1)≤2097152:=by
    have:d=1∨d=2∨d=3∨d=4∨d=5:=by omega
    rcases this with rfl|rfl|rfl|rfl|rfl<;>decide
   obtain ⟨F,hF⟩:∃F,fan d=F:=⟨_,rfl⟩
   have LD:∀Y,Below X.heap.size X Y→Y.cell? ⟨Q,0,none⟩=some (.slice (some ⟨N+1,0,none⟩) F 64):=fun Y hY=>by rw[←hF];exact ((h.var.below hY).cell 0 _ rfl)
   have mgr:=mg_rows (st:=st) (a:=i * sz d) hp (X:=fun j=>row L (d+1) (fan d * i+j) rest) (fan d) (fun j hj=>by
    have:=HS.out j hj
    rw[show (fan d * i+j) * sz (d+1)=i * sz d+sz (d+1) * j by rw[sz_fan d hd,Nat.add_mul,Nat.mul_comm j,←Nat.mul_assoc,Nat.mul_comm i]] at this
    exact this)
   obtain ⟨s,m,e,hmg,hsum⟩:=mgr
   rw[show sz (d+1) * fan d=sz d by rw[sz_fan d hd,Nat.mul_comm]] at hsum
   have hmg2:mg ((sz (d+1):Nat):Int) (Mg.nth (tk L d i rest (fan d))) (fan d)=⟨(s:Nat),(m:Nat),(e:Nat)⟩:=by
    rw[←hmg];exact mg_congr _ (fun j hj=>tk_at L d i rest (fan d) hj)
   have rr:Mg.RR (tk L d i rest (fan d)) ((sz (d+1):Nat):Int):=⟨by omega,by omega,by rw[tk_len];exact fd,fun j hj=>by
    rw[tk_len] at hj
    rw[tk_at L d i rest (fan d) hj]
    exact su_rgt hp (HS.out j hj)⟩
   have CM:=fun Y (hY:Below X.heap.size X Y)=>hide (show Calls Tryz.prog 296 #[.slice (some ⟨N+1,0,none⟩) F 64, .int .i64 ((sz (d+1):Nat):Int)] Y fun e' w'=>e'= .returned (.tuple #[.agg #[.int .i64 (s:Nat), .int .i64 (m:Nat), .int .i64 (e:Nat)], .int .i64 0])∧Below Y.heap.size Y w' from by
    have oo:=owns_kept h.own (w':=Y) (fun x hx=>hY.block x (h.own.lt x hx).2)
    have sa:=Mg.sums_of_owns (t:=tk L d i rest (fan d)) oo
    rw[hF] at sa
    refine (Mg.merge_core sa.1 _).mono ?_
    rintro e' w' ⟨q1,_,q3⟩
    rw[←hF] at q1
    refine ⟨?_,q3⟩
    rw[q1 rr,tk_len,hmg2];rfl)
   have CS:=fun Y hY=>hide (size_any (d+1) (by omega) Y hY)
   have HTB:=hide h.rd.rad.tab
   have FIN:=hide (show ∀X',Below N w X'→R (.returned (sumV (s:Nat) (m:Nat) (e:Nat))) X' from fun X' hX=>by
    rw[HR.out];exact ⟨⟨s,m,e,rfl,fun _=>hsum⟩,by rw[HN.out];exact hX⟩)
   obtain ⟨P,hP⟩:∃P:Nat,sz (d+1)=P:=⟨_,rfl⟩
   rw[hP] at CM CS p21 hp
   rw[show ((d+1:Nat):Int)=(d:Int)+1 from rfl] at CS
   have hwr:IntKind.i64.wrap ((d:Int)+1)=(d:Int)+1:=by rw[IntKind.wrap_i64];omega
   have hwp:IntKind.i64.wrap (P:Int)=(P:Int):=by rw[IntKind.wrap_i64];omega
   clear h hdf hmg hmg2 rr hsum
   gi_wp2_with fail
   refine norm_only ?_
   refine region_held (ro:=none) (S:=fun Y=>Below X.heap.size X Y) (by kernel_rfl) (by kernel_rfl) ?_
   have hHeld:Below X.heap.size X X.drew:=drew_below _
   refine wpAnyH_take (i:=0) (oi:=_) (v:= ?_) rfl (by kernel_rfl) (by kernel_rfl) (by kernel_rfl) (fun _ _ _ h=>by cases h.2.1) (Or.inl ⟨by rfl,?_⟩) (by assumption) ?_
   rotate_left
   ·(intro Y hSw;have lk:=LD Y hSw;go_simp;try with_reducible rfl)
   try simp only[Act.put,List.setIfInBounds_toArray,List.set_cons_zero,List.set_cons_succ]
   refine wpAnyH_take (i:=1) (oi:=_) (v:= ?_) rfl (by kernel_rfl) (by kernel_rfl) (by kernel_rfl) (fun _ _ _ h=>by cases h.2.1) (Or.inl ⟨by rfl,?_⟩) (by assumption) ?_
   rotate_left
   ·(intro Y hSw;have lk:=LD Y hSw;go_simp;try with_reducible rfl)
   try simp only[Act.put,List.setIfInBounds_toArray,List.set_cons_zero,List.set_cons_succ]
   refine wpAnyH_take (i:=2) (oi:=_) (v:= ?_) rfl (by kernel_rfl) (by kernel_rfl) (by kernel_rfl) (fun _ _ _ h=>by cases h.2.1) (Or.inl ⟨by rfl,?_⟩) (by assumption) ?_
   rotate_left
   ·(intro Y hSw;have lk:=LD Y hSw;go_simp;try with_reducible rfl)
   try simp only[Act.put,List.setIfInBounds_toArray,List.set_cons_zero,List.set_cons_succ]
   refine wpAnyH_ready (rs:=[3,9]) (by kernel_rfl) (by simp) ?_
   refine AllReadyH.cons (o:=⟨some 34,_,_,_,_,_⟩) rfl (fun K hK=> ?_) (AllReadyH.cons (o:=⟨some 12,_,_,_,_,_⟩) rfl (fun K hK=> ?_) AllReadyH.nil)
   ·go_simp
    refine (CS _ (HTB.out.below hHeld)).out.mono ?_
    rintro e' w' ⟨rfl,rfl⟩
    refine hK.out _ _ hHeld (fun hHeld=> ?_)
    clear hK K
    try simp only[Act.put,List.setIfInBounds_toArray,List.set_cons_zero,List.set_cons_succ]
    refine wpAnyH_take (i:=4) (oi:=_) (v:= ?_) rfl (by kernel_rfl) (by kernel_rfl) (by kernel_rfl) (fun _ _ _ h=>by cases h.2.1) (Or.inl ⟨by rfl,?_⟩) (by assumption) ?_
    rotate_left
    ·(intro Y hSw;have lk:=LD Y hSw;go_simp;try with_reducible rfl)
    try simp only[Act.put,List.setIfInBounds_toArray,List.set_cons_zero,List.set_cons_succ]
    refine wpAnyH_ready (rs:=[5,9]) (by kernel_rfl) (by simp) ?_
    refine AllReadyH.cons (o:=⟨some 36,_,_,_,_,_⟩) rfl (fun K hK=> ?_) (AllReadyH.cons (o:=⟨some 12,_,_,_,_,_⟩) rfl (fun K hK=> ?_) AllReadyH.nil)
    ·go_simp
     refine (CM _ hHeld).out.mono ?_
     rintro e' Ym ⟨rfl,bm⟩
     have BM:=hide bm
     refine hK.out _ _ (hHeld.trans (bm.mono hHeld.size)) (fun hHeld=> ?_)
     clear hK K bm
     try simp only[Act.put,List.setIfInBounds_toArray,List.set_cons_zero,List.set_cons_succ]
     refine wpAnyH_take (i:=6) (oi:=_) (v:= ?_) rfl (by kernel_rfl) (by kernel_rfl) (by kernel_rfl) (fun _ _ _ h=>by cases h.2.1) (Or.inl ⟨by rfl,?_⟩) (by assumption) ?_
     rotate_left
     ·(intro Y hSw;have lk:=LD Y hSw;go_simp;try with_reducible rfl)
     try simp only[Act.put,List.setIfInBounds_toArray,List.set_cons_zero,List.set_cons_succ]
     refine wpAnyH_take (i:=7) (oi:=_) (v:= ?_) rfl (by kernel_rfl) (by kernel_rfl) (by kernel_rfl) (fun _ _ _ h=>by cases h.2.1) (Or.inl ⟨by rfl,?_⟩) (by assumption) ?_
     rotate_left
     ·(intro Y hSw;have lk:=LD Y hSw;go_simp;try with_reducible rfl)
     try simp only[Act.put,List.setIfInBounds_toArray,List.set_cons_zero,List.set_cons_succ]
     refine wpAnyH_take (i:=8) (oi:=_) (v:= ?_) rfl (by kernel_rfl) (by kernel_rfl) (by kernel_rfl) (fun _ _ _ h=>by cases h.2.1) (Or.inl ⟨by rfl,?_⟩) (by assumption) ?_
     rotate_left
     ·(intro Y hSw;have lk:=LD Y hSw;go_simp;try with_reducible rfl)
     try simp only[Act.put,List.setIfInBounds_toArray,List.set_cons_zero,List.set_cons_succ]
     obtain ⟨p,hp'⟩:∃p,Ym.heap.size=p:=⟨_,rfl⟩
     obtain ⟨V,hV⟩:∃V,Ym.alloc (.cells #[.int .i64 0, .int .i64 0, .int .i64 0] 218)=V:=⟨_,rfl⟩
     have VP:=hide (show Bk V p 218 #[.int .i64 0, .int .i64 0, .int .i64 0] from by rw[←hV,←hp'];exact World.alloc_heap_new Ym _)
     have hpX:X.heap.size≤p:=by rw[←hp'];exact hHeld.size
     have BV:=hide (show Below X.heap.size X V from by rw[←hV];exact hHeld.alloc hHeld.size _)
     refine wpAnyH_ready (rs:=[9]) (by kernel_rfl) (by simp) ?_
     refine AllReadyH.cons (o:=⟨some 12,_,_,_,_,_⟩) rfl (fun K hK=> ?_) AllReadyH.nil
     go_simp
     (try rw[hp'])
     (try rw[hV])
     refine hK.out _ _ BV.out (fun hHeld=> ?_)
     clear hK K
     try simp only[Act.put,List.setIfInBounds_toArray,List.set_cons_zero,List.set_cons_succ]
     clear hV hp'
     have x0:=VP.out.cell 0 _ rfl
     have x1:=VP.out.cell 1 _ rfl
     have x2:=VP.out.cell 2 _ rfl
     have f0:=VP.out.fz 0
     have f1:=VP.out.fz 1
     have f2:=VP.out.fz 2
     have lp:=VP.out.lt
     obtain ⟨V3,hV3⟩:∃V3,((V.setCell ⟨p,0,none⟩ (.int .i64 (s:Nat))).setCell ⟨p,1,none⟩ (.int .i64 (m:Nat))).setCell ⟨p,2,none⟩ (.int .i64 (e:Nat))=V3:=⟨_,rfl⟩
     have b3:Below X.heap.size X V3:=by
      rw[←hV3]
      exact ((BV.out.setCell (p:=⟨p,0,none⟩) hpX _).setCell (p:=⟨p,1,none⟩) hpX _).setCell (p:=⟨p,2,none⟩) hpX _
     have P3:Bk V3 p 218 #[.int .i64 (s:Nat), .int .i64 (m:Nat), .int .i64 (e:Nat)]:=by rw[←hV3];exact ((VP.out.set 0 _).set 1 _).set 2 _
     have N3:=HI.out.rs.below b3
     have B3:=hide b3
     have PP:=hide P3
     have NN:=hide N3
     have y0:=P3.cell 0 _ rfl
     have y1:=P3.cell 1 _ rfl
     have y2:=P3.cell 2 _ rfl
     have n0:=N3.cell 0 _ rfl
     have n1:=N3.cell 1 _ rfl
     have n2:=N3.cell 2 _ rfl
     have g0:=N3.fz 0
     have g1:=N3.fz 1
     have g2:=N3.fz 2
     clear b3 P3 N3
     refine wpAnyH_ready (rs:=[10]) (by kernel_rfl) (by simp) ?_
     refine AllReadyH.cons (o:=⟨none,_,_,_,_,_⟩) rfl (fun K hK=> ?_) AllReadyH.nil
     go_simp
     (try rw[hV3])
     refine hK.out _ _ B3.out (fun hHeld=> ?_)
     clear hK K
     try simp only[Act.put,List.setIfInBounds_toArray,List.set_cons_zero,List.set_cons_succ]
     refine wpAnyH_ready (rs:=[11]) (by kernel_rfl) (by simp) ?_
     refine AllReadyH.cons (o:=⟨some 13,_,_,_,_,_⟩) rfl (fun K hK=> ?_) AllReadyH.nil
     go_simp
     refine hK.out _ _ B3.out (fun hHeld=> ?_)
     clear hK K
     try simp only[Act.put,List.setIfInBounds_toArray,List.set_cons_zero,List.set_cons_succ]
     refine wpAnyH_done (by kernel_rfl) ⟨(fun z=>by cases z),rfl,?_⟩ _
     clear hV3 x0 x1 x2 f0 f1 f2 lp hHeld LD CM CS
     gi_wp2_with fail
     have fin:=((NN.out.set 0 (.int .i64 (s:Nat))).set 1 (.int .i64 (m:Nat))).set 2 (.int .i64 (e:Nat))
     have d3:V3.heap[Q+5]? =some (.deferred (some [])):=(B3.out.block (Q+5) (Array.getElem?_eq_some_iff.1 HD.out).1).trans HD.out
     have ks:=((kept_set (F:=fun b=>b=N) V3 N 0 (.int .i64 (s:Nat)) rfl).trans (kept_set (F:=fun b=>b=N) _ N 1 (.int .i64 (m:Nat)) rfl) (fun _ _ z=>z)).trans (kept_set (F:=fun b=>b=N) _ N 2 (.int .i64 (e:Nat)) rfl) (fun _ _ z=>z)
     have hd4:=kept_at ks d3 (by omega)
     refine ⟨by simp, .inl ⟨_,_,rfl,run_takeDeferred hd4,?_⟩⟩
     have kz:=Kept.put (F:=fun b=>b=Q+5) (((V3.setCell ⟨N,0,none⟩ (.int .i64 (s:Nat))).setCell ⟨N,1,none⟩ (.int .i64 (m:Nat))).setCell ⟨N,2,none⟩ (.int .i64 (e:Nat))) (Q+5) (.deferred none) rfl
     have b0:=below_kept (below_kept (HI.out.be.trans (B3.out.mono (by have:=HI.out.rs.lt;omega))) ks (fun x hx=>by omega) (by have:=NN.out.lt;omega)) kz (fun x hx=>by omega) (by have:=fin.lt;omega)
     exact ⟨_,results_c Tryz.results259 _ _ ⟨N,0,none⟩ _ rfl (sum3 (fin.kept kz (by omega))),FIN.out _ b0⟩
    ·go_simp
     refine hK.out _ _ (((grown1 X _)).drew) (fun hHeld=> ?_)
     clear hK K
     try simp only[Act.put,List.setIfInBounds_toArray,List.set_cons_zero,List.set_cons_succ]
     refine wpAnyH_ready (rs:=[5]) (by kernel_rfl) (by simp) ?_
     refine AllReadyH.cons (o:=⟨some 36,_,_,_,_,_⟩) rfl (fun K hK=> ?_) AllReadyH.nil
     go_simp
     refine (CM _ hHeld).out.mono ?_
     rintro e' Ym ⟨rfl,bm⟩
     have BM:=hide bm
     refine hK.out _ _ (hHeld.trans (bm.mono hHeld.size)) (fun hHeld=> ?_)
     clear hK K bm
     try simp only[Act.put,List.setIfInBounds_toArray,List.set_cons_zero,List.set_cons_succ]
     refine wpAnyH_take (i:=6) (oi:=_) (v:= ?_) rfl (by kernel_rfl) (by kernel_rfl) (by kernel_rfl) (fun _ _ _ h=>by cases h.2.1) (Or.inl ⟨by rfl,?_⟩) (by assumption) ?_
     rotate_left
     ·(intro Y hSw;have lk:=LD Y hSw;go_simp;try with_reducible rfl)
     try simp only[Act.put,List.setIfInBounds_toArray,List.set_cons_zero,List.set_cons_succ]
     refine wpAnyH_take (i:=7) (oi:=_) (v:= ?_) rfl (by kernel_rfl) (by kernel_rfl) (by kernel_rfl) (fun _ _ _ h=>by cases h.2.1) (Or.inl ⟨by rfl,?_⟩) (by assumption) ?_
     rotate_left
     ·(intro Y hSw;have lk:=LD Y hSw;go_simp;try with_reducible rfl)
     try simp only[Act.put,List.setIfInBounds_toArray,List.set_cons_zero,List.set_cons_succ]
     refine wpAnyH_take (i:=8) (oi:=_) (v:= ?_) rfl (by kernel_rfl) (by kernel_rfl) (by kernel_rfl) (fun _ _ _ h=>by cases h.2.1) (Or.inl ⟨by rfl,?_⟩) (by assumption) ?_
     rotate_left
     ·(intro Y hSw;have lk:=LD Y hSw;go_simp;try with_reducible rfl)
     try simp only[Act.put,List.setIfInBounds_toArray,List.set_cons_zero,List.set_cons_succ]
     obtain ⟨p,hp'⟩:∃p,X.heap.size=p:=⟨_,rfl⟩
     obtain ⟨V,hV⟩:∃V,Ym=V:=⟨_,rfl⟩
     have VP:=hide (show Bk V p 218 #[.int .i64 0, .int .i64 0, .int .i64 0] from by
      rw[←hV,←hp']
      exact Bk.below (W:=(X.alloc (.cells #[.int .i64 0, .int .i64 0, .int .i64 0] 218)).drew) (World.alloc_heap_new X _) BM.out)
     have hpX:X.heap.size≤p:=by omega
     have BV:=hide (show Below X.heap.size X V from by rw[←hV];exact hHeld)
     rw[hV] at *
     have x0:=VP.out.cell 0 _ rfl
     have x1:=VP.out.cell 1 _ rfl
     have x2:=VP.out.cell 2 _ rfl
     have f0:=VP.out.fz 0
     have f1:=VP.out.fz 1
     have f2:=VP.out.fz 2
     have lp:=VP.out.lt
     obtain ⟨V3,hV3⟩:∃V3,((V.setCell ⟨p,0,none⟩ (.int .i64 (s:Nat))).setCell ⟨p,1,none⟩ (.int .i64 (m:Nat))).setCell ⟨p,2,none⟩ (.int .i64 (e:Nat))=V3:=⟨_,rfl⟩
     have b3:Below X.heap.size X V3:=by
      rw[←hV3]
      exact ((BV.out.setCell (p:=⟨p,0,none⟩) hpX _).setCell (p:=⟨p,1,none⟩) hpX _).setCell (p:=⟨p,2,none⟩) hpX _
     have P3:Bk V3 p 218 #[.int .i64 (s:Nat), .int .i64 (m:Nat), .int .i64 (e:Nat)]:=by rw[←hV3];exact ((VP.out.set 0 _).set 1 _).set 2 _
     have N3:=HI.out.rs.below b3
     have B3:=hide b3
     have PP:=hide P3
     have NN:=hide N3
     have y0:=P3.cell 0 _ rfl
     have y1:=P3.cell 1 _ rfl
     have y2:=P3.cell 2 _ rfl
     have n0:=N3.cell 0 _ rfl
     have n1:=N3.cell 1 _ rfl
     have n2:=N3.cell 2 _ rfl
     have g0:=N3.fz 0
     have g1:=N3.fz 1
     have g2:=N3.fz 2
     clear b3 P3 N3
     refine wpAnyH_ready (rs:=[10]) (by kernel_rfl) (by simp) ?_
     refine AllReadyH.cons (o:=⟨none,_,_,_,_,_⟩) rfl (fun K hK=> ?_) AllReadyH.nil
     go_simp
     (try rw[hV3])
     refine hK.out _ _ B3.out (fun hHeld=> ?_)
     clear hK K
     try simp only[Act.put,List.setIfInBounds_toArray,List.set_cons_zero,List.set_cons_succ]
     refine wpAnyH_ready (rs:=[11]) (by kernel_rfl) (by simp) ?_
     refine AllReadyH.cons (o:=⟨some 13,_,_,_,_,_⟩) rfl (fun K hK=> ?_) AllReadyH.nil
     go_simp
     refine hK.out _ _ B3.out (fun hHeld=> ?_)
     clear hK K
     try simp only[Act.put,List.setIfInBounds_toArray,List.set_cons_zero,List.set_cons_succ]
     refine wpAnyH_done (by kernel_rfl) ⟨(fun z=>by cases z),rfl,?_⟩ _
     clear hV3 x0 x1 x2 f0 f1 f2 lp hHeld LD CM CS
     gi_wp2_with fail
     have fin:=((NN.out.set 0 (.int .i64 (s:Nat))).set 1 (.int .i64 (m:Nat))).set 2 (.int .i64 (e:Nat))
     have d3:V3.heap[Q+5]? =some (.deferred (some [])):=(B3.out.block (Q+5) (Array.getElem?_eq_some_iff.1 HD.out).1).trans HD.out
     have ks:=((kept_set (F:=fun b=>b=N) V3 N 0 (.int .i64 (s:Nat)) rfl).trans (kept_set (F:=fun b=>b=N) _ N 1 (.int .i64 (m:Nat)) rfl) (fun _ _ z=>z)).trans (kept_set (F:=fun b=>b=N) _ N 2 (.int .i64 (e:Nat)) rfl) (fun _ _ z=>z)
     have hd4:=kept_at ks d3 (by omega)
     refine ⟨by simp, .inl ⟨_,_,rfl,run_takeDeferred hd4,?_⟩⟩
     have kz:=Kept.put (F:=fun b=>b=Q+5) (((V3.setCell ⟨N,0,none⟩ (.int .i64 (s:Nat))).setCell ⟨N,1,none⟩ (.int .i64 (m:Nat))).setCell ⟨N,2,none⟩ (.int .i64 (e:Nat))) (Q+5) (.deferred none) rfl
     have b0:=below_kept (below_kept (HI.out.be.trans (B3.out.mono (by have:=HI.out.rs.lt;omega))) ks (fun x hx=>by omega) (by have:=NN.out.lt;omega)) kz (fun x hx=>by omega) (by have:=fin.lt;omega)
     exact ⟨_,results_c Tryz.results259 _ _ ⟨N,0,none⟩ _ rfl (sum3 (fin.kept kz (by omega))),FIN.out _ b0⟩
   ·go_simp
    refine hK.out _ _ (((grown1 X _)).drew) (fun hHeld=> ?_)
    clear hK K
    try simp only[Act.put,List.setIfInBounds_toArray,List.set_cons_zero,List.set_cons_succ]
    refine wpAnyH_ready (rs:=[3]) (by kernel_rfl) (by simp) ?_
    refine AllReadyH.cons (o:=⟨some 34,_,_,_,_,_⟩) rfl (fun K hK=> ?_) AllReadyH.nil
    go_simp
    refine (CS _ (HTB.out.below hHeld)).out.mono ?_
    rintro e' w' ⟨rfl,rfl⟩
    refine hK.out _ _ hHeld (fun hHeld=> ?_)
    clear hK K
    try simp only[Act.put,List.setIfInBounds_toArray,List.set_cons_zero,List.set_cons_succ]
    refine wpAnyH_take (i:=4) (oi:=_) (v:= ?_) rfl (by kernel_rfl) (by kernel_rfl) (by kernel_rfl) (fun _ _ _ h=>by cases h.2.1) (Or.inl ⟨by rfl,?_⟩) (by assumption) ?_
    rotate_left
    ·(intro Y hSw;have lk:=LD Y hSw;go_simp;try with_reducible rfl)
    try simp only[Act.put,List.setIfInBounds_toArray,List.set_cons_zero,List.set_cons_succ]
    refine wpAnyH_ready (rs:=[5]) (by kernel_rfl) (by simp) ?_
    refine AllReadyH.cons (o:=⟨some 36,_,_,_,_,_⟩) rfl (fun K hK=> ?_) AllReadyH.nil
    go_simp
    refine (CM _ hHeld).out.mono ?_
    rintro e' Ym ⟨rfl,bm⟩
    have BM:=hide bm
    refine hK.out _ _ (hHeld.trans (bm.mono hHeld.size)) (fun hHeld=> ?_)
    clear hK K bm
    try simp only[Act.put,List.setIfInBounds_toArray,List.set_cons_zero,List.set_cons_succ]
    refine wpAnyH_take (i:=6) (oi:=_) (v:= ?_) rfl (by kernel_rfl) (by kernel_rfl) (by kernel_rfl) (fun _ _ _ h=>by cases h.2.1) (Or.inl ⟨by rfl,?_⟩) (by assumption) ?_
    rotate_left
    ·(intro Y hSw;have lk:=LD Y hSw;go_simp;try with_reducible rfl)
    try simp only[Act.put,List.setIfInBounds_toArray,List.set_cons_zero,List.set_cons_succ]
    refine wpAnyH_take (i:=7) (oi:=_) (v:= ?_) rfl (by kernel_rfl) (by kernel_rfl) (by kernel_rfl) (fun _ _ _ h=>by cases h.2.1) (Or.inl ⟨by rfl,?_⟩) (by assumption) ?_
    rotate_left
    ·(intro Y hSw;have lk:=LD Y hSw;go_simp;try with_reducible rfl)
    try simp only[Act.put,List.setIfInBounds_toArray,List.set_cons_zero,List.set_cons_succ]
    refine wpAnyH_take (i:=8) (oi:=_) (v:= ?_) rfl (by kernel_rfl) (by kernel_rfl) (by kernel_rfl) (fun _ _ _ h=>by cases h.2.1) (Or.inl ⟨by rfl,?_⟩) (by assumption) ?_
    rotate_left
    ·(intro Y hSw;have lk:=LD Y hSw;go_simp;try with_reducible rfl)
    try simp only[Act.put,List.setIfInBounds_toArray,List.set_cons_zero,List.set_cons_succ]
    obtain ⟨p,hp'⟩:∃p,X.heap.size=p:=⟨_,rfl⟩
    obtain ⟨V,hV⟩:∃V,Ym=V:=⟨_,rfl⟩
    have VP:=hide (show Bk V p 218 #[.int .i64 0, .int .i64 0, .int .i64 0] from by
     rw[←hV,←hp']
     exact Bk.below (W:=(X.alloc (.cells #[.int .i64 0, .int .i64 0, .int .i64 0] 218)).drew) (World.alloc_heap_new X _) BM.out)
    have hpX:X.heap.size≤p:=by omega
    have BV:=hide (show Below X.heap.size X V from by rw[←hV];exact hHeld)
    rw[hV] at *
    have x0:=VP.out.cell 0 _ rfl
    have x1:=VP.out.cell 1 _ rfl
    have x2:=VP.out.cell 2 _ rfl
    have f0:=VP.out.fz 0
    have f1:=VP.out.fz 1
    have f2:=VP.out.fz 2
    have lp:=VP.out.lt
    obtain ⟨V3,hV3⟩:∃V3,((V.setCell ⟨p,0,none⟩ (.int .i64 (s:Nat))).setCell ⟨p,1,none⟩ (.int .i64 (m:Nat))).setCell ⟨p,2,none⟩ (.int .i64 (e:Nat))=V3:=⟨_,rfl⟩
    have b3:Below X.heap.size X V3:=by
     rw[←hV3]
     exact ((BV.out.setCell (p:=⟨p,0,none⟩) hpX _).setCell (p:=⟨p,1,none⟩) hpX _).setCell (p:=⟨p,2,none⟩) hpX _
    have P3:Bk V3 p 218 #[.int .i64 (s:Nat), .int .i64 (m:Nat), .int .i64 (e:Nat)]:=by rw[←hV3];exact ((VP.out.set 0 _).set 1 _).set 2 _
    have N3:=HI.out.rs.below b3
    have B3:=hide b3
    have PP:=hide P3
    have NN:=hide N3
    have y0:=P3.cell 0 _ rfl
    have y1:=P3.cell 1 _ rfl
    have y2:=P3.cell 2 _ rfl
    have n0:=N3.cell 0 _ rfl
    have n1:=N3.cell 1 _ rfl
    have n2:=N3.cell 2 _ rfl
    have g0:=N3.fz 0
    have g1:=N3.fz 1
    have g2:=N3.fz 2
    clear b3 P3 N3
    refine wpAnyH_ready (rs:=[10]) (by kernel_rfl) (by simp) ?_
    refine AllReadyH.cons (o:=⟨none,_,_,_,_,_⟩) rfl (fun K hK=> ?_) AllReadyH.nil
    go_simp
    (try rw[hV3])
    refine hK.out _ _ B3.out (fun hHeld=> ?_)
    clear hK K
    try simp only[Act.put,List.setIfInBounds_toArray,List.set_cons_zero,List.set_cons_succ]
    refine wpAnyH_ready (rs:=[11]) (by kernel_rfl) (by simp) ?_
    refine AllReadyH.cons (o:=⟨some 13,_,_,_,_,_⟩) rfl (fun K hK=> ?_) AllReadyH.nil
    go_simp
    refine hK.out _ _ B3.out (fun hHeld=> ?_)
    clear hK K
    try simp only[Act.put,List.setIfInBounds_toArray,List.set_cons_zero,List.set_cons_succ]
    refine wpAnyH_done (by kernel_rfl) ⟨(fun z=>by cases z),rfl,?_⟩ _
    clear hV3 x0 x1 x2 f0 f1 f2 lp hHeld LD CM CS
    gi_wp2_with fail
    have fin:=((NN.out.set 0 (.int .i64 (s:Nat))).set 1 (.int .i64 (m:Nat))).set 2 (.int .i64 (e:Nat))
    have d3:V3.heap[Q+5]? =some (.deferred (some [])):=(B3.out.block (Q+5) (Array.getElem?_eq_some_iff.1 HD.out).1).trans HD.out
    have ks:=((kept_set (F:=fun b=>b=N) V3 N 0 (.int .i64 (s:Nat)) rfl).trans (kept_set (F:=fun b=>b=N) _ N 1 (.int .i64 (m:Nat)) rfl) (fun _ _ z=>z)).trans (kept_set (F:=fun b=>b=N) _ N 2 (.int .i64 (e:Nat)) rfl) (fun _ _ z=>z)
    have hd4:=kept_at ks d3 (by omega)
    refine ⟨by simp, .inl ⟨_,_,rfl,run_takeDeferred hd4,?_⟩⟩
    have kz:=Kept.put (F:=fun b=>b=Q+5) (((V3.setCell ⟨N,0,none⟩ (.int .i64 (s:Nat))).setCell ⟨N,1,none⟩ (.int .i64 (m:Nat))).setCell ⟨N,2,none⟩ (.int .i64 (e:Nat))) (Q+5) (.deferred none) rfl
    have b0:=below_kept (below_kept (HI.out.be.trans (B3.out.mono (by have:=HI.out.rs.lt;omega))) ks (fun x hx=>by omega) (by have:=NN.out.lt;omega)) kz (fun x hx=>by omega) (by have:=fin.lt;omega)
    exact ⟨_,results_c Tryz.results259 _ _ ⟨N,0,none⟩ _ rfl (sum3 (fin.kept kz (by omega))),FIN.out _ b0⟩
end Go.Proofs.YtdgdhnnakcncoaaGreatDoor
