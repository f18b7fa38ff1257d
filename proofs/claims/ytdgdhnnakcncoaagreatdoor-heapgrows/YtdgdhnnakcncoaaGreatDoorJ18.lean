/- Of the proof of HeapClasses: texts RXu. -/
import Derived.Test.YtdgdhnnakcncoaaGreatDoorJ17
namespace Go.Proofs.YtdgdhnnakcncoaaGreatDoor
set_option maxHeartbeats 1600000
open Go.ChangeShapes Go.WideShapes Go.ChangeAt Go.RowKit Go.Proofs.Bt Go.Shelf Go.Proofs.Rx Go.Maps Go.Proofs.Pk
set_option linter.unusedVariables false
set_option linter.unusedSimpArgs false
def Mono (st:Nat→Nat) (a b:Nat):Prop:=(∀q,a≤q→q<b→st q=1)∨(∀q,a≤q→q<b→2≤st q)∨(512∣a∧512∣b)
def NewC (N:Nat) (C C':Ch):Prop:=∀j b c,C' j=some (b,c)→(∃c0,C j=some (b,c0))∨N≤b
theorem NewC.refl (N:Nat) (C:Ch):NewC N C C:=fun j b c h=> .inl ⟨c,h⟩
theorem NewC.trans {N M:Nat} {C C' C'':Ch} (h:NewC N C C') (k:NewC M C' C'') (hM:N≤M):NewC N C C'':=fun j b c hc=>by
 rcases k j b c hc with ⟨c0,e⟩|e
 ·exact h j b c0 e
 ·exact .inr (by omega)
theorem NewC.mono {N M:Nat} {C C':Ch} (h:NewC N C C') (hM:M≤N):NewC M C C':=fun j b c hc=>(h j b c hc).imp id (fun e=>by omega)
theorem NewC.wr {N:Nat} {T:Tid} {C C':Ch} (h:NewC N C C') {x:Nat} (hx:Wr T C' x):Wr T C x∨N≤x:=by
 rcases hx with e|⟨d,hd,e⟩|⟨j,b,c,hc,e⟩
 ·exact .inl (.inl e)
 ·exact .inl (.inr (.inl ⟨d,hd,e⟩))
 ·rcases h j b c hc with ⟨c0,e0⟩|e0
  ·exact .inl (.inr (.inr ⟨j,b,c0,e0,e⟩))
  ·exact .inr (by omega)
theorem NewC.foot {N:Nat} {w:World} {T:Tid} {L:Lv} {C C':Ch} (h:NewC N C C') (h0:RadAt w T L C) {x:Nat} (hx:Foot T C' x):x<w.heap.size∨N≤x:=by
 rcases hx with hx|hx
 ·rcases h.wr hx with z|z
  ·exact .inl (h0.lt (.inl z))
  ·exact .inr z
 ·exact .inl (h0.lt (.inr hx))
theorem RadAt.base_le {w:World} {T:Tid} {L:Lv} {C:Ch} (h:RadAt w T L C) {x:Nat} (hx:w.heap.size≤x):T.B≤x:=by
 have:=h.base T.tb (.inr (.inl rfl))
 have:=h.lt (x:=T.tb) (.inr (.inl rfl))
 omega
theorem RadAt.not_deferred {w:World} {T:Tid} {L:Lv} {C:Ch} (h:RadAt w T L C) {x:Nat} {o:Option (List Deferred)} (hx:w.heap[x]? =some (.deferred o)):¬Foot T C x:=by
 have nc:∀{b k v},w.cell? ⟨b,k,none⟩=some v→b≠x:=fun {b k v} hc e=>by
  subst e
  unfold World.cell? at hc
  rw[hx] at hc
  simp at hc
 rintro ((e|⟨d,hd,e⟩|⟨j,b,c,hc,e⟩)|e|e)
 ·obtain ⟨_,_,⟨es,ck,h1,_⟩,_⟩:=h.cm
  rw[←e,hx] at h1;cases h1
 ·obtain ⟨_,_,⟨es,ck,h1,_⟩,_⟩:=h.mp d hd
  rw[←e,hx] at h1;cases h1
 ·obtain ⟨g,h1,h2⟩:=(h.ch j b c hc).row.used
  exact nc (h1.cell 0 (by omega)) e.symm
 ·exact nc h.c0 e.symm
 ·exact nc (h.lv 0 (by omega)) e.symm
def SetP (T:Tid) (L:Lv) (C:Ch) (st:Nat→Nat) (n d i:Nat) (w:World) (e:Ending) (w':World):Prop:=
 ∃r' L' C',e= .returned (rwV r')∧RadAt w' T L' C'∧Rx.Good L' C' st n d i r'∧Outs d (i * sz d) ((i+1) * sz d) L L' C C'∧NewC w.heap.size C C'∧Kept (Wr T C) w w'
def SetOk (T:Tid) (n d:Nat):Prop:=
 ∀(w:World) (L:Lv) (C:Ch) (st:Nat→Nat),RadAt w T L C→Four st→∀(i:Nat) (r:Rw) (a b s:Nat),Rx.Good L C st n d i r→(i+1) * sz d≤34359738368→a<b→b≤34359738368→a<(i+1) * sz d→i * sz d<b→1≤s∧s≤3→
  Mono st (max a (i * sz d)) (min b ((i+1) * sz d))→
  Calls Tryz.prog 201 #[tp T, .int .i64 (d:Nat), .int .u64 (i:Nat),rwV r,spanV a b, .int .i64 (s:Nat)] w (SetP T L C (setSt st (max a (i * sz d)) (min b ((i+1) * sz d)) s) n d i w)
theorem setSt_more {st:Nat→Nat} {a u v s:Nat} (h1:a≤u) (h2:u≤v):setSt (setSt st a u s) u v s=setSt st a v s:=by
 funext q
 unfold setSt
 by_cases z:u≤q∧q<v
 ·rw[if_pos z,if_pos (by omega)]
 ·rw[if_neg z]
  by_cases y:a≤q∧q<u
  ·rw[if_pos y,if_pos (by omega)]
  ·rw[if_neg y,if_neg (by omega)]
theorem setSt_none {st:Nat→Nat} {a s:Nat}:setSt st a a s=st:=by
 funext q
 unfold setSt
 rw[if_neg (by omega)]
theorem tl_swap {st st':Nat→Nat} {A n K z:Nat} (h1:A≤K) (h2:K+z≤A+n) (hs:∀q,A≤q→q<A+n→¬(K≤q∧q<K+z)→st q=st' q):
 tl st' A n=((tl st A n).sub (tl st K z)).add (tl st' K z)∧((tl st K z).p≤(tl st A n).p∧(tl st K z).f≤(tl st A n).f∧(tl st K z).r≤(tl st A n).r):=by
 obtain ⟨x,hx⟩:∃x,K=A+x:=⟨K - A,by omega⟩
 obtain ⟨y,hy⟩:∃y,n=x+(z+y):=⟨n - x - z,by omega⟩
 subst hx hy
 have e1:=tl_add st A x (z+y)
 have e2:=tl_add st (A+x) z y
 have e3:=tl_add st' A x (z+y)
 have e4:=tl_add st' (A+x) z y
 have c1:tl st A x=tl st' A x:=tl_congr fun q q1 q2=>hs q q1 (by omega) (by omega)
 have c2:tl st (A+x+z) y=tl st' (A+x+z) y:=tl_congr fun q q1 q2=>hs q (by omega) (by omega) (by omega)
 rw[e1,e2,e3,e4,c1,c2]
 unfold Tl.add Tl.sub
 dsimp only
 refine ⟨?_,by omega,by omega,by omega⟩
 congr 1<;>omega
structure SInv (L:Lv) (C:Ch) (n d i rest:Nat) (st:Nat→Nat) (L':Lv) (C':Ch) (t:Tl):Prop where
 outs:Outs d (i * sz d) ((i+1) * sz d) L L' C C'
 kids:∀j,fan d * i≤j→j<fan d *(i+1)→Rx.Good L' C' st n (d+1) j (row L' (d+1) j rest)
 tal:t=tl st (i * sz d) (sz d)
theorem SInv.zero {L:Lv} {C:Ch} {st:Nat→Nat} {n d i:Nat} {r:Rw} (h:Rx.Good L C st (n+1) d i r):SInv L C n d i r.rest st L C r.t:=⟨Outs.refl _ _ _ _ _,fun j h0 h1=>h.kid h0 h1,h.fact.1⟩
theorem SInv.step {L L1 L2:Lv} {C C1 C2:Ch} {n d i rest j:Nat} {st st2:Nat→Nat} {t:Tl} {r2:Rw} {o:Option Rw} (hn:n+(d+1)=6) (h:SInv L C n d i rest st L1 C1 t) (h0:fan d * i≤j) (h1:j<fan d *(i+1))
 (hs:∀q,¬(j * sz (d+1)≤q∧q<(j+1) * sz (d+1))→st q=st2 q) (ho:Outs (d+1) (j * sz (d+1)) ((j+1) * sz (d+1)) L1 L2 C1 C2) (hg:Rx.Good L2 C2 st2 n (d+1) j r2) (he:o.getD (Rx.even (d+1) rest)=r2):
 SInv L C n d i rest st2 (putL L2 (d+1) j o) C2 ((t.sub (row L1 (d+1) j rest).t).add r2.t):=by
 have hi:=kid_ins (d:=d) (i:=i) (k:=j) (by omega) h0 h1
 have e1:(i+1) * sz d=i * sz d+sz d:=Nat.succ_mul _ _
 have e2:(j+1) * sz (d+1)=j * sz (d+1)+sz (d+1):=Nat.succ_mul _ _
 have far:∀{j' d' x},j'≠j→Ins (j' * sz (d+1)) ((j'+1) * sz (d+1)) d' x→¬Ins (j * sz (d+1)) ((j+1) * sz (d+1)) d' x:=fun hne z1 z2=>hne (ins_apart z1 z2)
 have l2:∀d' x,d'≠d+1→putL L2 (d+1) j o d' x=L2 d' x:=fun d' x hd'=>putL_other (fun z=>hd' z.1)
 refine ⟨⟨fun d' x z=> ?_,fun x z=> ?_⟩,fun j' k0 k1=> ?_,?_⟩
 ·by_cases e:d'=d+1∧x=j
  ·exact absurd ⟨by omega,by omega,by rw[e.1,e.2];exact hi⟩ z
  ·rw[putL_other e,ho.lv d' x (fun y=>z ⟨by omega,y.2.1,Nat.le_trans hi.1 y.2.2.1,Nat.le_trans y.2.2.2 hi.2⟩)]
   exact h.outs.lv d' x z
 ·rw[ho.ch x (fun y=>z ⟨Nat.le_trans hi.1 y.1,Nat.le_trans y.2 hi.2⟩)]
  exact h.outs.ch x z
 ·by_cases e:j'=j
  ·subst e
   have er:row (putL L2 (d+1) j' o) (d+1) j' rest=r2:=by unfold row;rw[putL_same];exact he
   rw[er]
   exact hg.congr (by omega) ⟨fun d' x hd' _=>(l2 d' x (by omega)).symm,fun _ _=>rfl,fun _ _ _=>rfl⟩
  ·have er:row (putL L2 (d+1) j o) (d+1) j' rest=row L1 (d+1) j' rest:=by
    unfold row
    rw[putL_other (fun z=>e z.2),ho.lv (d+1) j' (fun z=>by omega)]
   rw[er]
   refine (h.kids j' k0 k1).congr (by omega) ⟨fun d' x hd' hx=> ?_,fun x hx=> ?_,fun q q1 q2=> ?_⟩
   ·rw[l2 d' x (by omega),ho.lv d' x (fun y=>far e hx y.2.2)]
   ·rw[ho.ch x (far e hx)]
   ·refine hs q (fun z=>e ?_)
    have e3:(j'+1) * sz (d+1)=j' * sz (d+1)+sz (d+1):=Nat.succ_mul _ _
    have a1:j * sz (d+1)<(j'+1) * sz (d+1):=by omega
    have a2:j' * sz (d+1)<(j+1) * sz (d+1):=by omega
    have b1:=Nat.lt_of_mul_lt_mul_right a1
    have b2:=Nat.lt_of_mul_lt_mul_right a2
    omega
 ·unfold Ins at hi
  have:=(tl_swap (st:=st) (st':=st2) (A:=i * sz d) (n:=sz d) (K:=j * sz (d+1)) (z:=sz (d+1)) hi.1 (by omega) (fun q _ _ z=>hs q (by omega))).1
  rw[this,h.tal,(h.kids j h0 h1).fact.1,hg.fact.1]
theorem SInv.hang {L L1:Lv} {C C1:Ch} {n d i rest:Nat} {st:Nat→Nat} {t:Tl} (hn:n+(d+1)=6) (h:SInv L C n d i rest st L1 C1 t) (hr:rest≤3):Hang L1 C1 (n+1) d i:=fun k h0 h1=>by
 have g:=h.kids k h0 h1
 refine ⟨fun z=> ?_,Rx.Good.hang (by omega) g⟩
 have e:row L1 (d+1) k rest=Rx.even (d+1) rest:=by unfold row;rw[z];rfl
 rw[e] at g
 exact Rx.Good.bare (by omega) g (al_even hr)
theorem SInv.good {L L1:Lv} {C C1:Ch} {n d i:Nat} {st:Nat→Nat} {r:Rw} (h:SInv L C n d i r.rest st L1 C1 r.t) (hr:r.rest≤3) (hsu:0<d→Su st (i * sz d) (sz d) r) (ha:al r.t (sz d)=none):Rx.Good L1 C1 st (n+1) d i r:=
 ⟨⟨h.tal,hsu,hr⟩,fun s z=>(by rw[ha] at z;cases z),fun k hk=>h.kids _ (by omega) (by rw[Nat.mul_succ];omega)⟩
structure SI (N:Nat) (X:World) (T:Tid) (d:Nat) (r:Rw) (a b:Int) (s:Nat):Prop where
 tr:Bk X N 114 #[tp T]
 dp:Bk X (N+1) 3 #[.int .i64 (d:Nat)]
 rw:Bk X (N+2) 221 #[.int .u64 (r.t.p:Nat), .int .u64 (r.t.f:Nat), .int .u64 (r.t.r:Nat), .int .i64 (r.s:Nat), .int .i64 (r.m:Nat), .int .i64 (r.e:Nat), .int .i64 (r.rest:Nat)]
 sp:Bk X (N+3) 282 #[.int .u64 a, .int .u64 b]
 sv:Bk X (N+4) 219 #[.int .i64 (s:Nat)]
 rs:Bk X (N+5) 221 #[.int .u64 0, .int .u64 0, .int .u64 0, .int .i64 0, .int .i64 0, .int .i64 0, .int .i64 0]
section
variable {N:Nat} {w X X':World} {T:Tid} {d:Nat} {r:Rw} {a b:Int} {s:Nat}
theorem SI.kept {F:Nat→Prop} (h:SI N X T d r a b s) (k:Kept F X X') (hF:∀x,F x→x<N∨N+6≤x):SI N X' T d r a b s:=
 ⟨h.tr.kept k (fun z=>by have:=hF _ z;omega),h.dp.kept k (fun z=>by have:=hF _ z;omega),h.rw.kept k (fun z=>by have:=hF _ z;omega),h.sp.kept k (fun z=>by have:=hF _ z;omega),h.sv.kept k (fun z=>by have:=hF _ z;omega),h.rs.kept k (fun z=>by have:=hF _ z;omega)⟩
theorem SI.below (h:SI N X T d r a b s) (k:Below X.heap.size X X'):SI N X' T d r a b s:=h.kept (F:=fun _=>False) (Kept.of_below k) (fun _ z=>z.elim)
theorem SI.setP (h:SI N X T d r a b s) (a' b':Int):SI N ((X.setCell ⟨N+3,0,none⟩ (.int .u64 a')).setCell ⟨N+3,1,none⟩ (.int .u64 b')) T d r a' b' s:=
 ⟨(h.tr.other (by omega) _ _).other (by omega) _ _,(h.dp.other (by omega) _ _).other (by omega) _ _,(h.rw.other (by omega) _ _).other (by omega) _ _,(h.sp.set 0 _).set 1 _,(h.sv.other (by omega) _ _).other (by omega) _ _,(h.rs.other (by omega) _ _).other (by omega) _ _⟩
theorem SI.new (w:World) (T:Tid) (d:Nat) (r:Rw) (a b:Int) (s N:Nat) (hN:w.heap.size=N):
 SI N ((((((w.alloc (.cells #[tp T] 114)).alloc (.cells #[.int .i64 (d:Nat)] 3)).alloc (.cells #[.int .u64 (r.t.p:Nat), .int .u64 (r.t.f:Nat), .int .u64 (r.t.r:Nat), .int .i64 (r.s:Nat), .int .i64 (r.m:Nat), .int .i64 (r.e:Nat), .int .i64 (r.rest:Nat)] 221)).alloc (.cells #[.int .u64 a, .int .u64 b] 282)).alloc (.cells #[.int .i64 (s:Nat)] 219)).alloc (.cells #[.int .u64 0, .int .u64 0, .int .u64 0, .int .i64 0, .int .i64 0, .int .i64 0, .int .i64 0] 221)) T d r a b s:=by
 subst hN
 refine ⟨?_,?_,?_,?_,?_,?_⟩
 all_goals
  unfold Bk
  simp only[alloc_at,World.size_alloc]
  (repeat' split)<;>first|rfl|omega|simp_all
end
structure SM (N:Nat) (w X:World) (T:Tid) (L:Lv) (C:Ch) (st:Nat→Nat) (n d i:Nat) (r:Rw) (a b:Int) (s:Nat):Prop where
 si:SI N X T d r a b s
 ex:∃L1 C1,RadAt X T L1 C1∧r.t=tl st (i * sz d) (sz d)∧Hang L1 C1 n d i∧(al r.t (sz d)=none→Rx.Good L1 C1 st n d i r)∧Outs d (i * sz d) ((i+1) * sz d) L L1 C C1∧NewC (N+6) C C1
 kw:Kept (Wr T C) w X
theorem SM.below {N:Nat} {w X X':World} {T:Tid} {L:Lv} {C:Ch} {st:Nat→Nat} {n d i:Nat} {r:Rw} {a b:Int} {s:Nat} (h:SM N w X T L C st n d i r a b s) (k:Below X.heap.size X X'):SM N w X' T L C st n d i r a b s:=by
 obtain ⟨L1,C1,h1,h2⟩:=h.ex
 exact ⟨h.si.below k,⟨L1,C1,h1.below k,h2⟩,h.kw.trans (Kept.of_below (F:=fun _=>False) k) (fun _ _ z=>z.elim)⟩
theorem rad_own {N:Nat} {w X X':World} {T:Tid} {L L1:Lv} {C C1:Ch} {F:Nat→Prop} (h0:RadAt w T L C) (hN:w.heap.size=N) (h:RadAt X T L1 C1) (hn:NewC (N+6) C C1) (k:Kept F X X') (hF:∀x,F x→N≤x∧x<N+6):RadAt X' T L1 C1:=
 h.kept k fun x hx=>⟨fun z=>by have:=hF x hx;rcases hn.foot h0 z with y|y<;>omega,h0.base_le (by have:=hF x hx;omega)⟩
def withT (r:Rw) (t:Tl):Rw:=⟨t,r.s,r.m,r.e,r.rest⟩
structure SL (N:Nat) (w:World) (T:Tid) (L:Lv) (C:Ch) (st:Nat→Nat) (n d i:Nat) (r:Rw) (a b s Q k:Nat) (X:World):Prop where
 si:SI N X T d (withT r (tl (setSt st a (upto (d+1) a b k) s) (i * sz d) (sz d))) (a:Nat) (b:Nat) s
 rd:RdS Q (Q+1) (d+1) a b X
 ex:∃L1 C1,RadAt X T L1 C1∧SInv L C n d i r.rest (setSt st a (upto (d+1) a b k) s) L1 C1 (tl (setSt st a (upto (d+1) a b k) s) (i * sz d) (sz d))∧NewC (Q+4) C C1
 kw:Kept (Wr T C) w X
theorem SL.kept {F:Nat→Prop} {N:Nat} {w X X':World} {T:Tid} {L:Lv} {C:Ch} {st:Nat→Nat} {n d i:Nat} {r:Rw} {a b s Q k:Nat} (h:SL N w T L C st n d i r a b s Q k X) (kk:Kept F X X') (hN:w.heap.size=N) (h0:RadAt w T L C) (hQ:N+6≤Q) (hF:∀x,F x→x=Q+2∨x=Q+3):SL N w T L C st n d i r a b s Q k X':=by
 obtain ⟨L1,C1,r1,f,nc⟩:=h.ex
 refine ⟨h.si.kept kk (fun x hx=>by have:=hF _ hx;omega),⟨kept_at kk h.rd.sp (fun z=>by have:=hF _ z;omega),kept_at kk h.rd.dp (fun z=>by have:=hF _ z;omega),h.rd.tab.kept kk ⟨fun z=>by have:=hF _ z;omega,fun z=>by have:=hF _ z;omega⟩⟩,⟨L1,C1,r1.kept kk (fun x hx=>⟨fun z=> ?_,?_⟩),f,nc⟩,h.kw.trans kk (fun x hx hf=>by have:=hF _ hf;omega)⟩
 ·have:=hF _ hx
  rcases nc.foot h0 z with y|y<;>omega
 ·have:=hF _ hx
  exact h0.base_le (by omega)
theorem RadAt.keeps2 {W W':World} {T:Tid} {L:Lv} {C:Ch} {B b0:Nat} (h:RadAt W T L C) (hB:T.cm<B∧∀d,d≤6→T.mp d<B) (hb:b0<B) (k:Kept (fun x=>Wr T C x∨x=b0) W W'):KeepsFrom B W W':=by
 refine ⟨k.size,fun b o hb' ho hc=>kept_at k ho (fun z=> ?_)⟩
 rcases z with (e|⟨d,hd,e⟩|⟨j,b',c,hj,e⟩)|e
 ·have:=hB.1;omega
 ·have:=hB.2 d hd;omega
 ·subst e
  obtain ⟨g,h1,h2⟩:=(h.ch j _ c hj).row.used
  have h3:=h1.cell 0 (by omega)
  unfold World.cell? at h3
  rw[ho] at h3
  cases o with
  |cells cs t z=>cases hc
  |_=>simp at h3
 ·omega
theorem Mono.kid {st:Nat→Nat} {d a b s k:Nat} (hd:d<6) (hab:a<b) (h:Mono st a b) (hk:(a/sz (d+1)+k) * sz (d+1)<b):Mono (setSt st a (upto (d+1) a b k) s) (upto (d+1) a b k) (upto (d+1) a b (k+1)):=by
 obtain ⟨v1,v2,v3,v4⟩:=upto_succ hab hk
 have st_eq:∀q,upto (d+1) a b k≤q→setSt st a (upto (d+1) a b k) s q=st q:=fun q hq=>setSt_out (by omega)
 rcases h with h|h|⟨h,h'⟩
 ·exact .inl fun q q1 q2=>by rw[st_eq q q1];exact h q (by omega) (by omega)
 ·exact .inr (.inl fun q q1 q2=>by rw[st_eq q q1];exact h q (by omega) (by omega))
 ·obtain ⟨m,hm⟩:=sz_dvd (x:=d+1) (y:=6) (by omega) (by omega) (by omega)
  have e6:sz 6=512:=rfl
  rw[e6] at hm
  have dv:∀x,512∣x * sz (d+1):=fun x=>⟨x * m,by rw[hm,←Nat.mul_assoc,Nat.mul_comm]⟩
  refine .inr (.inr ⟨?_,?_⟩)
  ·rw[v1,Nat.max_def];split
   ·exact dv _
   ·exact h
  ·rw[v2,Nat.min_def];split
   ·exact h'
   ·exact dv _
end Go.Proofs.YtdgdhnnakcncoaaGreatDoor
