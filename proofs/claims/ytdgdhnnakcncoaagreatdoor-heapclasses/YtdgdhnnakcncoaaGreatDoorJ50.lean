/- Of the proof of HeapClasses: texts HHs, HHt, HHu, HHv, HHw. -/
import Derived.Test.YtdgdhnnakcncoaaGreatDoorJ49
import Derived.Test.YtdgdhnnakcncoaaGreatDoorJ45
import Derived.Test.YtdgdhnnakcncoaaGreatDoorJ37
import Derived.Test.YtdgdhnnakcncoaaGreatDoorJ44
namespace Go.Proofs.YtdgdhnnakcncoaaGreatDoor
set_option maxHeartbeats 1600000
open Go.ChangeShapes Go.WideShapes Go.ChangeAt Go.RowKit Go.Proofs.Bt Go.Shelf Go.Proofs.Rx Go.Maps Go.Proofs.Pk
set_option linter.unusedVariables false
set_option linter.unusedSimpArgs false
structure HB (H b:Nat):Prop where
 lt:H<18446744073709551616
 bit:∀j,H.testBit j=decide (b≤j∧j<64)
theorem HB.row {H b n:Nat} (h:HB H b) (h1:1≤n) (h2:b+n≤64):Row H b n∧∀q,q<b→¬Row H q n:=by
 refine ⟨fun k hk=>by rw[h.bit];exact decide_eq_true ⟨by omega,by omega⟩,fun q hq r=> ?_⟩
 have:=r 0 (by omega)
 rw[h.bit] at this
 have:=of_decide_eq_true this
 omega
theorem HB.next {H b n:Nat} (h:HB H b):HB (andn H (on1 b n)) (b+n):=by
 refine ⟨andn_lt _ h.lt,fun j=> ?_⟩
 rw[andn_bit,h.bit,on1_bit,Bool.eq_iff_iff]
 simp only[Bool.and_eq_true,decide_eq_true_eq,Bool.not_eq_true',decide_eq_false_iff_not]
 omega
theorem HB.ne {H b:Nat} (h:HB H b) (hb:b<64):H≠0:=fun e=>by
 have:=h.bit b
 rw[e,Nat.zero_testBit,decide_eq_true (by omega:b≤b∧b<64)] at this
 cases this
theorem hb_fill {st:Nat→Nat} {B b:Nat} (h:∀j,j<64→(2≤st (B+j)↔b≤j)):HB (wd (fun j=>fre st (B+j)) 64) b:=by
 refine ⟨wd_lt _ (Nat.le_refl _),fun j=> ?_⟩
 rw[wd_bit,Bool.eq_iff_iff]
 simp only[Bool.and_eq_true,decide_eq_true_eq]
 unfold fre
 rw[decide_eq_true_eq]
 constructor
 ·intro ⟨h1,h2⟩;exact ⟨(h j h1).1 h2,h1⟩
 ·intro ⟨h1,h2⟩;exact ⟨h2,(h j h2).2 h1⟩
section
variable {N:Nat} {a:HA} {x:HS} {w W:World} {l:List (Thing N)}
theorem cache_find {p n b B H G:Nat} (hp:p<64) (hn:n<16) (h1:1≤n) (hc:x.c p=(B,H,G)) (hB:B+64≤34359738368) (h:HB H b) (h2:b+n≤64):
 ∃r,Does N a w 180 #[pt a.hb, .int .i64 (p:Nat), .int .u64 (n:Nat)] (.tuple #[rowV (B+b) n r, .int .i64 0]) x {x with c:=setC x.c p B (andn H (on1 b n)) (andn G (on1 b n))}:=by
 obtain ⟨r1,r2⟩:=h.row h1 h2
 have cE:=does_cempty (N:=N) (a:=a) (w:=w) (x:=x) hp
 rw[hc,show decide ((B,H,G).2.1=0)=false from decide_eq_false (h.ne (by omega))] at cE
 exact ⟨_,find_1 (fromCache_got (x1:=x) (emp:=false) (v:=0) hp hn (Nat.le_trans (cnt_le _ _ _) (by omega)) rfl cE (fun z=>by cases z) (fun _=>rfl) (does_calloc hp hc hB h1 (by omega) b r1 r2))⟩
theorem fill_find {p n b q B G D:Nat} (hD:q/64 * 64=D) (hp:p<64) (hn:n<16) (h1:1≤n) (hc:x.c p=(B,0,G)) (hq:D+64≤34359738368) (hf:First x.st 1 q) (h:HB (wd (fun j=>fre x.st (D+j)) 64) b) (h2:b+n≤64):
 ∃r G',Does N a w 180 #[pt a.hb, .int .i64 (p:Nat), .int .u64 (n:Nat)] (.tuple #[rowV (D+b) n r, .int .i64 0]) x
  {x with st:=fillS x.st (D) 64,c:=setC x.c p (D) (andn (wd (fun j=>fre x.st (D+j)) 64) (on1 b n)) G'}∧G'<18446744073709551616:=by
 subst hD
 obtain ⟨r1,r2⟩:=h.row h1 h2
 have cE:=does_cempty (N:=N) (a:=a) (w:=w) (x:=x) hp
 rw[hc,show decide ((B,(0:Nat),G).2.1=0)=true from rfl] at cE
 have cF:=does_cfill (N:=N) (a:=a) (w:=w) hp hc hf
 have hs:∀B H G B' H' G',setC (setC x.c p B H G) p B' H' G'=setC x.c p B' H' G':=fun B H G B' H' G'=>by
  funext k;unfold setC;by_cases e:k=p
  ·rw[if_pos e,if_pos e]
  ·rw[if_neg e,if_neg e,if_neg e]
 have cA:=does_calloc (N:=N) (a:=a) (w:=w) (x:={x with st:=fillS x.st (q/64 * 64) 64,c:=setC x.c p (q/64 * 64) (wd (fun j=>fre x.st (q/64 * 64+j)) 64) (wd (fun j=>rel x.st (q/64 * 64+j)) 64)})
  hp (show setC x.c p _ _ _ p=(q/64 * 64,wd (fun j=>fre x.st (q/64 * 64+j)) 64,wd (fun j=>rel x.st (q/64 * 64+j)) 64) from if_pos rfl) hq h1 (by omega) b r1 r2
 simp only[hs] at cA
 exact ⟨_,_,find_1 (fromCache_got (emp:=true) hp hn (Nat.le_trans (cnt_le _ _ _) (by omega)) rfl cE (fun _=>cF) (fun z=>by cases z) cA),andn_lt _ (wd_lt _ (Nat.le_refl _))⟩
theorem tree_find {p:Int} {n q:Nat} (h:¬(0≤p∧p<64)∨16≤n) (hn:n<18446744073709551616) (h1:1≤n) (hf:First x.st n q):
 ∃r,Does N a w 180 #[pt a.hb, .int .i64 p, .int .u64 (n:Nat)] (.tuple #[rowV q n r, .int .i64 0]) x {x with st:=setSt x.st q (q+n) 1}:=
 ⟨_,find_2 (fromCache_not p n h) (from_tree hn h1 hf)⟩
end
end Go.Proofs.YtdgdhnnakcncoaaGreatDoor
namespace Go.Proofs.YtdgdhnnakcncoaaGreatDoor
set_option maxHeartbeats 1600000
open Go.ChangeShapes Go.WideShapes Go.ChangeAt Go.RowKit Go.Proofs.Bt Go.Shelf Go.Proofs.Rx Go.Maps Go.Proofs.Pk
set_option linter.unusedVariables false
set_option linter.unusedSimpArgs false
section
variable {N:Nat} {a:HA} {x:HS} {w W:World} {l:List (Thing N)}
theorem vm_new (hs:Sep N w W l) {v0 v1 v2:Value} {pl:List Nat} {re:List Bool} {fi:List Nat} (h0:V.Sl W v0 (V.u64s pl)) (h1:V.Sl W v1 (V.bools re)) (h2:V.Sl W v2 (V.u64s fi)) (b0:∀x∈pl,x<18446744073709551616) (b2:∀x∈fi,x<18446744073709551616)
 (l0:pl.length≤1048576) (l1:re.length≤1048576) (l2:fi.length≤1048576):
 Calls Tryz.prog 10 #[.agg #[v0,v1,v2]] W fun e W'=>∃b,e= .returned (.pointer (some ⟨b,0,none⟩))∧Sep N w W' (l++ [tVm N b (Go.Proofs.Sp.Sp.new pl re fi) 0]):=
 (V.vnew W v0 v1 v2 pl re fi h0 h1 h2 b0 b2 l0 l1 l2).mono fun e W' ⟨m,F,h,vi,k,lo⟩=>by
  obtain ⟨b,rfl⟩:∃b,m=⟨b,0,none⟩:=by obtain ⟨b,_,_,_,_,_,_,_,_,_,_,_,_,h,_⟩:=vi;exact ⟨b,h⟩
  exact ⟨b,h,hs.more (k.below (Nat.le_refl _) (fun _ f=>f.elim)) _ (F':=F) ⟨vi,fun z hz=>Nat.le_trans hs.nw (lo z hz)⟩ lo⟩
end
theorem One.fill {x:HS} {k B:Nat} {c:CC} (o:One x k):One {x with st:=fillS x.st B 64,c:=c} k:=
 ⟨o.sS,o.ref,fun q=>by
  show fillS x.st B 64 q≠0↔_
  rw[←o.st q]
  unfold fillS
  split
  ·next h=>exact ⟨fun _=>by omega,fun _=>by decide⟩
  ·exact Iff.rfl,o.C,o.K,o.L,o.n,o.he⟩
theorem One.take {x:HS} {k p n s:Nat} (o:One x k) (h1:512≤p) (h2:p+n≤1024) (hs:s≠0):One {x with st:=setSt x.st p (p+n) s} k:=
 ⟨o.sS,o.ref,fun q=>by
  show setSt x.st p (p+n) s q≠0↔_
  unfold setSt
  split
  ·next h=>exact ⟨fun _=>⟨by omega,by omega⟩,fun _=>hs⟩
  ·exact o.st q,o.C,o.K,o.L,o.n,o.he⟩
def stF (n:Nat):Nat→Nat:=setSt (setSt (fun _=>0) 512 1024 3) 512 (512+n) 1
theorem stF_at {n q:Nat} (h:n≤512):stF n q=if 512≤q∧q<512+n then 1 else if 512≤q∧q<1024 then 3 else 0:=by
 unfold stF setSt;rfl
theorem stF_first {n m:Nat} (h:n+m≤512) (hm:1≤m) (hn:1≤n):First (stF n) m (512+n):=by
 refine ⟨fun q q1 q2=> ?_,fun p hp r=> ?_⟩
 ·rw[stF_at (by omega),if_neg (by omega),if_pos (by omega)];decide
 ·by_cases c:512≤p
  ·have:=r p (Nat.le_refl _) (by omega)
   rw[stF_at (by omega),if_pos (by omega)] at this
   omega
  ·have:=r p (Nat.le_refl _) (by omega)
   rw[stF_at (by omega),if_neg (by omega),if_neg (by omega)] at this
   omega
theorem stF_fill {n:Nat} (hn:n<64):HB (wd (fun j=>fre (stF n) (512+j)) 64) n:=hb_fill fun j hj=>by
 rw[stF_at (by omega)]
 by_cases c:n≤j
 ·rw[if_neg (by omega),if_pos (by omega)];exact ⟨fun _=>c,fun _=>by decide⟩
 ·rw[if_pos (by omega)];exact ⟨fun u=>by omega,fun u=>absurd u c⟩
theorem fF_at {n q:Nat} (hn:n<64):fillS (stF n) 512 64 q=if 512≤q∧q<576 then 1 else if 512≤q∧q<1024 then 3 else 0:=by
 unfold fillS
 rw[stF_at (by omega)]
 by_cases c:512≤q∧q<576
 ·rw[if_pos c]
  by_cases d:q<512+n
  ·rw[if_pos (show 512≤q∧q<512+n from ⟨c.1,d⟩)];split<;>rfl
  ·rw[if_neg (show ¬(512≤q∧q<512+n) by omega),if_pos (show 512≤q∧q<1024 by omega),if_pos (by omega)]
 ·rw[if_neg c,if_neg (by omega),if_neg (show ¬(512≤q∧q<512+n) by omega)]
theorem fF_first {n m:Nat} (hn:n<64) (h:m≤448) (hm:1≤m):First (fillS (stF n) 512 64) m 576:=by
 refine ⟨fun q q1 q2=> ?_,fun p hp r=> ?_⟩
 ·rw[fF_at hn,if_neg (by omega),if_pos (by omega)];decide
 ·have:=r p (Nat.le_refl _) (by omega)
  rw[fF_at hn] at this
  split at this
  ·omega
  ·rw[if_neg (by omega)] at this;omega
theorem gone_lt {x:HS} (hc:COk x.c):goneV x<18446744073709551616:=by
 have h1:=(tl_le x.st 0 34359738368).2.2
 have h2:=relS_le hc 64 (Nat.le_refl _)
 unfold goneV rlT
 omega
set_option maxRecDepth 100000 in
theorem awake_any {w:World} (hT:TabW w):Calls Tryz.prog 18 #[] w fun e w'=>e= .returned (.bool true)∧Below w.heap.size w w':=by
 have h2:2≤w.heap.size:=hT.lt
 have CN:=hide (vm_new (Sep.start w) (V.Sl.nil w) (V.Sl.nil w) (V.Sl.nil w) (pl:=[]) (re:=[]) (fi:=[]) (by simp) (by simp) (by simp) (by simp) (by simp))
 have HT:=hide hT
 clear hT
 go_enter Tryz.func18,Tryz.ntmps18
 go_wp2_with fail
 refine CN.out.mono ?_
 rintro e W1 ⟨m,rfl,s1⟩
 have CH:=hide (new_any s1 HT.out h2)
 unfold pt at CH
 clear s1 CN
 go_wp2_with fail
 refine CH.out.mono ?_
 rintro e W2 ⟨a,ha,rfl,s2⟩
 obtain ⟨S,r,hS,hr,-,-,cF⟩:=first_find (N:=w.heap.size) (a:=a) (w:=w) (p:=0) (n:=1) (fi:=[]) (by omega) (by omega)
 have o1:=xg_one (n:=1) (by omega) (by omega) hS hr
 have C1:=hide (one_alloc (cls:=5) (np:=false) o1 (by omega) (by omega) (by omega) (by omega) Go.Proofs.YtdgdhnnakcncoaaGreatDoor.N.aw_elem cF (id:=1) rfl ⟨by decide,by decide⟩ (by decide) rfl W2 [] s2)
 unfold pt at C1
 clear CH cF s2
 go_wp2_with fail
 refine C1.out.mono ?_
 rintro e W3 ⟨rfl,b1,s3⟩
 have o2:One (After (xg S 1) 1 512 1 5 48 false b1) 2:=After.one o1 (by omega) (by omega) (by omega)
 obtain ⟨r2,G2,cF2,hG2⟩:=fill_find (N:=w.heap.size) (a:=a) (w:=w) (x:=After (xg S 1) 1 512 1 5 48 false b1) (p:=0) (n:=1) (b:=1) (q:=513) (D:=512) (by omega) (by omega) (by omega) (by omega) (B:=0) (G:=0) rfl (by omega) (stF_first (n:=1) (by omega) (by omega) (by omega)) (stF_fill (by omega)) (by omega)
 have hb2:=(stF_fill (n:=1) (by omega)).next (n:=1)
 obtain ⟨H2,hH2⟩:∃H2,andn (wd (fun j=>fre (After (xg S 1) 1 512 1 5 48 false b1).st (512+j)) 64) (on1 1 1)=H2:=⟨_,rfl⟩
 have hb2':HB H2 2:=by rw[←hH2];exact hb2
 rw[hH2] at cF2
 have o2':=One.fill (c:=setC (After (xg S 1) 1 512 1 5 48 false b1).c 0 512 H2 G2) (B:=512) o2
 have C2:=hide (one_alloc (cls:=5) (np:=false) o2' (by omega) (by omega) (by omega) (by omega) Go.Proofs.YtdgdhnnakcncoaaGreatDoor.N.aw_elem cF2 (id:=2) rfl ⟨by decide,by decide⟩ (by decide) rfl W3 [] s3)
 obtain ⟨x2,hx2⟩:∃x2:HS,{After (xg S 1) 1 512 1 5 48 false b1 with st:=fillS (After (xg S 1) 1 512 1 5 48 false b1).st 512 64,c:=setC (After (xg S 1) 1 512 1 5 48 false b1).c 0 512 H2 G2}=x2:=⟨_,rfl⟩
 have f1:x2.st=fillS (stF 1) 512 64:=by rw[←hx2];rfl
 have f2:x2.c=setC (fun _=>(0,0,0)) 0 512 H2 G2:=by rw[←hx2];rfl
 have f3:x2.V=A.putI (fun _=>0) 512 513 1:=by rw[←hx2];rfl
 have f4:x2.L= [true]∧x2.B= []∧x2.gr=512∧x2.he=1:=by rw[←hx2];exact ⟨rfl,rfl,rfl,rfl⟩
 have f5:∀i,i≠1→x2.M i=none:=fun i hi=>by rw[←hx2];exact if_neg hi
 rw[hx2] at C2 o2'
 unfold pt at C2
 clear s3 C1 cF2 hb2 hH2 hx2 o2 o1 hS hr
 go_wp2_with fail
 refine C2.out.mono ?_
 rintro e W4 ⟨rfl,b2,s4⟩
 have o3:One (After x2 2 513 1 5 48 false b2) 3:=After.one o2' (by omega) (by omega) (by omega)
 have st3:(After x2 2 513 1 5 48 false b2).st=fillS (stF 1) 512 64:=f1
 obtain ⟨r3,cF3⟩:=tree_find (N:=w.heap.size) (a:=a) (w:=w) (x:=After x2 2 513 1 5 48 false b2) (p:=0) (n:=16) (q:=576) (.inr (by omega)) (by omega) (by omega) (by rw[st3];exact fF_first (by omega) (by omega) (by omega))
 have o3':=One.take (p:=576) (n:=16) (s:=1) o3 (by omega) (by omega) (by decide)
 have L3:F.takeI (After x2 2 513 1 5 48 false b2).L (After x2 2 513 1 5 48 false b2).B=3:=by
  show F.takeI (F.takeL x2.L x2.B) x2.B.tail=3
  rw[f4.1,f4.2.1];rfl
 have C3:=hide (one_alloc (cls:=0) (el:=131072) (np:=false) o3' (by omega) (by omega) (by omega) (by omega) (by rfl) cF3 (id:=3) L3 ⟨by decide,by decide⟩ (by decide) (by
  show putM x2.M 2 b2 ⟨512+1,1,5,48,false⟩ 3=none
  unfold putM
  rw[if_neg (by decide)];exact f5 3 (by decide)) W4 [] s4)
 obtain ⟨x3,hx3⟩:∃x3:HS,{After x2 2 513 1 5 48 false b2 with st:=setSt (After x2 2 513 1 5 48 false b2).st 576 (576+16) 1}=x3:=⟨_,rfl⟩
 have g1:x3.st=setSt (fillS (stF 1) 512 64) 576 592 1:=by rw[←hx3,←f1];rfl
 have g2:x3.c=setC (fun _=>(0,0,0)) 0 512 H2 G2:=by rw[←hx3,←f2];rfl
 have g3:x3.V=A.putI (A.putI (fun _=>0) 512 513 1) 513 514 2:=by rw[←hx3,←f3];rfl
 have g4:x3.gr=512∧x3.he=2:=by rw[←hx3];exact ⟨f4.2.2.1,by show x2.he+1=2;rw[f4.2.2.2]⟩
 rw[hx3] at C3
 unfold pt at C3
 clear s4 C2 cF3 hx3 o3 o3' o2' st3 L3 f1 f2 f3 f4 f5
 go_wp2_with fail
 refine C3.out.mono ?_
 rintro e W5 ⟨rfl,b3,s5⟩
 have cok:COk (After x3 3 576 16 0 131072 false b3).c:=fun k hk=>by
  show (x3.c k).1≤_∧_
  rw[show (After x3 3 576 16 0 131072 false b3).c=x3.c from rfl,g2]
  unfold setC
  split
  ·exact ⟨by show 512≤_;omega,hb2'.lt,hG2⟩
  ·exact ⟨by show 0≤_;omega,by show 0<_;omega,by show 0<_;omega⟩
 have C4:=hide (owner_used (N:=w.heap.size) (a:=a) (w:=w) (x:=After x3 3 576 16 0 131072 false b3) (q:=514) (p:=0) (f:=true) (r1:=2) (r2:=0) (by omega) (by
  show decide (x3.st 514≠0)=true;rw[g1];decide) (by show decide (2≤x3.st 514)=false;rw[g1];decide) cok (.inl ⟨by omega,rfl,by
  show ownC (x3.c 0) 514=true
  rw[g2]
  show (decide (512≤514)&&H2.testBit 2)=true
  rw[hb2'.bit];simp,fun k hk=>absurd hk (Nat.not_lt_zero _)⟩) rfl W5 [] s5)
 have C5:=hide (told_any (N:=w.heap.size) (a:=a) (w:=w) cok (gone_lt cok))
 have C6:=fun b hb=>hide (of_any (N:=w.heap.size) (a:=a) (w:=w) (x:=After x3 3 576 16 0 131072 false b3) (b:=b) hb)
 have v1:(After x3 3 576 16 0 131072 false b3).V (4194304/8192)=1:=by
  show A.putI x3.V 576 592 3 512=1;rw[g3];rfl
 have v2:(After x3 3 576 16 0 131072 false b3).V (4718592/8192)=3:=by
  show A.putI x3.V 576 592 3 576=3;rw[g3];rfl
 have C7:=C6 4194304 (by omega)
 have C8:=C6 4718592 (by omega)
 rw[v1] at C7
 rw[v2] at C8
 have e1:(After x3 3 576 16 0 131072 false b3).gr=512:=g4.1
 have e2:(After x3 3 576 16 0 131072 false b3).he=18:=by show x3.he+16=18;rw[g4.2]
 rw[e1,e2] at C5
 obtain ⟨x4,hx4⟩:∃x4,After x3 3 576 16 0 131072 false b3=x4:=⟨_,rfl⟩
 obtain ⟨gn,hgn⟩:∃gn,goneV x4=gn:=⟨_,rfl⟩
 rw[hx4] at C4 C5 C7 C8
 rw[hgn] at C5
 unfold pt at *
 clear s5 C3 C6 g1 g2 g3 g4 v1 v2 e1 e2 hx4 hgn cok hb2'
 go_wp2_with fail
 refine C4.out.mono ?_
 rintro e W6 ⟨rfl,s6⟩
 have C5':=hide (C5.out W6 [] s6)
 clear s6 C4 C5
 go_wp2_with fail
 refine C5'.out.mono ?_
 rintro e W7 ⟨rfl,s7⟩
 have C7':=hide (C7.out W7 [] s7)
 clear s7 C5' C7
 go_wp2_with fail
 refine C7'.out.mono ?_
 rintro e W8 ⟨rfl,s8⟩
 have C8':=hide (C8.out W8 [] s8)
 clear s8 C7' C8
 go_wp2_with fail
 refine C8'.out.mono ?_
 rintro e W9 ⟨rfl,s9⟩
 have B9:=hide s9.be
 clear s9 C8'
 go_wp2_with fail
 go_ret
 exact ⟨rfl,B9.out⟩
end Go.Proofs.YtdgdhnnakcncoaaGreatDoor
namespace Go.Proofs.YtdgdhnnakcncoaaGreatDoor
set_option maxHeartbeats 1600000
open Go.ChangeShapes Go.WideShapes Go.ChangeAt Go.RowKit Go.Proofs.Bt Go.Shelf Go.Proofs.Rx Go.Maps Go.Proofs.Pk
set_option linter.unusedVariables false
set_option linter.unusedSimpArgs false
set_option maxRecDepth 100000 in
theorem fresh_any {w:World} (hT:TabW w) {v0 v1 v2:Value} {pl:List Nat} {re:List Bool} {fi:List Nat} (h0:V.Sl w v0 (V.u64s pl)) (h1:V.Sl w v1 (V.bools re)) (h2:V.Sl w v2 (V.u64s fi)) (b0:∀x∈pl,x<18446744073709551616) (b2:∀x∈fi,x<18446744073709551616)
 (l0:pl.length≤1048576) (l1:re.length≤1048576) (l2:fi.length≤1048576):
 Calls Tryz.prog 19 #[.agg #[v0,v1,v2]] w fun e W'=>∃a,e= .returned (pt a.hb)∧Sep w.heap.size w W' (HL w.heap.size a (HS.new (Go.Proofs.Sp.Sp.new pl re fi) 0) []):=by
 have ht:2≤w.heap.size:=hT.lt
 have HT:=hide hT
 have kb:Below w.heap.size w (w.alloc (.cells #[v0,v1,v2] 25)):=(Below.refl _ _).alloc (Nat.le_refl _) _
 have CG:=hide (V.given_any (w.alloc (.cells #[v0,v1,v2] 25)) v0 v1 v2 pl re fi (V.Sl.low h0 kb) (V.Sl.low h1 kb) (V.Sl.low h2 kb) l0 l1 l2)
 have KB:=hide kb
 have HB:=hide (And.intro b0 b2)
 have HL':=hide (And.intro l0 (And.intro l1 l2))
 have ld:(loadVar 25 ⟨w.heap.size,0,none⟩).run Tryz.prog (w.alloc (.cells #[v0,v1,v2] 25))= .ok (.agg #[v0,v1,v2]) (w.alloc (.cells #[v0,v1,v2] 25)):=V.load3 (World.alloc_heap_new _ _)
 clear hT h0 h1 h2 b0 b2 l0 l1 l2 kb
 go_enter Tryz.func19,Tryz.ntmps19
 go_wp2_with fail
 refine CG.out.mono ?_
 rintro e W1 ⟨o0,k0,o1,k1,o2,k2,rfl,g⟩
 have s0:=(Sep.start w).read (KB.out.trans (g.be.mono KB.out.size))
 have CN:=hide (vm_new s0 (V.Sl.of_owns g.o0) (V.Sl.of_owns g.o1) (V.Sl.of_owns g.o2) HB.out.1 HB.out.2 HL'.out.1 HL'.out.2.1 HL'.out.2.2)
 clear g s0 CG HB HL' KB ld
 go_wp2_with fail
 refine CN.out.mono ?_
 rintro e W2 ⟨m,rfl,s1⟩
 have CH:=hide (new_any s1 HT.out ht)
 unfold pt at CH
 clear s1 CN
 go_wp2_with fail
 refine CH.out.mono ?_
 rintro e W3 ⟨a,ha,rfl,s2⟩
 have S2:=hide s2
 clear s2 CH
 go_wp2_with fail
 go_ret
 exact ⟨a,rfl,S2.out⟩
end Go.Proofs.YtdgdhnnakcncoaaGreatDoor
namespace Go.Proofs.YtdgdhnnakcncoaaGreatDoor
set_option maxHeartbeats 1600000
open Go.ChangeShapes Go.WideShapes Go.ChangeAt Go.RowKit Go.Proofs.Bt Go.Shelf Go.Proofs.Rx Go.Maps Go.Proofs.Pk
set_option linter.unusedVariables false
set_option linter.unusedSimpArgs false
set_option maxRecDepth 100000 in
theorem classes_out {w:World} (hT:TabW w) (k p:Int) (np:Bool) (hk:k<1∨68≤k):Calls Tryz.prog 8 #[.int .i64 k, .int .i64 p, .bool np] w fun e w'=>e= .returned (.bool true)∧Below w.heap.size w w':=by
 have CT:=hide (Go.Proofs.YtdgdhnnakcncoaaGreatDoor.N.table_any w)
 have CA:=fun W (b:Below w.heap.size w W)=>hide (awake_any (w:=W) (hT.below b))
 clear hT
 have q:decide (k<1)=true∨decide (k<1)=false∧decide ((68:Int)≤k)=true:=by
  by_cases c:k<1
  ·exact .inl (decide_eq_true c)
  ·exact .inr ⟨decide_eq_false c,decide_eq_true (by omega)⟩
 clear hk
 rcases q with q|⟨q,q2⟩
 ·go_enter Tryz.func8,Tryz.ntmps8
  go_wp2_with fail
  refine CT.out.mono ?_
  rintro e W1 ⟨g,cap,rfl,-,b1⟩
  have CA1:=CA W1 b1
  have B1:=hide b1
  clear CA CT b1
  go_wp2_with fail
  refine CA1.out.mono ?_
  rintro e W2 ⟨rfl,b2⟩
  have B2:=hide (B1.out.trans (b2.mono B1.out.size))
  clear b2 CA1 B1
  go_wp2_with fail
  go_ret
  exact ⟨rfl,B2.out⟩
 ·go_enter Tryz.func8,Tryz.ntmps8
  go_wp2_with fail
  refine CT.out.mono ?_
  rintro e W1 ⟨g,cap,rfl,-,b1⟩
  have CA1:=CA W1 b1
  have B1:=hide b1
  clear CA CT b1
  go_wp2_with fail
  refine CA1.out.mono ?_
  rintro e W2 ⟨rfl,b2⟩
  have B2:=hide (B1.out.trans (b2.mono B1.out.size))
  clear b2 CA1 B1
  go_wp2_with fail
  go_ret
  exact ⟨rfl,B2.out⟩
def inf (base n k el slots:Nat) (np:Bool):Value:= .agg #[.int .u64 (base:Nat), .int .i64 (n:Nat), .int .i64 1, .int .i64 (k:Nat), .bool np, .int .i64 (el:Nat), .int .i64 (slots:Nat), .int .i64 0, .bool false, .bool false]
def Tail (N:Nat) (a:HA) (w:World) (k n el slots:Nat) (p:Int) (np:Bool) (b1:Nat) (x:HS):Prop:=
 Does N a w 20 #[pt a.hb, .int .i64 p, .int .u64 ((n+1:Nat):Int), .int .i64 (k:Nat), .bool np] (.tuple #[.int .i64 0, .int .i64 1]) x x∧
 Does N a w 21 #[pt a.hb, .int .i64 1] (.tuple #[pt b1, .int .i64 0]) x x∧
 (∀W l,Sep N w W (HL N a x l)→Calls Tryz.prog 22 #[pt b1] W fun e W'=>e= .returned (inf 4194304 n k el slots np)∧Below W.heap.size W W')∧
 ∃x3,Does N a w 30 #[pt a.hb, .int .i64 1] (.int .i64 0) x x3∧
  Does N a w 30 #[pt a.hb, .int .i64 1] (.int .i64 35) x3 x3∧
  Does N a w 26 #[pt a.hb, .int .u64 ((4194304:Nat):Int)] (.int .i64 0) x3 x3∧
  ∃Y4,Alc N a w 20 #[pt a.hb, .int .i64 p, .int .u64 (n:Nat), .int .i64 (k:Nat), .bool (!np)] (.tuple #[.int .i64 1, .int .i64 0]) x3 Y4
def Road (N:Nat) (a:HA) (w:World) (k n el slots:Nat) (p:Int) (np:Bool):Prop:=
 ∃Y1,Alc N a w 20 #[pt a.hb, .int .i64 p, .int .u64 (n:Nat), .int .i64 (k:Nat), .bool np] (.tuple #[.int .i64 1, .int .i64 0]) (x0 []) Y1∧
 ∀b1,∃Y2,Alc N a w 20 #[pt a.hb, .int .i64 p, .int .u64 (n:Nat), .int .i64 (k:Nat), .bool np] (.tuple #[.int .i64 2, .int .i64 0]) (Y1 b1) Y2∧
 ∀b2,Tail N a w k n el slots p np b1 (Y2 b2)
set_option maxRecDepth 100000 in
theorem classes_walk {w:World} (hT:TabW w) {k n el slots:Nat} {p:Int} {np:Bool} (hk:1≤k) (hk2:k<68) (hn:1≤n) (hn2:n≤16) (hel:el≤32768) (hsl:slots≤1024)
 (hc:∀W g,Go.Proofs.YtdgdhnnakcncoaaGreatDoor.N.ListAt W g (Go.Proofs.Cl.zeroC::Go.Proofs.Cl.table)→W.cell? ⟨g,k * 4,none⟩=some (.int .i64 (el:Nat))∧W.cell? ⟨g,k * 4+1,none⟩=some (.int .i64 (n:Nat))∧W.cell? ⟨g,k * 4+2,none⟩=some (.int .i64 (slots:Nat)))
 (hR:∀N a w,Road N a w k n el slots p np):
 Calls Tryz.prog 8 #[.int .i64 (k:Nat), .int .i64 p, .bool np] w fun e w'=>e= .returned (.bool true)∧Below w.heap.size w w':=by
 have CT:=hide (Go.Proofs.YtdgdhnnakcncoaaGreatDoor.N.table_any w)
 have HT:=hide hT
 have HC:=hide hc
 have d1:decide ((k:Int)<1)=false:=decide_eq_false (by omega)
 have d2:decide ((68:Int)≤(k:Int))=false:=decide_eq_false (by omega)
 have i0:(0:Int)≤(k:Int):=by omega
 have i1:(k:Int)<68:=by omega
 have wn:IntKind.u64.wrap (n:Int)=n:=by rw[IntKind.wrap_u64];omega
 have wn1:IntKind.u64.wrap ((n:Int)+1)=(n:Int)+1:=by rw[IntKind.wrap_u64];omega
 have n1:(0:Int)≤(n:Int):=by omega
 have n2:(n:Int)≤16:=by omega
 have en:((n+1:Nat):Int)=(n:Int)+1:=by omega
 clear hT hc
 go_enter Tryz.func8,Tryz.ntmps8
 go_wp2_with fail
 refine CT.out.mono ?_
 rintro e W1 ⟨g,cap,rfl,own,b1⟩
 have la:=Go.Proofs.YtdgdhnnakcncoaaGreatDoor.N.list_at own (by rw[List.length_cons,Go.Proofs.Cl.table_len])
 have ht1:=HT.out.below b1
 have CFr:=hide (fresh_any ht1 (V.Sl.nil W1) (V.Sl.nil W1) (V.Sl.nil W1) (pl:=[]) (re:=[]) (fi:=[]) (by simp) (by simp) (by simp) (by simp) (by simp))
 have HC1:=hide (fun W (b:Below W1.heap.size W1 W)=>HC.out W g (la.below b))
 have B1:=hide b1
 have T1:=hide ht1
 clear CT own la ht1 b1 HC HT
 go_wp2_with fail
 refine CFr.out.mono ?_
 rintro e W2 ⟨a,rfl,s2⟩
 obtain ⟨f0,f1,f2⟩:=HC1.out W2 s2.be
 obtain ⟨Y1,A1,R1⟩:=hR W1.heap.size a W1
 have C1:=hide (A1 W2 [] s2)
 have R1:=hide R1
 unfold pt at C1 ⊢
 clear s2 CFr hR A1
 go_wp2_with fail
 refine C1.out.mono ?_
 rintro e W3 ⟨rfl,b1,s3⟩
 obtain ⟨f0,f1,f2⟩:=HC1.out W3 s3.be
 obtain ⟨Y2,A2,R2⟩:=R1.out b1
 have C2:=hide (A2 W3 [] s3)
 have R2:=hide R2
 unfold pt at C2
 clear s3 C1 A2 R1
 go_wp2_with fail
 refine C2.out.mono ?_
 rintro e W4 ⟨rfl,b2,s4⟩
 obtain ⟨f0,f1,f2⟩:=HC1.out W4 s4.be
 obtain ⟨A3,AS,AI,x3,AF,AF2,AO,Y4,A4⟩:=R2.out b2
 have C3:=hide (A3 W4 [] s4)
 have AS:=hide AS
 have AI:=hide AI
 have AF:=hide AF
 have AF2:=hide AF2
 have AO:=hide AO
 have A4:=hide A4
 unfold pt at C3
 rw[en] at C3
 clear s4 C2 A3 R2
 go_wp2_with fail
 refine C3.out.mono ?_
 rintro e W5 ⟨rfl,s5⟩
 have C4:=hide (AS.out W5 [] s5)
 unfold pt at C4
 clear s5 C3 AS f0 f1 f2
 go_wp2_with fail
 refine C4.out.mono ?_
 rintro e W6 ⟨rfl,s6⟩
 have C5:=hide (AI.out W6 [] s6)
 have S6:=hide s6
 unfold pt inf at C5
 clear s6 C4 AI
 go_wp2_with fail
 refine C5.out.mono ?_
 rintro e W7 ⟨rfl,b7⟩
 have s7:=hide (S6.out.read b7)
 clear S6 C5 b7
 go_wp2_with fail
 have S8:Sep W1.heap.size W1 _ (HL W1.heap.size a (Y2 b2) ([]++_)):=s7.out.fr.fnew #[.int .u64 4194304, .int .i64 (n:Nat), .int .i64 1, .int .i64 (k:Nat), .bool np, .int .i64 (el:Nat), .int .i64 (slots:Nat), .int .i64 0, .bool false, .bool false] 52
 obtain ⟨W8,hW8⟩:∃W8,W7.alloc (.cells #[.int .u64 4194304, .int .i64 (n:Nat), .int .i64 1, .int .i64 (k:Nat), .bool np, .int .i64 (el:Nat), .int .i64 (slots:Nat), .int .i64 0, .bool false, .bool false] 52)=W8:=⟨_,rfl⟩
 obtain ⟨Q,hQ⟩:∃Q,W7.heap.size=Q:=⟨_,rfl⟩
 rw[hW8,hQ] at S8
 rw[hW8,hQ]
 clear hW8 hQ s7
 have B:=Sep.fget (l:=HL W1.heap.size a (Y2 b2) []) S8 0 rfl
 have y2:W8.cell? ⟨Q,2,none⟩=some (.int .i64 1):=B.cell 2 _ rfl
 have y3:W8.cell? ⟨Q,3,none⟩=some (.int .i64 (k:Nat)):=B.cell 3 _ rfl
 have y4:W8.cell? ⟨Q,4,none⟩=some (.bool np):=B.cell 4 _ rfl
 have y5:W8.cell? ⟨Q,5,none⟩=some (.int .i64 (el:Nat)):=B.cell 5 _ rfl
 have y6:W8.cell? ⟨Q,6,none⟩=some (.int .i64 (slots:Nat)):=B.cell 6 _ rfl
 have y7:W8.cell? ⟨Q,7,none⟩=some (.int .i64 0):=B.cell 7 _ rfl
 have hS8:=hide S8
 obtain ⟨f0,f1,f2⟩:=HC1.out W8 S8.be
 clear B S8
 refine still_all (by kernel_rfl) (by kernel_rfl) ?_
 repeat still_step
 refine wpStill_nil ?_
 have s9:=hS8.out.read (drew_below W8)
 obtain ⟨W9,hW9⟩:∃W9,W8.drew=W9:=⟨_,rfl⟩
 rw[hW9] at s9
 rw[hW9]
 have C6:=hide (AF.out W9 _ s9)
 unfold pt at C6
 clear y2 y3 y4 y5 y6 y7 f0 f1 f2 hS8 hW9 s9 AF
 go_wp2_with fail
 refine C6.out.mono ?_
 rintro e W10 ⟨rfl,s10⟩
 have C7:=hide (AF2.out W10 _ s10)
 unfold pt at C7
 clear s10 C6 AF2
 go_wp2_with fail
 refine C7.out.mono ?_
 rintro e W11 ⟨rfl,s11⟩
 have B:=Sep.fget (l:=HL W1.heap.size a x3 []) s11 0 rfl
 have y0:W11.cell? ⟨Q,0,none⟩=some (.int .u64 4194304):=B.cell 0 _ rfl
 have C8:=hide (AO.out W11 _ s11)
 unfold pt at C8
 rw[show ((4194304:Nat):Int)=4194304 from rfl] at C8
 clear s11 C7 B AO
 go_wp2_with fail
 refine C8.out.mono ?_
 rintro e W12 ⟨rfl,s12⟩
 obtain ⟨f0,f1,f2⟩:=HC1.out W12 s12.be
 have C9:=hide (A4.out W12 _ s12)
 unfold pt at C9
 clear s12 C8 A4 y0
 go_wp2_with fail
 refine C9.out.mono ?_
 rintro e W13 ⟨rfl,b4,s13⟩
 have BB:=hide (B1.out.trans (s13.be.mono B1.out.size))
 have CA:=hide (awake_any (w:=W13) (T1.out.below s13.be))
 clear s13 C9 f0 f1 f2 HC1 T1 B1
 go_wp2_with fail
 refine CA.out.mono ?_
 rintro e W14 ⟨rfl,b14⟩
 have BF:=hide (BB.out.trans (b14.mono BB.out.size))
 clear BB CA b14
 go_wp2_with fail
 go_ret
 exact ⟨rfl,BF.out⟩
end Go.Proofs.YtdgdhnnakcncoaaGreatDoor
namespace Go.Proofs.YtdgdhnnakcncoaaGreatDoor
set_option maxHeartbeats 1600000
open Go.ChangeShapes Go.WideShapes Go.ChangeAt Go.RowKit Go.Proofs.Bt Go.Shelf Go.Proofs.Rx Go.Maps Go.Proofs.Pk
set_option linter.unusedVariables false
set_option linter.unusedSimpArgs false
section
variable {N:Nat} {a:HA} {w:World} {k n el slots:Nat} {p:Int} {np:Bool}
theorem road_end {x:HS} {j b1:Nat} (hn:1≤n) (hn2:n≤16) (h8:8≤el) (hle:el≤n * 8192) (hsl:slots=n * 8192/el) (hs2:slots≤1024)
 (he:Go.Proofs.YtdgdhnnakcncoaaGreatDoor.N.elemOf n (k:Nat)=some el) (he':Go.Proofs.YtdgdhnnakcncoaaGreatDoor.N.elemOf (n+1) (k:Nat)=none)
 (o:One x j) (hj:j≤100) (hQ:x.Q 1=some b1) (hM:x.M 1=some (b1,⟨512,n,k,el,np⟩)) (hL:x.L= [true,true]) (hB:x.B= []) (hst:∀q,512≤q→q<512+n→x.st q=1) (hhe:n≤x.he)
 (hf:∃pg r st' c,512≤pg∧pg+n≤1024∧(∀q,st' q≠0↔inO q)∧Does N a w 180 #[pt a.hb, .int .i64 p, .int .u64 (n:Nat)] (.tuple #[rowV pg n r, .int .i64 0]) (freed x 1 ⟨512,n,k,el,np⟩) {freed x 1 ⟨512,n,k,el,np⟩ with st:=st',c:=c}):
 Tail N a w k n el slots p np b1 x:=by
 have r0:∀q m,1≤m→q+m≤2048→Go.Proofs.YtdgdhnnakcncoaaGreatDoor.N.rpB q m=true:=fun q m h1 h2=>by
  unfold Go.Proofs.YtdgdhnnakcncoaaGreatDoor.N.rpB;exact decide_eq_true ⟨by omega,by omega⟩
 have gok:=Go.Proofs.YtdgdhnnakcncoaaGreatDoor.N.geo_ok (cls:=k) (elem:=el) (noptr:=np) (r0 512 n hn (by omega)) (by omega) h8 hle (by omega)
 have t1:tl x.st 512 n=tlOf 1 n:=tl_all hst
 have hL':=o.L
 have hK:=o.K
 have hnn:=o.n
 have hhe':=o.he
 have ok1:okI 1:=⟨by decide,by decide⟩
 refine ⟨alloc_bad (r0 0 (n+1) (by omega) (by omega)) he',span_ok ok1 hQ,fun W l hs=> ?_,freed x 1 ⟨512,n,k,el,np⟩,?_,?_,?_,?_⟩
 ·obtain ⟨F,h1,h2,h3⟩:=(sp_split hs hM).last
  refine (Go.Proofs.YtdgdhnnakcncoaaGreatDoor.N.sp_info (Go.Proofs.YtdgdhnnakcncoaaGreatDoor.N.Sp.made h1 h2 gok)).mono fun e W' ⟨e1,e2⟩=>⟨?_,e2⟩
  rw[e1,Bt.cnt_none (fun _ _=>rfl),hsl]
  show Ending.returned (.agg #[.int .u64 ((512 * 8192:Nat):Int), .int .i64 (n:Nat), .int .i64 ((1:Nat):Int), .int .i64 (k:Nat), .bool np, .int .i64 (el:Nat), .int .i64 ((n * 8192/el:Nat):Int), .int .i64 ((0:Nat):Int), .bool false, .bool false])=_
  rw[show (512 * 8192:Nat)=4194304 by decide]
  rfl
 ·exact free_ok (g:=⟨512,n,k,el,np⟩) ok1 hQ hM gok (by show 512+n≤_;omega) hn (one_all (pg:=512) (n:=n) o (by omega) (by omega)) ⟨hn,by show 512+n≤_;omega,by show (tl x.st 512 n).p=n;rw[t1];rfl⟩ (by show (tl x.st 512 n).f=0;rw[t1];rfl) (by rw[hL];simp) hhe (by omega)
 ·exact free_none ok1 (by show delQ x.Q 1 1=none;exact if_pos rfl)
 ·have:=of_any (N:=N) (a:=a) (w:=w) (x:=freed x 1 ⟨512,n,k,el,np⟩) (b:=4194304) (by omega)
  rw[show (freed x 1 ⟨512,n,k,el,np⟩).V (4194304/8192)=0 from if_pos ⟨by show 512≤512;omega,by show 512<512+n;omega⟩] at this
  exact this
 ·obtain ⟨pg,r,st',c,h1,h2,h3,hD⟩:=hf
  have o1:One {freed x 1 ⟨512,n,k,el,np⟩ with st:=st',c:=c} j:=⟨o.sS,o.ref,h3,o.C,o.K,by show (F.giveL x.L 1).length≤j;rw[F.giveL_len];exact hL',o.n,by show x.he - n≤_;omega⟩
  exact ⟨_,one_alloc o1 (by omega) h1 h2 hn he hD (id:=1) (by show F.takeI (F.giveL x.L 1) (F.giveB x.L x.B 1)=1;rw[hL,hB];rfl) ok1 (by decide) (by show delM x.M 1 1=none;exact if_pos rfl)⟩
theorem road_cached {m:Nat} (hm:m<64) (hn:1≤n) (hn2:n<16) (h8:8≤el) (hle:el≤n * 8192) (hsl:slots=n * 8192/el) (hs2:slots≤1024)
 (he:Go.Proofs.YtdgdhnnakcncoaaGreatDoor.N.elemOf n (k:Nat)=some el) (he':Go.Proofs.YtdgdhnnakcncoaaGreatDoor.N.elemOf (n+1) (k:Nat)=none):Road N a w k n el slots (m:Nat) np:=by
 obtain ⟨S,r,hS,hr,-,-,cF⟩:=first_find (N:=N) (a:=a) (w:=w) (p:=(m:Nat)) (n:=n) (fi:=[]) hn (by omega)
 have o1:=xg_one (n:=n) hn (by omega) hS hr
 refine ⟨_,one_alloc (cls:=k) (np:=np) o1 (by omega) (by omega) (by omega) hn he cF (id:=1) rfl ⟨by decide,by decide⟩ (by decide) rfl,fun b1=> ?_⟩
 have o2:One (After (xg S n) 1 512 n k el np b1) 2:=After.one o1 (by omega) (by omega) hn
 obtain ⟨r2,G2,cF2,hG2⟩:=fill_find (N:=N) (a:=a) (w:=w) (x:=After (xg S n) 1 512 n k el np b1) (p:=m) (n:=n) (b:=n) (q:=512+n) (D:=512) (by omega) hm hn2 hn (B:=0) (G:=0) rfl (by omega) (stF_first (n:=n) (by omega) (by omega) hn) (stF_fill (by omega)) (by omega)
 have hb2:=(stF_fill (n:=n) (by omega)).next (n:=n)
 obtain ⟨H2,hH2⟩:∃H2,andn (wd (fun j=>fre (After (xg S n) 1 512 n k el np b1).st (512+j)) 64) (on1 n n)=H2:=⟨_,rfl⟩
 have hb2':HB H2 (n+n):=by rw[←hH2];exact hb2
 rw[hH2] at cF2
 have o2':=One.fill (c:=setC (After (xg S n) 1 512 n k el np b1).c m 512 H2 G2) (B:=512) o2
 refine ⟨_,one_alloc (cls:=k) (np:=np) o2' (by omega) (by omega) (by omega) hn he cF2 (id:=2) rfl ⟨by decide,by decide⟩ (by decide) rfl,fun b2=> ?_⟩
 have o3:=After.one (id:=2) (cls:=k) (el:=el) (np:=np) (sb:=b2) (pg:=512+n) (n:=n) o2' (by omega) (by omega) hn
 refine road_end hn (by omega) h8 hle hsl hs2 he he' o3 (by omega) rfl rfl rfl rfl (fun q q1 q2=> ?_) (Nat.le_add_left _ _) ?_
 ·show fillS (stF n) 512 64 q=1
  rw[fF_at (by omega),if_pos (by omega)]
 ·obtain ⟨r3,cF3⟩:=cache_find (N:=N) (a:=a) (w:=w) (x:=freed (After {After (xg S n) 1 512 n k el np b1 with st:=fillS (After (xg S n) 1 512 n k el np b1).st 512 64,c:=setC (After (xg S n) 1 512 n k el np b1).c m 512 H2 G2} 2 (512+n) n k el np b2) 1 ⟨512,n,k,el,np⟩) (p:=m) (n:=n) (b:=n+n) (B:=512) (H:=H2) (G:=G2) hm hn2 hn (if_pos rfl) (by omega) hb2' (by omega)
  exact ⟨_,r3,_,_,by omega,by omega,(One.take (p:=512) (n:=n) (s:=2) o3 (by omega) (by omega) (by decide)).st,cF3⟩
theorem road_tree (hp:¬(0≤p∧p<64)∨16≤n) (hn:1≤n) (hn2:n≤16) (h8:8≤el) (hle:el≤n * 8192) (hsl:slots=n * 8192/el) (hs2:slots≤1024)
 (he:Go.Proofs.YtdgdhnnakcncoaaGreatDoor.N.elemOf n (k:Nat)=some el) (he':Go.Proofs.YtdgdhnnakcncoaaGreatDoor.N.elemOf (n+1) (k:Nat)=none):Road N a w k n el slots p np:=by
 obtain ⟨S,r,hS,hr,-,-,cF⟩:=first_find (N:=N) (a:=a) (w:=w) (p:=p) (n:=n) (fi:=[]) hn (by omega)
 have o1:=xg_one (n:=n) hn (by omega) hS hr
 refine ⟨_,one_alloc (cls:=k) (np:=np) o1 (by omega) (by omega) (by omega) hn he cF (id:=1) rfl ⟨by decide,by decide⟩ (by decide) rfl,fun b1=> ?_⟩
 have o2:One (After (xg S n) 1 512 n k el np b1) 2:=After.one o1 (by omega) (by omega) hn
 obtain ⟨r2,cF2⟩:=tree_find (N:=N) (a:=a) (w:=w) (x:=After (xg S n) 1 512 n k el np b1) (p:=p) (n:=n) (q:=512+n) hp (by omega) hn (stF_first (n:=n) (m:=n) (by omega) hn hn)
 have o2':=One.take (p:=512+n) (n:=n) (s:=1) o2 (by omega) (by omega) (by decide)
 refine ⟨_,one_alloc (cls:=k) (np:=np) o2' (by omega) (by omega) (by omega) hn he cF2 (id:=2) rfl ⟨by decide,by decide⟩ (by decide) rfl,fun b2=> ?_⟩
 have o3:=After.one (id:=2) (cls:=k) (el:=el) (np:=np) (sb:=b2) (pg:=512+n) (n:=n) o2' (by omega) (by omega) hn
 refine road_end hn hn2 h8 hle hsl hs2 he he' o3 (by omega) rfl rfl rfl rfl (fun q q1 q2=> ?_) (Nat.le_add_left _ _) ?_
 ·show setSt (stF n) (512+n) (512+n+n) 1 q=1
  rw[setSt_out (by omega),stF_at (by omega),if_pos (by omega)]
 ·have o4:=One.take (p:=512) (n:=n) (s:=2) o3 (by omega) (by omega) (by decide)
  have ff:First (setSt (setSt (stF n) (512+n) (512+n+n) 1) 512 (512+n) 2) n 512:=⟨fun q q1 q2=>by rw[setSt_in ⟨q1,q2⟩];decide,fun q hq rr=>by
   have:=rr q (Nat.le_refl _) (by omega)
   rw[setSt_out (by omega),setSt_out (by omega),stF_at (by omega),if_neg (by omega),if_neg (by omega)] at this
   exact absurd this (by decide)⟩
  obtain ⟨r3,cF3⟩:=tree_find (N:=N) (a:=a) (w:=w) (x:=freed (After {After (xg S n) 1 512 n k el np b1 with st:=setSt (After (xg S n) 1 512 n k el np b1).st (512+n) (512+n+n) 1} 2 (512+n) n k el np b2) 1 ⟨512,n,k,el,np⟩) (p:=p) (n:=n) (q:=512) hp (by omega) hn ff
  exact ⟨_,r3,_,_,by omega,by omega,(One.take (p:=512) (n:=n) (s:=1) o4 (by omega) (by omega) (by decide)).st,cF3⟩
end
theorem classes_any {w:World} (hT:TabW w) (k p:Int) (np:Bool):Calls Tryz.prog 8 #[.int .i64 k, .int .i64 p, .bool np] w fun e w'=>e= .returned (.bool true)∧Below w.heap.size w w':=by
 by_cases hk:k<1∨68≤k
 ·exact classes_out hT k p np hk
 ·obtain ⟨i,rfl⟩:∃i:Nat,k=(i:Int):=⟨k.toNat,by omega⟩
  have h1:1≤i:=by omega
  have h2:i<68:=by omega
  obtain ⟨c,hc⟩:=Go.Proofs.YtdgdhnnakcncoaaGreatDoor.N.table_some h2
  obtain ⟨t1,t2,t3,t4,t5,t6,t7,t8⟩:=Go.Proofs.YtdgdhnnakcncoaaGreatDoor.N.table_at h1 hc
  have he:Go.Proofs.YtdgdhnnakcncoaaGreatDoor.N.elemOf c.pages (i:Int)=some c.size:=by
   unfold Go.Proofs.YtdgdhnnakcncoaaGreatDoor.N.elemOf
   rw[if_neg (by omega),if_neg (by omega),Int.toNat_natCast,hc]
   exact if_pos rfl
  have he':Go.Proofs.YtdgdhnnakcncoaaGreatDoor.N.elemOf (c.pages+1) (i:Int)=none:=by
   unfold Go.Proofs.YtdgdhnnakcncoaaGreatDoor.N.elemOf
   rw[if_neg (by omega),if_neg (by omega),Int.toNat_natCast,hc]
   exact if_neg (by omega)
  have hle:c.size≤c.pages * 8192:=Nat.le_trans (Nat.le_mul_of_pos_left _ t7) t8
  refine classes_walk hT h1 h2 t4 t5 t3 t6 (fun W g h=> ?_) fun N a w=> ?_
  ·obtain ⟨u1,u2,u3,-⟩:=h i c hc
   exact ⟨u1,u2,u3⟩
  ·by_cases d:(0≤p∧p<64)∧c.pages<16
   ·obtain ⟨⟨d1,d2⟩,d3⟩:=d
    obtain ⟨m,rfl⟩:∃m:Nat,p=(m:Int):=⟨p.toNat,by omega⟩
    exact road_cached (by omega) t4 d3 t2 hle t1 t6 he he'
   ·exact road_tree (by omega) t4 t5 t2 hle t1 t6 he he'
end Go.Proofs.YtdgdhnnakcncoaaGreatDoor
