/- Of the proof of HeapCached: texts HIa, HIb, HIc, HId. -/
import Derived.Test.YtdgdhnnakcncoaaGreatDoorK50
namespace Go.Proofs.YtdgdhnnakcncoaaGreatDoor
set_option maxHeartbeats 1600000
open Go.ChangeShapes Go.WideShapes Go.ChangeAt Go.RowKit Go.Proofs.Bt Go.Shelf Go.Proofs.Rx Go.Maps Go.Proofs.Pk
set_option linter.unusedVariables false
set_option linter.unusedSimpArgs false
section
variable {N:Nat} {a:HA} {x:HS} {w W:World} {l:List (Thing N)}
theorem does_cflush {p B H G:Nat} (hp:p<64) (hc:x.c p=(B,H,G)) (hB:B+64≤34359738368) (hG:∀j,G.testBit j=true→H.testBit j=true) (own:∀j,H.testBit j=true→x.st (B+j)=1):
 Does N a w 82 #[pt (a.cb p),pt a.tb] (.tuple #[]) x {x with st:=flushS x.st B H.testBit G.testBit 64,c:=setC x.c p 0 0 0}:=
 does_pg _ _ fun W F h=>pg_cache h hp hc fun O t=>tc_flush t hB hG own
set_option maxRecDepth 100000 in
theorem flush_at {p:Nat} {x1:HS} (hp:p<64) (cF:Does N a w 82 #[pt (a.cb p),pt a.tb] (.tuple #[]) x x1):
 Does N a w 28 #[pt a.hb, .int .i64 (p:Nat)] (.tuple #[]) x x1:=by
 intro W l hs
 have OP:=hide (open_any hs)
 have c1:=(Sep.hb hs).c1
 have cp:=(Sep.hb hs).cc p hp
 have IP:=hide (isP_any (p:Nat) true (decide_eq_true ⟨by omega,by omega⟩))
 have CF:=hide (cF W.drew l (hs.read (drew_below W)))
 have p0:(0:Int)≤(p:Int):=by omega
 have p1:(p:Int)<64:=by omega
 unfold pt at *
 clear hs cF hp
 go_enter Tryz.func28,Tryz.ntmps28
 go_wp2_with fail
 refine (OP.out).mono ?_
 rintro e' W2 ⟨rfl,hw⟩
 rw[hw]
 clear hw W2 OP
 go_wp2_with fail
 refine (IP.out _).mono ?_
 rintro e' W2 ⟨rfl,hw⟩
 rw[hw]
 clear hw W2 IP
 go_wp2_with fail
 refine still_tail 10 (by kernel_rfl) (by kernel_rfl) ?_
 simp only[List.take_succ_cons,List.take_zero,List.drop_succ_cons,List.drop_zero]
 repeat still_step
 refine wpStill_nil ?_
 go_wp2_with fail
 refine CF.out.mono ?_
 rintro e' W2 ⟨rfl,s2⟩
 have S2:=hide s2
 clear s2 CF
 go_wp2_with fail
 go_end0
 exact ⟨rfl,S2.out⟩
theorem flush_not (p:Int) (h:¬(0≤p∧p<64)):Does N a w 28 #[pt a.hb, .int .i64 p] (.tuple #[]) x x:=by
 intro W l hs
 have OP:=hide (open_any hs)
 have IP:=hide (isP_any p false (decide_eq_false h))
 have S:=hide hs
 unfold pt at *
 clear hs h
 go_enter Tryz.func28,Tryz.ntmps28
 go_wp2_with fail
 refine (OP.out).mono ?_
 rintro e' W2 ⟨rfl,hw⟩
 rw[hw]
 clear hw W2 OP
 go_wp2_with fail
 refine (IP.out _).mono ?_
 rintro e' W2 ⟨rfl,hw⟩
 rw[hw]
 clear hw W2 IP
 go_wp2_with fail
 go_end0
 exact ⟨rfl,S.out⟩
end
end Go.Proofs.YtdgdhnnakcncoaaGreatDoor
namespace Go.Proofs.YtdgdhnnakcncoaaGreatDoor
set_option maxHeartbeats 1600000
open Go.ChangeShapes Go.WideShapes Go.ChangeAt Go.RowKit Go.Proofs.Bt Go.Shelf Go.Proofs.Rx Go.Maps Go.Proofs.Pk
set_option linter.unusedVariables false
set_option linter.unusedSimpArgs false
theorem hb_rel {st:Nat→Nat} {B b:Nat} (h:∀j,j<64→(st (B+j)=3↔b≤j)):HB (wd (fun j=>rel st (B+j)) 64) b:=by
 refine ⟨wd_lt _ (Nat.le_refl _),fun j=> ?_⟩
 rw[wd_bit,Bool.eq_iff_iff]
 simp only[Bool.and_eq_true,decide_eq_true_eq]
 unfold rel
 rw[decide_eq_true_eq]
 constructor
 ·intro ⟨h1,h2⟩;exact ⟨(h j h1).1 h2,h1⟩
 ·intro ⟨h1,h2⟩;exact ⟨h2,(h j h2).2 h1⟩
section
variable {N:Nat} {a:HA} {x:HS} {w W:World} {l:List (Thing N)}
theorem fill_find2 {p n b q B G D:Nat} (hD:q/64 * 64=D) (hp:p<64) (hn:n<16) (h1:1≤n) (hc:x.c p=(B,0,G)) (hq:D+64≤34359738368) (hf:First x.st 1 q) (h:HB (wd (fun j=>fre x.st (D+j)) 64) b) (h2:b+n≤64):
 ∃r,Does N a w 180 #[pt a.hb, .int .i64 (p:Nat), .int .u64 (n:Nat)] (.tuple #[rowV (D+b) n r, .int .i64 0]) x
  {x with st:=fillS x.st (D) 64,c:=setC x.c p (D) (andn (wd (fun j=>fre x.st (D+j)) 64) (on1 b n)) (andn (wd (fun j=>rel x.st (D+j)) 64) (on1 b n))}:=by
 subst hD
 obtain ⟨r1,r2⟩:=h.row h1 h2
 have cE:=does_cempty (N:=N) (a:=a) (w:=w) (x:=x) hp
 rw[hc,show decide ((B,(0:Nat),G).2.1=0)=true from rfl] at cE
 have cF:=does_cfill (N:=N) (a:=a) (w:=w) hp hc hf
 have hs:∀B H G B' H' G',setC (setC x.c p B H G) p B' H' G'=setC x.c p B' H' G':=fun B H G B' H' G'=>by
  funext k;unfold setC;by_cases e:k=p
  ·rw[if_pos e,if_pos e]
  ·rw[if_neg e,if_neg e,if_neg e]
 have cA:=does_calloc (N:=N) (a:=a) (w:=w) (x:={x with st:=fillS x.st (q/64 * 64) 64,c:=setC x.c p (q/64 * 64) (wd (fun j=>fre x.st (q/64 * 64+j)) 64) (wd (fun j=>rel x.st (q/64 * 64+j)) 64)})
  hp (show setC x.c p _ _ _ p=(q/64 * 64,wd (fun j=>fre x.st (q/64 * 64+j)) 64,wd (fun j=>rel x.st (q/64 * 64+j)) 64) from if_pos rfl) hq h1 (by omega) b r1 r2
 simp only[hs] at cA
 exact ⟨_,find_1 (fromCache_got (emp:=true) hp hn (Nat.le_trans (cnt_le _ _ _) (by omega)) rfl cE (fun _=>cF) (fun z=>by cases z) cA)⟩
structure PgI (p i:Nat) (x:HS):Prop where
 one:One x (i+1)
 L:x.L=List.replicate i true
 B:x.B= []
 M:∀q:Int,(i:Int)<q→x.M q=none
 gr:x.gr=512
 he:x.he=i
 c:∀k,k≠p→x.c k=(0,0,0)
 how:i=1∧x.st=stF 1∧x.c p=(0,0,0)∨2≤i∧x.st=fillS (stF 1) 512 64∧∃H G,x.c p=(512,H,G)∧HB H i∧HB G i
theorem rep_more (i:Nat):List.replicate i true++ [true]=List.replicate (i+1) true:=by rw[List.replicate_succ']
theorem ci_el:Go.Proofs.YtdgdhnnakcncoaaGreatDoor.N.elemOf 1 ((0:Nat):Int)=some 8192:=by decide
theorem ci_first {p:Nat} (hp:p<64):∃Y,Alc N a w 20 #[pt a.hb, .int .i64 (p:Nat), .int .u64 ((1:Nat):Int), .int .i64 ((0:Nat):Int), .bool true] (.tuple #[.int .i64 1, .int .i64 0]) (x0 []) Y∧∀b,PgI p 1 (Y b)∧(Y b).V 512=1:=by
 obtain ⟨S,r,hS,hr,-,-,cF⟩:=first_find (N:=N) (a:=a) (w:=w) (p:=(p:Nat)) (n:=1) (fi:=[]) (by omega) (by omega)
 have o1:=xg_one (n:=1) (by omega) (by omega) hS hr
 refine ⟨_,one_alloc (cls:=0) (np:=true) o1 (by omega) (by omega) (by omega) (by omega) ci_el cF (id:=1) rfl ⟨by decide,by decide⟩ (by decide) rfl,fun b=>⟨⟨After.one o1 (by omega) (by omega) (by omega),rfl,rfl,fun q hq=> ?_,rfl,rfl,fun k _=>rfl, .inl ⟨rfl,rfl,rfl⟩⟩,rfl⟩⟩
 show putM _ 1 b _ q=none
 unfold putM
 rw[if_neg (by omega)];rfl
theorem ci_next {p i:Nat} (hp:p<64) (h:PgI p i x) (hi:i<60):∃Y,Alc N a w 20 #[pt a.hb, .int .i64 (p:Nat), .int .u64 ((1:Nat):Int), .int .i64 ((0:Nat):Int), .bool true] (.tuple #[.int .i64 ((i:Int)+1), .int .i64 0]) x Y∧∀b,PgI p (i+1) (Y b)∧(Y b).V (512+ i)=(i:Int)+1:=by
 obtain ⟨x1,r,hF,h1,h2,h3,h4,h5,h6,h7,h8⟩:∃x1 r,Does N a w 180 #[pt a.hb, .int .i64 (p:Nat), .int .u64 ((1:Nat):Int)] (.tuple #[rowV (512+ i) 1 r, .int .i64 0]) x x1∧One x1 (i+1)∧x1.L=x.L∧x1.B=x.B∧x1.M=x.M∧x1.gr=x.gr∧x1.he=x.he∧(∀k,k≠p→x1.c k=x.c k)∧x1.st=fillS (stF 1) 512 64∧∃H G,x1.c p=(512,H,G)∧HB H (i+1)∧HB G (i+1):=by
  rcases h.how with ⟨rfl,e1,e2⟩|⟨g2,e1,H,G,e2,e3,e4⟩
  ·obtain ⟨r2,cF2⟩:=fill_find2 (N:=N) (a:=a) (w:=w) (x:=x) (p:=p) (n:=1) (b:=1) (q:=513) (D:=512) (by omega) hp (by omega) (by omega) (B:=0) (G:=0) e2 (by omega) (by rw[e1];exact stF_first (n:=1) (by omega) (by omega) (by omega)) (by rw[e1];exact stF_fill (by omega)) (by omega)
   refine ⟨_,r2,cF2,One.fill h.one,rfl,rfl,rfl,rfl,rfl,fun k hk=>if_neg hk,by rw[e1],_,_,if_pos rfl,?_,?_⟩
   ·rw[e1];exact (stF_fill (n:=1) (by omega)).next (n:=1)
   ·rw[e1]
    refine (hb_rel (b:=1) fun j hj=> ?_).next (n:=1)
    rw[stF_at (by omega)]
    by_cases c:1≤j
    ·rw[if_neg (by omega),if_pos (by omega)];exact ⟨fun _=>c,fun _=>rfl⟩
    ·rw[if_pos (by omega)];exact ⟨fun u=>by omega,fun u=>absurd u c⟩
  ·obtain ⟨r2,cF2⟩:=cache_find (N:=N) (a:=a) (w:=w) (x:=x) (p:=p) (n:=1) (b:=i) (B:=512) (H:=H) (G:=G) hp (by omega) (by omega) e2 (by omega) e3 (by omega)
   exact ⟨_,r2,cF2,One.cache h.one,rfl,rfl,rfl,rfl,rfl,fun k hk=>if_neg hk,e1,_,_,if_pos rfl,e3.next,e4.next⟩
 refine ⟨_,one_alloc (cls:=0) (np:=true) h1 (by omega) (by omega) (by omega) (by omega) ci_el hF (id:=(i:Int)+1) (by rw[h2,h3,h.L,h.B];show ((List.replicate i true).length:Int)+1=_;rw[List.length_replicate]) ⟨by omega,by omega⟩ (by omega) (by rw[h4];exact h.M _ (by omega)),fun b=>⟨⟨After.one h1 (by omega) (by omega) (by omega),?_,?_,fun q hq=> ?_,h5.trans h.gr,?_,fun k hk=>(h7 k hk).trans (h.c k hk), .inr ⟨?_,h8⟩⟩,?_⟩⟩
 ·show F.takeL x1.L x1.B=_
  rw[h2,h3,h.L,h.B];exact rep_more i
 ·show x1.B.tail= []
  rw[h3,h.B];rfl
 ·show putM x1.M _ b _ q=none
  unfold putM
  rw[if_neg (by omega),h4];exact h.M q (by omega)
 ·show x1.he+1=_
  rw[h6,h.he]
 ·rcases h.how with ⟨g,-⟩|⟨g,-⟩<;>omega
 ·exact if_pos ⟨Nat.le_refl _,by omega⟩
end
end Go.Proofs.YtdgdhnnakcncoaaGreatDoor
namespace Go.Proofs.YtdgdhnnakcncoaaGreatDoor
set_option maxHeartbeats 1600000
open Go.ChangeShapes Go.WideShapes Go.ChangeAt Go.RowKit Go.Proofs.Bt Go.Shelf Go.Proofs.Rx Go.Maps Go.Proofs.Pk
set_option linter.unusedVariables false
set_option linter.unusedSimpArgs false
theorem relS_zero {c:CC} (h:∀k,c k=(0,0,0)):∀k,relS c k=0
 |0=>rfl
 |k+1=>by
  show relS c k+pc (tG (c k))=0
  rw[relS_zero h k,h k,show tG (0,0,0)=0 from rfl,pc_cnt 64 _ (by omega),cnt_none (fun j _=>Nat.zero_testBit _)]
theorem stF_rel {n:Nat} (hn:n≤512):rlT (stF n)=512 - n:=by
 have t1:=(tot_set (st:=fun _=>0) (a:=512) (n:=512) (s:=3) (by omega)).2
 have t2:=(tot_set (st:=setSt (fun _=>0) 512 (512+512) 3) (a:=512) (n:=n) (s:=1) (by omega)).2
 rw[tl_all (s:=0) (fun _ _ _=>rfl),tot_zero.2] at t1
 rw[tl_all (s:=3) (fun q q1 q2=>setSt_in ⟨q1,by omega⟩)] at t2
 have e0:(tlOf 0 512).r=0:=rfl
 have e1:(tlOf 3 n).r=n:=rfl
 rw[e0,if_pos rfl] at t1
 rw[e1,if_neg (by omega)] at t2
 show rlT (setSt (setSt (fun _=>0) 512 (512+512) 3) 512 (512+n) 1)=_
 omega
section
variable {N:Nat} {a:HA} {x:HS} {w W:World} {l:List (Thing N)} {p n:Nat}
theorem PgI.cok (h:PgI p n x):COk x.c:=fun k hk=>by
 by_cases e:k=p
 ·rw[e]
  rcases h.how with ⟨-,-,e2⟩|⟨-,-,H,G,e2,e3,e4⟩
  ·rw[e2];exact ⟨by show 0≤_;omega,by show 0<_;omega,by show 0<_;omega⟩
  ·rw[e2];exact ⟨by show 512≤_;omega,e3.lt,e4.lt⟩
 ·rw[h.c k e];exact ⟨by show 0≤_;omega,by show 0<_;omega,by show 0<_;omega⟩
theorem PgI.owner (h:PgI p n x) (hp:p<64) (hn:2≤n) {k:Nat} (k1:512+n≤k) (k2:k<576):Does N a w 27 #[pt a.hb, .int .u64 (k:Nat)] (.tuple #[.int .i64 2, .int .i64 (p:Nat)]) x x:=by
 rcases h.how with ⟨g,-⟩|⟨-,e1,H,G,e2,e3,e4⟩
 ·omega
 ·have s1:x.st k=1:=by rw[e1,fF_at (by omega),if_pos (by omega)]
  refine owner_used (p:=p) (f:=true) (by omega) (by show decide (x.st k≠0)=true;rw[s1];rfl) (by show decide (2≤x.st k)=false;rw[s1];rfl) h.cok (.inl ⟨hp,rfl,?_,fun j hj=> ?_⟩) rfl
  ·rw[e2]
   show (decide (512≤k)&&H.testBit (k - 512))=true
   rw[e3.bit,decide_eq_true (show 512≤k by omega),decide_eq_true (by omega)];rfl
  ·rw[h.c j (by omega)]
   show (decide (0≤k)&&Nat.testBit 0 (k - 0))=false
   rw[Nat.zero_testBit,Bool.and_false]
theorem PgI.flush (h:PgI p n x) (hp:p<64) (hn:2≤n) (hn2:n≤60):∃x',Does N a w 28 #[pt a.hb, .int .i64 (p:Nat)] (.tuple #[]) x x'∧
 (∀k,512+n≤k→k<600→Does N a w 27 #[pt a.hb, .int .u64 (k:Nat)] (.tuple #[.int .i64 1, .int .i64 0]) x' x')∧
 Does N a w 25 #[pt a.hb] (.tuple #[.int .u64 512, .int .u64 (n:Nat), .int .u64 ((512 - n:Nat):Int)]) x' x':=by
 rcases h.how with ⟨g,-⟩|⟨-,e1,H,G,e2,e3,e4⟩
 ·omega
 ·have hst:flushS x.st 512 H.testBit G.testBit 64=stF n:=by
   funext q
   unfold flushS
   rw[e1,fF_at (by omega),stF_at (by omega),e3.bit,e4.bit]
   by_cases c:512≤q∧q<576
   ·by_cases d:n≤q - 512
    ·have b:decide (n≤q - 512∧q - 512<64)=true:=decide_eq_true ⟨d,by omega⟩
     rw[if_pos ⟨c.1,by omega,b⟩,if_pos b,if_neg (by omega),if_pos (by omega)]
    ·have b:¬decide (n≤q - 512∧q - 512<64)=true:=fun u=>d (of_decide_eq_true u).1
     rw[if_neg (fun u=>b u.2.2),if_pos c,if_pos (by omega)]
   ·rw[if_neg (fun u=>c ⟨u.1,by omega⟩),if_neg c,if_neg (c:=512≤q∧q<512+n) (by omega)]
  have cF:=flush_at hp (does_cflush (N:=N) (a:=a) (w:=w) hp e2 (by omega) (fun j hj=>by rw[e3.bit];rw[e4.bit] at hj;exact hj) (fun j hj=>by
   rw[e3.bit] at hj
   have:=of_decide_eq_true hj
   rw[e1,fF_at (by omega),if_pos (by omega)]))
  rw[hst] at cF
  have cz:∀k,setC x.c p 0 0 0 k=(0,0,0):=fun k=>by
   unfold setC
   by_cases e:k=p
   ·exact if_pos e
   ·rw[if_neg e];exact h.c k e
  refine ⟨_,cF,fun k k1 k2=> ?_,?_⟩
  ·have s3:stF n k=3:=by rw[stF_at (by omega),if_neg (by omega),if_pos (by omega)]
   exact owner_free (by omega) (by show decide (stF n k≠0)=true;rw[s3];rfl) (by show decide (2≤stF n k)=true;rw[s3];rfl)
  ·have gv:goneV {x with st:=stF n,c:=setC x.c p 0 0 0}=512 - n:=by
    show rlT (stF n)+relS (setC x.c p 0 0 0) 64=_
    rw[stF_rel (by omega),relS_zero cz];rfl
   have t:=told_any (N:=N) (a:=a) (w:=w) (x:={x with st:=stF n,c:=setC x.c p 0 0 0}) (fun k hk=>by
    show (setC x.c p 0 0 0 k).1≤_∧(setC x.c p 0 0 0 k).2.1<_∧(setC x.c p 0 0 0 k).2.2<_
    rw[cz k];exact ⟨by show 0≤_;omega,by show 0<_;omega,by show 0<_;omega⟩) (by rw[gv];omega)
   have hv:Value.tuple #[.int .u64 (({x with st:=stF n,c:=setC x.c p 0 0 0}:HS).gr:Nat), .int .u64 (({x with st:=stF n,c:=setC x.c p 0 0 0}:HS).he:Nat), .int .u64 (goneV {x with st:=stF n,c:=setC x.c p 0 0 0}:Nat)]= .tuple #[.int .u64 512, .int .u64 (n:Nat), .int .u64 ((512 - n:Nat):Int)]:=by
    rw[gv]
    show Value.tuple #[.int .u64 (x.gr:Nat), .int .u64 (x.he:Nat),_]=_
    rw[h.gr,h.he];rfl
   rw[hv] at t
   exact t
end
end Go.Proofs.YtdgdhnnakcncoaaGreatDoor
namespace Go.Proofs.YtdgdhnnakcncoaaGreatDoor
set_option maxHeartbeats 1600000
open Go.ChangeShapes Go.WideShapes Go.ChangeAt Go.RowKit Go.Proofs.Bt Go.Shelf Go.Proofs.Rx Go.Maps Go.Proofs.Pk
set_option linter.unusedVariables false
set_option linter.unusedSimpArgs false
def Ro (N:Nat) (a:HA) (w:World) (p i:Nat) (W:World):Prop:=(i=0∧Sep N w W (HL N a (x0 []) []))∨1≤i∧∃x,PgI p i x∧Sep N w W (HL N a x [])
theorem Ro.be {N p i:Nat} {a:HA} {w W:World} (h:Ro N a w p i W):Below N w W:=by
 rcases h with ⟨-,h⟩|⟨-,x,-,h⟩
 ·exact h.be
 ·exact h.be
theorem Ro.next {N p i:Nat} {a:HA} {w W:World} (h:Ro N a w p i W) (hp:p<64) (hi:i<60):
 Calls Tryz.prog 20 #[pt a.hb, .int .i64 (p:Nat), .int .u64 1, .int .i64 0, .bool true] W fun e W'=>e= .returned (.tuple #[.int .i64 ((i:Int)+1), .int .i64 0])∧
  (Ro N a w p (i+1) W'∧∀W2,Below W'.heap.size W' W2→Calls Tryz.prog 26 #[pt a.hb, .int .u64 ((512+(i:Int)) * 8192)] W2 fun e W'=>e= .returned (.int .i64 ((i:Int)+1))∧Ro N a w p (i+1) W'):=by
 have key:∀(x:HS) (b:Nat),PgI p (i+1) x→x.V (512+ i)=(i:Int)+1→∀W',Sep N w W' (HL N a x [])→Ro N a w p (i+1) W'∧∀W2,Below W'.heap.size W' W2→Calls Tryz.prog 26 #[pt a.hb, .int .u64 ((512+(i:Int)) * 8192)] W2 fun e W'=>e= .returned (.int .i64 ((i:Int)+1))∧Ro N a w p (i+1) W':=fun x b h1 h2 W' s=>by
  refine ⟨.inr ⟨by omega,x,h1,s⟩,fun W2 hb=> ?_⟩
  have o:=of_any (N:=N) (a:=a) (w:=w) (x:=x) (b:=(512+ i) * 8192) (by omega) W2 [] (s.read hb)
  rw[show (512+ i) * 8192/8192=512+ i by omega,h2,show (((512+ i) * 8192:Nat):Int)=(512+(i:Int)) * 8192 by omega] at o
  exact o.mono fun e W3 ⟨e1,s3⟩=>⟨e1, .inr ⟨by omega,x,h1,s3⟩⟩
 rcases h with ⟨rfl,s⟩|⟨h1,x,hx,s⟩
 ·obtain ⟨Y,hA,hY⟩:=ci_first (N:=N) (a:=a) (w:=w) hp
  exact (hA W [] s).mono fun e W' ⟨e1,b,s1⟩=>⟨e1,key (Y b) b (hY b).1 (hY b).2 W' s1⟩
 ·obtain ⟨Y,hA,hY⟩:=ci_next (N:=N) (a:=a) (w:=w) hp hx hi
  exact (hA W [] s).mono fun e W' ⟨e1,b,s1⟩=>⟨e1,key (Y b) b (hY b).1 (hY b).2 W' s1⟩
set_option maxRecDepth 100000 in
theorem cached_out (w:World) (p n:Int) (h:p<0∨63<p∨n<2∨60<n):Calls Tryz.prog 5 #[.int .i64 p, .int .i64 n] w fun e w'=>e= .returned (.bool true)∧Below w.heap.size w w':=by
 have B:=hide (Below.refl w.heap.size w)
 have q:decide (p<0)=true∨decide (p<0)=false∧(decide (63<p)=true∨decide (63<p)=false∧(decide (n<2)=true∨decide (n<2)=false∧decide (60<n)=true)):=by
  by_cases c1:p<0
  ·exact .inl (decide_eq_true c1)
  ·refine .inr ⟨decide_eq_false c1,?_⟩
   by_cases c2:63<p
   ·exact .inl (decide_eq_true c2)
   ·refine .inr ⟨decide_eq_false c2,?_⟩
    by_cases c3:n<2
    ·exact .inl (decide_eq_true c3)
    ·exact .inr ⟨decide_eq_false c3,decide_eq_true (by omega)⟩
 clear h
 rcases q with q|⟨q,q|⟨q1,q|⟨q2,q3⟩⟩⟩<;>
 ·go_enter Tryz.func5,Tryz.ntmps5
  go_wp2_with fail
  go_ret
  exact ⟨rfl,B.out⟩
set_option maxRecDepth 100000 in
theorem cached_any {w:World} (hT:TabW w) {p n:Nat} (hp:p<64) (hn:2≤n) (hn2:n≤60):Calls Tryz.prog 5 #[.int .i64 (p:Nat), .int .i64 (n:Nat)] w fun e w'=>e= .returned (.bool true)∧Below w.heap.size w w':=by
 have CFr:=hide (fresh_any hT (V.Sl.nil w) (V.Sl.nil w) (V.Sl.nil w) (pl:=[]) (re:=[]) (fi:=[]) (by simp) (by simp) (by simp) (by simp) (by simp))
 have HT:=hide hT
 have d1:decide ((p:Int)<0)=false:=decide_eq_false (by omega)
 have d2:decide (63<(p:Int))=false:=decide_eq_false (by omega)
 have d3:decide ((n:Int)<2)=false:=decide_eq_false (by omega)
 have d4:decide (60<(n:Int))=false:=decide_eq_false (by omega)
 have n0:(2:Int)≤(n:Int):=by omega
 have n1:(n:Int)≤60:=by omega
 have w0:IntKind.i64.wrap (512+(n:Int))=512+(n:Int):=by rw[IntKind.wrap_i64];omega
 have HP:=hide hp
 clear hT
 go_enter Tryz.func5,Tryz.ntmps5
 go_wp2_with fail
 refine CFr.out.mono ?_
 rintro e W2 ⟨a,rfl,s2⟩
 have R0:=hide (show Ro w.heap.size a w p 0 W2 from .inl ⟨rfl,s2⟩)
 clear s2 CFr d1 d2 d3 d4 hp
 unfold pt at *
 go_wp2_with fail
 go_loopw [6] (fun iv wr=>∃i:Nat,iv= .int .i64 (i:Nat)∧i≤n∧Hid (Ro w.heap.size a w p i wr)) (fun iv _=>(n - intOf iv).toNat)
 case atStart=>exact ⟨0,rfl,by omega,R0⟩
 case round=>
  clear R0
  obtain ⟨i,rfl,i1,HE⟩:=hrel
  have i2:(0:Int)≤(i:Int):=by omega
  have i3:(i:Int)≤60:=by omega
  by_cases hi:(i:Int)<(n:Int)
  ·have CA:=hide (HE.out.next HP.out (by omega))
   have u1:IntKind.i64.wrap ((i:Int)+1)=(i:Int)+1:=by rw[IntKind.wrap_i64];omega
   have u2:IntKind.i64.wrap (512+(i:Int))=512+(i:Int):=by rw[IntKind.wrap_i64];omega
   have u3:IntKind.u64.wrap (512+(i:Int))=512+(i:Int):=by rw[IntKind.wrap_u64];omega
   have u4:IntKind.u64.wrap ((512+(i:Int)) * 8192)=(512+(i:Int)) * 8192:=by rw[IntKind.wrap_u64];omega
   unfold pt at CA
   clear HE
   go_wp2_with fail
   refine CA.out.mono ?_
   rintro e W3 ⟨rfl,r3,co⟩
   have CO:=hide co
   clear CA r3 co
   go_wp2_with fail
   refine (CO.out _ (Below.refl _ _)).mono ?_
   rintro e W4 ⟨rfl,r4⟩
   have R4:=hide r4
   clear CO r4
   go_wp2_with fail
   go_roundw
   case rel=>exact ⟨i+1,by push_cast;rfl,by omega,R4⟩
   case measure=>simp[intOf];omega
  ·have hd:decide ((i:Int)<(n:Int))=false:=decide_eq_false hi
   obtain rfl:i=n:=by omega
   obtain ⟨x,hx,s⟩:∃x,PgI p i x∧Sep w.heap.size w wr (HL w.heap.size a x []):=by
    rcases HE.out with ⟨z,-⟩|⟨-,u⟩
    ·omega
    ·exact u
   obtain ⟨x',cF,cO,cP⟩:=hx.flush (N:=w.heap.size) (a:=a) (w:=w) HP.out (by omega) (by omega)
   have OW:=hide (show ∀k W,512+ i≤k→k<576→Sep w.heap.size w W (HL w.heap.size a x [])→_ from fun k W h1 h2 s=>hx.owner (N:=w.heap.size) (a:=a) (w:=w) HP.out (by omega) h1 h2 W [] s)
   have CN:=hide (flush_not (N:=w.heap.size) (a:=a) (w:=w) (x:=x') (-1) (by omega))
   rw[show ((512 - i:Nat):Int)=512 -(i:Int) by omega] at cP
   have CF:=hide cF
   have CO:=hide cO
   have CP:=hide cP
   have S0:=hide s
   have wn:IntKind.u64.wrap (i:Int)=i:=by rw[IntKind.wrap_u64];omega
   have wd:IntKind.u64.wrap (512 -(i:Int))=512 -(i:Int):=by rw[IntKind.wrap_u64];omega
   clear HE s hx cF cO cP hi
   go_wp2_with fail
   go_loopw [9] (fun iv wr=>∃k:Nat,iv= .int .i64 (k:Nat)∧512+ i≤k∧k≤576∧Hid (Sep w.heap.size w wr (HL w.heap.size a x []))) (fun iv _=>(576 - intOf iv).toNat)
   case atStart=>exact ⟨512+ i,by rw[show ((512+ i:Nat):Int)=512+(i:Int) by omega],by omega,by omega,S0⟩
   case round=>
    clear S0
    obtain ⟨k,rfl,k1,k2,HS⟩:=hrel
    have k3:(0:Int)≤(k:Int):=by omega
    have k4:(k:Int)≤576:=by omega
    by_cases hk:(k:Int)<576
    ·have CA:=hide (OW.out k wr k1 (by omega) HS.out)
     have u1:IntKind.i64.wrap ((k:Int)+1)=(k:Int)+1:=by rw[IntKind.wrap_i64];omega
     have u3:IntKind.u64.wrap (k:Int)=(k:Int):=by rw[IntKind.wrap_u64];omega
     unfold pt at CA
     clear HS CF CO CP CN
     go_wp2_with fail
     refine CA.out.mono ?_
     rintro e W3 ⟨rfl,s3⟩
     have S3:=hide s3
     clear CA s3
     go_wp2_with fail
     go_roundw
     case rel=>exact ⟨k+1,by push_cast;rfl,by omega,by omega,S3⟩
     case measure=>simp[intOf];omega
    ·have hd2:decide ((k:Int)<576)=false:=decide_eq_false hk
     have CA:=hide (CF.out wr [] HS.out)
     unfold pt at CA
     clear HS CF OW hk k1 k2 k3 k4
     go_wp2_with fail
     refine CA.out.mono ?_
     rintro e W3 ⟨rfl,s3⟩
     have CB:=hide (CN.out W3 [] s3)
     unfold pt at CB
     clear CA CN s3
     go_wp2_with fail
     refine CB.out.mono ?_
     rintro e W4 ⟨rfl,s4⟩
     have S4:=hide s4
     clear CB s4
     go_wp2_with fail
     go_loopw [12] (fun iv wr=>∃k:Nat,iv= .int .i64 (k:Nat)∧512+ i≤k∧k≤600∧Hid (Sep w.heap.size w wr (HL w.heap.size a x' []))) (fun iv _=>(600 - intOf iv).toNat)
     case atStart=>exact ⟨512+ i,by rw[show ((512+ i:Nat):Int)=512+(i:Int) by omega],by omega,by omega,S4⟩
     case round=>
      clear S4
      obtain ⟨j,rfl,k1,k2,HS⟩:=hrel
      have k3:(0:Int)≤(j:Int):=by omega
      have k4:(j:Int)≤600:=by omega
      by_cases hj:(j:Int)<600
      ·have CA:=hide (CO.out j k1 (by omega) wr [] HS.out)
       have u1:IntKind.i64.wrap ((j:Int)+1)=(j:Int)+1:=by rw[IntKind.wrap_i64];omega
       have u3:IntKind.u64.wrap (j:Int)=(j:Int):=by rw[IntKind.wrap_u64];omega
       unfold pt at CA
       clear HS CO CP
       go_wp2_with fail
       refine CA.out.mono ?_
       rintro e W5 ⟨rfl,s5⟩
       have S5:=hide s5
       clear CA s5
       go_wp2_with fail
       go_roundw
       case rel=>exact ⟨j+1,by push_cast;rfl,by omega,by omega,S5⟩
       case measure=>simp[intOf];omega
      ·have hd3:decide ((j:Int)<600)=false:=decide_eq_false hj
       have CA:=hide (CP.out wr [] HS.out)
       unfold pt at CA
       clear HS CP CO hj k1 k2 k3 k4
       go_wp2_with fail
       refine CA.out.mono ?_
       rintro e W5 ⟨rfl,s5⟩
       have BE:=hide s5.be
       have CW:=hide (awake_any (w:=W5) (HT.out.below s5.be))
       clear CA s5
       go_wp2_with fail
       refine CW.out.mono ?_
       rintro e W6 ⟨rfl,b6⟩
       have BF:=hide (BE.out.trans (b6.mono BE.out.size))
       clear CW b6 BE
       go_wp2_with fail
       go_ret
       exact ⟨rfl,BF.out⟩
theorem cached_all {w:World} (hT:TabW w) (p n:Int):Calls Tryz.prog 5 #[.int .i64 p, .int .i64 n] w fun e w'=>e= .returned (.bool true)∧Below w.heap.size w w':=by
 by_cases h:p<0∨63<p∨n<2∨60<n
 ·exact cached_out w p n h
 ·obtain ⟨i,rfl⟩:∃i:Nat,p=(i:Int):=⟨p.toNat,by omega⟩
  obtain ⟨j,rfl⟩:∃j:Nat,n=(j:Int):=⟨n.toNat,by omega⟩
  exact cached_any hT (by omega) (by omega) (by omega)
end Go.Proofs.YtdgdhnnakcncoaaGreatDoor
