/- Of the proof of HeapGrows: texts HHh, HHi, HHn, HHo. -/
import Derived.Test.YtdgdhnnakcncoaaGreatDoorJ47
import Derived.Test.YtdgdhnnakcncoaaGreatDoorJ62
import Derived.Test.YtdgdhnnakcncoaaGreatDoorJ61
import Derived.Test.YtdgdhnnakcncoaaGreatDoorJ59
import Derived.Test.YtdgdhnnakcncoaaGreatDoorJ57
import Derived.Deep.MidRow
import Derived.Great.Walk
namespace Go.Proofs.YtdgdhnnakcncoaaGreatDoor
set_option maxHeartbeats 1600000
open Go.ChangeShapes Go.WideShapes Go.ChangeAt Go.RowKit Go.Proofs.Bt Go.Shelf Go.Proofs.Rx Go.Maps Go.Proofs.Pk
set_option linter.unusedVariables false
set_option linter.unusedSimpArgs false
section
variable {N:Nat} {a:HA} {x x1 x2:HS} {w W:World} {l:List (Thing N)}
theorem alc1 {W:World} {q1 q2 q3:Nat} {pg n k:Int} {np:Bool} (b1:W.cell? ⟨q1,0,none⟩=some (.int .u64 n)) (b2:W.cell? ⟨q2,0,none⟩=some (.int .i64 k)) (b3:W.cell? ⟨q3,0,none⟩=some (.bool np)) {R:Ending→World→Prop}
 (c:Calls Tryz.prog 69 #[.int .u64 pg, .int .u64 n, .int .i64 k, .bool np] W fun e W'=>R e W'∧∃v e',e= .returned (.tuple #[v, .int .i64 e'])):
 Calls Tryz.prog 68 #[.int .u64 pg, .pointer (some ⟨q1,0,none⟩), .pointer (some ⟨q2,0,none⟩), .pointer (some ⟨q3,0,none⟩)] W R:=by
 have CC:=hide c
 clear c
 go_enter Tryz.func68,Tryz.ntmps68
 go_wp2_with fail
 refine CC.out.mono ?_
 rintro e W' ⟨r,v,e',rfl⟩
 have RR:=hide r
 clear r CC
 go_wp2_with fail
 exact RR.out
def bx3 (A0:Nat) (n k:Int) (np:Bool):List Bx:=[(A0,39,#[.int .u64 n]),(A0+1,3,#[.int .i64 k]),(A0+1+1,4,#[.bool np])]
set_option maxRecDepth 100000 in
theorem alloc_core {p n k:Int} {np:Bool} {R:Ending→World→Prop} (hs:Sep N w W (HL N a x l)) (hR:∀v e W',R (.returned (.tuple #[v,e])) W'→True)
 (c:∀W' A0,A0=W.heap.size→Sep N w W' (HL N a x (l++ [tFr N (bx3 A0 n k np)]))→Calls Tryz.prog 67 #[pt a.hb, .int .i64 p, .int .u64 n,CutV A0 (A0+1) (A0+1+1)] W' fun e W'=>R e W'∧∃v e',e= .returned (.tuple #[.int .i64 v, .int .i64 e'])):
 Calls Tryz.prog 20 #[pt a.hb, .int .i64 p, .int .u64 n, .int .i64 k, .bool np] W R:=by
 obtain ⟨A0,hA0⟩:∃A0,W.heap.size=A0:=⟨_,rfl⟩
 have S0:=((hs.fr.fnew #[.int .u64 n] 39).fnew #[.int .i64 k] 3).fnew #[.bool np] 4
 obtain ⟨W1,hW1⟩:∃W1,((W.alloc (.cells #[.int .u64 n] 39)).alloc (.cells #[.int .i64 k] 3)).alloc (.cells #[.bool np] 4)=W1:=⟨_,rfl⟩
 have y1:(W.alloc (.cells #[.int .u64 n] 39)).heap.size=A0+1:=by rw[World.size_alloc,hA0]
 have y2:((W.alloc (.cells #[.int .u64 n] 39)).alloc (.cells #[.int .i64 k] 3)).heap.size=A0+1+1:=by rw[World.size_alloc,y1]
 rw[hW1,y1,y2,hA0] at S0
 have S1:Sep N w W1 (HL N a x (l++ [tFr N (bx3 A0 n k np)])):=S0
 have k0:W1.cell? ⟨A0,0,none⟩=some (.int .u64 n):=(S0.fget 0 rfl).cell 0 _ rfl
 have CC:=hide (c W1 A0 hA0.symm S1)
 have mf:∀(fn:Fn) (first cap:Array Value) (w:World),(Instr.makeFunc fn first cap).run Tryz.prog w= .ok (.func fn first cap) w:=fun _ _ _ _=>rfl
 unfold pt CutV at CC
 unfold pt
 clear S0 S1 hs c hR y1 y2
 go_enter Tryz.func20,Tryz.ntmps20
 go_wp2_with fail
 refine CC.out.mono ?_
 rintro e W' ⟨r,v,e',rfl⟩
 have RR:=hide r
 clear r CC
 go_wp2_with fail
 exact RR.out
theorem bx3_at {W:World} {A0:Nat} {n k:Int} {np:Bool} (h:Sep N w W (HL N a x (l++ [tFr N (bx3 A0 n k np)]))):W.cell? ⟨A0,0,none⟩=some (.int .u64 n)∧W.cell? ⟨A0+1,0,none⟩=some (.int .i64 k)∧W.cell? ⟨A0+1+1,0,none⟩=some (.bool np):=by
 have h':Sep N w W (HL N a x l++ [tFr N (bx3 A0 n k np)]):=h
 exact ⟨(h'.fget 0 rfl).cell 0 _ rfl,(h'.fget 1 rfl).cell 0 _ rfl,(h'.fget 2 rfl).cell 0 _ rfl⟩
theorem alloc_ok {p:Int} {n pg cls el:Nat} {np:Bool} {id:Int} {V':Nat→Int} (hr0:Go.Proofs.YtdgdhnnakcncoaaGreatDoor.N.rpB 0 n=true) (hr:Go.Proofs.YtdgdhnnakcncoaaGreatDoor.N.rpB pg n=true) (he:Go.Proofs.YtdgdhnnakcncoaaGreatDoor.N.elemOf n (cls:Nat)=some el)
 (cg:Does N a w 121 #[pt a.hb, .int .i64 p, .int .u64 (n:Nat)] (.tuple #[.int .u64 (pg:Nat), .int .i64 0]) x x1)
 (ct:Does N a w 122 #[pt a.fb] (.int .i64 id) x1 x2) (hM:x2.M id=none) (hn:x2.n<1000000) (hid:okI id) (hhe:x2.he+n<18446744073709551616)
 (cs:∀Q M k he,Does N a w 87 #[pt a.ab, .int .u64 (pg:Nat), .int .u64 (n:Nat), .int .i64 id] (.int .i64 0) {x2 with Q:=Q,M:=M,n:=k,he:=he} {x2 with Q:=Q,M:=M,n:=k,he:=he,V:=V'}):
 Alc N a w 20 #[pt a.hb, .int .i64 p, .int .u64 (n:Nat), .int .i64 (cls:Nat), .bool np] (.tuple #[.int .i64 id, .int .i64 0]) x (fun sb=>{x2 with Q:=putQ x2.Q id sb,M:=putM x2.M id sb ⟨pg,n,cls,el,np⟩,n:=x2.n+1,he:=x2.he+n,V:=V'}):=by
 intro W l hs
 refine alloc_core hs (fun _ _ _ _=>trivial) fun W' A0 _ s1=> ?_
 have n0:=Go.Proofs.YtdgdhnnakcncoaaGreatDoor.N.new_made 0 n (cls:Nat) np el hr0 he
 rw[show ((0:Nat):Int)=0 from rfl] at n0
 refine (newSpan_ok (g:=⟨pg,n,cls,el,np⟩) s1 (fun W' h=> ?_) cg (fun W' h=> ?_) ct hM hn hid hhe cs).mono fun e W2 ⟨h1,sb,h2⟩=> ?_
 ·obtain ⟨b1,b2,b3⟩:=bx3_at h
  exact alc1 b1 b2 b3 ((n0 W').mono fun e W2 ⟨sb,h1,h2,h3,h4⟩=>⟨⟨⟨_,h1⟩,h4⟩,_,_,h1⟩)
 ·obtain ⟨b1,b2,b3⟩:=bx3_at h
  exact alc1 b1 b2 b3 ((Go.Proofs.YtdgdhnnakcncoaaGreatDoor.N.new_made pg n (cls:Nat) np el hr he W').mono fun e W2 ⟨sb,h1,h2,h3,h4⟩=>⟨⟨sb,h1,h2,h3,h4⟩,_,_,h1⟩)
 ·exact ⟨⟨h1,sb,Sep.unfr (l:=HL N a _ l) h2⟩,_,_,h1⟩
end
section
variable {N:Nat} {a:HA} {x x1 x2:HS} {w W:World} {l:List (Thing N)} {f:FuncId} {args:Array Value} {v:Value}
theorem Does.to {x':HS} (h:Does N a w f args v x x1) (e:x1=x'):Does N a w f args v x x':=e▸h
theorem does_pg (st':Nat→Nat) (c':CC) (ct:∀W F,(tPg N a.tb a.cb 64 x.st x.c).P W F→Calls Tryz.prog f args W fun e W'=>e= .returned v∧∃F',(tPg N a.tb a.cb 64 st' c').P W' F'∧To W W' F F'):
 Does N a w f args v x {x with st:=st',c:=c'}:=fun W l hs=>hs.step 2 (by rw[HL.len];omega) (tPg N a.tb a.cb 64 st' c') (ct W)
theorem does_talloc {n p:Nat} (hn:n<18446744073709551616) (h1:1≤n) (hf:First x.st n p):
 Does N a w 279 #[pt a.tb, .int .u64 (n:Nat)] (.tuple #[.int .u64 (p:Nat), .int .u64 ((tl x.st p n).r:Nat), .int .i64 0]) x {x with st:=setSt x.st p (p+n) 1}:=
 does_pg _ x.c fun W F h=>pg_tree h fun O t=>t9_alloc t n p hn h1 hf
theorem does_talloc_no {n:Nat} (hn:n<18446744073709551616) (h1:1≤n) (hf:∀p,¬Run x.st p n):
 Does N a w 279 #[pt a.tb, .int .u64 (n:Nat)] (.tuple #[.int .u64 0, .int .u64 0, .int .i64 30]) x x:=
 does_pg x.st x.c fun W F h=>pg_tree h fun O t=>t9_alloc_no t n hn h1 hf
theorem does_tgrow {c n:Nat} (hb:¬GrowBad c n) (ht:(tl x.st (c * 512) (n * 512)).p=0):
 Does N a w 281 #[pt a.tb, .int .u64 (c:Nat), .int .u64 (n:Nat)] (.int .i64 0) x {x with st:=setSt x.st (c * 512) (c * 512+n * 512) 3}:=
 does_pg _ x.c fun W F h=>pg_tree h fun O t=>t9_grow t c n hb ht
theorem does_tstate {q:Nat} (hq:q<18446744073709551616):
 Does N a w 79 #[pt a.tb, .int .u64 (q:Nat)] (.tuple #[.bool (inU x.st q), .bool (fre x.st q), .bool (rel x.st q)]) x x:=
 does_pg x.st x.c fun W F h=>pg_tree h fun O t=>t9_state t q hq
theorem does_treleased:Does N a w 76 #[pt a.tb] (.int .u64 (rlT x.st:Nat)) x x:=
 does_pg x.st x.c fun W F h=>pg_tree h fun O t=>t9_released t
theorem does_cempty {p:Nat} (hp:p<64):Does N a w 187 #[pt (a.cb p)] (.bool (decide ((x.c p).2.1=0))) x x:=fun W l hs=>by
 obtain ⟨F,h⟩:=hs.have 2 (by rw[HL.len];omega)
 have:=(h:(tPg N a.tb a.cb 64 x.st x.c).P W F)
 refine (ccEmpty (pg_at this hp)).mono fun e W' ⟨h1,h2⟩=>⟨h1,?_⟩
 rw[h2];exact hs
def setC (c:CC) (p B H G:Nat):CC:=fun q=>if q=p then (B,H,G) else c q
theorem does_cfill {p q B G:Nat} (hp:p<64) (hc:x.c p=(B,0,G)) (hf:First x.st 1 q):
 Does N a w 277 #[pt (a.cb p),pt a.tb] (.int .i64 0) x {x with st:=fillS x.st (q/64 * 64) 64,c:=setC x.c p (q/64 * 64) (wd (fun j=>fre x.st (q/64 * 64+j)) 64) (wd (fun j=>rel x.st (q/64 * 64+j)) 64)}:=
 does_pg _ _ fun W F h=>pg_cache h hp hc fun O t=>tc_fill t q hf
theorem does_cfill_full {p B G:Nat} (hp:p<64) (hc:x.c p=(B,0,G)) (hf:∀q,¬Run x.st q 1):
 Does N a w 277 #[pt (a.cb p),pt a.tb] (.int .i64 30) x x:=
 (does_pg x.st (setC x.c p B 0 G) fun W F h=>pg_cache h hp hc fun O t=>tc_fill_full t hf).to (by
  have:setC x.c p B 0 G=x.c:=by
   funext q;unfold setC
   by_cases e:q=p
   ·rw[if_pos e,e,hc]
   ·rw[if_neg e]
  rw[this])
theorem does_calloc {p B H G:Nat} {n:Nat} (hp:p<64) (hc:x.c p=(B,H,G)) (hB:B+64≤34359738368) (n1:1≤n) (n2:n≤64) (b:Nat) (hr:Row H b n) (hf:∀q,q<b→¬Row H q n):
 Does N a w 278 #[pt (a.cb p), .int .i64 (n:Nat)] (.tuple #[.int .u64 ((B+b:Nat):Int), .int .i64 (cnt G.testBit b n:Nat), .int .i64 0]) x {x with c:=setC x.c p B (andn H (on1 b n)) (andn G (on1 b n))}:=
 does_pg x.st _ fun W F h=>pg_cache h hp hc fun O t=>tc_alloc t hB (n:Nat) (by omega) (by omega) b hr hf
theorem does_calloc_no {p B H G:Nat} {n:Nat} (hp:p<64) (hc:x.c p=(B,H,G)) (hB:B+64≤34359738368) (n1:1≤n) (n2:n≤64) (hr:∀q,¬Row H q n):
 Does N a w 278 #[pt (a.cb p), .int .i64 (n:Nat)] (.tuple #[.int .u64 0, .int .i64 0, .int .i64 30]) x x:=fun W l hs=>by
 obtain ⟨F,h⟩:=hs.have 2 (by rw[HL.len];omega)
 obtain ⟨O,t,-,co,cs,-⟩:=pg_use (h:(tPg N a.tb a.cb 64 x.st x.c).P W F)
 have c0:=(cs.1 p hp).1
 rw[hc] at c0
 refine (tc_alloc_no ⟨t,c0,co p hp⟩ hB (n:Nat) (by omega) (by omega) hr).mono fun e W' ⟨h1,h2⟩=>⟨h1,?_⟩
 rw[h2];exact hs
theorem does_ctell {p B H G:Nat} (hp:p<64) (hc:x.c p=(B,H,G)):Does N a w 131 #[pt (a.cb p)] (tellV B H G) x x:=fun W l hs=>by
 obtain ⟨F,h⟩:=hs.have 2 (by rw[HL.len];omega)
 have c0:=pg_at (h:(tPg N a.tb a.cb 64 x.st x.c).P W F) hp
 rw[hc] at c0
 exact (ccTell c0).mono fun e W' ⟨h1,j,h2⟩=>⟨h1,by rw[h2];exact hs.read ⟨rfl,rfl,rfl,Nat.le_refl _,fun _ _=>rfl⟩⟩
theorem does_vm (S':Go.Proofs.Sp.Sp) (K':Nat) (ct:∀W F,V.VI W ⟨a.m,0,none⟩ x.S F x.K→Calls Tryz.prog f args W fun e W'=>e= .returned v∧V.Step V.VI F W W' ⟨a.m,0,none⟩ S' K'):
 Does N a w f args v x {x with S:=S',K:=K'}:=fun W l hs=>hs.step 3 (by rw[HL.len];omega) (tVm N a.m S' K') fun F p=>by
 obtain ⟨p,n⟩:(tVm N a.m x.S x.K).P W F:=p
 exact (ct W F p).mono fun e W' ⟨h1,F',i,k,b⟩=>⟨h1,F',⟨i,fun z hz=>(b z hz).elim (n z) (fun u=>Nat.le_trans hs.nw u)⟩,k,b⟩
theorem t64 {n:Nat} (h:n<18446744073709551616):V.two64 (n:Int):=by unfold V.two64;omega
theorem does_reserve {h n:Nat} (hh:h<18446744073709551616) (hn:n<18446744073709551616) (hK:x.K≤V.lim):
 Does N a w 280 #[pt a.m, .int .u64 (h:Nat), .int .u64 (n:Nat)] (.tuple #[.int .u64 ((Go.Proofs.Sp.reserveS x.S h n).1:Nat), .int .i64 ((Go.Proofs.Sp.reserveS x.S h n).2.1:Nat)]) x
  {x with S:=(Go.Proofs.Sp.reserveS x.S h n).2.2,K:=x.K+V.cost (Go.Proofs.Sp.reserveS x.S h n).2.1 n}:=by
 have:=fun W F (p:V.VI W ⟨a.m,0,none⟩ x.S F x.K)=>V.vreserve (h:Nat) (n:Nat) (t64 hh) (t64 hn) p hK
 simp only[Int.toNat_natCast] at this
 exact does_vm _ _ this
theorem does_commit {p n:Nat} (hh:p<18446744073709551616) (hn:n<18446744073709551616) (hK:x.K≤V.lim):
 Does N a w 183 #[pt a.m, .int .u64 (p:Nat), .int .u64 (n:Nat)] (.int .i64 ((Go.Proofs.Sp.commitS x.S p n).1:Nat)) x
  {x with S:=(Go.Proofs.Sp.commitS x.S p n).2,K:=x.K+V.cost (Go.Proofs.Sp.commitS x.S p n).1 n}:=by
 have:=fun W F (q:V.VI W ⟨a.m,0,none⟩ x.S F x.K)=>V.vcommit (p:Nat) (n:Nat) (t64 hh) (t64 hn) q hK
 simp only[Int.toNat_natCast] at this
 exact does_vm _ _ this
theorem does_ar (C':Nat→Bool) (V':Nat→Int) (ct:∀W F,A.Ar W a.ab F x.C x.V→Calls Tryz.prog f args W fun e W'=>e= .returned v∧A.ArTo W W' a.ab F C' V'):
 Does N a w f args v x {x with C:=C',V:=V'}:=fun W l hs=>hs.step 4 (by rw[HL.len];omega) (tAr N a.ab C' V') fun F p=>by
 obtain ⟨p,n⟩:(tAr N a.ab x.C x.V).P W F:=p
 exact (ct W F p).mono fun e W' ⟨h1,k,F',i,b⟩=>⟨h1,F',⟨i,fun z hz=>(b z hz).elim (n z) (fun u=>Nat.le_trans hs.nw u)⟩,k,b⟩
theorem does_add {c:Nat} (hc:c<67108864) (hC:x.C c=false):
 Does N a w 282 #[pt a.ab, .int .u64 (c:Nat)] (.int .i64 0) x {x with C:=fun q=>if q=c then true else x.C q}:=does_ar _ x.V fun W F p=>A.add_new p c hc hC
theorem does_set {p n:Nat} {id:Int} (hn:n≠0) (hid:0≤id) (hA:A.AllIn x.C p n):
 Does N a w 87 #[pt a.ab, .int .u64 (p:Nat), .int .u64 (n:Nat), .int .i64 id] (.int .i64 0) x {x with V:=A.putI x.V p (p+n) id}:=does_ar x.C _ fun W F q=>A.set_ok q p n id hn hid hA
theorem does_at {b:Nat} (hb:b<18446744073709551616):Does N a w 78 #[pt a.ab, .int .u64 (b:Nat)] (.int .i64 (x.V (b/8192))) x x:=fun W l hs=>by
 obtain ⟨F,h⟩:=hs.have 4 (by rw[HL.len];omega)
 obtain ⟨p,n⟩:(tAr N a.ab x.C x.V).P W F:=h
 exact (A.At_any p b hb).mono fun e W' ⟨h1,h2⟩=>⟨h1,hs.read h2⟩
theorem does_take (hL:x.L.length<100000):Does N a w 122 #[pt a.fb] (.int .i64 (F.takeI x.L x.B)) x {x with L:=F.takeL x.L x.B,B:=x.B.tail}:=
 fun W l hs=>hs.step 5 (by rw[HL.len];omega) (tFx N a.fb (F.takeL x.L x.B) x.B.tail) fun F p=>Go.Proofs.YtdgdhnnakcncoaaGreatDoor.F.fx_take p hs.nw hL
end
def HS.new (S:Go.Proofs.Sp.Sp) (K:Nat):HS:=⟨S,K,fun _=>0,fun _=>(0,0,0),fun _=>false,fun _=>0,[],[],fun _=>none,fun _=>none,0,0,0,0⟩
section
variable {N:Nat} {w W W':World} {l:List (Thing N)}
theorem pg_new {tb B:Nat} {cb:Nat→Nat} {c:CC} (h:TreeE B (fun _=>False) W tb (fun _=>0)) (hB:N≤B) (h2:2≤N):(tPg N tb cb 0 (fun _=>0) c).P W (fun z=>B≤z∧z<W.heap.size):=by
 obtain ⟨T,L,C,a,b,t,o⟩:=h
 refine ⟨⟨_,⟨{T with B:=N},L,C,a,rfl,⟨⟨t.rad.tab,t.rad.c0,t.rad.c1,t.rad.lv,t.rad.mp,t.rad.cm,t.rad.ch,t.rad.apM,t.rad.apC,t.rad.apT,t.rad.apB,t.rad.inj,fun x hx=>Nat.le_trans (b▸hB) (t.rad.base x hx),h2⟩,t.good,t.four,t.out⟩,fun x hx=>⟨fun f=> ?_,hx.1,hx.2.1⟩⟩,fun z hz=>⟨Nat.le_trans hB hz.1,hz.2⟩,fun z=>⟨.inl,fun q=>q.elim id (fun ⟨p,hp,_⟩=>absurd hp (Nat.not_lt_zero _))⟩,fun p hp=>absurd hp (Nat.not_lt_zero _)⟩,fun p hp=>absurd hp (Nat.not_lt_zero _),fun p q hp=>absurd hp (Nat.not_lt_zero _)⟩
 have:=t.rad.base x f
 exact hx.2.2 ⟨by omega,hx.2.1⟩
def setN (f:Nat→Nat) (k b q:Nat):Nat:=if q=k then b else f q
theorem setN_at (f:Nat→Nat) (k b:Nat):setN f k b k=b:=if_pos rfl
theorem setN_ne {f:Nat→Nat} {k b q:Nat} (h:q≠k):setN f k b q=f q:=if_neg h
theorem pg_more {tb k b:Nat} {cb:Nat→Nat} {st:Nat→Nat} {F:Nat→Prop} (h:(tPg N tb cb k st (fun _=>(0,0,0))).P W F) (hN:N≤W.heap.size) (hb:b=W.heap.size) (hW:W'=W.alloc (.cells #[.int .u64 0, .int .u64 0, .int .u64 0] 186)):
 ∃F',(tPg N tb (setN cb k b) (k+1) st (fun _=>(0,0,0))).P W' F'∧To W W' F F':=by
 obtain ⟨⟨F0,t,l,f⟩,cs⟩:=h
 have kk:Below W.heap.size W W':=by rw[hW];exact (Below.refl _ _).alloc (Nat.le_refl _) _
 have t':=tree_keeps t (Kept.of_below (F:=fun _=>False) kk) (fun _ _ f=>f) (fun _ f=>f.elim)
 have cbl:∀p,p<k→cb p<W.heap.size:=fun p hp=>(cs.1 p hp).1.lt
 have cc:CcAt W' b 0 0 0:=CcAt.new (w:=W) hW hb
 refine ⟨fun z=>F z∨z=b,⟨⟨F0,t',fun z hz=>⟨(l z hz).1,Nat.lt_of_lt_of_le (l z hz).2 kk.size⟩,fun z=>⟨fun q=> ?_,fun q=> ?_⟩,fun p hp q=> ?_⟩,fun p hp=> ?_,fun p q hp hq e=> ?_⟩,Kept.of_below kk,fun z hz=>hz.imp id (fun e=>by omega)⟩
 ·rcases q with q|rfl
  ·rcases (f.1 z).1 q with u|⟨p,hp,rfl⟩
   ·exact .inl u
   ·exact .inr ⟨p,by omega,(setN_ne (by omega)).symm⟩
  ·exact .inr ⟨k,by omega,(setN_at _ _ _).symm⟩
 ·rcases q with u|⟨p,hp,rfl⟩
  ·exact .inl ((f.1 z).2 (.inl u))
  ·by_cases e:p=k
   ·rw[e,setN_at];exact .inr rfl
   ·rw[setN_ne e];exact .inl ((f.1 _).2 (.inr ⟨p,by omega,rfl⟩))
 ·by_cases e:p=k
  ·rw[e,setN_at] at q;have:=(l _ q).2;omega
  ·rw[setN_ne e] at q;exact f.2 p (by omega) q
 ·by_cases e:p=k
  ·rw[e,setN_at];exact ⟨cc,by omega⟩
  ·rw[setN_ne e];exact ⟨(cs.1 p (by omega)).1.below kk,(cs.1 p (by omega)).2⟩
 ·by_cases e1:p=k<;>by_cases e2:q=k
  ·omega
  ·rw[e1,setN_at,setN_ne e2] at e;have:=cbl q (by omega);omega
  ·rw[setN_ne e1,e2,setN_at] at e;have:=cbl p (by omega);omega
  ·rw[setN_ne e1,setN_ne e2] at e;exact cs.2 p q (by omega) (by omega) e
theorem zc_eq:Tryz.zeroCells123=Array.replicate 68 (.pointer none)++#[.map none, .int .u64 0, .int .u64 0, .int .u64 0]:=by kernel_rfl
theorem zc_at {p:Nat} (hp:p<68):Tryz.zeroCells123[p]? =some (.pointer none):=by
 rw[zc_eq,Array.getElem?_append_left (by rw[Array.size_replicate];exact hp),Array.getElem?_replicate,if_pos hp]
def HK (N:Nat) (a:HA) (v3:Value) (cv:Nat→Value) (k:Nat) (S:Go.Proofs.Sp.Sp) (K:Nat) (l:List (Thing N)):List (Thing N):=
 tHb N a.hb a.m a.tb a.ab v3 a.mp cv 0 0 0::tSp N a.mp 0 (fun _=>none) (fun _=>none)::tPg N a.tb a.cb k (fun _=>0) (fun _=>(0,0,0))::tVm N a.m S K::tAr N a.ab (fun _=>false) (fun _=>0)::tFx N a.fb [] []::l
theorem hk_pick {a:HA} {v3:Value} {cv:Nat→Value} {k K:Nat} {S:Go.Proofs.Sp.Sp}
 (h:Sep N w W (l++ [tVm N a.m S K]++ [tPg N a.tb a.cb k (fun _=>0) (fun _=>(0,0,0))]++ [tAr N a.ab (fun _=>false) (fun _=>0)]++ [tSp N a.mp 0 (fun _=>none) (fun _=>none)]++ [tHb N a.hb a.m a.tb a.ab v3 a.mp cv 0 0 0]++ [tFx N a.fb [] []])):
 Sep N w W (HK N a v3 cv k S K l):=by
 simp only[List.append_assoc,List.cons_append,List.nil_append] at h
 refine h.pick (fun i=>if i<6 then l.length+ [4,3,1,0,2,5].getD i 0 else i - 6) (fun i hi=> ?_) (fun i j hi hj e=> ?_)
 ·have hl:(HK N a v3 cv k S K l).length=l.length+6:=rfl
  rw[hl] at hi
  by_cases c:i<6
  ·simp only[if_pos c]
   obtain rfl|rfl|rfl|rfl|rfl|rfl:i=0∨i=1∨i=2∨i=3∨i=4∨i=5:=by omega
   all_goals exact ⟨by simp,by rw[List.getElem?_append_right (by omega)];simp[HK]⟩
  ·simp only[if_neg c]
   refine ⟨by simp;omega,?_⟩
   rw[List.getElem?_append_left (by omega)]
   obtain ⟨j,rfl⟩:∃j,i=j+6:=⟨i - 6,by omega⟩
   rfl
 ·have hl:(HK N a v3 cv k S K l).length=l.length+6:=rfl
  rw[hl] at hi hj
  have bd:∀i,i<6→ [4,3,1,0,2,5].getD i 0<6:=by decide
  by_cases c:i<6<;>by_cases d:j<6
  ·simp only[if_pos c,if_pos d] at e
   have key:∀i,i<6→∀j,j<6→ [4,3,1,0,2,5].getD i 0= [4,3,1,0,2,5].getD j 0→i=j:=by decide
   exact key i c j d (by omega)
  ·simp only[if_pos c,if_neg d] at e;omega
  ·simp only[if_neg c,if_pos d] at e;omega
  ·simp only[if_neg c,if_neg d] at e;omega
def cvk (k:Nat) (cb:Nat→Nat) (p:Nat):Value:=if p<k then pt (cb p) else .pointer none
theorem hk_step {a:HA} {v3:Value} {k K b:Nat} {S:Go.Proofs.Sp.Sp} (hk:k<64) (h:Sep N w W (HK N a v3 (cvk k a.cb) k S K l)) (hb:b=W.heap.size) (hW:W'=W.alloc (.cells #[.int .u64 0, .int .u64 0, .int .u64 0] 186)):
 W'.cell? ⟨a.hb,4+k,none⟩=some (.pointer none)∧W'.frozen? ⟨a.hb,4+k,none⟩=false∧Sep N w (W'.setCell ⟨a.hb,4+k,none⟩ (pt b)) (HK N {a with cb:=setN a.cb k b} v3 (cvk (k+1) (setN a.cb k b)) (k+1) S K l):=by
 have s1:=h.turn 2 (by show 2<l.length+6;omega) (tPg N a.tb (setN a.cb k b) (k+1) (fun _=>0) (fun _=>(0,0,0))) (fun F p=>pg_more p h.nw hb hW)
 obtain ⟨F,p⟩:=s1.have 0 (by simp[HK])
 obtain ⟨p1,p2,p3⟩:(tHb N a.hb a.m a.tb a.ab v3 a.mp (cvk k a.cb) 0 0 0).P W' F:=p
 have c:=p1.cc k hk
 refine ⟨by rw[c];unfold cvk;rw[if_neg (by omega)],p1.fz _,?_⟩
 refine s1.turn 0 (by simp[HK]) (tHb N a.hb a.m a.tb a.ab v3 a.mp (cvk (k+1) (setN a.cb k b)) 0 0 0) fun F p=> ?_
 obtain ⟨p1,p2,p3⟩:(tHb N a.hb a.m a.tb a.ab v3 a.mp (cvk k a.cb) 0 0 0).P W' F:=p
 refine ⟨F,⟨p1.set (4+k) (pt b) (by rw[if_neg (by omega)]) (fun p hp=> ?_) (by rw[if_neg (by omega)]) (by rw[if_neg (by omega)]) (by rw[if_neg (by omega)]) (.inr (.inl ⟨by omega,by omega⟩)),p2,p3⟩,kept_set W' a.hb _ _ ((p3 a.hb).2 rfl),fun z hz=> .inl hz⟩
 unfold cvk
 by_cases e:p=k
 ·rw[e,if_pos (by omega),if_pos rfl,setN_at]
 ·rw[if_neg (by omega:¬4+k=4+p),setN_ne e]
  by_cases d:p<k
  ·rw[if_pos d,if_pos (by omega)]
  ·rw[if_neg d,if_neg (by omega)]
theorem hk_end {a:HA} {K:Nat} {S:Go.Proofs.Sp.Sp} (h:Sep N w W (HK N a (pt a.fb) (cvk 64 a.cb) 64 S K l)):Sep N w W (HL N a (HS.new S K) l):=
 h.turn 0 (by simp[HK]) (tHb N a.hb a.m a.tb a.ab (pt a.fb) a.mp (fun p=>pt (a.cb p)) 0 0 0) fun F p=>by
  obtain ⟨p1,p2,p3⟩:(tHb N a.hb a.m a.tb a.ab (pt a.fb) a.mp (cvk 64 a.cb) 0 0 0).P W F:=p
  exact ⟨F,⟨⟨p1.c0,p1.c1,p1.c2,p1.c3,fun p hp=>by rw[p1.cc p hp];unfold cvk;rw[if_pos hp],p1.c4,p1.c5,p1.c6,p1.c7,p1.fz⟩,p2,p3⟩,Kept.refl _ _,fun z hz=> .inl hz⟩
set_option maxRecDepth 100000 in
theorem new_any {m K:Nat} {S:Go.Proofs.Sp.Sp} (hs:Sep N w W (l++ [tVm N m S K])) (hT:TabW w) (h2:2≤N):
 Calls Tryz.prog 14 #[pt m] W fun e W'=>∃a:HA,a.m=m∧e= .returned (pt a.hb)∧Sep N w W' (HL N a (HS.new S K) l):=by
 have CR:=hide (new9_any (tab_sep hs hT h2))
 have SS:=hide hs
 have mk:∀(t:TypeId) (w:World),(Instr.makeMap t none).run Tryz.prog w= .ok (.map (some w.heap.size)) (w.alloc (.map #[] 0)):=fun t w=>run_makeMap t w
 clear hs hT
 unfold pt
 go_enter Tryz.func14,Tryz.ntmps14
 go_wp2_with fail
 refine CR.out.mono ?_
 rintro e W1 ⟨⟨tb,rfl,tr⟩,b1⟩
 have s1:=SS.out.more b1 (tPg N tb (fun _=>0) 0 (fun _=>0) (fun _=>(0,0,0))) (pg_new tr SS.out.nw h2) (fun z hz=>hz.1)
 have S1:=hide s1
 have CA:=hide (A.new_any W1)
 clear tr b1 SS CR s1
 go_wp2_with fail
 refine CA.out.mono ?_
 rintro e W2 ⟨ab,rfl,⟨Φ,ar,hΦ⟩,b2⟩
 have s2:=S1.out.more b2 (tAr N ab (fun _=>false) (fun _=>0)) (F':=Φ) ⟨ar,fun z hz=>Nat.le_trans S1.out.nw (hΦ z hz)⟩ hΦ
 clear ar b2 CA S1
 obtain ⟨mp,hmp⟩:∃mp,W2.heap.size=mp:=⟨_,rfl⟩
 have S2:=hide s2
 clear s2
 go_wp2_with fail
 have b3:Below W2.heap.size W2 (W2.alloc (.map #[] 0)):=(Below.refl _ _).alloc (Nat.le_refl _) _
 have s3:=S2.out.more b3 (tSp N mp 0 (fun _=>none) (fun _=>none)) (F':=fun z=>z=mp) ⟨⟨by rw[←hmp];exact MapI.made W2,by rw[←hmp];exact S2.out.nw,fun i b g e=>(by cases e),fun i j b g g' e=>(by cases e)⟩,fun z=>⟨.inl,fun q=>q.elim id (fun ⟨i,g,e⟩=>(by cases e))⟩⟩ (fun z hz=>by rw[hz,hmp];exact Nat.le_refl _)
 have hb:(W2.alloc (.map #[] 0)).heap.size=mp+1:=by rw[World.size_alloc,hmp]
 obtain ⟨cs,hcs⟩:∃cs,(((Tryz.zeroCells123.setIfInBounds 0 (.pointer (some ⟨m,0,none⟩))).setIfInBounds 1 (.pointer (some ⟨tb,0,none⟩))).setIfInBounds 2 (.pointer (some ⟨ab,0,none⟩))).setIfInBounds 68 (.map (some mp))=cs:=⟨_,rfl⟩
 have b4:Below (W2.alloc (.map #[] 0)).heap.size (W2.alloc (.map #[] 0)) ((W2.alloc (.map #[] 0)).alloc (.cells cs 123)):=(Below.refl _ _).alloc (Nat.le_refl _) _
 have bk:Bk ((W2.alloc (.map #[] 0)).alloc (.cells cs 123)) (mp+1) 123 cs:=by rw[←hb];exact World.alloc_heap_new _ _
 have hz:Tryz.zeroCells123.size=72:=by rw[zc_eq];rfl
 have at_:∀p v,(p=0∧v=pt m∨p=1∧v=pt tb∨p=2∧v=pt ab∨(3≤p∧p<68∧v= .pointer none)∨p=68∧v= .map (some mp)∨69≤p∧p<72∧v= .int .u64 0)→cs[p]? =some v:=fun p v h=>by
  rw[←hcs]
  simp only[Array.getElem?_setIfInBounds,Array.size_setIfInBounds,hz]
  rcases h with ⟨rfl,rfl⟩|⟨rfl,rfl⟩|⟨rfl,rfl⟩|⟨h1,h2,rfl⟩|⟨rfl,rfl⟩|⟨h1,h2,rfl⟩
  ·rfl
  ·rfl
  ·rfl
  ·rw[if_neg (by omega),if_neg (by omega),if_neg (by omega),if_neg (by omega)];exact zc_at h2
  ·rfl
  ·rw[if_neg (by omega),if_neg (by omega),if_neg (by omega),if_neg (by omega),zc_eq,Array.getElem?_append_right (by rw[Array.size_replicate];omega),Array.size_replicate]
   obtain h|h|h:p=69∨p=70∨p=71:=by omega
   all_goals subst h;rfl
 have hbat:HbAt ((W2.alloc (.map #[] 0)).alloc (.cells cs 123)) (mp+1) (pt m) (pt tb) (pt ab) (.pointer none) (.map (some mp)) (fun _=> .pointer none) 0 0 0:=
  ⟨bk.cell 0 _ (at_ 0 _ (by simp)),bk.cell 1 _ (at_ 1 _ (by simp)),bk.cell 2 _ (at_ 2 _ (by simp)),bk.cell 3 _ (at_ 3 _ (by simp)),fun p hp=>bk.cell _ _ (at_ (4+p) _ (.inr (.inr (.inr (.inl ⟨by omega,by omega,rfl⟩))))),bk.cell 68 _ (at_ 68 _ (by simp)),bk.cell 69 _ (at_ 69 _ (by simp)),bk.cell 70 _ (at_ 70 _ (by simp)),bk.cell 71 _ (at_ 71 _ (by simp)),fun j=>bk.fz j⟩
 have s4:=s3.more b4 (tHb N (mp+1) m tb ab (.pointer none) mp (fun _=> .pointer none) 0 0 0) (F':=fun z=>z=mp+1) ⟨hbat,Nat.le_trans s3.nw (by rw[hb];exact Nat.le_refl _),fun z=>Iff.rfl⟩ (fun z hz=>by rw[hz,hb];exact Nat.le_refl _)
 have S4:=hide s4
 have CF:=hide (Go.Proofs.YtdgdhnnakcncoaaGreatDoor.F.fx_new s4.nw 128 (by omega) (by omega))
 rw[hcs]
 clear b3 s3 bk at_ hbat s4 S2 hz
 refine CF.out.mono ?_
 rintro e W5 ⟨fb,rfl,b5,Φ2,fx,hΦ2⟩
 have s5:=hk_pick (a:=⟨mp+1,m,tb,ab,fb,mp,fun _=>0⟩) (S4.out.more b5 (tFx N fb [] []) (F':=Φ2) fx hΦ2)
 obtain ⟨F,p⟩:=s5.have 0 (by simp[HK])
 obtain ⟨p1,p2,p3⟩:(tHb N (mp+1) m tb ab (.pointer none) mp (fun _=> .pointer none) 0 0 0).P W5 F:=p
 have c3:=p1.c3
 have z3:=p1.fz 3
 have s6:Sep N w (W5.setCell ⟨mp+1,3,none⟩ (pt fb)) (HK N ⟨mp+1,m,tb,ab,fb,mp,fun _=>0⟩ (pt fb) (cvk 0 fun _=>0) 0 S K l):=
  s5.turn 0 (by simp[HK]) (tHb N (mp+1) m tb ab (pt fb) mp (cvk 0 fun _=>0) 0 0 0) fun F p=>by
   obtain ⟨p1,p2,p3⟩:(tHb N (mp+1) m tb ab (.pointer none) mp (fun _=> .pointer none) 0 0 0).P W5 F:=p
   exact ⟨F,⟨p1.set 3 (pt fb) (by rw[if_pos rfl]) (fun p hp=>by rw[if_neg (by omega)];rfl) rfl rfl rfl (.inl rfl),p2,p3⟩,kept_set W5 (mp+1) _ _ ((p3 _).2 rfl),fun z hz=> .inl hz⟩
 have S6:=hide s6
 unfold pt at S6
 clear p1 p2 p3 s5 s6 S4 CF b5 fx hΦ2 hcs b4 hb hmp
 go_wp2_with fail
 go_loopw [18] (fun iv wr=>∃(k:Nat) (cb:Nat→Nat),iv= .int .i64 (k:Int)∧k≤64∧Hid (Sep N w wr (HK N ⟨mp+1,m,tb,ab,fb,mp,cb⟩ (.pointer (some ⟨fb,0,none⟩)) (cvk k cb) k S K l))) (fun iv _=>64 -(intOf iv).toNat)
 case atStart=>exact ⟨0,_,rfl,Nat.zero_le _,S6⟩
 case round=>
  clear S6 c3 z3
  obtain ⟨k,cb,rfl,hk,HS⟩:=hrel
  by_cases hlt:k<64
  ·have CN:=hide (ccNew wr.drew)
   have d1:decide (k<64)=true:=decide_eq_true hlt
   have i1:(k:Int)<64:=by omega
   have i2:(0:Int)≤(k:Int):=by omega
   obtain ⟨b,hb⟩:∃b,wr.drew.heap.size=b:=⟨_,rfl⟩
   have ST:=hide (fun W'=>hk_step (W':=W') hlt (HS.out.read (drew_below wr)) hb.symm)
   rw[hb] at CN
   clear HS hb
   go_wp2_with fail
   go_region_held3 (fun w':World=>True) (first|trivial|(go_keep;done)) (first
    |(
     go_at_call 45;refine CN.out.mono ?_;rintro e W7 ⟨rfl,hW7⟩
     obtain ⟨c4,z4,s7⟩:=ST.out W7 hW7
     have S7:=hide s7
     unfold pt at S7
     clear s7 ST CN hW7))
   go_wp2_with fail
   go_roundw
   case rel=>exact ⟨k+1,_,by go_num,by omega,S7⟩
   case measure=>simp[intOf];omega
  ·obtain rfl:k=64:=by omega
   have FIN:=hide (hk_end HS.out)
   clear HS
   go_wp2_with fail
   go_ret
   exact ⟨⟨mp+1,m,tb,ab,fb,mp,cb⟩,rfl,rfl,FIN.out⟩
end
theorem load_arr {P:Program} (W:World) (hb t:Nat) (v:Value) (ld:(loadVar t ⟨hb,4,none⟩).run P W= .ok v W) (o:Oper) (x:Operand) (ho:o.op= .load t x) (ρ:Operand→Value) (hx:ρ x= .pointer (some ⟨hb,4,none⟩)):
 (execOp ρ o).run P W= .ok (.value v) W:=by
 unfold execOp
 rw[ho]
 simp only[hx,Instr.loadAt]
 have e:(do
  let r←Instr.sureAddr (Value.pointer (some {block:=hb,off:=4}))
  loadVar t r:Sem Value).run P W= .ok v W:=by
  rw[Sem.run_bind]
  exact ld
 rw[Sem.run_bind,e]
 rfl
theorem idx64 (w:World) (cs:Array Value) (k:Nat) (hk:k<64) (v:Value) (h:cs[k]? =some v):(Instr.index 121 (.agg cs) (.int .i64 (k:Nat))).run Tryz.prog w= .ok v w:=by
 have hu:Tryz.prog.underlying 121=some (.array 64 120):=by kernel_rfl
 have h1:(0:Int)≤(k:Int)∧(k:Int)<((64:Nat):Int):=by omega
 simp[Instr.index,run_underlying hu,asIntOf,h1,go_sem]
 rw[if_pos hk,h]
 rfl
def cvl (cb:Nat→Nat):List Value:=(List.range 64).map fun p=>pt (cb p)
theorem cvl_at {cb:Nat→Nat} {k:Nat} (hk:k<64):(cvl cb).toArray[k]? =some (pt (cb k)):=by simp[cvl,hk]
theorem info64:(Tryz.prog.info? 121).map (·.size)=some 64:=by kernel_rfl
section
variable {N:Nat} {a:HA} {x:HS} {w W:World} {l:List (Thing N)}
theorem cs_load (hs:Sep N w W (HL N a x l)):(loadVar 121 ⟨a.hb,4,none⟩).run Tryz.prog W= .ok (.agg (cvl a.cb).toArray) W:=
 run_loadVar_mid (P:=Tryz.prog) W a.hb 4 121 (cvl a.cb) _ (fun j v hv=>by
  have hj:j<64:=by have:=(List.getElem?_eq_some_iff.1 hv).1;simpa [cvl] using this
  have:=cvl_at (cb:=a.cb) hj
  simp only[List.getElem?_toArray] at this
  rw[this] at hv
  rw[←hv]
  exact (Sep.hb hs).cc j hj) Tryz.underlying121 rfl (by rw[info64];simp[cvl])
theorem span_ok {id:Int} {sb:Nat} (hid:okI id) (hM:x.Q id=some sb):Does N a w 21 #[pt a.hb, .int .i64 id] (.tuple #[pt sb, .int .i64 0]) x x:=by
 intro W l hs
 have c4:=(Sep.hb hs).c4
 obtain ⟨F,p⟩:=hs.have 1 (by rw[HL.len];omega)
 obtain ⟨⟨m,-⟩,-⟩:(tSp N a.mp x.n x.Q x.M).P W F:=p
 have lk:=m.looks hid
 rw[hM] at lk
 have S:=hide hs
 simp only[valO,encC,Option.isSome_some] at lk
 unfold pt at *
 clear hs m hM hid
 go_enter Tryz.func21,Tryz.ntmps21
 go_wp2_with fail
 refine bodyPost_ret (results_tmp2 Tryz.results21 _ _ _) rfl ?_
 exact ⟨rfl,S.out⟩
theorem span_no {id:Int} (hid:okI id) (hM:x.Q id=none):Does N a w 21 #[pt a.hb, .int .i64 id] (.tuple #[.pointer none, .int .i64 35]) x x:=by
 intro W l hs
 have c4:=(Sep.hb hs).c4
 obtain ⟨F,p⟩:=hs.have 1 (by rw[HL.len];omega)
 obtain ⟨⟨m,-⟩,-⟩:(tSp N a.mp x.n x.Q x.M).P W F:=p
 have lk:=m.looks hid
 rw[hM] at lk
 have S:=hide hs
 simp only[valO,encC,Option.isSome_none] at lk
 unfold pt at *
 clear hs m hM hid
 go_enter Tryz.func21,Tryz.ntmps21
 go_wp2_with fail
 refine bodyPost_ret (results_tmp2 Tryz.results21 _ _ _) rfl ?_
 exact ⟨rfl,S.out⟩
theorem of_any {b:Nat} (hb:b<18446744073709551616):Does N a w 26 #[pt a.hb, .int .u64 (b:Nat)] (.int .i64 (x.V (b/8192))) x x:=by
 intro W l hs
 have OP:=hide (open_any hs)
 have c2:=(Sep.hb hs).c2
 have CA:=hide (does_at hb W l hs)
 obtain ⟨v,hv⟩:∃v,x.V (b/8192)=v:=⟨_,rfl⟩
 rw[hv] at CA ⊢
 unfold pt at *
 clear hs hv
 go_enter Tryz.func26,Tryz.ntmps26
 go_wp2_with fail
 refine OP.out.mono ?_
 rintro e W1 ⟨rfl,hw⟩
 rw[hw]
 clear hw W1 OP
 go_wp2_with fail
 refine CA.out.mono ?_
 rintro e W1 ⟨rfl,s1⟩
 have S1:=hide s1
 clear s1 CA
 go_wp2_with fail
 go_ret
 exact ⟨rfl,S1.out⟩
def ownC (t:Nat×Nat×Nat) (q:Nat):Bool:=decide (t.1≤q)&&t.2.1.testBit (q - t.1)
def tB (t:Nat×Nat×Nat):Nat:=if t.2.1=0 then 0 else t.1
def tG (t:Nat×Nat×Nat):Nat:=if t.2.1=0 then 0 else t.2.2
theorem tell_eq (t:Nat×Nat×Nat):tellV t.1 t.2.1 t.2.2= .tuple #[.int .u64 (tB t:Nat), .int .u64 (t.2.1:Nat), .int .u64 (tG t:Nat)]:=by
 unfold tellV tB tG
 by_cases h:t.2.1=0
 ·rw[if_pos h,if_pos h,if_pos h,h];rfl
 ·rw[if_neg h,if_neg h,if_neg h]
theorem own_eq {t:Nat×Nat×Nat} {q:Nat} (hB:t.1≤34359738368) (hH:t.2.1<18446744073709551616) (hq:q<18446744073709551616):
 (bits BinOp.and IntKind.u64 ((t.2.1:Int)/2^min (IntKind.u64.wrap ((q:Int) -(tB t:Int))).toNat 64) 1==1)=ownC t q:=by
 obtain ⟨n,hn⟩:∃n,min (IntKind.u64.wrap ((q:Int) -(tB t:Int))).toNat 64=n:=⟨_,rfl⟩
 rw[hn]
 have e:bits BinOp.and IntKind.u64 ((t.2.1:Int)/2^n) 1=((t.2.1/2^n%2:Nat):Int):=by
  have h1:((t.2.1:Int)/2^n)=((t.2.1/2^n:Nat):Int):=by simp
  rw[h1]
  have h2:=bits_and_u64_nat (t.2.1/2^n) 1 (Nat.lt_of_le_of_lt (Nat.div_le_self _ _) hH) (by omega)
  rw[show ((1:Nat):Int)=1 from rfl] at h2
  rw[h2,Nat.and_one_is_mod]
 have e2:(bits BinOp.and IntKind.u64 ((t.2.1:Int)/2^n) 1==1)=t.2.1.testBit n:=by
  rw[e,Nat.testBit_eq_decide_div_mod_eq,Bool.eq_iff_iff,beq_iff_eq,decide_eq_true_eq]
  omega
 rw[e2]
 have big:t.2.1.testBit 64=false:=Nat.testBit_lt_two_pow hH
 unfold ownC
 by_cases h0:t.2.1=0
 ·rw[h0];simp
 ·have hT:tB t=t.1:=if_neg h0
  rw[hT,IntKind.wrap_u64] at hn
  by_cases c:t.1≤q
  ·rw[decide_eq_true c,Bool.true_and]
   by_cases d:q - t.1<64
   ·rw[show n=q - t.1 by omega]
   ·rw[show n=64 by omega,big,Nat.testBit_lt_two_pow (Nat.lt_of_lt_of_le hH (Nat.pow_le_pow_right (n:=2) (by omega) (show 64≤q - t.1 by omega)))]
  ·rw[decide_eq_false c,Bool.false_and,show n=64 by omega,big]
set_option maxRecDepth 100000 in
theorem cacheOf_any {q p:Nat} {f:Bool} (hq:q<18446744073709551616) (hc:∀k,k<64→(x.c k).1≤34359738368∧(x.c k).2.1<18446744073709551616)
 (hp:p<64∧f=true∧ownC (x.c p) q=true∧(∀k,k<p→ownC (x.c k) q=false)∨p=0∧f=false∧∀k,k<64→ownC (x.c k) q=false):
 Does N a w 80 #[pt a.hb, .int .u64 (q:Nat)] (.tuple #[.int .i64 (p:Nat), .bool f]) x x:=by
 intro W l hs
 have ld:=cs_load hs
 obtain ⟨CS,hCS⟩:∃CS,(cvl a.cb).toArray=CS:=⟨_,rfl⟩
 have ix:∀k,k<64→CS[k]? =some (pt (a.cb k)):=fun k hk=>by rw[←hCS];exact cvl_at hk
 rw[hCS] at ld
 have IX:=hide ix
 have S:=hide hs
 have HP:=hide hp
 have HC:=hide hc
 unfold pt
 clear hs hCS ix hp hc
 go_enter Tryz.func80,Tryz.ntmps80
 go_upto_region 1 with fail
 refine wp_region_lit ?_
 refine Go.Great.wpList_runTo rfl (some 11) rfl (.pointer (some ⟨a.hb,0,none⟩)) W rfl ?_
 refine Go.Great.wpList_runTo rfl (some 12) rfl (.pointer (some ⟨a.hb,0,none⟩)) W rfl ?_
 refine Go.Great.wpList_runTo rfl (some 13) rfl (.pointer (some ⟨a.hb,4,none⟩)) W (by simp[go_sem]) ?_
 refine Go.Great.wpList_runTo rfl (some 14) rfl (.agg CS) W (load_arr W a.hb _ _ ld _ (.tmp 13) rfl _ rfl) ?_
 go_wp2_with fail
 go_loopw [15] (fun iv wr=>∃k:Nat,iv= .int .i64 (k:Int)∧k≤64∧Hid (∀j,j<k→ownC (x.c j) q=false)∧Hid (Sep N w wr (HL N a x l))) (fun iv _=>64 -(intOf iv).toNat)
 case atStart=>exact ⟨0,rfl,Nat.zero_le _,hide (fun j hj=>absurd hj (Nat.not_lt_zero _)),S⟩
 case round=>
  clear S ld
  obtain ⟨k,rfl,hk,HN,HS⟩:=hrel
  by_cases hlt:k<64
  ·have d1:decide (k<64)=true:=decide_eq_true hlt
   have i1:(k:Int)<64:=by omega
   have i2:(0:Int)≤(k:Int):=by omega
   have ix:=fun w=>idx64 w CS k hlt _ (IX.out k hlt)
   have CT:=hide (does_ctell (a:=a) (w:=w) (N:=N) hlt (rfl:x.c k=((x.c k).1,(x.c k).2.1,(x.c k).2.2)) wr l HS.out)
   rw[tell_eq] at CT
   unfold pt at ix CT
   obtain ⟨T,hT⟩:∃T,tB (x.c k)=T:=⟨_,rfl⟩
   obtain ⟨H,hH⟩:∃H,(x.c k).2.1=H:=⟨_,rfl⟩
   obtain ⟨G,hG⟩:∃G,tG (x.c k)=G:=⟨_,rfl⟩
   have oe:=own_eq (HC.out k hlt).1 (HC.out k hlt).2 hq
   rw[hT,hH] at oe
   rw[hT,hH,hG] at CT
   have hq0:(0:Int)≤(q:Int):=by omega
   have q2:(q:Int)<18446744073709551616:=by omega
   clear hT hH hG
   go_wp2_with fail
   refine CT.out.mono ?_
   rintro e W1 ⟨rfl,s1⟩
   have S1:=hide s1
   clear s1 HS CT
   by_cases ow:ownC (x.c k) q=true
   ·rw[ow] at oe
    have F:=hide (show p=k∧f=true from by
     rcases HP.out with ⟨h1,h2,h3,h4⟩|⟨-,-,h3⟩
     ·refine ⟨Nat.le_antisymm (Nat.le_of_not_lt fun c=> ?_) (Nat.le_of_not_lt fun c=> ?_),h2⟩
      ·rw[h4 k c] at ow;cases ow
      ·rw[HN.out p c] at h3;cases h3
     ·rw[h3 k hlt] at ow;cases ow)
    obtain ⟨rfl,rfl⟩:=F.out
    clear HN HP HC F ow
    go_wp2_with fail
    refine bodyPost_ret (results_tmp2 Tryz.results80 _ _ _) rfl ?_
    exact ⟨rfl,S1.out⟩
   ·have ow':ownC (x.c k) q=false:=by simpa using ow
    rw[ow'] at oe
    have HN2:=hide (show ∀j,j<k+1→ownC (x.c j) q=false from fun j hj=>by
     by_cases c:j<k
     ·exact HN.out j c
     ·rw[show j=k by omega];exact ow')
    clear HN HP HC ow ow'
    go_wp2_with fail
    go_roundw
    case rel=>exact ⟨k+1,by go_num,by omega,HN2,S1⟩
    case measure=>simp[intOf];omega
  ·obtain rfl:k=64:=by omega
   have F:=hide (show p=0∧f=false from by
    rcases HP.out with ⟨h1,-,h3,-⟩|⟨h1,h2,-⟩
    ·rw[HN.out p h1] at h3;cases h3
    ·exact ⟨h1,h2⟩)
   obtain ⟨rfl,rfl⟩:=F.out
   clear HN HP HC F hlt
   go_wp2_with fail
   refine bodyPost_ret (results_tmp2 Tryz.results80 _ _ _) rfl ?_
   exact ⟨rfl,HS.out⟩
end
end Go.Proofs.YtdgdhnnakcncoaaGreatDoor
