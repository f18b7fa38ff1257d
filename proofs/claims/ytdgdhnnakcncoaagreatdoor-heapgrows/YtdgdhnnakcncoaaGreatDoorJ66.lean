/- Of the proof of HeapGrows: texts HJa, HJb, HJc, HJd, HJe. -/
import Derived.Test.YtdgdhnnakcncoaaGreatDoorJ65
namespace Go.Proofs.YtdgdhnnakcncoaaGreatDoor
set_option maxHeartbeats 1600000
open Go.ChangeShapes Go.WideShapes Go.ChangeAt Go.RowKit Go.Proofs.Bt Go.Shelf Go.Proofs.Rx Go.Maps Go.Proofs.Pk
set_option linter.unusedVariables false
set_option linter.unusedSimpArgs false
def TN (next bh:Nat):Nat→Nat:=setSt (setSt (fun _=>0) 512 bh 3) 512 next 1
theorem TN_at {next bh q:Nat}:TN next bh q=if 512≤q∧q<next then 1 else if 512≤q∧q<bh then 3 else 0:=by unfold TN setSt;rfl
theorem TN_take {next bh n:Nat} (h:512≤next):setSt (TN next bh) next (next+n) 1=TN (next+n) bh:=by
 funext q
 rw[TN_at]
 by_cases c:next≤q∧q<next+n
 ·rw[setSt_in c,if_pos (by omega)]
 ·rw[setSt_out c,TN_at]
  by_cases d:512≤q∧q<next
  ·rw[if_pos d,if_pos (by omega)]
  ·rw[if_neg d,if_neg (c:=512≤q∧q<next+n) (by omega)]
theorem TN_grow {next bh m:Nat} (h:512≤next) (h2:next≤bh):setSt (TN next bh) bh (bh+m) 3=TN next (bh+m):=by
 funext q
 rw[TN_at]
 by_cases c:bh≤q∧q<bh+m
 ·rw[setSt_in c,if_neg (by omega),if_pos (by omega)]
 ·rw[setSt_out c,TN_at]
  by_cases d:512≤q∧q<next
  ·rw[if_pos d,if_pos d]
  ·rw[if_neg d,if_neg d]
   by_cases e:512≤q∧q<bh
   ·rw[if_pos e,if_pos (by omega)]
   ·rw[if_neg e,if_neg (by omega)]
theorem TN_first {next bh n:Nat} (h:512≤next) (h1:1≤n) (h2:next+n≤bh):First (TN next bh) n next:=by
 refine ⟨fun q q1 q2=> ?_,fun p hp r=> ?_⟩
 ·rw[TN_at,if_neg (by omega),if_pos (by omega)];decide
 ·have:=r p (Nat.le_refl _) (by omega)
  rw[TN_at] at this
  by_cases d:512≤p∧p<next
  ·rw[if_pos d] at this;omega
  ·rw[if_neg d,if_neg (by omega)] at this;omega
theorem TN_none {next bh n:Nat} (h:512≤next) (h3:next≤bh) (h1:1≤n) (h2:bh<next+n):∀p,¬Run (TN next bh) p n:=fun p r=>by
 have a:=r p (Nat.le_refl _) (by omega)
 have b:=r (p+n - 1) (by omega) (by omega)
 rw[TN_at] at a b
 by_cases d:512≤p∧p<next
 ·rw[if_pos d] at a;omega
 ·rw[if_neg d] at a
  by_cases e:512≤p∧p<bh
  ·by_cases f:512≤p+n - 1∧p+n - 1<next
   ·rw[if_pos f] at b;omega
   ·rw[if_neg f,if_neg (by omega)] at b;omega
  ·rw[if_neg e] at a;omega
structure GI (i next bh k:Nat) (x:HS):Prop where
 nx:512≤next
 nb:next≤bh
 al:bh%512=0
 S:∀q,x.S.st q≠0↔512≤q∧q<bh
 S1:∀q,next≤q→q<bh→x.S.st q=1
 pl:x.S.places= []
 ref:x.S.refuse= []
 st:x.st=TN next bh
 C:∀q,x.C q=decide (1≤q∧q<bh/512)
 K:x.K≤k
 L:x.L=List.replicate i true
 B:x.B= []
 M:∀q:Int,(i:Int)<q→x.M q=none
 n:x.n≤i
 bhf:x.bh=bh∨x.bh=0∧bh=512
 gr:x.gr=bh - 512
 he:x.he=next - 512
 c:∀j,x.c j=(0,0,0)
def XG (x:HS) (S:Go.Proofs.Sp.Sp) (k bh c:Nat):Nat→HS
 |0=>{x with S:=S,K:=k}
 |1=>{x with S:=S,K:=k,st:=setSt x.st bh (bh+c * 512) 3}
 |j+2=>{x with S:=S,K:=k,st:=setSt x.st bh (bh+c * 512) 3,C:=fun q=>if bh/512≤q∧q≤bh/512+j then true else x.C q}
section
variable {N:Nat} {a:HA} {x:HS} {w W:World} {l:List (Thing N)} {i next bh k n:Nat}
theorem GI.reserve (h:GI i next bh k x) {c:Nat} (hc:1≤c) (hc2:c≤3) (hb:bh≤100000):∃S,Go.Proofs.Sp.reserveS x.S x.bh (c * 512)=(bh,0,S)∧(∀q,S.st q≠0↔512≤q∧q<bh+c * 512)∧(∀q,next≤q→q<bh+c * 512→S.st q=1)∧S.places= []∧S.refuse= []:=by
 have hnx:=h.nx
 have hnb:=h.nb
 have fr:Go.Proofs.Sp.free x.S (c * 512) bh:=⟨h.al,by omega,by omega,fun j hj=>by
  by_cases e:x.S.st (bh+j)=0
  ·exact e
  ·have:=(h.S _).1 e;omega⟩
 have fa:Go.Proofs.Sp.firstFrom x.S x.bh (c * 512)=some bh:=by
  rcases h.bhf with e|⟨e,e2⟩
  ·rw[e];exact Go.Proofs.Sp.first_at (by omega) fr (Nat.le_refl _) (fun j h1 h2=>by omega)
  ·rw[e];exact Go.Proofs.Sp.first_at (by omega) fr (Nat.zero_le _) (fun j h1 h2 f=>by
    have:=f.1;have:=f.2.1;omega)
 refine ⟨Go.Proofs.Sp.lay (Go.Proofs.Sp.takePlace (Go.Proofs.Sp.takeRefuse x.S)) bh (c * 512),?_,fun q=> ?_,fun q q1 q2=> ?_,?_,?_⟩
 ·unfold Go.Proofs.Sp.reserveS
  rw[if_neg (by omega),h.ref,fa,show Go.Proofs.Sp.asked x.S (c * 512)=none by unfold Go.Proofs.Sp.asked;rw[h.pl];rfl]
  rfl
 ·show (if bh≤q∧q<bh+c * 512 then 1 else x.S.st q)≠0↔_
  by_cases d:bh≤q∧q<bh+c * 512
  ·rw[if_pos d];exact ⟨fun _=>by omega,fun _=>by decide⟩
  ·rw[if_neg d,h.S q];omega
 ·show (if bh≤q∧q<bh+c * 512 then 1 else x.S.st q)=1
  by_cases d:bh≤q∧q<bh+c * 512
  ·rw[if_pos d]
  ·rw[if_neg d];exact h.S1 q q1 (by omega)
 ·show x.S.places.tail= []
  rw[h.pl];rfl
 ·show x.S.refuse.tail= []
  rw[h.ref];rfl
theorem GI.grow (h:GI i next bh k x) (h1:1≤n) (h2:n≤1500) (hb:bh≤100000) (hk:k≤100000000):∃x3 bh',Does N a w 233 #[pt a.hb, .int .u64 (n:Nat)] (.int .i64 0) x x3∧GI i next bh' (k+2000) x3∧bh+n≤bh'∧bh'≤bh+2000:=by
 have hnx:=h.nx
 have hnb:=h.nb
 have hal:=h.al
 have hK:=h.K
 obtain ⟨c,hc⟩:∃c,c=(n+511)/512:=⟨_,rfl⟩
 obtain ⟨S,e,s1,s2,s3,s4⟩:=h.reserve (c:=c) (by omega) (by omega) hb
 have cR:=does_reserve (N:=N) (a:=a) (w:=w) (x:=x) (h:=x.bh) (n:=c * 512) (by rcases h.bhf with q|⟨q,-⟩<;>omega) (by omega) (by unfold V.lim;omega)
 rw[e] at cR
 have b5:bh/512 * 512=bh:=by omega
 have cG:=does_tgrow (N:=N) (a:=a) (w:=w) (x:=XG x S (x.K+V.cost 0 (c * 512)) bh c 0) (c:=bh/512) (n:=c) (by unfold GrowBad;omega) (by
  rw[b5]
  show (tl x.st bh (c * 512)).p=0
  rw[h.st,tl_all (s:=0) (fun q q1 q2=>by rw[TN_at,if_neg (by omega),if_neg (by omega)])];rfl)
 rw[b5] at cG
 have cA:∀j,j<c→Does N a w 282 #[pt a.ab, .int .u64 ((bh/512+j:Nat):Int)] (.int .i64 0) (XG x S (x.K+V.cost 0 (c * 512)) bh c (j+1)) (XG x S (x.K+V.cost 0 (c * 512)) bh c (j+2)):=fun j hj=>by
  have cj:(XG x S (x.K+V.cost 0 (c * 512)) bh c (j+1)).C (bh/512+j)=false:=by
   cases j with
   |zero=>show x.C (bh/512+0)=false;rw[h.C];exact decide_eq_false (by omega)
   |succ j=>
    show (if bh/512≤bh/512+(j+1)∧bh/512+(j+1)≤bh/512+j then true else x.C (bh/512+(j+1)))=false
    rw[if_neg (by omega),h.C];exact decide_eq_false (by omega)
  refine (does_add (N:=N) (a:=a) (w:=w) (c:=bh/512+j) (by omega) cj).to ?_
  cases j with
  |zero=>
   show ({x with S:=S,K:=_,st:=_,C:=_}:HS)={x with S:=S,K:=_,st:=_,C:=_}
   congr 1
   funext q
   show (if q=bh/512+0 then true else x.C q)=if bh/512≤q∧q≤bh/512+0 then true else x.C q
   by_cases d:q=bh/512+0
   ·rw[if_pos d,if_pos (by omega)]
   ·rw[if_neg d,if_neg (by omega)]
  |succ j=>
   show ({x with S:=S,K:=_,st:=_,C:=_}:HS)={x with S:=S,K:=_,st:=_,C:=_}
   congr 1
   funext q
   show (if q=bh/512+(j+1) then true else if bh/512≤q∧q≤bh/512+j then true else x.C q)=if bh/512≤q∧q≤bh/512+(j+1) then true else x.C q
   by_cases d:q=bh/512+(j+1)
   ·rw[if_pos d,if_pos (by omega)]
   ·rw[if_neg d]
    by_cases e:bh/512≤q∧q≤bh/512+j
    ·rw[if_pos e,if_pos (by omega)]
    ·rw[if_neg e,if_neg (by omega)]
 have g3:=grow_ok (N:=N) (a:=a) (w:=w) (x:=x) (n:=n) (c:=c) (pg:=bh) (X:=XG x S (x.K+V.cost 0 (c * 512)) bh c) (g:=x.gr) h1 (by omega) hc (by omega) cR cG cA (fun j=>by
  cases j with
  |zero=>exact ⟨rfl,rfl⟩
  |succ j=>cases j<;>exact ⟨rfl,rfl⟩) (by have:=h.gr;omega)
 obtain ⟨d,rfl⟩:∃d,c=d+1:=⟨c - 1,by omega⟩
 refine ⟨_,bh+(d+1) * 512,g3,⟨hnx,by omega,by omega,s1,s2,s3,s4,?_,fun q=> ?_,?_,h.L,h.B,h.M,h.n, .inl rfl,?_,h.he,h.c⟩,by omega,by omega⟩
 ·show setSt x.st bh (bh+(d+1) * 512) 3=_
  rw[h.st];exact TN_grow hnx hnb
 ·show (if bh/512≤q∧q≤bh/512+d then true else x.C q)=_
  by_cases e:bh/512≤q∧q≤bh/512+d
  ·rw[if_pos e];exact (decide_eq_true (by omega)).symm
  ·rw[if_neg e,h.C]
   by_cases f:1≤q∧q<bh/512
   ·rw[decide_eq_true f];exact (decide_eq_true (by omega)).symm
   ·rw[decide_eq_false f];exact (decide_eq_false (by omega)).symm
 ·show x.K+V.cost 0 ((d+1) * 512)≤_
  unfold V.cost;rw[if_pos rfl];omega
 ·show x.gr+(d+1) * 512=_
  rw[h.gr];omega
end
section
variable {N:Nat} {a:HA} {x:HS} {w W:World} {l:List (Thing N)} {i next bh k n:Nat}
theorem GI.find (h:GI i next bh k x) (h1:1≤n) (h2:n≤1500) (hb:bh≤100000) (hk:k≤100000000):∃x1 bh' r,Does N a w 180 #[pt a.hb, .int .i64 (-1), .int .u64 (n:Nat)] (.tuple #[rowV next n r, .int .i64 0]) x {x1 with st:=TN (next+n) bh'}∧GI i next bh' (k+2000) x1∧next+n≤bh'∧bh'≤bh+2000:=by
 have hnx:=h.nx
 have hnb:=h.nb
 by_cases c:next+n≤bh
 ·obtain ⟨r,hF⟩:=tree_find (N:=N) (a:=a) (w:=w) (x:=x) (p:=-1) (n:=n) (q:=next) (.inl (by omega)) (by omega) h1 (by rw[h.st];exact TN_first hnx h1 c)
  rw[h.st,TN_take hnx] at hF
  have hK:=h.K
  exact ⟨x,bh,r,hF,{h with K:=by omega},c,by omega⟩
 ·obtain ⟨x3,bh',g3,g,b1,b2⟩:=h.grow (N:=N) (a:=a) (w:=w) h1 h2 hb hk
  have c4:=from_tree (N:=N) (a:=a) (w:=w) (x:=x3) (n:=n) (p:=next) (by omega) h1 (by rw[g.st];exact TN_first hnx h1 (by omega))
  rw[g.st,TN_take hnx] at c4
  exact ⟨x3,bh',_,find_3 (fromCache_not (-1) n (.inl (by omega))) (from_tree_no (by omega) h1 (by rw[h.st];exact TN_none hnx hnb h1 (by omega))) g3 c4,g,by omega,b2⟩
theorem gi_elem (h2:n≤1500):Go.Proofs.YtdgdhnnakcncoaaGreatDoor.N.elemOf n ((0:Nat):Int)=some (n * 8192):=by
 unfold Go.Proofs.YtdgdhnnakcncoaaGreatDoor.N.elemOf
 rw[if_pos (by omega),if_pos (by omega)]
theorem GI.alloc (h:GI i next bh k x) (hi:i<100) (h1:1≤n) (h2:n≤1500) (hb:bh≤100000) (hk:k≤100000000):
 ∃Y bh',Alc N a w 20 #[pt a.hb, .int .i64 (-1), .int .u64 (n:Nat), .int .i64 ((0:Nat):Int), .bool false] (.tuple #[.int .i64 ((i:Int)+1), .int .i64 0]) x Y∧bh'≤bh+2000∧
  ∀b,GI (i+1) (next+n) bh' (k+4000) (Y b)∧(Y b).Q ((i:Int)+1)=some b∧(Y b).M ((i:Int)+1)=some (b,⟨next,n,0,n * 8192,false⟩)∧(∀q,next≤q→q<next+n→(Y b).S.st q=2)∧∀q,next≤q/8192→q/8192<next+n→(Y b).S.wd q=0:=by
 obtain ⟨x1,bh',r,cF,g,b1,b2⟩:=h.find (N:=N) (a:=a) (w:=w) h1 h2 hb hk
 have hnx:=g.nx
 have hal:=g.al
 have hK:=g.K
 have hn:=g.n
 have hhe:=g.he
 have one:∀j,j<n→x1.S.st (next+j)=1:=fun j hj=>g.S1 _ (by omega) (by omega)
 have rt:Go.Proofs.Sp.right next n:=⟨h1,by omega⟩
 have ce:=Go.Proofs.Sp.commit_ok rt (fun j hj=>by rw[one j hj];decide) 0 h1 (by rw[one 0 h1];decide) (by rw[g.ref];rfl)
 have cC:=does_commit (N:=N) (a:=a) (w:=w) (x:={x1 with st:=TN (next+n) bh'}) (p:=next) (n:=n) (by omega) (by omega) (by show x1.K≤_;unfold V.lim;omega)
 have ce':Go.Proofs.Sp.commitS ({x1 with st:=TN (next+n) bh'}:HS).S next n=_:=ce
 rw[ce'] at cC
 obtain ⟨S2,hS2⟩:∃S2,Go.Proofs.Sp.readyN (Go.Proofs.Sp.takeRefuse x1.S) next n=S2:=⟨_,rfl⟩
 have kp:=Go.Proofs.Sp.readyN_keeps (Go.Proofs.Sp.takeRefuse x1.S) next n
 have nw:=(Go.Proofs.Sp.readyN_new (Go.Proofs.Sp.takeRefuse x1.S) next n one).2
 have ss:=Go.Proofs.Sp.readyN_st (Go.Proofs.Sp.takeRefuse x1.S) next n
 rw[hS2] at cC kp nw ss
 have cg:=get_ok cF cC
 have ct:=does_take (N:=N) (a:=a) (w:=w) (x:={x1 with S:=S2,K:=x1.K+V.cost 0 n,st:=TN (next+n) bh'}) (by show x1.L.length<100000;rw[g.L,List.length_replicate];omega)
 have ti:F.takeI x1.L x1.B=(i:Int)+1:=by rw[g.L,g.B];show ((List.replicate i true).length:Int)+1=_;rw[List.length_replicate]
 have ao:A.AllIn x1.C next n:=⟨by omega,by omega,fun q q1 q2=>by rw[g.C];exact decide_eq_true (by omega)⟩
 have al:=alloc_ok (p:=-1) (n:=n) (pg:=next) (cls:=0) (el:=n * 8192) (np:=false) (id:=(i:Int)+1) (V':=A.putI x1.V next (next+n) ((i:Int)+1))
  (x2:={x1 with S:=S2,K:=x1.K+V.cost 0 n,st:=TN (next+n) bh',L:=F.takeL x1.L x1.B,B:=x1.B.tail})
  (by unfold Go.Proofs.YtdgdhnnakcncoaaGreatDoor.N.rpB;exact decide_eq_true ⟨by omega,by omega⟩) (by unfold Go.Proofs.YtdgdhnnakcncoaaGreatDoor.N.rpB;exact decide_eq_true ⟨by omega,by omega⟩) (gi_elem h2) cg (ti▸ct) (g.M _ (by omega)) (by show x1.n<_;omega) ⟨by omega,by omega⟩ (by show x1.he+n<_;omega) (fun Q M k he=>does_set (by omega) (by omega) ao)
 refine ⟨_,bh',al,b2,fun b=>⟨⟨by omega,b1,hal,fun q=> ?_,fun q q1 q2=> ?_,kp.2.1.trans g.pl,?_,rfl,g.C,?_,?_,?_,fun q hq=> ?_,by show x1.n+1≤_;omega,g.bhf,g.gr,by show x1.he+n=_;omega,g.c⟩,if_pos rfl,if_pos rfl,fun q q1 q2=> ?_,fun q q1 q2=> ?_⟩⟩
 ·show S2.st q≠0↔_
  rw[ss]
  by_cases d:next≤q∧q<next+n
  ·rw[if_pos d];exact ⟨fun _=>by omega,fun _=>by decide⟩
  ·rw[if_neg d];exact g.S q
 ·show S2.st q=1
  rw[ss,if_neg (by omega)];exact g.S1 q (by omega) q2
 ·refine kp.2.2.trans ?_
  show x1.S.refuse.tail= []
  rw[g.ref];rfl
 ·show x1.K+V.cost 0 n≤_
  unfold V.cost;rw[if_pos rfl];omega
 ·show F.takeL x1.L x1.B=_
  rw[g.L,g.B];show List.replicate i true++ [true]=_;rw[List.replicate_succ']
 ·show x1.B.tail= []
  rw[g.B];rfl
 ·show putM x1.M _ b _ q=none
  unfold putM
  rw[if_neg (by omega)];exact g.M q (by omega)
 ·show S2.st q=2
  rw[ss,if_pos ⟨q1,q2⟩]
 ·show S2.wd q=0
  rw[nw,if_pos ⟨q1,q2⟩]
theorem gi_start:GI 0 512 512 0 (x0 []):=by
 refine ⟨by omega,by omega,rfl,fun q=>⟨fun u=>absurd rfl u,fun u=>by omega⟩,fun q q1 q2=>by omega,rfl,rfl,?_,fun q=> ?_,by show 0≤_;omega,rfl,rfl,fun q hq=>rfl,by show 0≤_;omega, .inr ⟨rfl,rfl⟩,rfl,rfl,fun j=>rfl⟩
 ·funext q
  rw[TN_at,if_neg (by omega),if_neg (by omega)];rfl
 ·exact (decide_eq_false (by omega)).symm
end
section
variable {N:Nat} {a:HA} {x:HS} {w W:World} {l:List (Thing N)}
set_option maxRecDepth 100000 in
theorem mem_any:Does N a w 15 #[pt a.hb] (pt a.m) x x:=by
 intro W l hs
 have OP:=hide (open_any hs)
 have c0:=(Sep.hb hs).c0
 have S:=hide hs
 unfold pt at *
 clear hs
 go_enter Tryz.func15,Tryz.ntmps15
 go_wp2_with fail
 refine (OP.out).mono ?_
 rintro e' W2 ⟨rfl,hw⟩
 rw[hw]
 clear hw W2 OP
 go_wp2_with fail
 go_ret
 exact ⟨rfl,S.out⟩
theorem does_load {q v:Nat} (hq:q<18446744073709551616) (hK:x.K≤V.lim) (h1:q%8=0) (h2:x.S.st (q/8192)=2) (h3:x.S.wd q=v):
 Does N a w 23 #[pt a.m, .int .u64 (q:Nat)] (.tuple #[.int .u64 (v:Nat), .int .i64 0]) x x:=by
 have:=fun W F (p:V.VI W ⟨a.m,0,none⟩ x.S F x.K)=>V.vload (q:Nat) (t64 hq) p hK
 simp only[Int.toNat_natCast,Go.Proofs.Sp.load_ok h1 h2,h3] at this
 exact does_vm _ _ this
theorem does_store {q v:Nat} (hq:q<18446744073709551616) (hv:v<18446744073709551616) (hK:x.K≤V.lim) (h1:q%8=0) (h2:x.S.st (q/8192)=2):
 Does N a w 24 #[pt a.m, .int .u64 (q:Nat), .int .u64 (v:Nat)] (.int .i64 0) x {x with S:=Go.Proofs.Sp.putS x.S q v,K:=x.K+1}:=by
 have:=fun W F (p:V.VI W ⟨a.m,0,none⟩ x.S F x.K)=>V.vstore (q:Nat) (v:Nat) (t64 hq) (t64 hv) p hK
 simp only[Int.toNat_natCast,Go.Proofs.Sp.store_ok h1 h2] at this
 exact does_vm _ _ this
end
theorem TN_rel {next bh:Nat} (h1:512≤next) (h2:next≤bh) (h3:bh≤34359738368):rlT (TN next bh)=bh - next:=by
 obtain ⟨m,rfl⟩:∃m,bh=512+m:=⟨bh - 512,by omega⟩
 obtain ⟨n,rfl⟩:∃n,next=512+n:=⟨next - 512,by omega⟩
 have t1:=(tot_set (st:=fun _=>0) (a:=512) (n:=m) (s:=3) (by omega)).2
 have t2:=(tot_set (st:=setSt (fun _=>0) 512 (512+m) 3) (a:=512) (n:=n) (s:=1) (by omega)).2
 rw[tl_all (s:=0) (fun _ _ _=>rfl),tot_zero.2] at t1
 rw[tl_all (s:=3) (fun q q1 q2=>setSt_in ⟨q1,by omega⟩)] at t2
 have e0:(tlOf 0 m).r=0:=rfl
 have e1:(tlOf 3 n).r=n:=rfl
 rw[e0,if_pos rfl] at t1
 rw[e1,if_neg (by omega)] at t2
 show rlT (setSt (setSt (fun _=>0) 512 (512+m) 3) 512 (512+n) 1)=_
 omega
section
variable {N:Nat} {a:HA} {x:HS} {w W:World} {l:List (Thing N)} {i next bh k n:Nat}
theorem GI.put (h:GI i next bh k x) (q v:Nat):GI i next bh (k+1) {x with S:=Go.Proofs.Sp.putS x.S q v,K:=x.K+1}:=
 ⟨h.nx,h.nb,h.al,h.S,h.S1,h.pl,h.ref,h.st,h.C,Nat.succ_le_succ h.K,h.L,h.B,h.M,h.n,h.bhf,h.gr,h.he,h.c⟩
theorem GI.told (h:GI i next bh k x) (hb:bh≤100000):Does N a w 25 #[pt a.hb] (.tuple #[.int .u64 ((bh:Int) - 512), .int .u64 ((next:Int) - 512), .int .u64 ((bh:Int) - next)]) x x:=by
 have hnx:=h.nx
 have hnb:=h.nb
 have gv:goneV x=bh - next:=by
  show rlT x.st+relS x.c 64=_
  rw[h.st,TN_rel hnx hnb (by omega),relS_zero h.c];rfl
 have t:=told_any (N:=N) (a:=a) (w:=w) (x:=x) (fun j hj=>by rw[h.c j];exact ⟨by show 0≤_;omega,by show 0<_;omega,by show 0<_;omega⟩) (by rw[gv];omega)
 rw[gv,h.gr,h.he,show ((bh - 512:Nat):Int)=(bh:Int) - 512 by omega,show ((next - 512:Nat):Int)=(next:Int) - 512 by omega,show ((bh - next:Nat):Int)=(bh:Int) - next by omega] at t
 exact t
def infG (next n:Nat):Value:= .agg #[.int .u64 ((next:Int) * 8192), .int .i64 (n:Nat), .int .i64 1, .int .i64 0, .bool false, .int .i64 ((n * 8192:Nat):Int), .int .i64 1, .int .i64 0, .bool false, .bool false]
theorem info_of {id:Int} {b:Nat} (hM:x.M id=some (b,⟨next,n,0,n * 8192,false⟩)) (h1:1≤n) (h2:n≤1500) (h3:next≤100000) (hs:Sep N w W (HL N a x l)):Calls Tryz.prog 22 #[pt b] W fun e W'=>e= .returned (infG next n)∧Sep N w W' (HL N a x l):=by
 have sl:n * 8192/(n * 8192)=1:=Nat.div_self (by omega)
 have gok:=Go.Proofs.YtdgdhnnakcncoaaGreatDoor.N.geo_ok (page:=next) (pages:=n) (cls:=0) (elem:=n * 8192) (noptr:=false) (by unfold Go.Proofs.YtdgdhnnakcncoaaGreatDoor.N.rpB;exact decide_eq_true ⟨by omega,by omega⟩) (by omega) (by omega) (Nat.le_refl _) (by rw[sl];omega)
 obtain ⟨F,q1,q2,q3⟩:=(sp_split hs hM).last
 refine (Go.Proofs.YtdgdhnnakcncoaaGreatDoor.N.sp_info (Go.Proofs.YtdgdhnnakcncoaaGreatDoor.N.Sp.made q1 q2 gok)).mono fun e W' ⟨e1,e2⟩=>⟨?_,hs.read e2⟩
 rw[e1,Bt.cnt_none (fun _ _=>rfl)]
 show Ending.returned (.agg #[.int .u64 ((next * 8192:Nat):Int), .int .i64 (n:Nat), .int .i64 ((1:Nat):Int), .int .i64 ((0:Nat):Int), .bool false, .int .i64 ((n * 8192:Nat):Int), .int .i64 ((n * 8192/(n * 8192):Nat):Int), .int .i64 ((0:Nat):Int), .bool false, .bool false])=_
 rw[sl,show ((next * 8192:Nat):Int)=(next:Int) * 8192 by omega]
 rfl
def GR (N:Nat) (a:HA) (w:World) (i next:Nat) (W:World):Prop:=∃x bh,GI i next bh (6000 * i) x∧bh≤512+2000 * i∧Sep N w W (HL N a x [])
def GQ (N:Nat) (a:HA) (w:World) (i next n kk:Nat) (W:World):Prop:=∃x bh,GI (i+1) (next+n) bh (6000 * i+4000+kk) x∧bh≤512+2000 *(i+1)∧(∀q,next≤q→q<next+n→x.S.st q=2)∧(∀q,next+kk≤q/8192→q/8192<next+n→x.S.wd q=0)∧Sep N w W (HL N a x [])
set_option maxRecDepth 100000 in
theorem GR.nxt (h:GR N a w i next W) (hi:i<20) (h1:1≤n) (h2:n≤1500):
 Calls Tryz.prog 20 #[pt a.hb, .int .i64 (-1), .int .u64 (n:Nat), .int .i64 0, .bool false] W fun e W'=>e= .returned (.tuple #[.int .i64 ((i:Int)+1), .int .i64 0])∧
  ∃b,Calls Tryz.prog 21 #[pt a.hb, .int .i64 ((i:Int)+1)] W' fun e W1=>e= .returned (.tuple #[pt b, .int .i64 0])∧
   Calls Tryz.prog 22 #[pt b] W1 fun e W2=>e= .returned (infG next n)∧
    Calls Tryz.prog 22 #[pt b] W2 fun e W3=>e= .returned (infG next n)∧GQ N a w i next n 0 W3:=by
 obtain ⟨x,bh,g,hb,hs⟩:=h
 have hnb:=g.nb
 obtain ⟨Y,bh',hA,b2,hY⟩:=g.alloc (N:=N) (a:=a) (w:=w) (by omega) h1 h2 (by omega) (by omega)
 have hb':bh'≤512+2000 *(i+1):=by omega
 refine (hA W [] hs).mono fun e W' ⟨e1,b,s1⟩=>⟨e1,b,?_⟩
 obtain ⟨g1,g2,g3,g4,g5⟩:=hY b
 refine (span_ok (N:=N) (a:=a) (w:=w) ⟨by omega,by omega⟩ g2 W' [] s1).mono fun e W1 ⟨e2,s2⟩=>⟨e2,?_⟩
 refine (info_of g3 h1 h2 (by omega) s2).mono fun e W2 ⟨e3,s3⟩=>⟨e3,?_⟩
 exact (info_of g3 h1 h2 (by omega) s3).mono fun e W3 ⟨e4,s4⟩=>⟨e4,Y b,bh',(Nat.add_zero (6000 * i+4000)).symm▸g1,hb',g4,fun q q1 q2=>g5 q (Nat.le_of_add_right_le q1) q2,s4⟩
set_option maxRecDepth 100000 in
theorem GQ.nxt {kk:Nat} (h:GQ N a w i next n kk W) (hi:i<20) (hk:kk<n) (h2:n≤1500) (hn:next≤100000) {ad:Nat} (had:ad/8192=next+kk) (had8:ad%8=0):
 Calls Tryz.prog 15 #[pt a.hb] W fun e W1=>e= .returned (pt a.m)∧
  Calls Tryz.prog 23 #[pt a.m, .int .u64 (ad:Nat)] W1 fun e W2=>e= .returned (.tuple #[.int .u64 0, .int .i64 0])∧
   Calls Tryz.prog 15 #[pt a.hb] W2 fun e W3=>e= .returned (pt a.m)∧
    Calls Tryz.prog 24 #[pt a.m, .int .u64 (((next:Int)+kk) * 8192), .int .u64 (n:Nat)] W3 fun e W4=>e= .returned (.int .i64 0)∧∀k',kk<k'→GQ N a w i next n k' W4:=by
 obtain ⟨x,bh,g,hb,hst,hwd,hs⟩:=h
 have hK:=g.K
 have hnb:=g.nb
 refine (mem_any (N:=N) (a:=a) (w:=w) W [] hs).mono fun e W1 ⟨e1,s1⟩=>⟨e1,?_⟩
 refine (does_load (N:=N) (a:=a) (w:=w) (q:=ad) (v:=0) (by omega) (by unfold V.lim;omega) had8 (by rw[had];exact hst _ (by omega) (by omega)) (hwd ad (by omega) (by omega)) W1 [] s1).mono fun e W2 ⟨e2,s2⟩=>⟨e2,?_⟩
 refine (mem_any (N:=N) (a:=a) (w:=w) W2 [] s2).mono fun e W3 ⟨e3,s3⟩=>⟨e3,?_⟩
 have st:=does_store (N:=N) (a:=a) (w:=w) (x:=x) (q:=(next+kk) * 8192) (v:=n) (by omega) (by omega) (by unfold V.lim;omega) (by omega) (by rw[show (next+kk) * 8192/8192=next+kk by omega];exact hst _ (by omega) (by omega)) W3 [] s3
 rw[show (((next+kk) * 8192:Nat):Int)=((next:Int)+kk) * 8192 by omega] at st
 refine st.mono fun e W4 ⟨e4,s4⟩=>⟨e4,fun k' hk'=>⟨_,bh,{g.put ((next+kk) * 8192) n with K:=Nat.le_trans (g.put ((next+kk) * 8192) n).K (by omega)},hb,hst,fun q q1 q2=> ?_,s4⟩⟩
 show (if q=(next+kk) * 8192 then n else x.S.wd q)=0
 rw[if_neg (by omega)]
 exact hwd q (by omega) q2
theorem GQ.done (h:GQ N a w i next n k W) (hk:k≤1999):GR N a w (i+1) (next+n) W:=by
 obtain ⟨x,bh,g,hb,-,-,hs⟩:=h
 exact ⟨x,bh,{g with K:=Nat.le_trans g.K (by omega)},hb,hs⟩
end
theorem GR.be {N:Nat} {a:HA} {w W:World} {i next:Nat} (h:GR N a w i next W):Below N w W:=by
 obtain ⟨x,bh,-,-,h⟩:=h
 exact h.be
theorem GR.lo {N:Nat} {a:HA} {w W:World} {i next:Nat} (h:GR N a w i next W):512≤next∧next≤512+2000 * i:=by
 obtain ⟨x,bh,g,hb,-⟩:=h
 have:=g.nx;have:=g.nb
 exact ⟨by omega,by omega⟩
theorem fldG0 (a b c d e f g h i j:Value) (w:World):(Instr.field 52 (.agg #[a,b,c,d,e,f,g,h,i,j]) 0).run Tryz.prog w= .ok a w:=by
 simp[Instr.field,run_underlying Tryz.underlying52,part,go_sem,asAgg]
theorem fldG1 (a b c d e f g h i j:Value) (w:World):(Instr.field 52 (.agg #[a,b,c,d,e,f,g,h,i,j]) 1).run Tryz.prog w= .ok b w:=by
 simp[Instr.field,run_underlying Tryz.underlying52,part,go_sem,asAgg]
set_option maxRecDepth 100000 in
theorem grows_any (w:World) (hT:TabW w) (o:Option Addr) (len cap:Nat) (hA:len≤maxLen∧len≤cap∧∃X,U64At w o len cap X):
 Calls Tryz.prog 4 #[.slice o len cap] w fun e w'=>e= .returned (.bool true)∧Below w.heap.size w w':=by
 obtain ⟨hm,hc,X,hX⟩:=hA
 have l0:0≤(len:Int):=by omega
 have lm:(len:Int)≤9223372036854775807:=by unfold maxLen at hm;omega
 by_cases hl:20<len
 ·have B:=hide (Below.refl w.heap.size w)
  have dl:decide (20<(len:Int))=true:=decide_eq_true (by omega)
  clear hX hm hc hT
  go_enter Tryz.func4,Tryz.ntmps4
  go_wp2_with fail
  go_ret
  exact ⟨rfl,B.out⟩
 have dl:decide (20<(len:Int))=false:=decide_eq_false (by omega)
 have l1:(len:Int)≤20:=by omega
 have CFr:=hide (fresh_any hT (V.Sl.nil w) (V.Sl.nil w) (V.Sl.nil w) (pl:=[]) (re:=[]) (fi:=[]) (by simp) (by simp) (by simp) (by simp) (by simp))
 have HT:=hide hT
 have HX:=hide hX
 clear hX hm hc hT hl
 go_enter Tryz.func4,Tryz.ntmps4
 go_wp2_with fail
 refine CFr.out.mono ?_
 rintro e W2 ⟨a,rfl,s2⟩
 have R0:=hide (show GR w.heap.size a w 0 512 W2 from ⟨_,512,gi_start,by omega,s2⟩)
 clear s2 CFr dl
 unfold pt
 go_wp2_with fail
 go_loopw [5,4] (fun iv nv wr=>∃i next:Nat,iv= .int .i64 (i:Nat)∧nv= .int .u64 (next:Nat)∧i≤len∧Hid (GR w.heap.size a w i next wr)) (fun iv _ _=>(len - intOf iv).toNat)
 case atStart=>exact ⟨0,512,rfl,rfl,by omega,R0⟩
 case round=>
  clear R0
  obtain ⟨i,next,rfl,rfl,i1,HE⟩:=hrel
  obtain ⟨nl,nh⟩:=HE.out.lo
  have i2:(0:Int)≤(i:Int):=by omega
  have i3:(i:Int)≤20:=by omega
  have n3:(512:Int)≤(next:Int):=by omega
  have n4:(next:Int)≤40512:=by omega
  by_cases hi:(i:Int)<(len:Int)
  ·obtain ⟨b,off,rfl,hb,hcl⟩:=HX.out.at (i:=i) (by omega)
   have z0:=hcl i (by omega)
   have d0:=(cell_block (HE.out.be.block b hb) (off+ i)).trans z0
   have x0:=HX.out.lo i
   have x1:=HX.out.hi i
   obtain ⟨n,hn⟩:∃n:Nat,X i=(n:Int):=⟨(X i).toNat,by omega⟩
   rw[hn] at d0 x0 x1
   have BE:=hide (HE.out.be)
   clear hcl hb z0 hn
   by_cases n1:(n:Int)<1
   ·have q1:decide ((n:Int)<1)=true:=decide_eq_true n1
    clear HE n1
    go_wp2_with fail
    go_ret
    exact ⟨rfl,BE.out⟩
   have q1:decide ((n:Int)<1)=false:=decide_eq_false n1
   by_cases n2:1500<(n:Int)
   ·have q2:decide (1500<(n:Int))=true:=decide_eq_true n2
    clear HE n1 n2
    go_wp2_with fail
    go_ret
    exact ⟨rfl,BE.out⟩
   have q2:decide (1500<(n:Int))=false:=decide_eq_false n2
   have CA:=hide (HE.out.nxt (n:=n) (by omega) (by omega) (by omega))
   have m1:(1:Int)≤(n:Int):=by omega
   have m2:(n:Int)≤1500:=by omega
   have wa:IntKind.u64.wrap ((next:Int) * 8192)=(next:Int) * 8192:=by rw[IntKind.wrap_u64];omega
   have wb:IntKind.i64.wrap (n:Int)=(n:Int):=by rw[IntKind.wrap_i64];omega
   unfold infG pt at CA
   have fa:=fldG0
   have fb:=fldG1
   clear HE BE n1 n2 x0 x1
   go_wp2_with fail
   refine CA.out.mono ?_
   rintro e W3 ⟨rfl,b1,c1⟩
   have C1:=hide c1
   clear CA c1 d0
   go_wp2_with fail
   refine C1.out.mono ?_
   rintro e W4 ⟨rfl,c2⟩
   have C2:=hide c2
   clear C1 c2
   go_wp2_with fail
   refine C2.out.mono ?_
   rintro e W5 ⟨rfl,c3⟩
   have C3:=hide c3
   clear C2 c3
   go_wp2_with fail
   refine C3.out.mono ?_
   rintro e W6 ⟨rfl,g0⟩
   have G0:=hide g0
   clear C3 g0
   go_wp2_with fail
   go_loopw [11] (fun kv wr=>∃kk:Nat,kv= .int .u64 (kk:Nat)∧kk≤n+167∧Hid (GQ w.heap.size a w i next n kk wr)) (fun kv _=>(n+200 - intOf kv).toNat)
   case atStart=>exact ⟨0,rfl,by omega,G0⟩
   case round=>
    clear G0
    obtain ⟨kk,rfl,k1,HQ⟩:=hrel
    have k2:(0:Int)≤(kk:Int):=by omega
    have k3:(kk:Int)≤1700:=by omega
    by_cases hk:(kk:Int)<(n:Int)
    ·have dk:decide ((kk:Int)<(n:Int))=true:=decide_eq_true hk
     obtain ⟨ad,had⟩:∃ad:Nat,ad=(next+kk) * 8192+8 * kk%8192:=⟨_,rfl⟩
     have CM:=hide (HQ.out.nxt (ad:=ad) (by omega) (by omega) (by omega) (by omega) (by omega) (by omega))
     have u1:IntKind.u64.wrap ((next:Int)+kk)=(next:Int)+kk:=by rw[IntKind.wrap_u64];omega
     have u2:IntKind.u64.wrap (((next:Int)+kk) * 8192)=((next:Int)+kk) * 8192:=by rw[IntKind.wrap_u64];omega
     have u3:IntKind.u64.wrap (8 *(kk:Int))=8 *(kk:Int):=by rw[IntKind.wrap_u64];omega
     have u4:IntKind.u64.wrap (((next:Int)+kk) * 8192+8 *(kk:Int)%8192)=((ad:Nat):Int):=by rw[IntKind.wrap_u64];omega
     unfold pt at CM
     clear HQ had
     go_wp2_with fail
     refine CM.out.mono ?_
     rintro e W7 ⟨rfl,c4⟩
     have C4:=hide c4
     clear CM c4
     go_wp2_with fail
     refine C4.out.mono ?_
     rintro e W8 ⟨rfl,c5⟩
     have C5:=hide c5
     clear C4 c5
     go_wp2_with fail
     refine C5.out.mono ?_
     rintro e W9 ⟨rfl,c6⟩
     have C6:=hide c6
     clear C5 c6
     go_wp2_with fail
     refine C6.out.mono ?_
     rintro e W10 ⟨rfl,c7⟩
     have G1:=hide (c7 (kk+(1+n/9)) (by omega))
     have u5:IntKind.u64.wrap (1+(n:Int)/9)=1+(n:Int)/9:=by rw[IntKind.wrap_u64];omega
     have u6:IntKind.u64.wrap ((kk:Int)+(1+(n:Int)/9))=(kk:Int)+(1+(n:Int)/9):=by rw[IntKind.wrap_u64];omega
     clear C6 c7 u4
     go_wp2_with fail
     go_roundw
     case rel=>exact ⟨kk+(1+n/9),by push_cast;rfl,by omega,G1⟩
     case measure=>simp[intOf];omega
    ·have dk:decide (kk<n)=false:=decide_eq_false (by omega)
     have dj:decide ((kk:Int)<(n:Int))=false:=decide_eq_false hk
     have ng:¬kk<n:=by omega
     have le:n≤kk:=by omega
     have G1:=hide (HQ.out.done (by omega))
     have u5:IntKind.u64.wrap ((next:Int)+(n:Int))=(next:Int)+(n:Int):=by rw[IntKind.wrap_u64];omega
     have u6:IntKind.i64.wrap ((i:Int)+1)=(i:Int)+1:=by rw[IntKind.wrap_i64];omega
     clear HQ
     go_wp2_with fail
     go_roundw
     case rel=>exact ⟨i+1,next+n,by push_cast;rfl,by push_cast;rfl,by omega,G1⟩
     case measure=>simp[intOf];omega
  ·have hd:decide ((i:Int)<(len:Int))=false:=decide_eq_false hi
   have hd2:decide (i<len)=false:=decide_eq_false (by omega)
   have ng:¬i<len:=by omega
   have le:len≤i:=by omega
   obtain ⟨x,bh,g,hb,hs⟩:=HE.out
   have gl:=g.nb
   have ga:=g.al
   have CT:=hide (g.told (N:=w.heap.size) (a:=a) (w:=w) (by omega) wr [] hs)
   have v1:IntKind.u64.wrap ((next:Int) - 512)=(next:Int) - 512:=by rw[IntKind.wrap_u64];omega
   have v2:IntKind.u64.wrap ((bh:Int) - 512 -((next:Int) - 512))=(bh:Int) - next:=by rw[IntKind.wrap_u64];omega
   have v3:decide ((next:Int) - 512≤(bh:Int) - 512)=true:=decide_eq_true (by omega)
   have v4:((bh:Int) - 512)%512=0:=by omega
   unfold pt at CT
   clear HE g hb hs ga
   go_wp2_with fail
   refine CT.out.mono ?_
   rintro e W5 ⟨rfl,s5⟩
   have BE:=hide s5.be
   have CW:=hide (awake_any (w:=W5) (HT.out.below s5.be))
   clear CT s5
   go_wp2_with fail
   refine CW.out.mono ?_
   rintro e W6 ⟨rfl,b6⟩
   have BF:=hide (BE.out.trans (b6.mono BE.out.size))
   clear CW b6 BE
   go_wp2_with fail
   go_ret
   exact ⟨rfl,BF.out⟩
end Go.Proofs.YtdgdhnnakcncoaaGreatDoor
