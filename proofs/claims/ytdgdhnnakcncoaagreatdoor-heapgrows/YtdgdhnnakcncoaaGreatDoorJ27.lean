/- Of the proof of HeapGrows: texts VSp, VSpB, VPg, VFace, VHelp. -/
import Derived.Test.YtdgdhnnakcncoaaGreatDoorJ03
import Derived.Test.YtdgdhnnakcncoaaGreatDoorJ23
import Derived.RowKit3
import Derived.Test.YtdgdhnnakcncoaaGreatDoorRows
import Derived.WalkKit
import Derived.ProofKit
import Derived.OpenShut
import Derived.WalkLawsBesides
import Derived.Deep.Draws
import Derived.Deep.QuietTactic
import Derived.BigQuiet
import Derived.Outline
namespace Go.Proofs.Sp
structure Sp where
 places:List Nat
 refuse:List Bool
 fills:List Nat
 pgs:List Nat
 st:Nat→Nat
 wd:Nat→Nat
def Sp.new (pl:List Nat) (re:List Bool) (fi:List Nat):Sp:=⟨pl,re,fi,[],fun _=>0,fun _=>0⟩
structure WF (S:Sp):Prop where
 rising:S.pgs.Pairwise (· < ·)
 below:∀p∈S.pgs,p<34359738368
 mem:∀p,S.st p≠0↔p∈S.pgs
 le3:∀p,S.st p≤3
theorem WF.new (pl:List Nat) (re:List Bool) (fi:List Nat):WF (Sp.new pl re fi):=
 ⟨List.Pairwise.nil,(fun p h=>by cases h),(fun p=>⟨fun h=>absurd rfl h,fun h=>by cases h⟩),fun p=>Nat.zero_le _⟩
def search (P:Nat→Bool):Nat→Nat→Option Nat
 |_,0=>none
 |k,f+1=>if P k then some k else search P (k+1) f
theorem search_some {P:Nat→Bool} {k f r:Nat} (h:search P k f=some r):k≤r∧r<k+f∧P r=true∧∀j,k≤j→j<r→P j=false:=by
 induction f generalizing k with
 |zero=>simp[search] at h
 |succ f ih=>
  unfold search at h
  by_cases hp:P k=true
  ·rw[if_pos hp] at h
   have:k=r:=by simpa using h
   subst this
   exact ⟨Nat.le_refl _,by omega,hp,fun j h1 h2=>by omega⟩
  ·rw[if_neg hp] at h
   obtain ⟨a,b,c,d⟩:=ih h
   refine ⟨by omega,by omega,c,fun j h1 h2=> ?_⟩
   by_cases e:j=k
   ·subst e;simpa using hp
   ·exact d j (by omega) h2
theorem search_none {P:Nat→Bool} {k f:Nat} (h:search P k f=none):∀j,k≤j→j<k+f→P j=false:=by
 induction f generalizing k with
 |zero=>intro j h1 h2;omega
 |succ f ih=>
  unfold search at h
  by_cases hp:P k=true
  ·rw[if_pos hp] at h;simp at h
  ·rw[if_neg hp] at h
   intro j h1 h2
   by_cases e:j=k
   ·subst e;simpa using hp
   ·exact ih h j (by omega) (by omega)
abbrev free (S:Sp) (pages q:Nat):Prop:=q%512=0∧q≠0∧q+pages≤34359738368∧∀i,i<pages→S.st (q+ i)=0
def firstFrom (S:Sp) (hint pages:Nat):Option Nat:=(search (fun k=>decide (free S pages (512 * k))) ((hint+511)/512) (67108864 -(hint+511)/512)).map (512 * ·)
theorem first_some {S:Sp} {hint pages q:Nat} (h:firstFrom S hint pages=some q):free S pages q∧hint≤q∧∀j,hint≤j→j<q→¬free S pages j:=by
 unfold firstFrom at h
 cases e:search (fun k=>decide (free S pages (512 * k))) ((hint+511)/512) (67108864 -(hint+511)/512) with
 |none=>rw[e] at h;simp at h
 |some r=>
  rw[e] at h
  have:512 * r=q:=by simpa using h
  subst this
  obtain ⟨a,b,c,d⟩:=search_some e
  refine ⟨of_decide_eq_true c,by omega,fun j h1 h2 hf=> ?_⟩
  obtain ⟨f1,f2,f3,f4⟩:=hf
  have:=d (j/512) (by omega) (by omega)
  have e2:512 *(j/512)=j:=by omega
  rw[e2] at this
  exact of_decide_eq_false this ⟨f1,f2,f3,f4⟩
theorem first_none {S:Sp} {hint pages:Nat} (h:firstFrom S hint pages=none) (hp:0<pages):∀j,hint≤j→¬free S pages j:=by
 unfold firstFrom at h
 have e:search (fun k=>decide (free S pages (512 * k))) ((hint+511)/512) (67108864 -(hint+511)/512)=none:=by
  cases e:search (fun k=>decide (free S pages (512 * k))) ((hint+511)/512) (67108864 -(hint+511)/512) with
  |none=>rfl
  |some r=>rw[e] at h;simp at h
 intro j h1 hf
 obtain ⟨f1,f2,f3,f4⟩:=hf
 have:=search_none e (j/512) (by omega) (by omega)
 have e2:512 *(j/512)=j:=by omega
 rw[e2] at this
 exact of_decide_eq_false this ⟨f1,f2,f3,f4⟩
theorem first_at {S:Sp} {hint pages q:Nat} (hp:0<pages) (h1:free S pages q) (h2:hint≤q) (h3:∀j,hint≤j→j<q→¬free S pages j):firstFrom S hint pages=some q:=by
 cases h:firstFrom S hint pages with
 |none=>exact absurd h1 (first_none h hp q h2)
 |some r=>
  obtain ⟨a,b,c⟩:=first_some h
  by_cases l:r<q
  ·exact absurd a (h3 r b l)
  ·by_cases g:q<r
   ·exact absurd h1 (c q h2 g)
   ·rw[show r=q by omega]
def lay (S:Sp) (q pages:Nat):Sp:=
 {S with pgs:=S.pgs.filter (· <q)++(List.range' q pages++S.pgs.filter (q≤ ·)),st:=fun p=>if q≤p∧p<q+pages then 1 else S.st p}
def takeRefuse (S:Sp):Sp:={S with refuse:=S.refuse.tail}
def takePlace (S:Sp):Sp:={S with places:=S.places.tail}
def asked (S:Sp) (pages:Nat):Option Nat:=S.places.head?.bind fun x=>if free S pages x then some x else none
def reserveS (S:Sp) (hint pages:Nat):Nat×Nat×Sp:=
 if pages=0∨pages%512≠0∨134217728<pages then (0,1,S)
 else if S.refuse.headD false then (0,13,takeRefuse S)
 else match ((asked S pages).or ((firstFrom S hint pages).or (firstFrom S 0 pages))) with
  |none=>(0,13,takePlace (takeRefuse S))
  |some q=>(q,0,lay (takePlace (takeRefuse S)) q pages)
def readyOne (S:Sp) (p:Nat):Sp:=
 if S.st p=2 then S
 else if S.st p=3 then {S with fills:=S.fills.tail,st:=fun x=>if x=p then 2 else S.st x,wd:=fun a=>if a/8192=p then S.fills.headD 0 else S.wd a}
 else {S with st:=fun x=>if x=p then 2 else S.st x,wd:=fun a=>if a/8192=p then 0 else S.wd a}
def readyN (S:Sp) (page:Nat):Nat→Sp
 |0=>S
 |n+1=>readyOne (readyN S page n) (page+n)
abbrev right (page pages:Nat):Prop:=0<pages∧page+pages≤34359738368
def commitS (S:Sp) (page pages:Nat):Nat×Sp:=
 if ¬right page pages then (1,S)
 else if ¬∀i,i<pages→S.st (page+ i)≠0 then (33,S)
 else if ∀i,i<pages→S.st (page+ i)=2 then (0,S)
 else if S.refuse.headD false then (13,takeRefuse S)
 else (0,readyN (takeRefuse S) page pages)
def loadS (S:Sp) (addr:Nat):Nat×Nat:=if addr%8≠0 then (0,11) else if S.st (addr/8192)≠2 then (0,12) else (S.wd addr,0)
def storeS (S:Sp) (addr x:Nat):Nat×Sp:=
 if addr%8≠0 then (11,S) else if S.st (addr/8192)≠2 then (12,S) else (0,{S with wd:=fun a=>if a=addr then x else S.wd a})
abbrev allReady (S:Sp) (addr bytes:Nat):Prop:=∀i,i<(addr+bytes - 1)/8192 - addr/8192+1→S.st (addr/8192+ i)=2
def zeroS (S:Sp) (addr bytes:Nat):Nat×Sp:=
 if addr%8≠0∨bytes%8≠0 then (11,S)
 else if bytes=0 then (0,S)
 else if ¬allReady S addr bytes then (12,S)
 else (0,{S with wd:=fun a=>if addr≤a∧a<addr+bytes then 0 else S.wd a})
theorem mem_lay (S:Sp) (q pages p:Nat):p∈(lay S q pages).pgs↔p∈S.pgs∨(q≤p∧p<q+pages):=by
 show p∈S.pgs.filter (· <q)++(List.range' q pages++S.pgs.filter (q≤ ·))↔_
 simp only[List.mem_append,List.mem_filter,List.mem_range'_1,decide_eq_true_eq]
 by_cases h:p<q
 ·have:¬q≤p:=by omega
  simp[h,this]
 ·have:q≤p:=by omega
  simp[h,this]
  exact Or.comm
theorem WF.lay {S:Sp} (h:WF S) {q pages:Nat} (hf:free S pages q):WF (lay S q pages):=by
 obtain ⟨f1,f2,f3,f4⟩:=hf
 refine ⟨?_,?_,?_,?_⟩
 ·show (S.pgs.filter (· <q)++(List.range' q pages++S.pgs.filter (q≤ ·))).Pairwise (· < ·)
  have off:∀p∈S.pgs,¬(q≤p∧p<q+pages):=by
   intro p hp hh
   have:=f4 (p - q) (by omega)
   rw[show q+(p - q)=p by omega] at this
   exact (h.mem p).2 hp this
  refine List.pairwise_append.2 ⟨h.rising.filter _,List.pairwise_append.2 ⟨List.pairwise_lt_range',h.rising.filter _,?_⟩,?_⟩
  ·intro a ha b hb
   have h1:=List.mem_range'_1.1 ha
   have h2:=List.mem_filter.1 hb
   have h3:=off b h2.1
   have h4:q≤b:=of_decide_eq_true h2.2
   omega
  ·intro a ha b hb
   have h1:=List.mem_filter.1 ha
   have h4:a<q:=of_decide_eq_true h1.2
   rcases List.mem_append.1 hb with hb|hb
   ·have:=List.mem_range'_1.1 hb
    omega
   ·have h5:q≤b:=of_decide_eq_true (List.mem_filter.1 hb).2
    omega
 ·intro p hp
  rcases (mem_lay S q pages p).1 hp with hp|hp
  ·exact h.below p hp
  ·omega
 ·intro p
  rw[mem_lay]
  show (if q≤p∧p<q+pages then 1 else S.st p)≠0↔_
  by_cases e:q≤p∧p<q+pages
  ·rw[if_pos e];exact ⟨fun _=>Or.inr e,fun _=>by decide⟩
  ·rw[if_neg e,h.mem p];exact ⟨Or.inl,fun x=>x.resolve_right e⟩
 ·intro p
  show (if q≤p∧p<q+pages then 1 else S.st p)≤3
  split
  ·decide
  ·exact h.le3 p
theorem WF.turn {S T:Sp} (h:WF S) (hp:T.pgs=S.pgs) (hz:∀p,T.st p≠0↔S.st p≠0) (h3:∀p,T.st p≤3):WF T:=
 ⟨hp▸h.rising,fun p hq=>h.below p (hp▸hq),fun p=>by rw[hz,hp];exact h.mem p,h3⟩
theorem readyOne_st (S:Sp) (p x:Nat):(readyOne S p).st x=if x=p then 2 else S.st x:=by
 unfold readyOne
 by_cases h:S.st p=2
 ·rw[if_pos h]
  by_cases e:x=p
  ·rw[if_pos e,e,h]
  ·rw[if_neg e]
 ·rw[if_neg h]
  split<;>rfl
theorem readyOne_keeps (S:Sp) (p:Nat):(readyOne S p).pgs=S.pgs∧(readyOne S p).places=S.places∧(readyOne S p).refuse=S.refuse:=by
 unfold readyOne
 split
 ·exact ⟨rfl,rfl,rfl⟩
 ·split<;>exact ⟨rfl,rfl,rfl⟩
theorem readyN_st (S:Sp) (page n x:Nat):(readyN S page n).st x=if page≤x∧x<page+n then 2 else S.st x:=by
 induction n with
 |zero=>show S.st x=_;rw[if_neg (by omega)]
 |succ n ih=>
  show (readyOne (readyN S page n) (page+n)).st x=_
  rw[readyOne_st,ih]
  by_cases e:x=page+n
  ·rw[if_pos e,if_pos (by omega)]
  ·rw[if_neg e]
   by_cases c:page≤x∧x<page+n
   ·rw[if_pos c,if_pos (by omega)]
   ·rw[if_neg c,if_neg (by omega)]
theorem readyN_keeps (S:Sp) (page n:Nat):(readyN S page n).pgs=S.pgs∧(readyN S page n).places=S.places∧(readyN S page n).refuse=S.refuse:=by
 induction n with
 |zero=>exact ⟨rfl,rfl,rfl⟩
 |succ n ih=>
  obtain ⟨a,b,c⟩:=readyOne_keeps (readyN S page n) (page+n)
  exact ⟨a.trans ih.1,b.trans ih.2.1,c.trans ih.2.2⟩
theorem readyN_new (S:Sp) (page n:Nat) (h:∀i,i<n→S.st (page+ i)=1):(readyN S page n).fills=S.fills∧∀a,(readyN S page n).wd a=if page≤a/8192∧a/8192<page+n then 0 else S.wd a:=by
 induction n with
 |zero=>exact ⟨rfl,fun a=>by show S.wd a=_;rw[if_neg (by omega)]⟩
 |succ n ih=>
  obtain ⟨a,b⟩:=ih fun i hi=>h i (by omega)
  have e:(readyN S page n).st (page+n)=1:=by rw[readyN_st,if_neg (by omega)];exact h n (by omega)
  have r:readyN S page (n+1)={readyN S page n with st:=fun x=>if x=page+n then 2 else (readyN S page n).st x,wd:=fun a=>if a/8192=page+n then 0 else (readyN S page n).wd a}:=by
   show readyOne (readyN S page n) (page+n)=_
   unfold readyOne
   rw[if_neg (by rw[e];decide),if_neg (by rw[e];decide)]
  rw[r]
  refine ⟨a,fun x=> ?_⟩
  show (if x/8192=page+n then 0 else (readyN S page n).wd x)=_
  rw[b x]
  by_cases c:x/8192=page+n
  ·rw[if_pos c,if_pos (by omega)]
  ·rw[if_neg c]
   by_cases d:page≤x/8192∧x/8192<page+n
   ·rw[if_pos d,if_pos (by omega)]
   ·rw[if_neg d,if_neg (by omega)]
theorem readyN_again (S:Sp) (page n:Nat) (h:∀i,i<n→S.st (page+ i)=3):(readyN S page n).fills=S.fills.drop n∧∀a,(readyN S page n).wd a=if page≤a/8192∧a/8192<page+n then S.fills.getD (a/8192 - page) 0 else S.wd a:=by
 induction n with
 |zero=>exact ⟨rfl,fun a=>by show S.wd a=_;rw[if_neg (by omega)]⟩
 |succ n ih=>
  obtain ⟨a,b⟩:=ih fun i hi=>h i (by omega)
  have e:(readyN S page n).st (page+n)=3:=by rw[readyN_st,if_neg (by omega)];exact h n (by omega)
  have r:readyN S page (n+1)={readyN S page n with fills:=(readyN S page n).fills.tail,st:=fun x=>if x=page+n then 2 else (readyN S page n).st x,wd:=fun a=>if a/8192=page+n then (readyN S page n).fills.headD 0 else (readyN S page n).wd a}:=by
   show readyOne (readyN S page n) (page+n)=_
   unfold readyOne
   rw[if_neg (by rw[e];decide),if_pos e]
  rw[r]
  refine ⟨by show (readyN S page n).fills.tail=_;rw[a,List.tail_drop],fun x=> ?_⟩
  show (if x/8192=page+n then (readyN S page n).fills.headD 0 else (readyN S page n).wd x)=_
  rw[b x,a]
  by_cases c:x/8192=page+n
  ·rw[if_pos c,if_pos (by omega),show x/8192 - page=n by omega]
   rw[List.headD_eq_head?_getD,List.head?_drop,List.getD_eq_getElem?_getD]
  ·rw[if_neg c]
   by_cases d:page≤x/8192∧x/8192<page+n
   ·rw[if_pos d,if_pos (by omega)]
   ·rw[if_neg d,if_neg (by omega)]
theorem WF.ready {S:Sp} (h:WF S) {page n:Nat} (hr:∀i,i<n→S.st (page+ i)≠0):WF (readyN S page n):=by
 refine h.turn (readyN_keeps S page n).1 (fun p=> ?_) (fun p=> ?_)
 ·rw[readyN_st]
  by_cases e:page≤p∧p<page+n
  ·rw[if_pos e]
   have:=hr (p - page) (by omega)
   rw[show page+(p - page)=p by omega] at this
   exact ⟨fun _=>this,fun _=>by decide⟩
  ·rw[if_neg e]
 ·rw[readyN_st]
  split
  ·decide
  ·exact h.le3 p
theorem WF.refuse {S:Sp} (h:WF S):WF (takeRefuse S):=⟨h.rising,h.below,h.mem,h.le3⟩
theorem WF.place {S:Sp} (h:WF S):WF (takePlace S):=⟨h.rising,h.below,h.mem,h.le3⟩
theorem or_free {S:Sp} {hint pages q:Nat} (h:(asked S pages).or ((firstFrom S hint pages).or (firstFrom S 0 pages))=some q):free S pages q:=by
 cases a:asked S pages with
 |some x=>
  rw[a] at h
  have:x=q:=by simpa using h
  subst this
  unfold asked at a
  cases b:S.places.head? with
  |none=>rw[b] at a;simp at a
  |some y=>
   rw[b] at a
   simp only[Option.bind_some] at a
   split at a
   ·have:y=x:=by simpa using a
    subst this;assumption
   ·simp at a
 |none=>
  rw[a] at h
  cases b:firstFrom S hint pages with
  |some x=>
   rw[b] at h
   have:x=q:=by simpa using h
   subst this
   exact (first_some b).1
  |none=>
   rw[b] at h
   have:firstFrom S 0 pages=some q:=by simpa using h
   exact (first_some this).1
theorem WF.reserve {S:Sp} (h:WF S) (hint pages:Nat):WF (reserveS S hint pages).2.2:=by
 unfold reserveS
 split
 ·exact h
 ·split
  ·exact h.refuse
  ·split
   ·exact h.refuse.place
   ·rename_i hq
    have hf:=or_free hq
    exact h.refuse.place.lay hf
theorem WF.commit {S:Sp} (h:WF S) (page pages:Nat):WF (commitS S page pages).2:=by
 unfold commitS
 split
 ·exact h
 ·split
  ·exact h
  ·split
   ·exact h
   ·split
    ·exact h.refuse
    ·rename_i h2 _ _
     exact h.refuse.ready (Classical.not_not.1 h2)
theorem WF.store {S:Sp} (h:WF S) (addr x:Nat):WF (storeS S addr x).2:=by
 unfold storeS
 split
 ·exact h
 ·split
  ·exact h
  ·exact ⟨h.rising,h.below,h.mem,h.le3⟩
theorem WF.zero {S:Sp} (h:WF S) (addr bytes:Nat):WF (zeroS S addr bytes).2:=by
 unfold zeroS
 split
 ·exact h
 ·split
  ·exact h
  ·split
   ·exact h
   ·exact ⟨h.rising,h.below,h.mem,h.le3⟩
theorem commit_ok {S:Sp} {page pages:Nat} (h1:right page pages) (h2:∀i,i<pages→S.st (page+ i)≠0) (j:Nat) (hj:j<pages) (h3:S.st (page+j)≠2) (h4:S.refuse.headD false=false):
 commitS S page pages=(0,readyN (takeRefuse S) page pages):=by
 unfold commitS
 rw[if_neg (Classical.not_not.2 h1),if_neg (Classical.not_not.2 h2),if_neg (fun h=>h3 (h j hj)),h4,if_neg (by decide)]
theorem load_ok {S:Sp} {addr:Nat} (h1:addr%8=0) (h2:S.st (addr/8192)=2):loadS S addr=(S.wd addr,0):=by
 unfold loadS;rw[if_neg (by omega),if_neg (by omega)]
def putS (S:Sp) (addr x:Nat):Sp:={S with wd:=fun a=>if a=addr then x else S.wd a}
theorem store_ok {S:Sp} {addr x:Nat} (h1:addr%8=0) (h2:S.st (addr/8192)=2):storeS S addr x=(0,putS S addr x):=by
 unfold storeS;rw[if_neg (by omega),if_neg (by omega)];rfl
def stN (n s p:Nat):Nat:=if 512≤p∧p<512+n then s else if 512≤p∧p<1024 then 1 else 0
structure Base (S:Sp) (re:List Bool) (fi:List Nat) (n s:Nat):Prop where
 refuse:S.refuse=re
 fills:S.fills=fi
 pgs:S.pgs=List.range' 512 512
 st:∀p,S.st p=stN n s p
theorem first_new (pl:List Nat) (re:List Bool) (fi:List Nat):firstFrom (Sp.new pl re fi) 0 512=some 512:=
 first_at (by decide) ⟨by decide,by decide,by decide,fun _ _=>rfl⟩ (by decide) fun j _ h2 hf=>by
  have:=hf.1
  have:=hf.2.1
  omega
theorem reserve_new (re:List Bool) (fi:List Nat) (h:re.headD false=false):∃S1,reserveS (Sp.new [] re fi) 0 512=(512,0,S1)∧Base S1 re.tail fi 0 2:=by
 refine ⟨lay (takePlace (takeRefuse (Sp.new [] re fi))) 512 512,?_,rfl,rfl,?_,fun p=> ?_⟩
 ·unfold reserveS
  have e:(Sp.new [] re fi).refuse.headD false=false:=h
  rw[if_neg (by decide),e,if_neg (by decide),first_new]
  rfl
 ·show List.filter (fun x=>decide (x<512)) []++(List.range' 512 512++List.filter (fun x=>decide (512≤x)) [])=_
  rw[List.filter_nil,List.filter_nil,List.nil_append,List.append_nil]
 ·show (if 512≤p∧p<512+512 then 1 else 0)=stN 0 2 p
  unfold stN
  rw[if_neg (c:=512≤p∧p<512+0) (by omega)]
def Seg (f:Nat→Nat):Nat→List (Nat×Nat)→Nat→Prop
 |a,[],b=>a=b
 |a,x::r,b=>x.1=a∧∃c,a<c∧(∀p,a≤p→p<c→f p=x.2)∧Seg f c r b
def startR (R:List (Nat×Nat)) (L i:Nat):Nat:=(R[i]?.map (·.1)).getD L
theorem startR_lt {R:List (Nat×Nat)} {L i:Nat} (h:i<R.length):startR R L i=R[i].1:=by simp[startR,h]
theorem startR_ge {R:List (Nat×Nat)} {L i:Nat} (h:R.length≤i):startR R L i=L:=by simp[startR,h]
theorem startR_cons (x:Nat×Nat) (r:List (Nat×Nat)) (L i:Nat):startR (x::r) L (i+1)=startR r L i:=by simp[startR]
theorem Seg.le {f:Nat→Nat}:∀{a:Nat} {R:List (Nat×Nat)} {b:Nat},Seg f a R b→a≤b
 |a,[],b,h=>by have:a=b:=h;omega
 |a,x::r,b,h=>by obtain ⟨_,c,h1,_,h2⟩:=h;have:=h2.le;omega
theorem Seg.start {f:Nat→Nat} {a b:Nat} {R:List (Nat×Nat)} (h:Seg f a R b):startR R b 0=a:=by
 cases R with
 |nil=>have:a=b:=h;simp[startR,this]
 |cons x r=>simp[startR];exact h.1
theorem Seg.congr {f g:Nat→Nat}:∀{a:Nat} {R:List (Nat×Nat)} {b:Nat},Seg f a R b→(∀p,a≤p→p<b→g p=f p)→Seg g a R b
 |a,[],b,h,_=>h
 |a,x::r,b,h,hg=>by
  obtain ⟨h0,c,h1,h2,h3⟩:=h
  have:=h3.le
  exact ⟨h0,c,h1,fun p p1 p2=>by rw[hg p p1 (by omega)];exact h2 p p1 p2,h3.congr fun p p1 p2=>hg p (by omega) p2⟩
theorem Seg.append {f:Nat→Nat}:∀{a:Nat} {A:List (Nat×Nat)} {c:Nat} {B:List (Nat×Nat)} {b:Nat},Seg f a A c→Seg f c B b→Seg f a (A++B) b
 |a,[],c,B,b,h1,h2=>by have:a=c:=h1;subst this;exact h2
 |a,x::r,c,B,b,h1,h2=>by
  obtain ⟨h0,d,h3,h4,h5⟩:=h1
  exact ⟨h0,d,h3,h4,h5.append h2⟩
theorem Seg.take {f:Nat→Nat}:∀{a:Nat} {R:List (Nat×Nat)} {b:Nat} (i:Nat),Seg f a R b→Seg f a (R.take i) (startR R b i)
 |a,R,b,0,h=>by rw[h.start];exact (rfl:a=a)
 |a,[],b,i+1,h=>by rw[startR_ge (by simp)];exact h
 |a,x::r,b,i+1,h=>by
  obtain ⟨h0,c,h1,h2,h3⟩:=h
  rw[startR_cons]
  exact ⟨h0,c,h1,h2,h3.take i⟩
theorem Seg.drop {f:Nat→Nat}:∀{a:Nat} {R:List (Nat×Nat)} {b:Nat} (i:Nat),Seg f a R b→Seg f (startR R b i) (R.drop i) b
 |a,R,b,0,h=>by rw[h.start];exact h
 |a,[],b,i+1,h=>by rw[startR_ge (by simp)];exact (rfl:b=b)
 |a,x::r,b,i+1,h=>by
  obtain ⟨h0,c,h1,h2,h3⟩:=h
  rw[startR_cons]
  exact h3.drop i
theorem Seg.row {f:Nat→Nat}:∀{a:Nat} {R:List (Nat×Nat)} {b:Nat} (_:Seg f a R b) (i:Nat) (hi:i<R.length),a≤R[i].1∧R[i].1<startR R b (i+1)∧startR R b (i+1)≤b∧∀p,R[i].1≤p→p<startR R b (i+1)→f p=R[i].2
 |a,[],b,h,i,hi=>absurd hi (by simp)
 |a,x::r,b,h,0,hi=>by
  obtain ⟨h0,c,h1,h2,h3⟩:=h
  have e:startR (x::r) b (0+1)=c:=by rw[startR_cons];exact h3.start
  have:=h3.le
  rw[e]
  refine ⟨by show a≤x.1;omega,by show x.1<c;omega,this,fun p p1 p2=>h2 p ?_ p2⟩
  have:x.1≤p:=p1
  omega
 |a,x::r,b,h,i+1,hi=>by
  obtain ⟨h0,c,h1,h2,h3⟩:=h
  have:=h3.row i (by simpa using hi)
  rw[startR_cons]
  obtain ⟨q1,q2,q3,q4⟩:=this
  exact ⟨by show a≤(r[i]'_).1;omega,q2,q3,q4⟩
theorem Seg.rise {f:Nat→Nat} {a b:Nat} {R:List (Nat×Nat)} (h:Seg f a R b) {i j:Nat} (hij:i<j) (hi:i<R.length):R[i].1<startR R b j:=by
 induction j with
 |zero=>omega
 |succ j ih=>
  by_cases e:i=j
  ·subst e;exact (h.row i hi).2.1
  ·have h1:=ih (by omega)
   by_cases hj:j<R.length
   ·rw[startR_lt hj] at h1
    have:=(h.row j hj).2.1
    omega
   ·rw[startR_ge (by omega)] at h1
    rw[startR_ge (by omega)];exact h1
theorem Seg.pair {f:Nat→Nat} {a b:Nat} {R:List (Nat×Nat)} (h:Seg f a R b):(R.map (·.1)).Pairwise (· < ·):=by
 rw[List.pairwise_iff_getElem]
 intro i j hi hj hij
 simp only[List.length_map] at hi hj
 simp only[List.getElem_map]
 have:=h.rise hij hi
 rwa[startR_lt hj] at this
theorem Seg.at {f:Nat→Nat}:∀{a:Nat} {R:List (Nat×Nat)} {b:Nat} (_:Seg f a R b) (p:Nat),a≤p→p<b→∃(i:Nat) (h:i<R.length),R[i].1≤p∧p<startR R b (i+1)
 |a,[],b,h,p,h1,h2=>by have:a=b:=h;omega
 |a,x::r,b,h,p,h1,h2=>by
  obtain ⟨h0,c,g1,g2,h3⟩:=h
  by_cases e:p<c
  ·refine ⟨0,by simp,by show x.1≤p;omega,?_⟩
   rw[startR_cons,h3.start];exact e
  ·obtain ⟨i,hi,q1,q2⟩:=h3.at p (by omega) h2
   exact ⟨i+1,by simpa using hi,q1,by rw[startR_cons];exact q2⟩
theorem Seg.at_one {f:Nat→Nat} {a b:Nat} {R:List (Nat×Nat)} (h:Seg f a R b) {p i j:Nat} (hi:i<R.length) (hj:j<R.length) (i1:R[i].1≤p) (i2:p<startR R b (i+1)) (j1:R[j].1≤p) (j2:p<startR R b (j+1)):i=j:=by
 by_cases l:i<j
 ·by_cases e:j=i+1
  ·subst e;rw[startR_lt hj] at i2;omega
  ·have h1:i+1<R.length:=by omega
   have:=h.rise (i:=i+1) (j:=j) (by omega) h1
   rw[startR_lt h1] at i2
   rw[startR_lt hj] at this
   omega
 ·by_cases g:j<i
  ·by_cases e:i=j+1
   ·subst e;rw[startR_lt hi] at j2;omega
   ·have h1:j+1<R.length:=by omega
    have:=h.rise (i:=j+1) (j:=i) (by omega) h1
    rw[startR_lt h1] at j2
    rw[startR_lt hi] at this
    omega
  ·omega
def Alt:List (Nat×Nat)→Prop
 | []=>True
 | [_]=>True
 |x::y::r=>x.2≠y.2∧Alt (y::r)
theorem Alt.tail {x:Nat×Nat} {r:List (Nat×Nat)} (h:Alt (x::r)):Alt r:=by
 cases r with
 |nil=>trivial
 |cons y r=>exact h.2
theorem Alt.get:∀{R:List (Nat×Nat)} (_:Alt R) (i:Nat) (h:i+1<R.length),R[i].2≠R[i+1].2
 | [],_,i,h=>absurd h (by simp)
 | [_],_,i,h=>absurd h (by simp)
 |x::y::r,hA,0,h=>hA.1
 |x::y::r,hA,i+1,h=>hA.2.get i (by simpa using h)
theorem Alt.of:∀{R:List (Nat×Nat)},(∀(i:Nat) (h:i+1<R.length),R[i].2≠R[i+1].2)→Alt R
 | [],_=>trivial
 | [_],_=>trivial
 |x::y::r,h=>⟨h 0 (by simp),Alt.of fun i hi=>h (i+1) (by simpa using hi)⟩
theorem Alt.take {R:List (Nat×Nat)} (h:Alt R) (k:Nat):Alt (R.take k):=
 Alt.of fun i hi=>by
  rw[List.length_take] at hi
  rw[List.getElem_take,List.getElem_take]
  exact h.get i (by omega)
theorem Alt.drop {R:List (Nat×Nat)} (h:Alt R) (k:Nat):Alt (R.drop k):=
 Alt.of fun i hi=>by
  rw[List.length_drop] at hi
  rw[List.getElem_drop,List.getElem_drop]
  exact h.get (k+ i) (by omega)
theorem Alt.append:∀{A B:List (Nat×Nat)},Alt A→Alt B→(∀x∈A.getLast?,∀y∈B.head?,x.2≠y.2)→Alt (A++B)
 | [],B,_,hB,_=>hB
 | [x],[],_,_,_=>trivial
 | [x],y::B,_,hB,h=>⟨h x rfl y rfl,hB⟩
 |x::y::r,B,hA,hB,h=>⟨hA.1,Alt.append (A:=y::r) hA.2 hB (fun z hz=>h z (by rw[List.getLast?_cons_cons];exact hz))⟩
def putSt (f:Nat→Nat) (first e s p:Nat):Nat:=if first≤p∧p<e then s else f p
theorem head_part {f:Nat→Nat} {R:List (Nat×Nat)} {L first e' s i:Nat} (h:Seg f 0 R L) (hA:Alt R) (hi:i<R.length) (h1:R[i].1≤first) (h2:first<startR R L (i+1)) (he:first<e')
 (fr:Nat) (hfr:fr=if R[i].1<first then i+1 else i) (F1:List (Nat×Nat)) (hF:F1=if fr=0∨(R[fr - 1]?.map (·.2))≠some s then [(first,s)] else [])
 (g:Nat→Nat) (g1:∀p,p<first→g p=f p) (g2:∀p,first≤p→p<e'→g p=s):
 Seg g 0 (R.take fr++F1) e'∧Alt (R.take fr++F1)∧∀x∈(R.take fr++F1).getLast?,x.2=s:=by
 have hfl:fr≤R.length:=by rw[hfr];split<;>omega
 have hcut:∀d,first≤d→(∀p,first≤p→p<d→fr≠0→g p=(R[fr - 1]?.map (·.2)).getD 0)→(fr=0→d=first)→Seg g 0 (R.take fr) d:=by
  intro d hd hg hd0
  by_cases c:R[i].1<first
  ·rw[if_pos c] at hfr
   subst hfr
   rw[show i+1 - 1=i by omega] at hg
   have a:=(h.take i).congr (g:=g) fun p _ p2=>g1 p (by rw[startR_lt hi] at p2;omega)
   rw[startR_lt hi] at a
   rw[←List.take_append_getElem hi]
   refine a.append ⟨rfl,d,by omega,fun p p1 p2=> ?_,rfl⟩
   by_cases q:p<first
   ·rw[g1 p q];exact (h.row i hi).2.2.2 p p1 (by omega)
   ·have:=hg p (by omega) p2 (by omega)
    rw[this,List.getElem?_eq_getElem hi];rfl
  ·rw[if_neg c] at hfr
   subst hfr
   have e1:R[fr].1=first:=by omega
   by_cases z:fr=0
   ·subst z
    have e0:R[0].1=0:=by have:=h.start;rwa[startR_lt hi] at this
    rw[hd0 rfl,←e1,e0];exact (rfl:(0:Nat)=0)
   ·obtain ⟨k,rfl⟩:∃k,fr=k+1:=⟨fr - 1,by omega⟩
    have hk:k<R.length:=by omega
    rw[show k+1 - 1=k by omega] at hg
    have a:=(h.take k).congr (g:=g) fun p _ p2=>g1 p (by have:=(h.row k hk).2.1;rw[startR_lt hk] at p2;rw[startR_lt hi] at this;omega)
    rw[startR_lt hk] at a
    rw[←List.take_append_getElem hk]
    have r:=h.row k hk
    rw[startR_lt hi,e1] at r
    refine a.append ⟨rfl,d,by omega,fun p p1 p2=> ?_,rfl⟩
    by_cases q:p<first
    ·rw[g1 p q];exact r.2.2.2 p p1 q
    ·have:=hg p (by omega) p2 (by omega)
     rw[this,List.getElem?_eq_getElem hk];rfl
 have hl:fr≠0→(R.take fr).getLast?=R[fr - 1]? :=fun z=>by
  rw[List.getLast?_take,if_neg z,List.getElem?_eq_getElem (by omega)];rfl
 by_cases c:fr=0∨(R[fr - 1]?.map (·.2))≠some s
 ·rw[if_pos c] at hF
  subst hF
  refine ⟨(hcut first (Nat.le_refl _) (fun p p1 p2=>by omega) (fun _=>rfl)).append ⟨rfl,e',he,g2,rfl⟩,(hA.take fr).append trivial ?_,?_⟩
  ·intro x hx y hy
   have:(first,s)=y:=by simpa using hy
   subst this
   rcases c with c|c
   ·subst c;simp at hx
   ·by_cases z:fr=0
    ·subst z;simp at hx
    ·rw[hl z] at hx
     rw[Option.mem_def.1 hx] at c
     intro hxs
     exact c (congrArg some hxs)
  ·intro x hx
   rw[List.getLast?_append] at hx
   have:(first,s)=x:=by simpa using hx
   rw[←this]
 ·rw[if_neg c] at hF
  subst hF
  rw[List.append_nil]
  have c1:fr≠0:=fun z=>c (Or.inl z)
  have c2:(R[fr - 1]?.map (·.2))=some s:=Classical.not_not.1 fun z=>c (Or.inr z)
  refine ⟨hcut e' (by omega) (fun p p1 p2 _=>by rw[c2];exact g2 p p1 p2) (fun z=>absurd z c1),hA.take fr,fun x hx=> ?_⟩
  rw[hl c1] at hx
  rw[Option.mem_def.1 hx] at c2
  simpa using c2
theorem tail_part {f:Nat→Nat} {R:List (Nat×Nat)} {L e s j:Nat} (h:Seg f 0 R L) (hA:Alt R) (hj:j<R.length) (h1:R[j].1<e) (h2:e≤startR R L (j+1))
 (to:Nat) (hto:to=if ¬e<startR R L (j+1)∧(R[j+1]?.map (·.2))=some s then j+2 else j+1) (F2:List (Nat×Nat)) (hF:F2=if e<startR R L (j+1)∧R[j].2≠s then [(e,R[j].2)] else []):
 ∃e',e≤e'∧e'≤L∧(∀p,e≤p→p<e'→f p=s)∧Seg f e' (F2++R.drop to) L∧Alt (F2++R.drop to)∧(∀y∈(F2++R.drop to).head?,y.2≠s)∧to≤R.length:=by
 have r:=h.row j hj
 by_cases c:e<startR R L (j+1)
 ·have hto':to=j+1:=by rw[hto,if_neg (fun z=>z.1 c)]
  subst hto'
  by_cases d:R[j].2=s
  ·rw[if_neg (fun z=>z.2 d)] at hF
   subst hF
   rw[List.nil_append]
   refine ⟨_,h2,r.2.2.1,fun p p1 p2=>by rw[←d];exact r.2.2.2 p (by omega) p2,h.drop (j+1),hA.drop _,fun y hy=> ?_,by omega⟩
   rw[List.head?_drop] at hy
   have hy:=Option.mem_def.1 hy
   obtain ⟨q1,q2⟩:=List.getElem?_eq_some_iff.1 hy
   have:=hA.get j q1
   rw[q2,d] at this
   exact fun z=>this z.symm
  ·rw[if_pos ⟨c,d⟩] at hF
   subst hF
   refine ⟨e,Nat.le_refl _,by omega,fun p p1 p2=>by omega,⟨rfl,_,c,fun p p1 p2=>r.2.2.2 p (by omega) p2,h.drop (j+1)⟩,Alt.append (A:=[(e,R[j].2)]) trivial (hA.drop _) ?_,fun y hy=> ?_,by omega⟩
   ·intro x hx y hy
    have:(e,R[j].2)=x:=by simpa using hx
    subst this
    rw[List.head?_drop] at hy
    obtain ⟨q1,q2⟩:=List.getElem?_eq_some_iff.1 (Option.mem_def.1 hy)
    have:=hA.get j q1
    rw[q2] at this
    exact this
   ·have:(e,R[j].2)=y:=by simpa using hy
    subst this
    exact d
 ·rw[if_neg (fun z=>c z.1)] at hF
  subst hF
  rw[List.nil_append]
  have e1:startR R L (j+1)=e:=by omega
  by_cases d:(R[j+1]?.map (·.2))=some s
  ·rw[if_pos ⟨c,d⟩] at hto
   subst hto
   have hj1:j+1<R.length:=by
    by_cases q:j+1<R.length
    ·exact q
    ·rw[List.getElem?_eq_none (by omega)] at d;simp at d
   have d':R[j+1].2=s:=by rw[List.getElem?_eq_getElem hj1] at d;simpa using d
   have r1:=h.row (j+1) hj1
   rw[startR_lt hj1] at e1
   refine ⟨_,by omega,r1.2.2.1,fun p p1 p2=>by rw[←d'];exact r1.2.2.2 p (by omega) p2,h.drop (j+2),hA.drop _,fun y hy=> ?_,by omega⟩
   rw[List.head?_drop] at hy
   obtain ⟨q1,q2⟩:=List.getElem?_eq_some_iff.1 (Option.mem_def.1 hy)
   have:=hA.get (j+1) q1
   rw[q2,d'] at this
   exact fun z=>this z.symm
  ·rw[if_neg (fun z=>d z.2)] at hto
   subst hto
   have hs:=h.drop (j+1)
   rw[e1] at hs
   have hle:=hs.le
   refine ⟨e,Nat.le_refl _,hle,fun p p1 p2=>by omega,hs,hA.drop _,fun y hy=> ?_,by omega⟩
   rw[List.head?_drop] at hy
   rw[Option.mem_def.1 hy] at d
   intro z
   exact d (by rw[←z];rfl)
theorem set_rows {f:Nat→Nat} {R:List (Nat×Nat)} {L first e s i j:Nat} (h:Seg f 0 R L) (hA:Alt R) (hfe:first<e)
 (hi:i<R.length) (i1:R[i].1≤first) (i2:first<startR R L (i+1)) (hj:j<R.length) (j1:R[j].1<e) (j2:e≤startR R L (j+1))
 (fr:Nat) (hfr:fr=if R[i].1<first then i+1 else i) (F1:List (Nat×Nat)) (hF1:F1=if fr=0∨(R[fr - 1]?.map (·.2))≠some s then [(first,s)] else [])
 (to:Nat) (hto:to=if ¬e<startR R L (j+1)∧(R[j+1]?.map (·.2))=some s then j+2 else j+1) (F2:List (Nat×Nat)) (hF2:F2=if e<startR R L (j+1)∧R[j].2≠s then [(e,R[j].2)] else []):
 Seg (putSt f first e s) 0 (R.take fr++(F1++F2)++R.drop to) L∧Alt (R.take fr++(F1++F2)++R.drop to)∧fr≤to∧to≤R.length:=by
 obtain ⟨e',he,heL,hs,t1,t2,t3,t4⟩:=tail_part h hA hj j1 j2 to hto F2 hF2
 have hp:=head_part h hA hi i1 i2 (show first<e' by omega) fr hfr F1 hF1 (putSt f first e s) (fun p hp=>by unfold putSt;rw[if_neg (by omega)]) (fun p p1 p2=>by
  unfold putSt
  by_cases q:p<e
  ·rw[if_pos ⟨p1,q⟩]
  ·rw[if_neg (by omega)];exact hs p (by omega) p2)
 obtain ⟨p1,p2,p3⟩:=hp
 have e1:R.take fr++(F1++F2)++R.drop to=(R.take fr++F1)++(F2++R.drop to):=by simp[List.append_assoc]
 have hij:i≤j:=by
  by_cases c:i≤j
  ·exact c
  ·have:=h.rise (i:=j) (j:=i) (by omega) hj
   have k1:j+1<R.length:=by omega
   by_cases d:i=j+1
   ·subst d;rw[startR_lt hi] at j2;omega
   ·have:=h.rise (i:=j+1) (j:=i) (by omega) k1
    rw[startR_lt hi] at this;rw[startR_lt k1] at j2;omega
 rw[e1]
 refine ⟨p1.append (t1.congr fun p q1 q2=>by unfold putSt;rw[if_neg (by omega)]),p2.append t2 fun x hx y hy=>by rw[p3 x hx];exact fun z=>t3 y hy z.symm,?_,t4⟩
 have a1:fr≤i+1:=by rw[hfr];split<;>omega
 have a2:j+1≤to:=by rw[hto];split<;>omega
 omega
def Cover (f:Nat→Nat):Nat→List (Nat×Nat×Nat)→Nat→Prop
 |a,[],b=>a=b
 |a,x::r,b=>x.1=a∧a<x.2.1∧(∀p,a≤p→p<x.2.1→f p=x.2.2)∧Cover f x.2.1 r b
theorem Cover.le {f:Nat→Nat}:∀{a:Nat} {l:List (Nat×Nat×Nat)} {b:Nat},Cover f a l b→a≤b
 |a,[],b,h=>by have:a=b:=h;omega
 |a,x::r,b,h=>by obtain ⟨_,h1,_,h2⟩:=h;have:=h2.le;omega
theorem Cover.snoc {f:Nat→Nat}:∀{a:Nat} {l:List (Nat×Nat×Nat)} {b:Nat} (_:Cover f a l b) (c s:Nat),b<c→(∀p,b≤p→p<c→f p=s)→Cover f a (l++ [(b,c,s)]) c
 |a,[],b,h,c,s,h1,h2=>by have:a=b:=h;subst this;exact ⟨rfl,h1,h2,rfl⟩
 |a,x::r,b,h,c,s,h1,h2=>by obtain ⟨q0,q1,q2,q3⟩:=h;exact ⟨q0,q1,q2,q3.snoc c s h1 h2⟩
theorem Cover.all {f:Nat→Nat} (P:Nat→Prop):∀{a:Nat} {l:List (Nat×Nat×Nat)} {b:Nat},Cover f a l b→((∀x∈l,P x.2.2)↔∀p,a≤p→p<b→P (f p))
 |a,[],b,h=>by have:a=b:=h;exact ⟨fun _ p h1 h2=>by omega,fun _ x hx=>by cases hx⟩
 |a,x::r,b,h=>by
  obtain ⟨q0,q1,q2,q3⟩:=h
  have hb:=q3.le
  have ih:=q3.all P
  constructor
  ·intro h p h1 h2
   by_cases c:p<x.2.1
   ·rw[q2 p h1 c];exact h x (by simp)
   ·exact ih.1 (fun y hy=>h y (by simp[hy])) p (by omega) h2
  ·intro h y hy
   rcases List.mem_cons.1 hy with rfl|hy
   ·have:=h a (Nat.le_refl _) (by omega)
    rwa[q2 a (Nat.le_refl _) q1] at this
   ·exact ih.2 (fun p h1 h2=>h p (by omega) h2) y hy
def cntI (f:Nat→Nat) (a n k:Nat):Nat:=(List.range' a n).countP fun p=>decide (f p=k)
theorem cntI_add (f:Nat→Nat) (a n m k:Nat):cntI f a (n+m) k=cntI f a n k+cntI f (a+n) m k:=by
 unfold cntI
 rw[←List.range'_append_1,List.countP_append]
theorem cntI_all {f:Nat→Nat} {a n k s:Nat} (h:∀p,a≤p→p<a+n→f p=s):cntI f a n k=if s=k then n else 0:=by
 unfold cntI
 by_cases c:s=k
 ·rw[if_pos c,List.countP_eq_length.2 (fun p hp=> ?_),List.length_range']
  have:=List.mem_range'_1.1 hp
  rw[h p this.1 this.2,c];exact decide_eq_true rfl
 ·rw[if_neg c,List.countP_eq_zero]
  intro p hp
  have:=List.mem_range'_1.1 hp
  rw[h p this.1 this.2];simpa using c
theorem cntI_le (f:Nat→Nat) (a n k:Nat):cntI f a n k≤n:=by
 unfold cntI
 have:=List.countP_le_length (p:=fun p=>decide (f p=k)) (l:=List.range' a n)
 rwa[List.length_range'] at this
theorem none_begins {f:Nat→Nat} {R:List (Nat×Nat)} {L:Nat} (h:Seg f 0 R L) (hA:Alt R) (hc:∀p,f p=0↔f (p/512 * 512)=0) {i:Nat} (hi:i<R.length) (hz:R[i].2=0):R[i].1%512=0:=by
 by_cases z:R[i].1%512=0
 ·exact z
 ·exfalso
  cases i with
  |zero=>have:=h.start;rw[startR_lt hi] at this;omega
  |succ k=>
   have hk:k<R.length:=by omega
   have r:=h.row k hk
   rw[startR_lt hi] at r
   have r1:=h.row (k+1) hi
   have a:=r.2.2.2 (R[k+1].1 - 1) (by omega) (by omega)
   have b:=r1.2.2.2 R[k+1].1 (Nat.le_refl _) r1.2.1
   have n:=hA.get k hi
   have c1:=hc (R[k+1].1 - 1)
   have c2:=hc R[k+1].1
   have e:(R[k+1].1 - 1)/512 * 512=R[k+1].1/512 * 512:=by omega
   rw[e,←c2,a,b,hz] at c1
   rw[hz] at n
   exact n (c1.2 rfl)
end Go.Proofs.Sp
namespace Go.Proofs.YtdgdhnnakcncoaaGreatDoor.V
set_option maxHeartbeats 1600000
open Go.ChangeShapes Go.WideShapes Go.ChangeAt Go.RowKit Go.Proofs.Sp
def Sl (w:World) (v:Value) (xs:List Value):Prop:=
 (v= .slice none 0 0∧xs= [])∨∃b off cap,v= .slice (some ⟨b,off,none⟩) xs.length cap∧xs.length≤cap∧b<w.heap.size∧∀j u,xs[j]? =some u→w.cell? ⟨b,off+j,none⟩=some u
def u64s (l:List Nat):List Value:=l.map fun n:Nat=>Value.int .u64 (n:Int)
def bools (l:List Bool):List Value:=l.map .bool
def cost (e n:Nat):Nat:=if e=0 then n+1 else 1
abbrev Inv:=World→Addr→Sp→(Nat→Prop)→Nat→Prop
def Step (I:Inv) (F:Nat→Prop) (w w':World) (m:Addr) (S':Sp) (K':Nat):Prop:=
 ∃F',I w' m S' F' K'∧Kept F w w'∧∀b,F' b→F b∨w.heap.size≤b
def lim:Nat:=1099511627776
def two64 (a:Int):Prop:=0≤a∧a<18446744073709551616
structure Nums where
 new:Nat
 reserve:Nat
 commit:Nat
 load:Nat
 release:Nat
 count:Nat
 store:Nat
 zero:Nat
 state:Nat
abbrev vm:Nums:=⟨10,280,183,23,91,34,24,0,33⟩
def J (I:Inv) (w0:World) (m:Addr) (w:World) (S:Sp) (K:Nat):Prop:=
 ∃F,I w m S F K∧(∀b,F b→w0.heap.size≤b)∧Below w0.heap.size w0 w
theorem J.below {I:Inv} {w0 w:World} {m:Addr} {S:Sp} {K:Nat} (h:J I w0 m w S K):Below w0.heap.size w0 w:=by obtain ⟨_,_,_,h⟩:=h;exact h
theorem J.step {I:Inv} {w0 w w':World} {m:Addr} {S':Sp} {F:Nat→Prop} {K':Nat} (h2:∀b,F b→w0.heap.size≤b) (h3:Below w0.heap.size w0 w) (h:Step I F w w' m S' K'):J I w0 m w' S' K':=by
 obtain ⟨F',a,b,c⟩:=h
 have:=h3.size
 refine ⟨F',a,fun x hx=> ?_,h3.trans (b.below this h2)⟩
 rcases c x hx with hx|hx
 ·exact h2 x hx
 ·omega
variable {N:Nums} {I:Inv} {w0 w:World} {m:Addr} {S S':Sp} {K:Nat}
end Go.Proofs.YtdgdhnnakcncoaaGreatDoor.V
namespace Go.Proofs.YtdgdhnnakcncoaaGreatDoor.V
set_option maxHeartbeats 1600000
open Go.ChangeShapes Go.WideShapes Go.ChangeAt Go.RowKit Go.Proofs.Sp
theorem Sl.nil (w:World):Sl w (.slice none 0 0) []:=Or.inl ⟨rfl,rfl⟩
theorem Sl.alloc (w:World) (c:Array Value) (t:TypeId) (xs:List Value) (n:Nat) (h:c.toList=xs) (hn:xs.length=n):Sl (w.alloc (.cells c t)) (.slice (some ⟨w.heap.size,0,none⟩) n n) xs:=by
 refine Or.inr ⟨w.heap.size,0,n,by rw[hn],by omega,by simp,fun j u hu=> ?_⟩
 rw[←h] at hu
 rw[Nat.zero_add,World.cell?_alloc_new]
 simpa using hu
theorem own_empty (w:World) (e:TypeId) (size:Nat):(w.alloc (.cells #[] e)).ownsRow w.heap.size e size (.slice (some ⟨w.heap.size,0,none⟩) 0 0) 0 []:=
 ⟨by simp,Or.inr ⟨w.heap.size,0,#[],rfl,Nat.le_refl _,by show (w.heap.push _)[w.heap.size]? =_;simp,Nat.le_refl _,Nat.zero_le _,by simp,by simp⟩⟩
theorem Sl.of_owns {w:World} {base:Nat} {e:TypeId} {v:Value} {n:Nat} {xs:List Value} (h:w.ownsRow base e 1 v n xs):Sl w v xs:=by
 obtain ⟨hl,h|⟨g,cap,cur,hv,hg,hh,hc,hm,hs,ht⟩⟩:=h
 ·left
  refine ⟨h.1,?_⟩
  rw[h.2] at hl
  exact List.eq_nil_of_length_eq_zero (by omega)
 ·right
  have hn:xs.length=n:=by omega
  refine ⟨g,0,cap,by rw[hn];exact hv,by omega,?_,fun j u hu=> ?_⟩
  ·by_cases c:g<w.heap.size
   ·exact c
   ·rw[Array.getElem?_eq_none (by omega)] at hh;simp at hh
  ·rw[←ht] at hu
   have hj:cur.toList[j]? =some u:=by
    rw[List.getElem?_take] at hu
    split at hu
    ·exact hu
    ·simp at hu
   rw[Nat.zero_add]
   unfold World.cell?
   simp only[hh]
   simpa using hj
theorem u64s_one (l:List Nat):∀u∈u64s l,u.oneCell'=true:=by
 intro u hu
 unfold u64s at hu
 obtain ⟨x,_,rfl⟩:=List.mem_map.1 hu
 rfl
end Go.Proofs.YtdgdhnnakcncoaaGreatDoor.V
