/- Of the proof of HeapClasses: texts RXa, RNm. -/
import Derived.Test.YtdgdhnnakcncoaaGreatDoorJ01
import Derived.Test.YtdgdhnnakcncoaaGreatDoorRows
import Derived.WalkKit
import Derived.ProofKit
import Derived.OpenShut
import Derived.Carry
import Derived.ChangeSlices
import Derived.Lib.BitFns
import Derived.Laws.Bits64b
import Derived.Laws.BitsAllLaws
import Derived.WalkLawsBesides
import Derived.Shelf.Abstract
import Derived.Deep.QuietTactic
import Derived.BigQuiet
import Derived.Outline
import Derived.Laws.Bits128
namespace Go.Proofs.Rx
open Go.Proofs.Bt Go.Proofs.Pk
set_option linter.unusedVariables false
set_option linter.unusedSimpArgs false
def sz:Nat→Nat
 |0=>34359738368
 |1=>134217728
 |2=>2097152
 |3=>262144
 |4=>32768
 |5=>4096
 |_=>512
def sh:Nat→Nat
 |0=>35
 |1=>27
 |2=>21
 |3=>18
 |4=>15
 |5=>12
 |_=>9
def fan:Nat→Nat
 |0=>256
 |1=>64
 |_=>8
theorem cases6 {P:Nat→Prop} (h0:P 0) (h1:P 1) (h2:P 2) (h3:P 3) (h4:P 4) (h5:P 5):∀d,d<6→P d
 |0,_=>h0
 |1,_=>h1
 |2,_=>h2
 |3,_=>h3
 |4,_=>h4
 |5,_=>h5
 |n+6,h=>by omega
theorem cases7 {P:Nat→Prop} (h0:P 0) (h1:P 1) (h2:P 2) (h3:P 3) (h4:P 4) (h5:P 5) (h6:P 6):∀d,d≤6→P d
 |0,_=>h0
 |1,_=>h1
 |2,_=>h2
 |3,_=>h3
 |4,_=>h4
 |5,_=>h5
 |6,_=>h6
 |n+7,h=>by omega
theorem sz_fan:∀d,d<6→sz d=fan d * sz (d+1):=cases6 rfl rfl rfl rfl rfl rfl
theorem sz_pow:∀d,d≤6→sz d=2^sh d:=cases7 rfl rfl rfl rfl rfl rfl rfl
theorem sz_pos:∀d,0<sz d
 |0=>by decide
 |1=>by decide
 |2=>by decide
 |3=>by decide
 |4=>by decide
 |5=>by decide
 |n+6=>by show 0<512;decide
theorem fan_pos (d:Nat):0<fan d:=by unfold fan;split<;>decide
theorem sz_le:∀d,d≤6→sz d≤34359738368:=cases7 (by decide) (by decide) (by decide) (by decide) (by decide) (by decide) (by decide)
structure Tl where
 p:Nat
 f:Nat
 r:Nat
abbrev decTl (a b:Tl):Decidable (a=b):=
 if h:a.p=b.p∧a.f=b.f∧a.r=b.r then .isTrue (by obtain ⟨p,f,r⟩:=a;obtain ⟨p',f',r'⟩:=b;dsimp only at h;rw[h.1,h.2.1,h.2.2]) else .isFalse (fun e=>h (by rw[e];exact ⟨rfl,rfl,rfl⟩))
def inU (st:Nat→Nat) (q:Nat):Bool:=decide (st q≠0)
def fre (st:Nat→Nat) (q:Nat):Bool:=decide (2≤st q)
def rel (st:Nat→Nat) (q:Nat):Bool:=decide (st q=3)
def tl (st:Nat→Nat) (a n:Nat):Tl:=⟨cnt (inU st) a n,cnt (fre st) a n,cnt (rel st) a n⟩
def Tl.add (a b:Tl):Tl:=⟨a.p+b.p,a.f+b.f,a.r+b.r⟩
def Tl.sub (a b:Tl):Tl:=⟨a.p - b.p,a.f - b.f,a.r - b.r⟩
def tlOf (s n:Nat):Tl:=⟨if s=0 then 0 else n,if 2≤s then n else 0,if s=3 then n else 0⟩
theorem tl_add (st:Nat→Nat) (a n m:Nat):tl st a (n+m)=(tl st a n).add (tl st (a+n) m):=by
 unfold tl Tl.add;simp only[cnt_add]
theorem tl_congr {st st':Nat→Nat} {a n:Nat} (h:∀q,a≤q→q<a+n→st q=st' q):tl st a n=tl st' a n:=by
 unfold tl
 rw[cnt_congr (f:=inU st) (g:=inU st') (j:=a) fun k hk=>by unfold inU;rw[h _ (by omega) (by omega)],cnt_congr (f:=fre st) (g:=fre st') (j:=a) fun k hk=>by unfold fre;rw[h _ (by omega) (by omega)],cnt_congr (f:=rel st) (g:=rel st') (j:=a) fun k hk=>by unfold rel;rw[h _ (by omega) (by omega)]]
theorem tl_le (st:Nat→Nat) (a n:Nat):(tl st a n).p≤n∧(tl st a n).f≤n∧(tl st a n).r≤n:=⟨cnt_le _ _ _,cnt_le _ _ _,cnt_le _ _ _⟩
theorem cnt_all {f:Nat→Bool} {a n:Nat} (h:∀k,k<n→f (a+k)=true):cnt f a n=n:=cnt_full.2 h
def All (st:Nat→Nat) (a n s:Nat):Prop:=∀q,a≤q→q<a+n→st q=s
theorem All.tl {st:Nat→Nat} {a n s:Nat} (h:All st a n s):tl st a n=tlOf s n:=by
 unfold Rx.tl tlOf
 have hh:∀k,k<n→st (a+k)=s:=fun k hk=>h _ (by omega) (by omega)
 congr 1
 ·by_cases z:s=0
  ·rw[if_pos z];exact cnt_none fun k hk=>by unfold inU;rw[hh k hk];simp[z]
  ·rw[if_neg z];exact cnt_all fun k hk=>by unfold inU;rw[hh k hk];simp[z]
 ·by_cases z:2≤s
  ·rw[if_pos z];exact cnt_all fun k hk=>by unfold fre;rw[hh k hk];simp[z]
  ·rw[if_neg z];exact cnt_none fun k hk=>by unfold fre;rw[hh k hk];simpa using z
 ·by_cases z:s=3
  ·rw[if_pos z];exact cnt_all fun k hk=>by unfold rel;rw[hh k hk];simp[z]
  ·rw[if_neg z];exact cnt_none fun k hk=>by unfold rel;rw[hh k hk];simpa using z
def Four (st:Nat→Nat):Prop:=∀q,st q≤3
theorem all_of_tl {st:Nat→Nat} (h4:Four st) {a n s:Nat} (hs:s≤3) (h:tl st a n=tlOf s n):All st a n s:=by
 unfold tl tlOf at h
 injection h with h1 h2 h3
 intro q q1 q2
 have e:a+(q - a)=q:=by omega
 have hk:q - a<n:=by omega
 have h5:=h4 q
 match s,hs with
 |0,_=>
  have:=cnt_zero.1 h1 (q - a) hk
  rw[e] at this
  unfold inU at this
  simpa using this
 |1,_=>
  have a1:=cnt_full.1 h1 (q - a) hk
  have a2:=cnt_zero.1 h2 (q - a) hk
  rw[e] at a1 a2
  unfold inU at a1
  unfold fre at a2
  simp only[decide_eq_true_eq,decide_eq_false_iff_not] at a1 a2
  omega
 |2,_=>
  have a1:=cnt_full.1 h2 (q - a) hk
  have a2:=cnt_zero.1 h3 (q - a) hk
  rw[e] at a1 a2
  unfold fre at a1
  unfold rel at a2
  simp only[decide_eq_true_eq,decide_eq_false_iff_not] at a1 a2
  omega
 |3,_=>
  have a1:=cnt_full.1 h3 (q - a) hk
  rw[e] at a1
  unfold rel at a1
  simpa using a1
theorem tlOf_inj {s s' n:Nat} (hn:0<n) (hs:s≤3) (hs':s'≤3) (h:tlOf s n=tlOf s' n):s=s':=by
 unfold tlOf at h
 injection h with h1 h2 h3
 match s,hs with
 |0,_=>
  match s',hs' with
  |0,_=>rfl
  |1,_=>simp at h1;omega
  |2,_=>simp at h1;omega
  |3,_=>simp at h1;omega
 |1,_=>
  match s',hs' with
  |0,_=>simp at h1;omega
  |1,_=>rfl
  |2,_=>simp at h2;omega
  |3,_=>simp at h2;omega
 |2,_=>
  match s',hs' with
  |0,_=>simp at h1;omega
  |1,_=>simp at h2;omega
  |2,_=>rfl
  |3,_=>simp at h3;omega
 |3,_=>
  match s',hs' with
  |0,_=>simp at h1;omega
  |1,_=>simp at h2;omega
  |2,_=>simp at h3;omega
  |3,_=>rfl
def al (t:Tl) (n:Nat):Option Nat:= @ite _ (t=tlOf 0 n) (decTl _ _) (some 0) (@ite _ (t=tlOf 1 n) (decTl _ _) (some 1) (@ite _ (t=tlOf 2 n) (decTl _ _) (some 2) (@ite _ (t=tlOf 3 n) (decTl _ _) (some 3) none)))
theorem al_some {t:Tl} {n s:Nat} (h:al t n=some s):s≤3∧t=tlOf s n:=by
 unfold al at h
 repeat' split at h
 all_goals first|(cases h;exact ⟨by decide,by assumption⟩)|(cases h)
theorem al_none {t:Tl} {n:Nat} (h:al t n=none) {s:Nat} (hs:s≤3):t≠tlOf s n:=by
 intro z
 unfold al at h
 match s,hs with
 |0,_=>rw[if_pos z] at h;cases h
 |1,_=>(repeat' split at h)<;>first|contradiction|(cases h)
 |2,_=>(repeat' split at h)<;>first|contradiction|(cases h)
 |3,_=>(repeat' split at h)<;>first|contradiction|(cases h)
theorem al_of {s n:Nat} (hn:0<n) (hs:s≤3):al (tlOf s n) n=some s:=by
 cases h:al (tlOf s n) n with
 |none=>exact absurd rfl (al_none h hs)
 |some s'=>obtain ⟨h1,h2⟩:=al_some h;rw[tlOf_inj hn hs h1 h2]
structure Rw where
 t:Tl
 s:Nat
 m:Nat
 e:Nat
 rest:Nat
def even (d s:Nat):Rw:=⟨tlOf s (sz d),(tlOf s (sz d)).f,(tlOf s (sz d)).f,(tlOf s (sz d)).f,s⟩
def bsy (st:Nat→Nat) (a k:Nat):Bool:= !fre st (a+k)
theorem bsy_false {st:Nat→Nat} {a k:Nat}:bsy st a k=false↔2≤st (a+k):=by unfold bsy fre;simp
theorem bsy_true {st:Nat→Nat} {a k:Nat}:bsy st a k=true↔st (a+k)<2:=by unfold bsy fre;simp
def Su (st:Nat→Nat) (a n:Nat) (r:Rw):Prop:=SumN (bsy st a) n r.s r.m r.e
theorem sumN_full (F:Nat→Bool) (n:Nat) (h:∀k,k<n→F k=false):SumN F n n n n:=
 ⟨Nat.le_refl _,Nat.le_refl _,fun k hk=>h _ (by omega),fun z=>by omega,fun k hk=>h _ (by omega),fun z=>by omega,⟨0,by omega,fun k hk=>h _ (by omega)⟩,fun c hc=>by omega⟩
theorem sumN_none (F:Nat→Bool) (n:Nat) (h:∀k,k<n→F k=true):SumN F n 0 0 0:=
 ⟨Nat.zero_le _,Nat.zero_le _,fun k hk=>by omega,fun z=>h _ z,fun k hk=>by omega,fun z=>h _ (by omega),⟨0,by omega,fun k hk=>by omega⟩,fun c hc hk=>by have h1:=hk 0 (by omega);rw[h (c+0) (by omega)] at h1;cases h1⟩
theorem sumN_congr {F G:Nat→Bool} {n s m e:Nat} (h:SumN F n s m e) (hc:∀k,k<n→F k=G k):SumN G n s m e:=by
 have cl:∀{c k},c+k≤n→(Clr F c k↔Clr G c k):=fun {c k} hk=>⟨fun z j hj=>by rw[←hc _ (by omega)];exact z j hj,fun z j hj=>by rw[hc _ (by omega)];exact z j hj⟩
 have h1:=h.sl
 have h2:=h.el
 obtain ⟨c,c1,c2⟩:=h.mx
 exact ⟨h.sl,h.el,(cl (by omega)).1 h.sc,fun z=>by rw[←hc _ z];exact h.ss z,(cl (by omega)).1 h.ec,fun z=>by rw[←hc _ (by omega)];exact h.es z,⟨c,c1,(cl c1).1 c2⟩,fun c hk z=>h.mn c hk ((cl hk).2 z)⟩
theorem even_su {st:Nat→Nat} {a d s:Nat} (h:All st a (sz d) s):Su st a (sz d) (even d s):=by
 unfold Su even tlOf
 dsimp only
 by_cases z:2≤s
 ·rw[if_pos z]
  exact sumN_full _ _ fun k hk=>bsy_false.2 (by rw[h _ (by omega) (by omega)];exact z)
 ·rw[if_neg z]
  exact sumN_none _ _ fun k hk=>bsy_true.2 (by rw[h _ (by omega) (by omega)];omega)
theorem sumN_row {F f:Nat→Bool} {L P S M E s m e:Nat} (hP:0<P) (h:SumN F L S M E) (k:SumN f P s m e) (hF:∀i,i<P→F (L+ i)=f i):
 SumN F (L+P) (if S=L then S+s else S) (max (max M m) (E+s)) (if e=P then E+P else e):=by
 have a1:=h.sl
 have a2:=h.el
 have b1:=k.sl
 have b2:=k.el
 have join:Clr F (L - E) (E+s):=Clr.of fun i i1 i2=>by
  rcases Nat.lt_or_ge i L with l|l
  ·exact Clr.at h.ec i1 (by omega)
  ·have:=hF (i - L) (by omega)
   rw[show L+(i - L)=i by omega] at this
   rw[this];exact Clr.at k.sc (by omega) (by omega)
 have send:∀t,t≤P→(∀i,i<t→f i=false)→t≤s:=fun t ht hc=>by
  rcases Nat.lt_or_ge s t with l|l
  ·have:=k.ss (by omega);rw[hc s l] at this;cases this
  ·exact l
 have sP:e=P→s=P:=fun z=>by
  have:=send P (Nat.le_refl _) (fun i hi=>Clr.at k.ec (by omega) (by omega));omega
 refine ⟨?_,?_,?_,?_,?_,?_,?_,?_⟩
 ·split<;>omega
 ·split<;>omega
 ·split
  ·rename_i z
   have:=join
   rw[h.all.1 z,Nat.sub_self] at this
   rwa[z]
  ·exact h.sc
 ·split
  ·intro _
   have:=k.ss (by omega)
   rw[←hF s (by omega)] at this
   rename_i z _
   rwa[z]
  ·intro _;exact h.ss (by omega)
 ·split
  ·rename_i z
   refine Clr.of fun i i1 i2=>Clr.at join (by omega) (by have:=sP z;omega)
  ·refine Clr.of fun i i1 i2=> ?_
   have:=hF (i - L) (by omega)
   rw[show L+(i - L)=i by omega] at this
   rw[this];exact Clr.at k.ec (by omega) (by omega)
 ·split
  ·intro l
   have:=h.es (by omega)
   rwa[show L+P - 1 -(E+P)=L - 1 - E by omega]
  ·intro _
   have:=k.es (by omega)
   rw[←hF (P - 1 - e) (by omega)] at this
   rwa[show L+P - 1 - e=L+(P - 1 - e) by omega]
 ·obtain ⟨c,c1,c2⟩:=h.mx
  obtain ⟨d,d1,d2⟩:=k.mx
  rcases Nat.le_total (max M m) (E+s) with l|l
  ·rw[Nat.max_eq_right l];exact ⟨L - E,by omega,join⟩
  ·rw[Nat.max_eq_left l]
   rcases Nat.le_total M m with l2|l2
   ·rw[Nat.max_eq_right l2]
    refine ⟨L+d,by omega,Clr.of fun i i1 i2=> ?_⟩
    have:=hF (i - L) (by omega)
    rw[show L+(i - L)=i by omega] at this
    rw[this];exact Clr.at d2 (by omega) (by omega)
   ·rw[Nat.max_eq_left l2];exact ⟨c,by omega,c2⟩
 ·intro c hc hk
  rcases Nat.lt_or_ge L (c+(max (max M m) (E+s)+1)) with l|l
  ·rcases Nat.lt_or_ge c L with l2|l2
   ·have z1:=h.end_le (c:=c) (by omega) (fun i i1 i2=>Clr.at hk i1 (by omega))
    have z2:=send (c+(max (max M m) (E+s)+1) - L) (by omega) (fun i hi=>by rw[←hF i (by omega)];exact Clr.at hk (by omega) (by omega))
    omega
   ·have:Clr f (c - L) (m+1):=Clr.of fun i i1 i2=>by rw[←hF i (by omega)];exact Clr.at hk (by omega) (by omega)
    exact k.mn (c - L) (by omega) this
  ·have:=h.le l hk
   omega
def sm (r:Rw):Sm:=⟨(r.s:Nat),(r.m:Nat),(r.e:Nat)⟩
theorem su_rgt {F:Nat→Bool} {P s m e:Nat} (hP:0<P) (k:SumN F P s m e):Rgt ⟨(s:Nat),(m:Nat),(e:Nat)⟩ (P:Nat):=by
 have h1:=k.sl
 have h2:=k.el
 obtain ⟨c,c1,c2⟩:=k.mx
 have h3:=k.le (c:=0) (k:=s) (by omega) k.sc
 have h4:=k.le (c:=P - e) (k:=e) (by omega) k.ec
 have whole:m=P→s=P∧e=P:=fun z=>by
  have hc:c=0:=by omega
  subst hc
  refine ⟨?_,?_⟩
  ·rcases Nat.lt_or_ge s P with l|l
   ·have:=k.ss l;have h5:=Clr.at c2 (k:=s) (by omega) (by omega);rw[h5] at this;cases this
   ·omega
  ·rcases Nat.lt_or_ge e P with l|l
   ·have:=k.es l;have h5:=Clr.at c2 (k:=P - 1 - e) (by omega) (by omega);rw[h5] at this;cases this
   ·omega
 have part:m≠P→s+e<P:=fun z=>by
  rcases Nat.lt_or_ge (s+e) P with l|l
  ·exact l
  ·exfalso
   have:Clr F 0 P:=Clr.of fun i i1 i2=>by
    rcases Nat.lt_or_ge i s with l1|l1
    ·exact Clr.at k.sc (by omega) (by omega)
    ·exact Clr.at k.ec (by omega) (by omega)
   have:=k.le (c:=0) (k:=P) (by omega) this
   omega
 refine ⟨⟨?_,?_,?_,?_,?_,?_⟩,?_⟩<;>dsimp only
 ·omega
 ·omega
 ·omega
 ·omega
 ·omega
 ·by_cases z:m=P
  ·have:=whole z;omega
  ·omega
 ·by_cases z:m=P
  ·omega
  ·have:=part z;omega
theorem mg_rows {st:Nat→Nat} {a P:Nat} (hP:0<P) {X:Nat→Rw}:∀n,(∀j,j<n→Su st (a+P * j) P (X j))→∃s m e:Nat,mg (P:Nat) (fun j=>sm (X j)) n=⟨(s:Nat),(m:Nat),(e:Nat)⟩∧SumN (bsy st a) (P * n) s m e
 |0,_=>⟨0,0,0,rfl,SumN.zero _⟩
 |n+1,h=>by
  obtain ⟨S,M,E,h1,h2⟩:=mg_rows hP n (fun j hj=>h j (by omega))
  have k2:=h n (by omega)
  unfold Su at k2
  have:=sumN_row hP h2 k2 (fun i hi=>by unfold bsy;rw[Nat.add_assoc])
  rw[show P *(n+1)=P * n+P from Nat.mul_succ P n]
  refine ⟨_,_,_,?_,this⟩
  have e1:sm (X n)=⟨((X n).s:Nat),((X n).m:Nat),((X n).e:Nat)⟩:=rfl
  rw[mg,h1,e1]
  dsimp only
  have e0:((n:Int) *(P:Int))=((P * n:Nat):Int):=by rw[Int.natCast_mul,Int.mul_comm]
  rw[e0]
  congr 1
  ·by_cases z:S=P * n
   ·rw[if_pos z,if_pos (by omega)];omega
   ·rw[if_neg z,if_neg (by omega)]
  ·omega
  ·by_cases z:(X n).e=P
   ·rw[if_pos z,if_pos (by omega)];omega
   ·rw[if_neg z,if_neg (by omega)]
end Go.Proofs.Rx
namespace Go.Proofs.YtdgdhnnakcncoaaGreatDoor
set_option maxHeartbeats 1600000
open Go.ChangeShapes Go.WideShapes Go.ChangeAt Go.RowKit Go.Proofs.Bt
set_option linter.unusedVariables false
set_option linter.unusedSimpArgs false
theorem hide {p:Prop} (h:p):Hid p:=h
def f1 (x:Int):Int:=IntKind.u64.wrap (bits .and .u64 (x/2) 6148914691236517205+bits .and .u64 x 6148914691236517205)
def f2 (x:Int):Int:=IntKind.u64.wrap (bits .and .u64 (x/4) 3689348814741910323+bits .and .u64 x 3689348814741910323)
def f3 (x:Int):Int:=bits .and .u64 (IntKind.u64.wrap (x/16+x)) 1085102592571150095
def f4 (x:Int):Int:=IntKind.u64.wrap (x+x/256)
def f5 (x:Int):Int:=IntKind.u64.wrap (x+x/65536)
def f6 (x:Int):Int:=IntKind.u64.wrap (x+x/4294967296)
theorem rep85:rep 85 8=6148914691236517205:=by decide
theorem rep51:rep 51 8=3689348814741910323:=by decide
theorem rep15:rep 15 8=1085102592571150095:=by decide
theorem f1_nat (x:Nat) (hx:x<18446744073709551616):f1 (x:Int)=(s1 8 x:Int)∧s1 8 x<18446744073709551616:=by
 have l1:x/2 &&& rep 85 8≤rep 85 8:=Nat.and_le_right
 have l2:x &&& rep 85 8≤rep 85 8:=Nat.and_le_right
 rw[rep85] at l1 l2
 unfold f1 s1
 rw[rep85,show ((x:Int)/2)=((x/2:Nat):Int) by omega,show (6148914691236517205:Int)=((6148914691236517205:Nat):Int) from rfl,
  u64_and_nat _ _ (by omega) (by decide),u64_and_nat _ _ hx (by decide),IntKind.wrap_u64]
 omega
theorem f2_nat (x:Nat) (hx:x<18446744073709551616):f2 (x:Int)=(s2 8 x:Int)∧s2 8 x≤7378697629483820646:=by
 have l1:x/4 &&& rep 51 8≤rep 51 8:=Nat.and_le_right
 have l2:x &&& rep 51 8≤rep 51 8:=Nat.and_le_right
 rw[rep51] at l1 l2
 unfold f2 s2
 rw[rep51,show ((x:Int)/4)=((x/4:Nat):Int) by omega,show (3689348814741910323:Int)=((3689348814741910323:Nat):Int) from rfl,
  u64_and_nat _ _ (by omega) (by decide),u64_and_nat _ _ hx (by decide),IntKind.wrap_u64]
 omega
theorem f3_nat (x:Nat) (hx:x≤7378697629483820646):f3 (x:Int)=(s3 8 x:Int):=by
 unfold f3 s3
 rw[rep15,IntKind.wrap_u64,show ((x:Int)/16+(x:Int))%18446744073709551616=((x/16+x:Nat):Int) by omega,show (1085102592571150095:Int)=((1085102592571150095:Nat):Int) from rfl,
  u64_and_nat _ _ (by omega) (by decide)]
theorem f4_nat (y:Nat) (h:y+y/256<9223372036854775808):f4 (y:Int)=((y+y/256:Nat):Int):=by
 unfold f4;rw[IntKind.wrap_u64];omega
theorem f5_nat (y:Nat) (h:y+y/65536<9223372036854775808):f5 (y:Int)=((y+y/65536:Nat):Int):=by
 unfold f5;rw[IntKind.wrap_u64];omega
theorem f6_nat (y:Nat) (h:y+y/4294967296<9223372036854775808):f6 (y:Int)=((y+y/4294967296:Nat):Int):=by
 unfold f6;rw[IntKind.wrap_u64];omega
theorem cut_nat (y:Nat):bits .and .i64 (wrap64 (y:Int)) 127=((y%128:Nat):Int):=by
 rw[i64_and127];unfold wrap64;omega
theorem S_eq (x:Nat):s3 8 (s2 8 (s1 8 x))=S 8 x:=by unfold S;rfl
theorem ones_sum (y y1 y2 y3 p:Nat) (h1:y1=y+y/256) (h2:y2=y1+y1/65536) (h3:y3=y2+y2/4294967296) (b1:y1<9223372036854775808) (b2:y2<9223372036854775808) (b3:y3<9223372036854775808) (hp:y3%128=p):
 bits .and .i64 (wrap64 (f6 (f5 (f4 (y:Int))))) 127=(p:Int):=by
 subst h1 h2 h3
 rw[f4_nat _ b1,f5_nat _ b2,f6_nat _ b3,cut_nat _,hp]
theorem ones_arith (x:Nat) (hx:x<18446744073709551616):bits .and .i64 (wrap64 (f6 (f5 (f4 (f3 (f2 (f1 (x:Int)))))))) 127=(pc x:Int):=by
 obtain ⟨e1,b1⟩:=f1_nat x hx
 obtain ⟨e2,b2⟩:=f2_nat (s1 8 x) b1
 have e3:=f3_nat (s2 8 (s1 8 x)) b2
 rw[e1,e2,e3,S_eq]
 obtain ⟨y1,hy1⟩:∃y,y=S 8 x+S 8 x/256:=⟨_,rfl⟩
 obtain ⟨y2,hy2⟩:∃y,y=y1+y1/65536:=⟨_,rfl⟩
 obtain ⟨y3,hy3⟩:∃y,y=y2+y2/4294967296:=⟨_,rfl⟩
 obtain ⟨c1,c2,c3,c4⟩:=sums x y1 y2 y3 hx hy1 hy2 hy3
 exact ones_sum _ y1 y2 y3 _ hy1 hy2 hy3 c1 c2 c3 c4
theorem ones_any (x:Nat) (hx:x<18446744073709551616) (w:World):
 Calls Tryz.prog 132 #[.int .u64 x] w fun e w'=>e= .returned (.int .i64 (pc x))∧w'=w:=by
 rw[←ones_arith x hx]
 have hid:Hid (x<18446744073709551616):=hx
 clear hx
 go_enter Tryz.func132,Tryz.ntmps132
 go_wp2
 go_ret
 exact ⟨rfl,rfl⟩
theorem andn_inv (a b:Nat) (ha:a<18446744073709551616) (hb:b<18446744073709551616):a &&& (18446744073709551615 - b)=andn a b:=by
 refine eq_of_bits (and_lt _ ha) (andn_lt _ ha) fun k hk=> ?_
 have:=inv_bit hb hk
 unfold inv at this
 rw[Nat.testBit_and,andn_bit,this]
theorem w_andNot (a b:Nat) (ha:a<18446744073709551616) (hb:b<18446744073709551616):bits .andNot .u64 (a:Int) (b:Int)=((andn a b:Nat):Int):=by
 rw[u64_andNot_nat a b ha hb,andn_inv a b ha hb]
theorem w_or (a b:Nat) (ha:a<18446744073709551616) (hb:b<18446744073709551616):bits .or .u64 (a:Int) (b:Int)=((a ||| b:Nat):Int):=bits_or_u64_nat a b ha hb
theorem w_and (a b:Nat) (ha:a<18446744073709551616) (hb:b<18446744073709551616):bits .and .u64 (a:Int) (b:Int)=((a &&& b:Nat):Int):=bits_and_u64_nat a b ha hb
theorem lowest_neg (n:Int) (h:n<0) (w:World):Calls Tryz.prog 294 #[.int .i64 n] w fun e w'=>e= .returned (.int .u64 0)∧w'=w:=by
 go_enter Tryz.func294,Tryz.ntmps294
 go_wp2
 go_ret
 exact ⟨rfl,rfl⟩
theorem low_wrap (m:Nat) (hm:m≤64):IntKind.u64.wrap (IntKind.u64.wrap (2^m) - 1)=((2^m - 1:Nat):Int):=by
 rw[IntKind.wrap_u64,IntKind.wrap_u64]
 have e:((2:Int)^m)=((2^m:Nat):Int):=by simp
 have h1:2^m≤2^64:=Nat.pow_le_pow_right (by decide) hm
 have h2:0<2^m:=Nat.two_pow_pos _
 have e2:(2:Nat)^64=18446744073709551616:=by decide
 rw[e]
 generalize 2^m=x at *
 omega
theorem lowest_nat (n:Int) (h:0≤n) (h':n≤9223372036854775807) (w:World):Calls Tryz.prog 294 #[.int .i64 n] w fun e w'=>e= .returned (.int .u64 (low n.toNat:Nat))∧w'=w:=by
 have h2:¬n<0:=by omega
 go_enter Tryz.func294,Tryz.ntmps294
 go_wp2
 go_ret
 exact ⟨by rw[low_wrap _ (Nat.min_le_right _ _)];rfl,rfl⟩
theorem lowest_any (n:Int) (h':n≤9223372036854775807) (w:World):Calls Tryz.prog 294 #[.int .i64 n] w fun e w'=>e= .returned (.int .u64 (low n.toNat:Nat))∧w'=w:=by
 by_cases h:n<0
 ·have:=lowest_neg n h w
  rw[show n.toNat=0 by omega]
  exact this
 ·exact lowest_nat n (by omega) h' w
theorem part_core (k:Nat) (a b:Int) (hk:k<8) (ha:0≤a) (hb:0≤b) (ha':a≤9223372036854775807) (hb':b≤9223372036854775807) (x y:Nat) (hx:x<18446744073709551616) (hy:y<18446744073709551616) (w:World)
 (cx:Calls Tryz.prog 294 #[.int .i64 (b - 64 * k)] w fun e w'=>e= .returned (.int .u64 (x:Nat))∧w'=w)
 (cy:Calls Tryz.prog 294 #[.int .i64 (a - 64 * k)] w fun e w'=>e= .returned (.int .u64 (y:Nat))∧w'=w):
 Calls Tryz.prog 256 #[.int .i64 (k:Nat), .int .i64 a, .int .i64 b] w fun e w'=>e= .returned (.int .u64 (andn x y:Nat))∧w'=w:=by
 obtain ⟨K,hK⟩:∃K:Int,(k:Int)=K:=⟨_,rfl⟩
 have k0:0≤K:=by omega
 have k8:K<8:=by omega
 rw[hK] at cx cy ⊢
 clear hK
 have e1:K * 64=64 * K:=by omega
 have l1: -9223372036854775808≤b - 64 * K:=by omega
 have l2:b - 64 * K≤9223372036854775807:=by omega
 have l3: -9223372036854775808≤a - 64 * K:=by omega
 have l4:a - 64 * K≤9223372036854775807:=by omega
 rw[←w_andNot x y hx hy]
 have HX:=hide hx
 have HY:=hide hy
 clear hx hy
 rw[←e1] at cx cy l1 l2 l3 l4
 clear e1
 go_enter Tryz.func256,Tryz.ntmps256
 go_wp2_with fail
 go_at_call 294
 refine cx.mono ?_
 rintro e w' ⟨rfl,hw'⟩;rw[hw'];clear hw' w'
 go_wp2_with fail
 go_at_call 294
 refine cy.mono ?_
 rintro e w' ⟨rfl,hw'⟩;rw[hw'];clear hw' w'
 go_wp2
 go_ret
 exact ⟨rfl,rfl⟩
theorem part_any (k a b:Nat) (hk:k<8) (ha:a≤9223372036854775807) (hb:b≤9223372036854775807) (w:World):
 Calls Tryz.prog 256 #[.int .i64 (k:Nat), .int .i64 (a:Nat), .int .i64 (b:Nat)] w fun e w'=>e= .returned (.int .u64 (prt k a b:Nat))∧w'=w:=by
 have h1:=lowest_any ((b:Int) - 64 * k) (by omega) w
 have h2:=lowest_any ((a:Int) - 64 * k) (by omega) w
 rw[show ((b:Int) - 64 * k).toNat=b - 64 * k by omega] at h1
 rw[show ((a:Int) - 64 * k).toNat=a - 64 * k by omega] at h2
 exact part_core k a b hk (by omega) (by omega) (by omega) (by omega) _ _ (low_lt _) (low_lt _) w h1 h2
def Right (i n:Int):Prop:=0≤i∧i≤512∧0≤n∧n≤512 - i
theorem right_any (i n:Int) (hi: -9223372036854775808≤i) (w:World):
 (Right i n→Calls Tryz.prog 255 #[.int .i64 i, .int .i64 n] w fun e w'=>e= .returned (.bool true)∧w'=w)∧
 (¬Right i n→Calls Tryz.prog 255 #[.int .i64 i, .int .i64 n] w fun e w'=>e= .returned (.bool false)∧w'=w):=by
 unfold Right
 constructor
 ·rintro ⟨h1,h2,h3,h4⟩
  go_enter Tryz.func255,Tryz.ntmps255
  go_wp2
  go_ret
  exact ⟨rfl,rfl⟩
 ·intro h
  by_cases h1:0≤i
  ·by_cases h2:i≤512
   ·by_cases h3:0≤n
    ·have h4:decide (n≤512 - i)=false:=decide_eq_false (by omega)
     clear h
     go_enter Tryz.func255,Tryz.ntmps255
     go_wp2
     go_ret
     exact ⟨rfl,rfl⟩
    ·have h3':n<0:=by omega
     clear h h3
     go_enter Tryz.func255,Tryz.ntmps255
     go_wp2
     go_ret
     exact ⟨rfl,rfl⟩
   ·have h2':512<i:=by omega
    clear h h2
    go_enter Tryz.func255,Tryz.ntmps255
    go_wp2
    go_ret
    exact ⟨rfl,rfl⟩
  ·have h1':i<0:=by omega
   clear h h1
   go_enter Tryz.func255,Tryz.ntmps255
   go_wp2
   go_ret
   exact ⟨rfl,rfl⟩
def TabW (w:World):Prop:=(∀j,j<64→w.cell? ⟨0,j,none⟩=some (.int .u8 (Lib.deBruijn64tab.getD j 0)))∧∀j,j<7→w.cell? ⟨1,j,none⟩=some (.int .i64 (Rx.sh j:Nat))
theorem tz_core (x k idx:Nat) (w:World) (hx0:((x:Int)==0)=false)
 (key:IntKind.u64.wrap (bits BinOp.and IntKind.u64 (x:Int) (IntKind.u64.wrap (-(x:Int))) * 285870213051353865)/288230376151711744=(idx:Int))
 (hi:idx<64) (hk:k<64) (hcell:w.cell? ⟨0,idx,none⟩=some (.int .u8 k)):
 Calls Tryz.prog 174 #[.int .u64 x] w fun e w'=>e= .returned (.int .i64 k)∧w'=w:=by
 go_enter Tryz.func174,Tryz.ntmps174
 go_wp2_with (simp only[key])
 go_ret
 exact ⟨rfl,rfl⟩
theorem tz_key (x a:Nat) (hx:x<18446744073709551616) (hx0:x≠0) (hlow:x &&& (18446744073709551616 - x)=a):
 IntKind.u64.wrap (bits BinOp.and IntKind.u64 (x:Int) (IntKind.u64.wrap (-(x:Int))) * 285870213051353865)/288230376151711744=((a * 285870213051353865%18446744073709551616/288230376151711744:Nat):Int):=by
 have e1:IntKind.u64.wrap (-(x:Int))=((18446744073709551616 - x:Nat):Int):=by rw[IntKind.wrap_u64];omega
 rw[e1,bits_and_u64_nat x _ hx (by omega),hlow,IntKind.wrap_u64]
 omega
theorem tz_any (x:Nat) (hx0:x≠0) (hx:x<18446744073709551616) (w:World) (hT:TabW w):
 Calls Tryz.prog 174 #[.int .u64 x] w fun e w'=>e= .returned (.int .i64 (Lib.ctz 64 x:Nat))∧w'=w:=by
 obtain ⟨hlow,hk⟩:=Lib.lowest_bit 64 x hx0 hx
 obtain ⟨hi,htab⟩:=Lib.deBruijn64_at _ hk
 have hcell:=hT.1 _ hi
 rw[htab] at hcell
 exact tz_core x _ _ w (by simp;omega) (tz_key x _ hx hx0 hlow) hi hk hcell
end Go.Proofs.YtdgdhnnakcncoaaGreatDoor
