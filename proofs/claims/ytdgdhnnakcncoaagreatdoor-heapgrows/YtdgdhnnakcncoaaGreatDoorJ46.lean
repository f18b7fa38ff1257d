/- Of the proof of HeapGrows: texts HSep, HPg, HMi, HHb. -/
import Derived.Test.YtdgdhnnakcncoaaGreatDoorJ12
import Derived.Test.YtdgdhnnakcncoaaGreatDoorJ26
import Derived.Test.YtdgdhnnakcncoaaGreatDoorJ09
import Derived.Test.YtdgdhnnakcncoaaGreatDoorJ60
import Derived.Test.YtdgdhnnakcncoaaGreatDoorJ40
import Derived.Test.YtdgdhnnakcncoaaGreatDoorJ41
import Derived.Test.YtdgdhnnakcncoaaGreatDoorJ63
import Derived.DeepKeys4
namespace Go.Proofs.YtdgdhnnakcncoaaGreatDoor
set_option maxHeartbeats 1600000
open Go.ChangeShapes Go.WideShapes Go.ChangeAt Go.RowKit
set_option linter.unusedVariables false
def To (W W':World) (F F':Nat→Prop):Prop:=Kept F W W'∧∀z,F' z→F z∨W.heap.size≤z
theorem To.of_below {W W':World} (F:Nat→Prop) (k:Below W.heap.size W W'):To W W' F F:=⟨Kept.of_below k,fun _=> .inl⟩
theorem To.trans {A B C:World} {F G H:Nat→Prop} (h:To A B F G) (k:To B C G H):To A C F H:=
 ⟨h.1.trans k.1 (fun x hx g=>(h.2 x g).elim id (fun u=>absurd hx (by omega))),fun z hz=>(k.2 z hz).elim (h.2 z) (fun u=> .inr (Nat.le_trans h.1.size u))⟩
structure Thing (N:Nat) where
 P:World→(Nat→Prop)→Prop
 kept:∀{W W':World} {F K:Nat→Prop},P W F→Kept K W W'→(∀z,F z→¬K z)→(∀z,K z→N≤z)→P W' F
 lt:∀{W:World} {F:Nat→Prop},P W F→∀z,F z→N≤z∧z<W.heap.size
structure Sep (N:Nat) (w W:World) (l:List (Thing N)):Prop where
 ex:∃F:Nat→Nat→Prop,(∀i (h:i<l.length),l[i].P W (F i))∧∀i j,i<l.length→j<l.length→i≠j→∀z,F i z→¬F j z
 be:Below N w W
 nw:N≤W.heap.size
section
variable {N:Nat} {w W W':World} {l:List (Thing N)}
theorem Sep.start (w:World):Sep w.heap.size w w []:=⟨⟨fun _ _=>False,fun i h=>absurd h (Nat.not_lt_zero _),fun i j h=>absurd h (Nat.not_lt_zero _)⟩,Below.refl _ _,Nat.le_refl _⟩
theorem Sep.read (h:Sep N w W l) (k:Below W.heap.size W W'):Sep N w W' l:=by
 obtain ⟨⟨F,a,b⟩,be,nw⟩:=h
 exact ⟨⟨F,fun i hi=>(l[i]).kept (a i hi) (Kept.of_below (F:=fun _=>False) k) (fun _ _ f=>f) (fun _ f=>f.elim),b⟩,be.trans (k.mono nw),Nat.le_trans nw k.size⟩
theorem sep_core {F:Nat→Nat→Prop} (a:∀i (h:i<l.length),l[i].P W (F i)) (b:∀i j,i<l.length→j<l.length→i≠j→∀z,F i z→¬F j z) (be:Below N w W) (nw:N≤W.heap.size)
 (i:Nat) (hi:i<l.length) (t:Thing N) {F':Nat→Prop} (p:t.P W' F') (k:To W W' (F i) F'):Sep N w W' (l.set i t):=by
 have new:∀q,q<l.length→q≠i→∀z,F' z→¬F q z:=fun q hq hqi z hz hz'=>by
  rcases k.2 z hz with u|u
  ·exact b q i hq hi hqi z hz' u
  ·have:=((l[q]).lt (a q hq) z hz').2;omega
 have low:∀z,F i z→N≤z:=fun z hz=>((l[i]).lt (a i hi) z hz).1
 refine ⟨⟨fun j=>if j=i then F' else F j,fun j hj=> ?_,fun j m hj hm hne z hz=> ?_⟩,be.trans (k.1.below nw low),Nat.le_trans nw k.1.size⟩
 ·rw[List.length_set] at hj
  by_cases c:j=i
  ·subst c;simp only[if_true,List.getElem_set_self];exact p
  ·simp only[if_neg c,List.getElem_set_ne (fun u=>c u.symm)]
   exact (l[j]).kept (a j hj) k.1 (fun z hz=>b j i hj hi c z hz) low
 ·rw[List.length_set] at hj hm
  by_cases c1:j=i
  ·have c2:m≠i:=fun u=>hne (c1.trans u.symm)
   simp only[if_pos c1] at hz;simp only[if_neg c2]
   exact new m hm c2 z hz
  ·simp only[if_neg c1] at hz
   by_cases c2:m=i
   ·simp only[if_pos c2];exact fun u=>new j hj c1 z u hz
   ·simp only[if_neg c2];exact b j m hj hm hne z hz
theorem Sep.step (h:Sep N w W l) (i:Nat) (hi:i<l.length) (t:Thing N) {f:FuncId} {args:Array Value} {R:Ending→World→Prop}
 (c:∀F,l[i].P W F→Calls Tryz.prog f args W fun e W'=>R e W'∧∃F',t.P W' F'∧To W W' F F'):Calls Tryz.prog f args W fun e W'=>R e W'∧Sep N w W' (l.set i t):=by
 obtain ⟨⟨F,a,b⟩,be,nw⟩:=h
 exact (c (F i) (a i hi)).mono fun e W' ⟨hr,F',p',k⟩=>⟨hr,sep_core a b be nw i hi t p' k⟩
theorem Sep.turn (h:Sep N w W l) (i:Nat) (hi:i<l.length) (t:Thing N) (c:∀F,l[i].P W F→∃F',t.P W' F'∧To W W' F F'):Sep N w W' (l.set i t):=by
 obtain ⟨⟨F,a,b⟩,be,nw⟩:=h
 obtain ⟨F',p',k⟩:=c (F i) (a i hi)
 exact sep_core a b be nw i hi t p' k
theorem Sep.have (h:Sep N w W l) (i:Nat) (hi:i<l.length):∃F,l[i].P W F:=by
 obtain ⟨⟨F,a,-⟩,-,-⟩:=h
 exact ⟨F i,a i hi⟩
theorem Sep.more (h:Sep N w W l) (k:Below W.heap.size W W') (t:Thing N) {F':Nat→Prop} (ht:t.P W' F') (n:∀z,F' z→W.heap.size≤z):Sep N w W' (l++ [t]):=by
 obtain ⟨⟨F,a,b⟩,be,nw⟩:=h
 have old:∀i (hi:i<l.length) z,F i z→z<W.heap.size:=fun i hi z hz=>((l[i]).lt (a i hi) z hz).2
 refine ⟨⟨fun j=>if j=l.length then F' else F j,fun j hj=> ?_,fun j m hj hm hne z hz=> ?_⟩,be.trans (k.mono nw),Nat.le_trans nw k.size⟩
 ·rw[List.length_append,List.length_singleton] at hj
  by_cases c:j=l.length
  ·subst c
   simp only[if_true,List.getElem_append_right (Nat.le_refl _),Nat.sub_self,List.getElem_singleton]
   exact ht
  ·simp only[if_neg c]
   rw[List.getElem_append_left (by omega)]
   exact (l[j]'(by omega)).kept (a j (by omega)) (Kept.of_below (F:=fun _=>False) k) (fun _ _ f=>f) (fun _ f=>f.elim)
 ·rw[List.length_append,List.length_singleton] at hj hm
  by_cases c1:j=l.length
  ·have c2:m≠l.length:=fun u=>hne (c1.trans u.symm)
   simp only[if_pos c1] at hz;simp only[if_neg c2]
   intro u;have:=old m (by omega) z u;have:=n z hz;omega
  ·simp only[if_neg c1] at hz
   by_cases c2:m=l.length
   ·simp only[if_pos c2];intro u;have:=old j (by omega) z hz;have:=n z u;omega
   ·simp only[if_neg c2];exact b j m (by omega) (by omega) hne z hz
theorem Sep.merge {u:Thing N} (h:Sep N w W (l++ [u])) (i:Nat) (hi:i<l.length) (t:Thing N)
 (c:∀F G,l[i].P W F→u.P W G→(∀z,F z→¬G z)→∃F',t.P W' F'∧To W W' (fun z=>F z∨G z) F'):Sep N w W' (l.set i t):=by
 obtain ⟨⟨F,a,b⟩,be,nw⟩:=h
 have len:(l++ [u]).length=l.length+1:=by simp
 have a0:∀j (hj:j<l.length),l[j].P W (F j):=fun j hj=>by
  have:=a j (by omega)
  rwa[List.getElem_append_left hj] at this
 have au:u.P W (F l.length):=by
  have:=a l.length (by omega)
  simpa using this
 obtain ⟨F',p,k⟩:=c (F i) (F l.length) (a0 i hi) au (b i l.length (by omega) (by omega) (by omega))
 have low:∀z,(F i z∨F l.length z)→N≤z:=fun z hz=>hz.elim (fun q=>((l[i]).lt (a0 i hi) z q).1) (fun q=>(u.lt au z q).1)
 have new:∀q,q<l.length→q≠i→∀z,F' z→¬F q z:=fun q hq hqi z hz hz'=>by
  rcases k.2 z hz with (x|x)|x
  ·exact b q i (by omega) (by omega) hqi z hz' x
  ·exact b q l.length (by omega) (by omega) (by omega) z hz' x
  ·have:=((l[q]).lt (a0 q hq) z hz').2;omega
 refine ⟨⟨fun j=>if j=i then F' else F j,fun j hj=> ?_,fun j m hj hm hne z hz=> ?_⟩,be.trans (k.1.below nw low),Nat.le_trans nw k.1.size⟩
 ·rw[List.length_set] at hj
  by_cases c:j=i
  ·subst c;simp only[if_true,List.getElem_set_self];exact p
  ·simp only[if_neg c,List.getElem_set_ne (fun u=>c u.symm)]
   exact (l[j]).kept (a0 j hj) k.1 (fun z hz q=>q.elim (b j i (by omega) (by omega) c z hz) (b j l.length (by omega) (by omega) (by omega) z hz)) low
 ·rw[List.length_set] at hj hm
  by_cases c1:j=i
  ·have c2:m≠i:=fun u=>hne (c1.trans u.symm)
   simp only[if_pos c1] at hz;simp only[if_neg c2]
   exact new m hm c2 z hz
  ·simp only[if_neg c1] at hz
   by_cases c2:m=i
   ·simp only[if_pos c2];exact fun u=>new j hj c1 z u hz
   ·simp only[if_neg c2];exact b j m (by omega) (by omega) hne z hz
theorem Sep.drop {u:Thing N} (h:Sep N w W (l++ [u])) (c:∀F,u.P W F→Kept F W W'):Sep N w W' l:=by
 obtain ⟨⟨F,a,b⟩,be,nw⟩:=h
 have len:(l++ [u]).length=l.length+1:=by simp
 have au:u.P W (F l.length):=by
  have:=a l.length (by omega)
  simpa using this
 have k:=c _ au
 have low:∀z,F l.length z→N≤z:=fun z hz=>(u.lt au z hz).1
 refine ⟨⟨F,fun j hj=> ?_,fun i j hi hj=>b i j (by omega) (by omega)⟩,be.trans (k.below nw low),Nat.le_trans nw k.size⟩
 have:=a j (by omega)
 rw[List.getElem_append_left hj] at this
 exact (l[j]).kept this k (b j l.length (by omega) (by omega) (by omega)) low
end
def tBk (N b:Nat) (t:TypeId) (vs:Array Value):Thing N:=⟨fun W F=>Bk W b t vs∧N≤b∧∀z,F z↔z=b,fun ⟨h,n,hF⟩ k d _=>⟨h.kept k (d b ((hF b).2 rfl)),n,hF⟩,fun ⟨h,n,hF⟩ z hz=>by rw[(hF z).1 hz];exact ⟨n,h.lt⟩⟩
theorem Sep.split {N:Nat} {w W:World} {l:List (Thing N)} (h:Sep N w W l) (i:Nat) (hi:i<l.length) (t u:Thing N) (c:∀F,l[i].P W F→∃F1 F2,t.P W F1∧u.P W F2∧(∀z,F1 z→F z)∧(∀z,F2 z→F z)∧∀z,F1 z→¬F2 z):Sep N w W (l.set i t++ [u]):=by
 obtain ⟨⟨F,a,b⟩,be,nw⟩:=h
 obtain ⟨F1,F2,p1,p2,s1,s2,d⟩:=c _ (a i hi)
 refine ⟨⟨fun j=>if j=l.length then F2 else if j=i then F1 else F j,fun j hj=> ?_,fun j m hj hm hne z hz=> ?_⟩,be,nw⟩
 ·rw[List.length_append,List.length_set,List.length_singleton] at hj
  by_cases e:j=l.length
  ·subst e
   simp only[if_true]
   rw[List.getElem_append_right (by rw[List.length_set];exact Nat.le_refl _)]
   simpa using p2
  ·simp only[if_neg e]
   rw[List.getElem_append_left (by rw[List.length_set];omega)]
   by_cases e2:j=i
   ·subst e2;simp only[if_true,List.getElem_set_self];exact p1
   ·simp only[if_neg e2,List.getElem_set_ne (fun u=>e2 u.symm)];exact a j (by omega)
 ·rw[List.length_append,List.length_set,List.length_singleton] at hj hm
  have key:∀q,q<l.length→q≠i→∀z,F q z→¬F i z:=fun q hq hqi z hz=>b q i hq hi hqi z hz
  by_cases e:j=l.length<;>by_cases e2:m=l.length
  ·omega
  ·simp only[if_pos e] at hz;simp only[if_neg e2]
   by_cases e3:m=i
   ·simp only[if_pos e3];exact fun u=>d z u hz
   ·simp only[if_neg e3];exact fun u=>key m (by omega) e3 z u (s2 z hz)
  ·simp only[if_neg e] at hz;simp only[if_pos e2]
   by_cases e3:j=i
   ·simp only[if_pos e3] at hz;exact d z hz
   ·simp only[if_neg e3] at hz;exact fun u=>key j (by omega) e3 z hz (s2 z u)
  ·simp only[if_neg e] at hz;simp only[if_neg e2]
   by_cases e3:j=i<;>by_cases e4:m=i
   ·omega
   ·simp only[if_pos e3] at hz;simp only[if_neg e4];exact fun u=>key m (by omega) e4 z u (s1 z hz)
   ·simp only[if_neg e3] at hz;simp only[if_pos e4];exact fun u=>key j (by omega) e3 z hz (s1 z u)
   ·simp only[if_neg e3] at hz;simp only[if_neg e4];exact b j m (by omega) (by omega) hne z hz
theorem Sep.pick {N:Nat} {w W:World} {l l':List (Thing N)} (h:Sep N w W l) (σ:Nat→Nat) (e:∀i,i<l'.length→σ i<l.length∧l'[i]? =l[σ i]?) (inj:∀i j,i<l'.length→j<l'.length→σ i=σ j→i=j):Sep N w W l':=by
 obtain ⟨⟨F,a,b⟩,be,nw⟩:=h
 refine ⟨⟨fun i=>F (σ i),fun i hi=> ?_,fun i j hi hj hne=>b _ _ (e i hi).1 (e j hj).1 (fun z=>hne (inj i j hi hj z))⟩,be,nw⟩
 obtain ⟨h1,h2⟩:=e i hi
 have:=a (σ i) h1
 rw[List.getElem?_eq_getElem hi,List.getElem?_eq_getElem h1] at h2
 rw[Option.some.inj h2];exact this
theorem Sep.last {N:Nat} {w W:World} {l:List (Thing N)} {t:Thing N} (h:Sep N w W (l++ [t])):∃F,t.P W F:=by
 obtain ⟨F,p⟩:=h.have l.length (by simp)
 exact ⟨F,by simpa using p⟩
theorem Sep.turn_last {N:Nat} {w W W':World} {l:List (Thing N)} {t:Thing N} (h:Sep N w W (l++ [t])) (t':Thing N) (c:∀F,t.P W F→∃F',t'.P W' F'∧To W W' F F'):Sep N w W' (l++ [t']):=by
 have:=h.turn l.length (by simp) t' (fun F p=>c F (by simpa using p))
 simpa using this
abbrev Bx:=Nat×TypeId×Array Value
def tFr (N:Nat) (bs:List Bx):Thing N where
 P W F:=(∀(i b:Nat) t vs,bs[i]? =some (b,t,vs)→Bk W b t vs∧N≤b)∧(∀(i j b:Nat) t vs t' vs',bs[i]? =some (b,t,vs)→bs[j]? =some (b,t',vs')→i=j)∧∀z,F z↔∃(i:Nat) (t:TypeId) (vs:Array Value),bs[i]? =some (z,t,vs)
 kept:=fun ⟨h,i,f⟩ k d _=>⟨fun j b t vs e=>⟨(h j b t vs e).1.kept k (d b ((f b).2 ⟨j,t,vs,e⟩)),(h j b t vs e).2⟩,i,f⟩
 lt:=fun ⟨h,i,f⟩ z hz=>by obtain ⟨j,t,vs,e⟩:=(f z).1 hz;exact ⟨(h j z t vs e).2,(h j z t vs e).1.lt⟩
section
variable {N:Nat} {w W W':World} {l:List (Thing N)} {bs:List Bx}
theorem Sep.fr (h:Sep N w W l):Sep N w W (l++ [tFr N []]):=
 h.more (Below.refl _ _) _ (F':=fun _=>False) ⟨fun i b t vs e=>by simp at e,fun i j b t vs t' vs' e=>by simp at e,fun z=>⟨fun f=>f.elim,fun ⟨i,t,vs,e⟩=>by simp at e⟩⟩ (fun z hz=>hz.elim)
theorem Sep.unfr (h:Sep N w W (l++ [tFr N bs])):Sep N w W l:=h.drop fun F p=>Kept.refl _ _
theorem Sep.fget (h:Sep N w W (l++ [tFr N bs])) (i:Nat) {b:Nat} {t:TypeId} {vs:Array Value} (e:bs[i]? =some (b,t,vs)):Bk W b t vs:=by
 obtain ⟨F,p⟩:=h.last
 exact (p.1 i b t vs e).1
theorem Sep.fnew (h:Sep N w W (l++ [tFr N bs])) (vs:Array Value) (t:TypeId):Sep N w (W.alloc (.cells vs t)) (l++ [tFr N (bs++ [(W.heap.size,t,vs)])]):=by
 refine h.turn_last _ fun F p=> ?_
 obtain ⟨p1,p2,p3⟩:=p
 have k:Below W.heap.size W (W.alloc (.cells vs t)):=(Below.refl _ _).alloc (Nat.le_refl _) _
 have cs:∀(i b:Nat) t' vs',(bs++ [(W.heap.size,t,vs)])[i]? =some (b,t',vs')→(bs[i]? =some (b,t',vs'))∨(i=bs.length∧b=W.heap.size∧t'=t∧vs'=vs):=fun i b t' vs' e=>by
  by_cases c:i<bs.length
  ·rw[List.getElem?_append_left c] at e;exact .inl e
  ·rw[List.getElem?_append_right (by omega)] at e
   by_cases d:i - bs.length=0
   ·rw[d] at e
    simp only[List.getElem?_cons_zero,Option.some.injEq,Prod.mk.injEq] at e
    exact .inr ⟨by omega,e.1.symm,e.2.1.symm,e.2.2.symm⟩
   ·rw[List.getElem?_eq_none (by simp;omega)] at e;cases e
 refine ⟨fun z=>F z∨z=W.heap.size,⟨fun i b t' vs' e=> ?_,fun i j b t1 v1 t2 v2 e1 e2=> ?_,fun z=>⟨fun q=> ?_,fun ⟨i,t',vs',e⟩=> ?_⟩⟩,Kept.of_below k,fun z hz=>hz.imp id (fun e=>by omega)⟩
 ·rcases cs i b t' vs' e with c|⟨_,rfl,rfl,rfl⟩
  ·exact ⟨(p1 i b t' vs' c).1.below k,(p1 i b t' vs' c).2⟩
  ·exact ⟨World.alloc_heap_new W _,h.nw⟩
 ·have lt:∀(i b:Nat) t' vs',bs[i]? =some (b,t',vs')→b<W.heap.size:=fun i b t' vs' e=>(p1 i b t' vs' e).1.lt
  rcases cs i b t1 v1 e1 with c|⟨a1,a2,_,_⟩<;>rcases cs j b t2 v2 e2 with d|⟨b1,b2,_,_⟩
  ·exact p2 i j b t1 v1 t2 v2 c d
  ·have:=lt _ _ _ _ c;omega
  ·have:=lt _ _ _ _ d;omega
  ·omega
 ·rcases q with q|rfl
  ·obtain ⟨i,t',vs',e⟩:=(p3 z).1 q
   exact ⟨i,t',vs',by rw[List.getElem?_append_left (List.getElem?_eq_some_iff.1 e).1];exact e⟩
  ·exact ⟨bs.length,t,vs,by simp⟩
 ·rcases cs i z t' vs' e with c|⟨_,rfl,_,_⟩
  ·exact .inl ((p3 z).2 ⟨i,t',vs',c⟩)
  ·exact .inr rfl
theorem Sep.fset (h:Sep N w W (l++ [tFr N bs])) (i:Nat) {b:Nat} {t:TypeId} {vs:Array Value} (e:bs[i]? =some (b,t,vs)) (k:Nat) (v:Value):Sep N w (W.setCell ⟨b,k,none⟩ v) (l++ [tFr N (bs.set i (b,t,vs.setIfInBounds k v))]):=by
 refine h.turn_last _ fun F p=> ?_
 obtain ⟨p1,p2,p3⟩:=p
 have hi:=(List.getElem?_eq_some_iff.1 e).1
 have cs:∀(j x:Nat) t' vs',(bs.set i (b,t,vs.setIfInBounds k v))[j]? =some (x,t',vs')→(j≠i∧bs[j]? =some (x,t',vs'))∨(j=i∧x=b∧t'=t∧vs'=vs.setIfInBounds k v):=fun j x t' vs' q=>by
  by_cases c:j=i
  ·subst c
   rw[List.getElem?_set_self hi] at q
   simp only[Option.some.injEq,Prod.mk.injEq] at q
   exact .inr ⟨rfl,q.1.symm,q.2.1.symm,q.2.2.symm⟩
  ·rw[List.getElem?_set_ne (fun u=>c u.symm)] at q;exact .inl ⟨c,q⟩
 have nm:∀(j x:Nat) t' vs',(bs.set i (b,t,vs.setIfInBounds k v))[j]? =some (x,t',vs')→∃t2 v2,bs[j]? =some (x,t2,v2):=fun j x t' vs' q=>by
  rcases cs j x t' vs' q with ⟨_,c⟩|⟨rfl,rfl,_,_⟩
  ·exact ⟨_,_,c⟩
  ·exact ⟨_,_,e⟩
 refine ⟨F,⟨fun j x t' vs' q=> ?_,fun j m x t1 v1 t2 v2 e1 e2=> ?_,fun z=>⟨fun q=> ?_,fun ⟨j,t',vs',q⟩=> ?_⟩⟩,kept_set W b k v ((p3 b).2 ⟨i,t,vs,e⟩),fun z hz=> .inl hz⟩
 ·rcases cs j x t' vs' q with ⟨c,d⟩|⟨rfl,rfl,rfl,rfl⟩
  ·exact ⟨(p1 j x t' vs' d).1.other (fun z=>c (by rw[z] at d;exact p2 j i b t' vs' t vs d e)) k v,(p1 j x t' vs' d).2⟩
  ·exact ⟨(p1 j _ _ vs e).1.set k v,(p1 j _ _ vs e).2⟩
 ·obtain ⟨_,_,c⟩:=nm j x t1 v1 e1
  obtain ⟨_,_,d⟩:=nm m x t2 v2 e2
  exact p2 j m x _ _ _ _ c d
 ·obtain ⟨j,t',vs',c⟩:=(p3 z).1 q
  by_cases d:j=i
  ·subst d
   rw[e] at c
   simp only[Option.some.injEq,Prod.mk.injEq] at c
   exact ⟨j,t,_,by rw[List.getElem?_set_self hi,c.1]⟩
  ·exact ⟨j,t',vs',by rw[List.getElem?_set_ne (fun u=>d u.symm)];exact c⟩
 ·obtain ⟨_,_,c⟩:=nm j z t' vs' q
  exact (p3 z).2 ⟨j,_,_,c⟩
end
theorem Bk.row3 {W:World} {b:Nat} {t:TypeId} {x y z:Value} (h:Bk W b t #[x,y,z]):W.cell? ⟨b,0,none⟩=some x∧W.cell? ⟨b,1,none⟩=some y∧W.cell? ⟨b,2,none⟩=some z∧W.frozen? ⟨b,0,none⟩=false∧W.frozen? ⟨b,1,none⟩=false∧W.frozen? ⟨b,2,none⟩=false:=
 ⟨h.cell 0 _ rfl,h.cell 1 _ rfl,h.cell 2 _ rfl,h.fz 0,h.fz 1,h.fz 2⟩
theorem Sep.frow {N:Nat} {w W:World} {l:List (Thing N)} {bs:List Bx} (h:Sep N w W (l++ [tFr N bs])) (i:Nat) {b:Nat} {t:TypeId} {x y z:Value} (e:bs[i]? =some (b,t,#[x,y,z])) (p n r:Value):
 Sep N w (((W.setCell ⟨b,0,none⟩ p).setCell ⟨b,1,none⟩ n).setCell ⟨b,2,none⟩ r) (l++ [tFr N (bs.set i (b,t,#[p,n,r]))]):=by
 have hi:=(List.getElem?_eq_some_iff.1 e).1
 have h1:=h.fset i e 0 p
 have h2:=h1.fset i (List.getElem?_set_self hi) 1 n
 have h3:=h2.fset i (List.getElem?_set_self (by rw[List.length_set];exact hi)) 2 r
 rw[List.set_set,List.set_set] at h3
 exact h3
end Go.Proofs.YtdgdhnnakcncoaaGreatDoor
namespace Go.Proofs.YtdgdhnnakcncoaaGreatDoor
set_option maxHeartbeats 1600000
open Go.ChangeShapes Go.WideShapes Go.ChangeAt Go.RowKit Go.Proofs.Bt Go.Shelf Go.Proofs.Rx Go.Maps Go.Proofs.Pk
set_option linter.unusedVariables false
set_option linter.unusedSimpArgs false
abbrev CC:=Nat→Nat×Nat×Nat
def CsAt (N k:Nat) (cb:Nat→Nat) (c:CC) (W:World):Prop:=(∀p,p<k→CcAt W (cb p) (c p).1 (c p).2.1 (c p).2.2∧N≤cb p)∧∀p q,p<k→q<k→cb p=cb q→p=q
theorem tree_sub {B:Nat} {O O':Nat→Prop} {W:World} {tb:Nat} {st:Nat→Nat} (h:TreeE B O W tb st) (s:∀x,O' x→O x):TreeE B O' W tb st:=by
 obtain ⟨T,L,C,a,b,t,o⟩:=h
 exact ⟨T,L,C,a,b,t,fun x hx=>o x (s x hx)⟩
theorem tree_keeps {N:Nat} {F K:Nat→Prop} {W W':World} {tb:Nat} {st:Nat→Nat} (h:TreeE N (fun x=>N≤x∧x<W.heap.size∧¬F x) W tb st) (k:Kept K W W') (d:∀z,F z→¬K z) (n:∀z,K z→N≤z):
 TreeE N (fun x=>N≤x∧x<W'.heap.size∧¬F x) W' tb st:=by
 obtain ⟨T,L,C,a,b,t,o⟩:=h
 have k':=k.cut
 refine ⟨T,L,C,a,b,⟨t.rad.kept k' (fun x hx=>⟨(o x ⟨n x hx.1,hx.2,fun f=>d x f hx.1⟩).1,b▸n x hx.1⟩),t.good,t.four,t.out⟩,fun x hx=>⟨?_,hx.1,hx.2.1⟩⟩
 intro f
 exact (o x ⟨hx.1,t.rad.lt f,hx.2.2⟩).1 f
def PgF (F0 F:Nat→Prop) (k:Nat) (cb:Nat→Nat):Prop:=(∀z,F z↔F0 z∨∃p,p<k∧z=cb p)∧∀p,p<k→¬F0 (cb p)
def tPg (N tb:Nat) (cb:Nat→Nat) (k:Nat) (st:Nat→Nat) (c:CC):Thing N where
 P W F:=(∃F0:Nat→Prop,TreeE N (fun x=>N≤x∧x<W.heap.size∧¬F0 x) W tb st∧(∀z,F0 z→N≤z∧z<W.heap.size)∧PgF F0 F k cb)∧CsAt N k cb c W
 kept:=fun {W W' F K} ⟨⟨F0,t,l,f⟩,cs⟩ kk d n=>by
  have d0:∀z,F0 z→¬K z:=fun z hz=>d z ((f.1 z).2 (.inl hz))
  exact ⟨⟨F0,tree_keeps t kk d0 n,fun z hz=>⟨(l z hz).1,Nat.lt_of_lt_of_le (l z hz).2 kk.size⟩,f⟩,fun p hp=>⟨(cs.1 p hp).1.kept kk (d _ ((f.1 _).2 (.inr ⟨p,hp,rfl⟩))),(cs.1 p hp).2⟩,cs.2⟩
 lt:=fun {W F} ⟨⟨F0,t,l,f⟩,cs⟩ z hz=>by
  rcases (f.1 z).1 hz with u|⟨p,hp,rfl⟩
  ·exact l z u
  ·exact ⟨(cs.1 p hp).2,(cs.1 p hp).1.lt⟩
section
variable {N tb k:Nat} {cb:Nat→Nat} {st st':Nat→Nat} {c c':CC} {W W':World} {F:Nat→Prop}
theorem pg_use (h:(tPg N tb cb k st c).P W F):∃O,T9 N O W W tb st∧(∀x,O x→N≤x∧x<W.heap.size)∧(∀p,p<k→O (cb p))∧CsAt N k cb c W∧
 ∀W' st' c',T9 N O W W' tb st'→Kept (fun x=>N≤x∧(¬O x∨∃p,p<k∧x=cb p)) W W'→CsAt N k cb c' W'→∃F',(tPg N tb cb k st' c').P W' F'∧To W W' F F':=by
 obtain ⟨⟨F0,t,l,f⟩,cs⟩:=h
 refine ⟨_,⟨t,Below.refl _ _⟩,fun x hx=>⟨hx.1,hx.2.1⟩,fun p hp=>⟨(cs.1 p hp).2,(cs.1 p hp).1.lt,f.2 p hp⟩,cs,fun W' st' c' t' kk cs'=> ?_⟩
 have size:=kk.size
 refine ⟨fun z=>(N≤z∧z<W'.heap.size∧(F0 z∨W.heap.size≤z))∨∃p,p<k∧z=cb p,⟨⟨fun z=>N≤z∧z<W'.heap.size∧(F0 z∨W.heap.size≤z),tree_sub t'.tr (fun x hx=> ?_),fun z hz=>⟨hz.1,hz.2.1⟩,fun z=>Iff.rfl,fun p hp hz=> ?_⟩,cs'⟩,kk.cut.mono (fun x hx=> ?_),fun z hz=> ?_⟩
 ·exact ⟨hx.1,Classical.byContradiction fun u=>hx.2.2 ⟨hx.1,hx.2.1, .inr (by omega)⟩,fun u=>hx.2.2 ⟨hx.1,hx.2.1, .inl u⟩⟩
 ·rcases hz.2.2 with u|u
  ·exact f.2 p hp u
  ·have:=(cs.1 p hp).1.lt;omega
 ·obtain ⟨⟨a,b⟩,e⟩:=hx
  rcases b with b|⟨p,hp,rfl⟩
  ·exact (f.1 x).2 (.inl (Classical.byContradiction fun u=>b ⟨a,e,u⟩))
  ·exact (f.1 _).2 (.inr ⟨p,hp,rfl⟩)
 ·rcases hz with ⟨a,b,u|u⟩|⟨p,hp,rfl⟩
  ·exact .inl ((f.1 z).2 (.inl u))
  ·exact .inr u
  ·exact .inl ((f.1 _).2 (.inr ⟨p,hp,rfl⟩))
theorem CsAt.keep {K:Nat→Prop} (h:CsAt N k cb c W) (kk:Kept K W W') (d:∀p,p<k→¬K (cb p)):CsAt N k cb c W':=⟨fun p hp=>⟨(h.1 p hp).1.kept kk (d p hp),(h.1 p hp).2⟩,h.2⟩
theorem pg_tree (h:(tPg N tb cb k st c).P W F) {f:FuncId} {args:Array Value} {R:Ending→Prop} (ct:∀O,T9 N O W W tb st→Calls Tryz.prog f args W fun e W'=>R e∧T9 N O W W' tb st'∧Left9 N O W W'):
 Calls Tryz.prog f args W fun e W'=>R e∧∃F',(tPg N tb cb k st' c).P W' F'∧To W W' F F':=by
 obtain ⟨O,t,lo,co,cs,K⟩:=pg_use h
 refine (ct O t).mono fun e W' ⟨he,t',l⟩=>⟨he,K W' st' c t' (l.mono fun x hx=>⟨hx.1, .inl hx.2⟩) (cs.keep l fun p hp u=>u.2 (co p hp))⟩
theorem pg_cache (h:(tPg N tb cb k st c).P W F) {p:Nat} (hp:p<k) {B H G:Nat} (hc:c p=(B,H,G)) {B' H' G':Nat} {f:FuncId} {args:Array Value} {R:Ending→Prop}
 (ct:∀O,TC N O W W tb (cb p) st B H G→Calls Tryz.prog f args W fun e W'=>R e∧TC N O W W' tb (cb p) st' B' H' G'∧LeftC N O (cb p) W W'):
 Calls Tryz.prog f args W fun e W'=>R e∧∃F',(tPg N tb cb k st' (fun q=>if q=p then (B',H',G') else c q)).P W' F'∧To W W' F F':=by
 obtain ⟨O,t,lo,co,cs,K⟩:=pg_use h
 have c0:=(cs.1 p hp).1
 rw[hc] at c0
 refine (ct O ⟨t,c0,co p hp⟩).mono fun e W' ⟨he,t',l⟩=>⟨he,K W' st' _ t'.t (l.mono fun x hx=>⟨hx.1,hx.2.imp id fun e=>⟨p,hp,e⟩⟩) ⟨fun q hq=> ?_,cs.2⟩⟩
 by_cases e:q=p
 ·subst e
  simp only[if_true]
  exact ⟨t'.c,(cs.1 q hq).2⟩
 ·simp only[if_neg e]
  exact ⟨(cs.1 q hq).1.kept l (fun u=>u.2.elim (fun v=>v (co q hq)) (fun v=>e (cs.2 q p hq hp v))),(cs.1 q hq).2⟩
theorem pg_at (h:(tPg N tb cb k st c).P W F) {p:Nat} (hp:p<k):CcAt W (cb p) (c p).1 (c p).2.1 (c p).2.2:=(h.2.1 p hp).1
end
end Go.Proofs.YtdgdhnnakcncoaaGreatDoor
namespace Go.Proofs.YtdgdhnnakcncoaaGreatDoor
set_option maxHeartbeats 1600000
open Go.ChangeShapes Go.WideShapes Go.ChangeAt Go.RowKit Go.Shelf Go.Proofs.Rx Go.Maps
set_option linter.unusedVariables false
set_option linter.unusedSimpArgs false
def ki (p:Int):Lit:= .int .i64 p
def okI (p:Int):Prop:=-9223372036854775808≤p∧p≤9223372036854775807
theorem keyedI:Keyed Tryz.prog 3:=int_keyed Tryz.underlying3
theorem of_ki {p:Int} (h:okI p):keyOf Tryz.prog 3 (.int .i64 p)=some (ki p):=keyOf_int_mk Tryz.underlying3 (WalkArith.wf_i64 h)
theorem ki_lit (p:Int):WideAt.IsKeyLit (ki p):=trivial
theorem ki_inj {p q:Int} (h:ki p=ki q):p=q:=by simpa [ki] using h
theorem tySp:Tryz.prog.underlying 118=some (.map 3 48):=by kernel_rfl
theorem zeroSp (w:World):(zeroValue 48).run Tryz.prog w= .ok encC.zv w:=by kernel_rfl
def MapI (w:World) (b n:Nat) (M:Int→Option Nat):Prop:=
 ∃D,w.ownsMap Tryz.prog 3 encC.elem b n D∧∀p,okI p→has D (ki p)=(M p).isSome∧D.atKey (ki p) encC.zd=datO encC (M p)
section
variable {w w':World} {b n:Nat} {M:Int→Option Nat}
theorem MapI.lt (h:MapI w b n M):b<w.heap.size:=by obtain ⟨D,h,_⟩:=h;exact h.lt
theorem MapI.kept {F:Nat→Prop} (h:MapI w b n M) (hk:Kept F w w') (hF:¬F b):MapI w' b n M:=by
 have e:=hk.block b h.lt hF
 obtain ⟨D,⟨es,clock,h1,h2⟩,r⟩:=h
 exact ⟨D,⟨es,clock,e.trans h1,h2⟩,r⟩
theorem MapI.made (w:World):MapI (w.alloc (.map #[] 0)) w.heap.size 0 (fun _=>none):=⟨_,World.ownsMap_made w Tryz.prog 3 encC.elem,fun _ _=>⟨rfl,rfl⟩⟩
theorem MapI.looks (h:MapI w b n M) {p:Int} (hp:okI p):(Instr.lookup 118 (.map (some b)) (.int .i64 p) true).run Tryz.prog w= .ok (.tuple #[valO encC (M p), .bool (M p).isSome]) w:=by
 obtain ⟨D,hD,hM⟩:=h
 obtain ⟨v,ps,hrun,hv⟩:=hD.look_ok keyedI tySp (zeroSp w) (zd:=encC.zd) (zp:=[]) encC.mkz (of_ki hp)
 rw[(hM p hp).2] at hv
 rw[hrun,encC.backO hv,(hM p hp).1]
theorem MapI.put (h:MapI w b n M) (hn:n<1000000) {p:Int} (hp:okI p) (x:Nat):
 ∃w',(Instr.mapUpdate 118 (.map (some b)) (.int .i64 p) (.pointer (some ⟨x,0,none⟩))).run Tryz.prog w= .ok () w'∧MapI w' b (n+1) (fun q=>if q=p then some x else M q)∧w.grownBy w' (some b):=by
 obtain ⟨D,hD,hM⟩:=h
 obtain ⟨w',hrun,h1,h2⟩:=hD.update keyedI tySp (by unfold maxLen;omega) (of_ki hp) (val:=encC.val x) (d:=encC.dat x) (ps:=[]) (encC.mke x)
 refine ⟨w',hrun,⟨_,h1,fun q hq=> ?_⟩,h2⟩
 by_cases c:q=p
 ·subst c
  simp only[if_true]
  exact ⟨has_put_same hD.isMap (ki_lit q) _,atKey_put_same hD.isMap (ki_lit q) _ _⟩
 ·simp only[if_neg c]
  have hne:ki q≠ki p:=fun z=>c (ki_inj z)
  exact ⟨(has_put_other hne _).trans (hM q hq).1,(atKey_put_other hne _ _).trans (hM q hq).2⟩
theorem MapI.del (h:MapI w b n M) (ty:TypeId) {p:Int} (hp:okI p):
 ∃w',(Builtin.delete_ #[118,3] ty #[.map (some b), .int .i64 p]).run Tryz.prog w= .ok (.tuple #[]) w'∧MapI w' b n (fun q=>if q=p then none else M q)∧w.grownBy w' (some b):=by
 obtain ⟨D,hD,hM⟩:=h
 obtain ⟨w',hrun,h1,h2⟩:=hD.drop keyedI tySp (of_ki hp) ty
 refine ⟨w',hrun,⟨_,h1,fun q hq=> ?_⟩,h2.grown⟩
 by_cases c:q=p
 ·subst c
  simp only[if_true]
  exact ⟨has_del_same,atKey_del_same _⟩
 ·simp only[if_neg c]
  have hne:ki q≠ki p:=fun z=>c (ki_inj z)
  exact ⟨(has_del_other hne).trans (hM q hq).1,(atKey_del_other hne _).trans (hM q hq).2⟩
end
end Go.Proofs.YtdgdhnnakcncoaaGreatDoor
namespace Go.Proofs.YtdgdhnnakcncoaaGreatDoor
set_option maxHeartbeats 1600000
open Go.ChangeShapes Go.WideShapes Go.ChangeAt Go.RowKit Go.Proofs.Bt Go.Shelf Go.Proofs.Rx Go.Maps Go.Proofs.Pk
set_option linter.unusedVariables false
set_option linter.unusedSimpArgs false
structure HbAt (W:World) (hb:Nat) (v0 v1 v2 v3 v4:Value) (cv:Nat→Value) (bh gr he:Nat):Prop where
 c0:W.cell? ⟨hb,0,none⟩=some v0
 c1:W.cell? ⟨hb,1,none⟩=some v1
 c2:W.cell? ⟨hb,2,none⟩=some v2
 c3:W.cell? ⟨hb,3,none⟩=some v3
 cc:∀p,p<64→W.cell? ⟨hb,4+p,none⟩=some (cv p)
 c4:W.cell? ⟨hb,68,none⟩=some v4
 c5:W.cell? ⟨hb,69,none⟩=some (.int .u64 (bh:Nat))
 c6:W.cell? ⟨hb,70,none⟩=some (.int .u64 (gr:Nat))
 c7:W.cell? ⟨hb,71,none⟩=some (.int .u64 (he:Nat))
 fz:∀j,W.frozen? ⟨hb,j,none⟩=false
section
variable {W W':World} {hb:Nat} {v0 v1 v2 v3 v4:Value} {cv:Nat→Value} {bh gr he:Nat}
theorem HbAt.lt (h:HbAt W hb v0 v1 v2 v3 v4 cv bh gr he):hb<W.heap.size:=World.block_lt_of_cell? W ⟨hb,0,none⟩ h.c0
theorem HbAt.block (h:HbAt W hb v0 v1 v2 v3 v4 cv bh gr he) (e:W'.heap[hb]? =W.heap[hb]?):HbAt W' hb v0 v1 v2 v3 v4 cv bh gr he:=
 ⟨(
  cell_block e _).trans h.c0,(cell_block e _).trans h.c1,(cell_block e _).trans h.c2,(cell_block e _).trans h.c3,fun p hp=>(cell_block e _).trans (h.cc p hp),(cell_block e _).trans h.c4,(cell_block e _).trans h.c5,(cell_block e _).trans h.c6,(cell_block e _).trans h.c7,
  fun j=>by rw[←h.fz j];simp[World.frozen?,e]⟩
theorem HbAt.set (h:HbAt W hb v0 v1 v2 v3 v4 cv bh gr he) (k:Nat) (v:Value) {v3':Value} {cv':Nat→Value} {bh' gr' he':Nat}
 (e3:v3'=if k=3 then v else v3) (ec:∀p,p<64→cv' p=if k=4+p then v else cv p) (e5:Value.int .u64 (bh':Nat)=if k=69 then v else .int .u64 (bh:Nat)) (e6:Value.int .u64 (gr':Nat)=if k=70 then v else .int .u64 (gr:Nat)) (e7:Value.int .u64 (he':Nat)=if k=71 then v else .int .u64 (he:Nat))
 (hk:k=3∨4≤k∧k<68∨69≤k∧k<72):HbAt (W.setCell ⟨hb,k,none⟩ v) hb v0 v1 v2 v3' v4 cv' bh' gr' he':=by
 have key:∀(j:Nat) (x:Value),W.cell? ⟨hb,j,none⟩=some x→(W.setCell ⟨hb,k,none⟩ v).cell? ⟨hb,j,none⟩=some (if k=j then v else x):=fun j x hx=>by
  by_cases c:k=j
  ·subst c;rw[if_pos rfl];exact World.cell?_setCell_same W ⟨hb,k,none⟩ v hx
  ·rw[if_neg c,World.cell?_setCell_other W ⟨hb,k,none⟩ ⟨hb,j,none⟩ v (fun z=>c (congrArg Addr.off z))];exact hx
 have no:∀j,(j<3∨j=68)→¬k=j:=fun j hj=>by omega
 refine ⟨?_,?_,?_,?_,fun p hp=> ?_,?_,?_,?_,?_,fun j=>(World.frozen?_setCell W ⟨hb,k,none⟩ ⟨hb,j,none⟩ v).trans (h.fz j)⟩
 ·have:=key 0 _ h.c0;rwa[if_neg (no 0 (by omega))] at this
 ·have:=key 1 _ h.c1;rwa[if_neg (no 1 (by omega))] at this
 ·have:=key 2 _ h.c2;rwa[if_neg (no 2 (by omega))] at this
 ·rw[e3];exact key 3 _ h.c3
 ·rw[ec p hp];exact key _ _ (h.cc p hp)
 ·have:=key 68 _ h.c4;rwa[if_neg (no 68 (by omega))] at this
 ·rw[e5];exact key 69 _ h.c5
 ·rw[e6];exact key 70 _ h.c6
 ·rw[e7];exact key 71 _ h.c7
end
def pt (b:Nat):Value:= .pointer (some ⟨b,0,none⟩)
def tHb (N hb m tb ab:Nat) (v3:Value) (mp:Nat) (cv:Nat→Value) (bh gr he:Nat):Thing N where
 P W F:=HbAt W hb (pt m) (pt tb) (pt ab) v3 (.map (some mp)) cv bh gr he∧N≤hb∧∀z,F z↔z=hb
 kept:=fun ⟨h,n,f⟩ k d _=>⟨h.block (k.block hb h.lt (d hb ((f hb).2 rfl))),n,f⟩
 lt:=fun ⟨h,n,f⟩ z hz=>by rw[(f z).1 hz];exact ⟨n,h.lt⟩
def tVm (N m:Nat) (S:Go.Proofs.Sp.Sp) (K:Nat):Thing N where
 P W F:=V.VI W ⟨m,0,none⟩ S F K∧∀z,F z→N≤z
 kept:=fun ⟨h,n⟩ k d _=>⟨h.kept k.size (fun x hx=>k.block x (h.lt x hx) (d x hx)),n⟩
 lt:=fun ⟨h,n⟩ z hz=>⟨n z hz,h.lt z hz⟩
def tAr (N ab:Nat) (C:Nat→Bool) (V:Nat→Int):Thing N where
 P W F:=A.Ar W ab F C V∧∀z,F z→N≤z
 kept:=fun ⟨h,n⟩ k d _=>⟨h.kept k d,n⟩
 lt:=fun ⟨h,n⟩ z hz=>⟨n z hz,h.lt z hz⟩
def tFx (N fb:Nat) (L:List Bool) (B:List Nat):Thing N where
 P W F:=Go.Proofs.YtdgdhnnakcncoaaGreatDoor.F.Fx N W fb F 128 L B
 kept:=fun h k d _=>h.kept k d
 lt:=fun h z hz=>h.lt hz
structure Sg where
 page:Nat
 pages:Nat
 cls:Nat
 elem:Nat
 noptr:Bool
def sgV (g:Sg):Array Value:=N.made g.page g.pages 1 g.cls g.noptr g.elem
abbrev SpM:=Int→Option (Nat×Sg)
def SpsAt (N mp n:Nat) (Q:Int→Option Nat) (M:SpM) (W:World):Prop:=MapI W mp n Q∧N≤mp∧(∀i b g,M i=some (b,g)→Bk W b 144 (sgV g)∧N≤b∧b≠mp)∧∀i j b g g',M i=some (b,g)→M j=some (b,g')→i=j
def tSp (N mp n:Nat) (Q:Int→Option Nat) (M:SpM):Thing N where
 P W F:=SpsAt N mp n Q M W∧∀z,F z↔z=mp∨∃i g,M i=some (z,g)
 kept:=fun ⟨⟨h,a,b,c⟩,f⟩ k d _=>⟨⟨h.kept k (d _ ((f _).2 (.inl rfl))),a,fun i x g e=>⟨(b i x g e).1.kept k (d _ ((f _).2 (.inr ⟨i,g,e⟩))),(b i x g e).2⟩,c⟩,f⟩
 lt:=fun ⟨⟨h,a,b,c⟩,f⟩ z hz=>by
  rcases (f z).1 hz with rfl|⟨i,g,e⟩
  ·exact ⟨a,h.lt⟩
  ·exact ⟨(b i z g e).2.1,(b i z g e).1.lt⟩
structure HA where
 hb:Nat
 m:Nat
 tb:Nat
 ab:Nat
 fb:Nat
 mp:Nat
 cb:Nat→Nat
structure HS where
 S:Go.Proofs.Sp.Sp
 K:Nat
 st:Nat→Nat
 c:CC
 C:Nat→Bool
 V:Nat→Int
 L:List Bool
 B:List Nat
 Q:Int→Option Nat
 M:SpM
 n:Nat
 bh:Nat
 gr:Nat
 he:Nat
def HL (N:Nat) (a:HA) (x:HS) (l:List (Thing N)):List (Thing N):=
 tHb N a.hb a.m a.tb a.ab (pt a.fb) a.mp (fun p=>pt (a.cb p)) x.bh x.gr x.he::tSp N a.mp x.n x.Q x.M::tPg N a.tb a.cb 64 x.st x.c::tVm N a.m x.S x.K::tAr N a.ab x.C x.V::tFx N a.fb x.L x.B::l
theorem HL.len (N:Nat) (a:HA) (x:HS) (l:List (Thing N)):(HL N a x l).length=l.length+6:=rfl
theorem tab_sep {N:Nat} {w W:World} {l:List (Thing N)} (h:Sep N w W l) (hT:TabW w) (h2:2≤N):TabW W:=
 ⟨fun j hj=>(cell_block (h.be.block _ (by omega)) j).trans (hT.1 j hj),fun j hj=>(cell_block (h.be.block _ (by omega)) j).trans (hT.2 j hj)⟩
theorem Sep.hb {N:Nat} {a:HA} {x:HS} {w W:World} {l:List (Thing N)} (h:Sep N w W (HL N a x l)):HbAt W a.hb (pt a.m) (pt a.tb) (pt a.ab) (pt a.fb) (.map (some a.mp)) (fun p=>pt (a.cb p)) x.bh x.gr x.he:=by
 obtain ⟨F,p,-⟩:=h.have 0 (by rw[HL.len];omega)
 exact p
section
variable {N:Nat} {a:HA} {x:HS} {w W:World} {l:List (Thing N)}
theorem Sep.hturn (h:Sep N w W (HL N a x l)) (k:Nat) (v:Value) (bh gr he:Nat) (e5:Value.int .u64 (bh:Nat)=if k=69 then v else .int .u64 (x.bh:Nat)) (e6:Value.int .u64 (gr:Nat)=if k=70 then v else .int .u64 (x.gr:Nat)) (e7:Value.int .u64 (he:Nat)=if k=71 then v else .int .u64 (x.he:Nat))
 (hk:69≤k∧k<72):Sep N w (W.setCell ⟨a.hb,k,none⟩ v) (HL N a {x with bh:=bh,gr:=gr,he:=he} l):=
 h.turn 0 (by rw[HL.len];omega) (tHb N a.hb a.m a.tb a.ab (pt a.fb) a.mp (fun p=>pt (a.cb p)) bh gr he) fun F p=>by
  obtain ⟨p1,p2,p3⟩:(tHb N a.hb a.m a.tb a.ab (pt a.fb) a.mp (fun p=>pt (a.cb p)) x.bh x.gr x.he).P W F:=p
  exact ⟨F,⟨p1.set k v (by rw[if_neg (by omega)]) (fun p hp=>by rw[if_neg (by omega)]) e5 e6 e7 (.inr (.inr hk)),p2,p3⟩,kept_set W a.hb k v ((p3 a.hb).2 rfl),fun z hz=> .inl hz⟩
theorem Sep.set_bh (h:Sep N w W (HL N a x l)) (v:Nat):Sep N w (W.setCell ⟨a.hb,69,none⟩ (.int .u64 (v:Nat))) (HL N a {x with bh:=v} l):=h.hturn 69 _ v x.gr x.he rfl rfl rfl (by omega)
theorem Sep.set_gr (h:Sep N w W (HL N a x l)) (v:Nat):Sep N w (W.setCell ⟨a.hb,70,none⟩ (.int .u64 (v:Nat))) (HL N a {x with gr:=v} l):=h.hturn 70 _ x.bh v x.he rfl rfl rfl (by omega)
theorem Sep.set_he (h:Sep N w W (HL N a x l)) (v:Nat):Sep N w (W.setCell ⟨a.hb,71,none⟩ (.int .u64 (v:Nat))) (HL N a {x with he:=v} l):=h.hturn 71 _ x.bh x.gr v rfl rfl rfl (by omega)
end
end Go.Proofs.YtdgdhnnakcncoaaGreatDoor
