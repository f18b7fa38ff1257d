/- Of the proof of HeapClasses: texts VOps. -/
import Derived.Laws.CopyOwn
import Derived.Laws.AppendOwn
import Derived.Laws.Externs
import Derived.Deep.AppendLies
import Derived.Laws.AppendOwnNone
import Derived.Tactics
namespace Go
set_option linter.unusedVariables false
set_option linter.unusedSimpArgs false
open Go.RowKit
set_option linter.unusedVariables false
set_option linter.unusedSimpArgs false
theorem run_copy_sized {P:Program} (w:World) (dT sT ty elem:TypeId) (size:Nat) (g o dLen dCap:Nat) (a:Addr) (sLen sCap:Nat) (cur:Array Value) (t:TypeId) (cs:List Value)
 (hu:P.underlying dT=some (.slice elem)) (hs:(P.info? elem).map (·.size)=some size)
 (hg:w.heap[g]? =some (.cells cur t (0,0))) (hn:cs.length=Nat.min sLen dLen * size)
 (hsrc:∀j v,cs[j]? =some v→w.cell? (a.add j)=some v) (hfit:o+cs.length≤cur.size) (h1:∀v∈cs,v.oneCell'=true):
 (Builtin.copy_ #[dT,sT] ty #[.slice (some ⟨g,o,none⟩) dLen dCap, .slice (some a) sLen sCap]).run P w=
  .ok (goInt (Nat.min sLen dLen)) (w.setRow g (cur.toList.take o++cs++cur.toList.drop (o+cs.length)).toArray):=by
 have hl:=run_loadCells_list (P:=P) w a cs hsrc
 have hst:=run_storeCells_at P g o t cs 0 cur w hg (by simpa using hfit) h1
 cases hq:P.info? elem with
 |none=>simp[hq] at hs
 |some i=>
  have hi:i.size=size:=by simpa [hq] using hs
  simp[Builtin.copy_,run_underlying hu,Builtin.lenOf,Builtin.firstCells,sizeOf,typeInfo,hq,hi,←hn,hl,hst]
theorem run_clear_sized {P:Program} (w:World) (dT ty elem:TypeId) (g o n cap:Nat) (cur:Array Value) (t:TypeId) (z:Value)
 (hu:P.underlying dT=some (.slice elem)) (hz:(zeroValue elem).run P w= .ok z w) (h0:0<n)
 (hg:w.heap[g]? =some (.cells cur t (0,0))) (hfit:o+n * z.cells.size≤cur.size) (h1:∀v∈(Builtin.zeroCells z.cells n).toList,v.oneCell'=true):
 (Builtin.clear_ #[dT] ty #[.slice (some ⟨g,o,none⟩) n cap]).run P w=
  .ok (.tuple #[]) (w.setRow g (cur.toList.take o++(Builtin.zeroCells z.cells n).toList++cur.toList.drop (o+n * z.cells.size)).toArray):=by
 have hst:=run_storeCells_at P g o t (Builtin.zeroCells z.cells n).toList 0 cur w hg (by simpa [size_zeroCells] using hfit) h1
 obtain ⟨m,rfl⟩:∃m,n=m+1:=⟨n - 1,by omega⟩
 simp only[Nat.add_zero] at hst
 have hl:(Builtin.zeroCells z.cells (m+1)).toList.length=(m+1) * z.cells.size:=by simp[size_zeroCells]
 rw[hl] at hst
 simp[Builtin.clear_,run_underlying hu,hz,hst,Result.andThen]
theorem run_copy_nothing {P:Program} (w:World) (dT sT ty elem:TypeId) (size:Nat) (d a:Option Addr) (dLen dCap sLen sCap:Nat) (hu:P.underlying dT=some (.slice elem)) (hs:(P.info? elem).map (·.size)=some size) (hn:Nat.min sLen dLen=0):
 (Builtin.copy_ #[dT,sT] ty #[.slice d dLen dCap, .slice a sLen sCap]).run P w= .ok (goInt (Nat.min sLen dLen)) w:=by
 cases hq:P.info? elem with
 |none=>simp[hq] at hs
 |some i=>
  have hl:∀(x:Addr),(loadCells x 0).run P w= .ok #[] w:=fun x=>by simpa using run_loadCells_list (P:=P) w x [] (by simp)
  cases d<;>cases a<;>simp[Builtin.copy_,run_underlying hu,Builtin.lenOf,Builtin.firstCells,sizeOf,typeInfo,hq,hn,storeCells,hl]
theorem run_copy_splice {P:Program} (w:World) (dT sT ty elem:TypeId) (size:Nat) (hu:P.underlying dT=some (.slice elem)) (hs:(P.info? elem).map (·.size)=some size)
 (dp sp:Option Addr) (dLen dCap sLen sCap:Nat) (g off:Nat) (cur:List Value) (t:TypeId) (hg:w.heap[g]? =some (.cells cur.toArray t (0,0))) (cs:List Value) (hn:cs.length=Nat.min sLen dLen * size) (hsz:0<size)
 (hpos:0<Nat.min sLen dLen→dp=some ⟨g,off,none⟩∧∃ad,sp=some ad∧∀j v,cs[j]? =some v→w.cell? (ad.add j)=some v)
 (hfit:off+cs.length≤cur.length) (h1:∀v∈cs,v.oneCell'=true):
 ∃w',(Builtin.copy_ #[dT,sT] ty #[.slice dp dLen dCap, .slice sp sLen sCap]).run P w= .ok (goInt (Nat.min sLen dLen)) w'∧w'.heap[g]? =some (.cells (splice cur off cs).toArray t (0,0))∧w.grownBy w' (some g):=by
 by_cases h0:Nat.min sLen dLen=0
 ·have hc:cs= []:=List.eq_nil_of_length_eq_zero (by rw[hn,h0,Nat.zero_mul])
  subst hc
  exact ⟨w,run_copy_nothing w dT sT ty elem size dp sp dLen dCap sLen sCap hu hs h0,by simpa [splice] using hg,⟨rfl,rfl,rfl,Nat.le_refl _,fun _ _ _=>rfl⟩⟩
 ·obtain ⟨rfl,ad,rfl,hsrc⟩:=hpos (by omega)
  refine ⟨_,run_copy_sized w dT sT ty elem size g off dLen dCap ad sLen sCap cur.toArray t cs hu hs hg hn hsrc (by simpa using hfit) h1,?_,⟨rfl,rfl,rfl,by simp,fun k _ hk=>setRow_other w g k _ (fun e=>hk (by rw[e]))⟩⟩
  simpa [splice] using setRow_heap w g _ _ t _ hg
theorem wpList_copy_sized {P:Program} {w:World} {ops:Array Oper} {rest:List Oper} {o:Oper} {a:Act} {Q:Exit→Act→World→Prop} (hgd:o.guard=none) (d s:Operand) (dT sT:TypeId)
 (ho:o.op= .call {callee:= .builtin .copy,args:=#[d,s],argTypes:=#[dT,sT]}) (elem:TypeId) (size:Nat) (hu:P.underlying dT=some (.slice elem)) (hsz:(P.info? elem).map (·.size)=some size)
 (dp sp:Option Addr) (dLen dCap sLen sCap:Nat) (hd:a.eval d= .slice dp dLen dCap) (hs:a.eval s= .slice sp sLen sCap)
 (g off:Nat) (cur:List Value) (t:TypeId) (hg:w.heap[g]? =some (.cells cur.toArray t (0,0))) (cs:List Value) (hn:cs.length=Nat.min sLen dLen * size) (h0:0<size)
 (hpos:0<Nat.min sLen dLen→dp=some ⟨g,off,none⟩∧∃ad,sp=some ad∧∀j v,cs[j]? =some v→w.cell? (ad.add j)=some v)
 (hfit:off+cs.length≤cur.length) (h1:∀v∈cs,v.oneCell'=true)
 (h:∀w',Hid (w'.heap[g]? =some (.cells (splice cur off cs).toArray t (0,0)))→w.grownBy w' (some g)→wpList P ops Q rest (a.put o.dst (goInt (Nat.min sLen dLen))) w'):wpList P ops Q (o::rest) a w:=by
 refine wpList_plain hgd fun K hK=> ?_
 obtain ⟨w',hrun,r1,r2⟩:=run_copy_splice (P:=P) w dT sT o.type elem size hu hsz dp sp dLen dCap sLen sCap g off cur t hg cs hn h0 hpos hfit h1
 unfold Oper.wp
 simp[execOp,ho,resolve,invoke,builtin,hd,hs,hrun,Result.andThen]
 exact hK _ _ (h w' (show _=_ from r1) r2)
theorem step_copy_sized {P:Program} {w:World} {ops:Array Oper} {o:Oper} {a:Act} {K:Act→World→Prop} {Q:Exit→Act→World→Prop} {E:Prop} (hgd:o.guard=none) (d s:Operand) (dT sT:TypeId)
 (ho:o.op= .call {callee:= .builtin .copy,args:=#[d,s],argTypes:=#[dT,sT]}) (elem:TypeId) (size:Nat) (hu:P.underlying dT=some (.slice elem)) (hsz:(P.info? elem).map (·.size)=some size)
 (dp sp:Option Addr) (dLen dCap sLen sCap:Nat) (hd:a.eval d= .slice dp dLen dCap) (hs:a.eval s= .slice sp sLen sCap)
 (g off:Nat) (cur:List Value) (t:TypeId) (hg:w.heap[g]? =some (.cells cur.toArray t (0,0))) (cs:List Value) (hn:cs.length=Nat.min sLen dLen * size) (h0:0<size)
 (hpos:0<Nat.min sLen dLen→dp=some ⟨g,off,none⟩∧∃ad,sp=some ad∧∀j v,cs[j]? =some v→w.cell? (ad.add j)=some v)
 (hfit:off+cs.length≤cur.length) (h1:∀v∈cs,v.oneCell'=true)
 (h:∀w',Hid (w'.heap[g]? =some (.cells (splice cur off cs).toArray t (0,0)))→w.grownBy w' (some g)→K (a.put o.dst (goInt (Nat.min sLen dLen))) w'):
 if Region.wanted o (yielded ops a.tmps)=true then Oper.wp P o a w K Q else E:=by
 have hw:Region.wanted o (yielded ops a.tmps)=true:=by simp[Region.wanted,hgd]
 rw[if_pos hw]
 obtain ⟨w',hrun,r1,r2⟩:=run_copy_splice (P:=P) w dT sT o.type elem size hu hsz dp sp dLen dCap sLen sCap g off cur t hg cs hn h0 hpos hfit h1
 unfold Oper.wp
 simp[execOp,ho,resolve,invoke,builtin,hd,hs,hrun,Result.andThen]
 exact h w' (show _=_ from r1) r2
theorem run_clear_behind {P:Program} (w:World) (dT ty elem:TypeId) (z:Value) (hu:P.underlying dT=some (.slice elem)) (hz:(zeroValue elem).run P w= .ok z w) (hzc:∀n,∀v∈(Builtin.zeroCells z.cells n).toList,v.oneCell'=true)
 (dp:Option Addr) (n cap g off:Nat) (cur:List Value) (t:TypeId) (hg:w.heap[g]? =some (.cells cur.toArray t (0,0))) (hpos:0<n→dp=some ⟨g,off,none⟩) (hfit:off+n * z.cells.size≤cur.length):
 ∃w' cur',(Builtin.clear_ #[dT] ty #[.slice dp n cap]).run P w= .ok (.tuple #[]) w'∧w'.heap[g]? =some (.cells (List.toArray cur') t (0,0))∧cur'.length=cur.length∧cur'.take off=cur.take off∧w.grownBy w' (some g):=by
 by_cases h0:n=0
 ·subst h0
  refine ⟨w,cur,?_,hg,rfl,rfl,⟨rfl,rfl,rfl,Nat.le_refl _,fun _ _ _=>rfl⟩⟩
  cases dp<;>simp[Builtin.clear_,run_underlying hu]
 ·obtain rfl:=hpos (by omega)
  refine ⟨_,_,run_clear_sized w dT ty elem g off n cap cur.toArray t z hu hz (by omega) hg (by simpa using hfit) (hzc n),setRow_heap w g _ _ t _ hg,?_,?_,⟨rfl,rfl,rfl,by simp,fun k _ hk=>setRow_other w g k _ (fun e=>hk (by rw[e]))⟩⟩
  ·simp only[List.length_append,List.length_take,List.length_drop,Array.length_toList,size_zeroCells]
   generalize n * z.cells.size=c at *
   omega
  ·simp only[List.append_assoc]
   rw[List.take_append_of_le_length (by rw[List.length_take];generalize n * z.cells.size=c at *;omega),List.take_take]
   simp
theorem run_append_make {P:Program} (w:World) (t ti ty e:TypeId) (i:TypeInfo) (z:Value) (ht:P.underlying t=some (.slice e)) (hti:P.underlying ti=some (.int .i64)) (hi:P.info? e=some i) (hz:i.zero=some z) (hzs:z.cells.size=i.size) (hsz:0<i.size)
 (b:Addr) (n cap:Nat) (olds:List Value) (hlo:olds.length=n * i.size) (holds:∀j v,olds[j]? =some v→w.cell? (b.add j)=some v) (k:Nat) (hk:0<k) (hg:cap<n+k) (h63:n+k≤maxLen) (hbytes:(n+k) * i.bytes≤140737488355328):
 ∃c w' rest,(Builtin.append_ #[t,ti] ty #[.slice (some b) n cap, .int .i64 (k:Int)]).run P w= .ok (.slice (some ⟨w.heap.size,0,none⟩) (n+k) c) w'∧w'.heap[w.heap.size]? =some (.cells (olds++rest).toArray e (0,0))∧(olds++rest).length=c * i.size∧n+k≤c∧c≤maxLen∧w.grownBy w' none:=by
 have hn:¬(n+k≤cap):=by omega
 have h63':¬(9223372036854775807<((n:Int)+(k:Int))):=by unfold maxLen at h63;omega
 have h48':¬(281474976710656<Builtin.nextslicecap (n+k) cap * i.bytes):=by have:=growslice_fits (need:=n+k) (old:=cap) (by omega) hbytes;omega
 have hfo:=run_firstCells_some (P:=P) w.drew i.size n b n cap olds hlo (by simpa using holds)
 have hwr:IntKind.i64.wrap (k:Int)=(k:Int):=by
  rw[IntKind.wrap_i64];unfold maxLen at h63;omega
 have hkb:¬(281474976710656:Int)<(k:Int) *(i.bytes:Int):=by
  have h1:k * i.bytes≤(n+k) * i.bytes:=Nat.mul_le_mul_right _ (by omega)
  have h2:((k * i.bytes:Nat):Int)=(k:Int) *(i.bytes:Int):=by simp
  omega
 have hge:=grownCap_ge w (n+k) cap e
 have hcm:grownCap w (n+k) cap e≤maxLen:=grownCap_le_maxLen w (n+k) cap e h63
 refine ⟨grownCap w (n+k) cap e,_,(Builtin.zeroCells z.cells k).toList++(Builtin.zeroCells z.cells (grownCap w (n+k) cap e -(n+k))).toList,?_,heap_alloc_new w.drew _,?_,hge,hcm,⟨rfl,rfl,rfl,by simp,fun j hj _=>heap_alloc_old w.drew _ j hj⟩⟩
 ·simp[Builtin.append_,run_underlying ht,run_underlying hti,sizeOf,typeInfo,zeroValue,hi,hz,Builtin.lenOf,hn,h63',h48',Question.forced,hfo,newRow,grownCap,asInt,asIntOf,hwr,hkb,Result.andThen]
  rw[if_neg (by omega),if_neg (by have:=Nat.mul_pos hk hsz;omega)]
  simp only[]
  congr 3
  apply Array.ext'
  simp
 ·simp only[List.length_append,Array.length_toList,size_zeroCells,hzs,hlo,←Nat.add_mul]
  congr 1
  omega
theorem wpList_append_make {P:Program} {w:World} {ops:Array Oper} {rest:List Oper} {o:Oper} {a:Act} {Q:Exit→Act→World→Prop} (hgd:o.guard=none) (s x:Operand) (t ti:TypeId)
 (ho:o.op= .call {callee:= .builtin .append,args:=#[s,x],argTypes:=#[t,ti]}) (e:TypeId) (i:TypeInfo) (z:Value) (size bytes:Nat) (ht:P.underlying t=some (.slice e)) (hti:P.underlying ti=some (.int .i64)) (hi:P.info? e=some i) (hz:i.zero=some z)
 (hsize:i.size=size) (hby:i.bytes=bytes) (hzs:z.cells.size=size) (hsz:0<size)
 (b:Addr) (n cap:Nat) (hs:a.eval s= .slice (some b) n cap) (olds:List Value) (hlo:olds.length=n * size) (holds:∀j v,olds[j]? =some v→w.cell? (b.add j)=some v) (k:Nat) (hx:a.eval x= .int .i64 (k:Int)) (hk:0<k) (hg:cap<n+k) (h63:n+k≤maxLen) (hbytes:(n+k) * bytes≤140737488355328)
 (h:∀c w' more,Hid (w'.heap[w.heap.size]? =some (.cells (olds++more).toArray e (0,0)))→Hid ((olds++more).length=c * size)→n+k≤c→c≤maxLen→w.grownBy w' none→wpList P ops Q rest (a.put o.dst (.slice (some ⟨w.heap.size,0,none⟩) (n+k) c)) w'):wpList P ops Q (o::rest) a w:=by
 refine wpList_plain hgd fun K hK=> ?_
 subst hsize hby
 obtain ⟨c,w',more,hrun,r1,r2,r3,r4,r5⟩:=run_append_make (P:=P) w t ti o.type e i z ht hti hi hz hzs hsz b n cap olds hlo holds k hk hg h63 hbytes
 unfold Oper.wp
 simp[execOp,ho,resolve,invoke,builtin,hs,hx,hrun,Result.andThen]
 exact hK _ _ (h c w' more (show _=_ from r1) (show _=_ from r2) r3 r4 r5)
theorem run_overlaps_apart {P:Program} (w:World) (t elem:TypeId) (i:TypeInfo) (rs:Array TypeId) (ts:List TypeId) (hu:P.underlying t=some (.slice elem)) (hi:P.info? elem=some i) (a b:Option Addr) (la lb ca cb:Nat)
 (h:∀x y,a=some x→b=some y→0<la→0<lb→x.block≠y.block∧(∃c t,w.heap[x.block]? =some (.cells c t (0,0)))∧∃c t,w.heap[y.block]? =some (.cells c t (0,0))):
 (Extern.SlicesOverlaps.overlaps (t::ts).toArray rs #[.slice a la ca, .slice b lb cb]).run P w= .ok (.bool false) w:=by
 delta Extern.SlicesOverlaps.overlaps Extern.SlicesOverlaps.overlaps.match_4 Extern.SlicesOverlaps.overlaps._sparseCasesOn_4
 cases a with
 |none=>simp[Array.getLit,run_underlying hu,sizeOf,typeInfo,hi]
 |some x=>
  cases b with
  |none=>simp[Array.getLit,run_underlying hu,sizeOf,typeInfo,hi]
  |some y=>
   by_cases h0:la=0∨lb=0∨i.size=0
   ·simp[Array.getLit,run_underlying hu,sizeOf,typeInfo,hi,h0]
   ·obtain ⟨h1,⟨c1,t1,h2⟩,c2,t2,h3⟩:=h x y rfl rfl (by omega) (by omega)
    have f1:w.frozen? x=false:=by simp[World.frozen?,h2]
    have f2:w.frozen? y=false:=by simp[World.frozen?,h3]
    have hsh:∀(r:Nat),Sem.run P (shape r) w= .ok (w.shape? r) w:=fun _=>rfl
    simp[Array.getLit,run_underlying hu,sizeOf,typeInfo,hi,h0,h1,f1,f2,noView,viewAt,mayBeOne,stringish,hsh,World.shape?,h2,h3,World.frozen?,Result.andThen]
theorem wpList_append_room2 {P:Program} {w:World} {ops:Array Oper} {rest:List Oper} {o:Oper} {a:Act} {Q:Exit→Act→World→Prop} (hgd:o.guard=none) (s x:Operand) (t:TypeId)
 (ho:o.op= .call {callee:= .builtin .append,args:=#[s,x],argTypes:=#[t,t]}) (e:TypeId) (i:TypeInfo) (size:Nat) (ht:P.underlying t=some (.slice e)) (hi:P.info? e=some i) (hsize:i.size=size)
 (g n cap:Nat) (hs:a.eval s= .slice (some ⟨g,0,none⟩) n cap) (cur:List Value) (hg:w.heap[g]? =some (.cells cur.toArray e (0,0))) (ad:Addr) (m c:Nat) (hx:a.eval x= .slice (some ad) m c) (news:List Value) (hl:news.length=m * size) (hnews:∀j u,news[j]? =some u→w.cell? (ad.add j)=some u) (h1:∀u∈news,u.oneCell'=true)
 (hroom:n+m≤cap) (hfit:n * size+news.length≤cur.length)
 (h:∀w',Hid (w'.heap[g]? =some (.cells (splice cur (n * size) news).toArray e (0,0)))→w.grownBy w' (some g)→wpList P ops Q rest (a.put o.dst (.slice (some ⟨g,0,none⟩) (n+m) cap)) w'):wpList P ops Q (o::rest) a w:=by
 refine wpList_plain hgd fun K hK=> ?_
 subst hsize
 have hrun:=run_append_room (P:=P) w t o.type e i ht hi g n cap cur.toArray hg ad m c news hl hnews h1 hroom (by simpa using hfit)
 unfold Oper.wp
 simp only[execOp,ho,resolve,invoke,builtin,Sem.run_bind,Sem.run_pure,Result.andThen_ok,List.map_toArray,List.map_cons,List.map_nil,hs,hx,hrun]
 refine hK _ _ (h _ (show _=_ from ?_) ⟨rfl,rfl,rfl,by simp,fun k _ hk=>setRow_other w g k _ (fun e=>hk (by rw[e]))⟩)
 simpa [splice] using setRow_heap w g _ _ e _ hg
end Go
