/- Of the proof of HeapClasses: texts NAw, NSn, NGa, NGb, NGd, NGe, NGg. -/
import Derived.Test.YtdgdhnnakcncoaaGreatDoorJ43
import Derived.Test.YtdgdhnnakcncoaaGreatDoorJ42
import Derived.Test.YtdgdhnnakcncoaaGreatDoorJ01
import Derived.Test.YtdgdhnnakcncoaaGreatDoorJ02
import Derived.Test.YtdgdhnnakcncoaaGreatDoorJ12
import Derived.Test.YtdgdhnnakcncoaaGreatDoorJ03
import Derived.Laws.OwnMore
import Derived.Deep.AppendLies
import Derived.Lib.SmallJoins
import Derived.Deep.RegionHeld3
import Derived.StillTailTactics
import Derived.Lib.BitFns
import Derived.Laws.Bits64b
import Derived.Laws.BitsAllLaws
import Derived.Laws.Bits128
import Derived.WalkLawsBesides
import Derived.Deep.QuietTactic
import Derived.BigQuiet
import Derived.Outline
import Derived.Carry
import Derived.ChangeSlices
namespace Go.Proofs.YtdgdhnnakcncoaaGreatDoor.N
set_option maxHeartbeats 1600000
open Go.ChangeShapes Go.WideShapes Go.ChangeAt Go.RowKit Go.Proofs.Cl Go.Shelf
set_option linter.unusedVariables false
set_option linter.unusedSimpArgs false
theorem flatC_at {l:List Cls} {i:Nat} {c:Cls} (h:l[i]? =some c):(flatC l)[i * 4]? =some (.int .i64 (c.size:Nat))∧(flatC l)[i * 4+1]? =some (.int .i64 (c.pages:Nat))∧(flatC l)[i * 4+2]? =some (.int .i64 (c.slots:Nat))∧(flatC l)[i * 4+3]? =some (.int .u32 (c.magic:Nat)):=by
 induction l generalizing i with
 |nil=>simp at h
 |cons a l ih=>
  have e:flatC (a::l)= [.int .i64 (a.size:Nat), .int .i64 (a.pages:Nat), .int .i64 (a.slots:Nat), .int .u32 (a.magic:Nat)]++flatC l:=rfl
  cases i with
  |zero=>simp at h;subst h;rw[e];exact ⟨rfl,rfl,rfl,rfl⟩
  |succ i=>
   obtain ⟨h1,h2,h3,h4⟩:=ih (i:=i) (by simpa using h)
   rw[e]
   refine ⟨?_,?_,?_,?_⟩
   ·rw[List.getElem?_append_right (by simp;omega)];simp only[List.length_cons,List.length_nil];rw[show (i+1) * 4 -(0+1+1+1+1)=i * 4 by omega];exact h1
   ·rw[List.getElem?_append_right (by simp;omega)];simp only[List.length_cons,List.length_nil];rw[show (i+1) * 4+1 -(0+1+1+1+1)=i * 4+1 by omega];exact h2
   ·rw[List.getElem?_append_right (by simp;omega)];simp only[List.length_cons,List.length_nil];rw[show (i+1) * 4+2 -(0+1+1+1+1)=i * 4+2 by omega];exact h3
   ·rw[List.getElem?_append_right (by simp;omega)];simp only[List.length_cons,List.length_nil];rw[show (i+1) * 4+3 -(0+1+1+1+1)=i * 4+3 by omega];exact h4
def ListAt (w:World) (g:Nat) (l:List Cls):Prop:=∀i c,l[i]? =some c→w.cell? ⟨g,i * 4,none⟩=some (.int .i64 (c.size:Nat))∧w.cell? ⟨g,i * 4+1,none⟩=some (.int .i64 (c.pages:Nat))∧w.cell? ⟨g,i * 4+2,none⟩=some (.int .i64 (c.slots:Nat))∧w.cell? ⟨g,i * 4+3,none⟩=some (.int .u32 (c.magic:Nat))
theorem list_at {w:World} {base g n cap:Nat} {l:List Cls} (h:w.ownsRow base 80 4 (.slice (some ⟨g,0,none⟩) n cap) n (flatC l)) (hn:n=l.length):ListAt w g l:=by
 intro i c hc
 obtain ⟨h1,h2,h3,h4⟩:=flatC_at hc
 have hi:i<l.length:=(List.getElem?_eq_some_iff.1 hc).1
 exact ⟨(h.cellAt _ (by omega)).trans h1,(h.cellAt _ (by omega)).trans h2,(h.cellAt _ (by omega)).trans h3,(h.cellAt _ (by omega)).trans h4⟩
theorem ListAt.kept {F:Nat→Prop} {w w':World} {g:Nat} {l:List Cls} (h:ListAt w g l) (k:Kept F w w') (hg:¬F g):ListAt w' g l:=by
 intro i c hc
 obtain ⟨h1,h2,h3,h4⟩:=h i c hc
 have hl:g<w.heap.size:=World.block_lt_of_cell? w ⟨g,i * 4,none⟩ h1
 have e:=k.block g hl hg
 exact ⟨(World.cell?_of_block e).trans h1,(World.cell?_of_block e).trans h2,(World.cell?_of_block e).trans h3,(World.cell?_of_block e).trans h4⟩
theorem ListAt.below {w w':World} {g:Nat} {l:List Cls} (h:ListAt w g l) (k:Below w.heap.size w w'):ListAt w' g l:=h.kept (Kept.of_below (F:=fun _=>False) k) (fun f=>f)
end Go.Proofs.YtdgdhnnakcncoaaGreatDoor.N
namespace Go.Proofs.Sn
open Go.Proofs.Bt
set_option linter.unusedVariables false
set_option linter.unusedSimpArgs false
def Small (ws:List Nat):Prop:=∀x∈ws,x<18446744073709551616
def wb (ws:List Nat) (i:Nat):Bool:=(ws.getD (i/64) 0).testBit (i%64)
def upd (u:Nat→Bool) (i:Nat) (x:Bool):Nat→Bool:=fun k=>if k=i then x else u k
theorem upd_self (u:Nat→Bool) (i:Nat) (x:Bool):upd u i x i=x:=if_pos rfl
theorem upd_ne (u:Nat→Bool) {i k:Nat} (x:Bool) (h:k≠i):upd u i x k=u k:=if_neg h
theorem wb_out {ws:List Nat} {i:Nat} (h:ws.length≤i/64):wb ws i=false:=by
 unfold wb
 rw[List.getD_eq_getElem?_getD,List.getElem?_eq_none h]
 exact Nat.zero_testBit _
theorem wb_nil (i:Nat):wb [] i=false:=wb_out (by simp)
theorem wb_zero (ws:List Nat) (i:Nat):wb (ws++ [0]) i=wb ws i:=by
 unfold wb
 rw[List.getD_eq_getElem?_getD,List.getD_eq_getElem?_getD]
 by_cases h:i/64<ws.length
 ·rw[List.getElem?_append_left h]
 ·rw[List.getElem?_append_right (by omega),List.getElem?_eq_none (l:=ws) (by omega)]
  by_cases e:i/64 - ws.length=0
  ·rw[e];rfl
  ·rw[List.getElem?_eq_none (by simp;omega)]
theorem Small.zero {ws:List Nat} (h:Small ws):Small (ws++ [0]):=by
 intro x hx
 rcases List.mem_append.1 hx with e|e
 ·exact h x e
 ·simp at e;omega
theorem Small.at {ws:List Nat} (h:Small ws) {k x:Nat} (hx:ws[k]? =some x):x<18446744073709551616:=h x (List.mem_of_getElem? hx)
theorem Small.set {ws:List Nat} (h:Small ws) {x:Nat} (hx:x<18446744073709551616) (k:Nat):Small (ws.set k x):=by
 intro y hy
 rcases List.mem_or_eq_of_mem_set hy with e|e
 ·exact h y e
 ·omega
theorem Small.nil:Small []:=fun x hx=>by cases hx
def First (u:Nat→Bool) (i k:Nat):Prop:=i≤k∧u k=false∧∀j,i≤j→j<k→u j=true
theorem First.one {u:Nat→Bool} {i k k':Nat} (h:First u i k) (h':First u i k'):k=k':=by
 rcases Nat.lt_trichotomy k k' with c|c|c
 ·have:=h'.2.2 k h.1 c;rw[h.2.1] at this;cases this
 ·exact c
 ·have:=h.2.2 k' h'.1 c;rw[h'.2.1] at this;cases this
end Go.Proofs.Sn
namespace Go.Proofs.YtdgdhnnakcncoaaGreatDoor.N
set_option maxHeartbeats 1600000
open Go.ChangeShapes Go.WideShapes Go.ChangeAt Go.RowKit Go.Proofs.Sn Go.Shelf
set_option linter.unusedVariables false
set_option linter.unusedSimpArgs false
attribute [local go_sem] Oper.semAt_some
def To (W W':World) (F F':Nat→Prop):Prop:=Kept F W W'∧∀z,F' z→F z∨W.heap.size≤z
theorem To.refl (W:World) (F:Nat→Prop):To W W F F:=⟨Kept.refl _ _,fun _ h=> .inl h⟩
theorem To.of_below {W W':World} (h:Below W.heap.size W W') (F:Nat→Prop):To W W' F F:=⟨Kept.of_below h,fun _ h=> .inl h⟩
theorem To.trans {A B C:World} {F G H:Nat→Prop} (h:To A B F G) (k:To B C G H):To A C F H:=
 ⟨h.1.trans k.1 (fun x hx g=>(h.2 x g).resolve_right (by omega)),fun z hz=>by
  rcases k.2 z hz with u|u
  ·exact h.2 z u
  ·exact .inr (Nat.le_trans h.1.size u)⟩
def encW (x:Nat):Value:= .int .u64 (x:Nat)
theorem infoW:(Tryz.prog.info? 39).map (fun i=>(i.zero,i.size,i.bytes))=some (some (.int .u64 0),1,8):=by kernel_rfl
theorem own_ge {W:World} {M e n z:Nat} {v:Value} {xs:List Value} (h:W.ownsRow M e 1 v n xs) (hz:v.ownBlock=some z):M≤z∧z<W.heap.size:=h.lt z hz
theorem words_more {X2:World} {base:Nat} {v:Value} {k:Nat} {t:List Nat} (h:X2.ownsRow base 39 1 v k (t.map encW)) (hk:k<100000) (blk:Nat) (q:Nat) (n2:X2.heap[blk]? =some (.cells #[.int .u64 (q:Nat)] 39 (0,0))) (hb:base≤X2.heap.size) (ty:TypeId):
 ∃g cap Y,(Builtin.append_ #[142,142] ty #[v, .slice (some ⟨blk,0,none⟩) 1 1]).run Tryz.prog X2= .ok (.slice (some ⟨g,0,none⟩) (k+1) cap) Y∧Y.ownsRow base 39 1 (.slice (some ⟨g,0,none⟩) (k+1) cap) (k+1) ((t++ [q]).map encW)∧Kept (fun x=>v.ownBlock=some x) X2 Y∧(v.ownBlock=some g∨X2.heap.size≤g)∧g<Y.heap.size:=by
 obtain ⟨i0,hi0,hz0,hz1,hz2⟩:=info_parts infoW
 obtain ⟨g,cap,Y,r1,o1,g1,hat,hlt⟩:=run_append_lies (P:=Tryz.prog) X2 142 ty base 39 i0 _ 1 8 Tryz.underlying142 hi0 hz0 hz1 hz2 rfl (by decide) v k (t.map encW) h ⟨blk,0,none⟩ 1 1 [.int .u64 (q:Nat)] rfl (World.news_of_block n2) (by intro u hu;simp at hu;rw[hu];rfl) (by decide) (by unfold maxLen;omega) (by omega) hb _ rfl
 refine ⟨g,cap,Y,r1,?_,Kept.of_grown g1 (fun j e=>e),?_,hlt⟩
 ·rw[List.map_append];exact o1
 ·rcases hat with e|e
  ·exact .inl e
  ·exact .inr (by omega)
def TabW (w:World):Prop:=∀j,j<64→w.cell? ⟨0,j,none⟩=some (.int .u8 (Lib.deBruijn64tab.getD j 0))
theorem TabW.lt {w:World} (h:TabW w):0<w.heap.size:=World.block_lt_of_cell? w ⟨0,0,none⟩ (h 0 (by omega))
theorem TabW.block {w w':World} (h:TabW w) (k:w'.heap[0]? =w.heap[0]?):TabW w':=fun j hj=>(World.cell?_of_block k).trans (h j hj)
theorem TabW.below {w w':World} {N:Nat} (h:TabW w) (hN:0<N) (k:Below N w w'):TabW w':=h.block (k.block 0 hN)
end Go.Proofs.YtdgdhnnakcncoaaGreatDoor.N
namespace Go.Proofs.YtdgdhnnakcncoaaGreatDoor.N
set_option maxHeartbeats 1600000
open Go.ChangeShapes Go.WideShapes Go.ChangeAt Go.RowKit Go.Proofs.Sn Go.Shelf
set_option linter.unusedVariables false
set_option linter.unusedSimpArgs false
attribute [local go_sem] Oper.semAt_some
structure Wr (N:Nat) (W:World) (v:Value) (ws:List Nat):Prop where
 row:W.ownsRow N 39 1 v ws.length (ws.map encW)
 sm:Small ws
section
variable {N:Nat} {W W':World} {v:Value} {ws:List Nat}
theorem Wr.kept {F:Nat→Prop} (h:Wr N W v ws) (k:Kept F W W') (hF:∀g,v.ownBlock=some g→¬F g):Wr N W' v ws:=⟨owns_kept h.row k hF,h.sm⟩
theorem Wr.below (h:Wr N W v ws) (k:Below W.heap.size W W'):Wr N W' v ws:=h.kept (Kept.of_below (F:=fun _=>False) k) (fun _ _ f=>f)
theorem Wr.cellAt (h:Wr N W v ws) {j x:Nat} (hx:ws[j]? =some x):∃g cap,v= .slice (some ⟨g,0,none⟩) ws.length cap∧W.cell? ⟨g,j,none⟩=some (.int .u64 (x:Nat))∧W.frozen? ⟨g,j,none⟩=false:=by
 have hj:=(List.getElem?_eq_some_iff.1 hx).1
 obtain ⟨g,cap,e,_,_⟩:=h.row.form (by omega)
 have r:=h.row
 rw[e] at r
 refine ⟨g,cap,e,?_,r.frozenAt j⟩
 rw[r.cellAt j (by omega),List.getElem?_map,hx]
 rfl
theorem Wr.put {g cap:Nat} (h:Wr N W (.slice (some ⟨g,0,none⟩) ws.length cap) ws) (j:Nat) {x:Nat} (hx:x<18446744073709551616):Wr N (W.setCell ⟨g,j,none⟩ (.int .u64 (x:Nat))) (.slice (some ⟨g,0,none⟩) ws.length cap) (ws.set j x):=by
 refine ⟨?_,h.sm.set hx j⟩
 have:=(h.row.stored j (.int .u64 (x:Nat))).1
 rw[List.length_set,List.map_set]
 exact this
structure SetI (N:Nat) (W0 W:World) (sb off:Nat) (vs:Array Value) (v0:Value) (ws0:List Nat) (q:Nat) (v:Value) (ws:List Nat):Prop where
 bk:Bk W sb 144 (vs.setIfInBounds off v)
 wr:Wr N W v ws
 eq:wb ws=wb ws0
 le:ws.length≤max ws0.length (q+1)
 n0:v.ownBlock≠some sb
 ke:Kept (fun z=>z=sb∨v0.ownBlock=some z) W0 W
 nw:∀z,v.ownBlock=some z→v0.ownBlock=some z∨W0.heap.size≤z
 hN:N≤W.heap.size
 lt:sb<W0.heap.size
theorem set_set_at (vs:Array Value) (off:Nat) (a b:Value):(vs.setIfInBounds off a).setIfInBounds off b=vs.setIfInBounds off b:=by
 apply Array.ext_getElem?
 intro i
 simp only[Array.getElem?_setIfInBounds,Array.size_setIfInBounds]
 split<;>rfl
theorem SetI.more {W0:World} {sb off:Nat} {vs:Array Value} {v0:Value} {ws0:List Nat} {q:Nat} (h:SetI N W0 W sb off vs v0 ws0 q v ws) (hq:ws.length≤q) (hk:q<100000) (ty:TypeId):
 ∃g cap Y,(Builtin.append_ #[142,142] ty #[v, .slice (some ⟨W.heap.size,0,none⟩) 1 1]).run Tryz.prog (W.alloc (.cells #[.int .u64 0] 39))= .ok (.slice (some ⟨g,0,none⟩) (ws.length+1) cap) Y∧Bk Y sb 144 (vs.setIfInBounds off v)∧
  SetI N W0 (Y.setCell ⟨sb,off,none⟩ (.slice (some ⟨g,0,none⟩) (ws.length+1) cap)) sb off vs v0 ws0 q (.slice (some ⟨g,0,none⟩) (ws.length+1) cap) (ws++ [0]):=by
 have b2:=below_alloc W (.cells #[.int .u64 0] 39)
 have n2:=World.alloc_heap_new W (.cells #[.int .u64 0] 39)
 have w2:=h.wr.below b2
 have sl:=h.bk.lt
 obtain ⟨g,cap,Y,r1,r2,r3,r4,r5⟩:=words_more w2.row (by omega) W.heap.size 0 n2 (by rw[World.size_alloc];have:=h.hN;omega) ty
 rw[World.size_alloc] at r4
 have gx:g≠sb:=by
  rcases r4 with z|z
  ·exact fun e=>h.n0 (e▸z)
  ·omega
 have kz:=kept_set (F:=fun z=>z=sb) Y sb off (.slice (some ⟨g,0,none⟩) (ws.length+1) cap) rfl
 have bkY:=(h.bk.below b2).kept r3 h.n0
 have kk:Kept (fun z=>z=sb∨v.ownBlock=some z) W (Y.setCell ⟨sb,off,none⟩ (.slice (some ⟨g,0,none⟩) (ws.length+1) cap)):=
  ((Kept.of_below b2).trans (r3.mono (G:=fun z=>z=sb∨v.ownBlock=some z) fun z hz=> .inr hz) (fun _ _ f=>f)).trans (kz.mono (G:=fun z=>z=sb∨v.ownBlock=some z) fun z hz=> .inl hz) (fun _ _ f=>f)
 refine ⟨g,cap,Y,r1,bkY,⟨?_,⟨?_,h.wr.sm.zero⟩,?_,?_,fun z=>gx (own_eq z),?_,?_,Nat.le_trans h.hN kk.size,h.lt⟩⟩
 ·have:=bkY.set off (.slice (some ⟨g,0,none⟩) (ws.length+1) cap)
  rwa[set_set_at] at this
 ·rw[List.length_append,List.length_singleton]
  exact owns_kept r2 kz (fun z hz=>by rw[←own_eq hz];exact gx)
 ·funext i;rw[wb_zero,h.eq]
 ·rw[List.length_append,List.length_singleton];omega
 ·refine h.ke.trans kk (fun x hx u=> ?_)
  rcases u with u|u
  ·exact .inl u
  ·rcases h.nw x u with y|y
   ·exact .inr y
   ·omega
 ·intro z hz
  rcases r4 with r|r
  ·rw[←own_eq hz];exact h.nw g r
  ·exact .inr (by rw[←own_eq hz];have:=h.ke.size;omega)
end
end Go.Proofs.YtdgdhnnakcncoaaGreatDoor.N
namespace Go.Proofs.YtdgdhnnakcncoaaGreatDoor.N
set_option maxHeartbeats 1600000
open Go.ChangeShapes Go.WideShapes Go.ChangeAt Go.RowKit Go.Proofs.Sn Go.Shelf
set_option linter.unusedVariables false
set_option linter.unusedSimpArgs false
attribute [local go_sem] Oper.semAt_some
structure Geo where
 base:Nat
 pages:Nat
 cls:Nat
 noptr:Bool
 elem:Nat
 slots:Nat
 magic:Nat
structure GOk (G:Geo):Prop where
 s1:G.slots≤65536
 p1:G.pages≤134217728
 e0:8≤G.elem
 e1:G.elem≤1099511627776
 b1:G.base+G.slots * G.elem≤281474976710656
 mg:G.magic=0∨(G.magic=Cl.magicN G.elem∧G.elem≤32768∧G.slots * G.elem≤131072)
structure St where
 st:Nat
 u:Nat→Bool
 m:Nat→Bool
 look:Nat
structure SOk (n:Nat) (S:St):Prop where
 su:∀i,S.u i=true→i<n
 sm:∀i,S.m i=true→i<n
 lk:S.look≤n
def cellsS (G:Geo) (st:Nat) (c:Nat) (v1 v2:Value) (look:Nat):Array Value:=
 #[.int .u64 (G.base:Nat), .int .i64 (G.pages:Nat), .int .i64 (st:Nat), .int .i64 (G.cls:Nat), .bool G.noptr, .int .i64 (G.elem:Nat), .int .i64 (G.slots:Nat), .int .i64 (c:Nat), .bool false, .bool false, .int .u32 (G.magic:Nat),v1,v2, .int .i64 (look:Nat)]
structure SpAt (N:Nat) (W:World) (sb:Nat) (v1 v2:Value) (G:Geo) (st c:Nat) (ws ms:List Nat) (look:Nat):Prop where
 bk:Bk W sb 144 (cellsS G st c v1 v2 look)
 w1:Wr N W v1 ws
 w2:Wr N W v2 ms
 x:N≤sb
 n0:v1.ownBlock≠some sb
 n1:v2.ownBlock≠some sb
 n2:∀g,v1.ownBlock=some g→v2.ownBlock≠some g
 l1:ws.length≤1024
 l2:ms.length≤1024
def ownS (sb:Nat) (v1 v2:Value) (z:Nat):Prop:=z=sb∨v1.ownBlock=some z∨v2.ownBlock=some z
section
variable {N:Nat} {W W':World} {sb:Nat} {v1 v2:Value} {G:Geo} {st c look:Nat} {ws ms:List Nat}
theorem SpAt.kept {F:Nat→Prop} (h:SpAt N W sb v1 v2 G st c ws ms look) (k:Kept F W W') (hF:∀z,ownS sb v1 v2 z→¬F z):SpAt N W' sb v1 v2 G st c ws ms look:=
 ⟨h.bk.kept k (hF _ (.inl rfl)),h.w1.kept k (fun g hg=>hF _ (.inr (.inl hg))),h.w2.kept k (fun g hg=>hF _ (.inr (.inr hg))),h.x,h.n0,h.n1,h.n2,h.l1,h.l2⟩
theorem SpAt.below (h:SpAt N W sb v1 v2 G st c ws ms look) (k:Below W.heap.size W W'):SpAt N W' sb v1 v2 G st c ws ms look:=h.kept (Kept.of_below (F:=fun _=>False) k) (fun _ _ f=>f)
theorem SpAt.own (h:SpAt N W sb v1 v2 G st c ws ms look) {z:Nat} (hz:ownS sb v1 v2 z):N≤z∧z<W.heap.size:=by
 rcases hz with rfl|hz|hz
 ·exact ⟨h.x,h.bk.lt⟩
 ·exact own_ge h.w1.row hz
 ·exact own_ge h.w2.row hz
theorem SpAt.c0 (h:SpAt N W sb v1 v2 G st c ws ms look):W.cell? ⟨sb,0,none⟩=some (.int .u64 (G.base:Nat)):=h.bk.cell 0 _ rfl
theorem SpAt.c1 (h:SpAt N W sb v1 v2 G st c ws ms look):W.cell? ⟨sb,1,none⟩=some (.int .i64 (G.pages:Nat)):=h.bk.cell 1 _ rfl
theorem SpAt.c2 (h:SpAt N W sb v1 v2 G st c ws ms look):W.cell? ⟨sb,2,none⟩=some (.int .i64 (st:Nat)):=h.bk.cell 2 _ rfl
theorem SpAt.c3 (h:SpAt N W sb v1 v2 G st c ws ms look):W.cell? ⟨sb,3,none⟩=some (.int .i64 (G.cls:Nat)):=h.bk.cell 3 _ rfl
theorem SpAt.c4 (h:SpAt N W sb v1 v2 G st c ws ms look):W.cell? ⟨sb,4,none⟩=some (.bool G.noptr):=h.bk.cell 4 _ rfl
theorem SpAt.c5 (h:SpAt N W sb v1 v2 G st c ws ms look):W.cell? ⟨sb,5,none⟩=some (.int .i64 (G.elem:Nat)):=h.bk.cell 5 _ rfl
theorem SpAt.c6 (h:SpAt N W sb v1 v2 G st c ws ms look):W.cell? ⟨sb,6,none⟩=some (.int .i64 (G.slots:Nat)):=h.bk.cell 6 _ rfl
theorem SpAt.c7 (h:SpAt N W sb v1 v2 G st c ws ms look):W.cell? ⟨sb,7,none⟩=some (.int .i64 (c:Nat)):=h.bk.cell 7 _ rfl
theorem SpAt.c8 (h:SpAt N W sb v1 v2 G st c ws ms look):W.cell? ⟨sb,8,none⟩=some (.bool false):=h.bk.cell 8 _ rfl
theorem SpAt.c9 (h:SpAt N W sb v1 v2 G st c ws ms look):W.cell? ⟨sb,9,none⟩=some (.bool false):=h.bk.cell 9 _ rfl
theorem SpAt.c11 (h:SpAt N W sb v1 v2 G st c ws ms look):W.cell? ⟨sb,11,none⟩=some (v1):=h.bk.cell 11 _ rfl
theorem SpAt.c12 (h:SpAt N W sb v1 v2 G st c ws ms look):W.cell? ⟨sb,12,none⟩=some (v2):=h.bk.cell 12 _ rfl
theorem SpAt.setCount (h:SpAt N W sb v1 v2 G st c ws ms look) (l:Nat):SpAt N (W.setCell ⟨sb,7,none⟩ (.int .i64 (l:Nat))) sb v1 v2 G st l ws ms look∧Kept (fun z=>z=sb) W (W.setCell ⟨sb,7,none⟩ (.int .i64 (l:Nat))):=by
 have k:=kept_set (F:=fun z=>z=sb) W sb 7 (.int .i64 (l:Nat)) rfl
 exact ⟨⟨h.bk.set 7 _,h.w1.kept k (fun g hg e=>h.n0 (e▸hg)),h.w2.kept k (fun g hg e=>h.n1 (e▸hg)),h.x,h.n0,h.n1,h.n2,h.l1,h.l2⟩,k⟩
theorem SpAt.setState (h:SpAt N W sb v1 v2 G st c ws ms look) (l:Nat):SpAt N (W.setCell ⟨sb,2,none⟩ (.int .i64 (l:Nat))) sb v1 v2 G l c ws ms look∧Kept (fun z=>z=sb) W (W.setCell ⟨sb,2,none⟩ (.int .i64 (l:Nat))):=by
 have k:=kept_set (F:=fun z=>z=sb) W sb 2 (.int .i64 (l:Nat)) rfl
 exact ⟨⟨h.bk.set 2 _,h.w1.kept k (fun g hg e=>h.n0 (e▸hg)),h.w2.kept k (fun g hg e=>h.n1 (e▸hg)),h.x,h.n0,h.n1,h.n2,h.l1,h.l2⟩,k⟩
theorem own_none (z:Nat):(Value.slice none 0 0).ownBlock≠some z:=by simp[Value.ownBlock]
theorem Wr.none (N:Nat) (W:World):Wr N W (.slice none 0 0) []:=⟨World.ownsRow_nil _ _ _ _,Small.nil⟩
theorem SpAt.dropUsed (h:SpAt N W sb v1 v2 G st c ws ms look):SpAt N (W.setCell ⟨sb,11,none⟩ (.slice none 0 0)) sb (.slice none 0 0) v2 G st c [] ms look∧Kept (fun z=>z=sb) W (W.setCell ⟨sb,11,none⟩ (.slice none 0 0)):=by
 have k:=kept_set (F:=fun z=>z=sb) W sb 11 (.slice none 0 0) rfl
 exact ⟨⟨h.bk.set 11 _,Wr.none _ _,h.w2.kept k (fun g hg e=>h.n1 (e▸hg)),h.x,own_none _,h.n1,fun g hg=>absurd hg (own_none _),by simp,h.l2⟩,k⟩
theorem SpAt.dropMarks (h:SpAt N W sb v1 v2 G st c ws ms look):SpAt N (W.setCell ⟨sb,12,none⟩ (.slice none 0 0)) sb v1 (.slice none 0 0) G st c ws [] look∧Kept (fun z=>z=sb) W (W.setCell ⟨sb,12,none⟩ (.slice none 0 0)):=by
 have k:=kept_set (F:=fun z=>z=sb) W sb 12 (.slice none 0 0) rfl
 exact ⟨⟨h.bk.set 12 _,h.w1.kept k (fun g hg e=>h.n0 (e▸hg)),Wr.none _ _,h.x,h.n0,own_none _,fun g hg=>own_none _,h.l1,by simp⟩,k⟩
end
end Go.Proofs.YtdgdhnnakcncoaaGreatDoor.N
namespace Go.Proofs.YtdgdhnnakcncoaaGreatDoor.N
set_option maxHeartbeats 1600000
open Go.ChangeShapes Go.WideShapes Go.ChangeAt Go.RowKit Go.Proofs.Sn Go.Shelf
set_option linter.unusedVariables false
set_option linter.unusedSimpArgs false
attribute [local go_sem] Oper.semAt_some
def SpTo (N:Nat) (W W':World) (sb:Nat) (v1 v2:Value) (G:Geo) (st c:Nat) (u m:Nat→Bool) (look:Nat):Prop:=
 ∃v1' v2' ws' ms',SpAt N W' sb v1' v2' G st c ws' ms' look∧wb ws'=u∧wb ms'=m∧Kept (ownS sb v1 v2) W W'∧∀z,ownS sb v1' v2' z→ownS sb v1 v2 z∨W.heap.size≤z
section
variable {N:Nat} {W W':World} {sb:Nat} {v1 v2:Value} {G:Geo} {st c look:Nat} {ws ms:List Nat}
theorem die_ok (h:SpAt N W sb v1 v2 G st 0 ws ms look) (hs:st≠0):Calls Tryz.prog 85 #[.pointer (some ⟨sb,0,none⟩)] W fun e W'=>e= .returned (.int .i64 0)∧SpTo N W W' sb v1 v2 G 0 0 (fun _=>false) (fun _=>false) look:=by
 have y:=h.c2
 have y7:W.cell? ⟨sb,7,none⟩=some (.int .i64 0):=h.c7
 have d:((st:Int)==0)=false:=by simp;omega
 have f2:=h.bk.fz 2
 obtain ⟨s1,k1⟩:=h.setState 0
 have f11:=s1.bk.fz 11
 have y11:=s1.c11
 obtain ⟨s2,k2⟩:=s1.dropUsed
 have f12:=s2.bk.fz 12
 have y12:=s2.c12
 obtain ⟨s3,k3⟩:=s2.dropMarks
 rw[show ((0:Nat):Int)=0 from rfl] at f11 y11 s2 k2 f12 y12 s3 k3 k1
 have FIN:=hide (show SpTo N W _ sb v1 v2 G 0 0 (fun _=>false) (fun _=>false) look from ⟨_,_,_,_,s3,funext wb_nil,funext wb_nil,((k1.mono (G:=ownS sb v1 v2) fun z hz=> .inl hz).trans (k2.mono (G:=ownS sb v1 v2) fun z hz=> .inl hz) (fun _ _ f=>f)).trans (k3.mono (G:=ownS sb v1 v2) fun z hz=> .inl hz) (fun _ _ f=>f),fun z hz=>by
  rcases hz with hz|hz|hz
  ·exact .inl (.inl hz)
  ·exact absurd hz (own_none _)
  ·exact absurd hz (own_none _)⟩)
 clear h s1 s2 s3 k1 k2 k3 hs
 go_enter Tryz.func85,Tryz.ntmps85
 go_wp2_with fail
 go_ret
 exact ⟨rfl,FIN.out⟩
end
end Go.Proofs.YtdgdhnnakcncoaaGreatDoor.N
namespace Go.Proofs.YtdgdhnnakcncoaaGreatDoor.N
set_option maxHeartbeats 1600000
open Go.ChangeShapes Go.WideShapes Go.ChangeAt Go.RowKit Go.Proofs.Sn Go.Shelf
set_option linter.unusedVariables false
set_option linter.unusedSimpArgs false
attribute [local go_sem] Oper.semAt_some
def infoV (G:Geo) (st c:Nat):Value:= .agg #[.int .u64 (G.base:Nat), .int .i64 (G.pages:Nat), .int .i64 (st:Nat), .int .i64 (G.cls:Nat), .bool G.noptr, .int .i64 (G.elem:Nat), .int .i64 (G.slots:Nat), .int .i64 (c:Nat), .bool false, .bool false]
section
variable {N:Nat} {W W':World} {sb:Nat} {v1 v2:Value} {G:Geo} {st c look:Nat} {ws ms:List Nat}
theorem info_any (h:SpAt N W sb v1 v2 G st c ws ms look):Calls Tryz.prog 22 #[.pointer (some ⟨sb,0,none⟩)] W fun e W'=>e= .returned (infoV G st c)∧Below W.heap.size W W':=by
 have b:=below_alloc W (.cells #[.int .u64 0, .int .i64 0, .int .i64 0, .int .i64 0, .bool false, .int .i64 0, .int .i64 0, .int .i64 0, .bool false, .bool false] 52)
 have hb:=h.below b
 have y0:=hb.c0
 have y1:=hb.c1
 have y2:=hb.c2
 have y3:=hb.c3
 have y4:=hb.c4
 have y5:=hb.c5
 have y6:=hb.c6
 have y7:=hb.c7
 have y8:=hb.c8
 have y9:=hb.c9
 unfold infoV
 have sl:=h.bk.lt
 have ne:sb≠W.heap.size:=by omega
 clear h b hb sl
 go_enter Tryz.func22,Tryz.ntmps22
 go_wp2_with fail
 refine bodyPost_ret (v:= .agg #[.int .u64 (G.base:Nat), .int .i64 (G.pages:Nat), .int .i64 (st:Nat), .int .i64 (G.cls:Nat), .bool G.noptr, .int .i64 (G.elem:Nat), .int .i64 (G.slots:Nat), .int .i64 (c:Nat), .bool false, .bool false]) (by simp[results,Tryz.results22,go_sem]) rfl ⟨rfl,?_⟩
 first|exact below_alloc _ _|(repeat (refine Below.setCell ?_ (Nat.le_refl _) _);exact below_alloc _ _)
end
end Go.Proofs.YtdgdhnnakcncoaaGreatDoor.N
