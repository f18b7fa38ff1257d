/- Of the proof of HeapClasses: texts RRo, RRg. -/
import Derived.Test.YtdgdhnnakcncoaaGreatDoorJ02
import Derived.Deep.RegionHeld3
import Derived.StillTailTactics
import Derived.Maps.AppendAt
import Derived.RangeFuncNested
import Derived.RangeFuncBound
import Derived.RangeFuncCalls
import Derived.RangeFuncLeaves
import Derived.Shelf.RegionOpen
import Derived.OwnWalkIn
import Derived.TacticsInMore
import Derived.LoopNIn
import Derived.LoopIn
namespace Go.Proofs.YtdgdhnnakcncoaaGreatDoor
set_option maxHeartbeats 1600000
open Go.ChangeShapes Go.WideShapes Go.ChangeAt Go.RowKit Go.Proofs.Bt Go.Shelf
set_option linter.unusedVariables false
set_option linter.unusedSimpArgs false
structure Kept (F:Nat→Prop) (w w':World):Prop where
 os:w'.os=w.os
 tape:w'.tape=w.tape
 output:w'.output=w.output
 size:w.heap.size≤w'.heap.size
 block:∀b,b<w.heap.size→¬F b→w'.heap[b]? =w.heap[b]?
theorem Kept.refl (F:Nat→Prop) (w:World):Kept F w w:=⟨rfl,rfl,rfl,Nat.le_refl _,fun _ _ _=>rfl⟩
theorem Kept.of_below {F:Nat→Prop} {w w':World} (h:Below w.heap.size w w'):Kept F w w':=⟨h.os,h.tape,h.output,h.size,fun b hb _=>h.block b hb⟩
theorem Kept.of_grown {F:Nat→Prop} {w w':World} {row:Option Nat} (h:w.grownBy w' row) (hr:∀k,row=some k→F k):Kept F w w':=
 ⟨h.os,h.tape,h.output,h.size,fun b hb hf=>h.block b hb (fun e=>hf (hr b e.symm))⟩
theorem Kept.below {F:Nat→Prop} {w w':World} (h:Kept F w w') {B:Nat} (hB:B≤w.heap.size) (hF:∀b,F b→B≤b):Below B w w':=
 ⟨h.os,h.tape,h.output,h.size,fun k hk=>h.block k (by omega) fun hf=>by have:=hF k hf;omega⟩
theorem Kept.trans {F G:Nat→Prop} {a b c:World} (h:Kept F a b) (k:Kept G b c) (hg:∀x,x<a.heap.size→G x→F x):Kept F a c:=
 ⟨k.os.trans h.os,k.tape.trans h.tape,k.output.trans h.output,Nat.le_trans h.size k.size,fun x hx hn=>by
  rw[k.block x (Nat.lt_of_lt_of_le hx h.size) (fun z=>hn (hg x hx z))]
  exact h.block x hx hn⟩
theorem Kept.mono {F G:Nat→Prop} {a b:World} (h:Kept F a b) (hg:∀x,F x→G x):Kept G a b:=⟨h.os,h.tape,h.output,h.size,fun x hx hf=>h.block x hx fun hh=>hf (hg x hh)⟩
theorem Kept.put {F:Nat→Prop} (w:World) (l:Nat) (o:Obj) (h:F l):Kept F w (w.putObj l o):=Kept.of_grown (grownBy_putObj' w l o) (fun k e=>by cases e;exact h)
theorem kept_set {F:Nat→Prop} (w:World) (b k:Nat) (v:Value) (h:F b):Kept F w (w.setCell ⟨b,k,none⟩ v):=
 ⟨rfl,rfl,rfl,by simp,fun x _ hn=>Below.heap_setCell _ _ _ _ (fun e=>hn (by simp at e;exact e▸h))⟩
theorem kept_at {F:Nat→Prop} {A A':World} (h:Kept F A A') {k:Nat} {o:Obj} (hk:A.heap[k]? =some o) (hF:¬F k):A'.heap[k]? =some o:=(h.block k (Array.getElem?_eq_some_iff.1 hk).1 hF).trans hk
theorem cell_block {w w':World} {b:Nat} (h:w'.heap[b]? =w.heap[b]?) (k:Nat):w'.cell? ⟨b,k,none⟩=w.cell? ⟨b,k,none⟩:=by simp[World.cell?,h]
theorem TabW.lt {w:World} (h:TabW w):1<w.heap.size:=by
 have c:∀k v,w.cell? ⟨k,0,none⟩=some v→k<w.heap.size:=fun k v z=>World.block_lt_of_cell? w ⟨k,0,none⟩ z
 have:=c _ _ (h.1 0 (by omega));have:=c _ _ (h.2 0 (by omega));omega
theorem TabW.kept {F:Nat→Prop} {w w':World} (h:TabW w) (k:Kept F w w') (hF:¬F 0∧¬F 1):TabW w':=
 ⟨fun j hj=>(cell_block (k.block 0 (by have:=h.lt;omega) (by first|exact hF.1|exact hF.2)) j).trans (h.1 j hj),fun j hj=>(cell_block (k.block 1 (by have:=h.lt;omega) (by first|exact hF.1|exact hF.2)) j).trans (h.2 j hj)⟩
theorem TabW.below {w w':World} (h:TabW w) (k:Below w.heap.size w w'):TabW w':=h.kept (F:=fun _=>False) (Kept.of_below k) ⟨fun f=>f,fun f=>f⟩
theorem still_tail {P:Program} {id:Nat} {Q:Exit→Act→World→Prop} {a:Act} {w:World} {l:List Oper} (n:Nat) (hm:P.follows .mixedOrders=true) (hB:Region.lexTailB .any l.toArray n=true)
 (h:wpStill P l.toArray w.drew (fun a'=>wpList P l.toArray Q (l.drop n) a' w.drew) (l.take n) a):(Code.region id l.toArray true).wp P Q a w:=wp_region_still_tail n hm hB h
theorem still_all {P:Program} {id:Nat} {Q:Exit→Act→World→Prop} {a:Act} {w:World} {l:List Oper} (hm:P.follows .mixedOrders=true) (hB:Region.lexB .any l.toArray=true)
 (h:wpStill P l.toArray w.drew (fun a'=>Q .normal a' w.drew) l a):(Code.region id l.toArray true).wp P Q a w:=wp_region_still_lit hm hB h
theorem drew_below (w:World):Below w.heap.size w w.drew:=(Below.refl _ _).drew
structure RowAt (w:World) (b ro:Nat) (g:Nat→Nat):Prop where
 cell:∀k,k<8→w.cell? ⟨b,ro+k,none⟩=some (.int .u64 ((g k:Nat):Int))
 frozen:∀k,k<8→w.frozen? ⟨b,ro+k,none⟩=false
 fit:∀k,g k<18446744073709551616
theorem RowAt.lt {w:World} {b ro:Nat} {g:Nat→Nat} (h:RowAt w b ro g):b<w.heap.size:=World.block_lt_of_cell? w ⟨b,ro+0,none⟩ (h.cell 0 (by omega))
theorem fz_block {w w':World} {x k:Nat} (h:w'.heap[x]? =w.heap[x]?):w'.frozen? ⟨x,k,none⟩=w.frozen? ⟨x,k,none⟩:=by simp[World.frozen?,h]
theorem RowAt.block {w w':World} {b ro:Nat} {g:Nat→Nat} (h:RowAt w b ro g) (e:w'.heap[b]? =w.heap[b]?):RowAt w' b ro g:=
 ⟨fun k hk=>(cell_block e _).trans (h.cell k hk),fun k hk=>(fz_block e).trans (h.frozen k hk),h.fit⟩
theorem RowAt.kept {F:Nat→Prop} {w w':World} {b ro:Nat} {g:Nat→Nat} (h:RowAt w b ro g) (k:Kept F w w') (hF:¬F b):RowAt w' b ro g:=h.block (k.block b h.lt hF)
theorem RowAt.below {w w':World} {b ro:Nat} {g:Nat→Nat} (h:RowAt w b ro g) (k:Below w.heap.size w w'):RowAt w' b ro g:=h.block (k.block b h.lt)
structure Only (b ro n:Nat) (w w':World):Prop where
 kept:Kept (fun x=>x=b) w w'
 cell:∀k,k<ro∨ro+n≤k→w'.cell? ⟨b,k,none⟩=w.cell? ⟨b,k,none⟩
 fz:∀k,w'.frozen? ⟨b,k,none⟩=w.frozen? ⟨b,k,none⟩
theorem Only.refl (b ro n:Nat) (w:World):Only b ro n w w:=⟨Kept.refl _ _,fun _ _=>rfl,fun _=>rfl⟩
theorem Only.of_below {b ro n:Nat} {w w':World} (h:Below w.heap.size w w') (hb:b<w.heap.size):Only b ro n w w':=⟨Kept.of_below h,fun k _=>cell_block (h.block b hb) k,fun k=>fz_block (h.block b hb)⟩
theorem Only.trans {b ro n:Nat} {w1 w2 w3:World} (h:Only b ro n w1 w2) (k:Only b ro n w2 w3):Only b ro n w1 w3:=
 ⟨h.kept.trans k.kept (fun _ _ f=>f),fun j hj=>(k.cell j hj).trans (h.cell j hj),fun j=>(k.fz j).trans (h.fz j)⟩
theorem only_set {b ro n:Nat} (w:World) (k:Nat) (v:Value) (h0:ro≤k) (h1:k<ro+n):Only b ro n w (w.setCell ⟨b,k,none⟩ v):=
 ⟨kept_set w b k v rfl,fun j hj=>World.cell?_setCell_other w ⟨b,k,none⟩ ⟨b,j,none⟩ v (by intro z;have:=congrArg Addr.off z;simp at this;omega),fun j=>World.frozen?_setCell w ⟨b,k,none⟩ ⟨b,j,none⟩ v⟩
theorem RowAt.other {w w':World} {b ro r2 n:Nat} {g:Nat→Nat} (h:RowAt w b ro g) (k:Only b r2 n w w') (hr:ro+8≤r2∨r2+n≤ro):RowAt w' b ro g:=
 ⟨fun j hj=>(k.cell _ (by omega)).trans (h.cell j hj),fun j hj=>(k.fz _).trans (h.frozen j hj),h.fit⟩
theorem RowAt.set {w:World} {b ro:Nat} {g:Nat→Nat} (h:RowAt w b ro g) (k v:Nat) (hk:k<8) (hv:v<18446744073709551616):
 RowAt (w.setCell ⟨b,ro+k,none⟩ (.int .u64 ((v:Nat):Int))) b ro (fun j=>if j=k then v else g j):=by
 refine ⟨fun j hj=> ?_,fun j hj=>(World.frozen?_setCell w ⟨b,ro+k,none⟩ ⟨b,ro+j,none⟩ _).trans (h.frozen j hj),fun j=>by split;exact hv;exact h.fit j⟩
 by_cases e:j=k
 ·subst e
  have:=h.cell j hj
  rw[if_pos rfl]
  exact World.cell?_setCell_same w _ _ this
 ·rw[if_neg e,World.cell?_setCell_other _ _ _ _ (by intro z;have:=congrArg Addr.off z;simp at this;omega)]
  exact h.cell j hj
theorem RowAt.congr {w:World} {b ro:Nat} {g g':Nat→Nat} (h:RowAt w b ro g) (e:∀k,k<8→g k=g' k) (hf:∀k,g' k<18446744073709551616):RowAt w b ro g':=
 ⟨fun k hk=>by rw[←e k hk];exact h.cell k hk,h.frozen,hf⟩
def upd (up:Nat→Nat→Nat) (g:Nat→Nat) (i n:Nat) (k j:Nat):Nat:=if j<k then up (g j) (prt j i (i+n)) else g j
theorem wrap_in (x:Int) (h1: -9223372036854775808≤x) (h2:x≤9223372036854775807):IntKind.i64.wrap x=x:=by
 simp[IntKind.wrap,IntKind.bits,IntKind.signed];omega
theorem upd_lt {up:Nat→Nat→Nat} (hup:∀a b,a<18446744073709551616→b<18446744073709551616→up a b<18446744073709551616) {g:Nat→Nat} (hg:∀k,g k<18446744073709551616) (i n k j:Nat):upd up g i n k j<18446744073709551616:=by
 unfold upd;split
 ·exact hup _ _ (hg j) (prt_lt _ _ _)
 ·exact hg j
set_option maxRecDepth 100000 in
set_option maxHeartbeats 1000000 in
theorem set_core (b ro:Nat) (g:Nat→Nat) (w:World) (h:RowAt w b ro g) (i n:Nat) (hin:i+n≤512):
 Calls Tryz.prog 199 #[.pointer (some ⟨b,ro,none⟩), .int .i64 (i:Nat), .int .i64 (n:Nat)] w fun e w'=>e= .returned (.int .i64 0)∧RowAt w' b ro (upd (· ||| ·) g i n 8)∧Only b ro 8 w w':=by
 have cR:=(right_any (i:Int) (n:Int) (by omega) w).1 ⟨by omega,by omega,by omega,by omega⟩
 obtain ⟨I,hI⟩:∃I:Int,(i:Int)=I:=⟨_,rfl⟩
 obtain ⟨N,hN⟩:∃N:Int,(n:Int)=N:=⟨_,rfl⟩
 have cP:∀(k:Nat) (w:World),k<8→Calls Tryz.prog 256 #[.int .i64 (k:Nat), .int .i64 I, .int .i64 (I+N)] w fun e w'=>e= .returned (.int .u64 (prt k i (i+n):Nat))∧w'=w:=fun k w hk=>by
  rw[←hI,←hN,←Int.natCast_add];exact part_any k i (i+n) hk (by omega) (by omega) w
 have hsum:=wrap_in (I+N) (by omega) (by omega)
 rw[hI,hN] at cR ⊢
 have CP:=hide cP
 have HH:=hide h
 have h0:=h
 clear cP h
 have HI:=hide hI
 have HN:=hide hN
 clear hI hN
 go_enter Tryz.func199,Tryz.ntmps199
 go_wp2_with fail
 go_at_call 255
 refine cR.mono ?_
 rintro e w' ⟨rfl,hw'⟩;rw[hw'];clear hw' w'
 go_wp2_with fail
 go_loopw [12] (fun v wr=>∃k:Nat,v= .int .i64 (k:Int)∧k≤8∧Hid (RowAt wr b ro (upd (· ||| ·) g i n k)∧Only b ro 8 w wr)) (fun v _=>8 -(intOf v).toNat)
 case atStart=>exact ⟨0,rfl,by omega,hide ⟨HH.out.congr (fun k hk=>by simp[upd]) (fun k=>upd_lt (fun _ _=>or_lt) HH.out.fit _ _ _ _),Only.refl _ _ _ _⟩⟩
 case round=>
  obtain ⟨k,rfl,hk,HR⟩:=hrel
  by_cases hlt:k<8
  ·have hlt':(k:Int)<8:=by omega
   have c1:=HR.out.1.cell k hlt
   have f1:=HR.out.1.frozen k hlt
   have e1:upd (· ||| ·) g i n k k=g k:=by simp[upd]
   rw[e1] at c1
   have hb:=w_or (g k) (prt k i (i+n)) (HH.out.fit k) (prt_lt _ _ _)
   clear e1
   go_wp2_with fail
   refine still_tail 14 (by kernel_rfl) (by kernel_rfl) ?_
   simp only[List.take_succ_cons,List.take_zero,List.drop_succ_cons,List.drop_zero]
   repeat still_step
   still_call (CP.out k _ hlt)
   repeat still_step
   refine wpStill_nil ?_
   go_wp2_with fail
   refine ⟨⟨k+1,by rw[Int.natCast_add];rfl,by omega,hide ⟨?_,?_⟩⟩,?_⟩
   ·refine ((HR.out.1.below (drew_below _)).set k _ hlt ((fun _ _=>or_lt) _ _ (HH.out.fit k) (prt_lt _ _ _))).congr (fun j hj=> ?_) (fun j=>upd_lt (fun _ _=>or_lt) HH.out.fit _ _ _ _)
    unfold upd
    by_cases e:j=k
    ·subst e;simp
    ·rw[if_neg e]
     by_cases l:j<k
     ·rw[if_pos l,if_pos (by omega)]
     ·rw[if_neg l,if_neg (by omega)]
   ·exact (HR.out.2.trans (Only.of_below (drew_below wr) HR.out.1.lt)).trans (only_set wr.drew (ro+k) _ (by omega) (by omega))
   ·simp[intOf];omega
  ·have hk8:k=8:=by omega
   subst hk8
   go_wp2_with fail
   go_wp2
   go_ret
   exact ⟨rfl,HR.out⟩
set_option maxRecDepth 100000 in
set_option maxHeartbeats 1000000 in
theorem clear_core (b ro:Nat) (g:Nat→Nat) (w:World) (h:RowAt w b ro g) (i n:Nat) (hin:i+n≤512):
 Calls Tryz.prog 309 #[.pointer (some ⟨b,ro,none⟩), .int .i64 (i:Nat), .int .i64 (n:Nat)] w fun e w'=>e= .returned (.int .i64 0)∧RowAt w' b ro (upd andn g i n 8)∧Only b ro 8 w w':=by
 have cR:=(right_any (i:Int) (n:Int) (by omega) w).1 ⟨by omega,by omega,by omega,by omega⟩
 obtain ⟨I,hI⟩:∃I:Int,(i:Int)=I:=⟨_,rfl⟩
 obtain ⟨N,hN⟩:∃N:Int,(n:Int)=N:=⟨_,rfl⟩
 have cP:∀(k:Nat) (w:World),k<8→Calls Tryz.prog 256 #[.int .i64 (k:Nat), .int .i64 I, .int .i64 (I+N)] w fun e w'=>e= .returned (.int .u64 (prt k i (i+n):Nat))∧w'=w:=fun k w hk=>by
  rw[←hI,←hN,←Int.natCast_add];exact part_any k i (i+n) hk (by omega) (by omega) w
 have hsum:=wrap_in (I+N) (by omega) (by omega)
 rw[hI,hN] at cR ⊢
 have CP:=hide cP
 have HH:=hide h
 have h0:=h
 clear cP h
 have HI:=hide hI
 have HN:=hide hN
 clear hI hN
 go_enter Tryz.func309,Tryz.ntmps309
 go_wp2_with fail
 go_at_call 255
 refine cR.mono ?_
 rintro e w' ⟨rfl,hw'⟩;rw[hw'];clear hw' w'
 go_wp2_with fail
 go_loopw [12] (fun v wr=>∃k:Nat,v= .int .i64 (k:Int)∧k≤8∧Hid (RowAt wr b ro (upd andn g i n k)∧Only b ro 8 w wr)) (fun v _=>8 -(intOf v).toNat)
 case atStart=>exact ⟨0,rfl,by omega,hide ⟨HH.out.congr (fun k hk=>by simp[upd]) (fun k=>upd_lt (fun _ b h _=>andn_lt b h) HH.out.fit _ _ _ _),Only.refl _ _ _ _⟩⟩
 case round=>
  obtain ⟨k,rfl,hk,HR⟩:=hrel
  by_cases hlt:k<8
  ·have hlt':(k:Int)<8:=by omega
   have c1:=HR.out.1.cell k hlt
   have f1:=HR.out.1.frozen k hlt
   have e1:upd andn g i n k k=g k:=by simp[upd]
   rw[e1] at c1
   have hb:=w_andNot (g k) (prt k i (i+n)) (HH.out.fit k) (prt_lt _ _ _)
   clear e1
   go_wp2_with fail
   refine still_tail 14 (by kernel_rfl) (by kernel_rfl) ?_
   simp only[List.take_succ_cons,List.take_zero,List.drop_succ_cons,List.drop_zero]
   repeat still_step
   still_call (CP.out k _ hlt)
   repeat still_step
   refine wpStill_nil ?_
   go_wp2_with fail
   refine ⟨⟨k+1,by rw[Int.natCast_add];rfl,by omega,hide ⟨?_,?_⟩⟩,?_⟩
   ·refine ((HR.out.1.below (drew_below _)).set k _ hlt (andn_lt _ (HH.out.fit k))).congr (fun j hj=> ?_) (fun j=>upd_lt (fun _ b h _=>andn_lt b h) HH.out.fit _ _ _ _)
    unfold upd
    by_cases e:j=k
    ·subst e;simp
    ·rw[if_neg e]
     by_cases l:j<k
     ·rw[if_pos l,if_pos (by omega)]
     ·rw[if_neg l,if_neg (by omega)]
   ·exact (HR.out.2.trans (Only.of_below (drew_below wr) HR.out.1.lt)).trans (only_set wr.drew (ro+k) _ (by omega) (by omega))
   ·simp[intOf];omega
  ·have hk8:k=8:=by omega
   subst hk8
   go_wp2_with fail
   go_wp2
   go_ret
   exact ⟨rfl,HR.out⟩
theorem pc_cnt:∀(m x:Nat),x<2^m→pc x=cnt x.testBit 0 m:=by
 intro m
 induction m with
 |zero=>intro x h;rw[show x=0 by simpa using h,pc_zero];rfl
 |succ m ih=>
  intro x h
  rw[pc_step,ih (x/2) (by rw[Nat.pow_succ] at h;omega),show m+1=1+m by omega,cnt_add]
  congr 1
  ·simp only[cnt,Nat.zero_add]
   rw[Nat.testBit_zero]
   by_cases h2:x%2=1
   ·simp[h2]
   ·rw[decide_eq_false h2];simp;omega
  ·exact cnt_congr fun k hk=>by rw[Nat.testBit_div_two,Nat.zero_add];congr 1;omega
theorem word_cnt (g:Nat→Nat) (hg:∀k,g k<18446744073709551616) (k i e:Nat):pc (g k &&& prt k i e)=cnt (fun q=>bitW g q&&decide (i≤q∧q<e)) (64 * k) 64:=by
 rw[pc_cnt 64 _ (and_lt _ (hg k))]
 exact cnt_congr fun q hq=>by
  rw[Nat.zero_add,Nat.testBit_and,prt_bit _ _ _ _ hq,bitW_at g k q hq]
set_option maxRecDepth 100000 in
set_option maxHeartbeats 1000000 in
theorem count_core (b ro:Nat) (g:Nat→Nat) (w:World) (h:RowAt w b ro g) (i n:Nat) (hin:i+n≤512):
 Calls Tryz.prog 288 #[.pointer (some ⟨b,ro,none⟩), .int .i64 (i:Nat), .int .i64 (n:Nat)] w fun e w'=>e= .returned (.int .i64 (cnt (bitW g) i n:Nat))∧Below w.heap.size w w':=by
 have cR:=(right_any (i:Int) (n:Int) (by omega) w).1 ⟨by omega,by omega,by omega,by omega⟩
 obtain ⟨I,hI⟩:∃I:Int,(i:Int)=I:=⟨_,rfl⟩
 obtain ⟨N,hN⟩:∃N:Int,(n:Int)=N:=⟨_,rfl⟩
 have cP:∀(k:Nat) (w:World),k<8→Calls Tryz.prog 256 #[.int .i64 (k:Nat), .int .i64 I, .int .i64 (I+N)] w fun e w'=>e= .returned (.int .u64 (prt k i (i+n):Nat))∧w'=w:=fun k w hk=>by
  rw[←hI,←hN,←Int.natCast_add];exact part_any k i (i+n) hk (by omega) (by omega) w
 have b1:0≤I:=by omega
 have b2:I≤512:=by omega
 have b3:0≤N:=by omega
 have b4:N≤512:=by omega
 rw[hI,hN] at cR ⊢
 obtain ⟨F,hF⟩:∃F:Nat→Bool,F=fun q=>bitW g q&&decide (i≤q∧q<i+n):=⟨_,rfl⟩
 have hwc:∀k,pc (g k &&& prt k i (i+n))=cnt F (64 * k) 64:=fun k=>by rw[hF];exact word_cnt g h.fit k i (i+n)
 have hend:cnt F 0 512=cnt (bitW g) i n:=cnt_span F (bitW g) i n hin (fun k _=>by rw[hF])
 rw[←hend]
 have HWC:=hide hwc
 have CP:=hide cP
 have HH:=hide h
 clear cP h hI hN hF hwc hend
 go_enter Tryz.func288,Tryz.ntmps288
 go_wp2_with fail
 go_at_call 255
 refine cR.mono ?_
 rintro e w' ⟨rfl,hw'⟩;rw[hw'];clear hw' w'
 go_wp2_with fail
 go_loopw [7,15] (fun c v wr=>∃k:Nat,v= .int .i64 (k:Int)∧c= .int .i64 (cnt F 0 (64 * k):Nat)∧k≤8∧Hid (Below w.heap.size w wr)) (fun _ v _=>8 -(intOf v).toNat)
 case atStart=>exact ⟨0,rfl,rfl,by omega,hide (Below.refl _ _)⟩
 case round=>
  obtain ⟨k,rfl,rfl,hk,HR⟩:=hrel
  by_cases hlt:k<8
  ·have hlt':(k:Int)<8:=by omega
   have c1:=(HH.out.below HR.out).cell k hlt
   have c2:=cnt_le F 0 (64 * k)
   obtain ⟨C,hC⟩:∃C:Int,((cnt F 0 (64 * k):Nat):Int)=C:=⟨_,rfl⟩
   have hb:=w_and (g k) (prt k i (i+n)) (HH.out.fit k) (prt_lt _ _ _)
   have C0:0≤C:=by omega
   have C1:C≤512:=by omega
   rw[hC]
   have HC:=hide hC
   have cO:=fun w=>ones_any (g k &&& prt k i (i+n)) (and_lt _ (HH.out.fit k)) w
   have d1:=cnt_le F (64 * k) 64
   rw[HWC.out k] at cO
   obtain ⟨D,hD⟩:∃D:Int,((cnt F (64 * k) 64:Nat):Int)=D:=⟨_,rfl⟩
   have D0:0≤D:=by omega
   have D1:D≤64:=by omega
   rw[hD] at cO
   have HD:=hide hD
   have CO:=hide cO
   clear hD hC cO c2 d1
   go_wp2_with fail
   refine still_all (by kernel_rfl) (by kernel_rfl) ?_
   repeat still_step
   refine wpStill_nil ?_
   go_wp2_with fail
   go_at_call 256
   refine (CP.out k _ hlt).mono ?_
   rintro e w' ⟨rfl,hw'⟩;rw[hw'];clear hw' w'
   go_wp2_with fail
   try rw[hb]
   go_at_call 132
   refine (CO.out _).mono ?_
   rintro e w' ⟨rfl,hw'⟩;rw[hw'];clear hw' w'
   go_wp2_with fail
   refine ⟨⟨k+1,by rw[Int.natCast_add];rfl,?_,by omega,hide (HR.out.trans ((drew_below wr).mono HR.out.size))⟩,?_⟩
   ·rw[show 64 *(k+1)=64 * k+64 by omega,cnt_add,Nat.zero_add,Int.natCast_add,HC.out,HD.out]
   ·simp[intOf];omega
  ·have hk8:k=8:=by omega
   subst hk8
   go_wp2_with fail
   go_wp2
   go_ret
   exact ⟨rfl,HR.out⟩
end Go.Proofs.YtdgdhnnakcncoaaGreatDoor
namespace Go.Proofs.YtdgdhnnakcncoaaGreatDoor
set_option maxHeartbeats 1600000
open Go.ChangeShapes Go.WideShapes Go.ChangeAt Go.RowKit Go.Proofs.Bt Go.Shelf
set_option linter.unusedVariables false
set_option linter.unusedSimpArgs false
def RowF (w:World) (b ro:Nat) (f:Nat→Bool):Prop:=∃g,RowAt w b ro g∧∀i,i<512→bitW g i=f i
theorem RowF.lt {w:World} {b ro:Nat} {f:Nat→Bool} (h:RowF w b ro f):b<w.heap.size:=by obtain ⟨g,h,_⟩:=h;exact h.lt
theorem RowF.kept {F:Nat→Prop} {w w':World} {b ro:Nat} {f:Nat→Bool} (h:RowF w b ro f) (k:Kept F w w') (hF:¬F b):RowF w' b ro f:=by obtain ⟨g,h1,h2⟩:=h;exact ⟨g,h1.kept k hF,h2⟩
theorem RowF.below {w w':World} {b ro:Nat} {f:Nat→Bool} (h:RowF w b ro f) (k:Below w.heap.size w w'):RowF w' b ro f:=by obtain ⟨g,h1,h2⟩:=h;exact ⟨g,h1.below k,h2⟩
theorem bitW_upd {up:Nat→Nat→Nat} (g:Nat→Nat) (i n j:Nat) (hj:j<512):bitW (upd up g i n 8) j=(up (g (j/64)) (prt (j/64) i (i+n))).testBit (j%64):=by
 unfold bitW upd
 rw[if_pos (by omega)]
def setF (f:Nat→Bool) (i n j:Nat):Bool:=f j||decide (i≤j∧j<i+n)
def clrF (f:Nat→Bool) (i n j:Nat):Bool:=f j&& !decide (i≤j∧j<i+n)
theorem set_any (b ro:Nat) (f:Nat→Bool) (w:World) (h:RowF w b ro f) (i n:Nat) (hin:i+n≤512):
 Calls Tryz.prog 199 #[.pointer (some ⟨b,ro,none⟩), .int .i64 (i:Nat), .int .i64 (n:Nat)] w fun e w'=>e= .returned (.int .i64 0)∧RowF w' b ro (setF f i n)∧Only b ro 8 w w':=by
 obtain ⟨g,h1,h2⟩:=h
 refine (set_core b ro g w h1 i n hin).mono ?_
 rintro e w' ⟨rfl,r,k⟩
 refine ⟨rfl,⟨_,r,fun j hj=> ?_⟩,k⟩
 rw[bitW_upd g i n j hj,Nat.testBit_or,prt_bit _ _ _ _ (by omega),show 64 *(j/64)+j%64=j by omega]
 have:=h2 j hj
 unfold bitW at this
 unfold setF
 rw[this]
theorem clear_any (b ro:Nat) (f:Nat→Bool) (w:World) (h:RowF w b ro f) (i n:Nat) (hin:i+n≤512):
 Calls Tryz.prog 309 #[.pointer (some ⟨b,ro,none⟩), .int .i64 (i:Nat), .int .i64 (n:Nat)] w fun e w'=>e= .returned (.int .i64 0)∧RowF w' b ro (clrF f i n)∧Only b ro 8 w w':=by
 obtain ⟨g,h1,h2⟩:=h
 refine (clear_core b ro g w h1 i n hin).mono ?_
 rintro e w' ⟨rfl,r,k⟩
 refine ⟨rfl,⟨_,r,fun j hj=> ?_⟩,k⟩
 rw[bitW_upd g i n j hj,andn_bit,prt_bit _ _ _ _ (by omega),show 64 *(j/64)+j%64=j by omega]
 have:=h2 j hj
 unfold bitW at this
 unfold clrF
 rw[this]
theorem count_any (b ro:Nat) (f:Nat→Bool) (w:World) (h:RowF w b ro f) (i n:Nat) (hin:i+n≤512):
 Calls Tryz.prog 288 #[.pointer (some ⟨b,ro,none⟩), .int .i64 (i:Nat), .int .i64 (n:Nat)] w fun e w'=>e= .returned (.int .i64 (cnt f i n:Nat))∧Below w.heap.size w w':=by
 obtain ⟨g,h1,h2⟩:=h
 rw[cnt_congr (f:=f) (g:=bitW g) (i:=i) (j:=i) (n:=n) (fun k hk=>(h2 _ (by omega)).symm)]
 exact count_core b ro g w h1 i n hin
theorem boxed_block {W W':World} {B:Nat} {t:TypeId} {v:Value} (h:Boxed W B t v) (hb:W'.heap[B]? =W.heap[B]?):Boxed W' B t v:=hb.trans h
theorem box_lt {w:World} {b:Nat} {t:TypeId} {v:Value} (h:Boxed w b t v):b<w.heap.size:=(Array.getElem?_eq_some_iff.1 h).1
theorem boxed_kept {F:Nat→Prop} {W W':World} {b:Nat} {t:TypeId} {v:Value} (h:Boxed W b t v) (k:Kept F W W') (hb:¬F b):Boxed W' b t v:=boxed_block h (k.block _ (box_lt h) hb)
theorem below_kept {F:Nat→Prop} {N:Nat} {w W W':World} (h:Below N w W) (k:Kept F W W') (hF:∀b,F b→N≤b) (hN:N≤W.heap.size):Below N w W':=h.trans (k.below hN hF)
theorem keepsFrom_of {F:Nat→Prop} {B:Nat} {W W':World} (h:Kept F W W') (hb:∀b,B≤b→¬F b):KeepsFrom B W W':=⟨h.size,fun k o hk ho _=>kept_at h ho (hb k hk)⟩
theorem wcall {n m:Nat} {P:Program} {f:FuncId} {args:Array Value} {w:World} {R R':Ending→World→Prop} (h:Calls P f args w R) (hr:∀e w',R e w'→R' e w'):
 Fence.wide.fn f∧(Fence.wide.depth.isSome=true→1≤n)∧CallsIn Fence.wide m P f args w R':=⟨trivial,(fun h=>by cases h),(callsIn_wide.2 h).mono hr⟩
theorem wcall2 {m:Nat} {P:Program} {f:FuncId} {args:Array Value} {w:World} {R R':Ending→World→Prop} (h:Calls P f args w R) (hr:∀e w',R e w'→R' e w'):
 Fence.wide.fn f∧CallsIn Fence.wide m P f args w R':=⟨trivial,(callsIn_wide.2 h).mono hr⟩
def SeqB {α:Type} (n:Nat) (P:Program) (gf:Nat) (lb:Array Value) (encs:α→Array Value) (Rd:World→Prop) (L:List α):Prop:=
 ∀(l:Nat) (J Jx:List α→World→Prop) (W:World),(∀s A,J s A→Rd A)→(∀s A A',J s A→Below A.heap.size A A'→J s A')→
  (∀pre x W1,pre++ [x] <+: L→J pre W1→YieldAt Fence.wide (n - 1) P l (encs x) W1 fun e W'=>
   (e= .returned (.bool true)∧J (pre++ [x]) W')∨(e= .returned (.bool false)∧Jx (pre++ [x]) W'))→
  J [] W→
  CallsIn Fence.wide n P gf (#[.func (.yield l) #[] #[]]++lb) W fun e W'=>(∃v,e= .returned v)∧(J L W'∨(∃pre x,pre++ [x] <+: L∧Jx (pre++ [x]) W'))
def bodyEnd {α:Type} (B:Nat) (I:List α→World→Prop) (Ix:Code→List α→World→Prop) (xs:List α) (W₁:World):Exit→Act→World→Prop
 | .normal,_,W'=>KeepsFrom B W₁ W'∧I xs W'
 | .exit id,_,W'=>KeepsFrom B W₁ W'∧Ix (.exit id) xs W'
 | .ret,_,W'=>KeepsFrom B W₁ W'∧Ix .ret xs W'
 |_,_,_=>False
theorem range_law {α:Type} {P:Program} {g:Operand} {ps:Array Tmp} {assign body:Code} {Q:Exit→Act→World→Prop} {a:Act} {w:World} {n:Nat}
 {gf:Nat} {lb:Array Value} (hg:a.eval g= .func (.func gf) #[] lb) (eg:∀args w,(callFunc gf args).run P w= .ok (.enter gf args) w)
 {encs:α→Array Value} {Rd:World→Prop} {L:List α} (hseq:SeqB (n - 1) P gf lb encs Rd L) (hps:∀x,(encs x).size=ps.size)
 (I:List α→World→Prop) (Ix:Code→List α→World→Prop)
 (hR:∀s A,I s A→Rd A)
 (hI:∀s A A',I s A→Kept (fun b=>b=w.heap.size∨b=w.heap.size+1) A A'→I s A')
 (hIx:∀c s A o',Ix c s A→w.heap.size+1<A.heap.size→Ix c s (A.putObj (w.heap.size+1) o')) (h0:I [] w)
 (hround:∀(pre:List α) (x:α) (W:World),(∃r,W.heap[w.heap.size+1]? =some (.loop r))→W.heap[w.heap.size]? =some (.deferred (some []))→I pre W→pre++ [x] <+: L→
  assign.wpIn (Fence.wide.inRound (w.heap.size+1)) (n - 1 - 1) P (Exit.then (fun a₁ W₁=>KeepsFrom w.heap.size W W₁∧
   ∀r,body.wpIn (Fence.wide.inRound (w.heap.size+1)) (n - 1 - 1) P (bodyEnd w.heap.size I Ix (pre++ [x]) (W₁.putObj (w.heap.size+1) (.loop r))) a₁ (W₁.putObj (w.heap.size+1) (.loop r))) (fun _ _ _=>False))
   {tmps:=(ps.zip (encs x)).foldl (fun t (p,v)=>t.setIfInBounds p v) a.tmps,defers:=[]} W)
 (hdone:∀(W:World),I L W→W.heap[w.heap.size]? =some (.deferred (some []))→Q .normal {a with defers:={target:= .collected w.heap.size,args:=#[]}::a.defers} W)
 (hstop:∀(c:Code) (pre:List α) (x:α) (W:World),pre++ [x] <+: L→Ix c (pre++ [x]) W→W.heap[w.heap.size]? =some (.deferred (some []))→c.wpIn Fence.wide n P Q {a with defers:={target:= .collected w.heap.size,args:=#[]}::a.defers} W):
 (Code.rangeFunc g ps assign body).wpIn Fence.wide n P Q a w:=by
 refine wpIn_rangeFunc fun fn hfn=> ?_
 generalize hrec:(fun st pe=>({state:=st,pending:=pe,fn,tmps:=a.tmps,params:=ps,assign,body,defers:=w.heap.size}:Loop))=rec
 obtain ⟨W1,hW1⟩:∃W1,(w.alloc (.deferred (some []))).alloc (.loop (rec .ready none))=W1:=⟨_,rfl⟩
 have s1:W1.heap.size=w.heap.size+2:=by rw[←hW1];simp
 have hb1:Below w.heap.size w W1:=by rw[←hW1];exact ((Below.refl _ w).alloc (Nat.le_refl _) _).alloc (by simp) _
 have hl1:W1.heap[w.heap.size+1]? =some (.loop (rec .ready none)):=by
  have:=World.alloc_heap_new (w.alloc (.deferred (some []))) (.loop (rec .ready none))
  rw[World.size_alloc,hW1] at this;exact this
 have hd1:W1.heap[w.heap.size]? =some (.deferred (some [])):=by
  rw[←hW1];exact (Below.heap_alloc _ _ _ (by simp)).trans (World.alloc_heap_new w _)
 refine ⟨w.heap.size+1,[{target:= .collected w.heap.size,args:=#[]}],W1,{target:= .fn (.func gf) lb,args:=#[.func (.yield (w.heap.size+1)) #[] #[]]},W1,gf,#[.func (.yield (w.heap.size+1)) #[] #[]]++lb,W1,?_,?_,fun _ _=>trivial,?_,(fun h=>by cases h),?_⟩
 ·rw[←hW1,←hrec];exact run_enterLoop_outer _ _ _ _ _
 ·simp only[resolve,hg];simp[go_sem]
 ·simp[invoke,go_sem,eg]
 refine (hseq (w.heap.size+1)
  (fun pre W=>I pre W∧W.heap[w.heap.size+1]? =some (.loop (rec .ready none))∧W.heap[w.heap.size]? =some (.deferred (some [])))
  (fun pre W=>∃c,Ix c pre W∧W.heap[w.heap.size+1]? =some (.loop (rec .done (some c)))∧W.heap[w.heap.size]? =some (.deferred (some [])))
  W1 (fun s A h=>hR s A h.1) ?_ ?_ ⟨hI _ _ _ h0 (Kept.of_below hb1),hl1,hd1⟩).mono ?_
 ·
  rintro s A A' ⟨hi,hl,hd⟩ hk
  exact ⟨hI _ _ _ hi (Kept.of_below hk),(hk.block _ (Array.getElem?_eq_some_iff.1 hl).1).trans hl,(hk.block _ (Array.getElem?_eq_some_iff.1 hd).1).trans hd⟩
 ·
  rintro pre x W hlen ⟨hi,hl,hd⟩
  have hlt:w.heap.size+1<W.heap.size:=(Array.getElem?_eq_some_iff.1 hl).1
  have hy:=run_yield (P:=P) (args:=encs x) hl (by rw[←hrec];exact hps x)
  rw[←hrec] at hy
  refine ⟨fn,_,assign,body,hy,roundIn_of_wpIn hfn (wpIn_mono (hround pre x W ⟨_,hl⟩ hd hi hlen) ?_)⟩
  rintro e a₁ W₁ hp
  cases e with
  |normal=>
   obtain ⟨hk,hb⟩:=hp
   have hl':=hk.same _ _ (by omega) hl rfl
   have hd':=hk.same _ _ (by omega) hd rfl
   refine ⟨_,run_beginRound hl' (by rw[←hrec]),wpIn_mono (hb _) ?_⟩
   rintro e a₂ W₂ hq
   cases e with
   |normal=>
    obtain ⟨q1,q3⟩:=hq
    have hl2:=q1.same _ _ (by omega) (World.putObj_heap_same (Array.getElem?_eq_some_iff.1 hl').1) rfl
    have hlt2:=(Array.getElem?_eq_some_iff.1 hl2).1
    have hd2:=q1.same _ _ (by omega) ((World.putObj_heap_other (by omega)).trans hd') rfl
    refine ⟨_,_,run_endRound none hl2, .inl ⟨rfl,⟨hI _ _ _ q3 (Kept.put _ _ _ (.inr rfl)),?_,?_⟩⟩⟩
    ·rw[World.putObj_heap_same hlt2,←hrec];rfl
    ·exact (World.putObj_heap_other (by omega)).trans hd2
   |exit id=>
    obtain ⟨q1,q3⟩:=hq
    have hl2:=q1.same _ _ (by omega) (World.putObj_heap_same (Array.getElem?_eq_some_iff.1 hl').1) rfl
    have hlt2:=(Array.getElem?_eq_some_iff.1 hl2).1
    have hd2:=q1.same _ _ (by omega) ((World.putObj_heap_other (by omega)).trans hd') rfl
    refine ⟨_,_,run_endRound (some (.exit id)) hl2, .inr ⟨rfl, .exit id,hIx _ _ _ _ q3 hlt2,?_,?_⟩⟩
    ·rw[World.putObj_heap_same hlt2,←hrec];rfl
    ·exact (World.putObj_heap_other (by omega)).trans hd2
   |ret=>
    obtain ⟨q1,q3⟩:=hq
    have hl2:=q1.same _ _ (by omega) (World.putObj_heap_same (Array.getElem?_eq_some_iff.1 hl').1) rfl
    have hlt2:=(Array.getElem?_eq_some_iff.1 hl2).1
    have hd2:=q1.same _ _ (by omega) ((World.putObj_heap_other (by omega)).trans hd') rfl
    refine ⟨_,_,run_endRound (some .ret) hl2, .inr ⟨rfl, .ret,hIx _ _ _ _ q3 hlt2,?_,?_⟩⟩
    ·rw[World.putObj_heap_same hlt2,←hrec];rfl
    ·exact (World.putObj_heap_other (by omega)).trans hd2
   |goto t=>exact hq.elim
   |panic ch=>exact hq.elim
   |outgrown=>exact hq.elim
  |ret=>exact hp.elim
  |exit id=>exact hp.elim
  |goto t=>exact hp.elim
  |panic ch=>exact hp.elim
  |outgrown=>exact hp.elim
 ·
  rintro e W2 ⟨⟨v,rfl⟩,(⟨hi,hl,hd⟩|⟨pre,x,hSp,c,hi,hl,hd⟩)⟩
  ·have he:=run_endLoop (P:=P) hl (by rw[←hrec];simp)
   refine ⟨none,_,by rw[←hrec] at he;exact he,hdone _ (hI _ _ _ hi (Kept.put _ _ _ (.inr rfl))) ((World.putObj_heap_other (by omega)).trans hd)⟩
  ·have he:=run_endLoop (P:=P) hl (by rw[←hrec];simp)
   refine ⟨some c,_,by rw[←hrec] at he;exact he,hstop c pre x _ hSp (hIx _ _ _ _ hi (Array.getElem?_eq_some_iff.1 hl).1) ((World.putObj_heap_other (by omega)).trans hd)⟩
theorem clears_any (b ro:Nat) (a e:Int) (w:World):Calls Tryz.prog 254 #[.pointer (some ⟨b,ro,none⟩), .int .i64 a, .int .i64 e] w fun r w'=>
 r= .returned (.func (.func 293) #[] #[.pointer (some ⟨w.heap.size,0,none⟩), .pointer (some ⟨w.heap.size+1,0,none⟩), .pointer (some ⟨w.heap.size+2,0,none⟩)])∧
 w'=((w.alloc (.cells #[.pointer (some ⟨b,ro,none⟩)] 344)).alloc (.cells #[.int .i64 a] 3)).alloc (.cells #[.int .i64 e] 3):=by
 go_enter Tryz.func254,Tryz.ntmps254
 go_wp2
 go_ret
 exact ⟨rfl,rfl⟩
end Go.Proofs.YtdgdhnnakcncoaaGreatDoor
