/- Of the proof of HeapClasses: texts NGh, NGi, NGj. -/
import Derived.Test.YtdgdhnnakcncoaaGreatDoorJ44
namespace Go.Proofs.YtdgdhnnakcncoaaGreatDoor.N
set_option maxHeartbeats 1600000
open Go.ChangeShapes Go.WideShapes Go.ChangeAt Go.RowKit Go.Proofs.Sn Go.Shelf
set_option linter.unusedVariables false
set_option linter.unusedSimpArgs false
attribute [local go_sem] Oper.semAt_some
def geo (page pages cls:Nat) (noptr:Bool) (elem:Nat):Geo:=
 ⟨page * 8192,pages,cls,noptr,elem,pages * 8192/elem,if pages * 8192≤131072∧elem≤32768 then Cl.magicN elem else 0⟩
theorem by_any (p:Nat) (hp:p≤34359738368) (W:World):Calls Tryz.prog 137 #[.int .u64 (p:Nat)] W fun e W'=>e= .returned (.int .i64 ((p:Int) * 8192))∧W'=W:=by
 have w1:IntKind.u64.wrap ((p:Int) * 8192)=(p:Int) * 8192:=by rw[IntKind.wrap_u64];omega
 have w2:IntKind.i64.wrap ((p:Int) * 8192)=(p:Int) * 8192:=by rw[IntKind.wrap_i64];omega
 clear hp
 go_enter Tryz.func137,Tryz.ntmps137
 go_wp2_with fail
 go_ret
 exact ⟨rfl,rfl⟩
def rpB (page pages:Nat):Bool:=decide (0<pages∧page+pages≤34359738368)
theorem rp_any (page pages:Nat) (h1:page<18446744073709551616) (h2:pages<18446744073709551616) (W:World):Calls Tryz.prog 123 #[.int .u64 (page:Nat), .int .u64 (pages:Nat)] W fun e W'=>e= .returned (.bool (rpB page pages))∧W'=W:=by
 obtain ⟨A,hA⟩:∃A:Int,(page:Int)=A:=⟨_,rfl⟩
 obtain ⟨B,hB⟩:∃B:Int,(pages:Int)=B:=⟨_,rfl⟩
 unfold rpB
 by_cases c1:0<B
 ·have d1:decide (0<B)=true:=decide_eq_true c1
  by_cases c2:B≤34359738368
  ·have d2:decide (B≤34359738368)=true:=decide_eq_true c2
   have w1:IntKind.u64.wrap (34359738368 - B)=34359738368 - B:=by rw[IntKind.wrap_u64];omega
   rw[show decide (0<pages∧page+pages≤34359738368)=decide (A≤34359738368 - B) from by
    apply decide_eq_decide.2;omega]
   rw[hA,hB]
   clear hA hB h1 h2
   go_enter Tryz.func123,Tryz.ntmps123
   go_wp2_with fail
   go_ret
   exact ⟨rfl,rfl⟩
  ·have d2:decide (B≤34359738368)=false:=decide_eq_false c2
   rw[decide_eq_false (by omega)]
   rw[hA,hB]
   clear hA hB h1 h2
   go_enter Tryz.func123,Tryz.ntmps123
   go_wp2_with fail
   go_ret
   exact ⟨rfl,rfl⟩
 ·have d1:decide (0<B)=false:=decide_eq_false c1
  rw[decide_eq_false (by omega)]
  rw[hA,hB]
  clear hA hB h1 h2
  go_enter Tryz.func123,Tryz.ntmps123
  go_wp2_with fail
  go_ret
  exact ⟨rfl,rfl⟩
theorem second_new (W:World) (o o':Obj):((W.alloc o).alloc o').heap[W.heap.size+1]? =some o':=by
 have:=World.alloc_heap_new (W.alloc o) o'
 rwa[World.size_alloc] at this
theorem second_below (W:World) (o o':Obj):Below W.heap.size W ((W.alloc o).alloc o'):=(below_alloc W o).alloc (by rw[World.size_alloc];omega) _
def info0 (st cls:Nat) (noptr:Bool) (elem:Nat):Value:= .agg #[.int .u64 0, .int .i64 0, .int .i64 (st:Nat), .int .i64 (cls:Nat), .bool noptr, .int .i64 (elem:Nat), .int .i64 0, .int .i64 0, .bool false, .bool false]
def made (page pages st cls:Nat) (noptr:Bool) (elem:Nat):Array Value:=cellsS (geo page pages cls noptr elem) st 0 (.slice none 0 0) (.slice none 0 0) 0
set_option maxRecDepth 100000 in
theorem cut_span (page pages st cls:Nat) (noptr:Bool) (elem:Nat) (h1:page≤34359738368) (h2:pages≤134217728) (h3:8≤elem) (h4:elem≤1099511627776) (W:World):
 Calls Tryz.prog 125 #[.int .u64 (page:Nat), .int .u64 (pages:Nat),info0 st cls noptr elem] W fun e W'=>e= .returned (.pointer (some ⟨W.heap.size+1,0,none⟩))∧Bk W' (W.heap.size+1) 144 (made page pages st cls noptr elem)∧Below W.heap.size W W':=by
 have CB:=hide (fun w=>by_any pages (by omega) w)
 have w1:IntKind.u64.wrap ((page:Int) * 8192)=(page:Int) * 8192:=by rw[IntKind.wrap_u64];omega
 have w2:IntKind.i64.wrap (pages:Int)=(pages:Int):=by rw[IntKind.wrap_i64];omega
 have z:((elem:Int)==0)=false:=by simp;omega
 obtain ⟨q,hq⟩:∃q:Nat,pages * 8192/elem=q:=⟨_,rfl⟩
 have q0:((pages:Int) * 8192)/(elem:Int)=(q:Int):=by rw[←hq,Int.natCast_ediv];push_cast;rfl
 have q1:((pages:Int) * 8192).tdiv (elem:Int)=(q:Int):=by rw[Int.tdiv_eq_ediv_of_nonneg (by omega)];exact q0
 have ql:=Nat.div_le_self (pages * 8192) elem
 rw[hq] at ql
 have w3:IntKind.i64.wrap (q:Int)=(q:Int):=by rw[IntKind.wrap_i64];omega
 unfold made cellsS geo
 simp only[]
 rw[hq,show ((page * 8192:Nat):Int)=(page:Int) * 8192 by push_cast;rfl]
 obtain ⟨P,hP⟩:∃P:Int,(pages:Int) * 8192=P:=⟨_,rfl⟩
 rw[hP] at q0 q1 CB
 unfold info0
 by_cases c1:pages * 8192≤131072
 ·have d1:decide (P≤131072)=true:=decide_eq_true (by omega)
  by_cases c2:elem≤32768
  ·have d2:decide (elem≤32768)=true:=decide_eq_true c2
   have CM:=hide (fun w=>magic_nat elem (by omega) w)
   have w4:IntKind.u32.wrap (elem:Int)=(elem:Int):=by rw[IntKind.wrap_u32];omega
   rw[if_pos ⟨c1,c2⟩]
   generalize Cl.magicN elem=mg at *
   clear hq hP ql h1 h2 h4 c1
   go_enter Tryz.func125,Tryz.ntmps125
   go_wp2_with fail
   refine (CB.out _).mono ?_
   rintro e W1 ⟨rfl,hw⟩
   rw[hw]
   clear hw CB W1
   go_wp2_with fail
   refine (CM.out _).mono ?_
   rintro e W1 ⟨rfl,hw⟩
   rw[hw]
   clear hw CM W1
   go_wp2_with fail
   go_ret
   exact ⟨rfl,second_new _ _ _,second_below _ _ _⟩
  ·have d2:decide (elem≤32768)=false:=decide_eq_false c2
   have c2':32768<elem:=by omega
   rw[if_neg (fun z=>c2 z.2)]
   clear hq hP ql h1 h2 h4 c1 c2
   go_enter Tryz.func125,Tryz.ntmps125
   go_wp2_with fail
   refine (CB.out _).mono ?_
   rintro e W1 ⟨rfl,hw⟩
   rw[hw]
   clear hw CB W1
   go_wp2_with fail
   go_ret
   exact ⟨rfl,second_new _ _ _,second_below _ _ _⟩
 ·have d1:decide (P≤131072)=false:=decide_eq_false (by omega)
  rw[if_neg (fun z=>c1 z.1)]
  clear hq hP ql h1 h2 h4 c1
  go_enter Tryz.func125,Tryz.ntmps125
  go_wp2_with fail
  refine (CB.out _).mono ?_
  rintro e W1 ⟨rfl,hw⟩
  rw[hw]
  clear hw CB W1
  go_wp2_with fail
  go_ret
  exact ⟨rfl,second_new _ _ _,second_below _ _ _⟩
open Cl in
def elemOf (pages:Nat) (number:Int):Option Nat:=
 if number=0 then (if pages≤134217728 then some (pages * 8192) else none)
 else if number<0∨68≤number then none
 else match (Go.Proofs.Cl.zeroC::table)[number.toNat]? with
  |some c=>if c.pages=pages then some c.size else none
  |none=>none
open Cl in
theorem table_all:(table.all fun c=>decide (c.slots=c.pages * 8192/c.size∧8≤c.size∧c.size≤32768∧1≤c.pages∧c.pages≤16∧c.slots≤1024∧1≤c.slots∧c.slots * c.size≤c.pages * 8192))=true:=by decide+kernel
open Cl in
theorem table_at {k:Nat} {c:Cls} (h1:1≤k) (h:(Go.Proofs.Cl.zeroC::table)[k]? =some c):c.slots=c.pages * 8192/c.size∧8≤c.size∧c.size≤32768∧1≤c.pages∧c.pages≤16∧c.slots≤1024∧1≤c.slots∧c.slots * c.size≤c.pages * 8192:=by
 obtain ⟨j,rfl⟩:∃j,k=j+1:=⟨k - 1,by omega⟩
 rw[List.getElem?_cons_succ] at h
 have:=List.all_eq_true.1 table_all c (List.mem_of_getElem? h)
 simpa using this
open Cl in
theorem table_some {k:Nat} (h:k<68):∃c,(Go.Proofs.Cl.zeroC::table)[k]? =some c:=by
 refine ⟨_,List.getElem?_eq_getElem (by rw[List.length_cons,table_len];exact h)⟩
open Cl in
set_option maxRecDepth 100000 in
theorem slotBytes_any (pages:Nat) (number:Int) (h1:pages≤34359738368) (W:World):
 Calls Tryz.prog 124 #[.int .u64 (pages:Nat), .int .i64 number] W fun e W'=>(∃x:Int,e= .returned (.tuple #[.int .i64 x, .bool (elemOf pages number).isSome])∧∀el,elemOf pages number=some el→x=(el:Nat))∧Below W.heap.size W W':=by
 obtain ⟨R,hR⟩:∃R:Ending→World→Prop,R=fun e W'=>(∃x:Int,e= .returned (.tuple #[.int .i64 x, .bool (elemOf pages number).isSome])∧∀el,elemOf pages number=some el→x=(el:Nat))∧Below W.heap.size W W':=⟨_,rfl⟩
 rw[←hR]
 have HR:=hide hR
 clear hR
 by_cases c0:number=0
 ·subst c0
  have CB:=hide (fun w=>by_any pages (by omega) w)
  have FF:=hide (show R (.returned (.tuple #[.int .i64 ((pages:Int) * 8192), .bool (decide ((pages:Int)≤134217728))])) W from by
   rw[HR.out,show decide ((pages:Int)≤134217728)=decide (pages≤134217728) from decide_eq_decide.2 (by omega)]
   refine ⟨⟨(pages:Int) * 8192,?_,fun el he=> ?_⟩,Below.refl _ _⟩
   ·unfold elemOf
    rw[if_pos rfl]
    by_cases c:pages≤134217728
    ·rw[if_pos c,decide_eq_true c];rfl
    ·rw[if_neg c,decide_eq_false c];rfl
   ·unfold elemOf at he
    rw[if_pos rfl] at he
    split at he
    ·have:=Option.some.inj he;rw[←this];push_cast;rfl
    ·cases he)
  clear HR h1
  go_enter Tryz.func124,Tryz.ntmps124
  go_wp2_with fail
  refine (CB.out _).mono ?_
  rintro e W1 ⟨rfl,hw⟩
  rw[hw]
  clear hw CB W1
  go_wp2_with fail
  first|exact FF.out|(go_ret2;exact FF.out)
 ·have d0:(number==0)=false:=by simpa using c0
  by_cases c1:number<0
  ·have d1:decide (number<0)=true:=decide_eq_true c1
   have FF:=hide (show ∀X,Below W.heap.size W X→R (.returned (.tuple #[.int .i64 0, .bool false])) X from fun X hX=>by
    rw[HR.out]
    have e:elemOf pages number=none:=by unfold elemOf;rw[if_neg c0,if_pos (.inl c1)]
    rw[e]
    exact ⟨⟨0,rfl,fun el he=>by cases he⟩,hX⟩)
   clear HR h1 c0
   go_enter Tryz.func124,Tryz.ntmps124
   go_wp2_with fail
   refine (table_any _).mono ?_
   rintro e W1 ⟨g,cap,rfl,o1,b1⟩
   have F1:=hide (FF.out W1 b1)
   clear o1 b1 FF
   go_wp2_with fail
   first|exact F1.out|(go_ret2;exact F1.out)
  ·have d1:decide (number<0)=false:=decide_eq_false c1
   by_cases c2:68≤number
   ·have d2:decide (68≤number)=true:=decide_eq_true c2
    have FF:=hide (show ∀X,Below W.heap.size W X→R (.returned (.tuple #[.int .i64 0, .bool false])) X from fun X hX=>by
     rw[HR.out]
     have e:elemOf pages number=none:=by unfold elemOf;rw[if_neg c0,if_pos (.inr c2)]
     rw[e]
     exact ⟨⟨0,rfl,fun el he=>by cases he⟩,hX⟩)
    clear HR h1 c0
    go_enter Tryz.func124,Tryz.ntmps124
    go_wp2_with fail
    refine (table_any _).mono ?_
    rintro e W1 ⟨g,cap,rfl,o1,b1⟩
    have F1:=hide (FF.out W1 b1)
    clear o1 b1 FF
    go_wp2_with fail
    first|exact F1.out|(go_ret2;exact F1.out)
   ·have d2:decide (68≤number)=false:=decide_eq_false c2
    obtain ⟨k,rfl⟩:∃k:Nat,number=k:=⟨number.toNat,by omega⟩
    obtain ⟨cl,hcl⟩:=table_some (k:=k) (by omega)
    have tf:=table_at (by omega) hcl
    have ee:elemOf pages (k:Int)=if cl.pages=pages then some cl.size else none:=by
     unfold elemOf
     rw[if_neg c0,if_neg (by omega),Int.toNat_natCast,hcl]
    have k1:(k:Int)<68:=by omega
    have k0:(0:Int)≤(k:Int):=by omega
    have w1:IntKind.u64.wrap (cl.pages:Int)=(cl.pages:Int):=by rw[IntKind.wrap_u64];omega
    have HC:=hide hcl
    clear hcl
    by_cases c3:cl.pages=pages
    ·rw[if_pos c3] at ee
     subst c3
     have FF:=hide (show ∀X,Below W.heap.size W X→R (.returned (.tuple #[.int .i64 (cl.size:Nat), .bool true])) X from fun X hX=>by
      rw[HR.out,ee]
      exact ⟨⟨_,rfl,fun el he=>by rw[Option.some.inj he]⟩,hX⟩)
     clear HR h1 c0 ee tf
     go_enter Tryz.func124,Tryz.ntmps124
     go_wp2_with fail
     refine (table_any _).mono ?_
     rintro e W1 ⟨g,cap,rfl,o1,b1⟩
     have F1:=hide (FF.out W1 b1)
     obtain ⟨x0,x1,x2,x3⟩:=list_at o1 (by rw[List.length_cons,table_len]) k cl HC.out
     clear o1 b1 FF
     go_wp2_with fail
     first|exact F1.out|(go_ret2;exact F1.out)
    ·rw[if_neg c3] at ee
     have d3:((cl.pages:Int) != (pages:Int))=true:=by simp;omega
     have d4:((cl.pages:Int)==(pages:Int))=false:=by simp;omega
     have FF:=hide (show ∀X,Below W.heap.size W X→R (.returned (.tuple #[.int .i64 0, .bool false])) X from fun X hX=>by
      rw[HR.out,ee]
      exact ⟨⟨0,rfl,fun el he=>by cases he⟩,hX⟩)
     clear HR h1 c0 ee tf
     go_enter Tryz.func124,Tryz.ntmps124
     go_wp2_with fail
     refine (table_any _).mono ?_
     rintro e W1 ⟨g,cap,rfl,o1,b1⟩
     have F1:=hide (FF.out W1 b1)
     obtain ⟨x0,x1,x2,x3⟩:=list_at o1 (by rw[List.length_cons,table_len]) k cl HC.out
     clear o1 b1 FF
     go_wp2_with fail
     first|exact F1.out|(go_ret2;exact F1.out)
theorem rp_le {page pages:Nat} (h:rpB page pages=true):0<pages∧page+pages≤34359738368:=by unfold rpB at h;exact of_decide_eq_true h
theorem new_class (page pages:Nat) (number:Int) (noptr:Bool) (h:rpB page pages=true) (he:elemOf pages number=none) (W:World):
 Calls Tryz.prog 69 #[.int .u64 (page:Nat), .int .u64 (pages:Nat), .int .i64 number, .bool noptr] W fun e W'=>e= .returned (.tuple #[.pointer none, .int .i64 1])∧Below W.heap.size W W':=by
 have le:=rp_le h
 have C:=hide (rp_any page pages (by omega) (by omega) W)
 rw[h] at C
 have CB:=hide (slotBytes_any pages number (by omega) W)
 rw[he] at CB
 clear h he le
 go_enter Tryz.func69,Tryz.ntmps69
 go_wp2_with fail
 refine C.out.mono ?_
 rintro e W1 ⟨rfl,hw⟩
 rw[hw]
 clear hw C W1
 go_wp2_with fail
 refine CB.out.mono ?_
 rintro e W1 ⟨⟨x,rfl,-⟩,b1⟩
 have B1:=hide b1
 clear b1 CB
 go_wp2_with fail
 go_ret2
 exact ⟨rfl,B1.out⟩
theorem elem_le {pages:Nat} {number:Int} {el:Nat} (h:elemOf pages number=some el) (hp:1≤pages):8≤el∧el≤1099511627776∧pages≤134217728∧0≤number∧number<68∧el≤pages * 8192∧pages * 8192/el≤1024:=by
 unfold elemOf at h
 split at h
 ·split at h
  ·have:=Option.some.inj h
   subst this
   rw[Nat.div_self (by omega)]
   omega
  ·cases h
 ·rename_i c0
  split at h
  ·cases h
  ·rename_i c1
   obtain ⟨c,hc⟩:=table_some (k:=number.toNat) (by omega)
   rw[hc] at h
   have tf:=table_at (by omega) hc
   simp only[] at h
   split at h
   ·rename_i c2
    have:=Option.some.inj h
    subst this
    have:c.slots=pages * 8192/c.size:=by rw[←c2];exact tf.1
    have m1:1 * c.size≤c.slots * c.size:=Nat.mul_le_mul_right _ tf.2.2.2.2.2.2.1
    omega
   ·cases h
set_option maxRecDepth 100000 in
theorem new_made (page pages:Nat) (number:Int) (noptr:Bool) (el:Nat) (h:rpB page pages=true) (he:elemOf pages number=some el) (W:World):
 Calls Tryz.prog 69 #[.int .u64 (page:Nat), .int .u64 (pages:Nat), .int .i64 number, .bool noptr] W fun e W'=>∃sb,e= .returned (.tuple #[.pointer (some ⟨sb,0,none⟩), .int .i64 0])∧W.heap.size≤sb∧Bk W' sb 144 (made page pages 1 number.toNat noptr el)∧Below W.heap.size W W':=by
 have le:=rp_le h
 have ee:=elem_le he (by omega)
 have C:=hide (rp_any page pages (by omega) (by omega) W)
 rw[h] at C
 have CB:=hide (slotBytes_any pages number (by omega) W)
 rw[he] at CB
 have CC:=hide (fun w=>cut_span page pages 1 number.toNat noptr el (by omega) (by omega) ee.1 ee.2.1 w)
 unfold info0 at CC
 rw[show ((number.toNat:Nat):Int)=number by omega,show ((1:Nat):Int)=1 from rfl] at CC
 clear h he le ee
 go_enter Tryz.func69,Tryz.ntmps69
 go_wp2_with fail
 refine C.out.mono ?_
 rintro e W1 ⟨rfl,hw⟩
 rw[hw]
 clear hw C W1
 go_wp2_with fail
 refine CB.out.mono ?_
 rintro e W1 ⟨⟨x,rfl,hx⟩,b1⟩
 have B1:=hide b1
 rw[hx el rfl]
 clear b1 CB hx
 go_wp2_with fail
 refine (CC.out _).mono ?_
 rintro e W2 ⟨rfl,k2,b2⟩
 have B2:=hide (And.intro k2 b2)
 clear CC k2 b2
 go_wp2_with fail
 go_ret2
 exact ⟨_,rfl,by have:=B1.out.size;omega,B2.out.1,B1.out.trans (B2.out.2.mono B1.out.size)⟩
end Go.Proofs.YtdgdhnnakcncoaaGreatDoor.N
namespace Go.Proofs.YtdgdhnnakcncoaaGreatDoor.N
set_option maxHeartbeats 1600000
open Go.ChangeShapes Go.WideShapes Go.ChangeAt Go.RowKit Go.Proofs.Sn Go.Shelf
set_option linter.unusedVariables false
set_option linter.unusedSimpArgs false
structure Sp (N:Nat) (W:World) (sb:Nat) (F:Nat→Prop) (G:Geo) (S:St):Prop where
 ex:∃v1 v2 ws ms,SpAt N W sb v1 v2 G S.st (Bt.cnt S.u 0 G.slots) ws ms S.look∧wb ws=S.u∧wb ms=S.m∧∀z,F z↔ownS sb v1 v2 z
 ok:SOk G.slots S
 g:GOk G
def St.new (st:Nat):St:=⟨st,fun _=>false,fun _=>false,0⟩
def St.next (S:St) (k:Nat):St:=⟨S.st,Go.Proofs.Sn.upd S.u k true,S.m,k+1⟩
def St.give (S:St) (k:Nat):St:=⟨S.st,Go.Proofs.Sn.upd S.u k false,S.m,min S.look k⟩
def St.die (S:St):St:=⟨0,fun _=>false,fun _=>false,S.look⟩
theorem SOk.new (n st:Nat):SOk n (St.new st):=⟨fun i h=>(by cases h),fun i h=>(by cases h),Nat.zero_le _⟩
theorem SOk.next {n:Nat} {S:St} (h:SOk n S) {k:Nat} (hk:k<n):SOk n (S.next k):=
 ⟨fun i hi=>by
  by_cases e:i=k
  ·omega
  ·exact h.su i (by have:=hi;unfold St.next at this;rwa[show (⟨S.st,Go.Proofs.Sn.upd S.u k true,S.m,k+1⟩:St).u=Go.Proofs.Sn.upd S.u k true from rfl,upd_ne _ _ e] at this),h.sm,hk⟩
theorem SOk.give {n:Nat} {S:St} (h:SOk n S) (k:Nat):SOk n (S.give k):=
 ⟨fun i hi=>by
  by_cases e:i=k
  ·have:=hi;unfold St.give at this;rw[show (⟨S.st,Go.Proofs.Sn.upd S.u k false,S.m,min S.look k⟩:St).u=Go.Proofs.Sn.upd S.u k false from rfl,e,upd_self] at this;cases this
  ·exact h.su i (by have:=hi;unfold St.give at this;rwa[show (⟨S.st,Go.Proofs.Sn.upd S.u k false,S.m,min S.look k⟩:St).u=Go.Proofs.Sn.upd S.u k false from rfl,upd_ne _ _ e] at this),h.sm,Nat.le_trans (Nat.min_le_left _ _) h.lk⟩
theorem SOk.die {n:Nat} {S:St} (h:SOk n S):SOk n S.die:=⟨fun i hi=>(by cases hi),fun i hi=>(by cases hi),h.lk⟩
theorem first_ex {u:Nat→Bool} {n:Nat} (h:∀i,u i=true→i<n):∀d i,n - i=d→∃k,Go.Proofs.Sn.First u i k
 |0,i,hd=>⟨i,Nat.le_refl _,by
  cases c:u i with
  |false=>rfl
  |true=>have:=h i c;omega,fun j h1 h2=>by omega⟩
 |d+1,i,hd=>by
  cases c:u i with
  |false=>exact ⟨i,Nat.le_refl _,c,fun j h1 h2=>by omega⟩
  |true=>
   obtain ⟨k,h1,h2,h3⟩:=first_ex h d (i+1) (by omega)
   refine ⟨k,by omega,h2,fun j j1 j2=> ?_⟩
   by_cases e:j=i
   ·rw[e];exact c
   ·exact h3 j (by omega) j2
section
variable {N:Nat} {W W':World} {sb:Nat} {F:Nat→Prop} {G:Geo} {S:St}
theorem Sp.lt (h:Sp N W sb F G S) {z:Nat} (hz:F z):N≤z∧z<W.heap.size:=by
 obtain ⟨v1,v2,ws,ms,a,_,_,hF⟩:=h.ex
 exact a.own ((hF z).1 hz)
theorem Sp.kept {K:Nat→Prop} (h:Sp N W sb F G S) (k:Kept K W W') (hK:∀z,F z→¬K z):Sp N W' sb F G S:=by
 obtain ⟨v1,v2,ws,ms,a,b,c,hF⟩:=h.ex
 exact ⟨⟨v1,v2,ws,ms,a.kept k (fun z hz=>hK z ((hF z).2 hz)),b,c,hF⟩,h.ok,h.g⟩
theorem Sp.below (h:Sp N W sb F G S) (k:Below W.heap.size W W'):Sp N W' sb F G S:=h.kept (Kept.of_below (F:=fun _=>False) k) (fun _ _ f=>f)
theorem Sp.first (h:Sp N W sb F G S):∃k,Go.Proofs.Sn.First S.u S.look k:=first_ex h.ok.su _ _ rfl
theorem Sp.to {v1 v2:Value} {S':St} {c:Nat} (hF:∀z,F z↔ownS sb v1 v2 z) (t:SpTo N W W' sb v1 v2 G S'.st c S'.u S'.m S'.look) (hc:c=Bt.cnt S'.u 0 G.slots) (ok:SOk G.slots S') (g:GOk G):∃F',Sp N W' sb F' G S'∧To W W' F F':=by
 obtain ⟨v1',v2',ws',ms',a,b,d,k,n⟩:=t
 rw[hc] at a
 refine ⟨ownS sb v1' v2',⟨⟨v1',v2',ws',ms',a,b,d,fun _=>Iff.rfl⟩,ok,g⟩,k.mono (fun z hz=>(hF z).2 hz),fun z hz=> ?_⟩
 rcases n z hz with u|u
 ·exact .inl ((hF z).2 u)
 ·exact .inr u
theorem sp_die (h:Sp N W sb F G S) (hs:S.st≠0) (hc:Bt.cnt S.u 0 G.slots=0):Calls Tryz.prog 85 #[.pointer (some ⟨sb,0,none⟩)] W fun e W'=>e= .returned (.int .i64 0)∧∃F',Sp N W' sb F' G S.die∧To W W' F F':=by
 obtain ⟨v1,v2,ws,ms,a,b,c,hF⟩:=h.ex
 rw[hc] at a
 refine (die_ok a hs).mono ?_
 rintro e W' ⟨rfl,t⟩
 exact ⟨rfl,Sp.to (S':=S.die) hF t (Bt.cnt_none (fun _ _=>rfl)).symm h.ok.die h.g⟩
theorem sp_info (h:Sp N W sb F G S):Calls Tryz.prog 22 #[.pointer (some ⟨sb,0,none⟩)] W fun e W'=>e= .returned (infoV G S.st (Bt.cnt S.u 0 G.slots))∧Below W.heap.size W W':=by
 obtain ⟨v1,v2,ws,ms,a,b,c,hF⟩:=h.ex
 exact info_any a
theorem geo_ok {page pages cls elem:Nat} {noptr:Bool} (hr:rpB page pages=true) (hp:pages≤134217728) (h8:8≤elem) (hl:elem≤pages * 8192) (hs:pages * 8192/elem≤65536):GOk (geo page pages cls noptr elem):=by
 have le:=rp_le hr
 have m:=Nat.div_mul_le_self (pages * 8192) elem
 refine ⟨hs,hp,h8,by show elem≤_;omega,by show page * 8192+pages * 8192/elem * elem≤_;omega,?_⟩
 show (if pages * 8192≤131072∧elem≤32768 then Cl.magicN elem else 0)=0∨_
 by_cases c:pages * 8192≤131072∧elem≤32768
 ·refine .inr ⟨?_,c.2,?_⟩
  ·show (if pages * 8192≤131072∧elem≤32768 then Cl.magicN elem else 0)=_
   rw[if_pos c];rfl
  ·show pages * 8192/elem * elem≤131072
   omega
 ·rw[if_neg c];exact .inl rfl
theorem Sp.made {page pages st cls elem:Nat} {noptr:Bool} (hb:Bk W sb 144 (made page pages st cls noptr elem)) (hN:N≤sb) (g:GOk (geo page pages cls noptr elem)):Sp N W sb (fun z=>z=sb) (geo page pages cls noptr elem) (St.new st):=by
 refine ⟨⟨.slice none 0 0, .slice none 0 0,[],[],⟨?_,Wr.none _ _,Wr.none _ _,hN,own_none _,own_none _,fun g hg=>own_none _,by simp,by simp⟩,funext wb_nil,funext wb_nil,fun z=>⟨.inl,fun h=> ?_⟩⟩,SOk.new _ _,g⟩
 ·rw[show Bt.cnt (St.new st).u 0 (geo page pages cls noptr elem).slots=0 from Bt.cnt_none (fun _ _=>rfl)]
  exact hb
 ·rcases h with h|h|h
  ·exact h
  ·exact absurd h (own_none _)
  ·exact absurd h (own_none _)
end
end Go.Proofs.YtdgdhnnakcncoaaGreatDoor.N
namespace Go.Proofs.YtdgdhnnakcncoaaGreatDoor.N
set_option maxHeartbeats 1600000
open Go.ChangeShapes Go.WideShapes Go.ChangeAt Go.RowKit Go.Proofs.Sn Go.Shelf
set_option linter.unusedVariables false
set_option linter.unusedSimpArgs false
structure LS (N:Nat) (w W:World) (sb:Nat) (O:Nat→Prop) (G:Geo) (S:St):Prop where
 ex:∃F,Sp N W sb F G S∧∀z,O z→¬F z
 ol:∀z,O z→N≤z∧z<W.heap.size
 be:Below N w W
 nw:N≤W.heap.size
 tab:TabW W
 n0:0<N
def LeftO (O:Nat→Prop) (W W':World):Prop:=∃K,Kept K W W'∧∀z,O z→¬K z
theorem LeftO.refl (O:Nat→Prop) (W:World):LeftO O W W:=⟨fun _=>False,Kept.refl _ _,fun _ _ f=>f⟩
theorem LeftO.of_below {O:Nat→Prop} {W W':World} (h:Below W.heap.size W W'):LeftO O W W':=⟨fun _=>False,Kept.of_below h,fun _ _ f=>f⟩
theorem LeftO.row {O:Nat→Prop} {W W':World} (h:LeftO O W W') {M e sz n:Nat} {v:Value} {xs:List Value} (o:W.ownsRow M e sz v n xs) (ho:∀g,v.ownBlock=some g→O g):W'.ownsRow M e sz v n xs:=by
 obtain ⟨K,k,hk⟩:=h
 exact owns_kept o k (fun g hg=>hk g (ho g hg))
theorem LeftO.bk {O:Nat→Prop} {W W':World} (h:LeftO O W W') {b:Nat} {t:TypeId} {vs:Array Value} (o:Bk W b t vs) (ho:O b):Bk W' b t vs:=by
 obtain ⟨K,k,hk⟩:=h
 exact o.kept k (hk b ho)
theorem LeftO.mono {O O':Nat→Prop} {W W':World} (h:LeftO O W W') (ho:∀z,O' z→O z):LeftO O' W W':=by
 obtain ⟨K,k,hk⟩:=h
 exact ⟨K,k,fun z hz=>hk z (ho z hz)⟩
section
variable {N:Nat} {w W W':World} {sb:Nat} {O:Nat→Prop} {G:Geo} {S S':St}
theorem LS.step (h:LS N w W sb O G S) {F F':Nat→Prop} (f:Sp N W sb F G S) (d:∀z,O z→¬F z) (f':Sp N W' sb F' G S') (t:To W W' F F'):LS N w W' sb O G S'∧LeftO O W W':=by
 have bl:Below N W W':=t.1.below h.nw (fun z hz=>(f.lt hz).1)
 refine ⟨⟨⟨F',f',fun z hz y=> ?_⟩,fun z hz=>⟨(h.ol z hz).1,Nat.lt_of_lt_of_le (h.ol z hz).2 t.1.size⟩,h.be.trans bl,Nat.le_trans h.nw t.1.size,h.tab.below h.n0 bl,h.n0⟩,F,t.1,d⟩
 rcases t.2 z y with u|u
 ·exact d z hz u
 ·have:=(h.ol z hz).2;omega
theorem LS.read (h:LS N w W sb O G S) (k:Below W.heap.size W W'):LS N w W' sb O G S:=by
 obtain ⟨F,f,d⟩:=h.ex
 exact ⟨⟨F,f.below k,d⟩,fun z hz=>⟨(h.ol z hz).1,Nat.lt_of_lt_of_le (h.ol z hz).2 k.size⟩,h.be.trans (k.mono h.nw),Nat.le_trans h.nw k.size,h.tab.below h.n0 (k.mono h.nw),h.n0⟩
theorem LS.own (h:LS N w W sb O G S) (k:Kept O W W'):LS N w W' sb O G S:=by
 obtain ⟨F,f,d⟩:=h.ex
 have bl:Below N W W':=k.below h.nw (fun z hz=>(h.ol z hz).1)
 exact ⟨⟨F,f.kept k (fun z hz u=>d z u hz),d⟩,fun z hz=>⟨(h.ol z hz).1,Nat.lt_of_lt_of_le (h.ol z hz).2 k.size⟩,h.be.trans bl,Nat.le_trans h.nw k.size,h.tab.below h.n0 bl,h.n0⟩
theorem LS.with (h:LS N w W sb O G S) {O':Nat→Prop} (ho:∀z,O' z→N≤z∧z<W.heap.size) (hd:∀F,Sp N W sb F G S→(∀z,O z→¬F z)→∃F',Sp N W sb F' G S∧∀z,O' z→¬F' z):LS N w W sb O' G S:=by
 obtain ⟨F,f,d⟩:=h.ex
 exact ⟨hd F f d,ho,h.be,h.nw,h.tab,h.n0⟩
theorem LS.less (h:LS N w W sb O G S) {O':Nat→Prop} (ho:∀z,O' z→O z):LS N w W sb O' G S:=by
 obtain ⟨F,f,d⟩:=h.ex
 exact ⟨⟨F,f,fun z hz=>d z (ho z hz)⟩,fun z hz=>h.ol z (ho z hz),h.be,h.nw,h.tab,h.n0⟩
theorem LS.made (h:LS N w W sb O G S) (k:Below W.heap.size W W') {O':Nat→Prop} (ho:∀z,O' z→O z∨(W.heap.size≤z∧z<W'.heap.size)):LS N w W' sb O' G S:=by
 obtain ⟨F,f,d⟩:=h.ex
 refine ⟨⟨F,f.below k,fun z hz u=> ?_⟩,fun z hz=> ?_,h.be.trans (k.mono h.nw),Nat.le_trans h.nw k.size,h.tab.below h.n0 (k.mono h.nw),h.n0⟩
 ·rcases ho z hz with y|y
  ·exact d z y u
  ·have:=(f.lt u).2;omega
 ·rcases ho z hz with y|y
  ·exact ⟨(h.ol z y).1,Nat.lt_of_lt_of_le (h.ol z y).2 k.size⟩
  ·exact ⟨Nat.le_trans h.nw y.1,y.2⟩
theorem LS.first (h:LS N w W sb O G S):∃k,Go.Proofs.Sn.First S.u S.look k:=by
 obtain ⟨F,f,d⟩:=h.ex
 exact f.first
theorem LS.ok (h:LS N w W sb O G S):SOk G.slots S:=by
 obtain ⟨F,f,d⟩:=h.ex
 exact f.ok
theorem LS.g (h:LS N w W sb O G S):GOk G:=by
 obtain ⟨F,f,d⟩:=h.ex
 exact f.g
end
theorem aw_elem:elemOf 1 5=some 48:=by decide+kernel
end Go.Proofs.YtdgdhnnakcncoaaGreatDoor.N
