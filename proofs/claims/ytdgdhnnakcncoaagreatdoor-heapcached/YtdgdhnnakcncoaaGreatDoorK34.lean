/- Of the proof of HeapCached: texts VFr, VVmP, VVmQ, VVmRa, VVmS, VVmT. -/
import Derived.Test.YtdgdhnnakcncoaaGreatDoorK27
import Derived.Test.YtdgdhnnakcncoaaGreatDoorK28
import Derived.Test.YtdgdhnnakcncoaaGreatDoorK29
import Derived.Test.YtdgdhnnakcncoaaGreatDoorK33
import Derived.Test.YtdgdhnnakcncoaaGreatDoorK32
import Derived.Defers
import Derived.Recover
import Derived.Laws.Pointers
namespace Go.Proofs.Sp
set_option linter.unusedVariables false
set_option linter.unusedSimpArgs false
def fitsR (R:List (Nat×Nat)) (a pages i:Nat):Prop:=(R[i]?.map (·.2))=some 0∧max a (startR R 34359738368 i)+pages≤startR R 34359738368 (i+1)
def fromR (hint:Nat):Nat:=max ((hint+511)/512 * 512) 512
theorem rows_of_free {S:Sp} {R:List (Nat×Nat)} {hint pages i0 q:Nat} (h:Seg S.st 0 R 34359738368) (hA:Alt R) (hi0:i0<R.length) (h1:R[i0].1≤fromR hint) (hp:0<pages) (hf:free S pages q) (hq:hint≤q):
 ∃i,i0≤i∧i<R.length∧fitsR R (fromR hint) pages i∧max (fromR hint) (startR R 34359738368 i)≤q:=by
 obtain ⟨f1,f2,f3,f4⟩:=hf
 have hF:fromR hint≤q:=by unfold fromR;omega
 obtain ⟨i,hi,q1,q2⟩:=h.at q (by omega) (by omega)
 have r:=h.row i hi
 have z:R[i].2=0:=by rw[←r.2.2.2 q q1 q2];exact f4 0 hp
 have hlt:q+pages≤startR R 34359738368 (i+1):=by
  by_cases c:q+pages≤startR R 34359738368 (i+1)
  ·exact c
  ·exfalso
   have hi1:i+1<R.length:=by
    by_cases d:i+1<R.length
    ·exact d
    ·rw[startR_ge (by omega)] at c;omega
   have r1:=h.row (i+1) hi1
   have n:=hA.get i hi1
   rw[startR_lt hi1] at c q2
   have e:=f4 (R[i+1].1 - q) (by omega)
   rw[show q+(R[i+1].1 - q)=R[i+1].1 by omega,r1.2.2.2 _ (Nat.le_refl _) r1.2.1] at e
   rw[z,e] at n
   exact n rfl
 refine ⟨i,?_,hi,⟨by rw[List.getElem?_eq_getElem hi];simp[z],by rw[startR_lt hi];omega⟩,by rw[startR_lt hi];omega⟩
 by_cases c:i0≤i
 ·exact c
 ·exfalso
  have:=h.rise (i:=i) (j:=i0) (by omega) hi
  by_cases d:i0=i+1
  ·subst d;rw[startR_lt hi0] at q2;omega
  ·have hi1:i+1<R.length:=by omega
   have:=h.rise (i:=i+1) (j:=i0) (by omega) hi1
   rw[startR_lt hi1] at q2
   rw[startR_lt hi0] at this
   omega
theorem free_found {S:Sp} {R:List (Nat×Nat)} {hint pages i0 i:Nat} (h:Seg S.st 0 R 34359738368) (hA:Alt R) (hc:∀p,S.st p=0↔S.st (p/512 * 512)=0) (hi0:i0<R.length) (h1:R[i0].1≤fromR hint) (h2:fromR hint<startR R 34359738368 (i0+1)) (hp:0<pages)
 (hii:i0≤i) (hi:i<R.length) (hfit:fitsR R (fromR hint) pages i) (hno:∀k,i0≤k→k<i→¬fitsR R (fromR hint) pages k):firstFrom S hint pages=some (max (fromR hint) (startR R 34359738368 i)):=by
 obtain ⟨z,hl⟩:=hfit
 rw[List.getElem?_eq_getElem hi] at z
 have z':R[i].2=0:=by simpa using z
 have r:=h.row i hi
 have b:=none_begins h hA hc hi z'
 rw[startR_lt hi] at hl ⊢
 have hin:fromR hint<startR R 34359738368 (i+1):=by omega
 refine first_at hp ⟨?_,?_,?_,?_⟩ ?_ ?_
 ·have:fromR hint%512=0:=by unfold fromR;omega
  omega
 ·unfold fromR;omega
 ·omega
 ·intro k hk
  rw[r.2.2.2 _ (by omega) (by omega)];exact z'
 ·unfold fromR;omega
 ·intro k k1 k2 hf
  obtain ⟨i',a1,a2,a3,a4⟩:=rows_of_free h hA hi0 h1 hp hf k1
  by_cases c:i'<i
  ·exact hno i' a1 c a3
  ·by_cases d:i'=i
   ·subst d;rw[startR_lt hi] at a4;omega
   ·have:=h.rise (i:=i) (j:=i') (by omega) hi
    rw[startR_lt a2] at a4 this
    omega
theorem free_none {S:Sp} {R:List (Nat×Nat)} {hint pages i0:Nat} (h:Seg S.st 0 R 34359738368) (hA:Alt R) (hi0:i0<R.length) (h1:R[i0].1≤fromR hint) (hp:0<pages) (hno:∀k,i0≤k→k<R.length→¬fitsR R (fromR hint) pages k):firstFrom S hint pages=none:=by
 cases e:firstFrom S hint pages with
 |none=>rfl
 |some q=>
  obtain ⟨a,b,_⟩:=first_some e
  obtain ⟨i',a1,a2,a3,_⟩:=rows_of_free h hA hi0 h1 hp a b
  exact absurd a3 (hno i' a1 a2)
theorem free_high {S:Sp} {hint pages:Nat} (hp:0<pages) (h:34359738368<hint+pages):firstFrom S hint pages=none:=by
 cases e:firstFrom S hint pages with
 |none=>rfl
 |some q=>
  obtain ⟨a,b,_⟩:=first_some e
  have:=a.2.2.1
  omega
end Go.Proofs.Sp
namespace Go.Proofs.YtdgdhnnakcncoaaGreatDoor.V
set_option maxHeartbeats 1600000
open Go.ChangeShapes Go.WideShapes Go.ChangeAt Go.RowKit Go.Proofs.Sp
def opt2 (x:Option Nat):Value:= .tuple #[.int .u64 ((x.getD 0:Nat):Int), .bool x.isSome]
set_option maxRecDepth 100000 in
set_option maxHeartbeats 2000000 in
theorem free_core (b o g cap:Nat) (R:List (Nat×Nat)) (S:Sp) (hint pages:Int) (h0:0≤hint) (h0':hint<18446744073709551616) (hp:0<pages) (hp':pages≤134217728) (hp5:pages%512=0) (hn:R.length≤70368744177664) (w:World) (hL:ListAt w b o g cap R) (hs:Seg S.st 0 R 34359738368) (hA:Alt R) (hc:∀p,S.st p=0↔S.st (p/512 * 512)=0):
 Calls Tryz.prog 316 #[.pointer (some ⟨b,o,none⟩), .int .u64 hint, .int .u64 pages] w fun e w'=>e= .returned (opt2 (firstFrom S hint.toNat pages.toNat))∧Below w.heap.size w w':=by
 by_cases hh:34359738368 - pages<hint
 ·have e0:=free_high (S:=S) (hint:=hint.toNat) (pages:=pages.toNat) (by omega) (by omega)
  rw[e0]
  clear hL hs hA hc e0
  go_enter Tryz.func316,Tryz.ntmps316
  go_wp2_with fail
  go_ret2
  exact ⟨rfl,Below.refl _ _⟩
 ·have hl:=hL.list
  have hlt:=cell_lt hl
  obtain ⟨u,hu⟩:∃u:Nat,u=fromR hint.toNat:=⟨_,rfl⟩
  have hu1:u+pages.toNat≤34359738368:=by rw[hu];unfold fromR;omega
  obtain ⟨i0,hi0,a1,a2⟩:=hs.at u (by omega) (by omega)
  have found:=fun i (x:i0≤i) (y:i<R.length) z t=>free_found hs hA hc hi0 (by rw[←hu];exact a1) (by rw[←hu];exact a2) (pages:=pages.toNat) (by omega) x y z t
  have none:=free_none hs hA hi0 (by rw[←hu];exact a1) (pages:=pages.toNat) (by omega)
  rw[←hu] at found none
  have FOUND:=hide found
  have NONE:=hide none
  have A12:=hide (And.intro a1 a2)
  have HL:=hide hL
  have HS:=hide hs
  have hcu:(hint+511)/512 * 512≤34359738368:=by omega
  have hm:(u:Int)=if (hint+511)/512 * 512<512 then 512 else (hint+511)/512 * 512:=by
   rw[hu];unfold fromR;split<;>omega
  have HMx:=hide hm
  clear found none a1 a2 hL hs hA hc hu hm
  go_enter Tryz.func316,Tryz.ntmps316
  go_wp2_with fail
  refine (chunkUp_core hint h0 (by omega) w).mono ?_
  rintro e w1 ⟨rfl,rfl⟩
  generalize hcx:(hint+511)/512 * 512=cx at *
  clear hcx
  have hmx:(if cx<512 then (512:Int) else cx)=(u:Int):=HMx.out.symm
  clear HMx
  go_wp2_with fail
  refine (at_core b o g cap R S.st (u:Int) (by omega) (by omega) hn _ HL.out HS.out i0 hi0 (by have:=A12.out.1;simpa using this) (by have:=A12.out.2;simpa using this)).mono ?_
  rintro e w2 ⟨rfl,b2⟩
  clear hmx
  have L2:=hide (HL.out.below b2)
  go_wp2_with fail
  go_loopw [8] (fun iv wr=>∃i:Nat,iv= .int .i64 (i:Int)∧i0≤i∧i≤R.length∧wr=w2∧Hid (∀k,i0≤k→k<i→¬fitsR R u pages.toNat k)) (fun iv _=>R.length -(intOf iv).toNat)
  case atStart=>exact ⟨i0,rfl,Nat.le_refl _,by omega,rfl,fun k x y=>by omega⟩
  case round=>
   obtain ⟨i,rfl,hi1,hi2,rfl,hno⟩:=hrel
   have ll:=L2.out.list
   by_cases hi:i<R.length
   ·have f1:=L2.out.first i hi
    have f2:=L2.out.state i hi
    have r:=HS.out.row i hi
    have ec:=end_core b o g cap R (i:Int) (by omega) (by omega) hn wr L2.out
    rw[show ((i:Int).toNat+1)=i+1 by omega] at ec
    have ft:fitsR R u pages.toNat i↔R[i].2=0∧max u R[i].1+pages.toNat≤startR R 34359738368 (i+1):=by
     unfold fitsR;rw[List.getElem?_eq_getElem hi,startR_lt hi];simp
    have fd:=FOUND.out i hi1 hi
    rw[startR_lt hi] at fd
    obtain ⟨x,hx⟩:∃x,x=R[i].1:=⟨_,rfl⟩
    obtain ⟨s,hsx⟩:∃s,s=R[i].2:=⟨_,rfl⟩
    obtain ⟨y,hy⟩:∃y,y=startR R 34359738368 (i+1):=⟨_,rfl⟩
    rw[←hx] at f1 ft fd
    rw[←hsx] at f2 ft
    rw[←hy] at ft ec
    have hxy:x<y:=by rw[hx,hy];exact r.2.1
    have hyl:y≤34359738368:=by rw[hy];exact r.2.2.1
    have huy:u<y:=by
     by_cases c:i=i0
     ·rw[hy,c];exact A12.out.2
     ·have:=HS.out.rise (i:=i0) (j:=i) (by omega) hi0
      have h5:=A12.out.2
      have h6:startR R 34359738368 (i0+1)≤R[i].1:=by
       by_cases d:i=i0+1
       ·subst d;rw[startR_lt hi];exact Nat.le_refl _
       ·have hq:i0+1<R.length:=by omega
        have:=HS.out.rise (i:=i0+1) (j:=i) (by omega) hq
        rw[startR_lt hi] at this
        rw[startR_lt hq];omega
      omega
    obtain ⟨m,hmx⟩:∃m,m=max u x:=⟨_,rfl⟩
    have hmi:((u:Int)<(x:Int)∧m=x)∨(¬(u:Int)<(x:Int)∧m=u):=by omega
    have hmy:m<y:=by omega
    rw[←hmx] at ft fd
    have FTX:=hide ft
    have FDX:=hide fd
    have EC:=hide ec
    clear ft fd ec hx hsx hy hmx r
    rcases hmi with ⟨hux,rfl⟩|⟨hux,rfl⟩
    all_goals
     by_cases hz:s=0
     ·have hz':((s:Int)==0)=true:=by rw[hz];rfl
      by_cases hq:pages≤(y:Int) -(m:Int)
      ·go_wp2_with (go_at_call 204;refine EC.out.mono ?_;rintro e w' ⟨rfl,rfl⟩)
       go_ret2
       have:=FDX.out (FTX.out.2 ⟨hz,by omega⟩) hno.out
       exact ⟨by rw[this];rfl,b2⟩
      ·go_wp2_with (go_at_call 204;refine EC.out.mono ?_;rintro e w' ⟨rfl,rfl⟩)
       go_roundw
       case rel=>exact ⟨i+1,by go_num,by omega,by omega,trivial,hide fun k x y=>by
        by_cases c:k=i
        ·subst c;rw[FTX.out];omega
        ·exact hno.out k x (by omega)⟩
       case measure=>simp[intOf];omega
     ·have hz':((s:Int)==0)=false:=beq_eq_false_iff_ne.2 (by omega)
      go_wp2_with fail
      go_roundw
      case rel=>exact ⟨i+1,by go_num,by omega,by omega,trivial,hide fun k x y=>by
       by_cases c:k=i
       ·subst c;rw[FTX.out];omega
       ·exact hno.out k x (by omega)⟩
      case measure=>simp[intOf];omega
   ·have fn:=NONE.out fun k x y=>hno.out k x (by omega)
    have FN:=hide fn
    clear fn
    go_wp2_with fail
    go_ret2
    exact ⟨by rw[FN.out];rfl,b2⟩
end Go.Proofs.YtdgdhnnakcncoaaGreatDoor.V
namespace Go.Proofs.YtdgdhnnakcncoaaGreatDoor.V
set_option maxHeartbeats 1600000
open Go.ChangeShapes Go.WideShapes Go.ChangeAt Go.RowKit Go.Proofs.Sp
structure Cell1 (b k:Nat) (w w':World) (v:Value):Prop where
 os:w'.os=w.os
 tape:w'.tape=w.tape
 output:w'.output=w.output
 size:w.heap.size≤w'.heap.size
 block:∀x,x<w.heap.size→x≠b→w'.heap[x]? =w.heap[x]?
 cell:∀j,j≠k→w'.cell? ⟨b,j,none⟩=w.cell? ⟨b,j,none⟩
 here:w'.cell? ⟨b,k,none⟩=some v
 fz:∀j,w'.frozen? ⟨b,j,none⟩=w.frozen? ⟨b,j,none⟩
theorem Cell1.start {b k:Nat} {w:World} {v:Value} (h:w.cell? ⟨b,k,none⟩=some v):Cell1 b k w w v:=⟨rfl,rfl,rfl,Nat.le_refl _,fun _ _ _=>rfl,fun _ _=>rfl,h,fun _=>rfl⟩
theorem Cell1.put {b k:Nat} {w:World} {v v':Value} (h:w.cell? ⟨b,k,none⟩=some v):Cell1 b k w (w.setCell ⟨b,k,none⟩ v') v':=
 ⟨rfl,rfl,rfl,by simp,fun x _ hne=>Below.heap_setCell _ _ _ _ (by simpa using hne),fun j hj=>World.cell?_setCell_other _ _ _ _ (by intro e;have:=congrArg Addr.off e;simp at this;omega),World.cell?_setCell_same _ _ _ h,fun j=>World.frozen?_setCell _ _ _ _⟩
theorem Cell1.below {b k:Nat} {w w' w2:World} {v:Value} (h:Cell1 b k w w' v) (hb:b<w.heap.size) (hl:Below w'.heap.size w' w2):Cell1 b k w w2 v:=by
 have hs:=h.size
 refine ⟨hl.os.trans h.os,hl.tape.trans h.tape,hl.output.trans h.output,Nat.le_trans hs hl.size,fun x hx hne=>by rw[hl.block x (by omega)];exact h.block x hx hne,fun j hj=> ?_,?_,fun j=> ?_⟩
 ·rw[hl.cell (p:=⟨b,j,none⟩) (show b<_ by omega)];exact h.cell j hj
 ·rw[hl.cell (p:=⟨b,k,none⟩) (show b<_ by omega)];exact h.here
 ·rw[hl.frozen (p:=⟨b,j,none⟩) (show b<_ by omega)];exact h.fz j
theorem Cell1.listAt {b k o g cap:Nat} {w w':World} {v:Value} {R:List (Nat×Nat)} (h:Cell1 b k w w' v) (hL:ListAt w b o g cap R) (hg:g≠b) (ho:o≠k):ListAt w' b o g cap R:=
 ⟨by rw[h.cell o ho];exact hL.list,fun i hi=>by rw[World.cell?_of_block (h.block g (cell_lt (hL.first i hi)) hg)];exact hL.first i hi,fun i hi=>by rw[World.cell?_of_block (h.block g (cell_lt (hL.state i hi)) hg)];exact hL.state i hi⟩
theorem Cell1.slB {b k g:Nat} {w w':World} {v u:Value} {xs:List Value} (h:Cell1 b k w w' v) (hs:SlB w u xs g) (hg:g≠b):SlB w' u xs g:=hs.kept h.size (fun hl=>h.block g hl hg)
theorem asked_first (S:Sp) (pages x:Nat) (hp:0<pages):firstFrom S x pages=some x↔free S pages x:=
 ⟨fun h=>(first_some h).1,fun h=>first_at hp h (Nat.le_refl _) (fun j h1 h2=>by omega)⟩
theorem opt2_some (q:Nat):opt2 (some q)= .tuple #[.int .u64 (q:Int), .bool true]:=rfl
theorem opt2_none:opt2 none= .tuple #[.int .u64 0, .bool false]:=rfl
def placeA (S:Sp) (hint pages:Nat):Option Nat:=(asked S pages).or ((firstFrom S hint pages).or (firstFrom S 0 pages))
set_option maxRecDepth 100000 in
set_option maxHeartbeats 2000000 in
theorem place_core (b g g0 cap:Nat) (v0:Value) (R:List (Nat×Nat)) (S:Sp) (hint pages:Int) (h0:0≤hint) (h0':hint<18446744073709551616) (hp:0<pages) (hp':pages≤134217728) (hp5:pages%512=0) (hn:R.length≤70368744177664) (w:World) (hL:ListAt w b 3 g cap R) (hs:Seg S.st 0 R 34359738368) (hA:Alt R) (hc:∀p,S.st p=0↔S.st (p/512 * 512)=0)
 (hv:w.cell? ⟨b,0,none⟩=some v0) (hf:w.frozen? ⟨b,0,none⟩=false) (hsl:SlB w v0 (u64s S.places) g0) (hpl:∀x∈S.places,x<18446744073709551616) (hg:g≠b) (hg0:g0≠b):
 Calls Tryz.prog 307 #[.pointer (some ⟨b,0,none⟩), .int .u64 hint, .int .u64 pages] w fun e w'=>e= .returned (opt2 (placeA S hint.toNat pages.toNat))∧∃v',Cell1 b 0 w w' v'∧SlB w' v' (u64s S.places.tail) g0:=by
 have hbl:=cell_lt hv
 have FC:=hide (fun (x:Int) (x0:0≤x) (x1:x<18446744073709551616) (W:World) (hW:ListAt W b 3 g cap R)=>free_core b 3 g cap R S x pages x0 x1 hp hp' hp5 hn W hW hs hA hc)
 have HL:=hide hL
 have HSL:=hide hsl
 have HPL:=hide hpl
 have AF:=hide (asked_first S pages.toNat)
 clear hL hs hA hc hsl hpl
 go_enter Tryz.func307,Tryz.ntmps307
 go_wp2_with fail
 refine (next_u64 b 0 g0 v0 S.places w hv hf HSL.out).mono ?_
 rintro e w1 ⟨rfl,hnx⟩
 obtain ⟨v1,c1,s1⟩:∃v1,Cell1 b 0 w w1 v1∧SlB w1 v1 (u64s S.places.tail) g0:=by
  rcases hnx with ⟨hnil,rfl⟩|⟨v',rfl,hs'⟩
  ·exact ⟨v0,Cell1.start hv,by have:=HSL.out;rw[hnil] at this ⊢;exact this⟩
  ·exact ⟨v',Cell1.put hv,(Cell1.put (v':=v') hv).slB hs' hg0⟩
 have C1:=hide c1
 have S1:=hide s1
 clear c1 s1 hnx HSL
 cases hpl:S.places with
 |nil=>
  have ha:asked S pages.toNat=none:=by unfold asked;rw[hpl];rfl
  clear hpl HPL
  have HA:=hide ha
  clear ha
  have fc:=FC.out hint h0 h0' w1 (C1.out.listAt HL.out hg (by decide))
  cases hq:firstFrom S hint.toNat pages.toNat with
  |some q=>
   rw[hq,opt2_some] at fc
   have fin:Hid (placeA S hint.toNat pages.toNat=some q):=by
    have:placeA S hint.toNat pages.toNat=some q:=by unfold placeA;rw[HA.out,hq];rfl
    exact this
   have FCC:=hide fc
   clear fc hq
   go_wp2_with fail
   refine FCC.out.mono ?_
   rintro e w2 ⟨rfl,b2⟩
   clear FCC
   go_wp2_with fail
   go_ret2
   exact ⟨by rw[fin.out];rfl,_,C1.out.below hbl b2,S1.out.kept b2.size (fun hl=>b2.block _ hl)⟩
  |none=>
   rw[hq,opt2_none] at fc
   have FCC:=hide fc
   have HQ:=hide hq
   clear fc hq
   go_wp2_with fail
   refine FCC.out.mono ?_
   rintro e w2 ⟨rfl,b2⟩
   clear FCC
   go_wp2_with fail
   have c2:=C1.out.below hbl b2
   have fc2:=FC.out 0 (by omega) (by omega) w2 (c2.listAt HL.out hg (by decide))
   have s2:=S1.out.kept b2.size (fun hl=>b2.block _ hl)
   have fin:Hid (placeA S hint.toNat pages.toNat=firstFrom S (0:Int).toNat pages.toNat):=by
    have:placeA S hint.toNat pages.toNat=firstFrom S (0:Int).toNat pages.toNat:=by unfold placeA;rw[HA.out,HQ.out];rfl
    exact this
   refine fc2.mono ?_
   rintro e w3 ⟨rfl,b3⟩
   have C3:=hide (c2.below hbl b3)
   have S3:=hide (s2.kept b3.size (fun hl=>b3.block _ hl))
   clear c2 fc2 s2
   generalize hz:firstFrom S (0:Int).toNat pages.toNat=z at *
   cases z with
   |some q=>
    rw[opt2_some]
    go_wp2_with fail
    go_ret2
    exact ⟨by rw[fin.out];rfl,_,C3.out,S3.out⟩
   |none=>
    rw[opt2_none]
    go_wp2_with fail
    go_ret2
    exact ⟨by rw[fin.out];rfl,_,C3.out,S3.out⟩
 |cons x r=>
  have hx:=HPL.out x (by rw[hpl];exact List.mem_cons_self ..)
  have hask:asked S pages.toNat=if free S pages.toNat x then some x else none:=by unfold asked;rw[hpl];rfl
  have HASK:=hide hask
  clear hpl HPL hask
  have fx:=FC.out (x:Int) (by omega) (by omega) w1 (C1.out.listAt HL.out hg (by decide))
  rw[Int.toNat_natCast] at fx
  have af:=AF.out x (by omega)
  cases hq:firstFrom S x pages.toNat with
  |some q=>
   rw[hq,opt2_some] at fx
   rw[hq] at af
   have FXX:=hide fx
   have AFX:=hide af
   clear fx hq af
   by_cases hqx:q=x
   ·subst hqx
    have hb:((q:Int)==(q:Int))=true:=by simp
    have fin:Hid (placeA S hint.toNat pages.toNat=some q):=by
     have:placeA S hint.toNat pages.toNat=some q:=by
      unfold placeA
      rw[HASK.out,if_pos (AFX.out.1 rfl)];rfl
     exact this
    go_wp2_with fail
    refine FXX.out.mono ?_
    rintro e w2 ⟨rfl,b2⟩
    clear FXX AFX
    go_wp2_with fail
    go_ret2
    exact ⟨by rw[fin.out];rfl,_,C1.out.below hbl b2,S1.out.kept b2.size (fun hl=>b2.block _ hl)⟩
   ·have hb:((q:Int)==(x:Int))=false:=beq_eq_false_iff_ne.2 (by omega)
    have ha:asked S pages.toNat=none:=by rw[HASK.out,if_neg (fun z=>hqx (by have:=AFX.out.2 z;simpa using this))]
    go_wp2_with fail
    refine FXX.out.mono ?_
    rintro e w2 ⟨rfl,b2⟩
    clear FXX AFX
    go_wp2_with fail
    have C2:=hide (C1.out.below hbl b2)
    have S2:=hide (S1.out.kept b2.size (fun hl=>b2.block _ hl))
    clear b2
    have HA:=hide ha
    clear ha
    have fc:=FC.out hint h0 h0' w2 (C2.out.listAt HL.out hg (by decide))
    cases hq:firstFrom S hint.toNat pages.toNat with
    |some q=>
     rw[hq,opt2_some] at fc
     have fin:Hid (placeA S hint.toNat pages.toNat=some q):=by
      have:placeA S hint.toNat pages.toNat=some q:=by unfold placeA;rw[HA.out,hq];rfl
      exact this
     have FCC:=hide fc
     clear fc hq
     go_wp2_with fail
     refine FCC.out.mono ?_
     rintro e w2x ⟨rfl,b2x⟩
     clear FCC
     go_wp2_with fail
     go_ret2
     exact ⟨by rw[fin.out];rfl,_,C2.out.below hbl b2x,S2.out.kept b2x.size (fun hl=>b2x.block _ hl)⟩
    |none=>
     rw[hq,opt2_none] at fc
     have FCC:=hide fc
     have HQ:=hide hq
     clear fc hq
     go_wp2_with fail
     refine FCC.out.mono ?_
     rintro e w2x ⟨rfl,b2x⟩
     clear FCC
     go_wp2_with fail
     have c2:=C2.out.below hbl b2x
     have fc2:=FC.out 0 (by omega) (by omega) w2x (c2.listAt HL.out hg (by decide))
     have s2:=S2.out.kept b2x.size (fun hl=>b2x.block _ hl)
     have fin:Hid (placeA S hint.toNat pages.toNat=firstFrom S (0:Int).toNat pages.toNat):=by
      have:placeA S hint.toNat pages.toNat=firstFrom S (0:Int).toNat pages.toNat:=by unfold placeA;rw[HA.out,HQ.out];rfl
      exact this
     refine fc2.mono ?_
     rintro e w3 ⟨rfl,b3⟩
     have C3:=hide (c2.below hbl b3)
     have S3:=hide (s2.kept b3.size (fun hl=>b3.block _ hl))
     clear c2 fc2 s2
     generalize hz:firstFrom S (0:Int).toNat pages.toNat=z at *
     cases z with
     |some q=>
      rw[opt2_some]
      go_wp2_with fail
      go_ret2
      exact ⟨by rw[fin.out];rfl,_,C3.out,S3.out⟩
     |none=>
      rw[opt2_none]
      go_wp2_with fail
      go_ret2
      exact ⟨by rw[fin.out];rfl,_,C3.out,S3.out⟩
  |none=>
   rw[hq,opt2_none] at fx
   rw[hq] at af
   have ha:asked S pages.toNat=none:=by rw[HASK.out,if_neg (fun z=>by have:=af.2 z;simp at this)]
   have FXX:=hide fx
   clear fx hq af
   go_wp2_with fail
   refine FXX.out.mono ?_
   rintro e w2 ⟨rfl,b2⟩
   clear FXX
   go_wp2_with fail
   have C2:=hide (C1.out.below hbl b2)
   have S2:=hide (S1.out.kept b2.size (fun hl=>b2.block _ hl))
   clear b2
   have HA:=hide ha
   clear ha
   have fc:=FC.out hint h0 h0' w2 (C2.out.listAt HL.out hg (by decide))
   cases hq:firstFrom S hint.toNat pages.toNat with
   |some q=>
    rw[hq,opt2_some] at fc
    have fin:Hid (placeA S hint.toNat pages.toNat=some q):=by
     have:placeA S hint.toNat pages.toNat=some q:=by unfold placeA;rw[HA.out,hq];rfl
     exact this
    have FCC:=hide fc
    clear fc hq
    go_wp2_with fail
    refine FCC.out.mono ?_
    rintro e w2x ⟨rfl,b2x⟩
    clear FCC
    go_wp2_with fail
    go_ret2
    exact ⟨by rw[fin.out];rfl,_,C2.out.below hbl b2x,S2.out.kept b2x.size (fun hl=>b2x.block _ hl)⟩
   |none=>
    rw[hq,opt2_none] at fc
    have FCC:=hide fc
    have HQ:=hide hq
    clear fc hq
    go_wp2_with fail
    refine FCC.out.mono ?_
    rintro e w2x ⟨rfl,b2x⟩
    clear FCC
    go_wp2_with fail
    have c2:=C2.out.below hbl b2x
    have fc2:=FC.out 0 (by omega) (by omega) w2x (c2.listAt HL.out hg (by decide))
    have s2:=S2.out.kept b2x.size (fun hl=>b2x.block _ hl)
    have fin:Hid (placeA S hint.toNat pages.toNat=firstFrom S (0:Int).toNat pages.toNat):=by
     have:placeA S hint.toNat pages.toNat=firstFrom S (0:Int).toNat pages.toNat:=by unfold placeA;rw[HA.out,HQ.out];rfl
     exact this
    refine fc2.mono ?_
    rintro e w3 ⟨rfl,b3⟩
    have C3:=hide (c2.below hbl b3)
    have S3:=hide (s2.kept b3.size (fun hl=>b3.block _ hl))
    clear c2 fc2 s2
    generalize hz:firstFrom S (0:Int).toNat pages.toNat=z at *
    cases z with
    |some q=>
     rw[opt2_some]
     go_wp2_with fail
     go_ret2
     exact ⟨by rw[fin.out];rfl,_,C3.out,S3.out⟩
    |none=>
     rw[opt2_none]
     go_wp2_with fail
     go_ret2
     exact ⟨by rw[fin.out];rfl,_,C3.out,S3.out⟩
end Go.Proofs.YtdgdhnnakcncoaaGreatDoor.V
namespace Go.Proofs.YtdgdhnnakcncoaaGreatDoor.V
set_option maxHeartbeats 1600000
open Go.ChangeShapes Go.WideShapes Go.ChangeAt Go.RowKit Go.Proofs.Sp
theorem cover_ready {f:Nat→Nat} {a e:Nat} {Ps:List (Nat×Nat×Nat)} (h:Cover f a Ps e):(!(Ps.any fun x=>((x.2.2:Int) != 2)))=true↔∀p,a≤p→p<e→f p=2:=by
 rw[←h.all (fun s=>s=2)]
 simp[bne_iff_ne]
 constructor
 ·intro k a b c d;have:=k a b c d;omega
 ·intro k a b c d;have:=k a b c d;omega
end Go.Proofs.YtdgdhnnakcncoaaGreatDoor.V
namespace Go.Proofs.YtdgdhnnakcncoaaGreatDoor.V
set_option maxHeartbeats 1600000
open Go.ChangeShapes Go.WideShapes Go.ChangeAt Go.RowKit Go.Proofs.Sp
set_option linter.unusedVariables false
set_option linter.unusedSimpArgs false
theorem WordsM.kept {w w':World} {b bp bf n:Nat} {MP MF:Nat→Nat} {A:Nat→Nat→Nat} (h:WordsM w b bp bf n MP MF A) (h8:w'.cell? ⟨b,8,none⟩=w.cell? ⟨b,8,none⟩) (h9:w'.cell? ⟨b,9,none⟩=w.cell? ⟨b,9,none⟩) (hk:∀x,WFoot bp bf MP x→w'.heap[x]? =w.heap[x]?):WordsM w' b bp bf n MP MF A:=
 ⟨h8.trans h.c8,h9.trans h.c9,h.mp.kept (hk bp (Or.inl rfl)),h.mf.kept (hk bf (Or.inr (Or.inl rfl))),fun p hp=>(h.arr p hp).kept (hk _ (Or.inr (Or.inr ⟨p,by omega⟩))),h.one,h.sep,h.ne⟩
theorem WordsM.below {w w':World} {b bp bf n:Nat} {MP MF:Nat→Nat} {A:Nat→Nat→Nat} (h:WordsM w b bp bf n MP MF A) (hk:Below w.heap.size w w'):WordsM w' b bp bf n MP MF A:=
 h.kept (hk.cell (p:=⟨b,8,none⟩) (cell_lt h.c8)) (hk.cell (p:=⟨b,9,none⟩) (cell_lt h.c9)) (fun x hx=>hk.block x (h.foot hx).1)
end Go.Proofs.YtdgdhnnakcncoaaGreatDoor.V
namespace Go.Proofs.YtdgdhnnakcncoaaGreatDoor.V
set_option maxHeartbeats 1600000
open Go.ChangeShapes Go.WideShapes Go.ChangeAt Go.RowKit Go.Proofs.Sp
theorem SlB.kept' {w w':World} {v:Value} {xs:List Value} {g:Nat} (h:SlB w v xs g) (hs:w.heap.size≤w'.heap.size) (hg:xs≠ []→w'.heap[g]? =w.heap[g]?):SlB w' v xs g:=by
 rcases h with h|⟨off,cap,h1,h2,h3,h4,h5⟩
 ·exact Or.inl h
 ·refine Or.inr ⟨off,cap,h1,h2,h3,by omega,fun j u hu=> ?_⟩
  have:xs≠ []:=fun z=>by subst z;simp at hu
  rw[World.cell?_of_block (hg this)];exact h5 j u hu
theorem SlB.lt {w:World} {v:Value} {xs:List Value} {g:Nat} (h:SlB w v xs g) (hx:xs≠ []):g<w.heap.size:=by
 rcases h with ⟨_,h⟩|⟨off,cap,h1,h2,h3,h4,h5⟩
 ·exact absurd h hx
 ·exact h4
theorem u64s_ne {l:List Nat}:u64s l≠ []↔l≠ []:=by simp[u64s]
theorem bools_ne {l:List Bool}:bools l≠ []↔l≠ []:=by simp[bools]
def Foot (b g0 g1 g2 g bp bf:Nat) (pl:List Nat) (re:List Bool) (fi:List Nat) (MP:Nat→Nat) (x:Nat):Prop:=
 x=b∨(pl≠ []∧x=g0)∨(re≠ []∧x=g1)∨(fi≠ []∧x=g2)∨x=g∨WFoot bp bf MP x
structure Lies (w:World) (b:Nat) (pl:List Nat) (re:List Bool) (fi:List Nat) (f:Nat→Nat) (g0 g1 g2 g cap:Nat) (R:List (Nat×Nat)) (bp bf n:Nat) (MP MF:Nat→Nat) (A:Nat→Nat→Nat):Prop where
 s0:∃v,w.cell? ⟨b,0,none⟩=some v∧SlB w v (u64s pl) g0
 s1:∃v,w.cell? ⟨b,1,none⟩=some v∧SlB w v (bools re) g1
 s2:∃v,w.cell? ⟨b,2,none⟩=some v∧SlB w v (u64s fi) g2
 rows:RowsM w b 3 g cap R f
 words:WordsM w b bp bf n MP MF A
 n0:g0≠b
 n1:g1≠b
 n2:g2≠b
 d0:pl≠ []→g0≠g∧¬WFoot bp bf MP g0
 d1:re≠ []→g1≠g∧¬WFoot bp bf MP g1
 d2:fi≠ []→g2≠g∧¬WFoot bp bf MP g2
 dg:¬WFoot bp bf MP g
structure Moves (F F':Nat→Prop) (w w':World):Prop where
 fr:FrB F w w'
 new:∀x,F' x→F x∨w.heap.size≤x
theorem Moves.trans {F F' F'':Nat→Prop} {w w' w'':World} (h:Moves F F' w w') (k:Moves F' F'' w' w''):Moves F F'' w w'':=by
 have hs:=h.fr.size
 refine ⟨⟨k.fr.os.trans h.fr.os,k.fr.tape.trans h.fr.tape,k.fr.output.trans h.fr.output,Nat.le_trans hs k.fr.size,fun x hx hn=> ?_⟩,fun x hx=> ?_⟩
 ·rw[k.fr.block x (by omega) (fun z=>by rcases h.new x z with z|z;exact hn z;omega)]
  exact h.fr.block x hx hn
 ·rcases k.new x hx with z|z
  ·exact h.new x z
  ·right;omega
theorem Moves.below {F:Nat→Prop} {w w':World} (h:Below w.heap.size w w'):Moves F F w w':=⟨⟨h.os,h.tape,h.output,h.size,fun x hx _=>h.block x hx⟩,fun _ h=>Or.inl h⟩
theorem Moves.refl (F:Nat→Prop) (w:World):Moves F F w w:=⟨FrB.refl _ _,fun _ h=>Or.inl h⟩
variable {w w':World} {b:Nat} {pl:List Nat} {re:List Bool} {fi:List Nat} {f:Nat→Nat} {g0 g1 g2 g cap:Nat} {R:List (Nat×Nat)} {bp bf n:Nat} {MP MF:Nat→Nat} {A:Nat→Nat→Nat}
theorem RowsM.glt (h:RowsM w b 3 g cap R f):g<w.heap.size:=h.holds.row.elim fun _ h=>(Array.getElem?_eq_some_iff.1 h.1.heap).1
theorem Lies.lt (h:Lies w b pl re fi f g0 g1 g2 g cap R bp bf n MP MF A) {x:Nat} (hx:Foot b g0 g1 g2 g bp bf pl re fi MP x):x<w.heap.size:=by
 rcases hx with rfl|⟨z,rfl⟩|⟨z,rfl⟩|⟨z,rfl⟩|rfl|z
 ·exact cell_lt h.rows.list
 ·obtain ⟨v,_,k⟩:=h.s0;exact k.lt (u64s_ne.2 z)
 ·obtain ⟨v,_,k⟩:=h.s1;exact k.lt (bools_ne.2 z)
 ·obtain ⟨v,_,k⟩:=h.s2;exact k.lt (u64s_ne.2 z)
 ·exact h.rows.glt
 ·exact (h.words.foot z).1
theorem RowsM.kept (h:RowsM w b 3 g cap R f) (hc:∀k,3≤k→k<8→w'.cell? ⟨b,k,none⟩=w.cell? ⟨b,k,none⟩) (hf:∀k,w'.frozen? ⟨b,k,none⟩=w.frozen? ⟨b,k,none⟩) (hg:w'.heap[g]? =w.heap[g]?):RowsM w' b 3 g cap R f:=by
 refine ⟨(hc 3 (by omega) (by omega)).trans h.list,?_,fun k hk=>(hc _ (by omega) (by omega)).trans (h.cnt k hk),fun k=>(hf k).trans (h.fz k),h.seg,h.alt,h.le3,h.ne⟩
 obtain ⟨⟨cur,hr,ht⟩,hl⟩:=h.holds
 exact ⟨⟨cur,⟨hg.trans hr.heap,hr.len,hr.cap⟩,ht⟩,hl⟩
theorem fz_of_block {w w':World} {x k:Nat} (h:w'.heap[x]? =w.heap[x]?):w'.frozen? ⟨x,k,none⟩=w.frozen? ⟨x,k,none⟩:=by simp[World.frozen?,h]
theorem Lies.kept (h:Lies w b pl re fi f g0 g1 g2 g cap R bp bf n MP MF A) (hs:w.heap.size≤w'.heap.size) (hk:∀x,Foot b g0 g1 g2 g bp bf pl re fi MP x→w'.heap[x]? =w.heap[x]?):Lies w' b pl re fi f g0 g1 g2 g cap R bp bf n MP MF A:=by
 have hb:=hk b (Or.inl rfl)
 have hg:=hk g (Or.inr (Or.inr (Or.inr (Or.inr (Or.inl rfl)))))
 have hc:∀k,w'.cell? ⟨b,k,none⟩=w.cell? ⟨b,k,none⟩:=fun k=>World.cell?_of_block hb
 refine ⟨?_,?_,?_,h.rows.kept (fun k _ _=>hc k) (fun k=>fz_of_block hb) hg,h.words.kept (hc 8) (hc 9) (fun x hx=>hk x (Or.inr (Or.inr (Or.inr (Or.inr (Or.inr hx)))))),h.n0,h.n1,h.n2,h.d0,h.d1,h.d2,h.dg⟩
 ·obtain ⟨v,c,k⟩:=h.s0
  exact ⟨v,(hc 0).trans c,k.kept' hs (fun z=>hk _ (Or.inr (Or.inl ⟨u64s_ne.1 z,rfl⟩)))⟩
 ·obtain ⟨v,c,k⟩:=h.s1
  exact ⟨v,(hc 1).trans c,k.kept' hs (fun z=>hk _ (Or.inr (Or.inr (Or.inl ⟨bools_ne.1 z,rfl⟩))))⟩
 ·obtain ⟨v,c,k⟩:=h.s2
  exact ⟨v,(hc 2).trans c,k.kept' hs (fun z=>hk _ (Or.inr (Or.inr (Or.inr (Or.inl ⟨u64s_ne.1 z,rfl⟩)))))⟩
theorem Lies.below (h:Lies w b pl re fi f g0 g1 g2 g cap R bp bf n MP MF A) (hk:Below w.heap.size w w'):Lies w' b pl re fi f g0 g1 g2 g cap R bp bf n MP MF A:=
 h.kept hk.size (fun x hx=>hk.block x (h.lt hx))
theorem Lies.turn (h:Lies w b pl re fi f g0 g1 g2 g cap R bp bf n MP MF A) {n':Nat} {Z:Nat→Prop} {W:Nat→Nat→Nat} {MP' MF':Nat→Nat} {A':Nat→Nat→Nat} (k:WNow w w' b bp bf n' MP MF Z W MP' MF' A'):
 Lies w' b pl re fi f g0 g1 g2 g cap R bp bf n' MP' MF' A'∧Moves (Foot b g0 g1 g2 g bp bf pl re fi MP) (Foot b g0 g1 g2 g bp bf pl re fi MP') w w':=by
 have new:∀x,WFoot bp bf MP' x→WFoot bp bf MP x∨w.heap.size≤x:=by
  rintro x (rfl|rfl|⟨q,hq⟩)
  ·exact Or.inl (Or.inl rfl)
  ·exact Or.inl (Or.inr (Or.inl rfl))
  ·rcases k.old q (by omega) with ⟨r,hr⟩|z
   ·exact Or.inl (Or.inr (Or.inr ⟨r,by omega⟩))
   ·right;omega
 have hbl:b<w.heap.size:=cell_lt h.rows.list
 have hgl:=h.rows.glt
 have bb:w'.heap[b]? =w.heap[b]? :=k.fr.block b hbl (fun z=>(h.words.foot z).2 rfl)
 have bg:w'.heap[g]? =w.heap[g]? :=k.fr.block g hgl h.dg
 have hc:∀k,w'.cell? ⟨b,k,none⟩=w.cell? ⟨b,k,none⟩:=fun k=>World.cell?_of_block bb
 have old:∀x,x<w.heap.size→¬WFoot bp bf MP x→¬WFoot bp bf MP' x:=fun x hx hn z=>by
  rcases new x z with z|z
  ·exact hn z
  ·omega
 obtain ⟨v0,c0,k0⟩:=h.s0
 obtain ⟨v1,c1,k1⟩:=h.s1
 obtain ⟨v2,c2,k2⟩:=h.s2
 refine ⟨⟨⟨v0,(hc 0).trans c0,k0.kept' k.fr.size fun z=>k.fr.block _ (k0.lt z) (h.d0 (u64s_ne.1 z)).2⟩,⟨v1,(hc 1).trans c1,k1.kept' k.fr.size fun z=>k.fr.block _ (k1.lt z) (h.d1 (bools_ne.1 z)).2⟩,⟨v2,(hc 2).trans c2,k2.kept' k.fr.size fun z=>k.fr.block _ (k2.lt z) (h.d2 (u64s_ne.1 z)).2⟩,
  h.rows.kept (fun k _ _=>hc k) (fun k=>fz_of_block bb) bg,k.wm,h.n0,h.n1,h.n2,fun z=>⟨(h.d0 z).1,old _ (k0.lt (u64s_ne.2 z)) (h.d0 z).2⟩,fun z=>⟨(h.d1 z).1,old _ (k1.lt (bools_ne.2 z)) (h.d1 z).2⟩,fun z=>⟨(h.d2 z).1,old _ (k2.lt (u64s_ne.2 z)) (h.d2 z).2⟩,old g hgl h.dg⟩,?_,?_⟩
 ·exact k.fr.mono fun x _ hx=>Or.inr (Or.inr (Or.inr (Or.inr (Or.inr hx))))
 ·rintro x (hx|hx|hx|hx|hx|hx)
  ·exact Or.inl (Or.inl hx)
  ·exact Or.inl (Or.inr (Or.inl hx))
  ·exact Or.inl (Or.inr (Or.inr (Or.inl hx)))
  ·exact Or.inl (Or.inr (Or.inr (Or.inr (Or.inl hx))))
  ·exact Or.inl (Or.inr (Or.inr (Or.inr (Or.inr (Or.inl hx)))))
  ·rcases new x hx with z|z
   ·exact Or.inl (Or.inr (Or.inr (Or.inr (Or.inr (Or.inr z)))))
   ·exact Or.inr z
theorem Lies.rowed (h:Lies w b pl re fi f g0 g1 g2 g cap R bp bf n MP MF A) {f':Nat→Nat} (k:SetPost b 3 g R f' w w'):
 ∃g' c' R',Lies w' b pl re fi f' g0 g1 g2 g' c' R' bp bf n MP MF A∧R'.length≤R.length+2∧Moves (Foot b g0 g1 g2 g bp bf pl re fi MP) (Foot b g0 g1 g2 g' bp bf pl re fi MP) w w':=by
 obtain ⟨g',c',R',hR,hl,hg,k⟩:=k
 have hbl:b<w.heap.size:=cell_lt h.rows.list
 have hgl:=h.rows.glt
 obtain ⟨v0,c0,k0⟩:=h.s0
 obtain ⟨v1,c1,k1⟩:=h.s1
 obtain ⟨v2,c2,k2⟩:=h.s2
 have ng:∀x,x<w.heap.size→x≠g→x≠g':=fun x hx hn z=>by rcases hg with e|e<;>omega
 have nw:¬WFoot bp bf MP g':=fun z=>by
  rcases hg with e|e
  ·exact h.dg (e▸z)
  ·have:=(h.words.foot z).1;omega
 refine ⟨g',c',R',⟨⟨v0,(k.cell 0 (by omega)).trans c0,k0.kept' k.size fun z=>k.block _ (k0.lt z) h.n0 (h.d0 (u64s_ne.1 z)).1⟩,⟨v1,(k.cell 1 (by omega)).trans c1,k1.kept' k.size fun z=>k.block _ (k1.lt z) h.n1 (h.d1 (bools_ne.1 z)).1⟩,⟨v2,(k.cell 2 (by omega)).trans c2,k2.kept' k.size fun z=>k.block _ (k2.lt z) h.n2 (h.d2 (u64s_ne.1 z)).1⟩,
  hR,h.words.kept (k.cell 8 (by omega)) (k.cell 9 (by omega)) (fun x hx=>k.block x (h.words.foot hx).1 (h.words.foot hx).2 (fun e=>h.dg (e▸hx))),h.n0,h.n1,h.n2,fun z=>⟨ng _ (k0.lt (u64s_ne.2 z)) (h.d0 z).1,(h.d0 z).2⟩,fun z=>⟨ng _ (k1.lt (bools_ne.2 z)) (h.d1 z).1,(h.d1 z).2⟩,fun z=>⟨ng _ (k2.lt (u64s_ne.2 z)) (h.d2 z).1,(h.d2 z).2⟩,nw⟩,hl,?_,?_⟩
 ·exact ⟨k.os,k.tape,k.output,k.size,fun x hx hn=>k.block x hx (fun e=>hn (Or.inl e)) (fun e=>hn (Or.inr (Or.inr (Or.inr (Or.inr (Or.inl e))))))⟩
 ·rintro x (hx|hx|hx|hx|hx|hx)
  ·exact Or.inl (Or.inl hx)
  ·exact Or.inl (Or.inr (Or.inl hx))
  ·exact Or.inl (Or.inr (Or.inr (Or.inl hx)))
  ·exact Or.inl (Or.inr (Or.inr (Or.inr (Or.inl hx))))
  ·rcases hg with e|e
   ·exact Or.inl (Or.inr (Or.inr (Or.inr (Or.inr (Or.inl (hx.trans e))))))
   ·right;omega
  ·exact Or.inl (Or.inr (Or.inr (Or.inr (Or.inr (Or.inr hx)))))
end Go.Proofs.YtdgdhnnakcncoaaGreatDoor.V
