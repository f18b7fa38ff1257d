/- Of the proof of HeapGrows: texts VVmQ, VVmR, VVmRa, VVmS, VVmT. -/
import Derived.Test.YtdgdhnnakcncoaaGreatDoorJ57
import Derived.Test.YtdgdhnnakcncoaaGreatDoorJ28
import Derived.Test.YtdgdhnnakcncoaaGreatDoorJ52
import Derived.Test.YtdgdhnnakcncoaaGreatDoorJ56
import Derived.Defers
import Derived.Recover
import Derived.Laws.Pointers
namespace Go.Proofs.YtdgdhnnakcncoaaGreatDoor.V
set_option maxHeartbeats 1600000
open Go.ChangeShapes Go.WideShapes Go.ChangeAt Go.RowKit Go.Proofs.Sp
structure Cell1 (b k:Nat) (w w':World) (v:Value):Prop where
 os:w'.os=w.os
 tape:w'.tape=w.tape
 output:w'.output=w.output
 size:w.heap.size≤w'.heap.size
 block:∀x,x<w.heap.size→x≠b→w'.heap[x]? =w.heap[x]?
 cell:∀j,j≠k→w'.cell? ⟨b,j,none⟩=w.cell? ⟨b,j,none⟩
 here:w'.cell? ⟨b,k,none⟩=some v
 fz:∀j,w'.frozen? ⟨b,j,none⟩=w.frozen? ⟨b,j,none⟩
theorem Cell1.start {b k:Nat} {w:World} {v:Value} (h:w.cell? ⟨b,k,none⟩=some v):Cell1 b k w w v:=⟨rfl,rfl,rfl,Nat.le_refl _,fun _ _ _=>rfl,fun _ _=>rfl,h,fun _=>rfl⟩
theorem Cell1.put {b k:Nat} {w:World} {v v':Value} (h:w.cell? ⟨b,k,none⟩=some v):Cell1 b k w (w.setCell ⟨b,k,none⟩ v') v':=
 ⟨rfl,rfl,rfl,by simp,fun x _ hne=>Below.heap_setCell _ _ _ _ (by simpa using hne),fun j hj=>World.cell?_setCell_other _ _ _ _ (by intro e;have:=congrArg Addr.off e;simp at this;omega),World.cell?_setCell_same _ _ _ h,fun j=>World.frozen?_setCell _ _ _ _⟩
theorem Cell1.below {b k:Nat} {w w' w2:World} {v:Value} (h:Cell1 b k w w' v) (hb:b<w.heap.size) (hl:Below w'.heap.size w' w2):Cell1 b k w w2 v:=by
 have hs:=h.size
 refine ⟨hl.os.trans h.os,hl.tape.trans h.tape,hl.output.trans h.output,Nat.le_trans hs hl.size,fun x hx hne=>by rw[hl.block x (by omega)];exact h.block x hx hne,fun j hj=> ?_,?_,fun j=> ?_⟩
 ·rw[hl.cell (p:=⟨b,j,none⟩) (show b<_ by omega)];exact h.cell j hj
 ·rw[hl.cell (p:=⟨b,k,none⟩) (show b<_ by omega)];exact h.here
 ·rw[hl.frozen (p:=⟨b,j,none⟩) (show b<_ by omega)];exact h.fz j
theorem Cell1.listAt {b k o g cap:Nat} {w w':World} {v:Value} {R:List (Nat×Nat)} (h:Cell1 b k w w' v) (hL:ListAt w b o g cap R) (hg:g≠b) (ho:o≠k):ListAt w' b o g cap R:=
 ⟨by rw[h.cell o ho];exact hL.list,fun i hi=>by rw[World.cell?_of_block (h.block g (cell_lt (hL.first i hi)) hg)];exact hL.first i hi,fun i hi=>by rw[World.cell?_of_block (h.block g (cell_lt (hL.state i hi)) hg)];exact hL.state i hi⟩
theorem Cell1.slB {b k g:Nat} {w w':World} {v u:Value} {xs:List Value} (h:Cell1 b k w w' v) (hs:SlB w u xs g) (hg:g≠b):SlB w' u xs g:=hs.kept h.size (fun hl=>h.block g hl hg)
theorem asked_first (S:Sp) (pages x:Nat) (hp:0<pages):firstFrom S x pages=some x↔free S pages x:=
 ⟨fun h=>(first_some h).1,fun h=>first_at hp h (Nat.le_refl _) (fun j h1 h2=>by omega)⟩
theorem opt2_some (q:Nat):opt2 (some q)= .tuple #[.int .u64 (q:Int), .bool true]:=rfl
theorem opt2_none:opt2 none= .tuple #[.int .u64 0, .bool false]:=rfl
def placeA (S:Sp) (hint pages:Nat):Option Nat:=(asked S pages).or ((firstFrom S hint pages).or (firstFrom S 0 pages))
set_option maxRecDepth 100000 in
set_option maxHeartbeats 2000000 in
theorem place_core (b g g0 cap:Nat) (v0:Value) (R:List (Nat×Nat)) (S:Sp) (hint pages:Int) (h0:0≤hint) (h0':hint<18446744073709551616) (hp:0<pages) (hp':pages≤134217728) (hp5:pages%512=0) (hn:R.length≤70368744177664) (w:World) (hL:ListAt w b 3 g cap R) (hs:Seg S.st 0 R 34359738368) (hA:Alt R) (hc:∀p,S.st p=0↔S.st (p/512 * 512)=0)
 (hv:w.cell? ⟨b,0,none⟩=some v0) (hf:w.frozen? ⟨b,0,none⟩=false) (hsl:SlB w v0 (u64s S.places) g0) (hpl:∀x∈S.places,x<18446744073709551616) (hg:g≠b) (hg0:g0≠b):
 Calls Tryz.prog 307 #[.pointer (some ⟨b,0,none⟩), .int .u64 hint, .int .u64 pages] w fun e w'=>e= .returned (opt2 (placeA S hint.toNat pages.toNat))∧∃v',Cell1 b 0 w w' v'∧SlB w' v' (u64s S.places.tail) g0:=by
 have hbl:=cell_lt hv
 have FC:=hide (fun (x:Int) (x0:0≤x) (x1:x<18446744073709551616) (W:World) (hW:ListAt W b 3 g cap R)=>free_core b 3 g cap R S x pages x0 x1 hp hp' hp5 hn W hW hs hA hc)
 have HL:=hide hL
 have HSL:=hide hsl
 have HPL:=hide hpl
 have AF:=hide (asked_first S pages.toNat)
 clear hL hs hA hc hsl hpl
 go_enter Tryz.func307,Tryz.ntmps307
 go_wp2_with fail
 refine (next_u64 b 0 g0 v0 S.places w hv hf HSL.out).mono ?_
 rintro e w1 ⟨rfl,hnx⟩
 obtain ⟨v1,c1,s1⟩:∃v1,Cell1 b 0 w w1 v1∧SlB w1 v1 (u64s S.places.tail) g0:=by
  rcases hnx with ⟨hnil,rfl⟩|⟨v',rfl,hs'⟩
  ·exact ⟨v0,Cell1.start hv,by have:=HSL.out;rw[hnil] at this ⊢;exact this⟩
  ·exact ⟨v',Cell1.put hv,(Cell1.put (v':=v') hv).slB hs' hg0⟩
 have C1:=hide c1
 have S1:=hide s1
 clear c1 s1 hnx HSL
 cases hpl:S.places with
 |nil=>
  have ha:asked S pages.toNat=none:=by unfold asked;rw[hpl];rfl
  clear hpl HPL
  have HA:=hide ha
  clear ha
  have fc:=FC.out hint h0 h0' w1 (C1.out.listAt HL.out hg (by decide))
  cases hq:firstFrom S hint.toNat pages.toNat with
  |some q=>
   rw[hq,opt2_some] at fc
   have fin:Hid (placeA S hint.toNat pages.toNat=some q):=by
    have:placeA S hint.toNat pages.toNat=some q:=by unfold placeA;rw[HA.out,hq];rfl
    exact this
   have FCC:=hide fc
   clear fc hq
   go_wp2_with fail
   refine FCC.out.mono ?_
   rintro e w2 ⟨rfl,b2⟩
   clear FCC
   go_wp2_with fail
   go_ret2
   exact ⟨by rw[fin.out];rfl,_,C1.out.below hbl b2,S1.out.kept b2.size (fun hl=>b2.block _ hl)⟩
  |none=>
   rw[hq,opt2_none] at fc
   have FCC:=hide fc
   have HQ:=hide hq
   clear fc hq
   go_wp2_with fail
   refine FCC.out.mono ?_
   rintro e w2 ⟨rfl,b2⟩
   clear FCC
   go_wp2_with fail
   have c2:=C1.out.below hbl b2
   have fc2:=FC.out 0 (by omega) (by omega) w2 (c2.listAt HL.out hg (by decide))
   have s2:=S1.out.kept b2.size (fun hl=>b2.block _ hl)
   have fin:Hid (placeA S hint.toNat pages.toNat=firstFrom S (0:Int).toNat pages.toNat):=by
    have:placeA S hint.toNat pages.toNat=firstFrom S (0:Int).toNat pages.toNat:=by unfold placeA;rw[HA.out,HQ.out];rfl
    exact this
   refine fc2.mono ?_
   rintro e w3 ⟨rfl,b3⟩
   have C3:=hide (c2.below hbl b3)
   have S3:=hide (s2.kept b3.size (fun hl=>b3.block _ hl))
   clear c2 fc2 s2
   generalize hz:firstFrom S (0:Int).toNat pages.toNat=z at *
   cases z with
   |some q=>
    rw[opt2_some]
    go_wp2_with fail
    go_ret2
    exact ⟨by rw[fin.out];rfl,_,C3.out,S3.out⟩
   |none=>
    rw[opt2_none]
    go_wp2_with fail
    go_ret2
    exact ⟨by rw[fin.out];rfl,_,C3.out,S3.out⟩
 |cons x r=>
  have hx:=HPL.out x (by rw[hpl];exact List.mem_cons_self ..)
  have hask:asked S pages.toNat=if free S pages.toNat x then some x else none:=by unfold asked;rw[hpl];rfl
  have HASK:=hide hask
  clear hpl HPL hask
  have fx:=FC.out (x:Int) (by omega) (by omega) w1 (C1.out.listAt HL.out hg (by decide))
  rw[Int.toNat_natCast] at fx
  have af:=AF.out x (by omega)
  cases hq:firstFrom S x pages.toNat with
  |some q=>
   rw[hq,opt2_some] at fx
   rw[hq] at af
   have FXX:=hide fx
   have AFX:=hide af
   clear fx hq af
   by_cases hqx:q=x
   ·subst hqx
    have hb:((q:Int)==(q:Int))=true:=by simp
    have fin:Hid (placeA S hint.toNat pages.toNat=some q):=by
     have:placeA S hint.toNat pages.toNat=some q:=by
      unfold placeA
      rw[HASK.out,if_pos (AFX.out.1 rfl)];rfl
     exact this
    go_wp2_with fail
    refine FXX.out.mono ?_
    rintro e w2 ⟨rfl,b2⟩
    clear FXX AFX
    go_wp2_with fail
    go_ret2
    exact ⟨by rw[fin.out];rfl,_,C1.out.below hbl b2,S1.out.kept b2.size (fun hl=>b2.block _ hl)⟩
   ·have hb:((q:Int)==(x:Int))=false:=beq_eq_false_iff_ne.2 (by omega)
    have ha:asked S pages.toNat=none:=by rw[HASK.out,if_neg (fun z=>hqx (by have:=AFX.out.2 z;simpa using this))]
    go_wp2_with fail
    refine FXX.out.mono ?_
    rintro e w2 ⟨rfl,b2⟩
    clear FXX AFX
    go_wp2_with fail
    have C2:=hide (C1.out.below hbl b2)
    have S2:=hide (S1.out.kept b2.size (fun hl=>b2.block _ hl))
    clear b2
    have HA:=hide ha
    clear ha
    have fc:=FC.out hint h0 h0' w2 (C2.out.listAt HL.out hg (by decide))
    cases hq:firstFrom S hint.toNat pages.toNat with
    |some q=>
     rw[hq,opt2_some] at fc
     have fin:Hid (placeA S hint.toNat pages.toNat=some q):=by
      have:placeA S hint.toNat pages.toNat=some q:=by unfold placeA;rw[HA.out,hq];rfl
      exact this
     have FCC:=hide fc
     clear fc hq
     go_wp2_with fail
     refine FCC.out.mono ?_
     rintro e w2x ⟨rfl,b2x⟩
     clear FCC
     go_wp2_with fail
     go_ret2
     exact ⟨by rw[fin.out];rfl,_,C2.out.below hbl b2x,S2.out.kept b2x.size (fun hl=>b2x.block _ hl)⟩
    |none=>
     rw[hq,opt2_none] at fc
     have FCC:=hide fc
     have HQ:=hide hq
     clear fc hq
     go_wp2_with fail
     refine FCC.out.mono ?_
     rintro e w2x ⟨rfl,b2x⟩
     clear FCC
     go_wp2_with fail
     have c2:=C2.out.below hbl b2x
     have fc2:=FC.out 0 (by omega) (by omega) w2x (c2.listAt HL.out hg (by decide))
     have s2:=S2.out.kept b2x.size (fun hl=>b2x.block _ hl)
     have fin:Hid (placeA S hint.toNat pages.toNat=firstFrom S (0:Int).toNat pages.toNat):=by
      have:placeA S hint.toNat pages.toNat=firstFrom S (0:Int).toNat pages.toNat:=by unfold placeA;rw[HA.out,HQ.out];rfl
      exact this
     refine fc2.mono ?_
     rintro e w3 ⟨rfl,b3⟩
     have C3:=hide (c2.below hbl b3)
     have S3:=hide (s2.kept b3.size (fun hl=>b3.block _ hl))
     clear c2 fc2 s2
     generalize hz:firstFrom S (0:Int).toNat pages.toNat=z at *
     cases z with
     |some q=>
      rw[opt2_some]
      go_wp2_with fail
      go_ret2
      exact ⟨by rw[fin.out];rfl,_,C3.out,S3.out⟩
     |none=>
      rw[opt2_none]
      go_wp2_with fail
      go_ret2
      exact ⟨by rw[fin.out];rfl,_,C3.out,S3.out⟩
  |none=>
   rw[hq,opt2_none] at fx
   rw[hq] at af
   have ha:asked S pages.toNat=none:=by rw[HASK.out,if_neg (fun z=>by have:=af.2 z;simp at this)]
   have FXX:=hide fx
   clear fx hq af
   go_wp2_with fail
   refine FXX.out.mono ?_
   rintro e w2 ⟨rfl,b2⟩
   clear FXX
   go_wp2_with fail
   have C2:=hide (C1.out.below hbl b2)
   have S2:=hide (S1.out.kept b2.size (fun hl=>b2.block _ hl))
   clear b2
   have HA:=hide ha
   clear ha
   have fc:=FC.out hint h0 h0' w2 (C2.out.listAt HL.out hg (by decide))
   cases hq:firstFrom S hint.toNat pages.toNat with
   |some q=>
    rw[hq,opt2_some] at fc
    have fin:Hid (placeA S hint.toNat pages.toNat=some q):=by
     have:placeA S hint.toNat pages.toNat=some q:=by unfold placeA;rw[HA.out,hq];rfl
     exact this
    have FCC:=hide fc
    clear fc hq
    go_wp2_with fail
    refine FCC.out.mono ?_
    rintro e w2x ⟨rfl,b2x⟩
    clear FCC
    go_wp2_with fail
    go_ret2
    exact ⟨by rw[fin.out];rfl,_,C2.out.below hbl b2x,S2.out.kept b2x.size (fun hl=>b2x.block _ hl)⟩
   |none=>
    rw[hq,opt2_none] at fc
    have FCC:=hide fc
    have HQ:=hide hq
    clear fc hq
    go_wp2_with fail
    refine FCC.out.mono ?_
    rintro e w2x ⟨rfl,b2x⟩
    clear FCC
    go_wp2_with fail
    have c2:=C2.out.below hbl b2x
    have fc2:=FC.out 0 (by omega) (by omega) w2x (c2.listAt HL.out hg (by decide))
    have s2:=S2.out.kept b2x.size (fun hl=>b2x.block _ hl)
    have fin:Hid (placeA S hint.toNat pages.toNat=firstFrom S (0:Int).toNat pages.toNat):=by
     have:placeA S hint.toNat pages.toNat=firstFrom S (0:Int).toNat pages.toNat:=by unfold placeA;rw[HA.out,HQ.out];rfl
     exact this
    refine fc2.mono ?_
    rintro e w3 ⟨rfl,b3⟩
    have C3:=hide (c2.below hbl b3)
    have S3:=hide (s2.kept b3.size (fun hl=>b3.block _ hl))
    clear c2 fc2 s2
    generalize hz:firstFrom S (0:Int).toNat pages.toNat=z at *
    cases z with
    |some q=>
     rw[opt2_some]
     go_wp2_with fail
     go_ret2
     exact ⟨by rw[fin.out];rfl,_,C3.out,S3.out⟩
    |none=>
     rw[opt2_none]
     go_wp2_with fail
     go_ret2
     exact ⟨by rw[fin.out];rfl,_,C3.out,S3.out⟩
end Go.Proofs.YtdgdhnnakcncoaaGreatDoor.V
namespace Go.Proofs.YtdgdhnnakcncoaaGreatDoor.V
set_option maxHeartbeats 1600000
open Go.ChangeShapes Go.WideShapes Go.ChangeAt Go.RowKit Go.Proofs.Sp
set_option linter.unusedVariables false
set_option linter.unusedSimpArgs false
theorem aligned_ok (n:Int) (h0:0≤n) (h1:n<18446744073709551616) (h:n%8=0) (w:World):Calls Tryz.prog 127 #[.int .u64 n] w fun e w'=>e= .returned (.tuple #[])∧w'=w:=by
 go_enter Tryz.func127,Tryz.ntmps127
 go_wp2_with fail
 go_end0
 exact ⟨rfl,rfl⟩
theorem aligned_bad (n:Int) (h0:0≤n) (h1:n<18446744073709551616) (h:¬n%8=0) (w:World):Calls Tryz.prog 127 #[.int .u64 n] w fun e w'=>e= .panicked [{v:= .iface 210 (.agg #[.int .i64 11]),recovered:=false}]∧w'=w:=by
 go_enter Tryz.func127,Tryz.ntmps127
 go_wp2_with fail
 exact ⟨rfl,rfl,rfl⟩
theorem touch_ok (b g cap:Nat) (R:List (Nat×Nat)) (f:Nat→Nat) (a:Int) (h0:0≤a) (h1:a<18446744073709551616) (hn:R.length≤70368744177664) (w:World) (hL:ListAt w b 3 g cap R) (hs:Seg f 0 R 34359738368) (hz:∀p,34359738368≤p→f p=0)
 (h:a%8=0) (hr:f (a/8192).toNat=2):
 Calls Tryz.prog 72 #[.pointer (some ⟨b,0,none⟩), .int .u64 a] w fun e w'=>e= .returned (.tuple #[])∧Below w.heap.size w w':=by
 have HL:=hide hL
 have HS:=hide hs
 have HZ:=hide hz
 have HR:=hide hr
 clear hL hs hz hr
 go_enter Tryz.func72,Tryz.ntmps72
 go_wp2_with (first
  |(go_at_call 127;refine (aligned_ok a h0 h1 h _).mono ?_;rintro e w' ⟨rfl,hw'⟩;rw[hw'];clear hw' w')
  |(go_at_call 96;refine (state_core b 3 g cap R f (a/8192) (by omega) hn _ HL.out HS.out HZ.out).mono ?_;rintro e w' ⟨rfl,B1⟩;rw[HR.out]))
 go_end0
 exact ⟨rfl,B1⟩
theorem touch_odd (b:Nat) (a:Int) (h0:0≤a) (h1:a<18446744073709551616) (w:World) (h:¬a%8=0):
 Calls Tryz.prog 72 #[.pointer (some ⟨b,0,none⟩), .int .u64 a] w fun e w'=>e= .panicked [{v:= .iface 210 (.agg #[.int .i64 11]),recovered:=false}]∧Below w.heap.size w w':=by
 go_enter Tryz.func72,Tryz.ntmps72
 go_wp2_with (first
  |(go_at_call 127;refine (aligned_bad a h0 h1 h _).mono ?_;rintro e w' ⟨rfl,hw'⟩;rw[hw'];clear hw' w'))
 exact ⟨rfl,rfl,Below.refl _ _⟩
theorem touch_bad (b g cap:Nat) (R:List (Nat×Nat)) (f:Nat→Nat) (a:Int) (h0:0≤a) (h1:a<18446744073709551616) (hn:R.length≤70368744177664) (w:World) (hL:ListAt w b 3 g cap R) (hs:Seg f 0 R 34359738368) (hz:∀p,34359738368≤p→f p=0)
 (h:a%8=0) (hr:f (a/8192).toNat≠2):
 Calls Tryz.prog 72 #[.pointer (some ⟨b,0,none⟩), .int .u64 a] w fun e w'=>e= .panicked [{v:= .iface 210 (.agg #[.int .i64 12]),recovered:=false}]∧Below w.heap.size w w':=by
 have HL:=hide hL
 have HS:=hide hs
 have HZ:=hide hz
 obtain ⟨x,hx⟩:∃x:Nat,x=f (a/8192).toNat:=⟨_,rfl⟩
 rw[←hx] at hr
 have HX:=hide hx
 have xr:((x:Int) != 2)=true:=by rw[bne_iff_ne];omega
 clear hL hs hz hr hx
 go_enter Tryz.func72,Tryz.ntmps72
 go_wp2_with (first
  |(go_at_call 127;refine (aligned_ok a h0 h1 h _).mono ?_;rintro e w' ⟨rfl,hw'⟩;rw[hw'];clear hw' w')
  |(go_at_call 96;refine (state_core b 3 g cap R f (a/8192) (by omega) hn _ HL.out HS.out HZ.out).mono ?_;rintro e w' ⟨rfl,B1⟩;rw[←HX.out]))
 exact ⟨rfl,rfl,B1⟩
set_option maxRecDepth 100000 in
theorem catch_fault (q:Nat) (x c:Int) (w:World) (hc:w.cell? ⟨q,0,none⟩=some (.int .i64 x)) (hz:w.frozen? ⟨q,0,none⟩=false):
 CallsD Tryz.prog 126 #[.pointer (some ⟨q,0,none⟩)] (.panicking [{v:= .iface 210 (.agg #[.int .i64 c]),recovered:=false}]) w fun e u' w'=>
  e= .returned (.tuple #[])∧u'= .panicking [{v:= .iface 210 (.agg #[.int .i64 c]),recovered:=true}]∧w'=(w.setCell ⟨q,0,none⟩ (.int .i64 c)).alloc (.cells #[.int .i64 c] 210):=by
 have hpl:=cell_lt hc
 refine callsD_of_wpS Tryz.func126 rfl fun c₀ cs hu=> ?_
 apply wpS_seq
 apply wpS_region
 simp[wpOpsS,go_sem,recoverD,hu,Tryz.ntmps126,Exit.thenS,Array.replicate]
 refine wpS_of_wp ?_
 clear hu
 have hta:∀(v:Value) (w:World),(Instr.typeAssert (.iface 210 v) 20 210 true).run Tryz.prog w= .ok (.tuple #[v, .bool true]) w:=fun _ _=>rfl
 go_wp2_with fail
 cases c₀
 simp_all [bodyPostS,results,Tryz.results126]
theorem catch_idle (p:Addr) (w:World):
 CallsD Tryz.prog 126 #[.pointer (some p)] .returning w fun e u' w'=>e= .returned (.tuple #[])∧u'= .returning∧w'=w:=by
 refine callsD_of_wpS Tryz.func126 rfl fun c₀ cs hu=> ?_
 apply wpS_seq
 apply wpS_region
 simp[wpOpsS,go_sem,recoverD,hu,Tryz.ntmps126,Exit.thenS,Array.replicate]
 refine wpS_of_wp ?_
 go_wp2_with fail
 cases c₀
 simp_all [bodyPostS,results,Tryz.results126]
theorem guard_ok (f:FuncId) (cp:Array Value) (w:World) (Q:World→Prop) (hent:∀(args:Array Value) (w:World),(callFunc f args).run Tryz.prog w= .ok (.enter f args) w)
 (hw:Calls Tryz.prog f cp (w.alloc (.cells #[.int .i64 0] 45)) fun e w'=>e= .returned (.tuple #[])∧Q w')
 (hQ:∀w2,Q w2→w2.cell? ⟨w.heap.size,0,none⟩=some (.int .i64 0)∧w2.frozen? ⟨w.heap.size,0,none⟩=false):
 Calls Tryz.prog 70 #[.func (.func f) #[] cp] w fun e w'=>e= .returned (.int .i64 0)∧∃w2,Q w2∧w'=w2.setCell ⟨w.heap.size,0,none⟩ (.int .i64 0):=by
 have hmf:∀(fn:Fn) (first cap:Array Value) (w:World),(Instr.makeFunc fn first cap).run Tryz.prog w= .ok (.func fn first cap) w:=fun _ _ _ _=>rfl
 have HQ:=hide hQ
 have HW:=hide hw
 clear hQ hw
 go_enter_defers Tryz.func70,Tryz.ntmps70
 go_wp2_with fail
 refine HW.out.mono ?_
 rintro e w2 ⟨rfl,q2⟩
 obtain ⟨c2,f2⟩:=HQ.out w2 q2
 have b2:=cell_lt c2
 have Q2:=hide q2
 clear q2 HW HQ
 go_wp2_with fail
 refine leaves_cons (f:=126) (args:=#[.pointer (some ⟨w.heap.size,0,none⟩)]) (by simp) (by simp[go_sem]) ?_
 refine (catch_idle ⟨w.heap.size,0,none⟩ _).mono ?_
 rintro e u' w'' ⟨rfl,rfl,rfl⟩
 simp[Leaves,settle,results,Tryz.results70,go_sem,b2,c2]
 exact ⟨w2,Q2.out,rfl⟩
theorem guard_bad (f:FuncId) (cp:Array Value) (c:Int) (w:World) (Q:World→Prop) (hent:∀(args:Array Value) (w:World),(callFunc f args).run Tryz.prog w= .ok (.enter f args) w)
 (hw:Calls Tryz.prog f cp (w.alloc (.cells #[.int .i64 0] 45)) fun e w'=>e= .panicked [{v:= .iface 210 (.agg #[.int .i64 c]),recovered:=false}]∧Q w')
 (hQ:∀w2,Q w2→w2.cell? ⟨w.heap.size,0,none⟩=some (.int .i64 0)∧w2.frozen? ⟨w.heap.size,0,none⟩=false):
 Calls Tryz.prog 70 #[.func (.func f) #[] cp] w fun e w'=>e= .returned (.int .i64 c)∧∃w2,Q w2∧w'=(w2.setCell ⟨w.heap.size,0,none⟩ (.int .i64 c)).alloc (.cells #[.int .i64 c] 210):=by
 have hmf:∀(fn:Fn) (first cap:Array Value) (w:World),(Instr.makeFunc fn first cap).run Tryz.prog w= .ok (.func fn first cap) w:=fun _ _ _ _=>rfl
 have HQ:=hide hQ
 have HW:=hide hw
 clear hQ hw
 go_enter_defers Tryz.func70,Tryz.ntmps70
 go_wp2_with fail
 refine HW.out.mono ?_
 rintro e w2 ⟨rfl,q2⟩
 obtain ⟨c2,f2⟩:=HQ.out w2 q2
 have b2:=cell_lt c2
 have Q2:=hide q2
 clear q2 HW HQ
 go_wp2_with fail
 refine leaves_cons (f:=126) (args:=#[.pointer (some ⟨w.heap.size,0,none⟩)]) (by simp) (by simp[go_sem]) ?_
 refine (catch_fault w.heap.size 0 c _ c2 f2).mono ?_
 rintro e u' w'' ⟨rfl,rfl,rfl⟩
 simp[Leaves,settle,results,Tryz.results70,go_sem,b2,c2]
 exact ⟨w2,Q2.out,rfl⟩
end Go.Proofs.YtdgdhnnakcncoaaGreatDoor.V
namespace Go.Proofs.YtdgdhnnakcncoaaGreatDoor.V
set_option maxHeartbeats 1600000
open Go.ChangeShapes Go.WideShapes Go.ChangeAt Go.RowKit Go.Proofs.Sp
theorem cover_ready {f:Nat→Nat} {a e:Nat} {Ps:List (Nat×Nat×Nat)} (h:Cover f a Ps e):(!(Ps.any fun x=>((x.2.2:Int) != 2)))=true↔∀p,a≤p→p<e→f p=2:=by
 rw[←h.all (fun s=>s=2)]
 simp[bne_iff_ne]
 constructor
 ·intro k a b c d;have:=k a b c d;omega
 ·intro k a b c d;have:=k a b c d;omega
end Go.Proofs.YtdgdhnnakcncoaaGreatDoor.V
namespace Go.Proofs.YtdgdhnnakcncoaaGreatDoor.V
set_option maxHeartbeats 1600000
open Go.ChangeShapes Go.WideShapes Go.ChangeAt Go.RowKit Go.Proofs.Sp
set_option linter.unusedVariables false
set_option linter.unusedSimpArgs false
theorem WordsM.kept {w w':World} {b bp bf n:Nat} {MP MF:Nat→Nat} {A:Nat→Nat→Nat} (h:WordsM w b bp bf n MP MF A) (h8:w'.cell? ⟨b,8,none⟩=w.cell? ⟨b,8,none⟩) (h9:w'.cell? ⟨b,9,none⟩=w.cell? ⟨b,9,none⟩) (hk:∀x,WFoot bp bf MP x→w'.heap[x]? =w.heap[x]?):WordsM w' b bp bf n MP MF A:=
 ⟨h8.trans h.c8,h9.trans h.c9,h.mp.kept (hk bp (Or.inl rfl)),h.mf.kept (hk bf (Or.inr (Or.inl rfl))),fun p hp=>(h.arr p hp).kept (hk _ (Or.inr (Or.inr ⟨p,by omega⟩))),h.one,h.sep,h.ne⟩
theorem WordsM.below {w w':World} {b bp bf n:Nat} {MP MF:Nat→Nat} {A:Nat→Nat→Nat} (h:WordsM w b bp bf n MP MF A) (hk:Below w.heap.size w w'):WordsM w' b bp bf n MP MF A:=
 h.kept (hk.cell (p:=⟨b,8,none⟩) (cell_lt h.c8)) (hk.cell (p:=⟨b,9,none⟩) (cell_lt h.c9)) (fun x hx=>hk.block x (h.foot hx).1)
theorem drew_below (w:World):Below w.heap.size w w.drew:=⟨rfl,rfl,rfl,Nat.le_refl _,fun _ _=>rfl⟩
set_option maxRecDepth 100000 in
theorem load1_ok (b x y z g cap bp bf n:Nat) (R:List (Nat×Nat)) (f:Nat→Nat) (MP MF:Nat→Nat) (A:Nat→Nat→Nat) (a:Int) (h0:0≤a) (h1:a<18446744073709551616) (hn:R.length≤70368744177664) (w:World) (hL:ListAt w b 3 g cap R) (hs:Seg f 0 R 34359738368) (hz:∀p,34359738368≤p→f p=0)
 (hW:WordsM w b bp bf n MP MF A) (cx:w.cell? ⟨x,0,none⟩=some (.pointer (some ⟨b,0,none⟩))) (cy:w.cell? ⟨y,0,none⟩=some (.int .u64 a)) (cz:w.cell? ⟨z,0,none⟩=some (.int .u64 0)) (fz:w.frozen? ⟨z,0,none⟩=false) (nx:x≠z) (ny:y≠z)
 (h:a%8=0) (hr:f (a/8192).toNat=2):
 Calls Tryz.prog 71 #[.pointer (some ⟨x,0,none⟩), .pointer (some ⟨y,0,none⟩), .pointer (some ⟨z,0,none⟩)] w fun e w'=>e= .returned (.tuple #[])∧∃w2,Below w.heap.size w w2∧w'=w2.setCell ⟨z,0,none⟩ (.int .u64 (wordAt MP MF A (a.toNat/8192) (a.toNat%8192/8):Nat)):=by
 have hxl:=cell_lt cx
 have hyl:=cell_lt cy
 have hzl:=cell_lt cz
 have HL:=hide hL
 have HS:=hide hs
 have HZ:=hide hz
 have HW:=hide hW
 have HR:=hide hr
 clear hL hs hz hW hr
 go_enter Tryz.func71,Tryz.ntmps71
 go_wp2_with fail
 refine (touch_ok b g cap R f a h0 h1 hn w HL.out HS.out HZ.out h HR.out).mono ?_
 rintro e w1 ⟨rfl,B1⟩
 have HB:=hide B1
 have W1:=hide (HW.out.below B1)
 obtain ⟨q1,q2⟩:=bcell B1
 have cx1:=(q1 x 0 hxl).trans cx
 have cy1:=(q1 y 0 hyl).trans cy
 have cz1:=(q1 z 0 hzl).trans cz
 have fz1:=(q2 z 0 hzl).trans fz
 clear q1 q2 B1 HL HS HZ HW HR cx cy cz fz
 go_wp2_with fail
 refine still_tail 4 (by kernel_rfl) (by kernel_rfl) ?_
 simp only[List.take_succ_cons,List.take_zero,List.drop_succ_cons,List.drop_zero]
 repeat still_step
 refine wpStill_nil ?_
 go_wp2_with fail
 refine (wload_core b bp bf n MP MF A w1.drew (W1.out.below (drew_below _)) a h0 h1).mono ?_
 rintro e w' ⟨rfl,hw'⟩
 rw[hw']
 clear hw' w'
 go_wp2_with fail
 go_end0
 exact ⟨rfl,w1.drew,HB.out.trans ((drew_below w1).mono HB.out.size),by first|rfl|simp⟩
theorem load1_bad (b x y z:Nat) (a c:Int) (w:World) (cx:w.cell? ⟨x,0,none⟩=some (.pointer (some ⟨b,0,none⟩))) (cy:w.cell? ⟨y,0,none⟩=some (.int .u64 a))
 (hT:Calls Tryz.prog 72 #[.pointer (some ⟨b,0,none⟩), .int .u64 a] w fun e w'=>e= .panicked [{v:= .iface 210 (.agg #[.int .i64 c]),recovered:=false}]∧Below w.heap.size w w'):
 Calls Tryz.prog 71 #[.pointer (some ⟨x,0,none⟩), .pointer (some ⟨y,0,none⟩), .pointer (some ⟨z,0,none⟩)] w fun e w'=>e= .panicked [{v:= .iface 210 (.agg #[.int .i64 c]),recovered:=false}]∧Below w.heap.size w w':=by
 have HT:=hide hT
 clear hT
 go_enter Tryz.func71,Tryz.ntmps71
 go_wp2_with fail
 refine HT.out.mono ?_
 rintro e w1 ⟨rfl,B1⟩
 go_wp2_with fail
 exact ⟨rfl,rfl,B1⟩
theorem store1_bad (b x y z:Nat) (a c:Int) (w:World) (cx:w.cell? ⟨x,0,none⟩=some (.pointer (some ⟨b,0,none⟩))) (cy:w.cell? ⟨y,0,none⟩=some (.int .u64 a))
 (hT:Calls Tryz.prog 72 #[.pointer (some ⟨b,0,none⟩), .int .u64 a] w fun e w'=>e= .panicked [{v:= .iface 210 (.agg #[.int .i64 c]),recovered:=false}]∧Below w.heap.size w w'):
 Calls Tryz.prog 74 #[.pointer (some ⟨x,0,none⟩), .pointer (some ⟨y,0,none⟩), .pointer (some ⟨z,0,none⟩)] w fun e w'=>e= .panicked [{v:= .iface 210 (.agg #[.int .i64 c]),recovered:=false}]∧Below w.heap.size w w':=by
 have HT:=hide hT
 clear hT
 go_enter Tryz.func74,Tryz.ntmps74
 go_wp2_with fail
 refine HT.out.mono ?_
 rintro e w1 ⟨rfl,B1⟩
 go_wp2_with fail
 exact ⟨rfl,rfl,B1⟩
set_option maxRecDepth 100000 in
theorem store1_ok (b x y z bp bf n:Nat) (MP MF:Nat→Nat) (A:Nat→Nat→Nat) (a:Int) (v:Nat) (h0:0≤a) (h1:a<18446744073709551616) (hv:v<18446744073709551616) (hn:n≤4398046511104) (w:World)
 (hW:WordsM w b bp bf n MP MF A) (cx:w.cell? ⟨x,0,none⟩=some (.pointer (some ⟨b,0,none⟩))) (cy:w.cell? ⟨y,0,none⟩=some (.int .u64 a)) (cz:w.cell? ⟨z,0,none⟩=some (.int .u64 (v:Int)))
 (hT:Calls Tryz.prog 72 #[.pointer (some ⟨b,0,none⟩), .int .u64 a] w fun e w'=>e= .returned (.tuple #[])∧Below w.heap.size w w'):
 Calls Tryz.prog 74 #[.pointer (some ⟨x,0,none⟩), .pointer (some ⟨y,0,none⟩), .pointer (some ⟨z,0,none⟩)] w fun e w'=>e= .returned (.tuple #[])∧∃w2,Below w.heap.size w w2∧WPost w2 w' b bp bf (n+1) MP MF (fun q=>q≠a.toNat/8192) (fun q j=>if q=a.toNat/8192∧j=a.toNat%8192/8 then v else wordAt MP MF A q j):=by
 have hxl:=cell_lt cx
 have hyl:=cell_lt cy
 have hzl:=cell_lt cz
 have HW:=hide hW
 have HT:=hide hT
 clear hT hW
 obtain ⟨PO,hPO⟩:∃PO:World→Prop,PO=fun w'=>∃w2,Below w.heap.size w w2∧WPost w2 w' b bp bf (n+1) MP MF (fun q=>q≠a.toNat/8192) (fun q j=>if q=a.toNat/8192∧j=a.toNat%8192/8 then v else wordAt MP MF A q j):=⟨_,rfl⟩
 suffices Calls Tryz.prog 74 #[.pointer (some ⟨x,0,none⟩), .pointer (some ⟨y,0,none⟩), .pointer (some ⟨z,0,none⟩)] w fun e w'=>e= .returned (.tuple #[])∧PO w' by rw[hPO] at this;exact this
 have FIN:=hide hPO
 clear hPO
 go_enter Tryz.func74,Tryz.ntmps74
 go_wp2_with fail
 refine HT.out.mono ?_
 rintro e w1 ⟨rfl,B1⟩
 have HB:=hide B1
 have W1:=hide (HW.out.below B1)
 obtain ⟨q1,q2⟩:=bcell B1
 have cx1:=(q1 x 0 hxl).trans cx
 have cy1:=(q1 y 0 hyl).trans cy
 have cz1:=(q1 z 0 hzl).trans cz
 clear q1 q2 B1 HW HT cx cy cz
 go_wp2_with fail
 refine still_tail 5 (by kernel_rfl) (by kernel_rfl) ?_
 simp only[List.take_succ_cons,List.take_zero,List.drop_succ_cons,List.drop_zero]
 repeat still_step
 refine wpStill_nil ?_
 go_wp2_with fail
 refine (wstore_core b bp bf n MP MF A w1.drew (W1.out.below (drew_below _)) hn a h0 h1 v hv).mono ?_
 rintro e w' ⟨rfl,hP⟩
 go_wp2_with fail
 go_end0
 refine ⟨rfl,?_⟩
 rw[FIN.out]
 exact ⟨w1.drew,HB.out.trans ((drew_below w1).mono HB.out.size),hP.out⟩
end Go.Proofs.YtdgdhnnakcncoaaGreatDoor.V
namespace Go.Proofs.YtdgdhnnakcncoaaGreatDoor.V
set_option maxHeartbeats 1600000
open Go.ChangeShapes Go.WideShapes Go.ChangeAt Go.RowKit Go.Proofs.Sp
theorem SlB.kept' {w w':World} {v:Value} {xs:List Value} {g:Nat} (h:SlB w v xs g) (hs:w.heap.size≤w'.heap.size) (hg:xs≠ []→w'.heap[g]? =w.heap[g]?):SlB w' v xs g:=by
 rcases h with h|⟨off,cap,h1,h2,h3,h4,h5⟩
 ·exact Or.inl h
 ·refine Or.inr ⟨off,cap,h1,h2,h3,by omega,fun j u hu=> ?_⟩
  have:xs≠ []:=fun z=>by subst z;simp at hu
  rw[World.cell?_of_block (hg this)];exact h5 j u hu
theorem SlB.lt {w:World} {v:Value} {xs:List Value} {g:Nat} (h:SlB w v xs g) (hx:xs≠ []):g<w.heap.size:=by
 rcases h with ⟨_,h⟩|⟨off,cap,h1,h2,h3,h4,h5⟩
 ·exact absurd h hx
 ·exact h4
theorem u64s_ne {l:List Nat}:u64s l≠ []↔l≠ []:=by simp[u64s]
theorem bools_ne {l:List Bool}:bools l≠ []↔l≠ []:=by simp[bools]
def Foot (b g0 g1 g2 g bp bf:Nat) (pl:List Nat) (re:List Bool) (fi:List Nat) (MP:Nat→Nat) (x:Nat):Prop:=
 x=b∨(pl≠ []∧x=g0)∨(re≠ []∧x=g1)∨(fi≠ []∧x=g2)∨x=g∨WFoot bp bf MP x
structure Lies (w:World) (b:Nat) (pl:List Nat) (re:List Bool) (fi:List Nat) (f:Nat→Nat) (g0 g1 g2 g cap:Nat) (R:List (Nat×Nat)) (bp bf n:Nat) (MP MF:Nat→Nat) (A:Nat→Nat→Nat):Prop where
 s0:∃v,w.cell? ⟨b,0,none⟩=some v∧SlB w v (u64s pl) g0
 s1:∃v,w.cell? ⟨b,1,none⟩=some v∧SlB w v (bools re) g1
 s2:∃v,w.cell? ⟨b,2,none⟩=some v∧SlB w v (u64s fi) g2
 rows:RowsM w b 3 g cap R f
 words:WordsM w b bp bf n MP MF A
 n0:g0≠b
 n1:g1≠b
 n2:g2≠b
 d0:pl≠ []→g0≠g∧¬WFoot bp bf MP g0
 d1:re≠ []→g1≠g∧¬WFoot bp bf MP g1
 d2:fi≠ []→g2≠g∧¬WFoot bp bf MP g2
 dg:¬WFoot bp bf MP g
structure Moves (F F':Nat→Prop) (w w':World):Prop where
 fr:FrB F w w'
 new:∀x,F' x→F x∨w.heap.size≤x
theorem Moves.trans {F F' F'':Nat→Prop} {w w' w'':World} (h:Moves F F' w w') (k:Moves F' F'' w' w''):Moves F F'' w w'':=by
 have hs:=h.fr.size
 refine ⟨⟨k.fr.os.trans h.fr.os,k.fr.tape.trans h.fr.tape,k.fr.output.trans h.fr.output,Nat.le_trans hs k.fr.size,fun x hx hn=> ?_⟩,fun x hx=> ?_⟩
 ·rw[k.fr.block x (by omega) (fun z=>by rcases h.new x z with z|z;exact hn z;omega)]
  exact h.fr.block x hx hn
 ·rcases k.new x hx with z|z
  ·exact h.new x z
  ·right;omega
theorem Moves.below {F:Nat→Prop} {w w':World} (h:Below w.heap.size w w'):Moves F F w w':=⟨⟨h.os,h.tape,h.output,h.size,fun x hx _=>h.block x hx⟩,fun _ h=>Or.inl h⟩
theorem Moves.refl (F:Nat→Prop) (w:World):Moves F F w w:=⟨FrB.refl _ _,fun _ h=>Or.inl h⟩
variable {w w':World} {b:Nat} {pl:List Nat} {re:List Bool} {fi:List Nat} {f:Nat→Nat} {g0 g1 g2 g cap:Nat} {R:List (Nat×Nat)} {bp bf n:Nat} {MP MF:Nat→Nat} {A:Nat→Nat→Nat}
theorem RowsM.glt (h:RowsM w b 3 g cap R f):g<w.heap.size:=h.holds.row.elim fun _ h=>(Array.getElem?_eq_some_iff.1 h.1.heap).1
theorem Lies.lt (h:Lies w b pl re fi f g0 g1 g2 g cap R bp bf n MP MF A) {x:Nat} (hx:Foot b g0 g1 g2 g bp bf pl re fi MP x):x<w.heap.size:=by
 rcases hx with rfl|⟨z,rfl⟩|⟨z,rfl⟩|⟨z,rfl⟩|rfl|z
 ·exact cell_lt h.rows.list
 ·obtain ⟨v,_,k⟩:=h.s0;exact k.lt (u64s_ne.2 z)
 ·obtain ⟨v,_,k⟩:=h.s1;exact k.lt (bools_ne.2 z)
 ·obtain ⟨v,_,k⟩:=h.s2;exact k.lt (u64s_ne.2 z)
 ·exact h.rows.glt
 ·exact (h.words.foot z).1
theorem RowsM.kept (h:RowsM w b 3 g cap R f) (hc:∀k,3≤k→k<8→w'.cell? ⟨b,k,none⟩=w.cell? ⟨b,k,none⟩) (hf:∀k,w'.frozen? ⟨b,k,none⟩=w.frozen? ⟨b,k,none⟩) (hg:w'.heap[g]? =w.heap[g]?):RowsM w' b 3 g cap R f:=by
 refine ⟨(hc 3 (by omega) (by omega)).trans h.list,?_,fun k hk=>(hc _ (by omega) (by omega)).trans (h.cnt k hk),fun k=>(hf k).trans (h.fz k),h.seg,h.alt,h.le3,h.ne⟩
 obtain ⟨⟨cur,hr,ht⟩,hl⟩:=h.holds
 exact ⟨⟨cur,⟨hg.trans hr.heap,hr.len,hr.cap⟩,ht⟩,hl⟩
theorem fz_of_block {w w':World} {x k:Nat} (h:w'.heap[x]? =w.heap[x]?):w'.frozen? ⟨x,k,none⟩=w.frozen? ⟨x,k,none⟩:=by simp[World.frozen?,h]
theorem Lies.kept (h:Lies w b pl re fi f g0 g1 g2 g cap R bp bf n MP MF A) (hs:w.heap.size≤w'.heap.size) (hk:∀x,Foot b g0 g1 g2 g bp bf pl re fi MP x→w'.heap[x]? =w.heap[x]?):Lies w' b pl re fi f g0 g1 g2 g cap R bp bf n MP MF A:=by
 have hb:=hk b (Or.inl rfl)
 have hg:=hk g (Or.inr (Or.inr (Or.inr (Or.inr (Or.inl rfl)))))
 have hc:∀k,w'.cell? ⟨b,k,none⟩=w.cell? ⟨b,k,none⟩:=fun k=>World.cell?_of_block hb
 refine ⟨?_,?_,?_,h.rows.kept (fun k _ _=>hc k) (fun k=>fz_of_block hb) hg,h.words.kept (hc 8) (hc 9) (fun x hx=>hk x (Or.inr (Or.inr (Or.inr (Or.inr (Or.inr hx)))))),h.n0,h.n1,h.n2,h.d0,h.d1,h.d2,h.dg⟩
 ·obtain ⟨v,c,k⟩:=h.s0
  exact ⟨v,(hc 0).trans c,k.kept' hs (fun z=>hk _ (Or.inr (Or.inl ⟨u64s_ne.1 z,rfl⟩)))⟩
 ·obtain ⟨v,c,k⟩:=h.s1
  exact ⟨v,(hc 1).trans c,k.kept' hs (fun z=>hk _ (Or.inr (Or.inr (Or.inl ⟨bools_ne.1 z,rfl⟩))))⟩
 ·obtain ⟨v,c,k⟩:=h.s2
  exact ⟨v,(hc 2).trans c,k.kept' hs (fun z=>hk _ (Or.inr (Or.inr (Or.inr (Or.inl ⟨u64s_ne.1 z,rfl⟩)))))⟩
theorem Lies.below (h:Lies w b pl re fi f g0 g1 g2 g cap R bp bf n MP MF A) (hk:Below w.heap.size w w'):Lies w' b pl re fi f g0 g1 g2 g cap R bp bf n MP MF A:=
 h.kept hk.size (fun x hx=>hk.block x (h.lt hx))
theorem Lies.turn (h:Lies w b pl re fi f g0 g1 g2 g cap R bp bf n MP MF A) {n':Nat} {Z:Nat→Prop} {W:Nat→Nat→Nat} {MP' MF':Nat→Nat} {A':Nat→Nat→Nat} (k:WNow w w' b bp bf n' MP MF Z W MP' MF' A'):
 Lies w' b pl re fi f g0 g1 g2 g cap R bp bf n' MP' MF' A'∧Moves (Foot b g0 g1 g2 g bp bf pl re fi MP) (Foot b g0 g1 g2 g bp bf pl re fi MP') w w':=by
 have new:∀x,WFoot bp bf MP' x→WFoot bp bf MP x∨w.heap.size≤x:=by
  rintro x (rfl|rfl|⟨q,hq⟩)
  ·exact Or.inl (Or.inl rfl)
  ·exact Or.inl (Or.inr (Or.inl rfl))
  ·rcases k.old q (by omega) with ⟨r,hr⟩|z
   ·exact Or.inl (Or.inr (Or.inr ⟨r,by omega⟩))
   ·right;omega
 have hbl:b<w.heap.size:=cell_lt h.rows.list
 have hgl:=h.rows.glt
 have bb:w'.heap[b]? =w.heap[b]? :=k.fr.block b hbl (fun z=>(h.words.foot z).2 rfl)
 have bg:w'.heap[g]? =w.heap[g]? :=k.fr.block g hgl h.dg
 have hc:∀k,w'.cell? ⟨b,k,none⟩=w.cell? ⟨b,k,none⟩:=fun k=>World.cell?_of_block bb
 have old:∀x,x<w.heap.size→¬WFoot bp bf MP x→¬WFoot bp bf MP' x:=fun x hx hn z=>by
  rcases new x z with z|z
  ·exact hn z
  ·omega
 obtain ⟨v0,c0,k0⟩:=h.s0
 obtain ⟨v1,c1,k1⟩:=h.s1
 obtain ⟨v2,c2,k2⟩:=h.s2
 refine ⟨⟨⟨v0,(hc 0).trans c0,k0.kept' k.fr.size fun z=>k.fr.block _ (k0.lt z) (h.d0 (u64s_ne.1 z)).2⟩,⟨v1,(hc 1).trans c1,k1.kept' k.fr.size fun z=>k.fr.block _ (k1.lt z) (h.d1 (bools_ne.1 z)).2⟩,⟨v2,(hc 2).trans c2,k2.kept' k.fr.size fun z=>k.fr.block _ (k2.lt z) (h.d2 (u64s_ne.1 z)).2⟩,
  h.rows.kept (fun k _ _=>hc k) (fun k=>fz_of_block bb) bg,k.wm,h.n0,h.n1,h.n2,fun z=>⟨(h.d0 z).1,old _ (k0.lt (u64s_ne.2 z)) (h.d0 z).2⟩,fun z=>⟨(h.d1 z).1,old _ (k1.lt (bools_ne.2 z)) (h.d1 z).2⟩,fun z=>⟨(h.d2 z).1,old _ (k2.lt (u64s_ne.2 z)) (h.d2 z).2⟩,old g hgl h.dg⟩,?_,?_⟩
 ·exact k.fr.mono fun x _ hx=>Or.inr (Or.inr (Or.inr (Or.inr (Or.inr hx))))
 ·rintro x (hx|hx|hx|hx|hx|hx)
  ·exact Or.inl (Or.inl hx)
  ·exact Or.inl (Or.inr (Or.inl hx))
  ·exact Or.inl (Or.inr (Or.inr (Or.inl hx)))
  ·exact Or.inl (Or.inr (Or.inr (Or.inr (Or.inl hx))))
  ·exact Or.inl (Or.inr (Or.inr (Or.inr (Or.inr (Or.inl hx)))))
  ·rcases new x hx with z|z
   ·exact Or.inl (Or.inr (Or.inr (Or.inr (Or.inr (Or.inr z)))))
   ·exact Or.inr z
theorem Lies.rowed (h:Lies w b pl re fi f g0 g1 g2 g cap R bp bf n MP MF A) {f':Nat→Nat} (k:SetPost b 3 g R f' w w'):
 ∃g' c' R',Lies w' b pl re fi f' g0 g1 g2 g' c' R' bp bf n MP MF A∧R'.length≤R.length+2∧Moves (Foot b g0 g1 g2 g bp bf pl re fi MP) (Foot b g0 g1 g2 g' bp bf pl re fi MP) w w':=by
 obtain ⟨g',c',R',hR,hl,hg,k⟩:=k
 have hbl:b<w.heap.size:=cell_lt h.rows.list
 have hgl:=h.rows.glt
 obtain ⟨v0,c0,k0⟩:=h.s0
 obtain ⟨v1,c1,k1⟩:=h.s1
 obtain ⟨v2,c2,k2⟩:=h.s2
 have ng:∀x,x<w.heap.size→x≠g→x≠g':=fun x hx hn z=>by rcases hg with e|e<;>omega
 have nw:¬WFoot bp bf MP g':=fun z=>by
  rcases hg with e|e
  ·exact h.dg (e▸z)
  ·have:=(h.words.foot z).1;omega
 refine ⟨g',c',R',⟨⟨v0,(k.cell 0 (by omega)).trans c0,k0.kept' k.size fun z=>k.block _ (k0.lt z) h.n0 (h.d0 (u64s_ne.1 z)).1⟩,⟨v1,(k.cell 1 (by omega)).trans c1,k1.kept' k.size fun z=>k.block _ (k1.lt z) h.n1 (h.d1 (bools_ne.1 z)).1⟩,⟨v2,(k.cell 2 (by omega)).trans c2,k2.kept' k.size fun z=>k.block _ (k2.lt z) h.n2 (h.d2 (u64s_ne.1 z)).1⟩,
  hR,h.words.kept (k.cell 8 (by omega)) (k.cell 9 (by omega)) (fun x hx=>k.block x (h.words.foot hx).1 (h.words.foot hx).2 (fun e=>h.dg (e▸hx))),h.n0,h.n1,h.n2,fun z=>⟨ng _ (k0.lt (u64s_ne.2 z)) (h.d0 z).1,(h.d0 z).2⟩,fun z=>⟨ng _ (k1.lt (bools_ne.2 z)) (h.d1 z).1,(h.d1 z).2⟩,fun z=>⟨ng _ (k2.lt (u64s_ne.2 z)) (h.d2 z).1,(h.d2 z).2⟩,nw⟩,hl,?_,?_⟩
 ·exact ⟨k.os,k.tape,k.output,k.size,fun x hx hn=>k.block x hx (fun e=>hn (Or.inl e)) (fun e=>hn (Or.inr (Or.inr (Or.inr (Or.inr (Or.inl e))))))⟩
 ·rintro x (hx|hx|hx|hx|hx|hx)
  ·exact Or.inl (Or.inl hx)
  ·exact Or.inl (Or.inr (Or.inl hx))
  ·exact Or.inl (Or.inr (Or.inr (Or.inl hx)))
  ·exact Or.inl (Or.inr (Or.inr (Or.inr (Or.inl hx))))
  ·rcases hg with e|e
   ·exact Or.inl (Or.inr (Or.inr (Or.inr (Or.inr (Or.inl (hx.trans e))))))
   ·right;omega
  ·exact Or.inl (Or.inr (Or.inr (Or.inr (Or.inr (Or.inr hx)))))
end Go.Proofs.YtdgdhnnakcncoaaGreatDoor.V
