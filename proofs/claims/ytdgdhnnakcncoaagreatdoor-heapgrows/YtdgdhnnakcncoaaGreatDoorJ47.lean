/- Of the proof of HeapClasses: texts HHc, HHd, HHe, HHf, HHg. -/
import Derived.Test.YtdgdhnnakcncoaaGreatDoorJ46
import Derived.Defers
import Derived.Recover
namespace Go.Proofs.YtdgdhnnakcncoaaGreatDoor
set_option maxHeartbeats 1600000
open Go.ChangeShapes Go.WideShapes Go.ChangeAt Go.RowKit Go.Proofs.Bt Go.Shelf Go.Proofs.Rx Go.Maps Go.Proofs.Pk
set_option linter.unusedVariables false
set_option linter.unusedSimpArgs false
def rowV (p n r:Nat):Value:= .agg #[.int .u64 (p:Nat), .int .u64 (n:Nat), .int .u64 (r:Nat)]
theorem ret_row {fn:Func} {p u:Tmp} (hf:fn.results=#[.cell p 272, .tmp u]) {Q a b c:Nat} {W:World} {x:Value} {tmps:Array Value} (hp:tmps.getD p undef= .pointer (some ⟨Q,0,none⟩)) (hu:tmps.getD u undef=x)
 (h:Bk W Q 272 #[.int .u64 (a:Nat), .int .u64 (b:Nat), .int .u64 (c:Nat)]):(results fn tmps).run Tryz.prog W= .ok (.tuple #[rowV a b c,x]) W:=by
 have e0:=h.cell 0 _ rfl
 have e1:=h.cell 1 _ rfl
 have e2:=h.cell 2 _ rfl
 have hp':tmps[p]?.getD undef= .pointer (some ⟨Q,0,none⟩):=by simpa using hp
 have hu':tmps[u]?.getD undef=x:=by simpa using hu
 simp[results,hf,hp',hu',go_sem,rowV,e0,e1,e2,Result.andThen]
theorem isP_any (p:Int) (b:Bool) (hb:decide (0≤p∧p<64)=b) (w:World):Calls Tryz.prog 81 #[.int .i64 p] w fun e w'=>e= .returned (.bool b)∧w'=w:=by
 subst hb
 by_cases c:0≤p
 ·by_cases d:p<64
  ·rw[decide_eq_true (show 0≤p∧p<64 from ⟨c,d⟩)]
   go_enter Tryz.func81,Tryz.ntmps81
   go_wp2_with fail
   go_ret
   exact ⟨rfl,rfl⟩
  ·rw[decide_eq_false (show ¬(0≤p∧p<64) from fun z=>d z.2)]
   go_enter Tryz.func81,Tryz.ntmps81
   go_wp2_with fail
   go_ret
   exact ⟨rfl,rfl⟩
 ·rw[decide_eq_false (show ¬(0≤p∧p<64) from fun z=>c z.1)]
  go_enter Tryz.func81,Tryz.ntmps81
  go_wp2_with fail
  go_ret
  exact ⟨rfl,rfl⟩
section
variable {N:Nat} {a:HA} {x x':HS} {w W:World} {l:List (Thing N)}
theorem open_any (hs:Sep N w W (HL N a x l)):Calls Tryz.prog 46 #[pt a.hb] W fun e W'=>e= .returned (.tuple #[])∧W'=W:=by
 have c1:=(Sep.hb hs).c1
 unfold pt at c1 ⊢
 clear hs
 go_enter Tryz.func46,Tryz.ntmps46
 go_wp2_with fail
 go_end0
 exact ⟨rfl,rfl⟩
set_option maxRecDepth 100000 in
theorem fromTree_any (hs:Sep N w W (HL N a x l)) {n p r:Nat} {e:Int} {f:Bool} (he:(e==0)=f)
 (ct:∀W1 l',Sep N w W1 (HL N a x l')→Calls Tryz.prog 279 #[pt a.tb, .int .u64 (n:Nat)] W1 fun e' W'=>e'= .returned (.tuple #[.int .u64 (p:Nat), .int .u64 (r:Nat), .int .i64 e])∧Sep N w W' (HL N a x' l')):
 Calls Tryz.prog 232 #[pt a.hb, .int .u64 (n:Nat)] W fun e' W'=>e'= .returned (.tuple #[rowV p n r, .bool f])∧Sep N w W' (HL N a x' l):=by
 have S0:Sep N w _ (HL N a x (l++_)):=hs.fr.fnew #[.int .u64 0, .int .u64 0, .int .u64 0] 272
 obtain ⟨W1,hW1⟩:∃W1,W.alloc (.cells #[.int .u64 0, .int .u64 0, .int .u64 0] 272)=W1:=⟨_,rfl⟩
 obtain ⟨Q,hQ⟩:∃Q,W.heap.size=Q:=⟨_,rfl⟩
 rw[hW1,hQ] at S0
 have c1:=(Sep.hb S0).c1
 have CT:=hide (ct _ _ S0)
 unfold pt at c1 CT ⊢
 clear S0 hs ct
 go_enter Tryz.func232,Tryz.ntmps232
 go_wp2_with fail
 refine CT.out.mono ?_
 rintro e' W2 ⟨rfl,s2⟩
 have B:=Sep.fget (l:=HL N a x' l) s2 0 rfl
 have b0:=B.cell 0 _ rfl
 have b1:=B.cell 1 _ rfl
 have b2:=B.cell 2 _ rfl
 have f0:=B.fz 0
 have f1:=B.fz 1
 have f2:=B.fz 2
 have S3:=hide ((((show Sep N w W2 (HL N a x' l++ [tFr N _]) from s2).fset 0 rfl 0 (.int .u64 (p:Nat))).fset 0 rfl 1 (.int .u64 (n:Nat))).fset 0 rfl 2 (.int .u64 (r:Nat)))
 clear s2 B CT
 go_wp2_with fail
 exact bodyPost_ret (ret_row rfl rfl rfl (S3.out.fget 0 rfl)) rfl ⟨rfl,S3.out.unfr⟩
end
end Go.Proofs.YtdgdhnnakcncoaaGreatDoor
namespace Go.Proofs.YtdgdhnnakcncoaaGreatDoor
set_option maxHeartbeats 1600000
open Go.ChangeShapes Go.WideShapes Go.ChangeAt Go.RowKit Go.Proofs.Bt Go.Shelf Go.Proofs.Rx Go.Maps Go.Proofs.Pk
set_option linter.unusedVariables false
set_option linter.unusedSimpArgs false
section
variable {N:Nat} {a:HA} {x x1 x2 x':HS} {w W:World} {l:List (Thing N)}
def Does (N:Nat) (a:HA) (w:World) (f:FuncId) (args:Array Value) (v:Value) (x x':HS):Prop:=
 ∀W l,Sep N w W (HL N a x l)→Calls Tryz.prog f args W fun e W'=>e= .returned v∧Sep N w W' (HL N a x' l)
set_option maxRecDepth 100000 in
theorem fromCache_not (p:Int) (n:Nat) (h:¬(0≤p∧p<64)∨16≤n):
 Does N a w 231 #[pt a.hb, .int .i64 p, .int .u64 (n:Nat)] (.tuple #[rowV 0 0 0, .bool false]) x x:=by
 intro W l hs
 have S0:Sep N w _ (HL N a x (l++_)):=hs.fr.fnew #[.int .u64 0, .int .u64 0, .int .u64 0] 272
 obtain ⟨W1,hW1⟩:∃W1,W.alloc (.cells #[.int .u64 0, .int .u64 0, .int .u64 0] 272)=W1:=⟨_,rfl⟩
 obtain ⟨Q,hQ⟩:∃Q,W.heap.size=Q:=⟨_,rfl⟩
 rw[hW1,hQ] at S0
 have B:=Sep.fget (l:=HL N a x l) S0 0 rfl
 have b0:=B.cell 0 _ rfl
 have b1:=B.cell 1 _ rfl
 have b2:=B.cell 2 _ rfl
 have f0:=B.fz 0
 have f1:=B.fz 1
 have f2:=B.fz 2
 have S3:=hide ((((show Sep N w W1 (HL N a x l++ [tFr N _]) from S0).fset 0 rfl 0 (.int .u64 0)).fset 0 rfl 1 (.int .u64 0)).fset 0 rfl 2 (.int .u64 0))
 unfold pt
 clear S0 hs B
 obtain ⟨b,hb⟩:∃b,decide (0≤p∧p<64)=b:=⟨_,rfl⟩
 have IP:=hide (isP_any p b hb)
 have q:b=false∨b=true∧decide ((16:Int)≤(n:Int))=true:=by
  cases b
  ·exact .inl rfl
  ·exact .inr ⟨rfl,decide_eq_true (by rcases h with h|h;exact absurd (of_decide_eq_true hb) h;omega)⟩
 clear hb h
 rcases q with rfl|⟨rfl,q⟩
 ·go_enter Tryz.func231,Tryz.ntmps231
  go_wp2_with fail
  refine (IP.out _).mono ?_
  rintro e W2 ⟨rfl,hw⟩
  rw[hw]
  clear hw W2 IP
  go_wp2_with fail
  exact bodyPost_ret (ret_row rfl rfl rfl (S3.out.fget 0 rfl)) rfl ⟨rfl,S3.out.unfr⟩
 ·go_enter Tryz.func231,Tryz.ntmps231
  go_wp2_with fail
  refine (IP.out _).mono ?_
  rintro e W2 ⟨rfl,hw⟩
  rw[hw]
  clear hw W2 IP
  go_wp2_with fail
  exact bodyPost_ret (ret_row rfl rfl rfl (S3.out.fget 0 rfl)) rfl ⟨rfl,S3.out.unfr⟩
set_option maxRecDepth 100000 in
theorem fromCache_got {p n pg r:Nat} {e:Int} {emp f:Bool} (hp:p<64) (hn:n<16) (hr:r≤64) (he:(e==0)=f) {v:Int}
 (cE:Does N a w 187 #[pt (a.cb p)] (.bool emp) x x)
 (cF:emp=true→Does N a w 277 #[pt (a.cb p),pt a.tb] (.int .i64 v) x x1) (h1:emp=false→x1=x)
 (cA:Does N a w 278 #[pt (a.cb p), .int .i64 (n:Nat)] (.tuple #[.int .u64 (pg:Nat), .int .i64 (r:Nat), .int .i64 e]) x1 x2):
 Does N a w 231 #[pt a.hb, .int .i64 (p:Nat), .int .u64 (n:Nat)] (.tuple #[rowV pg n r, .bool f]) x x2:=by
 intro W l hs
 have S0:Sep N w _ (HL N a x (l++_)):=hs.fr.fnew #[.int .u64 0, .int .u64 0, .int .u64 0] 272
 obtain ⟨W1,hW1⟩:∃W1,W.alloc (.cells #[.int .u64 0, .int .u64 0, .int .u64 0] 272)=W1:=⟨_,rfl⟩
 obtain ⟨Q,hQ⟩:∃Q,W.heap.size=Q:=⟨_,rfl⟩
 rw[hW1,hQ] at S0
 have S1:=hide S0
 have c1:=(Sep.hb S0).c1
 have cp:=(Sep.hb S0).cc p hp
 have IP:=hide (isP_any (p:Nat) true (decide_eq_true ⟨by omega,by omega⟩))
 have CE:=hide (cE _ _ S0)
 have CF:=hide cF
 have CA:=hide cA
 have n0:IntKind.i64.wrap (n:Int)=n:=by rw[IntKind.wrap_i64];omega
 have r0:IntKind.u64.wrap (r:Int)=r:=by rw[IntKind.wrap_u64];omega
 have q:decide ((16:Int)≤(n:Int))=false:=decide_eq_false (by omega)
 have p0:(0:Int)≤(p:Int):=by omega
 have p1:(p:Int)<64:=by omega
 unfold pt at c1 cp CE CF CA ⊢
 clear S0 hs cE cF cA hp hn hr
 cases emp
 ·obtain rfl:=h1 rfl
  go_enter Tryz.func231,Tryz.ntmps231
  go_wp2_with fail
  refine (IP.out _).mono ?_
  rintro e' W2 ⟨rfl,hw⟩
  rw[hw]
  clear hw W2 IP
  go_wp2_with fail
  refine CE.out.mono ?_
  rintro e' W2 ⟨rfl,s2⟩
  have CA2:=hide (CA.out _ _ s2)
  clear CA CE CF s2
  go_wp2_with fail
  refine CA2.out.mono ?_
  rintro e' W3 ⟨rfl,s3⟩
  obtain ⟨b0,b1,b2,f0,f1,f2⟩:=(Sep.fget (l:=HL N a x2 l) s3 0 rfl).row3
  have S3:=hide (Sep.frow (l:=HL N a x2 l) s3 0 rfl (.int .u64 (pg:Nat)) (.int .u64 (n:Nat)) (.int .u64 (r:Nat)))
  clear s3 CA2 S1
  go_wp2_with fail
  exact bodyPost_ret (ret_row rfl rfl rfl (S3.out.fget 0 rfl)) rfl ⟨rfl,S3.out.unfr⟩
 ·go_enter Tryz.func231,Tryz.ntmps231
  go_wp2_with fail
  refine (IP.out _).mono ?_
  rintro e' W2 ⟨rfl,hw⟩
  rw[hw]
  clear hw W2 IP
  go_wp2_with fail
  refine CE.out.mono ?_
  rintro e' W2 ⟨rfl,s2⟩
  have c1:=(Sep.hb s2).c1
  have CF2:=hide (CF.out (by simp) _ _ s2)
  unfold pt at c1
  clear CE CF s2
  go_wp2_with fail
  refine CF2.out.mono ?_
  rintro e' W3 ⟨rfl,s3⟩
  have CA2:=hide (CA.out _ _ s3)
  clear CA CF2 s3
  go_wp2_with fail
  refine CA2.out.mono ?_
  rintro e' W4 ⟨rfl,s4⟩
  obtain ⟨b0,b1,b2,f0,f1,f2⟩:=(Sep.fget (l:=HL N a x2 l) s4 0 rfl).row3
  have S3:=hide (Sep.frow (l:=HL N a x2 l) s4 0 rfl (.int .u64 (pg:Nat)) (.int .u64 (n:Nat)) (.int .u64 (r:Nat)))
  clear s4 CA2 S1
  go_wp2_with fail
  exact bodyPost_ret (ret_row rfl rfl rfl (S3.out.fget 0 rfl)) rfl ⟨rfl,S3.out.unfr⟩
end
end Go.Proofs.YtdgdhnnakcncoaaGreatDoor
namespace Go.Proofs.YtdgdhnnakcncoaaGreatDoor
set_option maxHeartbeats 1600000
open Go.ChangeShapes Go.WideShapes Go.ChangeAt Go.RowKit Go.Proofs.Bt Go.Shelf Go.Proofs.Rx Go.Maps Go.Proofs.Pk
set_option linter.unusedVariables false
set_option linter.unusedSimpArgs false
section
variable {N:Nat} {a:HA} {x x1 x2 x3 x':HS} {X:Nat→HS} {g:Nat} {w W:World} {l:List (Thing N)}
set_option maxRecDepth 100000 in
theorem find_1 {p:Int} {n pg m r:Nat} (c1:Does N a w 231 #[pt a.hb, .int .i64 p, .int .u64 (n:Nat)] (.tuple #[rowV pg m r, .bool true]) x x'):
 Does N a w 180 #[pt a.hb, .int .i64 p, .int .u64 (n:Nat)] (.tuple #[rowV pg m r, .int .i64 0]) x x':=by
 intro W l hs
 have S0:Sep N w _ (HL N a x (l++_)):=hs.fr.fnew #[.int .u64 0, .int .u64 0, .int .u64 0] 272
 obtain ⟨W1,hW1⟩:∃W1,W.alloc (.cells #[.int .u64 0, .int .u64 0, .int .u64 0] 272)=W1:=⟨_,rfl⟩
 obtain ⟨Q,hQ⟩:∃Q,W.heap.size=Q:=⟨_,rfl⟩
 rw[hW1,hQ] at S0
 have CT:=hide (c1 _ _ S0)
 unfold pt rowV at CT
 unfold pt
 clear S0 hs c1
 go_enter Tryz.func180,Tryz.ntmps180
 go_wp2_with fail
 refine CT.out.mono ?_
 rintro e' W2 ⟨rfl,s2⟩
 have s3:=Sep.fnew (l:=HL N a x' l) s2 #[.int .u64 0, .int .u64 0, .int .u64 0] 272
 have lt:=(Sep.fget (l:=HL N a x' l) s2 0 rfl).lt
 obtain ⟨W3,hW3⟩:∃W3,W2.alloc (.cells #[.int .u64 0, .int .u64 0, .int .u64 0] 272)=W3:=⟨_,rfl⟩
 obtain ⟨Q2,hQ2⟩:∃Q2,W2.heap.size=Q2:=⟨_,rfl⟩
 rw[hW3,hQ2] at s3
 have hne:Q≠Q2:=by omega
 obtain ⟨b0,b1,b2,f0,f1,f2⟩:=(s3.fget 0 rfl).row3
 obtain ⟨d0,d1,d2,z0,z1,z2⟩:=(s3.fget 1 rfl).row3
 have S4:=hide ((s3.frow 1 rfl (.int .u64 (pg:Nat)) (.int .u64 (m:Nat)) (.int .u64 (r:Nat))).frow 0 rfl (.int .u64 (pg:Nat)) (.int .u64 (m:Nat)) (.int .u64 (r:Nat)))
 clear s2 s3 CT
 go_wp2_with fail
 exact bodyPost_ret (ret_row rfl rfl rfl (S4.out.fget 0 rfl)) rfl ⟨rfl,S4.out.unfr⟩
set_option maxRecDepth 100000 in
theorem find_2 {p:Int} {n pg m r g1 m1 r1:Nat} (c1:Does N a w 231 #[pt a.hb, .int .i64 p, .int .u64 (n:Nat)] (.tuple #[rowV g1 m1 r1, .bool false]) x x1) (c2:Does N a w 232 #[pt a.hb, .int .u64 (n:Nat)] (.tuple #[rowV pg m r, .bool true]) x1 x2):
 Does N a w 180 #[pt a.hb, .int .i64 p, .int .u64 (n:Nat)] (.tuple #[rowV pg m r, .int .i64 0]) x x2:=by
 intro W l hs
 have S0:Sep N w _ (HL N a x (l++_)):=hs.fr.fnew #[.int .u64 0, .int .u64 0, .int .u64 0] 272
 obtain ⟨W1,hW1⟩:∃W1,W.alloc (.cells #[.int .u64 0, .int .u64 0, .int .u64 0] 272)=W1:=⟨_,rfl⟩
 obtain ⟨Q,hQ⟩:∃Q,W.heap.size=Q:=⟨_,rfl⟩
 rw[hW1,hQ] at S0
 have CT:=hide (c1 _ _ S0)
 unfold pt rowV at CT
 unfold pt
 clear S0 hs c1
 go_enter Tryz.func180,Tryz.ntmps180
 go_wp2_with fail
 refine CT.out.mono ?_
 rintro e' W2 ⟨rfl,s2⟩
 have s3:=Sep.fnew (l:=HL N a x1 l) s2 #[.int .u64 0, .int .u64 0, .int .u64 0] 272
 have lt0:=(Sep.fget (l:=HL N a x1 l) s2 0 rfl).lt
 obtain ⟨W2',hW2⟩:∃W',W2.alloc (.cells #[.int .u64 0, .int .u64 0, .int .u64 0] 272)=W':=⟨_,rfl⟩
 obtain ⟨Q2,hQ2⟩:∃Q',W2.heap.size=Q':=⟨_,rfl⟩
 rw[hW2,hQ2] at s3
 have neQ20:Q≠Q2:=by omega
 obtain ⟨d0,d1,d2,z0,z1,z2⟩:=(s3.fget 1 rfl).row3
 have S4:=s3.frow 1 rfl (.int .u64 (g1:Nat)) (.int .u64 (m1:Nat)) (.int .u64 (r1:Nat))
 have C2:=hide (c2 _ _ S4)
 unfold pt rowV at C2
 clear s2 s3 CT c2 S4
 go_wp2_with fail
 refine C2.out.mono ?_
 rintro e' W4 ⟨rfl,s4⟩
 have s3:=Sep.fnew (l:=HL N a x2 l) s4 #[.int .u64 0, .int .u64 0, .int .u64 0] 272
 have lt0:=(Sep.fget (l:=HL N a x2 l) s4 0 rfl).lt
 have lt1:=(Sep.fget (l:=HL N a x2 l) s4 1 rfl).lt
 obtain ⟨W4',hW4⟩:∃W',W4.alloc (.cells #[.int .u64 0, .int .u64 0, .int .u64 0] 272)=W':=⟨_,rfl⟩
 obtain ⟨Q3,hQ3⟩:∃Q',W4.heap.size=Q':=⟨_,rfl⟩
 rw[hW4,hQ3] at s3
 have neQ30:Q≠Q3:=by omega
 have neQ31:Q2≠Q3:=by omega
 obtain ⟨b0,b1,b2,f0,f1,f2⟩:=(s3.fget 0 rfl).row3
 obtain ⟨d0,d1,d2,z0,z1,z2⟩:=(s3.fget 2 rfl).row3
 have S5:=hide ((s3.frow 2 rfl (.int .u64 (pg:Nat)) (.int .u64 (m:Nat)) (.int .u64 (r:Nat))).frow 0 rfl (.int .u64 (pg:Nat)) (.int .u64 (m:Nat)) (.int .u64 (r:Nat)))
 clear s4 s3 C2
 go_wp2_with fail
 exact bodyPost_ret (ret_row rfl rfl rfl (S5.out.fget 0 rfl)) rfl ⟨rfl,S5.out.unfr⟩
set_option maxRecDepth 100000 in
theorem find_3 {p:Int} {n pg m r g1 m1 r1 g2 m2 r2:Nat} {fb:Bool} (c1:Does N a w 231 #[pt a.hb, .int .i64 p, .int .u64 (n:Nat)] (.tuple #[rowV g1 m1 r1, .bool false]) x x1) (c2:Does N a w 232 #[pt a.hb, .int .u64 (n:Nat)] (.tuple #[rowV g2 m2 r2, .bool false]) x1 x2)
 (c3:Does N a w 233 #[pt a.hb, .int .u64 (n:Nat)] (.int .i64 0) x2 x3) (c4:Does N a w 232 #[pt a.hb, .int .u64 (n:Nat)] (.tuple #[rowV pg m r, .bool fb]) x3 x'):
 Does N a w 180 #[pt a.hb, .int .i64 p, .int .u64 (n:Nat)] (.tuple #[rowV pg m r, .int .i64 0]) x x':=by
 intro W l hs
 have S0:Sep N w _ (HL N a x (l++_)):=hs.fr.fnew #[.int .u64 0, .int .u64 0, .int .u64 0] 272
 obtain ⟨W1,hW1⟩:∃W1,W.alloc (.cells #[.int .u64 0, .int .u64 0, .int .u64 0] 272)=W1:=⟨_,rfl⟩
 obtain ⟨Q,hQ⟩:∃Q,W.heap.size=Q:=⟨_,rfl⟩
 rw[hW1,hQ] at S0
 have CT:=hide (c1 _ _ S0)
 unfold pt rowV at CT
 unfold pt
 clear S0 hs c1
 go_enter Tryz.func180,Tryz.ntmps180
 go_wp2_with fail
 refine CT.out.mono ?_
 rintro e' W2 ⟨rfl,s2⟩
 have s3:=Sep.fnew (l:=HL N a x1 l) s2 #[.int .u64 0, .int .u64 0, .int .u64 0] 272
 have lt0:=(Sep.fget (l:=HL N a x1 l) s2 0 rfl).lt
 obtain ⟨W2',hW2⟩:∃W',W2.alloc (.cells #[.int .u64 0, .int .u64 0, .int .u64 0] 272)=W':=⟨_,rfl⟩
 obtain ⟨Q2,hQ2⟩:∃Q',W2.heap.size=Q':=⟨_,rfl⟩
 rw[hW2,hQ2] at s3
 have neQ20:Q≠Q2:=by omega
 obtain ⟨d0,d1,d2,z0,z1,z2⟩:=(s3.fget 1 rfl).row3
 have S4:=s3.frow 1 rfl (.int .u64 (g1:Nat)) (.int .u64 (m1:Nat)) (.int .u64 (r1:Nat))
 have C2:=hide (c2 _ _ S4)
 unfold pt rowV at C2
 clear s2 s3 CT c2 S4
 go_wp2_with fail
 refine C2.out.mono ?_
 rintro e' W4 ⟨rfl,s4⟩
 have s3:=Sep.fnew (l:=HL N a x2 l) s4 #[.int .u64 0, .int .u64 0, .int .u64 0] 272
 have lt0:=(Sep.fget (l:=HL N a x2 l) s4 0 rfl).lt
 have lt1:=(Sep.fget (l:=HL N a x2 l) s4 1 rfl).lt
 obtain ⟨W4',hW4⟩:∃W',W4.alloc (.cells #[.int .u64 0, .int .u64 0, .int .u64 0] 272)=W':=⟨_,rfl⟩
 obtain ⟨Q3,hQ3⟩:∃Q',W4.heap.size=Q':=⟨_,rfl⟩
 rw[hW4,hQ3] at s3
 have neQ30:Q≠Q3:=by omega
 have neQ31:Q2≠Q3:=by omega
 obtain ⟨d0,d1,d2,z0,z1,z2⟩:=(s3.fget 2 rfl).row3
 have S5:=s3.frow 2 rfl (.int .u64 (g2:Nat)) (.int .u64 (m2:Nat)) (.int .u64 (r2:Nat))
 have C3:=hide (c3 _ _ S5)
 unfold pt at C3
 clear s4 s3 C2 c3 S5
 go_wp2_with fail
 refine C3.out.mono ?_
 rintro e' W5 ⟨rfl,s5⟩
 have C4:=hide (c4 _ _ s5)
 unfold pt rowV at C4
 clear c4 C3 s5
 go_wp2_with fail
 refine C4.out.mono ?_
 rintro e' W6 ⟨rfl,s6⟩
 have s3:=Sep.fnew (l:=HL N a x' l) s6 #[.int .u64 0, .int .u64 0, .int .u64 0] 272
 have lt0:=(Sep.fget (l:=HL N a x' l) s6 0 rfl).lt
 have lt1:=(Sep.fget (l:=HL N a x' l) s6 1 rfl).lt
 have lt2:=(Sep.fget (l:=HL N a x' l) s6 2 rfl).lt
 obtain ⟨W6',hW6⟩:∃W',W6.alloc (.cells #[.int .u64 0, .int .u64 0, .int .u64 0] 272)=W':=⟨_,rfl⟩
 obtain ⟨Q4,hQ4⟩:∃Q',W6.heap.size=Q':=⟨_,rfl⟩
 rw[hW6,hQ4] at s3
 have neQ40:Q≠Q4:=by omega
 have neQ41:Q2≠Q4:=by omega
 have neQ42:Q3≠Q4:=by omega
 obtain ⟨b0,b1,b2,f0,f1,f2⟩:=(s3.fget 0 rfl).row3
 obtain ⟨d0,d1,d2,z0,z1,z2⟩:=(s3.fget 3 rfl).row3
 have S5:=hide ((s3.frow 3 rfl (.int .u64 (pg:Nat)) (.int .u64 (m:Nat)) (.int .u64 (r:Nat))).frow 0 rfl (.int .u64 (pg:Nat)) (.int .u64 (m:Nat)) (.int .u64 (r:Nat)))
 clear s6 s3 C4
 go_wp2_with fail
 exact bodyPost_ret (ret_row rfl rfl rfl (S5.out.fget 0 rfl)) rfl ⟨rfl,S5.out.unfr⟩
set_option maxRecDepth 100000 in
theorem grow_ok {n c pg:Nat} (h1:1≤n) (h2:n≤134217728) (hc:c=(n+511)/512) (hp:pg+c * 512≤34359738368)
 (cR:Does N a w 280 #[pt a.m, .int .u64 (x.bh:Nat), .int .u64 ((c * 512:Nat):Int)] (.tuple #[.int .u64 (pg:Nat), .int .i64 0]) x (X 0))
 (cG:Does N a w 281 #[pt a.tb, .int .u64 ((pg/512:Nat):Int), .int .u64 (c:Nat)] (.int .i64 0) (X 0) (X 1))
 (cA:∀i,i<c→Does N a w 282 #[pt a.ab, .int .u64 ((pg/512+ i:Nat):Int)] (.int .i64 0) (X (i+1)) (X (i+2))) (hX:∀i,(X i).bh=x.bh∧(X i).gr=g) (hgl:g≤34359738368):
 Does N a w 233 #[pt a.hb, .int .u64 (n:Nat)] (.int .i64 0) x {X (c+1) with bh:=pg+c * 512,gr:=g+c * 512}:=by
 intro W l hs
 have CR:=hide (cR _ _ (hs.read (drew_below W)))
 have C0:∀W',Sep N w W' (HL N a (X 0) l)→W'.cell? ⟨a.hb,0,none⟩=some (pt a.m)∧W'.cell? ⟨a.hb,69,none⟩=some (.int .u64 (x.bh:Nat)):=fun W' s=>⟨(Sep.hb s).c0,by rw[←(hX 0).1];exact (Sep.hb s).c5⟩
 have CC:=hide C0
 have a0:=(Sep.hb (hs.read (drew_below W))).c0
 have a5:=(Sep.hb (hs.read (drew_below W))).c5
 have e1:IntKind.u64.wrap ((n:Int)+512)=n+512:=by rw[IntKind.wrap_u64];omega
 have e2:IntKind.u64.wrap ((n:Int)+512 - 1)=n+511:=by rw[IntKind.wrap_u64];omega
 have e3:((n:Int)+511)/512=(c:Nat):=by omega
 have e4:IntKind.u64.wrap ((c:Int) * 512)=((c * 512:Nat):Int):=by rw[IntKind.wrap_u64];omega
 obtain ⟨hb,hhb⟩:∃hb,a.hb=hb:=⟨_,rfl⟩
 obtain ⟨bh,hbh⟩:∃bh,x.bh=bh:=⟨_,rfl⟩
 obtain ⟨P,hP⟩:∃P:Int,((c * 512:Nat):Int)=P:=⟨_,rfl⟩
 rw[hhb] at CC a0 a5
 rw[hbh] at CC a5
 rw[hbh,hP] at CR
 rw[hP] at e4
 unfold pt at CC a0 CR ⊢
 rw[hhb]
 clear cR C0 hs
 go_enter Tryz.func233,Tryz.ntmps233
 go_wp2_with fail
 simp only[e3]
 clear e1 e2 e3 hc h2
 go_wp2_with fail
 go_region_held3 (fun w':World=>w'.cell? ⟨hb,0,none⟩=some (.pointer (some ⟨a.m,0,none⟩))∧w'.cell? ⟨hb,69,none⟩=some (.int .u64 (bh:Nat))) (first|(go_keep;done)) (first
  |(go_at_call 280;refine CR.out.mono ?_;rintro e' W2 ⟨rfl,s2⟩;obtain ⟨i0,i5⟩:=CC.out W2 s2;have S2:=hide s2;clear s2 CR CC a0 a5))
 obtain ⟨F,hF⟩:∃F:Int,((pg/512:Nat):Int)=F:=⟨_,rfl⟩
 have e5:(pg:Int)/512=F:=by omega
 have a1:=(Sep.hb S2.out).c1
 have CG:=hide (cG _ _ S2.out)
 rw[hF] at CG
 rw[hhb] at a1
 unfold pt at a1 CG
 have w7:IntKind.u64.wrap ((pg:Int)+P)=((pg+c * 512:Nat):Int):=by rw[IntKind.wrap_u64];omega
 have w8:IntKind.u64.wrap ((g:Int)+P)=((g+c * 512:Nat):Int):=by rw[IntKind.wrap_u64];omega
 clear i0 i5 cG hbh S2
 go_wp2_with fail
 refine CG.out.mono ?_
 rintro e' W3 ⟨rfl,s3⟩
 have S3:=hide s3
 clear s3 CG a1
 go_wp2_with fail
 go_loopw [43] (fun iv wr=>∃i:Nat,iv= .int .u64 (i:Int)∧i≤c∧Hid (Sep N w wr (HL N a (X (i+1)) l))) (fun iv _=>c -(intOf iv).toNat)
 case atStart=>exact ⟨0,rfl,Nat.zero_le _,S3⟩
 case round=>
  clear S3
  obtain ⟨i,rfl,hi,HS⟩:=hrel
  by_cases hlt:i<c
  ·have a2:=(Sep.hb HS.out).c2
   have CA:=hide (cA i hlt _ _ HS.out)
   have w6:IntKind.u64.wrap (F+(i:Int))=((pg/512+ i:Nat):Int):=by rw[IntKind.wrap_u64];omega
   have d1:decide (i<c)=true:=decide_eq_true hlt
   have i2:(0:Int)≤(i:Int):=by omega
   have i3:(i:Int)<34359738368:=by omega
   rw[hhb] at a2
   unfold pt at a2 CA
   obtain ⟨J,hJ⟩:∃J:Int,((pg/512+ i:Nat):Int)=J:=⟨_,rfl⟩
   rw[hJ] at CA w6
   clear HS cA w7 w8 hJ hF e5
   go_wp2_with fail
   refine CA.out.mono ?_
   rintro e' W4 ⟨rfl,s4⟩
   have S4:=hide s4
   clear s4 CA a2
   go_wp2_with fail
   go_roundw
   case rel=>exact ⟨i+1,by go_num,by omega,S4⟩
   case measure=>simp[intOf];omega
  ·obtain rfl:i=c:=by omega
   have a6:=(Sep.hb HS.out).c6
   have a5:=(Sep.hb HS.out).c5
   have z5:=(Sep.hb HS.out).fz 69
   have z6:=(Sep.hb HS.out).fz 70
   rw[(hX _).2] at a6
   have FIN:=hide ((HS.out.set_bh (pg+ i * 512)).set_gr (g+ i * 512))
   have d1:decide (i<i)=false:=decide_eq_false hlt
   rw[hhb] at a5 a6 z5 z6 FIN
   obtain ⟨Z7,hZ7⟩:∃Z7:Int,((pg+ i * 512:Nat):Int)=Z7:=⟨_,rfl⟩
   obtain ⟨Z8,hZ8⟩:∃Z8:Int,((g+ i * 512:Nat):Int)=Z8:=⟨_,rfl⟩
   rw[hZ7,hZ8] at FIN
   rw[hZ7] at w7
   rw[hZ8] at w8
   clear HS hX cA hF e5 hZ7 hZ8
   go_wp2_with fail
   go_ret
   exact ⟨rfl,FIN.out⟩
end
end Go.Proofs.YtdgdhnnakcncoaaGreatDoor
namespace Go.Proofs.YtdgdhnnakcncoaaGreatDoor
set_option maxHeartbeats 1600000
open Go.ChangeShapes Go.WideShapes Go.ChangeAt Go.RowKit Go.Proofs.Bt Go.Shelf Go.Proofs.Rx Go.Maps Go.Proofs.Pk
set_option linter.unusedVariables false
set_option linter.unusedSimpArgs false
theorem get1_idle (q q1 q2 q3:Nat) (w:World) (c:w.cell? ⟨q,0,none⟩=some (.int .i64 0)):
 CallsD Tryz.prog 181 #[.pointer (some ⟨q,0,none⟩), .pointer (some ⟨q1,0,none⟩), .pointer (some ⟨q2,0,none⟩), .pointer (some ⟨q3,0,none⟩)] .returning w fun e u' w'=>e= .returned (.tuple #[])∧u'= .returning∧w'=w:=by
 refine callsD_of_wpS Tryz.func181 rfl fun c₀ cs hu=> ?_
 refine wpS_of_wp ?_
 simp[Tryz.ntmps181,Array.replicate]
 go_wp2_with fail
 cases c₀
 simp_all [bodyPostS,results,Tryz.results181]
section
variable {N:Nat} {a:HA} {x x1 x2:HS} {w W:World} {l:List (Thing N)}
set_option maxRecDepth 100000 in
theorem get_ok {p:Int} {n pg m r:Nat} (cF:Does N a w 180 #[pt a.hb, .int .i64 p, .int .u64 (n:Nat)] (.tuple #[rowV pg m r, .int .i64 0]) x x1)
 (cC:Does N a w 183 #[pt a.m, .int .u64 (pg:Nat), .int .u64 (m:Nat)] (.int .i64 0) x1 x2):
 Does N a w 121 #[pt a.hb, .int .i64 p, .int .u64 (n:Nat)] (.tuple #[.int .u64 (pg:Nat), .int .i64 0]) x x2:=by
 intro W l hs
 obtain ⟨A0,hA0⟩:∃A0,W.heap.size=A0:=⟨_,rfl⟩
 have S0:Sep N w _ (HL N a x (l++_)):=((hs.fr.fnew #[pt a.hb] 35).fnew #[.int .u64 0] 39).fnew #[.int .i64 0] 45
 obtain ⟨W1,hW1⟩:∃W1,((W.alloc (.cells #[pt a.hb] 35)).alloc (.cells #[.int .u64 0] 39)).alloc (.cells #[.int .i64 0] 45)=W1:=⟨_,rfl⟩
 have y1:(W.alloc (.cells #[pt a.hb] 35)).heap.size=A0+1:=by rw[World.size_alloc,hA0]
 have y2:((W.alloc (.cells #[pt a.hb] 35)).alloc (.cells #[.int .u64 0] 39)).heap.size=A0+1+1:=by rw[World.size_alloc,y1]
 rw[hW1,y1,y2,hA0] at S0
 obtain ⟨hb,hhb⟩:∃hb,a.hb=hb:=⟨_,rfl⟩
 have hl:a.hb<A0:=by rw[←hA0];exact (Sep.hb hs).lt
 have nb1:a.hb≠A0+1:=by omega
 have nb2:a.hb≠A0+1+1:=by omega
 have CF:=hide (cF _ _ S0)
 have k0:W1.cell? ⟨A0,0,none⟩=some (pt a.hb):=(Sep.fget (l:=HL N a x l) S0 0 rfl).cell 0 _ rfl
 unfold pt rowV at CF
 unfold pt at hW1 k0 ⊢
 rw[hhb] at CF hW1 k0 hl nb1 nb2 ⊢
 have sz:=hide (And.intro hA0 (And.intro y1 y2))
 clear S0 hs cF y1 y2
 go_enter_defers Tryz.func121,Tryz.ntmps121
 go_wp2_with fail
 refine CF.out.mono ?_
 rintro e' W2 ⟨rfl,s2⟩
 have s3:=Sep.fnew (l:=HL N a x1 l) s2 #[.int .u64 0, .int .u64 0, .int .u64 0] 272
 have lt2:=(Sep.fget (l:=HL N a x1 l) s2 2 rfl).lt
 obtain ⟨W2',hW2⟩:∃W',W2.alloc (.cells #[.int .u64 0, .int .u64 0, .int .u64 0] 272)=W':=⟨_,rfl⟩
 obtain ⟨Q,hQ⟩:∃Q',W2.heap.size=Q':=⟨_,rfl⟩
 rw[hW2,hQ] at s3
 have n0:A0≠Q:=by omega
 have n1:A0+1≠Q:=by omega
 have n2:A0+1+1≠Q:=by omega
 obtain ⟨d0,d1,d2,z0,z1,z2⟩:=(s3.fget 3 rfl).row3
 have b2:W2'.cell? ⟨A0+1+1,0,none⟩=some (.int .i64 0):=(s3.fget 2 rfl).cell 0 _ rfl
 have f2:=(s3.fget 2 rfl).fz 0
 have b0:W2'.cell? ⟨A0,0,none⟩=some (.pointer (some ⟨hb,0,none⟩)):=(s3.fget 0 rfl).cell 0 _ rfl
 have S4:=(s3.frow 3 rfl (.int .u64 (pg:Nat)) (.int .u64 (m:Nat)) (.int .u64 (r:Nat))).fset 2 rfl 0 (.int .i64 0)
 obtain ⟨W4,hW4⟩:∃W4,(((W2'.setCell ⟨Q,0,none⟩ (.int .u64 (pg:Nat))).setCell ⟨Q,1,none⟩ (.int .u64 (m:Nat))).setCell ⟨Q,2,none⟩ (.int .u64 (r:Nat))).setCell ⟨A0+1+1,0,none⟩ (.int .i64 0)=W4:=⟨_,rfl⟩
 rw[hW4] at S4
 have s4:=S4.read (drew_below W4)
 have c4:W4.cell? ⟨A0+1+1,0,none⟩=some (.int .i64 0):=(S4.fget 2 rfl).cell 0 _ rfl
 have q0:W4.drew.cell? ⟨Q,0,none⟩=some (.int .u64 (pg:Nat)):=(s4.fget 3 rfl).cell 0 _ rfl
 have q1:W4.drew.cell? ⟨Q,1,none⟩=some (.int .u64 (m:Nat)):=(s4.fget 3 rfl).cell 1 _ rfl
 have q2:W4.drew.cell? ⟨A0,0,none⟩=some (.pointer (some ⟨hb,0,none⟩)):=(s4.fget 0 rfl).cell 0 _ rfl
 have q3:W4.drew.cell? ⟨hb,0,none⟩=some (.pointer (some ⟨a.m,0,none⟩)):=by rw[←hhb];exact (Sep.hb (l:=l++_) s4).c0
 have CC:=hide (cC _ _ s4)
 have hh:=hide hhb
 unfold pt at CC
 have mf:∀(fn:Fn) (first cap:Array Value) (w:World),(Instr.makeFunc fn first cap).run Tryz.prog w= .ok (.func fn first cap) w:=fun _ _ _ _=>rfl
 clear s2 s3 CF k0 S4 s4 cC
 go_wp2_with fail
 go_region_held3 (fun w':World=>w'.cell? ⟨Q,0,none⟩=some (.int .u64 (pg:Nat))∧w'.cell? ⟨Q,1,none⟩=some (.int .u64 (m:Nat))∧w'.cell? ⟨A0,0,none⟩=some (.pointer (some ⟨hb,0,none⟩))∧w'.cell? ⟨hb,0,none⟩=some (.pointer (some ⟨a.m,0,none⟩))) (first|(go_keep;done)|(refine ⟨?_,?_,?_,?_⟩<;>first|assumption|(rw[World.cell?_setCell_other _ _ _ _ (by intro z;have:=congrArg Addr.block z;dsimp only at this;omega)];assumption)|(rw[World.cell?_setCell_other _ _ _ _ (by intro z;have:=congrArg Addr.block z;dsimp only at this;omega),World.cell?_setCell_other _ _ _ _ (by intro z;have:=congrArg Addr.block z;dsimp only at this;omega)];assumption))) (first
  |(
   go_at_call 183;refine CC.out.mono ?_;rintro e' W5 ⟨rfl,s5⟩
   have j0:W5.cell? ⟨Q,0,none⟩=some (.int .u64 (pg:Nat)):=(Sep.fget (l:=HL N a x2 l) s5 3 rfl).cell 0 _ rfl
   have j1:W5.cell? ⟨Q,1,none⟩=some (.int .u64 (m:Nat)):=(Sep.fget (l:=HL N a x2 l) s5 3 rfl).cell 1 _ rfl
   have j2:W5.cell? ⟨A0,0,none⟩=some (.pointer (some ⟨hb,0,none⟩)):=(Sep.fget (l:=HL N a x2 l) s5 0 rfl).cell 0 _ rfl
   have j3:W5.cell? ⟨hb,0,none⟩=some (.pointer (some ⟨a.m,0,none⟩)):=by rw[←hh.out];exact (Sep.hb (l:=l++_) s5).c0
   have j4:W5.cell? ⟨A0+1,0,none⟩=some (.int .u64 0):=(Sep.fget (l:=HL N a x2 l) s5 1 rfl).cell 0 _ rfl
   have j5:W5.cell? ⟨A0+1+1,0,none⟩=some (.int .i64 0):=(Sep.fget (l:=HL N a x2 l) s5 2 rfl).cell 0 _ rfl
   have z4:=(Sep.fget (l:=HL N a x2 l) s5 1 rfl).fz 0
   have z5:=(Sep.fget (l:=HL N a x2 l) s5 2 rfl).fz 0
   have S6:=hide ((show Sep N w W5 (HL N a x2 l++ [tFr N _]) from s5).fset 1 rfl 0 (.int .u64 (pg:Nat))|>.fset 2 rfl 0 (.int .i64 0))
   clear s5 CC q0 q1 q2 q3))
 have k1:((W5.setCell ⟨A0+1,0,none⟩ (.int .u64 (pg:Nat))).setCell ⟨A0+1+1,0,none⟩ (.int .i64 0)).cell? ⟨A0+1,0,none⟩=some (.int .u64 (pg:Nat)):=(S6.out.fget 1 rfl).cell 0 _ rfl
 have k2:((W5.setCell ⟨A0+1,0,none⟩ (.int .u64 (pg:Nat))).setCell ⟨A0+1+1,0,none⟩ (.int .i64 0)).cell? ⟨A0+1+1,0,none⟩=some (.int .i64 0):=(S6.out.fget 2 rfl).cell 0 _ rfl
 clear j0 j1 j2 j3 j4 j5 z4 z5
 go_wp2_with fail
 refine leaves_cons (f:=181) (args:=#[.pointer (some ⟨A0+1+1,0,none⟩), .pointer (some ⟨A0+1,0,none⟩), .pointer (some ⟨A0,0,none⟩), .pointer (some ⟨Q,0,none⟩)]) (by simp) (by simp[go_sem]) ?_
 refine (get1_idle _ _ _ _ _ k2).mono ?_
 rintro e u' w'' ⟨rfl,rfl,rfl⟩
 simp[Leaves,settle,results,Tryz.results121,go_sem,k1,k2]
 exact S6.out.unfr
end
end Go.Proofs.YtdgdhnnakcncoaaGreatDoor
namespace Go.Proofs.YtdgdhnnakcncoaaGreatDoor
set_option maxHeartbeats 1600000
open Go.ChangeShapes Go.WideShapes Go.ChangeAt Go.RowKit Go.Proofs.Bt Go.Shelf Go.Proofs.Rx Go.Maps Go.Proofs.Pk
set_option linter.unusedVariables false
set_option linter.unusedSimpArgs false
section
variable {N:Nat} {a:HA} {x x1 x2:HS} {w W:World} {l:List (Thing N)}
def putQ (Q:Int→Option Nat) (id:Int) (sb:Nat):Int→Option Nat:=fun q=>if q=id then some sb else Q q
def putM (M:SpM) (id:Int) (sb:Nat) (g:Sg):SpM:=fun q=>if q=id then some (sb,g) else M q
theorem sp_put {sb:Nat} {g:Sg} {id:Int} (h:Sep N w W (HL N a x l++ [tBk N sb 144 (sgV g)])) (hn:x.n<1000000) (hid:okI id) (hM:x.M id=none):
 ∃W',(Instr.mapUpdate 118 (.map (some a.mp)) (.int .i64 id) (pt sb)).run Tryz.prog W= .ok () W'∧Sep N w W' (HL N a {x with Q:=putQ x.Q id sb,M:=putM x.M id sb g,n:=x.n+1} l):=by
 obtain ⟨F,p⟩:=h.have 1 (by rw[List.length_append,HL.len];simp)
 obtain ⟨⟨m,-⟩,-⟩:(tSp N a.mp x.n x.Q x.M).P W F:=p
 obtain ⟨W',run,m',gr⟩:=m.put hn hid sb
 have k:Kept (fun z=>z=a.mp) W W':=Kept.of_grown gr (fun k e=>by cases e;rfl)
 refine ⟨W',run,h.merge 1 (by rw[HL.len];omega) (tSp N a.mp (x.n+1) (putQ x.Q id sb) (putM x.M id sb g)) fun F G p q d=> ?_⟩
 obtain ⟨⟨p1,p2,p3,p4⟩,p5⟩:(tSp N a.mp x.n x.Q x.M).P W F:=p
 obtain ⟨q1,q2,q3⟩:(tBk N sb 144 (sgV g)).P W G:=q
 have ne:∀z,F z→z≠sb:=fun z hz e=>d z hz (by rw[e];exact (q3 sb).2 rfl)
 have mpF:F a.mp:=(p5 _).2 (.inl rfl)
 have old:∀i b g',x.M i=some (b,g')→F b:=fun i b g' e=>(p5 b).2 (.inr ⟨i,g',e⟩)
 have cs:∀i b g',putM x.M id sb g i=some (b,g')→(i=id∧b=sb∧g'=g)∨(i≠id∧x.M i=some (b,g')):=fun i b g' e=>by
  unfold putM at e
  by_cases c:i=id
  ·rw[if_pos c] at e;cases e;exact .inl ⟨c,rfl,rfl⟩
  ·rw[if_neg c] at e;exact .inr ⟨c,e⟩
 refine ⟨fun z=>F z∨G z,⟨⟨?_,p2,fun i b g' e=> ?_,fun i j b g1 g2 e1 e2=> ?_⟩,fun z=>⟨fun hz=> ?_,fun hz=> ?_⟩⟩,k.mono (fun z hz=>by rw[hz];exact .inl mpF),fun z hz=> .inl hz⟩
 ·exact m'
 ·rcases cs i b g' e with ⟨-,rfl,rfl⟩|⟨-,c⟩
  ·exact ⟨q1.kept k (fun z=>ne a.mp mpF z.symm),q2,fun z=>ne a.mp mpF z.symm⟩
  ·exact ⟨(p3 i b g' c).1.kept k (p3 i b g' c).2.2,(p3 i b g' c).2⟩
 ·rcases cs i b g1 e1 with ⟨c,c2,_⟩|⟨c,c2⟩<;>rcases cs j b g2 e2 with ⟨d,d2,_⟩|⟨d,d2⟩
  ·rw[c,d]
  ·exact absurd c2 (ne b (old j b g2 d2))
  ·exact absurd d2 (ne b (old i b g1 c2))
  ·exact p4 i j b g1 g2 c2 d2
 ·rcases hz with hz|hz
  ·rcases (p5 z).1 hz with rfl|⟨i,g',e⟩
   ·exact .inl rfl
   ·refine .inr ⟨i,g',?_⟩
    unfold putM
    rw[if_neg (fun c=>by rw[c,hM] at e;cases e)];exact e
  ·rw[(q3 z).1 hz];exact .inr ⟨id,g,by unfold putM;rw[if_pos rfl]⟩
 ·rcases hz with rfl|⟨i,g',e⟩
  ·exact .inl mpF
  ·rcases cs i z g' e with ⟨-,rfl,rfl⟩|⟨-,c⟩
   ·exact .inr ((q3 _).2 rfl)
   ·exact .inl (old i z g' c)
def Alc (N:Nat) (a:HA) (w:World) (f:FuncId) (args:Array Value) (v:Value) (x:HS) (x':Nat→HS):Prop:=
 ∀W l,Sep N w W (HL N a x l)→Calls Tryz.prog f args W fun e W'=>e= .returned v∧∃sb,Sep N w W' (HL N a (x' sb) l)
def CutV (q1 q2 q3:Nat):Value:= .func (.func 68) #[] #[.pointer (some ⟨q1,0,none⟩), .pointer (some ⟨q2,0,none⟩), .pointer (some ⟨q3,0,none⟩)]
set_option maxRecDepth 100000 in
theorem newSpan_ok {p:Int} {n pg q1 q2 q3:Nat} {id:Int} {g:Sg} {V':Nat→Int} (hs:Sep N w W (HL N a x l))
 (c0:∀W',Sep N w W' (HL N a x l)→Calls Tryz.prog 68 #[.int .u64 0, .pointer (some ⟨q1,0,none⟩), .pointer (some ⟨q2,0,none⟩), .pointer (some ⟨q3,0,none⟩)] W' fun e W''=>(∃v0,e= .returned (.tuple #[v0, .int .i64 0]))∧Below W'.heap.size W' W'')
 (cg:Does N a w 121 #[pt a.hb, .int .i64 p, .int .u64 (n:Nat)] (.tuple #[.int .u64 (pg:Nat), .int .i64 0]) x x1)
 (c1:∀W',Sep N w W' (HL N a x1 l)→Calls Tryz.prog 68 #[.int .u64 (pg:Nat), .pointer (some ⟨q1,0,none⟩), .pointer (some ⟨q2,0,none⟩), .pointer (some ⟨q3,0,none⟩)] W' fun e W''=>∃sb,e= .returned (.tuple #[pt sb, .int .i64 0])∧W'.heap.size≤sb∧Bk W'' sb 144 (sgV g)∧Below W'.heap.size W' W'')
 (ct:Does N a w 122 #[pt a.fb] (.int .i64 id) x1 x2) (hM:x2.M id=none) (hn:x2.n<1000000) (hid:okI id) (hhe:x2.he+n<18446744073709551616)
 (cs:∀Q M k he,Does N a w 87 #[pt a.ab, .int .u64 (pg:Nat), .int .u64 (n:Nat), .int .i64 id] (.int .i64 0) {x2 with Q:=Q,M:=M,n:=k,he:=he} {x2 with Q:=Q,M:=M,n:=k,he:=he,V:=V'}):
 Calls Tryz.prog 67 #[pt a.hb, .int .i64 p, .int .u64 (n:Nat),CutV q1 q2 q3] W fun e W'=>e= .returned (.tuple #[.int .i64 id, .int .i64 0])∧∃sb,Sep N w W' (HL N a {x2 with Q:=putQ x2.Q id sb,M:=putM x2.M id sb g,n:=x2.n+1,he:=x2.he+n,V:=V'} l):=by
 have OP:=hide (open_any hs)
 have C0:=hide (c0 W hs)
 have SS:=hide hs
 obtain ⟨hb,hhb⟩:∃hb,a.hb=hb:=⟨_,rfl⟩
 have hh:=hide hhb
 unfold pt at OP ⊢
 unfold CutV
 rw[hhb] at OP ⊢
 clear hs c0 hhb
 go_enter Tryz.func67,Tryz.ntmps67
 go_wp2_with fail
 refine OP.out.mono ?_
 rintro e W1 ⟨rfl,hw⟩
 rw[hw]
 clear hw W1 OP
 go_wp2_with fail
 refine C0.out.mono ?_
 rintro e W1 ⟨⟨v0,rfl⟩,b1⟩
 have CG:=hide (cg _ _ (SS.out.read b1))
 unfold pt at CG
 rw[hh.out] at CG
 clear b1 C0 SS cg
 go_wp2_with fail
 refine CG.out.mono ?_
 rintro e W2 ⟨rfl,s2⟩
 have C1:=hide (c1 W2 s2)
 have S2:=hide s2
 clear s2 CG c1
 go_wp2_with fail
 refine C1.out.mono ?_
 rintro e W3 ⟨sb,rfl,hsb,bk,b3⟩
 have s3:=S2.out.more b3 (tBk N sb 144 (sgV g)) (F':=fun z=>z=sb) ⟨bk,Nat.le_trans S2.out.nw hsb,fun z=>Iff.rfl⟩ (fun z hz=>by rw[hz];exact hsb)
 have k3:=(Sep.hb (l:=l++_) s3).c3
 have CT:=hide (ct _ (l++_) s3)
 unfold pt at k3 CT ⊢
 rw[hh.out] at k3
 clear s3 bk b3 S2 C1 ct
 go_wp2_with fail
 refine CT.out.mono ?_
 rintro e W4 ⟨rfl,s4⟩
 have k4:=(Sep.hb (l:=l++_) s4).c4
 obtain ⟨W5,run,s5⟩:=sp_put (l:=l) s4 hn hid hM
 have k7:=(Sep.hb s5).c7
 have z7:=(Sep.hb s5).fz 71
 have s6:=s5.set_he (x2.he+n)
 have k2:=(Sep.hb s6).c2
 have CS:=hide (cs _ _ _ _ _ _ s6)
 obtain ⟨A,hA⟩:∃A:Int,((x2.he+n:Nat):Int)=A:=⟨_,rfl⟩
 have w7:IntKind.u64.wrap ((x2.he:Int)+(n:Int))=A:=by rw[IntKind.wrap_u64,←hA];omega
 rw[hA] at k2 CS
 unfold pt at run k2 CS
 rw[hh.out] at k4 k7 z7 k2 CS
 clear s4 s5 s6 CT k3 hsb cs hhe hA hM hn hid
 go_wp2_with fail
 refine CS.out.mono ?_
 rintro e W7 ⟨rfl,s7⟩
 have S7:=hide s7
 clear s7 CS k2 k7 z7 run k4
 go_wp2_with fail
 refine bodyPost_ret (results_tmp2 Tryz.results67 _ _ _) rfl ?_
 exact ⟨rfl,sb,S7.out⟩
end
end Go.Proofs.YtdgdhnnakcncoaaGreatDoor
