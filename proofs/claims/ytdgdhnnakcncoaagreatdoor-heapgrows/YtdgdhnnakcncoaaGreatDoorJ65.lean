/- Of the proof of HeapGrows: texts HHp, HHq, HHr, HHs, HHt, HHu, HIc. -/
import Derived.Test.YtdgdhnnakcncoaaGreatDoorJ64
import Derived.Test.YtdgdhnnakcncoaaGreatDoorJ27
import Derived.Test.YtdgdhnnakcncoaaGreatDoorJ63
import Derived.Test.YtdgdhnnakcncoaaGreatDoorJ37
namespace Go.Proofs.YtdgdhnnakcncoaaGreatDoor
set_option maxHeartbeats 1600000
open Go.ChangeShapes Go.WideShapes Go.ChangeAt Go.RowKit Go.Proofs.Bt Go.Shelf Go.Proofs.Rx Go.Maps Go.Proofs.Pk
set_option linter.unusedVariables false
set_option linter.unusedSimpArgs false
section
variable {N:Nat} {a:HA} {x:HS} {w W:World} {l:List (Thing N)}
def COk (c:CC):Prop:=∀k,k<64→(c k).1≤34359738368∧(c k).2.1<18446744073709551616∧(c k).2.2<18446744073709551616
theorem owner_used {q p:Nat} {f:Bool} (hq:q<34359738368) (hi:inU x.st q=true) (hf:fre x.st q=false) (hc:COk x.c)
 (hp:p<64∧f=true∧ownC (x.c p) q=true∧(∀k,k<p→ownC (x.c k) q=false)∨p=0∧f=false∧∀k,k<64→ownC (x.c k) q=false) {r1 r2:Int} (hr:(r1,r2)=if f=true then ((2:Int),(p:Int)) else (3,x.V q)):
 Does N a w 27 #[pt a.hb, .int .u64 (q:Nat)] (.tuple #[.int .i64 r1, .int .i64 r2]) x x:=by
 intro W l hs
 have OP:=hide (open_any hs)
 have c1:=(Sep.hb hs).c1
 have CT:=hide (does_tstate (q:=q) (by omega) W l hs)
 have CC:=hide (cacheOf_any (N:=N) (a:=a) (w:=w) (by omega) (fun k hk=>⟨(hc k hk).1,(hc k hk).2.1⟩) hp)
 have CA:=hide (does_at (N:=N) (a:=a) (w:=w) (x:=x) (b:=q * 8192) (by omega))
 rw[show q * 8192/8192=q by omega] at CA
 have w1:IntKind.u64.wrap ((q:Int) * 8192)=((q * 8192:Nat):Int):=by rw[IntKind.wrap_u64];omega
 rw[hi,hf] at CT
 obtain ⟨Q,hQ⟩:∃Q:Int,((q * 8192:Nat):Int)=Q:=⟨_,rfl⟩
 obtain ⟨v,hv⟩:∃v,x.V q=v:=⟨_,rfl⟩
 rw[hQ] at w1
 rw[hQ,hv] at CA
 rw[hv] at hr
 unfold pt at *
 clear hs hi hf hc hp hQ hv
 go_enter Tryz.func27,Tryz.ntmps27
 go_wp2_with fail
 refine OP.out.mono ?_
 rintro e W1 ⟨rfl,hw⟩
 rw[hw]
 clear hw W1 OP
 go_wp2_with fail
 refine CT.out.mono ?_
 rintro e W1 ⟨rfl,s1⟩
 have C2:=hide (CC.out W1 l s1)
 clear s1 CT CC c1
 go_wp2_with fail
 refine C2.out.mono ?_
 rintro e W2 ⟨rfl,s2⟩
 have k2:=(Sep.hb s2).c2
 have C3:=hide (CA.out W2 l s2)
 have S2:=hide s2
 unfold pt at k2
 clear s2 C2 CA
 cases f
 ·obtain ⟨rfl,rfl⟩:r1=3∧r2=v:=by simpa using hr
  clear hr
  go_wp2_with fail
  refine C3.out.mono ?_
  rintro e W3 ⟨rfl,s3⟩
  have S3:=hide s3
  clear s3 C3
  go_wp2_with fail
  refine bodyPost_ret (results_tmp2 Tryz.results27 _ _ _) rfl ?_
  exact ⟨rfl,S3.out⟩
 ·obtain ⟨rfl,rfl⟩:r1=2∧r2=(p:Int):=by simpa using hr
  clear hr C3
  go_wp2_with fail
  refine bodyPost_ret (results_tmp2 Tryz.results27 _ _ _) rfl ?_
  exact ⟨rfl,S2.out⟩
def relS (c:CC):Nat→Nat
 |0=>0
 |k+1=>relS c k+pc (tG (c k))
theorem pc64 {H:Nat} (h:H<18446744073709551616):pc H≤64:=by rw[pc_cnt 64 _ h];exact cnt_le _ _ _
theorem relS_le {c:CC} (hc:COk c):∀k,k≤64→relS c k≤64 * k
 |0,_=>Nat.le_refl _
 |k+1,h=>by
  have h1:=relS_le hc k (by omega)
  have h2:tG (c k)<18446744073709551616:=by unfold tG;split;omega;exact (hc k (by omega)).2.2
  have:=pc64 h2
  show relS c k+pc (tG (c k))≤_
  omega
set_option maxRecDepth 100000 in
theorem relIn_any (hc:COk x.c):Does N a w 77 #[pt a.hb] (.int .u64 (relS x.c 64:Nat)) x x:=by
 intro W l hs
 have ld:=cs_load hs
 obtain ⟨CS,hCS⟩:∃CS,(cvl a.cb).toArray=CS:=⟨_,rfl⟩
 have ix:∀k,k<64→CS[k]? =some (pt (a.cb k)):=fun k hk=>by rw[←hCS];exact cvl_at hk
 rw[hCS] at ld
 have IX:=hide ix
 have S:=hide hs
 have HC:=hide hc
 unfold pt
 clear hs hCS ix hc
 go_enter Tryz.func77,Tryz.ntmps77
 go_upto_region 2 with fail
 refine wp_region_lit ?_
 refine Go.Great.wpList_runTo rfl (some 9) rfl (.pointer (some ⟨a.hb,0,none⟩)) W rfl ?_
 refine Go.Great.wpList_runTo rfl (some 10) rfl (.pointer (some ⟨a.hb,0,none⟩)) W rfl ?_
 refine Go.Great.wpList_runTo rfl (some 11) rfl (.pointer (some ⟨a.hb,4,none⟩)) W (by simp[go_sem]) ?_
 refine Go.Great.wpList_runTo rfl (some 12) rfl (.agg CS) W (load_arr W a.hb _ _ ld _ (.tmp 11) rfl _ rfl) ?_
 go_wp2_with fail
 go_loopw [3,13] (fun sv iv wr=>∃k:Nat,iv= .int .i64 (k:Int)∧sv= .int .i64 ((relS x.c k:Nat):Int)∧k≤64∧Hid (Sep N w wr (HL N a x l))) (fun sv iv _=>64 -(intOf iv).toNat)
 case atStart=>exact ⟨0,rfl,rfl,Nat.zero_le _,S⟩
 case round=>
  clear S ld
  obtain ⟨k,rfl,rfl,hk,HS⟩:=hrel
  have le:=relS_le HC.out k hk
  obtain ⟨R,hR⟩:∃R,relS x.c k=R:=⟨_,rfl⟩
  rw[hR] at le ⊢
  by_cases hlt:k<64
  ·have d1:decide (k<64)=true:=decide_eq_true hlt
   have i1:(k:Int)<64:=by omega
   have i2:(0:Int)≤(k:Int):=by omega
   have ix:=fun w=>idx64 w CS k hlt _ (IX.out k hlt)
   have CT:=hide (does_ctell (a:=a) (w:=w) (N:=N) hlt (rfl:x.c k=((x.c k).1,(x.c k).2.1,(x.c k).2.2)) wr l HS.out)
   rw[tell_eq] at CT
   have gt:tG (x.c k)<18446744073709551616:=by unfold tG;split;omega;exact (HC.out k hlt).2.2
   have pg:=pc64 gt
   have hs1:relS x.c (k+1)=R+pc (tG (x.c k)):=by show relS x.c k+_=_;rw[hR]
   have HS1:=hide hs1
   obtain ⟨T,hT⟩:∃T,tB (x.c k)=T:=⟨_,rfl⟩
   obtain ⟨H,hH⟩:∃H,(x.c k).2.1=H:=⟨_,rfl⟩
   obtain ⟨G,hG⟩:∃G,tG (x.c k)=G:=⟨_,rfl⟩
   rw[hG] at gt pg HS1
   rw[hT,hH,hG] at CT
   have CO:=hide (fun w=>ones_any G gt w)
   unfold pt at ix CT
   clear hT hH hG hs1 hR
   go_wp2_with fail
   refine CT.out.mono ?_
   rintro e W1 ⟨rfl,s1⟩
   have S1:=hide s1
   clear s1 HS CT
   go_wp2_with fail
   refine (CO.out _).mono ?_
   rintro e W2 ⟨rfl,hw⟩
   rw[hw]
   clear hw W2 CO
   go_wp2_with fail
   go_roundw
   case rel=>exact ⟨k+1,by go_num,by rw[HS1.out];go_num,by omega,S1⟩
   case measure=>simp[intOf];omega
  ·obtain rfl:k=64:=by omega
   rw[←hR] at le ⊢
   have w9:IntKind.u64.wrap ((relS x.c 64:Nat):Int)=((relS x.c 64:Nat):Int):=by rw[IntKind.wrap_u64];omega
   clear hlt HC hR le
   go_wp2_with fail
   go_ret
   exact ⟨rfl,HS.out⟩
set_option maxRecDepth 100000 in
def goneV (x:HS):Nat:=rlT x.st+relS x.c 64
theorem told_any (hc:COk x.c) (hg:goneV x<18446744073709551616):Does N a w 25 #[pt a.hb] (.tuple #[.int .u64 (x.gr:Nat), .int .u64 (x.he:Nat), .int .u64 (goneV x:Nat)]) x x:=by
 intro W l hs
 have OP:=hide (open_any hs)
 have sd:=hs.read (drew_below W)
 have CR:=hide (does_treleased W.drew l sd)
 have CI:=hide (relIn_any (N:=N) (a:=a) (w:=w) hc)
 have CC:=hide (show ∀W',Sep N w W' (HL N a x l)→W'.cell? ⟨a.hb,1,none⟩=some (pt a.tb)∧W'.cell? ⟨a.hb,70,none⟩=some (.int .u64 (x.gr:Nat))∧W'.cell? ⟨a.hb,71,none⟩=some (.int .u64 (x.he:Nat)) from fun W' s=>⟨(Sep.hb s).c1,(Sep.hb s).c6,(Sep.hb s).c7⟩)
 obtain ⟨a1,a2,a3⟩:=CC.out W.drew sd
 have w1:IntKind.u64.wrap (((rlT x.st:Nat):Int)+((relS x.c 64:Nat):Int))=((goneV x:Nat):Int):=by rw[IntKind.wrap_u64];unfold goneV at *;omega
 obtain ⟨g1,hg1⟩:∃g1,rlT x.st=g1:=⟨_,rfl⟩
 obtain ⟨g2,hg2⟩:∃g2,relS x.c 64=g2:=⟨_,rfl⟩
 obtain ⟨g3,hg3⟩:∃g3,goneV x=g3:=⟨_,rfl⟩
 rw[hg1,hg2,hg3] at w1
 rw[hg1] at CR
 rw[hg2] at CI
 rw[hg3]
 unfold pt at *
 clear hs sd hc hg hg1 hg2 hg3
 go_enter Tryz.func25,Tryz.ntmps25
 go_wp2_with fail
 refine OP.out.mono ?_
 rintro e W1 ⟨rfl,hw⟩
 rw[hw]
 clear hw W1 OP
 go_wp2_with fail
 go_region_held3 (fun w':World=>w'.cell? ⟨a.hb,1,none⟩=some (.pointer (some ⟨a.tb,0,none⟩))∧w'.cell? ⟨a.hb,70,none⟩=some (.int .u64 (x.gr:Nat))∧w'.cell? ⟨a.hb,71,none⟩=some (.int .u64 (x.he:Nat))) (first|(go_keep;done)) (first
  |(go_at_call 76;refine CR.out.mono ?_;rintro e W2 ⟨rfl,s2⟩;obtain ⟨b1,b2,b3⟩:=CC.out W2 s2;have C2:=hide (CI.out W2 l s2);clear s2 CR CI a1 a2 a3)
  |(go_at_call 77;refine C2.out.mono ?_;rintro e W3 ⟨rfl,s3⟩;obtain ⟨d1,d2,d3⟩:=CC.out W3 s3;have S3:=hide s3;clear s3 C2 b1 b2 b3))
 go_wp2_with fail
 refine bodyPost_ret (results_tmp3 Tryz.results25 _ _ _) rfl ?_
 exact ⟨rfl,S3.out⟩
end
def delM (M:SpM) (id:Int):SpM:=fun q=>if q=id then none else M q
section
variable {N:Nat} {a:HA} {x:HS} {w W:World} {l:List (Thing N)}
theorem sp_split {id:Int} {sb:Nat} {g:Sg} (hs:Sep N w W (HL N a x l)) (hM:x.M id=some (sb,g)):Sep N w W (HL N a {x with M:=delM x.M id} l++ [tBk N sb 144 (sgV g)]):=
 hs.split 1 (by rw[HL.len];omega) (tSp N a.mp x.n x.Q (delM x.M id)) (tBk N sb 144 (sgV g)) fun F p=>by
  obtain ⟨⟨p1,p2,p3,p4⟩,p5⟩:(tSp N a.mp x.n x.Q x.M).P W F:=p
  have sub:∀i b g',delM x.M id i=some (b,g')→i≠id∧x.M i=some (b,g'):=fun i b g' e=>by
   unfold delM at e
   by_cases c:i=id
   ·rw[if_pos c] at e;cases e
   ·rw[if_neg c] at e;exact ⟨c,e⟩
  have k:=p3 id sb g hM
  refine ⟨fun z=>F z∧z≠sb,fun z=>z=sb,⟨⟨p1,p2,fun i b g' e=>p3 i b g' (sub i b g' e).2,fun i j b g1 g2 e1 e2=>p4 i j b g1 g2 (sub i b g1 e1).2 (sub j b g2 e2).2⟩,fun z=>⟨fun hz=> ?_,fun hz=> ?_⟩⟩,⟨k.1,k.2.1,fun z=>Iff.rfl⟩,fun z hz=>hz.1,fun z hz=>(p5 z).2 (.inr ⟨id,g,by rw[hz];exact hM⟩),fun z hz e=>hz.2 e⟩
  ·rcases (p5 z).1 hz.1 with e|⟨i,g',e⟩
   ·exact .inl e
   ·refine .inr ⟨i,g',?_⟩
    unfold delM
    rw[if_neg (fun c=>by rw[c,hM] at e;cases e;exact hz.2 rfl)];exact e
  ·rcases hz with rfl|⟨i,g',e⟩
   ·exact ⟨(p5 _).2 (.inl rfl),fun e=>k.2.2 e.symm⟩
   ·obtain ⟨c,e⟩:=sub i z g' e
    exact ⟨(p5 z).2 (.inr ⟨i,g',e⟩),fun u=>c (p4 i id z g' g e (by rw[u];exact hM))⟩
theorem free_none {id:Int} (hid:okI id) (hQ:x.Q id=none):Does N a w 30 #[pt a.hb, .int .i64 id] (.int .i64 35) x x:=by
 intro W l hs
 have CS:=hide (span_no (N:=N) (a:=a) (w:=w) hid hQ W l hs)
 unfold pt at *
 clear hs
 go_enter Tryz.func30,Tryz.ntmps30
 go_wp2_with fail
 refine CS.out.mono ?_
 rintro e W1 ⟨rfl,s1⟩
 have S1:=hide s1
 clear s1 CS
 go_wp2_with fail
 go_ret
 exact ⟨rfl,S1.out⟩
end
def inO (q:Nat):Prop:=512≤q∧q<1024
structure One (x:HS) (k:Nat):Prop where
 sS:∀q,x.S.st q≠0↔inO q
 ref:x.S.refuse= []
 st:∀q,x.st q≠0↔inO q
 C:x.C 1=true
 K:x.K≤1000 * k
 L:x.L.length≤k
 n:x.n≤k
 he:x.he≤512 * k
theorem one_commit {x:HS} {k pg n:Nat} (o:One x k) (h1:512≤pg) (h2:pg+n≤1024) (h3:1≤n):(Go.Proofs.Sp.commitS x.S pg n).1=0∧(Go.Proofs.Sp.commitS x.S pg n).2.refuse= []∧∀q,(Go.Proofs.Sp.commitS x.S pg n).2.st q≠0↔inO q:=by
 have rt:Go.Proofs.Sp.right pg n:=⟨h3,by omega⟩
 have nz:∀i,i<n→x.S.st (pg+ i)≠0:=fun i hi=>(o.sS _).2 ⟨by omega,by omega⟩
 unfold Go.Proofs.Sp.commitS
 rw[if_neg (Classical.not_not.2 rt),if_neg (Classical.not_not.2 nz)]
 by_cases c:∀i,i<n→x.S.st (pg+ i)=2
 ·rw[if_pos c];exact ⟨rfl,o.ref,o.sS⟩
 ·rw[if_neg c,o.ref]
  refine ⟨rfl,(Go.Proofs.Sp.readyN_keeps _ pg n).2.2.trans (by show x.S.refuse.tail= [];rw[o.ref];rfl),fun q=> ?_⟩
  show (Go.Proofs.Sp.readyN (Go.Proofs.Sp.takeRefuse x.S) pg n).st q≠0↔_
  rw[Go.Proofs.Sp.readyN_st]
  by_cases d:pg≤q∧q<pg+n
  ·rw[if_pos d];exact ⟨fun _=>⟨by omega,by omega⟩,fun _=>by decide⟩
  ·rw[if_neg d];exact o.sS q
def After (x:HS) (id:Int) (pg n cls el:Nat) (np:Bool) (sb:Nat):HS:=
 {x with S:=(Go.Proofs.Sp.commitS x.S pg n).2,K:=x.K+V.cost 0 n,L:=F.takeL x.L x.B,B:=x.B.tail,Q:=putQ x.Q id sb,M:=putM x.M id sb ⟨pg,n,cls,el,np⟩,n:=x.n+1,he:=x.he+n,V:=A.putI x.V pg (pg+n) id}
theorem After.one {x:HS} {k pg n cls el sb:Nat} {id:Int} {np:Bool} (o:One x k) (h1:512≤pg) (h2:pg+n≤1024) (h3:1≤n):One (After x id pg n cls el np sb) (k+1):=by
 obtain ⟨c1,c2,c3⟩:=one_commit o h1 h2 h3
 have hK:=o.K;have hn:=o.n;have hL:=o.L;have hh:=o.he
 refine ⟨c3,c2,o.st,o.C,?_,?_,?_,?_⟩
 ·show x.K+V.cost 0 n≤_
  unfold V.cost;rw[if_pos rfl];omega
 ·have:=F.takeL_len x.L x.B
  show (F.takeL x.L x.B).length≤_
  omega
 ·show x.n+1≤_;omega
 ·show x.he+n≤_;omega
theorem one_all {x:HS} {k pg n:Nat} (o:One x k) (h1:512≤pg) (h2:pg+n≤1024):A.AllIn x.C pg n:=
 ⟨by omega,by omega,fun q q1 q2=>by rw[show q/512=1 by omega];exact o.C⟩
theorem one_alloc {N:Nat} {a:HA} {w:World} {x x1:HS} {p id:Int} {k n pg r cls el:Nat} {np:Bool} (o:One x1 k) (hk:k≤10000) (h1:512≤pg) (h2:pg+n≤1024) (h3:1≤n) (he:Go.Proofs.YtdgdhnnakcncoaaGreatDoor.N.elemOf n (cls:Nat)=some el)
 (cF:Does N a w 180 #[pt a.hb, .int .i64 p, .int .u64 (n:Nat)] (.tuple #[rowV pg n r, .int .i64 0]) x x1) (hi:F.takeI x1.L x1.B=id) (hid:okI id) (hi0:0≤id) (hM:x1.M id=none):
 Alc N a w 20 #[pt a.hb, .int .i64 p, .int .u64 (n:Nat), .int .i64 (cls:Nat), .bool np] (.tuple #[.int .i64 id, .int .i64 0]) x (After x1 id pg n cls el np):=by
 obtain ⟨c1,c2,c3⟩:=one_commit o h1 h2 h3
 have hK:=o.K;have hn:=o.n;have hL:=o.L;have hh:=o.he
 have cC:=does_commit (N:=N) (a:=a) (w:=w) (x:=x1) (p:=pg) (n:=n) (by omega) (by omega) (by unfold V.lim;omega)
 rw[c1] at cC
 have cg:=get_ok cF cC
 have ct:=does_take (N:=N) (a:=a) (w:=w) (x:={x1 with S:=(Go.Proofs.Sp.commitS x1.S pg n).2,K:=x1.K+V.cost 0 n}) (by show x1.L.length<100000;omega)
 have ao:=one_all o h1 h2
 refine alloc_ok (x2:={x1 with S:=(Go.Proofs.Sp.commitS x1.S pg n).2,K:=x1.K+V.cost 0 n,L:=F.takeL x1.L x1.B,B:=x1.B.tail}) ?_ ?_ he cg (hi▸ct) hM (by show x1.n<_;omega) hid (by show x1.he+n<_;omega) (fun Q M k he=>does_set (by omega) hi0 ao)
 ·unfold Go.Proofs.YtdgdhnnakcncoaaGreatDoor.N.rpB;exact decide_eq_true ⟨by omega,by omega⟩
 ·unfold Go.Proofs.YtdgdhnnakcncoaaGreatDoor.N.rpB;exact decide_eq_true ⟨by omega,by omega⟩
def x0 (fi:List Nat):HS:=HS.new (Go.Proofs.Sp.Sp.new [] [] fi) 0
def xg (S:Go.Proofs.Sp.Sp) (n:Nat):HS:={HS.new S 513 with st:=setSt (setSt (fun _=>0) 512 1024 3) 512 (512+n) 1,C:=fun q=>if q=1 then true else false,bh:=1024,gr:=512}
theorem no_run {n:Nat} (h:1≤n):∀p,¬Run (fun _=>0) p n:=fun p r=>by
 exact absurd (r p (Nat.le_refl _) (by omega)) (by show ¬2≤0;decide)
theorem from_tree {N:Nat} {a:HA} {w:World} {x:HS} {n p:Nat} (hn:n<18446744073709551616) (h1:1≤n) (hf:First x.st n p):
 Does N a w 232 #[pt a.hb, .int .u64 (n:Nat)] (.tuple #[rowV p n (tl x.st p n).r, .bool true]) x {x with st:=setSt x.st p (p+n) 1}:=
 fun W l hs=>fromTree_any hs (e:=0) rfl (does_talloc hn h1 hf)
theorem from_tree_no {N:Nat} {a:HA} {w:World} {x:HS} {n:Nat} (hn:n<18446744073709551616) (h1:1≤n) (hf:∀p,¬Run x.st p n):
 Does N a w 232 #[pt a.hb, .int .u64 (n:Nat)] (.tuple #[rowV 0 n 0, .bool false]) x x:=
 fun W l hs=>fromTree_any hs (p:=0) (r:=0) (e:=30) rfl (does_talloc_no hn h1 hf)
theorem cache_none {N:Nat} {a:HA} {w:World} {x:HS} {p:Int} {n:Nat} (h1:1≤n) (hr:∀q,¬Run x.st q 1) (hc:∀k,x.c k=(0,0,0)):
 ∃g m r,Does N a w 231 #[pt a.hb, .int .i64 p, .int .u64 (n:Nat)] (.tuple #[rowV g m r, .bool false]) x x:=by
 by_cases c:(0≤p∧p<64)∧n<16
 ·obtain ⟨⟨c1,c2⟩,c3⟩:=c
  obtain ⟨k,rfl⟩:∃k:Nat,p=(k:Int):=⟨p.toNat,by omega⟩
  have hk:k<64:=by omega
  have cE:=does_cempty (N:=N) (a:=a) (w:=w) (x:=x) hk
  rw[hc k] at cE
  refine ⟨0,n,0,fromCache_got (x1:=x) (emp:=true) (v:=30) (e:=30) hk c3 (by omega) rfl cE (fun _=>does_cfill_full hk (hc k) hr) (fun _=>rfl) (does_calloc_no hk (hc k) (by omega) h1 (by omega) (fun q r=> ?_))⟩
  have:=r 0 (by omega)
  simp at this
 ·exact ⟨0,0,0,fromCache_not p n (by omega)⟩
def X0 (x:HS) (S:Go.Proofs.Sp.Sp):Nat→HS
 |0=>{x with S:=S,K:=513}
 |1=>{x with S:=S,K:=513,st:=setSt x.st 512 1024 3}
 |_=>{x with S:=S,K:=513,st:=setSt x.st 512 1024 3,C:=fun q=>if q=1 then true else x.C q}
theorem first_find {N:Nat} {a:HA} {w:World} {p:Int} {n:Nat} {fi:List Nat} (h1:1≤n) (h2:n≤512):
 ∃S r,(∀q,S.st q≠0↔inO q)∧S.refuse= []∧S.fills=fi∧(∀q,inO q→S.st q=1)∧Does N a w 180 #[pt a.hb, .int .i64 p, .int .u64 (n:Nat)] (.tuple #[rowV 512 n r, .int .i64 0]) (x0 fi) (xg S n):=by
 obtain ⟨S,e,b⟩:=Go.Proofs.Sp.reserve_new [] fi rfl
 have z:∀k,(x0 fi).c k=(0,0,0):=fun k=>rfl
 obtain ⟨g,m,r,c1⟩:=cache_none (N:=N) (a:=a) (w:=w) (x:=x0 fi) (p:=p) h1 (no_run (Nat.le_refl _)) z
 have cR:=does_reserve (N:=N) (a:=a) (w:=w) (x:=x0 fi) (h:=0) (n:=512) (by omega) (by omega) (by show 0≤_;omega)
 have e':Go.Proofs.Sp.reserveS (x0 fi).S 0 512=(512,0,S):=e
 rw[e'] at cR
 have cc:(n+511)/512=1:=by omega
 have st0:(x0 fi).st=fun _=>0:=rfl
 have cG:=does_tgrow (N:=N) (a:=a) (w:=w) (x:=X0 (x0 fi) S 0) (c:=1) (n:=1) (by unfold GrowBad;omega) (by rw[show (X0 (x0 fi) S 0).st=fun _=>0 from rfl,tl_all (s:=0) (fun _ _ _=>rfl)];rfl)
 have cA:=does_add (N:=N) (a:=a) (w:=w) (x:=X0 (x0 fi) S 1) (c:=1) (by omega) rfl
 have xs:∀i,(X0 (x0 fi) S i).bh=(x0 fi).bh∧(X0 (x0 fi) S i).gr=0:=fun i=>by
  cases i with
  |zero=>exact ⟨rfl,rfl⟩
  |succ i=>cases i<;>exact ⟨rfl,rfl⟩
 have g3:=grow_ok (N:=N) (a:=a) (w:=w) (x:=x0 fi) (n:=n) (c:=1) (pg:=512) (X:=X0 (x0 fi) S) (g:=0) h1 (by omega) cc.symm (by omega) cR cG (fun i hi=>(show i=0 by omega)▸cA) xs (by omega)
 have ff:First (setSt (fun _=>0) 512 1024 3) n 512:=⟨fun q q1 q2=>by rw[setSt_in ⟨q1,by omega⟩];decide,fun q hq r=>by
  have:=r q (Nat.le_refl _) (by omega)
  rw[setSt_out (by omega)] at this
  exact absurd this (by decide)⟩
 have c4:=from_tree (N:=N) (a:=a) (w:=w) (x:={X0 (x0 fi) S 2 with bh:=512+1 * 512,gr:=0+1 * 512}) (n:=n) (p:=512) (by omega) h1 ff
 refine ⟨S,_,fun q=> ?_,b.refuse,b.fills,fun q hq=> ?_,find_3 c1 (from_tree_no (by omega) h1 (no_run h1)) g3 c4⟩
 ·rw[b.st]
  unfold Go.Proofs.Sp.stN inO
  rw[if_neg (c:=512≤q∧q<512+0) (by omega)]
  by_cases c:512≤q∧q<1024
  ·rw[if_pos c];exact ⟨fun _=>c,fun _=>by decide⟩
  ·rw[if_neg c];exact ⟨fun u=>absurd rfl u,fun u=>absurd u c⟩
 ·rw[b.st]
  unfold Go.Proofs.Sp.stN inO at *
  rw[if_neg (c:=512≤q∧q<512+0) (by omega),if_pos hq]
theorem xg_one {S:Go.Proofs.Sp.Sp} {n:Nat} (h1:1≤n) (h2:n≤512) (hS:∀q,S.st q≠0↔inO q) (hr:S.refuse= []):One (xg S n) 1:=by
 refine ⟨hS,hr,fun q=> ?_,rfl,by show 513≤_;omega,by show 0≤_;omega,by show 0≤_;omega,by show 0≤_;omega⟩
 show setSt (setSt (fun _=>0) 512 1024 3) 512 (512+n) 1 q≠0↔_
 unfold inO
 by_cases c:512≤q∧q<512+n
 ·rw[setSt_in c];exact ⟨fun _=>by omega,fun _=>by decide⟩
 ·rw[setSt_out c]
  by_cases d:512≤q∧q<1024
  ·rw[setSt_in d];exact ⟨fun _=>d,fun _=>by decide⟩
  ·rw[setSt_out d];exact ⟨fun u=>absurd rfl u,fun u=>absurd u d⟩
structure HB (H b:Nat):Prop where
 lt:H<18446744073709551616
 bit:∀j,H.testBit j=decide (b≤j∧j<64)
theorem HB.row {H b n:Nat} (h:HB H b) (h1:1≤n) (h2:b+n≤64):Row H b n∧∀q,q<b→¬Row H q n:=by
 refine ⟨fun k hk=>by rw[h.bit];exact decide_eq_true ⟨by omega,by omega⟩,fun q hq r=> ?_⟩
 have:=r 0 (by omega)
 rw[h.bit] at this
 have:=of_decide_eq_true this
 omega
theorem HB.next {H b n:Nat} (h:HB H b):HB (andn H (on1 b n)) (b+n):=by
 refine ⟨andn_lt _ h.lt,fun j=> ?_⟩
 rw[andn_bit,h.bit,on1_bit,Bool.eq_iff_iff]
 simp only[Bool.and_eq_true,decide_eq_true_eq,Bool.not_eq_true',decide_eq_false_iff_not]
 omega
theorem HB.ne {H b:Nat} (h:HB H b) (hb:b<64):H≠0:=fun e=>by
 have:=h.bit b
 rw[e,Nat.zero_testBit,decide_eq_true (by omega:b≤b∧b<64)] at this
 cases this
theorem hb_fill {st:Nat→Nat} {B b:Nat} (h:∀j,j<64→(2≤st (B+j)↔b≤j)):HB (wd (fun j=>fre st (B+j)) 64) b:=by
 refine ⟨wd_lt _ (Nat.le_refl _),fun j=> ?_⟩
 rw[wd_bit,Bool.eq_iff_iff]
 simp only[Bool.and_eq_true,decide_eq_true_eq]
 unfold fre
 rw[decide_eq_true_eq]
 constructor
 ·intro ⟨h1,h2⟩;exact ⟨(h j h1).1 h2,h1⟩
 ·intro ⟨h1,h2⟩;exact ⟨h2,(h j h2).2 h1⟩
section
variable {N:Nat} {a:HA} {x:HS} {w W:World} {l:List (Thing N)}
theorem fill_find {p n b q B G D:Nat} (hD:q/64 * 64=D) (hp:p<64) (hn:n<16) (h1:1≤n) (hc:x.c p=(B,0,G)) (hq:D+64≤34359738368) (hf:First x.st 1 q) (h:HB (wd (fun j=>fre x.st (D+j)) 64) b) (h2:b+n≤64):
 ∃r G',Does N a w 180 #[pt a.hb, .int .i64 (p:Nat), .int .u64 (n:Nat)] (.tuple #[rowV (D+b) n r, .int .i64 0]) x
  {x with st:=fillS x.st (D) 64,c:=setC x.c p (D) (andn (wd (fun j=>fre x.st (D+j)) 64) (on1 b n)) G'}∧G'<18446744073709551616:=by
 subst hD
 obtain ⟨r1,r2⟩:=h.row h1 h2
 have cE:=does_cempty (N:=N) (a:=a) (w:=w) (x:=x) hp
 rw[hc,show decide ((B,(0:Nat),G).2.1=0)=true from rfl] at cE
 have cF:=does_cfill (N:=N) (a:=a) (w:=w) hp hc hf
 have hs:∀B H G B' H' G',setC (setC x.c p B H G) p B' H' G'=setC x.c p B' H' G':=fun B H G B' H' G'=>by
  funext k;unfold setC;by_cases e:k=p
  ·rw[if_pos e,if_pos e]
  ·rw[if_neg e,if_neg e,if_neg e]
 have cA:=does_calloc (N:=N) (a:=a) (w:=w) (x:={x with st:=fillS x.st (q/64 * 64) 64,c:=setC x.c p (q/64 * 64) (wd (fun j=>fre x.st (q/64 * 64+j)) 64) (wd (fun j=>rel x.st (q/64 * 64+j)) 64)})
  hp (show setC x.c p _ _ _ p=(q/64 * 64,wd (fun j=>fre x.st (q/64 * 64+j)) 64,wd (fun j=>rel x.st (q/64 * 64+j)) 64) from if_pos rfl) hq h1 (by omega) b r1 r2
 simp only[hs] at cA
 exact ⟨_,_,find_1 (fromCache_got (emp:=true) hp hn (Nat.le_trans (cnt_le _ _ _) (by omega)) rfl cE (fun _=>cF) (fun z=>by cases z) cA),andn_lt _ (wd_lt _ (Nat.le_refl _))⟩
theorem tree_find {p:Int} {n q:Nat} (h:¬(0≤p∧p<64)∨16≤n) (hn:n<18446744073709551616) (h1:1≤n) (hf:First x.st n q):
 ∃r,Does N a w 180 #[pt a.hb, .int .i64 p, .int .u64 (n:Nat)] (.tuple #[rowV q n r, .int .i64 0]) x {x with st:=setSt x.st q (q+n) 1}:=
 ⟨_,find_2 (fromCache_not p n h) (from_tree hn h1 hf)⟩
end
section
variable {N:Nat} {a:HA} {x:HS} {w W:World} {l:List (Thing N)}
theorem vm_new (hs:Sep N w W l) {v0 v1 v2:Value} {pl:List Nat} {re:List Bool} {fi:List Nat} (h0:V.Sl W v0 (V.u64s pl)) (h1:V.Sl W v1 (V.bools re)) (h2:V.Sl W v2 (V.u64s fi)) (b0:∀x∈pl,x<18446744073709551616) (b2:∀x∈fi,x<18446744073709551616)
 (l0:pl.length≤1048576) (l1:re.length≤1048576) (l2:fi.length≤1048576):
 Calls Tryz.prog 10 #[.agg #[v0,v1,v2]] W fun e W'=>∃b,e= .returned (.pointer (some ⟨b,0,none⟩))∧Sep N w W' (l++ [tVm N b (Go.Proofs.Sp.Sp.new pl re fi) 0]):=
 (V.vnew W v0 v1 v2 pl re fi h0 h1 h2 b0 b2 l0 l1 l2).mono fun e W' ⟨m,F,h,vi,k,lo⟩=>by
  obtain ⟨b,rfl⟩:∃b,m=⟨b,0,none⟩:=by obtain ⟨b,_,_,_,_,_,_,_,_,_,_,_,_,h,_⟩:=vi;exact ⟨b,h⟩
  exact ⟨b,h,hs.more (k.below (Nat.le_refl _) (fun _ f=>f.elim)) _ (F':=F) ⟨vi,fun z hz=>Nat.le_trans hs.nw (lo z hz)⟩ lo⟩
end
theorem One.fill {x:HS} {k B:Nat} {c:CC} (o:One x k):One {x with st:=fillS x.st B 64,c:=c} k:=
 ⟨o.sS,o.ref,fun q=>by
  show fillS x.st B 64 q≠0↔_
  rw[←o.st q]
  unfold fillS
  split
  ·next h=>exact ⟨fun _=>by omega,fun _=>by decide⟩
  ·exact Iff.rfl,o.C,o.K,o.L,o.n,o.he⟩
theorem One.take {x:HS} {k p n s:Nat} (o:One x k) (h1:512≤p) (h2:p+n≤1024) (hs:s≠0):One {x with st:=setSt x.st p (p+n) s} k:=
 ⟨o.sS,o.ref,fun q=>by
  show setSt x.st p (p+n) s q≠0↔_
  unfold setSt
  split
  ·next h=>exact ⟨fun _=>⟨by omega,by omega⟩,fun _=>hs⟩
  ·exact o.st q,o.C,o.K,o.L,o.n,o.he⟩
def stF (n:Nat):Nat→Nat:=setSt (setSt (fun _=>0) 512 1024 3) 512 (512+n) 1
theorem stF_at {n q:Nat} (h:n≤512):stF n q=if 512≤q∧q<512+n then 1 else if 512≤q∧q<1024 then 3 else 0:=by
 unfold stF setSt;rfl
theorem stF_first {n m:Nat} (h:n+m≤512) (hm:1≤m) (hn:1≤n):First (stF n) m (512+n):=by
 refine ⟨fun q q1 q2=> ?_,fun p hp r=> ?_⟩
 ·rw[stF_at (by omega),if_neg (by omega),if_pos (by omega)];decide
 ·by_cases c:512≤p
  ·have:=r p (Nat.le_refl _) (by omega)
   rw[stF_at (by omega),if_pos (by omega)] at this
   omega
  ·have:=r p (Nat.le_refl _) (by omega)
   rw[stF_at (by omega),if_neg (by omega),if_neg (by omega)] at this
   omega
theorem stF_fill {n:Nat} (hn:n<64):HB (wd (fun j=>fre (stF n) (512+j)) 64) n:=hb_fill fun j hj=>by
 rw[stF_at (by omega)]
 by_cases c:n≤j
 ·rw[if_neg (by omega),if_pos (by omega)];exact ⟨fun _=>c,fun _=>by decide⟩
 ·rw[if_pos (by omega)];exact ⟨fun u=>by omega,fun u=>absurd u c⟩
theorem fF_at {n q:Nat} (hn:n<64):fillS (stF n) 512 64 q=if 512≤q∧q<576 then 1 else if 512≤q∧q<1024 then 3 else 0:=by
 unfold fillS
 rw[stF_at (by omega)]
 by_cases c:512≤q∧q<576
 ·rw[if_pos c]
  by_cases d:q<512+n
  ·rw[if_pos (show 512≤q∧q<512+n from ⟨c.1,d⟩)];split<;>rfl
  ·rw[if_neg (show ¬(512≤q∧q<512+n) by omega),if_pos (show 512≤q∧q<1024 by omega),if_pos (by omega)]
 ·rw[if_neg c,if_neg (by omega),if_neg (show ¬(512≤q∧q<512+n) by omega)]
theorem fF_first {n m:Nat} (hn:n<64) (h:m≤448) (hm:1≤m):First (fillS (stF n) 512 64) m 576:=by
 refine ⟨fun q q1 q2=> ?_,fun p hp r=> ?_⟩
 ·rw[fF_at hn,if_neg (by omega),if_pos (by omega)];decide
 ·have:=r p (Nat.le_refl _) (by omega)
  rw[fF_at hn] at this
  split at this
  ·omega
  ·rw[if_neg (by omega)] at this;omega
theorem gone_lt {x:HS} (hc:COk x.c):goneV x<18446744073709551616:=by
 have h1:=(tl_le x.st 0 34359738368).2.2
 have h2:=relS_le hc 64 (Nat.le_refl _)
 unfold goneV rlT
 omega
set_option maxRecDepth 100000 in
theorem awake_any {w:World} (hT:TabW w):Calls Tryz.prog 18 #[] w fun e w'=>e= .returned (.bool true)∧Below w.heap.size w w':=by
 have h2:2≤w.heap.size:=hT.lt
 have CN:=hide (vm_new (Sep.start w) (V.Sl.nil w) (V.Sl.nil w) (V.Sl.nil w) (pl:=[]) (re:=[]) (fi:=[]) (by simp) (by simp) (by simp) (by simp) (by simp))
 have HT:=hide hT
 clear hT
 go_enter Tryz.func18,Tryz.ntmps18
 go_wp2_with fail
 refine CN.out.mono ?_
 rintro e W1 ⟨m,rfl,s1⟩
 have CH:=hide (new_any s1 HT.out h2)
 unfold pt at CH
 clear s1 CN
 go_wp2_with fail
 refine CH.out.mono ?_
 rintro e W2 ⟨a,ha,rfl,s2⟩
 obtain ⟨S,r,hS,hr,-,-,cF⟩:=first_find (N:=w.heap.size) (a:=a) (w:=w) (p:=0) (n:=1) (fi:=[]) (by omega) (by omega)
 have o1:=xg_one (n:=1) (by omega) (by omega) hS hr
 have C1:=hide (one_alloc (cls:=5) (np:=false) o1 (by omega) (by omega) (by omega) (by omega) Go.Proofs.YtdgdhnnakcncoaaGreatDoor.N.aw_elem cF (id:=1) rfl ⟨by decide,by decide⟩ (by decide) rfl W2 [] s2)
 unfold pt at C1
 clear CH cF s2
 go_wp2_with fail
 refine C1.out.mono ?_
 rintro e W3 ⟨rfl,b1,s3⟩
 have o2:One (After (xg S 1) 1 512 1 5 48 false b1) 2:=After.one o1 (by omega) (by omega) (by omega)
 obtain ⟨r2,G2,cF2,hG2⟩:=fill_find (N:=w.heap.size) (a:=a) (w:=w) (x:=After (xg S 1) 1 512 1 5 48 false b1) (p:=0) (n:=1) (b:=1) (q:=513) (D:=512) (by omega) (by omega) (by omega) (by omega) (B:=0) (G:=0) rfl (by omega) (stF_first (n:=1) (by omega) (by omega) (by omega)) (stF_fill (by omega)) (by omega)
 have hb2:=(stF_fill (n:=1) (by omega)).next (n:=1)
 obtain ⟨H2,hH2⟩:∃H2,andn (wd (fun j=>fre (After (xg S 1) 1 512 1 5 48 false b1).st (512+j)) 64) (on1 1 1)=H2:=⟨_,rfl⟩
 have hb2':HB H2 2:=by rw[←hH2];exact hb2
 rw[hH2] at cF2
 have o2':=One.fill (c:=setC (After (xg S 1) 1 512 1 5 48 false b1).c 0 512 H2 G2) (B:=512) o2
 have C2:=hide (one_alloc (cls:=5) (np:=false) o2' (by omega) (by omega) (by omega) (by omega) Go.Proofs.YtdgdhnnakcncoaaGreatDoor.N.aw_elem cF2 (id:=2) rfl ⟨by decide,by decide⟩ (by decide) rfl W3 [] s3)
 obtain ⟨x2,hx2⟩:∃x2:HS,{After (xg S 1) 1 512 1 5 48 false b1 with st:=fillS (After (xg S 1) 1 512 1 5 48 false b1).st 512 64,c:=setC (After (xg S 1) 1 512 1 5 48 false b1).c 0 512 H2 G2}=x2:=⟨_,rfl⟩
 have f1:x2.st=fillS (stF 1) 512 64:=by rw[←hx2];rfl
 have f2:x2.c=setC (fun _=>(0,0,0)) 0 512 H2 G2:=by rw[←hx2];rfl
 have f3:x2.V=A.putI (fun _=>0) 512 513 1:=by rw[←hx2];rfl
 have f4:x2.L= [true]∧x2.B= []∧x2.gr=512∧x2.he=1:=by rw[←hx2];exact ⟨rfl,rfl,rfl,rfl⟩
 have f5:∀i,i≠1→x2.M i=none:=fun i hi=>by rw[←hx2];exact if_neg hi
 rw[hx2] at C2 o2'
 unfold pt at C2
 clear s3 C1 cF2 hb2 hH2 hx2 o2 o1 hS hr
 go_wp2_with fail
 refine C2.out.mono ?_
 rintro e W4 ⟨rfl,b2,s4⟩
 have o3:One (After x2 2 513 1 5 48 false b2) 3:=After.one o2' (by omega) (by omega) (by omega)
 have st3:(After x2 2 513 1 5 48 false b2).st=fillS (stF 1) 512 64:=f1
 obtain ⟨r3,cF3⟩:=tree_find (N:=w.heap.size) (a:=a) (w:=w) (x:=After x2 2 513 1 5 48 false b2) (p:=0) (n:=16) (q:=576) (.inr (by omega)) (by omega) (by omega) (by rw[st3];exact fF_first (by omega) (by omega) (by omega))
 have o3':=One.take (p:=576) (n:=16) (s:=1) o3 (by omega) (by omega) (by decide)
 have L3:F.takeI (After x2 2 513 1 5 48 false b2).L (After x2 2 513 1 5 48 false b2).B=3:=by
  show F.takeI (F.takeL x2.L x2.B) x2.B.tail=3
  rw[f4.1,f4.2.1];rfl
 have C3:=hide (one_alloc (cls:=0) (el:=131072) (np:=false) o3' (by omega) (by omega) (by omega) (by omega) (by rfl) cF3 (id:=3) L3 ⟨by decide,by decide⟩ (by decide) (by
  show putM x2.M 2 b2 ⟨512+1,1,5,48,false⟩ 3=none
  unfold putM
  rw[if_neg (by decide)];exact f5 3 (by decide)) W4 [] s4)
 obtain ⟨x3,hx3⟩:∃x3:HS,{After x2 2 513 1 5 48 false b2 with st:=setSt (After x2 2 513 1 5 48 false b2).st 576 (576+16) 1}=x3:=⟨_,rfl⟩
 have g1:x3.st=setSt (fillS (stF 1) 512 64) 576 592 1:=by rw[←hx3,←f1];rfl
 have g2:x3.c=setC (fun _=>(0,0,0)) 0 512 H2 G2:=by rw[←hx3,←f2];rfl
 have g3:x3.V=A.putI (A.putI (fun _=>0) 512 513 1) 513 514 2:=by rw[←hx3,←f3];rfl
 have g4:x3.gr=512∧x3.he=2:=by rw[←hx3];exact ⟨f4.2.2.1,by show x2.he+1=2;rw[f4.2.2.2]⟩
 rw[hx3] at C3
 unfold pt at C3
 clear s4 C2 cF3 hx3 o3 o3' o2' st3 L3 f1 f2 f3 f4 f5
 go_wp2_with fail
 refine C3.out.mono ?_
 rintro e W5 ⟨rfl,b3,s5⟩
 have cok:COk (After x3 3 576 16 0 131072 false b3).c:=fun k hk=>by
  show (x3.c k).1≤_∧_
  rw[show (After x3 3 576 16 0 131072 false b3).c=x3.c from rfl,g2]
  unfold setC
  split
  ·exact ⟨by show 512≤_;omega,hb2'.lt,hG2⟩
  ·exact ⟨by show 0≤_;omega,by show 0<_;omega,by show 0<_;omega⟩
 have C4:=hide (owner_used (N:=w.heap.size) (a:=a) (w:=w) (x:=After x3 3 576 16 0 131072 false b3) (q:=514) (p:=0) (f:=true) (r1:=2) (r2:=0) (by omega) (by
  show decide (x3.st 514≠0)=true;rw[g1];decide) (by show decide (2≤x3.st 514)=false;rw[g1];decide) cok (.inl ⟨by omega,rfl,by
  show ownC (x3.c 0) 514=true
  rw[g2]
  show (decide (512≤514)&&H2.testBit 2)=true
  rw[hb2'.bit];simp,fun k hk=>absurd hk (Nat.not_lt_zero _)⟩) rfl W5 [] s5)
 have C5:=hide (told_any (N:=w.heap.size) (a:=a) (w:=w) cok (gone_lt cok))
 have C6:=fun b hb=>hide (of_any (N:=w.heap.size) (a:=a) (w:=w) (x:=After x3 3 576 16 0 131072 false b3) (b:=b) hb)
 have v1:(After x3 3 576 16 0 131072 false b3).V (4194304/8192)=1:=by
  show A.putI x3.V 576 592 3 512=1;rw[g3];rfl
 have v2:(After x3 3 576 16 0 131072 false b3).V (4718592/8192)=3:=by
  show A.putI x3.V 576 592 3 576=3;rw[g3];rfl
 have C7:=C6 4194304 (by omega)
 have C8:=C6 4718592 (by omega)
 rw[v1] at C7
 rw[v2] at C8
 have e1:(After x3 3 576 16 0 131072 false b3).gr=512:=g4.1
 have e2:(After x3 3 576 16 0 131072 false b3).he=18:=by show x3.he+16=18;rw[g4.2]
 rw[e1,e2] at C5
 obtain ⟨x4,hx4⟩:∃x4,After x3 3 576 16 0 131072 false b3=x4:=⟨_,rfl⟩
 obtain ⟨gn,hgn⟩:∃gn,goneV x4=gn:=⟨_,rfl⟩
 rw[hx4] at C4 C5 C7 C8
 rw[hgn] at C5
 unfold pt at *
 clear s5 C3 C6 g1 g2 g3 g4 v1 v2 e1 e2 hx4 hgn cok hb2'
 go_wp2_with fail
 refine C4.out.mono ?_
 rintro e W6 ⟨rfl,s6⟩
 have C5':=hide (C5.out W6 [] s6)
 clear s6 C4 C5
 go_wp2_with fail
 refine C5'.out.mono ?_
 rintro e W7 ⟨rfl,s7⟩
 have C7':=hide (C7.out W7 [] s7)
 clear s7 C5' C7
 go_wp2_with fail
 refine C7'.out.mono ?_
 rintro e W8 ⟨rfl,s8⟩
 have C8':=hide (C8.out W8 [] s8)
 clear s8 C7' C8
 go_wp2_with fail
 refine C8'.out.mono ?_
 rintro e W9 ⟨rfl,s9⟩
 have B9:=hide s9.be
 clear s9 C8'
 go_wp2_with fail
 go_ret
 exact ⟨rfl,B9.out⟩
set_option maxRecDepth 100000 in
theorem fresh_any {w:World} (hT:TabW w) {v0 v1 v2:Value} {pl:List Nat} {re:List Bool} {fi:List Nat} (h0:V.Sl w v0 (V.u64s pl)) (h1:V.Sl w v1 (V.bools re)) (h2:V.Sl w v2 (V.u64s fi)) (b0:∀x∈pl,x<18446744073709551616) (b2:∀x∈fi,x<18446744073709551616)
 (l0:pl.length≤1048576) (l1:re.length≤1048576) (l2:fi.length≤1048576):
 Calls Tryz.prog 19 #[.agg #[v0,v1,v2]] w fun e W'=>∃a,e= .returned (pt a.hb)∧Sep w.heap.size w W' (HL w.heap.size a (HS.new (Go.Proofs.Sp.Sp.new pl re fi) 0) []):=by
 have ht:2≤w.heap.size:=hT.lt
 have HT:=hide hT
 have kb:Below w.heap.size w (w.alloc (.cells #[v0,v1,v2] 25)):=(Below.refl _ _).alloc (Nat.le_refl _) _
 have CG:=hide (V.given_any (w.alloc (.cells #[v0,v1,v2] 25)) v0 v1 v2 pl re fi (V.Sl.low h0 kb) (V.Sl.low h1 kb) (V.Sl.low h2 kb) l0 l1 l2)
 have KB:=hide kb
 have HB:=hide (And.intro b0 b2)
 have HL':=hide (And.intro l0 (And.intro l1 l2))
 have ld:(loadVar 25 ⟨w.heap.size,0,none⟩).run Tryz.prog (w.alloc (.cells #[v0,v1,v2] 25))= .ok (.agg #[v0,v1,v2]) (w.alloc (.cells #[v0,v1,v2] 25)):=V.load3 (World.alloc_heap_new _ _)
 clear hT h0 h1 h2 b0 b2 l0 l1 l2 kb
 go_enter Tryz.func19,Tryz.ntmps19
 go_wp2_with fail
 refine CG.out.mono ?_
 rintro e W1 ⟨o0,k0,o1,k1,o2,k2,rfl,g⟩
 have s0:=(Sep.start w).read (KB.out.trans (g.be.mono KB.out.size))
 have CN:=hide (vm_new s0 (V.Sl.of_owns g.o0) (V.Sl.of_owns g.o1) (V.Sl.of_owns g.o2) HB.out.1 HB.out.2 HL'.out.1 HL'.out.2.1 HL'.out.2.2)
 clear g s0 CG HB HL' KB ld
 go_wp2_with fail
 refine CN.out.mono ?_
 rintro e W2 ⟨m,rfl,s1⟩
 have CH:=hide (new_any s1 HT.out ht)
 unfold pt at CH
 clear s1 CN
 go_wp2_with fail
 refine CH.out.mono ?_
 rintro e W3 ⟨a,ha,rfl,s2⟩
 have S2:=hide s2
 clear s2 CH
 go_wp2_with fail
 go_ret
 exact ⟨a,rfl,S2.out⟩
theorem relS_zero {c:CC} (h:∀k,c k=(0,0,0)):∀k,relS c k=0
 |0=>rfl
 |k+1=>by
  show relS c k+pc (tG (c k))=0
  rw[relS_zero h k,h k,show tG (0,0,0)=0 from rfl,pc_cnt 64 _ (by omega),cnt_none (fun j _=>Nat.zero_testBit _)]
end Go.Proofs.YtdgdhnnakcncoaaGreatDoor
