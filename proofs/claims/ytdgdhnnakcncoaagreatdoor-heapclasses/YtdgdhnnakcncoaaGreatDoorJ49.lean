/- Of the proof of HeapClasses: texts HHo, HHp, HHq, HHr. -/
import Derived.Test.YtdgdhnnakcncoaaGreatDoorJ48
import Derived.Test.YtdgdhnnakcncoaaGreatDoorJ27
import Derived.Deep.MidRow
import Derived.Great.Walk
namespace Go.Proofs.YtdgdhnnakcncoaaGreatDoor
set_option maxHeartbeats 1600000
open Go.ChangeShapes Go.WideShapes Go.ChangeAt Go.RowKit Go.Proofs.Bt Go.Shelf Go.Proofs.Rx Go.Maps Go.Proofs.Pk
set_option linter.unusedVariables false
set_option linter.unusedSimpArgs false
theorem load_arr {P:Program} (W:World) (hb t:Nat) (v:Value) (ld:(loadVar t ⟨hb,4,none⟩).run P W= .ok v W) (o:Oper) (x:Operand) (ho:o.op= .load t x) (ρ:Operand→Value) (hx:ρ x= .pointer (some ⟨hb,4,none⟩)):
 (execOp ρ o).run P W= .ok (.value v) W:=by
 unfold execOp
 rw[ho]
 simp only[hx,Instr.loadAt]
 have e:(do
  let r←Instr.sureAddr (Value.pointer (some {block:=hb,off:=4}))
  loadVar t r:Sem Value).run P W= .ok v W:=by
  rw[Sem.run_bind]
  exact ld
 rw[Sem.run_bind,e]
 rfl
theorem idx64 (w:World) (cs:Array Value) (k:Nat) (hk:k<64) (v:Value) (h:cs[k]? =some v):(Instr.index 121 (.agg cs) (.int .i64 (k:Nat))).run Tryz.prog w= .ok v w:=by
 have hu:Tryz.prog.underlying 121=some (.array 64 120):=by kernel_rfl
 have h1:(0:Int)≤(k:Int)∧(k:Int)<((64:Nat):Int):=by omega
 simp[Instr.index,run_underlying hu,asIntOf,h1,go_sem]
 rw[if_pos hk,h]
 rfl
def cvl (cb:Nat→Nat):List Value:=(List.range 64).map fun p=>pt (cb p)
theorem cvl_at {cb:Nat→Nat} {k:Nat} (hk:k<64):(cvl cb).toArray[k]? =some (pt (cb k)):=by simp[cvl,hk]
theorem info64:(Tryz.prog.info? 121).map (·.size)=some 64:=by kernel_rfl
section
variable {N:Nat} {a:HA} {x:HS} {w W:World} {l:List (Thing N)}
theorem cs_load (hs:Sep N w W (HL N a x l)):(loadVar 121 ⟨a.hb,4,none⟩).run Tryz.prog W= .ok (.agg (cvl a.cb).toArray) W:=
 run_loadVar_mid (P:=Tryz.prog) W a.hb 4 121 (cvl a.cb) _ (fun j v hv=>by
  have hj:j<64:=by have:=(List.getElem?_eq_some_iff.1 hv).1;simpa [cvl] using this
  have:=cvl_at (cb:=a.cb) hj
  simp only[List.getElem?_toArray] at this
  rw[this] at hv
  rw[←hv]
  exact (Sep.hb hs).cc j hj) Tryz.underlying121 rfl (by rw[info64];simp[cvl])
theorem span_ok {id:Int} {sb:Nat} (hid:okI id) (hM:x.Q id=some sb):Does N a w 21 #[pt a.hb, .int .i64 id] (.tuple #[pt sb, .int .i64 0]) x x:=by
 intro W l hs
 have c4:=(Sep.hb hs).c4
 obtain ⟨F,p⟩:=hs.have 1 (by rw[HL.len];omega)
 obtain ⟨⟨m,-⟩,-⟩:(tSp N a.mp x.n x.Q x.M).P W F:=p
 have lk:=m.looks hid
 rw[hM] at lk
 have S:=hide hs
 simp only[valO,encC,Option.isSome_some] at lk
 unfold pt at *
 clear hs m hM hid
 go_enter Tryz.func21,Tryz.ntmps21
 go_wp2_with fail
 refine bodyPost_ret (results_tmp2 Tryz.results21 _ _ _) rfl ?_
 exact ⟨rfl,S.out⟩
theorem span_no {id:Int} (hid:okI id) (hM:x.Q id=none):Does N a w 21 #[pt a.hb, .int .i64 id] (.tuple #[.pointer none, .int .i64 35]) x x:=by
 intro W l hs
 have c4:=(Sep.hb hs).c4
 obtain ⟨F,p⟩:=hs.have 1 (by rw[HL.len];omega)
 obtain ⟨⟨m,-⟩,-⟩:(tSp N a.mp x.n x.Q x.M).P W F:=p
 have lk:=m.looks hid
 rw[hM] at lk
 have S:=hide hs
 simp only[valO,encC,Option.isSome_none] at lk
 unfold pt at *
 clear hs m hM hid
 go_enter Tryz.func21,Tryz.ntmps21
 go_wp2_with fail
 refine bodyPost_ret (results_tmp2 Tryz.results21 _ _ _) rfl ?_
 exact ⟨rfl,S.out⟩
theorem of_any {b:Nat} (hb:b<18446744073709551616):Does N a w 26 #[pt a.hb, .int .u64 (b:Nat)] (.int .i64 (x.V (b/8192))) x x:=by
 intro W l hs
 have OP:=hide (open_any hs)
 have c2:=(Sep.hb hs).c2
 have CA:=hide (does_at hb W l hs)
 obtain ⟨v,hv⟩:∃v,x.V (b/8192)=v:=⟨_,rfl⟩
 rw[hv] at CA ⊢
 unfold pt at *
 clear hs hv
 go_enter Tryz.func26,Tryz.ntmps26
 go_wp2_with fail
 refine OP.out.mono ?_
 rintro e W1 ⟨rfl,hw⟩
 rw[hw]
 clear hw W1 OP
 go_wp2_with fail
 refine CA.out.mono ?_
 rintro e W1 ⟨rfl,s1⟩
 have S1:=hide s1
 clear s1 CA
 go_wp2_with fail
 go_ret
 exact ⟨rfl,S1.out⟩
def ownC (t:Nat×Nat×Nat) (q:Nat):Bool:=decide (t.1≤q)&&t.2.1.testBit (q - t.1)
def tB (t:Nat×Nat×Nat):Nat:=if t.2.1=0 then 0 else t.1
def tG (t:Nat×Nat×Nat):Nat:=if t.2.1=0 then 0 else t.2.2
theorem tell_eq (t:Nat×Nat×Nat):tellV t.1 t.2.1 t.2.2= .tuple #[.int .u64 (tB t:Nat), .int .u64 (t.2.1:Nat), .int .u64 (tG t:Nat)]:=by
 unfold tellV tB tG
 by_cases h:t.2.1=0
 ·rw[if_pos h,if_pos h,if_pos h,h];rfl
 ·rw[if_neg h,if_neg h,if_neg h]
theorem own_eq {t:Nat×Nat×Nat} {q:Nat} (hB:t.1≤34359738368) (hH:t.2.1<18446744073709551616) (hq:q<18446744073709551616):
 (bits BinOp.and IntKind.u64 ((t.2.1:Int)/2^min (IntKind.u64.wrap ((q:Int) -(tB t:Int))).toNat 64) 1==1)=ownC t q:=by
 obtain ⟨n,hn⟩:∃n,min (IntKind.u64.wrap ((q:Int) -(tB t:Int))).toNat 64=n:=⟨_,rfl⟩
 rw[hn]
 have e:bits BinOp.and IntKind.u64 ((t.2.1:Int)/2^n) 1=((t.2.1/2^n%2:Nat):Int):=by
  have h1:((t.2.1:Int)/2^n)=((t.2.1/2^n:Nat):Int):=by simp
  rw[h1]
  have h2:=bits_and_u64_nat (t.2.1/2^n) 1 (Nat.lt_of_le_of_lt (Nat.div_le_self _ _) hH) (by omega)
  rw[show ((1:Nat):Int)=1 from rfl] at h2
  rw[h2,Nat.and_one_is_mod]
 have e2:(bits BinOp.and IntKind.u64 ((t.2.1:Int)/2^n) 1==1)=t.2.1.testBit n:=by
  rw[e,Nat.testBit_eq_decide_div_mod_eq,Bool.eq_iff_iff,beq_iff_eq,decide_eq_true_eq]
  omega
 rw[e2]
 have big:t.2.1.testBit 64=false:=Nat.testBit_lt_two_pow hH
 unfold ownC
 by_cases h0:t.2.1=0
 ·rw[h0];simp
 ·have hT:tB t=t.1:=if_neg h0
  rw[hT,IntKind.wrap_u64] at hn
  by_cases c:t.1≤q
  ·rw[decide_eq_true c,Bool.true_and]
   by_cases d:q - t.1<64
   ·rw[show n=q - t.1 by omega]
   ·rw[show n=64 by omega,big,Nat.testBit_lt_two_pow (Nat.lt_of_lt_of_le hH (Nat.pow_le_pow_right (n:=2) (by omega) (show 64≤q - t.1 by omega)))]
  ·rw[decide_eq_false c,Bool.false_and,show n=64 by omega,big]
set_option maxRecDepth 100000 in
theorem cacheOf_any {q p:Nat} {f:Bool} (hq:q<18446744073709551616) (hc:∀k,k<64→(x.c k).1≤34359738368∧(x.c k).2.1<18446744073709551616)
 (hp:p<64∧f=true∧ownC (x.c p) q=true∧(∀k,k<p→ownC (x.c k) q=false)∨p=0∧f=false∧∀k,k<64→ownC (x.c k) q=false):
 Does N a w 80 #[pt a.hb, .int .u64 (q:Nat)] (.tuple #[.int .i64 (p:Nat), .bool f]) x x:=by
 intro W l hs
 have ld:=cs_load hs
 obtain ⟨CS,hCS⟩:∃CS,(cvl a.cb).toArray=CS:=⟨_,rfl⟩
 have ix:∀k,k<64→CS[k]? =some (pt (a.cb k)):=fun k hk=>by rw[←hCS];exact cvl_at hk
 rw[hCS] at ld
 have IX:=hide ix
 have S:=hide hs
 have HP:=hide hp
 have HC:=hide hc
 unfold pt
 clear hs hCS ix hp hc
 go_enter Tryz.func80,Tryz.ntmps80
 go_upto_region 1 with fail
 refine wp_region_lit ?_
 refine Go.Great.wpList_runTo rfl (some 11) rfl (.pointer (some ⟨a.hb,0,none⟩)) W rfl ?_
 refine Go.Great.wpList_runTo rfl (some 12) rfl (.pointer (some ⟨a.hb,0,none⟩)) W rfl ?_
 refine Go.Great.wpList_runTo rfl (some 13) rfl (.pointer (some ⟨a.hb,4,none⟩)) W (by simp[go_sem]) ?_
 refine Go.Great.wpList_runTo rfl (some 14) rfl (.agg CS) W (load_arr W a.hb _ _ ld _ (.tmp 13) rfl _ rfl) ?_
 go_wp2_with fail
 go_loopw [15] (fun iv wr=>∃k:Nat,iv= .int .i64 (k:Int)∧k≤64∧Hid (∀j,j<k→ownC (x.c j) q=false)∧Hid (Sep N w wr (HL N a x l))) (fun iv _=>64 -(intOf iv).toNat)
 case atStart=>exact ⟨0,rfl,Nat.zero_le _,hide (fun j hj=>absurd hj (Nat.not_lt_zero _)),S⟩
 case round=>
  clear S ld
  obtain ⟨k,rfl,hk,HN,HS⟩:=hrel
  by_cases hlt:k<64
  ·have d1:decide (k<64)=true:=decide_eq_true hlt
   have i1:(k:Int)<64:=by omega
   have i2:(0:Int)≤(k:Int):=by omega
   have ix:=fun w=>idx64 w CS k hlt _ (IX.out k hlt)
   have CT:=hide (does_ctell (a:=a) (w:=w) (N:=N) hlt (rfl:x.c k=((x.c k).1,(x.c k).2.1,(x.c k).2.2)) wr l HS.out)
   rw[tell_eq] at CT
   unfold pt at ix CT
   obtain ⟨T,hT⟩:∃T,tB (x.c k)=T:=⟨_,rfl⟩
   obtain ⟨H,hH⟩:∃H,(x.c k).2.1=H:=⟨_,rfl⟩
   obtain ⟨G,hG⟩:∃G,tG (x.c k)=G:=⟨_,rfl⟩
   have oe:=own_eq (HC.out k hlt).1 (HC.out k hlt).2 hq
   rw[hT,hH] at oe
   rw[hT,hH,hG] at CT
   have hq0:(0:Int)≤(q:Int):=by omega
   have q2:(q:Int)<18446744073709551616:=by omega
   clear hT hH hG
   go_wp2_with fail
   refine CT.out.mono ?_
   rintro e W1 ⟨rfl,s1⟩
   have S1:=hide s1
   clear s1 HS CT
   by_cases ow:ownC (x.c k) q=true
   ·rw[ow] at oe
    have F:=hide (show p=k∧f=true from by
     rcases HP.out with ⟨h1,h2,h3,h4⟩|⟨-,-,h3⟩
     ·refine ⟨Nat.le_antisymm (Nat.le_of_not_lt fun c=> ?_) (Nat.le_of_not_lt fun c=> ?_),h2⟩
      ·rw[h4 k c] at ow;cases ow
      ·rw[HN.out p c] at h3;cases h3
     ·rw[h3 k hlt] at ow;cases ow)
    obtain ⟨rfl,rfl⟩:=F.out
    clear HN HP HC F ow
    go_wp2_with fail
    refine bodyPost_ret (results_tmp2 Tryz.results80 _ _ _) rfl ?_
    exact ⟨rfl,S1.out⟩
   ·have ow':ownC (x.c k) q=false:=by simpa using ow
    rw[ow'] at oe
    have HN2:=hide (show ∀j,j<k+1→ownC (x.c j) q=false from fun j hj=>by
     by_cases c:j<k
     ·exact HN.out j c
     ·rw[show j=k by omega];exact ow')
    clear HN HP HC ow ow'
    go_wp2_with fail
    go_roundw
    case rel=>exact ⟨k+1,by go_num,by omega,HN2,S1⟩
    case measure=>simp[intOf];omega
  ·obtain rfl:k=64:=by omega
   have F:=hide (show p=0∧f=false from by
    rcases HP.out with ⟨h1,-,h3,-⟩|⟨h1,h2,-⟩
    ·rw[HN.out p h1] at h3;cases h3
    ·exact ⟨h1,h2⟩)
   obtain ⟨rfl,rfl⟩:=F.out
   clear HN HP HC F hlt
   go_wp2_with fail
   refine bodyPost_ret (results_tmp2 Tryz.results80 _ _ _) rfl ?_
   exact ⟨rfl,HS.out⟩
end
end Go.Proofs.YtdgdhnnakcncoaaGreatDoor
namespace Go.Proofs.YtdgdhnnakcncoaaGreatDoor
set_option maxHeartbeats 1600000
open Go.ChangeShapes Go.WideShapes Go.ChangeAt Go.RowKit Go.Proofs.Bt Go.Shelf Go.Proofs.Rx Go.Maps Go.Proofs.Pk
set_option linter.unusedVariables false
set_option linter.unusedSimpArgs false
section
variable {N:Nat} {a:HA} {x:HS} {w W:World} {l:List (Thing N)}
def COk (c:CC):Prop:=∀k,k<64→(c k).1≤34359738368∧(c k).2.1<18446744073709551616∧(c k).2.2<18446744073709551616
theorem owner_used {q p:Nat} {f:Bool} (hq:q<34359738368) (hi:inU x.st q=true) (hf:fre x.st q=false) (hc:COk x.c)
 (hp:p<64∧f=true∧ownC (x.c p) q=true∧(∀k,k<p→ownC (x.c k) q=false)∨p=0∧f=false∧∀k,k<64→ownC (x.c k) q=false) {r1 r2:Int} (hr:(r1,r2)=if f=true then ((2:Int),(p:Int)) else (3,x.V q)):
 Does N a w 27 #[pt a.hb, .int .u64 (q:Nat)] (.tuple #[.int .i64 r1, .int .i64 r2]) x x:=by
 intro W l hs
 have OP:=hide (open_any hs)
 have c1:=(Sep.hb hs).c1
 have CT:=hide (does_tstate (q:=q) (by omega) W l hs)
 have CC:=hide (cacheOf_any (N:=N) (a:=a) (w:=w) (by omega) (fun k hk=>⟨(hc k hk).1,(hc k hk).2.1⟩) hp)
 have CA:=hide (does_at (N:=N) (a:=a) (w:=w) (x:=x) (b:=q * 8192) (by omega))
 rw[show q * 8192/8192=q by omega] at CA
 have w1:IntKind.u64.wrap ((q:Int) * 8192)=((q * 8192:Nat):Int):=by rw[IntKind.wrap_u64];omega
 rw[hi,hf] at CT
 obtain ⟨Q,hQ⟩:∃Q:Int,((q * 8192:Nat):Int)=Q:=⟨_,rfl⟩
 obtain ⟨v,hv⟩:∃v,x.V q=v:=⟨_,rfl⟩
 rw[hQ] at w1
 rw[hQ,hv] at CA
 rw[hv] at hr
 unfold pt at *
 clear hs hi hf hc hp hQ hv
 go_enter Tryz.func27,Tryz.ntmps27
 go_wp2_with fail
 refine OP.out.mono ?_
 rintro e W1 ⟨rfl,hw⟩
 rw[hw]
 clear hw W1 OP
 go_wp2_with fail
 refine CT.out.mono ?_
 rintro e W1 ⟨rfl,s1⟩
 have C2:=hide (CC.out W1 l s1)
 clear s1 CT CC c1
 go_wp2_with fail
 refine C2.out.mono ?_
 rintro e W2 ⟨rfl,s2⟩
 have k2:=(Sep.hb s2).c2
 have C3:=hide (CA.out W2 l s2)
 have S2:=hide s2
 unfold pt at k2
 clear s2 C2 CA
 cases f
 ·obtain ⟨rfl,rfl⟩:r1=3∧r2=v:=by simpa using hr
  clear hr
  go_wp2_with fail
  refine C3.out.mono ?_
  rintro e W3 ⟨rfl,s3⟩
  have S3:=hide s3
  clear s3 C3
  go_wp2_with fail
  refine bodyPost_ret (results_tmp2 Tryz.results27 _ _ _) rfl ?_
  exact ⟨rfl,S3.out⟩
 ·obtain ⟨rfl,rfl⟩:r1=2∧r2=(p:Int):=by simpa using hr
  clear hr C3
  go_wp2_with fail
  refine bodyPost_ret (results_tmp2 Tryz.results27 _ _ _) rfl ?_
  exact ⟨rfl,S2.out⟩
def relS (c:CC):Nat→Nat
 |0=>0
 |k+1=>relS c k+pc (tG (c k))
theorem pc64 {H:Nat} (h:H<18446744073709551616):pc H≤64:=by rw[pc_cnt 64 _ h];exact cnt_le _ _ _
theorem relS_le {c:CC} (hc:COk c):∀k,k≤64→relS c k≤64 * k
 |0,_=>Nat.le_refl _
 |k+1,h=>by
  have h1:=relS_le hc k (by omega)
  have h2:tG (c k)<18446744073709551616:=by unfold tG;split;omega;exact (hc k (by omega)).2.2
  have:=pc64 h2
  show relS c k+pc (tG (c k))≤_
  omega
set_option maxRecDepth 100000 in
theorem relIn_any (hc:COk x.c):Does N a w 77 #[pt a.hb] (.int .u64 (relS x.c 64:Nat)) x x:=by
 intro W l hs
 have ld:=cs_load hs
 obtain ⟨CS,hCS⟩:∃CS,(cvl a.cb).toArray=CS:=⟨_,rfl⟩
 have ix:∀k,k<64→CS[k]? =some (pt (a.cb k)):=fun k hk=>by rw[←hCS];exact cvl_at hk
 rw[hCS] at ld
 have IX:=hide ix
 have S:=hide hs
 have HC:=hide hc
 unfold pt
 clear hs hCS ix hc
 go_enter Tryz.func77,Tryz.ntmps77
 go_upto_region 2 with fail
 refine wp_region_lit ?_
 refine Go.Great.wpList_runTo rfl (some 9) rfl (.pointer (some ⟨a.hb,0,none⟩)) W rfl ?_
 refine Go.Great.wpList_runTo rfl (some 10) rfl (.pointer (some ⟨a.hb,0,none⟩)) W rfl ?_
 refine Go.Great.wpList_runTo rfl (some 11) rfl (.pointer (some ⟨a.hb,4,none⟩)) W (by simp[go_sem]) ?_
 refine Go.Great.wpList_runTo rfl (some 12) rfl (.agg CS) W (load_arr W a.hb _ _ ld _ (.tmp 11) rfl _ rfl) ?_
 go_wp2_with fail
 go_loopw [3,13] (fun sv iv wr=>∃k:Nat,iv= .int .i64 (k:Int)∧sv= .int .i64 ((relS x.c k:Nat):Int)∧k≤64∧Hid (Sep N w wr (HL N a x l))) (fun sv iv _=>64 -(intOf iv).toNat)
 case atStart=>exact ⟨0,rfl,rfl,Nat.zero_le _,S⟩
 case round=>
  clear S ld
  obtain ⟨k,rfl,rfl,hk,HS⟩:=hrel
  have le:=relS_le HC.out k hk
  obtain ⟨R,hR⟩:∃R,relS x.c k=R:=⟨_,rfl⟩
  rw[hR] at le ⊢
  by_cases hlt:k<64
  ·have d1:decide (k<64)=true:=decide_eq_true hlt
   have i1:(k:Int)<64:=by omega
   have i2:(0:Int)≤(k:Int):=by omega
   have ix:=fun w=>idx64 w CS k hlt _ (IX.out k hlt)
   have CT:=hide (does_ctell (a:=a) (w:=w) (N:=N) hlt (rfl:x.c k=((x.c k).1,(x.c k).2.1,(x.c k).2.2)) wr l HS.out)
   rw[tell_eq] at CT
   have gt:tG (x.c k)<18446744073709551616:=by unfold tG;split;omega;exact (HC.out k hlt).2.2
   have pg:=pc64 gt
   have hs1:relS x.c (k+1)=R+pc (tG (x.c k)):=by show relS x.c k+_=_;rw[hR]
   have HS1:=hide hs1
   obtain ⟨T,hT⟩:∃T,tB (x.c k)=T:=⟨_,rfl⟩
   obtain ⟨H,hH⟩:∃H,(x.c k).2.1=H:=⟨_,rfl⟩
   obtain ⟨G,hG⟩:∃G,tG (x.c k)=G:=⟨_,rfl⟩
   rw[hG] at gt pg HS1
   rw[hT,hH,hG] at CT
   have CO:=hide (fun w=>ones_any G gt w)
   unfold pt at ix CT
   clear hT hH hG hs1 hR
   go_wp2_with fail
   refine CT.out.mono ?_
   rintro e W1 ⟨rfl,s1⟩
   have S1:=hide s1
   clear s1 HS CT
   go_wp2_with fail
   refine (CO.out _).mono ?_
   rintro e W2 ⟨rfl,hw⟩
   rw[hw]
   clear hw W2 CO
   go_wp2_with fail
   go_roundw
   case rel=>exact ⟨k+1,by go_num,by rw[HS1.out];go_num,by omega,S1⟩
   case measure=>simp[intOf];omega
  ·obtain rfl:k=64:=by omega
   rw[←hR] at le ⊢
   have w9:IntKind.u64.wrap ((relS x.c 64:Nat):Int)=((relS x.c 64:Nat):Int):=by rw[IntKind.wrap_u64];omega
   clear hlt HC hR le
   go_wp2_with fail
   go_ret
   exact ⟨rfl,HS.out⟩
set_option maxRecDepth 100000 in
def goneV (x:HS):Nat:=rlT x.st+relS x.c 64
theorem told_any (hc:COk x.c) (hg:goneV x<18446744073709551616):Does N a w 25 #[pt a.hb] (.tuple #[.int .u64 (x.gr:Nat), .int .u64 (x.he:Nat), .int .u64 (goneV x:Nat)]) x x:=by
 intro W l hs
 have OP:=hide (open_any hs)
 have sd:=hs.read (drew_below W)
 have CR:=hide (does_treleased W.drew l sd)
 have CI:=hide (relIn_any (N:=N) (a:=a) (w:=w) hc)
 have CC:=hide (show ∀W',Sep N w W' (HL N a x l)→W'.cell? ⟨a.hb,1,none⟩=some (pt a.tb)∧W'.cell? ⟨a.hb,70,none⟩=some (.int .u64 (x.gr:Nat))∧W'.cell? ⟨a.hb,71,none⟩=some (.int .u64 (x.he:Nat)) from fun W' s=>⟨(Sep.hb s).c1,(Sep.hb s).c6,(Sep.hb s).c7⟩)
 obtain ⟨a1,a2,a3⟩:=CC.out W.drew sd
 have w1:IntKind.u64.wrap (((rlT x.st:Nat):Int)+((relS x.c 64:Nat):Int))=((goneV x:Nat):Int):=by rw[IntKind.wrap_u64];unfold goneV at *;omega
 obtain ⟨g1,hg1⟩:∃g1,rlT x.st=g1:=⟨_,rfl⟩
 obtain ⟨g2,hg2⟩:∃g2,relS x.c 64=g2:=⟨_,rfl⟩
 obtain ⟨g3,hg3⟩:∃g3,goneV x=g3:=⟨_,rfl⟩
 rw[hg1,hg2,hg3] at w1
 rw[hg1] at CR
 rw[hg2] at CI
 rw[hg3]
 unfold pt at *
 clear hs sd hc hg hg1 hg2 hg3
 go_enter Tryz.func25,Tryz.ntmps25
 go_wp2_with fail
 refine OP.out.mono ?_
 rintro e W1 ⟨rfl,hw⟩
 rw[hw]
 clear hw W1 OP
 go_wp2_with fail
 go_region_held3 (fun w':World=>w'.cell? ⟨a.hb,1,none⟩=some (.pointer (some ⟨a.tb,0,none⟩))∧w'.cell? ⟨a.hb,70,none⟩=some (.int .u64 (x.gr:Nat))∧w'.cell? ⟨a.hb,71,none⟩=some (.int .u64 (x.he:Nat))) (first|(go_keep;done)) (first
  |(go_at_call 76;refine CR.out.mono ?_;rintro e W2 ⟨rfl,s2⟩;obtain ⟨b1,b2,b3⟩:=CC.out W2 s2;have C2:=hide (CI.out W2 l s2);clear s2 CR CI a1 a2 a3)
  |(go_at_call 77;refine C2.out.mono ?_;rintro e W3 ⟨rfl,s3⟩;obtain ⟨d1,d2,d3⟩:=CC.out W3 s3;have S3:=hide s3;clear s3 C2 b1 b2 b3))
 go_wp2_with fail
 refine bodyPost_ret (results_tmp3 Tryz.results25 _ _ _) rfl ?_
 exact ⟨rfl,S3.out⟩
end
end Go.Proofs.YtdgdhnnakcncoaaGreatDoor
namespace Go.Proofs.YtdgdhnnakcncoaaGreatDoor
set_option maxHeartbeats 1600000
open Go.ChangeShapes Go.WideShapes Go.ChangeAt Go.RowKit Go.Proofs.Bt Go.Shelf Go.Proofs.Rx Go.Maps Go.Proofs.Pk
set_option linter.unusedVariables false
set_option linter.unusedSimpArgs false
set_option maxRecDepth 100000 in
theorem rowOf_any {W:World} {sb b p:Nat} {v2 v3 v5 v6 v7:Int} {v4 v8 v9:Bool} (hp:p<9223372036854775808) (hb:b<18446744073709551616)
 (ci:Calls Tryz.prog 22 #[.pointer (some ⟨sb,0,none⟩)] W fun e W'=>e= .returned (.agg #[.int .u64 (b:Nat), .int .i64 (p:Nat),(.int .i64 v2),(.int .i64 v3),(.bool v4),(.int .i64 v5),(.int .i64 v6),(.int .i64 v7),(.bool v8),(.bool v9)])∧Below W.heap.size W W'):
 Calls Tryz.prog 86 #[.pointer (some ⟨sb,0,none⟩)] W fun e W'=>e= .returned (.tuple #[.int .u64 ((b/8192:Nat):Int), .int .u64 (p:Nat)])∧Below W.heap.size W W':=by
 have CI:=hide ci
 have w1:IntKind.u64.wrap ((p:Nat):Int)=(p:Int):=by rw[IntKind.wrap_u64];omega
 obtain ⟨B,hB⟩:∃B:Int,((b/8192:Nat):Int)=B:=⟨_,rfl⟩
 have eB:(b:Int)/8192=B:=by omega
 have wB:IntKind.u64.wrap B=B:=by rw[IntKind.wrap_u64];omega
 rw[hB]
 clear ci hB
 go_enter Tryz.func86,Tryz.ntmps86
 go_wp2_with fail
 refine CI.out.mono ?_
 rintro e W1 ⟨rfl,b1⟩
 obtain ⟨Q,hQ⟩:∃Q,W1.heap.size=Q:=⟨_,rfl⟩
 obtain ⟨W2,hW2⟩:∃W2,W1.alloc (.cells #[.int .u64 (b:Nat), .int .i64 (p:Nat), .int .i64 v2, .int .i64 v3, .bool v4, .int .i64 v5, .int .i64 v6, .int .i64 v7, .bool v8, .bool v9] 52)=W2:=⟨_,rfl⟩
 have bk:Bk W2 Q 52 #[.int .u64 (b:Nat), .int .i64 (p:Nat), .int .i64 v2, .int .i64 v3, .bool v4, .int .i64 v5, .int .i64 v6, .int .i64 v7, .bool v8, .bool v9]:=by rw[←hW2,←hQ];exact World.alloc_heap_new _ _
 have c0:W2.drew.cell? ⟨Q,0,none⟩=some (.int .u64 (b:Nat)):=(bk.below (drew_below W2)).cell 0 _ rfl
 have c1:W2.drew.cell? ⟨Q,1,none⟩=some (.int .i64 (p:Nat)):=(bk.below (drew_below W2)).cell 1 _ rfl
 have B1:=hide (show Below W.heap.size W W2.drew from (b1.trans (by rw[←hW2];exact (Below.refl _ _).alloc b1.size _)).drew)
 clear b1 CI bk
 go_wp2_with fail
 refine still_all (by kernel_rfl) (by kernel_rfl) ?_
 repeat still_step
 refine wpStill_nil ?_
 go_wp2_with fail
 refine bodyPost_ret (results_tmp2 Tryz.results86 _ _ _) rfl ?_
 exact ⟨rfl,B1.out⟩
def tSpn (N sb:Nat) (G:Go.Proofs.YtdgdhnnakcncoaaGreatDoor.N.Geo) (S:Go.Proofs.YtdgdhnnakcncoaaGreatDoor.N.St):Thing N where
 P W F:=Go.Proofs.YtdgdhnnakcncoaaGreatDoor.N.Sp N W sb F G S
 kept:=fun h k d _=>h.kept k d
 lt:=fun h z hz=>h.lt hz
theorem Sep.step_last {N:Nat} {w W:World} {l:List (Thing N)} {t:Thing N} (h:Sep N w W (l++ [t])) (t':Thing N) {f:FuncId} {args:Array Value} {R:Ending→World→Prop}
 (c:∀F,t.P W F→Calls Tryz.prog f args W fun e W'=>R e W'∧∃F',t'.P W' F'∧To W W' F F'):Calls Tryz.prog f args W fun e W'=>R e W'∧Sep N w W' (l++ [t']):=by
 have:=h.step l.length (by simp) t' (f:=f) (args:=args) (R:=R) (fun F p=>c F (by simpa using p))
 refine this.mono fun e W' ⟨h1,h2⟩=>⟨h1,by simpa using h2⟩
def delM (M:SpM) (id:Int):SpM:=fun q=>if q=id then none else M q
def delQ (Q:Int→Option Nat) (id:Int):Int→Option Nat:=fun q=>if q=id then none else Q q
section
variable {N:Nat} {a:HA} {x:HS} {w W:World} {l:List (Thing N)}
theorem sp_split {id:Int} {sb:Nat} {g:Sg} (hs:Sep N w W (HL N a x l)) (hM:x.M id=some (sb,g)):Sep N w W (HL N a {x with M:=delM x.M id} l++ [tBk N sb 144 (sgV g)]):=
 hs.split 1 (by rw[HL.len];omega) (tSp N a.mp x.n x.Q (delM x.M id)) (tBk N sb 144 (sgV g)) fun F p=>by
  obtain ⟨⟨p1,p2,p3,p4⟩,p5⟩:(tSp N a.mp x.n x.Q x.M).P W F:=p
  have sub:∀i b g',delM x.M id i=some (b,g')→i≠id∧x.M i=some (b,g'):=fun i b g' e=>by
   unfold delM at e
   by_cases c:i=id
   ·rw[if_pos c] at e;cases e
   ·rw[if_neg c] at e;exact ⟨c,e⟩
  have k:=p3 id sb g hM
  refine ⟨fun z=>F z∧z≠sb,fun z=>z=sb,⟨⟨p1,p2,fun i b g' e=>p3 i b g' (sub i b g' e).2,fun i j b g1 g2 e1 e2=>p4 i j b g1 g2 (sub i b g1 e1).2 (sub j b g2 e2).2⟩,fun z=>⟨fun hz=> ?_,fun hz=> ?_⟩⟩,⟨k.1,k.2.1,fun z=>Iff.rfl⟩,fun z hz=>hz.1,fun z hz=>(p5 z).2 (.inr ⟨id,g,by rw[hz];exact hM⟩),fun z hz e=>hz.2 e⟩
  ·rcases (p5 z).1 hz.1 with e|⟨i,g',e⟩
   ·exact .inl e
   ·refine .inr ⟨i,g',?_⟩
    unfold delM
    rw[if_neg (fun c=>by rw[c,hM] at e;cases e;exact hz.2 rfl)];exact e
  ·rcases hz with rfl|⟨i,g',e⟩
   ·exact ⟨(p5 _).2 (.inl rfl),fun e=>k.2.2 e.symm⟩
   ·obtain ⟨c,e⟩:=sub i z g' e
    exact ⟨(p5 z).2 (.inr ⟨i,g',e⟩),fun u=>c (p4 i id z g' g e (by rw[u];exact hM))⟩
theorem sp_del {id:Int} (hs:Sep N w W (HL N a x l)) (hid:okI id):
 ∃W',(Builtin.delete_ #[118,3] 0 #[.map (some a.mp), .int .i64 id]).run Tryz.prog W= .ok (.tuple #[]) W'∧Sep N w W' (HL N a {x with Q:=delQ x.Q id} l):=by
 obtain ⟨F,p⟩:=hs.have 1 (by rw[HL.len];omega)
 obtain ⟨⟨m,-⟩,-⟩:(tSp N a.mp x.n x.Q x.M).P W F:=p
 obtain ⟨W',run,m',gr⟩:=m.del 0 hid
 have k:Kept (fun z=>z=a.mp) W W':=Kept.of_grown gr (fun k e=>by cases e;rfl)
 refine ⟨W',run,hs.turn 1 (by rw[HL.len];omega) (tSp N a.mp x.n (delQ x.Q id) x.M) fun F p=> ?_⟩
 obtain ⟨⟨p1,p2,p3,p4⟩,p5⟩:(tSp N a.mp x.n x.Q x.M).P W F:=p
 exact ⟨F,⟨⟨m',p2,fun i b g' e=>⟨(p3 i b g' e).1.kept k (p3 i b g' e).2.2,(p3 i b g' e).2⟩,p4⟩,p5⟩,k.mono (fun z hz=>by rw[hz];exact (p5 _).2 (.inl rfl)),fun z hz=> .inl hz⟩
theorem free_none {id:Int} (hid:okI id) (hQ:x.Q id=none):Does N a w 30 #[pt a.hb, .int .i64 id] (.int .i64 35) x x:=by
 intro W l hs
 have CS:=hide (span_no (N:=N) (a:=a) (w:=w) hid hQ W l hs)
 unfold pt at *
 clear hs
 go_enter Tryz.func30,Tryz.ntmps30
 go_wp2_with fail
 refine CS.out.mono ?_
 rintro e W1 ⟨rfl,s1⟩
 have S1:=hide s1
 clear s1 CS
 go_wp2_with fail
 go_ret
 exact ⟨rfl,S1.out⟩
def freed (x:HS) (id:Int) (g:Sg):HS:={x with M:=delM x.M id,Q:=delQ x.Q id,V:=A.putI x.V g.page (g.page+g.pages) 0,st:=setSt x.st g.page (g.page+g.pages) 2,he:=x.he - g.pages,L:=F.giveL x.L id,B:=F.giveB x.L x.B id}
set_option maxRecDepth 100000 in
theorem free_ok {id:Int} {sb:Nat} {g:Sg} (hid:okI id) (hQ:x.Q id=some sb) (hM:x.M id=some (sb,g)) (gok:Go.Proofs.YtdgdhnnakcncoaaGreatDoor.N.GOk (Go.Proofs.YtdgdhnnakcncoaaGreatDoor.N.geo g.page g.pages g.cls g.noptr g.elem)) (hp:g.page+g.pages≤34359738368) (hn:1≤g.pages)
 (hA:A.AllIn x.C g.page g.pages) (hI:InT x.st g.page g.pages) (hf:(tl x.st g.page g.pages).f=0) (hL:x.L.length≤100000) (hhe:g.pages≤x.he) (hhe2:x.he<18446744073709551616):
 Does N a w 30 #[pt a.hb, .int .i64 id] (.int .i64 0) x (freed x id g):=by
 intro W l hs
 have CS:=hide (span_ok (N:=N) (a:=a) (w:=w) hid hQ W l hs)
 obtain ⟨hb,hhb⟩:∃hb,a.hb=hb:=⟨_,rfl⟩
 have hh:=hide hhb
 unfold pt at *
 rw[hhb] at CS ⊢
 clear hs hQ
 go_enter Tryz.func30,Tryz.ntmps30
 go_wp2_with fail
 refine CS.out.mono ?_
 rintro e W1 ⟨rfl,s1⟩
 have s2:=(sp_split s1 hM).turn_last (tSpn N sb (Go.Proofs.YtdgdhnnakcncoaaGreatDoor.N.geo g.page g.pages g.cls g.noptr g.elem) (Go.Proofs.YtdgdhnnakcncoaaGreatDoor.N.St.new 1)) (fun F p=>⟨F,by
  obtain ⟨q1,q2,q3⟩:(tBk N sb 144 (sgV g)).P W1 F:=p
  have hF:F=fun z=>z=sb:=by funext z;exact propext (q3 z)
  rw[hF];exact Go.Proofs.YtdgdhnnakcncoaaGreatDoor.N.Sp.made q1 q2 gok,To.of_below F (Below.refl _ _)⟩)
 have CD:=hide (s2.step_last (tSpn N sb _ (Go.Proofs.YtdgdhnnakcncoaaGreatDoor.N.St.new 1).die) fun F p=>Go.Proofs.YtdgdhnnakcncoaaGreatDoor.N.sp_die p (by decide) (Go.Proofs.Bt.cnt_none (fun _ _=>rfl)))
 clear s1 s2 CS
 unfold pt at *
 go_wp2_with fail
 refine CD.out.mono ?_
 rintro e W2 ⟨rfl,s3⟩
 obtain ⟨F,sp⟩:=s3.last
 have sp':Go.Proofs.YtdgdhnnakcncoaaGreatDoor.N.Sp N W2 sb F (Go.Proofs.YtdgdhnnakcncoaaGreatDoor.N.geo g.page g.pages g.cls g.noptr g.elem) (Go.Proofs.YtdgdhnnakcncoaaGreatDoor.N.St.new 1).die:=sp
 have ci:=Go.Proofs.YtdgdhnnakcncoaaGreatDoor.N.sp_info sp'
 have hpg:g.pages<9223372036854775808:=by omega
 have CR:=hide (rowOf_any (sb:=sb) (b:=g.page * 8192) (p:=g.pages) hpg (by omega) ci)
 rw[Nat.mul_div_cancel _ (by omega:0<8192)] at CR
 have S3:=hide s3
 clear s3 CD sp sp' ci
 go_wp2_with fail
 refine CR.out.mono ?_
 rintro e W3 ⟨rfl,b3⟩
 have s4:=S3.out.read b3
 have k2:=(Sep.hb (l:=l++_) s4).c2
 have CA:=hide (does_set (N:=N) (a:=a) (w:=w) (x:={x with M:=delM x.M id}) (p:=g.page) (n:=g.pages) (id:=0) (by omega) (by omega) hA W3 (l++_) s4)
 unfold pt at *
 rw[hh.out] at k2
 clear b3 S3 CR s4
 go_wp2_with fail
 refine CA.out.mono ?_
 rintro e W4 ⟨rfl,s5⟩
 have k1:=(Sep.hb (l:=l++_) s5).c1
 have CG:=hide (does_tgive (N:=N) (a:=a) (w:=w) (x:={x with M:=delM x.M id,V:=A.putI x.V g.page (g.page+g.pages) 0}) hI hf W4 (l++_) s5)
 unfold pt at *
 rw[hh.out] at k1
 clear k2 CA s5
 go_wp2_with fail
 refine CG.out.mono ?_
 rintro e W5 ⟨rfl,s6⟩
 have k7:=(Sep.hb (l:=l++_) s6).c7
 have z7:=(Sep.hb (l:=l++_) s6).fz 71
 have s7:=Sep.set_he (l:=l++_) s6 (x.he - g.pages)
 have k3:=(Sep.hb (l:=l++_) s7).c3
 have CV:=hide (does_give (N:=N) (a:=a) (w:=w) (x:={x with M:=delM x.M id,V:=A.putI x.V g.page (g.page+g.pages) 0,st:=setSt x.st g.page (g.page+g.pages) 2,he:=x.he - g.pages}) (i:=id) hL hid.1 _ (l++_) s7)
 obtain ⟨Z,hZ⟩:∃Z:Int,((x.he - g.pages:Nat):Int)=Z:=⟨_,rfl⟩
 have w7:IntKind.u64.wrap ((x.he:Int) -(g.pages:Int))=Z:=by rw[IntKind.wrap_u64,←hZ];omega
 rw[hZ] at k3 CV
 unfold pt at *
 rw[hh.out] at k7 z7 k3 CV
 clear k1 CG s6 s7 hZ
 go_wp2_with fail
 refine CV.out.mono ?_
 rintro e W6 ⟨rfl,s8⟩
 have k4:=(Sep.hb (l:=l++_) s8).c4
 obtain ⟨W7,run,s9⟩:=sp_del (l:=l++_) s8 hid
 have S9:=hide (Sep.drop (l:=HL N a (freed x id g) l) s9 (fun F p=>Kept.refl _ _))
 rw[hh.out] at k4
 clear s8 s9 CV k3 k7 z7
 go_wp2_with fail
 go_ret
 exact ⟨rfl,S9.out⟩
end
end Go.Proofs.YtdgdhnnakcncoaaGreatDoor
namespace Go.Proofs.YtdgdhnnakcncoaaGreatDoor
set_option maxHeartbeats 1600000
open Go.ChangeShapes Go.WideShapes Go.ChangeAt Go.RowKit Go.Proofs.Bt Go.Shelf Go.Proofs.Rx Go.Maps Go.Proofs.Pk
set_option linter.unusedVariables false
set_option linter.unusedSimpArgs false
def inO (q:Nat):Prop:=512≤q∧q<1024
structure One (x:HS) (k:Nat):Prop where
 sS:∀q,x.S.st q≠0↔inO q
 ref:x.S.refuse= []
 st:∀q,x.st q≠0↔inO q
 C:x.C 1=true
 K:x.K≤1000 * k
 L:x.L.length≤k
 n:x.n≤k
 he:x.he≤512 * k
theorem one_commit {x:HS} {k pg n:Nat} (o:One x k) (h1:512≤pg) (h2:pg+n≤1024) (h3:1≤n):(Go.Proofs.Sp.commitS x.S pg n).1=0∧(Go.Proofs.Sp.commitS x.S pg n).2.refuse= []∧∀q,(Go.Proofs.Sp.commitS x.S pg n).2.st q≠0↔inO q:=by
 have rt:Go.Proofs.Sp.right pg n:=⟨h3,by omega⟩
 have nz:∀i,i<n→x.S.st (pg+ i)≠0:=fun i hi=>(o.sS _).2 ⟨by omega,by omega⟩
 unfold Go.Proofs.Sp.commitS
 rw[if_neg (Classical.not_not.2 rt),if_neg (Classical.not_not.2 nz)]
 by_cases c:∀i,i<n→x.S.st (pg+ i)=2
 ·rw[if_pos c];exact ⟨rfl,o.ref,o.sS⟩
 ·rw[if_neg c,o.ref]
  refine ⟨rfl,(Go.Proofs.Sp.readyN_keeps _ pg n).2.2.trans (by show x.S.refuse.tail= [];rw[o.ref];rfl),fun q=> ?_⟩
  show (Go.Proofs.Sp.readyN (Go.Proofs.Sp.takeRefuse x.S) pg n).st q≠0↔_
  rw[Go.Proofs.Sp.readyN_st]
  by_cases d:pg≤q∧q<pg+n
  ·rw[if_pos d];exact ⟨fun _=>⟨by omega,by omega⟩,fun _=>by decide⟩
  ·rw[if_neg d];exact o.sS q
def After (x:HS) (id:Int) (pg n cls el:Nat) (np:Bool) (sb:Nat):HS:=
 {x with S:=(Go.Proofs.Sp.commitS x.S pg n).2,K:=x.K+V.cost 0 n,L:=F.takeL x.L x.B,B:=x.B.tail,Q:=putQ x.Q id sb,M:=putM x.M id sb ⟨pg,n,cls,el,np⟩,n:=x.n+1,he:=x.he+n,V:=A.putI x.V pg (pg+n) id}
theorem After.one {x:HS} {k pg n cls el sb:Nat} {id:Int} {np:Bool} (o:One x k) (h1:512≤pg) (h2:pg+n≤1024) (h3:1≤n):One (After x id pg n cls el np sb) (k+1):=by
 obtain ⟨c1,c2,c3⟩:=one_commit o h1 h2 h3
 have hK:=o.K;have hn:=o.n;have hL:=o.L;have hh:=o.he
 refine ⟨c3,c2,o.st,o.C,?_,?_,?_,?_⟩
 ·show x.K+V.cost 0 n≤_
  unfold V.cost;rw[if_pos rfl];omega
 ·have:=F.takeL_len x.L x.B
  show (F.takeL x.L x.B).length≤_
  omega
 ·show x.n+1≤_;omega
 ·show x.he+n≤_;omega
theorem one_all {x:HS} {k pg n:Nat} (o:One x k) (h1:512≤pg) (h2:pg+n≤1024):A.AllIn x.C pg n:=
 ⟨by omega,by omega,fun q q1 q2=>by rw[show q/512=1 by omega];exact o.C⟩
theorem one_alloc {N:Nat} {a:HA} {w:World} {x x1:HS} {p id:Int} {k n pg r cls el:Nat} {np:Bool} (o:One x1 k) (hk:k≤10000) (h1:512≤pg) (h2:pg+n≤1024) (h3:1≤n) (he:Go.Proofs.YtdgdhnnakcncoaaGreatDoor.N.elemOf n (cls:Nat)=some el)
 (cF:Does N a w 180 #[pt a.hb, .int .i64 p, .int .u64 (n:Nat)] (.tuple #[rowV pg n r, .int .i64 0]) x x1) (hi:F.takeI x1.L x1.B=id) (hid:okI id) (hi0:0≤id) (hM:x1.M id=none):
 Alc N a w 20 #[pt a.hb, .int .i64 p, .int .u64 (n:Nat), .int .i64 (cls:Nat), .bool np] (.tuple #[.int .i64 id, .int .i64 0]) x (After x1 id pg n cls el np):=by
 obtain ⟨c1,c2,c3⟩:=one_commit o h1 h2 h3
 have hK:=o.K;have hn:=o.n;have hL:=o.L;have hh:=o.he
 have cC:=does_commit (N:=N) (a:=a) (w:=w) (x:=x1) (p:=pg) (n:=n) (by omega) (by omega) (by unfold V.lim;omega)
 rw[c1] at cC
 have cg:=get_ok cF cC
 have ct:=does_take (N:=N) (a:=a) (w:=w) (x:={x1 with S:=(Go.Proofs.Sp.commitS x1.S pg n).2,K:=x1.K+V.cost 0 n}) (by show x1.L.length<100000;omega)
 have ao:=one_all o h1 h2
 refine alloc_ok (x2:={x1 with S:=(Go.Proofs.Sp.commitS x1.S pg n).2,K:=x1.K+V.cost 0 n,L:=F.takeL x1.L x1.B,B:=x1.B.tail}) ?_ ?_ he cg (hi▸ct) hM (by show x1.n<_;omega) hid (by show x1.he+n<_;omega) (fun Q M k he=>does_set (by omega) hi0 ao)
 ·unfold Go.Proofs.YtdgdhnnakcncoaaGreatDoor.N.rpB;exact decide_eq_true ⟨by omega,by omega⟩
 ·unfold Go.Proofs.YtdgdhnnakcncoaaGreatDoor.N.rpB;exact decide_eq_true ⟨by omega,by omega⟩
def x0 (fi:List Nat):HS:=HS.new (Go.Proofs.Sp.Sp.new [] [] fi) 0
def xg (S:Go.Proofs.Sp.Sp) (n:Nat):HS:={HS.new S 513 with st:=setSt (setSt (fun _=>0) 512 1024 3) 512 (512+n) 1,C:=fun q=>if q=1 then true else false,bh:=1024,gr:=512}
theorem no_run {n:Nat} (h:1≤n):∀p,¬Run (fun _=>0) p n:=fun p r=>by
 exact absurd (r p (Nat.le_refl _) (by omega)) (by show ¬2≤0;decide)
theorem from_tree {N:Nat} {a:HA} {w:World} {x:HS} {n p:Nat} (hn:n<18446744073709551616) (h1:1≤n) (hf:First x.st n p):
 Does N a w 232 #[pt a.hb, .int .u64 (n:Nat)] (.tuple #[rowV p n (tl x.st p n).r, .bool true]) x {x with st:=setSt x.st p (p+n) 1}:=
 fun W l hs=>fromTree_any hs (e:=0) rfl (does_talloc hn h1 hf)
theorem from_tree_no {N:Nat} {a:HA} {w:World} {x:HS} {n:Nat} (hn:n<18446744073709551616) (h1:1≤n) (hf:∀p,¬Run x.st p n):
 Does N a w 232 #[pt a.hb, .int .u64 (n:Nat)] (.tuple #[rowV 0 n 0, .bool false]) x x:=
 fun W l hs=>fromTree_any hs (p:=0) (r:=0) (e:=30) rfl (does_talloc_no hn h1 hf)
theorem cache_none {N:Nat} {a:HA} {w:World} {x:HS} {p:Int} {n:Nat} (h1:1≤n) (hr:∀q,¬Run x.st q 1) (hc:∀k,x.c k=(0,0,0)):
 ∃g m r,Does N a w 231 #[pt a.hb, .int .i64 p, .int .u64 (n:Nat)] (.tuple #[rowV g m r, .bool false]) x x:=by
 by_cases c:(0≤p∧p<64)∧n<16
 ·obtain ⟨⟨c1,c2⟩,c3⟩:=c
  obtain ⟨k,rfl⟩:∃k:Nat,p=(k:Int):=⟨p.toNat,by omega⟩
  have hk:k<64:=by omega
  have cE:=does_cempty (N:=N) (a:=a) (w:=w) (x:=x) hk
  rw[hc k] at cE
  refine ⟨0,n,0,fromCache_got (x1:=x) (emp:=true) (v:=30) (e:=30) hk c3 (by omega) rfl cE (fun _=>does_cfill_full hk (hc k) hr) (fun _=>rfl) (does_calloc_no hk (hc k) (by omega) h1 (by omega) (fun q r=> ?_))⟩
  have:=r 0 (by omega)
  simp at this
 ·exact ⟨0,0,0,fromCache_not p n (by omega)⟩
def X0 (x:HS) (S:Go.Proofs.Sp.Sp):Nat→HS
 |0=>{x with S:=S,K:=513}
 |1=>{x with S:=S,K:=513,st:=setSt x.st 512 1024 3}
 |_=>{x with S:=S,K:=513,st:=setSt x.st 512 1024 3,C:=fun q=>if q=1 then true else x.C q}
theorem first_find {N:Nat} {a:HA} {w:World} {p:Int} {n:Nat} {fi:List Nat} (h1:1≤n) (h2:n≤512):
 ∃S r,(∀q,S.st q≠0↔inO q)∧S.refuse= []∧S.fills=fi∧(∀q,inO q→S.st q=1)∧Does N a w 180 #[pt a.hb, .int .i64 p, .int .u64 (n:Nat)] (.tuple #[rowV 512 n r, .int .i64 0]) (x0 fi) (xg S n):=by
 obtain ⟨S,e,b⟩:=Go.Proofs.Sp.reserve_new [] fi rfl
 have z:∀k,(x0 fi).c k=(0,0,0):=fun k=>rfl
 obtain ⟨g,m,r,c1⟩:=cache_none (N:=N) (a:=a) (w:=w) (x:=x0 fi) (p:=p) h1 (no_run (Nat.le_refl _)) z
 have cR:=does_reserve (N:=N) (a:=a) (w:=w) (x:=x0 fi) (h:=0) (n:=512) (by omega) (by omega) (by show 0≤_;omega)
 have e':Go.Proofs.Sp.reserveS (x0 fi).S 0 512=(512,0,S):=e
 rw[e'] at cR
 have cc:(n+511)/512=1:=by omega
 have st0:(x0 fi).st=fun _=>0:=rfl
 have cG:=does_tgrow (N:=N) (a:=a) (w:=w) (x:=X0 (x0 fi) S 0) (c:=1) (n:=1) (by unfold GrowBad;omega) (by rw[show (X0 (x0 fi) S 0).st=fun _=>0 from rfl,tl_all (s:=0) (fun _ _ _=>rfl)];rfl)
 have cA:=does_add (N:=N) (a:=a) (w:=w) (x:=X0 (x0 fi) S 1) (c:=1) (by omega) rfl
 have xs:∀i,(X0 (x0 fi) S i).bh=(x0 fi).bh∧(X0 (x0 fi) S i).gr=0:=fun i=>by
  cases i with
  |zero=>exact ⟨rfl,rfl⟩
  |succ i=>cases i<;>exact ⟨rfl,rfl⟩
 have g3:=grow_ok (N:=N) (a:=a) (w:=w) (x:=x0 fi) (n:=n) (c:=1) (pg:=512) (X:=X0 (x0 fi) S) (g:=0) h1 (by omega) cc.symm (by omega) cR cG (fun i hi=>(show i=0 by omega)▸cA) xs (by omega)
 have ff:First (setSt (fun _=>0) 512 1024 3) n 512:=⟨fun q q1 q2=>by rw[setSt_in ⟨q1,by omega⟩];decide,fun q hq r=>by
  have:=r q (Nat.le_refl _) (by omega)
  rw[setSt_out (by omega)] at this
  exact absurd this (by decide)⟩
 have c4:=from_tree (N:=N) (a:=a) (w:=w) (x:={X0 (x0 fi) S 2 with bh:=512+1 * 512,gr:=0+1 * 512}) (n:=n) (p:=512) (by omega) h1 ff
 refine ⟨S,_,fun q=> ?_,b.refuse,b.fills,fun q hq=> ?_,find_3 c1 (from_tree_no (by omega) h1 (no_run h1)) g3 c4⟩
 ·rw[b.st]
  unfold Go.Proofs.Sp.stN inO
  rw[if_neg (c:=512≤q∧q<512+0) (by omega)]
  by_cases c:512≤q∧q<1024
  ·rw[if_pos c];exact ⟨fun _=>c,fun _=>by decide⟩
  ·rw[if_neg c];exact ⟨fun u=>absurd rfl u,fun u=>absurd u c⟩
 ·rw[b.st]
  unfold Go.Proofs.Sp.stN inO at *
  rw[if_neg (c:=512≤q∧q<512+0) (by omega),if_pos hq]
theorem xg_one {S:Go.Proofs.Sp.Sp} {n:Nat} (h1:1≤n) (h2:n≤512) (hS:∀q,S.st q≠0↔inO q) (hr:S.refuse= []):One (xg S n) 1:=by
 refine ⟨hS,hr,fun q=> ?_,rfl,by show 513≤_;omega,by show 0≤_;omega,by show 0≤_;omega,by show 0≤_;omega⟩
 show setSt (setSt (fun _=>0) 512 1024 3) 512 (512+n) 1 q≠0↔_
 unfold inO
 by_cases c:512≤q∧q<512+n
 ·rw[setSt_in c];exact ⟨fun _=>by omega,fun _=>by decide⟩
 ·rw[setSt_out c]
  by_cases d:512≤q∧q<1024
  ·rw[setSt_in d];exact ⟨fun _=>d,fun _=>by decide⟩
  ·rw[setSt_out d];exact ⟨fun u=>absurd rfl u,fun u=>absurd u d⟩
end Go.Proofs.YtdgdhnnakcncoaaGreatDoor
