/- Of the proof of HeapClasses: texts NCl, NNm, NPu, NRg. -/
import Derived.Test.YtdgdhnnakcncoaaGreatDoorJ02
import Derived.Test.YtdgdhnnakcncoaaGreatDoorJ01
import Derived.Test.YtdgdhnnakcncoaaGreatDoorJ03
import Derived.KernelRfl
import Derived.Test.YtdgdhnnakcncoaaGreatDoorRows
import Derived.Laws.MathBits
import Derived.WalkKit
import Derived.ProofKit
import Derived.OpenShut
import Derived.WalkLawsBesides
import Derived.Laws.Bits128
import Derived.Laws.BitsAllLaws
import Derived.Lib.BitFns
import Derived.Deep.QuietTactic
import Derived.BigQuiet
import Derived.Outline
import Derived.RangeFuncNested
import Derived.RangeFuncBound
import Derived.RangeFuncCalls
import Derived.RangeFuncLeaves
import Derived.Shelf.Abstract
import Derived.Shelf.RegionOpen
import Derived.OwnWalkIn
import Derived.TacticsInMore
import Derived.LoopNIn
import Derived.LoopIn
import Derived.Maps.AppendAt
namespace Go.Proofs.Cl
def powF:Nat→Nat→Bool
 |0,_=>false
 |f+1,n=>if 1<n∧n%2=0 then powF f (n/2) else n==1
def pow (n:Nat):Bool:=powF 64 n
def stepN (size step:Nat):Nat:=
 if pow size=false then step else if 2048≤size then 256 else if 128≤size then size/8 else if 32≤size then 16 else step
def cutF (page size:Nat):Nat→Nat→Nat
 |0,k=>k
 |f+1,k=>if k * page/8<k * page%size then cutF page size f (k+1) else k
def cutK (page size:Nat):Nat:=cutF page size size 1
structure Raw where
 size:Nat
 k:Nat
def Raw.slots (page:Nat) (c:Raw):Nat:=c.k * page/c.size
def alikeB (page:Nat) (c d:Raw):Bool:=c.k==d.k&&c.slots page==d.slots page
def rawOf (page size:Nat):Raw:=⟨size,cutK page size⟩
def rest (page most:Nat):Nat→Nat→Nat→Option Raw→List Raw
 |0,_,_,o=>o.toList
 |f+1,size,step,o=>
  if size≤most then
   match o with
   |none=>rest page most f (size+stepN size step) (stepN size step) (some (rawOf page size))
   |some c=>bif alikeB page c (rawOf page size) then rest page most f (size+stepN size step) (stepN size step) (some (rawOf page size))
    else c::rest page most f (size+stepN size step) (stepN size step) (some (rawOf page size))
  else o.toList
def raws (page most:Nat):List Raw:=rest page most (most/8+1) 8 8 none
structure Cls where
 size:Nat
 pages:Nat
 slots:Nat
 magic:Nat
def magicN (d:Nat):Nat:=if d<2 then 0 else 4294967295/d+1
def wideN (page:Nat) (c:Raw):Nat:=let r:=c.k * page/c.slots page;max c.size (r - r%128)
def wide (page:Nat) (c:Raw):Cls:=⟨wideN page c,c.k,c.slots page,magicN (wideN page c)⟩
def classes (page most:Nat):List Cls:=(raws page most).map (wide page)
def zeroC:Cls:=⟨0,0,0,0⟩
def make (page most:Nat):List Cls:=zeroC::classes page most
def table:List Cls:=classes 8192 32768
theorem step_lo {size step:Nat} (h:8≤step):8≤stepN size step:=by unfold stepN;(repeat' split)<;>omega
theorem step_hi {size step:Nat} (h:step≤256):stepN size step≤256:=by unfold stepN;(repeat' split)<;>omega
theorem cut_go {page size f k:Nat} (h:k * page/8<k * page%size):cutF page size (f+1) k=cutF page size f (k+1):=by rw[cutF,if_pos h]
theorem cut_stop {page size f k:Nat} (h:¬k * page/8<k * page%size):cutF page size f k=k:=by
 cases f with
 |zero=>rfl
 |succ f=>rw[cutF,if_neg h]
theorem cut_last {page size k:Nat} (hs:1≤size) (hk:k≤size) (h:k * page/8<k * page%size):k<size:=by
 rcases Nat.lt_or_ge k size with c|c
 ·exact c
 ·have:k=size:=by omega
  subst this
  rw[Nat.mul_mod_right] at h
  omega
theorem cutF_spec (page size:Nat) (hs:1≤size):∀f k,k+f=size+1→1≤f→k≤cutF page size f k∧cutF page size f k≤size∧¬cutF page size f k * page/8<cutF page size f k * page%size:=by
 intro f
 induction f with
 |zero=>intro k _ h;omega
 |succ f ih=>
  intro k hk _
  by_cases c:k * page/8<k * page%size
  ·rw[cut_go c]
   have:=cut_last hs (by omega) c
   obtain ⟨a,b,d⟩:=ih (k+1) (by omega) (by omega)
   exact ⟨by omega,b,d⟩
  ·rw[cut_stop c]
   exact ⟨Nat.le_refl _,by omega,c⟩
theorem cutK_spec {page size:Nat} (hs:1≤size):1≤cutK page size∧cutK page size≤size∧¬cutK page size * page/8<cutK page size * page%size:=cutF_spec page size hs size 1 (by omega) hs
theorem cut_room {page size:Nat} (hs:1≤size) (hp:1≤page):size≤cutK page size * page:=by
 obtain ⟨a,b,c⟩:=cutK_spec (page:=page) hs
 rcases Nat.lt_or_ge (cutK page size * page) size with h|h
 ·rw[Nat.mod_eq_of_lt h] at c
  have:1≤cutK page size * page:=Nat.mul_pos a hp
  omega
 ·exact h
theorem rest_stop {page most f size step:Nat} {o:Option Raw} (h:most<size):rest page most f size step o=o.toList:=by
 cases f with
 |zero=>rfl
 |succ f=>cases o<;>(unfold rest;rw[if_neg (by omega)])
theorem rest_first {page most f size step:Nat} (h:size≤most):rest page most (f+1) size step none=rest page most f (size+stepN size step) (stepN size step) (some (rawOf page size)):=by rw[rest.eq_def];simp only[if_pos h]
theorem rest_alike {page most f size step:Nat} {c:Raw} (h:size≤most) (ha:alikeB page c (rawOf page size)=true):rest page most (f+1) size step (some c)=rest page most f (size+stepN size step) (stepN size step) (some (rawOf page size)):=by
 rw[rest.eq_def];simp only[if_pos h,ha,cond_true]
theorem rest_new {page most f size step:Nat} {c:Raw} (h:size≤most) (ha:alikeB page c (rawOf page size)=false):rest page most (f+1) size step (some c)=c::rest page most f (size+stepN size step) (stepN size step) (some (rawOf page size)):=by
 rw[rest.eq_def];simp only[if_pos h,ha,cond_false]
def Good (page most:Nat) (c:Raw):Prop:=8≤c.size∧c.size≤most∧c.k=cutK page c.size
theorem good_raw {page most size:Nat} (h:8≤size) (hm:size≤most):Good page most (rawOf page size):=⟨h,hm,rfl⟩
theorem Good.facts {page most:Nat} {c:Raw} (h:Good page most c) (hp:1≤page):1≤c.k∧c.k≤c.size∧c.size≤c.k * page∧1≤c.slots page∧c.slots page≤c.k * page:=by
 obtain ⟨h1,h2,h3⟩:=h
 obtain ⟨a,b,_⟩:=cutK_spec (page:=page) (size:=c.size) (by omega)
 have r:=cut_room (page:=page) (size:=c.size) (by omega) hp
 rw[←h3] at a b r
 exact ⟨a,b,r,(Nat.le_div_iff_mul_le (by omega)).2 (by omega),Nat.div_le_self _ _⟩
theorem wide_fits {page most:Nat} {c:Raw} (h:Good page most c) (hp:1≤page):c.size≤wideN page c∧wideN page c≤c.k * page∧wideN page c * c.slots page≤c.k * page:=by
 obtain ⟨_,_,r,s,t⟩:=h.facts hp
 have hd:=Nat.div_mul_le_self (c.k * page) (c.slots page)
 have hs:c.size * c.slots page≤c.k * page:=by rw[Nat.mul_comm];exact Nat.div_mul_le_self _ _
 have hle:c.k * page/c.slots page≤c.k * page:=Nat.div_le_self _ _
 unfold wideN
 simp only
 have h2:(c.k * page/c.slots page - c.k * page/c.slots page%128) * c.slots page≤c.k * page:=Nat.le_trans (Nat.mul_le_mul_right _ (Nat.sub_le _ _)) hd
 rcases Nat.le_total c.size (c.k * page/c.slots page - c.k * page/c.slots page%128) with e|e
 ·rw[Nat.max_eq_right e];exact ⟨e,by omega,h2⟩
 ·rw[Nat.max_eq_left e];exact ⟨Nat.le_refl _,r,hs⟩
theorem rest_len (page most:Nat):∀f size step o,(rest page most f size step o).length≤f+1:=by
 intro f
 induction f with
 |zero=>intro size step o;cases o<;>simp[rest]
 |succ f ih=>
  intro size step o
  by_cases h:size≤most
  ·have:=ih (size+stepN size step) (stepN size step) (some (rawOf page size))
   cases o with
   |none=>rw[rest_first h];omega
   |some d=>
    cases ha:alikeB page d (rawOf page size) with
    |true=>rw[rest_alike h ha];omega
    |false=>rw[rest_new h ha,List.length_cons];omega
  ·rw[rest_stop (by omega)];cases o<;>simp
theorem raws_len (page most:Nat):(raws page most).length≤most/8+2:=rest_len page most _ 8 8 none
theorem classes_len (page most:Nat):(classes page most).length≤most/8+2:=by unfold classes;rw[List.length_map];exact raws_len page most
theorem table_len:table.length=67:=by decide+kernel
theorem make_eq:make 8192 32768=zeroC::table:=rfl
end Go.Proofs.Cl
namespace Go.Proofs.YtdgdhnnakcncoaaGreatDoor.N
set_option maxHeartbeats 1600000
open Go.ChangeShapes Go.WideShapes Go.ChangeAt Go.RowKit
set_option linter.unusedVariables false
set_option linter.unusedSimpArgs false
def magicV (d:Int):Int:=if d<2 then 0 else 4294967295/d+1
theorem magic_fits (d:Int) (hd:2≤d):0≤4294967295/d∧4294967295/d≤2147483647:=by
 refine ⟨Int.ediv_nonneg (by decide) (by omega),?_⟩
 have h2:=Int.mul_ediv_add_emod 4294967295 d
 have h3:0≤4294967295/d:=Int.ediv_nonneg (by decide) (by omega)
 have h4:2 *(4294967295/d)≤d *(4294967295/d):=Int.mul_le_mul_of_nonneg_right hd h3
 have h5:=Int.emod_nonneg 4294967295 (show d≠0 by omega)
 omega
theorem magic_any (d:Int) (hd:0≤d∧d≤4294967295) (w:World):
 Calls Tryz.prog 185 #[.int .u32 d] w fun e w'=>e= .returned (.int .u32 (magicV d))∧w'=w:=by
 by_cases h0:d<2
 ·have eV:magicV d=0:=by simp[magicV,h0]
  rw[eV]
  clear eV
  go_enter Tryz.func185,Tryz.ntmps185
  go_wp2
  go_ret
  exact ⟨rfl,rfl⟩
 ·have eV:magicV d=4294967295/d+1:=by simp[magicV,h0]
  have z:(d==0)=false:=by simp;omega
  obtain ⟨f1,f2⟩:=magic_fits d (by omega)
  rw[eV]
  clear eV
  go_enter Tryz.func185,Tryz.ntmps185
  go_wp2
  go_ret
  exact ⟨rfl,rfl⟩
theorem pow_any (x:Nat) (hx:x<18446744073709551616) (w:World):
 Calls Tryz.prog 213 #[.int .u64 x] w fun e w'=>e= .returned (.bool (isPow x))∧w'=w:=by
 have e:((pc x:Int)==1)=isPow x:=by rw[←pc_isPow x];rw[Bool.eq_iff_iff];simp only[beq_iff_eq];omega
 generalize hp:(pc x:Int)=p at e
 have c:∀w:World,Calls Tryz.prog 132 #[.int .u64 x] w fun e w'=>e= .returned (.int .i64 p)∧w'=w:=by intro w;rw[←hp];exact ones_any x hx w
 rw[←e]
 clear hp e
 go_enter Tryz.func213,Tryz.ntmps213
 go_wp2_with (go_at_call 132;refine (c _).mono ?_;rintro e w' ⟨rfl,rfl⟩)
 go_ret
 exact ⟨rfl,rfl⟩
theorem isPow_even (m:Nat) (h:1<m) (h2:m%2=0):isPow m=isPow (m/2):=by rw[isPow];simp[h,h2]
theorem isPow_odd (m:Nat) (h:¬(1<m∧m%2=0)):isPow m=(m==1):=by rw[isPow,dif_neg h]
end Go.Proofs.YtdgdhnnakcncoaaGreatDoor.N
namespace Go.Proofs.YtdgdhnnakcncoaaGreatDoor.N
set_option maxHeartbeats 1600000
open Go.ChangeShapes Go.WideShapes Go.ChangeAt Go.RowKit Go.Proofs.Cl
set_option linter.unusedVariables false
set_option linter.unusedSimpArgs false
theorem isPow_powF:∀f n,n<2^f→isPow n=powF f n:=by
 intro f
 induction f with
 |zero=>
  intro n h;have:n=0:=by simpa using h
  subst this;rw[isPow_odd 0 (by omega)];rfl
 |succ f ih=>
  intro n h
  by_cases c:1<n∧n%2=0
  ·rw[isPow_even n c.1 c.2,powF,if_pos c]
   exact ih (n/2) (by rw[Nat.pow_succ] at h;omega)
  ·rw[isPow_odd n c,powF,if_neg c]
theorem pow_nat (x:Nat) (hx:x<18446744073709551616) (w:World):Calls Tryz.prog 213 #[.int .u64 x] w fun e w'=>e= .returned (.bool (Cl.pow x))∧w'=w:=by
 have h:=pow_any x hx w
 rw[isPow_powF 64 x (by simpa using hx)] at h
 exact h
theorem magicV_nat (d:Nat):magicV (d:Int)=(magicN d:Nat):=by
 unfold magicV magicN
 by_cases h:d<2
 ·rw[if_pos (by omega),if_pos h];rfl
 ·rw[if_neg (by omega),if_neg h];rw[Int.natCast_add,Int.natCast_ediv];rfl
theorem magic_nat (d:Nat) (hd:d≤4294967295) (w:World):Calls Tryz.prog 185 #[.int .u32 d] w fun e w'=>e= .returned (.int .u32 (magicN d:Nat))∧w'=w:=by
 have:=magic_any d (by omega) w
 rw[magicV_nat] at this
 exact this
theorem step_core (size step r:Int) (p:Bool) (h0:0≤size) (h1:size≤1000000) (hr:(p=false∧r=step)∨(p=true∧2048≤size∧r=256)∨(p=true∧size<2048∧128≤size∧r=size/8)∨(p=true∧size<128∧32≤size∧r=16)∨(p=true∧size<32∧r=step)) (w:World)
 (c:∀w:World,Calls Tryz.prog 213 #[.int .u64 size] w fun e w'=>e= .returned (.bool p)∧w'=w):
 Calls Tryz.prog 215 #[.int .i64 size, .int .i64 step] w fun e w'=>e= .returned (.int .i64 r)∧w'=w:=by
 rcases hr with ⟨rfl,rfl⟩|⟨rfl,a,rfl⟩|⟨rfl,a,b,rfl⟩|⟨rfl,a,b,rfl⟩|⟨rfl,a,rfl⟩
 all_goals
  go_enter Tryz.func215,Tryz.ntmps215
  go_wp2_with (go_at_call 213;refine (c _).mono ?_;rintro e w' ⟨rfl,rfl⟩)
  go_ret
  exact ⟨rfl,rfl⟩
theorem step_any (size step:Nat) (h:size≤1000000) (w:World):Calls Tryz.prog 215 #[.int .i64 size, .int .i64 step] w fun e w'=>e= .returned (.int .i64 (stepN size step:Nat))∧w'=w:=by
 refine step_core size step _ (Cl.pow size) (by omega) (by omega) ?_ w (fun w=>pow_nat size (by omega) w)
 unfold stepN
 (repeat' split)<;>simp_all<;>omega
theorem cut_mod (k page size:Nat):((k * page%size:Nat):Int)=((k * page:Nat):Int)%(size:Int):=by rw[Int.natCast_emod]
set_option maxRecDepth 100000 in
theorem cut_any (page size:Nat) (hp:1≤page) (hp2:page≤65536) (hs:1≤size) (hs2:size≤262144) (w:World):
 Calls Tryz.prog 216 #[.int .i64 page, .int .i64 size] w fun e w'=>e= .returned (.agg #[.int .i64 size, .int .i64 (cutK page size:Nat), .int .i64 ((rawOf page size).slots page:Nat), .int .u32 0])∧Below w.heap.size w w':=by
 have z1:((size:Int)==0)=false:=by simp;omega
 have z2:((page:Int)==0)=false:=by simp;omega
 go_enter Tryz.func216,Tryz.ntmps216
 go_wp2
 go_loop [5] (fun b=>∃k f:Nat,b= .int .i64 ((k * page:Nat):Int)∧1≤k∧k≤size∧k+f=size+1∧cutF page size f k=cutK page size) (fun b=>size * page -(intOf b).toNat)
 case atStart=>exact ⟨1,size,by rw[Nat.one_mul],Nat.le_refl _,hs,by omega,rfl⟩
 case round=>
  obtain ⟨k,f,rfl,k1,k2,kf,kc⟩:=hrel
  have KC:=hide kc
  have KF:=hide kf
  clear kc kf
  have hb:k * page≤17179869184:=Nat.le_trans (Nat.mul_le_mul k2 hp2) (by omega)
  have hb1:1≤k * page:=Nat.mul_pos k1 hp
  have m0:=Int.emod_nonneg ((k * page:Nat):Int) (show (size:Int)≠0 by omega)
  obtain ⟨B,hB⟩:∃B:Int,B=((k * page:Nat):Int):=⟨_,rfl⟩
  rw[←hB] at m0 ⊢
  have b0:0<B:=by omega
  have b1:B≤17179869184:=by omega
  have HB:=hide hB
  by_cases c:k * page/8<k * page%size
  ·have t:B/8<B%size:=by rw[hB,←cut_mod];omega
   have hk:=cut_last hs k2 c
   have C:=hide c
   have hm:(k+1) * page=k * page+page:=Nat.succ_mul k page
   have hm2:(k+1) * page≤size * page:=Nat.mul_le_mul_right _ hk
   have HM:=hide hm
   have HM2:=hide hm2
   have hk':=hide hk
   clear c hB hm hb hb1 hm2 hk
   go_wp2
   go_round
   case rel=>
    have hm:=HM.out
    have hB:=HB.out
    have kf:=KF.out
    have hk:=hk'.out
    obtain ⟨g,rfl⟩:∃g,f=g+1:=⟨f - 1,by omega⟩
    refine ⟨k+1,g,by rw[hm,hB];rfl,by omega,by omega,by omega,?_⟩
    have kc:=KC.out
    rw[cut_go C.out] at kc
    exact kc
   case measure=>
    have hm:=HM.out
    have hm2:=HM2.out
    have hB:=HB.out
    simp[intOf]
    omega
  ·have t:B%size≤B/8:=by rw[hB,←cut_mod];omega
   have kc:=KC.out
   rw[cut_stop c] at kc
   have d1:B/(page:Int)=(k:Int):=by rw[hB,←Int.natCast_ediv,Nat.mul_div_cancel _ hp]
   have d2:B/(size:Int)=((k * page/size:Nat):Int):=by rw[hB,Int.natCast_ediv]
   have KS:(rawOf page size).slots page=k * page/size:=by unfold Raw.slots rawOf;rw[←kc]
   have kk:=hide kc
   have ks:=hide KS
   clear kc KS c hB hb hb1
   go_wp2
   go_region
   all_goals
    go_wp2
    refine bodyPost_ret (v:= .agg #[.int .i64 size, .int .i64 (k:Int), .int .i64 ((k * page/size:Nat):Int), .int .u32 0]) (by simp[results,Tryz.results216,go_sem]) rfl ⟨by rw[ks.out,←kk.out],?_⟩
    exact ((Below.refl _ _).alloc (Nat.le_refl _) _).drew
theorem alike_core (s p q m s' p' q' m':Int) (r:Bool) (hr:(p=p'∧q=q'∧r=true)∨(p=p'∧¬q=q'∧r=false)∨(¬p=p'∧r=false)) (w:World):
 Calls Tryz.prog 217 #[.agg #[.int .i64 s, .int .i64 p, .int .i64 q, .int .u32 m], .agg #[.int .i64 s', .int .i64 p', .int .i64 q', .int .u32 m']] w fun e w'=>e= .returned (.bool r)∧Below w.heap.size w w':=by
 rcases hr with ⟨rfl,rfl,rfl⟩|⟨rfl,h,rfl⟩|⟨h,rfl⟩
 ·go_enter Tryz.func217,Tryz.ntmps217
  go_wp2
  go_ret
  exact ⟨rfl,((Below.refl _ _).alloc (Nat.le_refl _) _).alloc (by simp) _⟩
 ·have e:(q==q')=false:=by simpa using h
  clear h
  go_enter Tryz.func217,Tryz.ntmps217
  go_wp2
  go_ret
  exact ⟨rfl,((Below.refl _ _).alloc (Nat.le_refl _) _).alloc (by simp) _⟩
 ·have e:(p==p')=false:=by simpa using h
  clear h
  go_enter Tryz.func217,Tryz.ntmps217
  go_wp2
  go_ret
  exact ⟨rfl,((Below.refl _ _).alloc (Nat.le_refl _) _).alloc (by simp) _⟩
set_option maxRecDepth 100000 in
theorem wide_core (page s p q m r x y:Int) (h0:0≤page * p) (h1:page * p≤1000000000000) (hq:1≤q) (hs:0≤s) (hs1:s≤1000000000) (hr:p * page/q=r) (r0:0≤r) (r1:r≤1000000000) (hx:(r - r%128≤s∧x=s)∨(s<r - r%128∧x=r - r%128)) (w:World)
 (c:∀w:World,Calls Tryz.prog 185 #[.int .u32 x] w fun e w'=>e= .returned (.int .u32 y)∧w'=w):
 Calls Tryz.prog 218 #[.int .i64 page, .agg #[.int .i64 s, .int .i64 p, .int .i64 q, .int .u32 m]] w fun e w'=>e= .returned (.agg #[.int .i64 x, .int .i64 p, .int .i64 q, .int .u32 y])∧Below w.heap.size w w':=by
 have z:(q==0)=false:=by simp;omega
 have hm0:0≤p * page:=by rw[Int.mul_comm];exact h0
 have hm1:p * page≤1000000000000:=by rw[Int.mul_comm];exact h1
 clear h0 h1
 rcases hx with ⟨a,rfl⟩|⟨a,rfl⟩
 ·go_enter Tryz.func218,Tryz.ntmps218
  go_wp2_with (go_at_call 185;refine (c _).mono ?_;rintro e w' ⟨rfl,rfl⟩)
  exact bodyPost_ret (v:= .agg #[.int .i64 x, .int .i64 p, .int .i64 q, .int .u32 y]) (by simp[results,Tryz.results218,go_sem]) rfl ⟨rfl,((Below.refl _ _).alloc (Nat.le_refl _) _).alloc (by simp) _⟩
 ·go_enter Tryz.func218,Tryz.ntmps218
  go_wp2_with (go_at_call 185;refine (c _).mono ?_;rintro e w' ⟨rfl,rfl⟩)
  exact bodyPost_ret (v:= .agg #[.int .i64 (r - r%128), .int .i64 p, .int .i64 q, .int .u32 y]) (by simp[results,Tryz.results218,go_sem]) rfl ⟨rfl,((Below.refl _ _).alloc (Nat.le_refl _) _).alloc (by simp) _⟩
def cv (c:Cls):Value:= .agg #[.int .i64 (c.size:Nat), .int .i64 (c.pages:Nat), .int .i64 (c.slots:Nat), .int .u32 (c.magic:Nat)]
def rv (page:Nat) (c:Raw):Value:= .agg #[.int .i64 (c.size:Nat), .int .i64 (c.k:Nat), .int .i64 (c.slots page:Nat), .int .u32 0]
theorem alike_raw (page:Nat) (c d:Raw) (w:World):Calls Tryz.prog 217 #[rv page c,rv page d] w fun e w'=>e= .returned (.bool (alikeB page c d))∧Below w.heap.size w w':=by
 refine alike_core _ _ _ _ _ _ _ _ _ ?_ w
 unfold alikeB
 by_cases h1:c.k=d.k
 ·by_cases h2:c.slots page=d.slots page
  ·exact .inl ⟨by omega,by omega,by simp[h1,h2]⟩
  ·exact .inr (.inl ⟨by omega,by omega,by simp[h1,h2]⟩)
 ·exact .inr (.inr ⟨by omega,by simp[h1]⟩)
theorem wide_raw (page most:Nat) (c:Raw) (hp:1≤page) (hp2:page≤65536) (hm:most≤262144) (hc:Cl.Good page most c) (w:World):
 Calls Tryz.prog 218 #[.int .i64 page,rv page c] w fun e w'=>e= .returned (cv (wide page c))∧Below w.heap.size w w':=by
 obtain ⟨k1,k2,kr,s1,s2⟩:=hc.facts hp
 obtain ⟨w1,w2,w3⟩:=wide_fits hc hp
 obtain ⟨g1,g2,_⟩:=hc
 have hb:c.k * page≤17179869184:=Nat.le_trans (Nat.mul_le_mul (Nat.le_trans k2 (Nat.le_trans g2 hm)) hp2) (by omega)
 have hroom:c.k * page/c.slots page≤1000000000:=by
  have hd:c.k * page<(c.slots page+1) * c.size:=by
   have:=Nat.lt_div_mul_add (a:=c.k * page) (b:=c.size) (by omega)
   unfold Raw.slots;rw[Nat.add_mul];omega
  have h2:c.k * page/c.slots page≤2 * c.size:=by
   rw[Nat.div_le_iff_le_mul_add_pred (by omega)]
   have e:(c.slots page+1) * c.size≤2 * c.slots page * c.size:=Nat.mul_le_mul_right _ (by omega)
   have e2:2 * c.slots page * c.size=c.slots page *(2 * c.size):=by rw[Nat.mul_comm 2,Nat.mul_assoc]
   omega
  omega
 have hw:wideN page c≤1000000000:=by unfold wideN;simp only;omega
 refine wide_core page c.size c.k (c.slots page:Nat) 0 ((c.k * page/c.slots page:Nat):Int) (wideN page c:Nat) _ ?_ ?_ (by omega) (by omega) (by omega) ?_ (Int.natCast_nonneg _) (Int.ofNat_le.2 hroom) ?_ w (fun w=>magic_nat _ (by omega) w)
 ·rw[Int.mul_comm,←Int.natCast_mul];omega
 ·rw[Int.mul_comm,←Int.natCast_mul];omega
 ·rw[←Int.natCast_mul,←Int.natCast_ediv]
 ·unfold wideN;simp only
  rcases Nat.le_total (c.k * page/c.slots page - c.k * page/c.slots page%128) c.size with e|e
  ·left;exact ⟨by omega,by rw[Nat.max_eq_left e]⟩
  ·rcases Nat.lt_or_ge c.size (c.k * page/c.slots page - c.k * page/c.slots page%128) with g|g
   ·right;exact ⟨by omega,by rw[Nat.max_eq_right e];omega⟩
   ·left;exact ⟨by omega,by rw[Nat.max_eq_left g]⟩
def powerB (n least most:Int):Bool:=decide (least≤n)&&decide (n≤most)&&Cl.pow n.toNat
theorem power_core (n least most:Int) (h0:0≤least) (hn:n≤9223372036854775807) (w:World):
 Calls Tryz.prog 156 #[.int .i64 n, .int .i64 least, .int .i64 most] w fun e w'=>e= .returned (.bool (powerB n least most))∧w'=w:=by
 by_cases h1:least≤n
 ·by_cases h2:n≤most
  ·obtain ⟨k,rfl⟩:∃k:Nat,n=(k:Int):=⟨n.toNat,by omega⟩
   have hp:powerB k least most=Cl.pow k:=by simp[powerB,h1,h2]
   rw[hp]
   have c:=fun w=>pow_nat k (by omega) w
   generalize Cl.pow k=p at c
   clear hp
   go_enter Tryz.func156,Tryz.ntmps156
   go_wp2_with (go_at_call 213;refine (c _).mono ?_;rintro e w' ⟨rfl,rfl⟩)
   go_ret
   exact ⟨rfl,rfl⟩
  ·have hp:powerB n least most=false:=by simp[powerB,h2]
   rw[hp]
   have d2:decide (n≤most)=false:=by simpa using h2
   clear hp
   go_enter Tryz.func156,Tryz.ntmps156
   go_wp2_with fail
   go_ret
   exact ⟨rfl,rfl⟩
 ·have hp:powerB n least most=false:=by simp[powerB,h1]
  rw[hp]
  have d1:decide (least≤n)=false:=by simpa using h1
  clear hp
  go_enter Tryz.func156,Tryz.ntmps156
  go_wp2_with fail
  go_ret
  exact ⟨rfl,rfl⟩
end Go.Proofs.YtdgdhnnakcncoaaGreatDoor.N
namespace Go.Proofs.YtdgdhnnakcncoaaGreatDoor.N
set_option maxHeartbeats 1600000
open Go.ChangeShapes Go.WideShapes Go.ChangeAt Go.RowKit Go.Proofs.Cl
set_option linter.unusedVariables false
set_option linter.unusedSimpArgs false
def Box4 (w:World) (b:Nat):Prop:=∃cs:Array Value,w.heap[b]? =some (.cells cs 80 (0,0))∧cs.size=4
def Ab {β:Type} (B:Nat) (J:β→World→Prop):Prop:=∀s A A',J s A→Kept (fun b=>B≤b∧Box4 A b) A A'→J s A'
def SeqC {α:Type} (n:Nat) (P:Program) (gf:Nat) (lb:Array Value) (encs:α→Array Value) (Kp:World→World→Prop) (S Sp:List α→Prop) (N:Nat) (w:World):Prop:=
 ∀(l:Nat) (J Jx:List α→World→Prop) (W:World),Below w.heap.size w W→Ab W.heap.size J→
  (∀pre x W1,J pre W1→pre.length<N→YieldAt Fence.wide (n - 1) P l (encs x) W1 fun e W'=>
   (e= .returned (.bool true)∧J (pre++ [x]) W'∧Kp W1 W')∨(e= .returned (.bool false)∧Jx (pre++ [x]) W'))→
  J [] W→
  CallsIn Fence.wide n P gf (#[.func (.yield l) #[] #[]]++lb) W fun e W'=>(∃v,e= .returned v)∧((∃xs,S xs∧J xs W')∨(∃pre,Sp pre∧Jx pre W'))
def bodyEnd {α:Type} (B:Nat) (Kp:World→World→Prop) (I:List α→World→Prop) (Ix:Code→List α→World→Prop) (xs:List α) (W W₁:World):Exit→Act→World→Prop
 | .normal,_,W'=>KeepsFrom B W₁ W'∧Kp W W'∧I xs W'
 | .exit id,_,W'=>KeepsFrom B W₁ W'∧Ix (.exit id) xs W'
 |_,_,_=>False
theorem range_law {α:Type} {P:Program} {g:Operand} {ps:Array Tmp} {assign body:Code} {Q:Exit→Act→World→Prop} {a:Act} {w:World} {n:Nat}
 {gf:Nat} {lb:Array Value} (hg:a.eval g= .func (.func gf) #[] lb) (eg:∀args w,(callFunc gf args).run P w= .ok (.enter gf args) w)
 {encs:α→Array Value} {Kp:World→World→Prop} {S Sp:List α→Prop} {N:Nat} {w0:World} (hseq:SeqC (n - 1) P gf lb encs Kp S Sp N w0)
 (hKt:∀{A B C:World},Kp A B→Kp B C→Kp A C) (hKb:∀(W:World) (o':Obj),w.heap.size+1<W.heap.size→(∀r,W.heap[w.heap.size+1]? =some r→r.isCells=false)→Kp W (W.putObj (w.heap.size+1) o')) (hb0:Below w0.heap.size w0 w) (hps:∀x,(encs x).size=ps.size)
 (I:List α→World→Prop) (Ix:Code→List α→World→Prop)
 (hI:∀s A A',I s A→Kept (fun b=>w.heap.size≤b∧(b<w.heap.size+2∨Box4 A b)) A A'→I s A')
 (hIx:∀c s A o',Ix c s A→w.heap.size+1<A.heap.size→Ix c s (A.putObj (w.heap.size+1) o')) (h0:I [] w)
 (hround:∀(pre:List α) (x:α) (W:World),(∃r,W.heap[w.heap.size+1]? =some (.loop r))→W.heap[w.heap.size]? =some (.deferred (some []))→I pre W→pre.length<N→
  assign.wpIn (Fence.wide.inRound (w.heap.size+1)) (n - 1 - 1) P (Exit.then (fun a₁ W₁=>KeepsFrom w.heap.size W W₁∧
   ∀r,body.wpIn (Fence.wide.inRound (w.heap.size+1)) (n - 1 - 1) P (bodyEnd w.heap.size Kp I Ix (pre++ [x]) W (W₁.putObj (w.heap.size+1) (.loop r))) a₁ (W₁.putObj (w.heap.size+1) (.loop r))) (fun _ _ _=>False))
   {tmps:=(ps.zip (encs x)).foldl (fun t (p,v)=>t.setIfInBounds p v) a.tmps,defers:=[]} W)
 (hdone:∀(xs:List α) (W:World),S xs→I xs W→W.heap[w.heap.size]? =some (.deferred (some []))→Q .normal {a with defers:={target:= .collected w.heap.size,args:=#[]}::a.defers} W)
 (hstop:∀(c:Code) (pre:List α) (W:World),Sp pre→Ix c pre W→W.heap[w.heap.size]? =some (.deferred (some []))→c.wpIn Fence.wide n P Q {a with defers:={target:= .collected w.heap.size,args:=#[]}::a.defers} W):
 (Code.rangeFunc g ps assign body).wpIn Fence.wide n P Q a w:=by
 refine wpIn_rangeFunc fun fn hfn=> ?_
 generalize hrec:(fun st pe=>({state:=st,pending:=pe,fn,tmps:=a.tmps,params:=ps,assign,body,defers:=w.heap.size}:Loop))=rec
 obtain ⟨W1,hW1⟩:∃W1,(w.alloc (.deferred (some []))).alloc (.loop (rec .ready none))=W1:=⟨_,rfl⟩
 have s1:W1.heap.size=w.heap.size+2:=by rw[←hW1];simp
 have hb1:Below w.heap.size w W1:=by rw[←hW1];exact ((Below.refl _ w).alloc (Nat.le_refl _) _).alloc (by simp) _
 have hl1:W1.heap[w.heap.size+1]? =some (.loop (rec .ready none)):=by
  have:=World.alloc_heap_new (w.alloc (.deferred (some []))) (.loop (rec .ready none))
  rw[World.size_alloc,hW1] at this;exact this
 have hd1:W1.heap[w.heap.size]? =some (.deferred (some [])):=by
  rw[←hW1];exact (Below.heap_alloc _ _ _ (by simp)).trans (World.alloc_heap_new w _)
 refine ⟨w.heap.size+1,[{target:= .collected w.heap.size,args:=#[]}],W1,{target:= .fn (.func gf) lb,args:=#[.func (.yield (w.heap.size+1)) #[] #[]]},W1,gf,#[.func (.yield (w.heap.size+1)) #[] #[]]++lb,W1,?_,?_,fun _ _=>trivial,?_,(fun h=>by cases h),?_⟩
 ·rw[←hW1,←hrec];exact run_enterLoop_outer _ _ _ _ _
 ·simp only[resolve,hg];simp[go_sem]
 ·simp[invoke,go_sem,eg]
 have hf:∀(k:Nat) (A:World),k<w.heap.size+2→¬(W1.heap.size≤k∧Box4 A k):=fun k A hk h=>by omega
 refine (hseq (w.heap.size+1)
  (fun pre W=>I pre W∧W.heap[w.heap.size+1]? =some (.loop (rec .ready none))∧W.heap[w.heap.size]? =some (.deferred (some [])))
  (fun pre W=>∃c,Ix c pre W∧W.heap[w.heap.size+1]? =some (.loop (rec .done (some c)))∧W.heap[w.heap.size]? =some (.deferred (some [])))
  W1 (hb0.trans (hb1.mono hb0.size)) ?_ ?_ ⟨hI _ _ _ h0 (Kept.of_below hb1),hl1,hd1⟩).mono ?_
 ·
  rintro s A A' ⟨hi,hl,hd⟩ hk
  exact ⟨hI _ _ _ hi (hk.mono fun b hb=>⟨by omega, .inr hb.2⟩),kept_at hk hl (hf _ _ (by omega)),kept_at hk hd (hf _ _ (by omega))⟩
 ·
  rintro pre x W ⟨hi,hl,hd⟩ hlen
  have hlt:w.heap.size+1<W.heap.size:=(Array.getElem?_eq_some_iff.1 hl).1
  have hy:=run_yield (P:=P) (args:=encs x) hl (by rw[←hrec];exact hps x)
  rw[←hrec] at hy
  refine ⟨fn,_,assign,body,hy,roundIn_of_wpIn hfn (wpIn_mono (hround pre x W ⟨_,hl⟩ hd hi hlen) ?_)⟩
  rintro e a₁ W₁ hp
  cases e with
  |normal=>
   obtain ⟨hk,hb⟩:=hp
   have hl':=hk.same _ _ (by omega) hl rfl
   have hd':=hk.same _ _ (by omega) hd rfl
   refine ⟨_,run_beginRound hl' (by rw[←hrec]),wpIn_mono (hb _) ?_⟩
   rintro e a₂ W₂ hq
   cases e with
   |normal=>
    obtain ⟨q1,q2,q3⟩:=hq
    have hl2:=q1.same _ _ (by omega) (World.putObj_heap_same (Array.getElem?_eq_some_iff.1 hl').1) rfl
    have hlt2:=(Array.getElem?_eq_some_iff.1 hl2).1
    have hd2:=q1.same _ _ (by omega) ((World.putObj_heap_other (by omega)).trans hd') rfl
    refine ⟨_,_,run_endRound none hl2, .inl ⟨rfl,⟨hI _ _ _ q3 (Kept.put _ _ _ ⟨by omega, .inl (by omega)⟩),?_,?_⟩,hKt q2 (hKb _ _ hlt2 (fun r hr=>by rw[hl2] at hr;cases hr;rfl))⟩⟩
    ·rw[World.putObj_heap_same hlt2,←hrec];rfl
    ·exact (World.putObj_heap_other (by omega)).trans hd2
   |exit id=>
    obtain ⟨q1,q3⟩:=hq
    have hl2:=q1.same _ _ (by omega) (World.putObj_heap_same (Array.getElem?_eq_some_iff.1 hl').1) rfl
    have hlt2:=(Array.getElem?_eq_some_iff.1 hl2).1
    have hd2:=q1.same _ _ (by omega) ((World.putObj_heap_other (by omega)).trans hd') rfl
    refine ⟨_,_,run_endRound (some (.exit id)) hl2, .inr ⟨rfl, .exit id,hIx _ _ _ _ q3 hlt2,?_,?_⟩⟩
    ·rw[World.putObj_heap_same hlt2,←hrec];rfl
    ·exact (World.putObj_heap_other (by omega)).trans hd2
   |ret=>exact hq.elim
   |goto t=>exact hq.elim
   |panic ch=>exact hq.elim
   |outgrown=>exact hq.elim
  |ret=>exact hp.elim
  |exit id=>exact hp.elim
  |goto t=>exact hp.elim
  |panic ch=>exact hp.elim
  |outgrown=>exact hp.elim
 ·
  rintro e W2 ⟨⟨v,rfl⟩,(⟨xs,hS,hi,hl,hd⟩|⟨pre,hSp,c,hi,hl,hd⟩)⟩
  ·have he:=run_endLoop (P:=P) hl (by rw[←hrec];simp)
   refine ⟨none,_,by rw[←hrec] at he;exact he,hdone xs _ hS (hI _ _ _ hi (Kept.put _ _ _ ⟨by omega, .inl (by omega)⟩)) ((World.putObj_heap_other (by omega)).trans hd)⟩
  ·have he:=run_endLoop (P:=P) hl (by rw[←hrec];simp)
   refine ⟨some c,_,by rw[←hrec] at he;exact he,hstop c pre _ hSp (hIx _ _ _ _ hi (Array.getElem?_eq_some_iff.1 hl).1) ((World.putObj_heap_other (by omega)).trans hd)⟩
end Go.Proofs.YtdgdhnnakcncoaaGreatDoor.N
