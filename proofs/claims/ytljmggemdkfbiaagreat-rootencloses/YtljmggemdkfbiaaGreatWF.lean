/- Contracts of tri's square, triangle, and of Whole's own memory, of enclosed numbers (layer 7). Written by genTr.py. -/
import Derived.Test.YtljmggemdkfbiaaGreatWE
import Derived.Test.YtljmggemdkfbiaaGreatWA
import Derived.Deep.RegionHeld3
import Derived.Deep.RegionWith
import Derived.RangeFuncNested
import Derived.RangeFuncBound
import Derived.RangeFuncCalls
import Derived.RangeFuncLeaves
import Derived.Shelf.Abstract
import Derived.Shelf.RegionOpen
import Derived.OwnWalkIn
import Derived.TacticsInMore
import Derived.LoopNIn
import Derived.LoopIn
import Derived.Test.YtljmggemdkfbiaaGreatWB
namespace Go.Proofs.YtljmggemdkfbiaaGreat
open Go.RowKit
set_option linter.unusedSimpArgs false
set_option linter.unusedVariables false
theorem allB2 (a b:Int):allB [a,b]=(frB a&&frB b):=by simp [allB]
theorem allB1 (a:Int):allB [a]=frB a:=by simp [allB]
def fmB (a b m:Int):Bool:=mdB a b 16777216 m&&frB (mdN a b 16777216 m)&&allB [a,b]
def fmN (a b m:Int):Int:=toN (mdN a b 16777216 m) (fmB a b m)
def fdB (a b m:Int):Bool:=mdB a 16777216 b m&&frB (mdN a 16777216 b m)&&allB [a,b]
def fdN (a b m:Int):Int:=toN (mdN a 16777216 b m) (fdB a b m)
def fqB (a m:Int):Bool:=rtB a 16777216 m&&frB (rtN a 16777216 m)&&allB [a]
def fqN (a m:Int):Int:=toN (rtN a 16777216 m) (fqB a m)
def faB (a b:Int):Bool:=frB (a+b)&&allB [a,b]
def faN (a b:Int):Int:=toN (a+b) (faB a b)
def fsB (a b:Int):Bool:=frB (a-b)&&allB [a,b]
def fsN (a b:Int):Int:=toN (a-b) (fsB a b)
theorem two_cells (w:World) (a b:Int) (t:TypeId):∀ k,k < [a,b].length→(w.alloc (.cells #[.int .i64 a,.int .i64 b] t)).cell? ⟨w.heap.size,0+k,none⟩=some (.int .i64 ([a,b].getD k 0)):=by
 intro k hk;rcases (by simp at hk;omega:k=0∨k=1) with rfl|rfl<;>simp [go_sem]
theorem one_cell (w:World) (a:Int) (t:TypeId):∀ k,k < [a].length→(w.alloc (.cells #[.int .i64 a] t)).cell? ⟨w.heap.size,0+k,none⟩=some (.int .i64 ([a].getD k 0)):=by
 intro k hk;obtain rfl:k=0:=by simp at hk;omega
 simp [go_sem]
theorem fmul_any (a b m:Int) (w:World) :
  Calls Tryz.prog 215 #[.int .i64 a,.int .i64 b,.int .i64 m] w fun e w'=>e=.returned (.tuple #[.int .i64 (fmN a b m),.bool (fmB a b m)])∧Bl w w':=by
 unfold fmN fmB;have M:=mulDiv_any a b 16777216 m;generalize mdN a b 16777216 m=x at *;generalize mdB a b 16777216 m=xb at *;have HM:=hideP M;clear M
 go_enter Tryz.func215,Tryz.ntmps215;go_wp2_with fail
 refine (HM.out _).mono ?_;rintro e w1 ⟨rfl,h1⟩;go_wp2_with fail
 refine (told_any x xb _ 0 [a,b] _ (by simp) (two_cells _ _ _ _)).mono ?_;rintro e w2 ⟨rfl,rfl⟩;go_wp2
 go_ret2
 exact ⟨rfl,h1.alloc _⟩
theorem fdiv_any (a b m:Int) (w:World) :
  Calls Tryz.prog 213 #[.int .i64 a,.int .i64 b,.int .i64 m] w fun e w'=>e=.returned (.tuple #[.int .i64 (fdN a b m),.bool (fdB a b m)])∧Bl w w':=by
 unfold fdN fdB;have M:=mulDiv_any a 16777216 b m;generalize mdN a 16777216 b m=x at *;generalize mdB a 16777216 b m=xb at *;have HM:=hideP M;clear M
 go_enter Tryz.func213,Tryz.ntmps213;go_wp2_with fail
 refine (HM.out _).mono ?_;rintro e w1 ⟨rfl,h1⟩;go_wp2_with fail
 refine (told_any x xb _ 0 [a,b] _ (by simp) (two_cells _ _ _ _)).mono ?_;rintro e w2 ⟨rfl,rfl⟩;go_wp2
 go_ret2
 exact ⟨rfl,h1.alloc _⟩
theorem froot_any (a m:Int) (w:World) :
  Calls Tryz.prog 217 #[.int .i64 a,.int .i64 m] w fun e w'=>e=.returned (.tuple #[.int .i64 (fqN a m),.bool (fqB a m)])∧Bl w w':=by
 unfold fqN fqB;have M:=root_any a 16777216 m;generalize rtN a 16777216 m=x at *;generalize rtB a 16777216 m=xb at *;have HM:=hideP M;clear M
 go_enter Tryz.func217,Tryz.ntmps217;go_wp2_with fail
 refine (HM.out _).mono ?_;rintro e w1 ⟨rfl,h1⟩;go_wp2_with fail
 refine (told_any x xb _ 0 [a] _ (by simp) (one_cell _ _ _)).mono ?_;rintro e w2 ⟨rfl,rfl⟩;go_wp2
 go_ret2
 exact ⟨rfl,h1.alloc _⟩
theorem tup_eq {a b:Int} {p q:Bool} (h:a=b) (k:p=q):Ending.returned (.tuple #[.int .i64 a,.bool p])=.returned (.tuple #[.int .i64 b,.bool q]):=by rw [h,k]
theorem wsum (a b x y:Int) (hx:x=wrap64 y) (hy:frB a=true→frB b=true→-9223372036854775808≤y∧y≤9223372036854775807):(frB x&&allB [a,b])=(frB y&&allB [a,b])∧toN x (frB x&&allB [a,b])=toN y (frB y&&allB [a,b]):=by
 rw [allB2];cases ha:frB a
 ·simp [toN]
 ·cases hb:frB b
  ·simp [toN]
  ·obtain rfl:x=y:=by rw [hx];exact IntWalk.wrap64_in _ (by have:=hy ha hb;omega)
   exact ⟨rfl,rfl⟩
theorem fadd_any (a b:Int) (w:World) :
  Calls Tryz.prog 210 #[.int .i64 a,.int .i64 b] w fun e w'=>e=.returned (.tuple #[.int .i64 (faN a b),.bool (faB a b)])∧Bl w w':=by
 have e:=wsum a b (wrap64 (a+b)) (a+b) rfl (fun ha hb=>by have:=frB_iff.1 ha;have:=frB_iff.1 hb;omega);unfold faN faB;have HE:=hideP e;clear e
 go_enter Tryz.func210,Tryz.ntmps210;go_wp2_with fail
 refine (told_any _ true _ 0 [a,b] _ (by simp) (two_cells _ _ _ _)).mono ?_;rintro e w2 ⟨rfl,rfl⟩;go_wp2
 go_ret2
 exact ⟨tup_eq HE.out.2 HE.out.1,(Bl.refl _).alloc _⟩
theorem fsub_any (a b:Int) (w:World) :
  Calls Tryz.prog 219 #[.int .i64 a,.int .i64 b] w fun e w'=>e=.returned (.tuple #[.int .i64 (fsN a b),.bool (fsB a b)])∧Bl w w':=by
 have e:=wsum a b (wrap64 (a-b)) (a-b) rfl (fun ha hb=>by have:=frB_iff.1 ha;have:=frB_iff.1 hb;omega);unfold fsN fsB;have HE:=hideP e;clear e
 go_enter Tryz.func219,Tryz.ntmps219;go_wp2_with fail
 refine (told_any _ true _ 0 [a,b] _ (by simp) (two_cells _ _ _ _)).mono ?_;rintro e w2 ⟨rfl,rfl⟩;go_wp2
 go_ret2
 exact ⟨tup_eq HE.out.2 HE.out.1,(Bl.refl _).alloc _⟩
def foB (n:Int):Bool:=decide (-67108864≤n)&&decide (n≤67108864)
def foN (n:Int):Int:=toN (n*16777216) (foB n)
theorem of_val (n:Int):(mdB n 16777216 1 1&&frB (mdN n 16777216 1 1))=foB n∧toN (mdN n 16777216 1 1) (mdB n 16777216 1 1&&frB (mdN n 16777216 1 1))=foN n:=by
 cases hr:rightB n
 ·have x:=md_bad n 16777216 1 1 (mdG_bad (.inl hr));rw [x.1,x.2];have hf:foB n=false:=by
   cases h:foB n
   ·rfl
   ·have:-67108864≤n∧n≤67108864:=by simpa [foB] using h
    rw [rightB_eq (by omega)] at hr;cases hr
  unfold foN;rw [hf];exact ⟨rfl,rfl⟩
 ·by_cases hp : rightB (n * 16777216) = true
  ·have x:=md_exact n 16777216 1 (n*16777216) 1 hr (by decide) (by decide) hp (by decide) (by decide) (by omega);rw [x.1,x.2,Bool.true_and];have:frB (n*16777216)=foB n:=by
    unfold frB foB;rw [Bool.eq_iff_iff];simp;omega
   unfold foN;rw [this];exact ⟨rfl,rfl⟩
  ·have hnr:=rightB_iff.1 hr;have hf:foB n=false:=by
    cases h:foB n
    ·rfl
    ·have:-67108864≤n∧n≤67108864:=by simpa [foB] using h
     exact absurd (rightB_eq (by omega)) hp
   have hb:mdB n 16777216 1 1=false:=by
    have hbig:¬ szI n*16777216≤4611686018427387903:=by
     intro h;apply hp;apply rightB_eq;unfold szI at h;split at h<;>omega
    unfold mdB mdC;have e1:szI 16777216=16777216:=rfl;have e2:szI 1=1:=rfl;have hz:=outB_zero (szI n*16777216) 1 (belB n 16777216 1) 1 (by omega);rw [e1,e2,Int.ediv_one,Int.emod_one,hz];have:rdB (upI (szI n*16777216) false)=false:=by
     unfold rdB upI;simp;omega
    rw [this,Bool.and_false]
   unfold foN;rw [hb,hf];exact ⟨rfl,rfl⟩
theorem fof_any (n:Int) (w:World) :
  Calls Tryz.prog 79 #[.int .i64 n] w fun e w'=>e=.returned (.tuple #[.int .i64 (foN n),.bool (foB n)])∧Bl w w':=by
 have e:=of_val n;have M:=mulDiv_any n 16777216 1 1;generalize mdN n 16777216 1 1=x at *;generalize mdB n 16777216 1 1=xb at *;rw [←e.1,←e.2];have HM:=hideP M;clear M e
 go_enter Tryz.func79,Tryz.ntmps79;go_wp2_with fail
 refine (HM.out _).mono ?_;rintro e w1 ⟨rfl,h1⟩;go_wp2_with fail
 refine (told_nil x xb _).mono ?_;rintro e w2 ⟨rfl,rfl⟩;go_wp2
 go_ret2
 exact ⟨rfl,h1⟩
theorem upI_t (c:Int):upI c true=c+1:=rfl
theorem upI_f (c:Int):upI c false=c:=rfl
theorem root_vals (a b:Int) (ha:rightB a=true) (hb:rightB b=true) (hs:¬ a*b<0) :
  ∃ r t:Int,rtF (szI a*szI b)=r∧0≤r∧r≤4611686018427387903∧0≤t∧szI a*szI b=r*r+t∧(0<t→r+1≤4611686018427387903) ∧
   (rtN a b 1=r∧rtB a b 1=true)∧(rtN a b 2=upI r (decide (0<t))∧rtB a b 2=true)∧(rtN a b 0=upI r (decide (r<t))∧rtB a b 0=true):=by
 have sa:=szI_right ha;have sb:=szI_right hb;have hp:=mul_hi sa sb;have hd:decide (a*b<0)=false:=decide_eq_false hs;have g:∀ m,modeB m=true→rtG a b m=true:=fun m hm=>by unfold rtG;rw [ha,hb,hd,hm];rfl
 have g1:=g 1 (by decide);have g2:=g 2 (by decide);have g0:=g 0 (by decide);have hr:=rtF_spec (szI a*szI b) hp.1;have hle:=rtF_le (szI a*szI b) 4611686018427387903 hp.1 (by omega) (by omega);unfold rtN rtB rtC;rw [g1,g2,g0];generalize szI a*szI b=p at *;generalize rtF p=r at *;obtain ⟨r0,r1,r2⟩:=hr;have hup:0<p-r*r→r+1≤4611686018427387903:=by
  intro h;rcases Int.lt_or_le r 4611686018427387903 with k|k
  ·omega
  ·have e:r=4611686018427387903:=by omega
   subst e;omega
 have out0:outB r (p-r*r) (2*r+1) false 0=decide (r<p-r*r):=by
  simp only [outB];rw [if_neg (by decide),if_neg (by decide),decide_eq_false (show ¬ 2*(p-r*r)=2*r+1 by omega),Bool.false_and,Bool.or_false];rw [Bool.eq_iff_iff,decide_eq_true_iff,decide_eq_true_iff];omega
 have out1:outB r (p-r*r) (2*r+1) false 1=false:=by simp [outB]
 have out2:outB r (p-r*r) (2*r+1) false 2=decide (0<p-r*r):=by simp [outB]
 rw [out0,out1,out2];refine ⟨r,p-r*r,rfl,r0,hle,by omega,by omega,hup,?_,?_,?_⟩
 ·rw [upI_f];refine ⟨by rw [if_pos rfl];unfold rdN;rw [if_neg (by omega)];rfl,?_⟩;unfold rdB;simp;omega
 ·by_cases h:0<p-r*r
  ·rw [decide_eq_true h,upI_t];have:=hup h;refine ⟨by rw [if_pos rfl];unfold rdN;rw [if_neg (by omega)];rfl,?_⟩;unfold rdB;simp;omega
  ·rw [decide_eq_false h,upI_f];refine ⟨by rw [if_pos rfl];unfold rdN;rw [if_neg (by omega)];rfl,?_⟩;unfold rdB;simp;omega
 ·by_cases h:r<p-r*r
  ·rw [decide_eq_true h,upI_t];have:=hup (by omega);refine ⟨by rw [if_pos rfl];unfold rdN;rw [if_neg (by omega)];rfl,?_⟩;unfold rdB;simp;omega
  ·rw [decide_eq_false h,upI_f];refine ⟨by rw [if_pos rfl];unfold rdN;rw [if_neg (by omega)];rfl,?_⟩;unfold rdB;simp;omega
theorem root_none (a b m:Int) (h:rtG a b m=false):rtN a b m=0∧rtB a b m=false:=by
 unfold rtN rtB;rw [h];exact ⟨rfl,rfl⟩
theorem rtG_bad {a b m:Int} (h:rightB a=false∨rightB b=false∨a*b<0):rtG a b m=false:=by
 unfold rtG;rcases h with h|h|h
 ·rw [h];simp
 ·rw [h];simp
 ·rw [decide_eq_true h];simp
theorem rdN_of {c:Int} (b:Bool) (h:rdB c=true):rdN c b=if b then -c else c:=by
 unfold rdB at h;unfold rdN;rw [if_neg (by have:=of_decide_eq_true h;omega)]
theorem out_down (q r d:Int) (b:Bool):outB q r d b 1=(b&&decide (0<r)):=by simp [outB]
theorem out_up (q r d:Int) (b:Bool):outB q r d b 2=(!b&&decide (0<r)):=by simp [outB]
def evn (x c:Int):Int:=if 2*(x % c)<c then x/c else if c<2*(x % c) then x/c+1 else x/c+x/c % 2
def rnd (x c m:Int):Int:=if m=1 then x/c else if m=2 then -(-x/c) else evn x c
theorem rnd_down (x c:Int):rnd x c 1=x/c:=rfl
theorem rnd_up (x c:Int):rnd x c 2=-(-x/c):=rfl
theorem rnd_even (x c:Int):rnd x c 0=evn x c:=rfl
theorem mode_cases {m:Int} (h:modeB m=true):m=0∨m=1∨m=2:=by
 simp [modeB] at h;omega
theorem mdG_mode {a b c m:Int} (h:mdG a b c m=true):modeB m=true:=by
 unfold mdG at h;simp only [Bool.and_eq_true] at h;exact h.2
theorem mdB_G {a b c m:Int} (h:mdB a b c m=true):mdG a b c m=true:=by
 unfold mdB at h;simp only [Bool.and_eq_true] at h;exact h.1
theorem mdC_round (a b c m:Int) (hc:0<c) (hm:m=0∨m=1∨m=2):(if belB a b c=true then -(mdC a b c m) else mdC a b c m)=rnd (a*b) c m:=by
 unfold mdC;have hsc:szI c=c:=by unfold szI;rw [if_neg (by omega)]
 have hbel:belB a b c=decide (a*b<0):=by
  unfold belB;rcases (by omega:a*b<0∨a*b=0∨0<a*b) with h|h|h
  ·have:=Int.mul_neg_of_neg_of_pos h hc;rw [decide_eq_true this,decide_eq_true h]
  ·rw [h];simp
  ·have:=Int.mul_pos h hc;rw [decide_eq_false (by omega),decide_eq_false (by omega)]
 rw [szI_mul,hsc,hbel];generalize a*b=x;have e1:=Int.mul_ediv_add_emod (szI x) c;have e2:=Int.emod_nonneg (szI x) (show c≠0 by omega);have e3:=Int.emod_lt_of_pos (szI x) hc;generalize szI x/c=Q at *;generalize szI x % c=R at *;by_cases hx:x<0
 ·have hs:szI x=-x:=by unfold szI;rw [if_pos hx]
  rw [decide_eq_true hx,if_pos rfl];by_cases hR:R=0
  ·subst hR;have hxc:=(Int.ediv_emod_unique hc (a:=x) (q:=-Q) (r:=0)).2 ⟨by rw [Int.mul_neg];omega,by omega,hc⟩;have hnc:=(Int.ediv_emod_unique hc (a:=-x) (q:=Q) (r:=0)).2 ⟨by omega,by omega,hc⟩;rw [outB_zero _ _ _ _ hc];rcases hm with rfl|rfl|rfl
   ·rw [rnd_even];unfold evn;rw [hxc.1,hxc.2,if_pos (by omega)];rfl
   ·rw [rnd_down,hxc.1];rfl
   ·rw [rnd_up,hnc.1];rfl
  ·have hxc:=(Int.ediv_emod_unique hc (a:=x) (q:=-Q-1) (r:=c-R)).2 ⟨by rw [Int.mul_sub,Int.mul_neg,Int.mul_one];omega,by omega,by omega⟩;have hnc:=(Int.ediv_emod_unique hc (a:=-x) (q:=Q) (r:=R)).2 ⟨by omega,by omega,e3⟩;rcases hm with rfl|rfl|rfl
   ·rw [rnd_even];unfold evn;rw [hxc.1,hxc.2];have ho:outB Q R c true 0=(decide (c<2*R)||(decide (2*R=c)&&decide (Q % 2=1))):=by simp [outB]
    rw [ho];rcases (by omega:2*R<c∨2*R=c∨c<2*R) with k|k|k
    ·rw [decide_eq_false (by omega),decide_eq_false (by omega),if_neg (by omega),if_pos (by omega)];simp [upI]
    ·rw [decide_eq_false (by omega),decide_eq_true k,if_neg (by omega),if_neg (by omega)];by_cases o:Q % 2=1
     ·rw [decide_eq_true o];simp [upI];omega
     ·rw [decide_eq_false o];simp [upI];omega
    ·rw [decide_eq_true k,if_pos (by omega)];simp [upI];omega
   ·rw [out_down,rnd_down,hxc.1,decide_eq_true (show 0<R by omega)];simp [upI];omega
   ·rw [out_up,rnd_up,hnc.1];simp [upI]
 ·have hs:szI x=x:=by unfold szI;rw [if_neg hx]
  rw [decide_eq_false hx,if_neg (by simp)];have hxc:=(Int.ediv_emod_unique hc (a:=x) (q:=Q) (r:=R)).2 ⟨by omega,by omega,e3⟩;by_cases hR:R=0
  ·subst hR;have hnc:=(Int.ediv_emod_unique hc (a:=-x) (q:=-Q) (r:=0)).2 ⟨by rw [Int.mul_neg];omega,by omega,hc⟩;rw [outB_zero _ _ _ _ hc];rcases hm with rfl|rfl|rfl
   ·rw [rnd_even];unfold evn;rw [hxc.1,hxc.2,if_pos (by omega)];rfl
   ·rw [rnd_down,hxc.1];rfl
   ·rw [rnd_up,hnc.1];simp [upI]
  ·have hnc:=(Int.ediv_emod_unique hc (a:=-x) (q:=-Q-1) (r:=c-R)).2 ⟨by rw [Int.mul_sub,Int.mul_neg,Int.mul_one];omega,by omega,by omega⟩;rcases hm with rfl|rfl|rfl
   ·rw [rnd_even];unfold evn;rw [hxc.1,hxc.2];have ho:outB Q R c false 0=(decide (c<2*R)||(decide (2*R=c)&&decide (Q % 2=1))):=by simp [outB]
    rw [ho];rcases (by omega:2*R<c∨2*R=c∨c<2*R) with k|k|k
    ·rw [decide_eq_false (by omega),decide_eq_false (by omega),if_pos (by omega)];simp [upI]
    ·rw [decide_eq_false (by omega),decide_eq_true k,if_neg (by omega),if_neg (by omega)];by_cases o:Q % 2=1
     ·rw [decide_eq_true o];simp [upI];omega
     ·rw [decide_eq_false o];simp [upI];omega
    ·rw [decide_eq_true k,if_neg (by omega),if_pos (by omega)];simp [upI]
   ·rw [out_down,rnd_down,hxc.1];simp [upI]
   ·rw [out_up,rnd_up,hnc.1,decide_eq_true (show 0<R by omega)];simp [upI];omega
theorem md_round (a b c m:Int) (hc:0<c) (hb:mdB a b c m=true):mdN a b c m=rnd (a*b) c m:=by
 have hg:=mdB_G hb;have hm:=mode_cases (mdG_mode hg);have hr:rdB (mdC a b c m)=true:=by unfold mdB at hb;simp only [Bool.and_eq_true] at hb;exact hb.2
 unfold mdN;rw [hg,if_pos rfl,rdN_of _ hr];exact mdC_round a b c m hc hm
theorem rnd_mono (x y c m:Int) (hc:0<c) (h:x≤y):rnd x c m≤rnd y c m:=by
 have hd:=Int.ediv_le_ediv hc h;unfold rnd;split
 ·exact hd
 ·split
  ·have:=Int.ediv_le_ediv hc (show -y≤-x by omega);omega
  ·unfold evn;have a1:=Int.mul_ediv_add_emod x c;have a2:=Int.emod_nonneg x (show c≠0 by omega);have a3:=Int.emod_lt_of_pos x hc;have b1:=Int.mul_ediv_add_emod y c;have b2:=Int.emod_nonneg y (show c≠0 by omega);have b3:=Int.emod_lt_of_pos y hc;rcases Int.lt_or_eq_of_le hd with k|k
   ·split<;>split<;>(try split)<;>(try split)<;>omega
   ·rw [k] at a1 ⊢;split<;>split<;>(try split)<;>(try split)<;>omega
theorem fq_bad (a m:Int) (h:frB a=false∨a<0):fqN a m=0∧fqB a m=false:=by
 have hb:fqB a m=false:=by
  unfold fqB;rcases h with h|h
  ·rw [allB1,h,Bool.and_false]
  ·have hg:rtG a 16777216 m=false:=rtG_bad (.inr (.inr (by omega)));rw [(root_none a 16777216 m hg).2];rfl
 exact ⟨by unfold fqN;rw [hb];rfl,hb⟩
theorem sq_small (r t a:Int) (h0:0≤r) (ht:0≤t) (ha:a≤1125899906842624) (h:a*16777216=r*r+t):r≤1000000000000:=by
 rcases Int.lt_or_le 1000000000000 r with k|k
 ·have:=Int.mul_le_mul (Int.le_of_lt k) (Int.le_of_lt k) (by omega) h0;omega
 ·exact k
theorem fq_vals (a:Int) (ha:frB a=true) (h0:0≤a):∃ r t:Int,rtF (szI a*16777216)=r∧0≤r∧r≤1000000000000∧0≤t∧szI a*16777216=r*r+t∧a*16777216=r*r+t∧t≤2*r ∧
  (fqN a 1=r∧fqB a 1=true)∧(fqN a 2=upI r (decide (0<t))∧fqB a 2=true)∧(fqN a 0=upI r (decide (r<t))∧fqB a 0=true):=by
 obtain ⟨b0,b1⟩:=frB_iff.1 ha;obtain ⟨r,t,er,r0,r1,t0,ep,hup,x1,x2,x0⟩:=root_vals a 16777216 (frB_right ha) (by decide) (by omega);have hs:szI a=a:=by unfold szI;rw [if_neg (by omega)]
 have hU:szI 16777216=16777216:=rfl;rw [hU] at er ep;have ea:a*16777216=r*r+t:=by rw [←ep,hs]
 have hr:=sq_small r t a r0 t0 b1 ea;have ht2:t≤2*r:=by
  have:=(rtF_spec (szI a*16777216) (by rw [hs];omega)).2.2;rw [er,ep,Int.add_mul,Int.mul_add] at this;omega
 have hall:allB [a]=true:=by rw [allB1,ha]
 have fin:∀ m x,rtN a 16777216 m=x→rtB a 16777216 m=true→0≤x→x≤1000000000001→fqN a m=x∧fqB a m=true:=by
  intro m x e1 e2 g0 g1;have hb:fqB a m=true:=by unfold fqB;rw [e1,e2,hall,frB_eq (by omega)];rfl
  exact ⟨by unfold fqN;rw [hb,e1];rfl,hb⟩
 have u:∀ o,0≤upI r o∧upI r o≤1000000000001:=fun o=>by cases o<;>simp [upI]<;>omega
 exact ⟨r,t,er,r0,hr,t0,ep,ea,ht2,fin 1 r x1.1 x1.2 r0 (by omega),fin 2 _ x2.1 x2.2 (u _).1 (u _).2,fin 0 _ x0.1 x0.2 (u _).1 (u _).2⟩
theorem fmB_md {a b m:Int} (h:fmB a b m=true):mdB a b 16777216 m=true∧fmN a b m=mdN a b 16777216 m:=by
 have:=h;unfold fmB at this;simp only [Bool.and_eq_true] at this;exact ⟨this.1.1,by unfold fmN;rw [h];rfl⟩
theorem fdB_md {a b m:Int} (h:fdB a b m=true):mdB a 16777216 b m=true∧fdN a b m=mdN a 16777216 b m:=by
 have:=h;unfold fdB at this;simp only [Bool.and_eq_true] at this;exact ⟨this.1.1,by unfold fdN;rw [h];rfl⟩
theorem fqB_ok {a m:Int} (h:fqB a m=true):frB a=true∧0≤a∧modeB m=true:=by
 unfold fqB at h;simp only [Bool.and_eq_true,allB1] at h;refine ⟨h.2,?_,?_⟩
 ·rcases Int.lt_or_le a 0 with k|k
  ·have hb:=(fq_bad a m (.inr k)).2;unfold fqB at hb;rw [h.1.1,h.1.2,allB1,h.2] at hb;cases hb
  ·exact k
 ·have:=h.1.1;unfold rtB rtG at this;simp only [Bool.and_eq_true] at this;exact this.1.2
theorem fq_order (a:Int) (h1:fqB a 1=true) (h0:fqB a 0=true) (h2:fqB a 2=true):fqN a 1≤fqN a 0∧fqN a 0≤fqN a 2∧fqN a 2≤fqN a 1+1:=by
 have ok:=fqB_ok h1;obtain ⟨r,t,er,r0,r1,t0,ep,ea,ht2,x1,x2,x0⟩:=fq_vals a ok.1 ok.2.1;rw [x1.1,x2.1,x0.1];by_cases k:0<t
 ·rw [decide_eq_true k];cases decide (r<t)<;>simp [upI]<;>omega
 ·rw [decide_eq_false k,decide_eq_false (show ¬ r<t by omega)];simp [upI];omega
theorem fmN_bd (a b m:Int):-1125899906842624≤fmN a b m∧fmN a b m≤1125899906842624:=toN_bd _ _ fun h=>by
 unfold fmB at h;simp only [Bool.and_eq_true] at h;exact h.1.2
theorem fdN_bd (a b m:Int):-1125899906842624≤fdN a b m∧fdN a b m≤1125899906842624:=toN_bd _ _ fun h=>by
 unfold fdB at h;simp only [Bool.and_eq_true] at h;exact h.1.2
theorem fqN_bd (a m:Int):-1125899906842624≤fqN a m∧fqN a m≤1125899906842624:=toN_bd _ _ fun h=>by
 unfold fqB at h;simp only [Bool.and_eq_true] at h;exact h.1.2
theorem faN_bd (a b:Int):-1125899906842624≤faN a b∧faN a b≤1125899906842624:=toN_bd _ _ fun h=>by
 unfold faB at h;simp only [Bool.and_eq_true] at h;exact h.1
theorem rtF_mono (p q:Int) (h0:0≤p) (h:p≤q):rtF p≤rtF q:=by
 have a:=rtF_spec p h0;have b:=rtF_spec q (by omega);rcases Int.lt_or_le (rtF q) (rtF p) with k|k
 ·have:=Int.mul_le_mul (show rtF q+1≤rtF p by omega) (show rtF q+1≤rtF p by omega) (by omega) (by omega);omega
 ·exact k
theorem fq_mono (a b m:Int) (h:a≤b) (h1:fqB a m=true) (h2:fqB b m=true):fqN a m≤fqN b m:=by
 have k1:=fqB_ok h1;have k2:=fqB_ok h2;obtain ⟨r,t,er,r0,r1,t0,ep,ea,ht2,x1,x2,x0⟩:=fq_vals a k1.1 k1.2.1;obtain ⟨s,u,es,s0,s1,u0,eq,eb,hu2,y1,y2,y0⟩:=fq_vals b k2.1 k2.2.1;have hrs:r≤s:=by
  have:=rtF_mono (szI a*16777216) (szI b*16777216) (by rw [ep,←ea];omega) (by rw [ep,eq,←ea,←eb];omega);rw [er,es] at this;exact this
 have hle:r*r+t≤s*s+u:=by rw [←ea,←eb];omega
 have key:∀ (o p:Bool),(r=s→o=true→p=true)→upI r o≤upI s p:=by
  intro o p hk;rcases Int.lt_or_eq_of_le hrs with l|l
  ·cases o<;>cases p<;>simp [upI]<;>omega
  ·subst l;cases o<;>cases p<;>simp [upI]<;>first|omega|(exact absurd (hk rfl rfl) (by simp))
 rcases mode_cases k1.2.2 with rfl|rfl|rfl
 ·rw [x0.1,y0.1];refine key _ _ ?_;intro e o;subst e;have:=of_decide_eq_true o;exact decide_eq_true (by omega)
 ·rw [x1.1,y1.1];exact hrs
 ·rw [x2.1,y2.1];refine key _ _ ?_;intro e o;subst e;have:=of_decide_eq_true o;exact decide_eq_true (by omega)
theorem rnd_order (x c:Int) (hc:0<c):rnd x c 1≤rnd x c 0∧rnd x c 0≤rnd x c 2∧rnd x c 2≤rnd x c 1+1:=by
 rw [rnd_down,rnd_up,rnd_even];unfold evn;have a1:=Int.mul_ediv_add_emod x c;have a2:=Int.emod_nonneg x (show c≠0 by omega);have a3:=Int.emod_lt_of_pos x hc;generalize hq:x/c=q at *;generalize hr:x % c=r at *;by_cases h:r=0
 ·subst h;have hn:=(Int.ediv_emod_unique hc (a:=-x) (q:=-q) (r:=0)).2 ⟨by rw [Int.mul_neg];omega,by omega,hc⟩;rw [hn.1,if_pos (by omega)];omega
 ·have hn:=(Int.ediv_emod_unique hc (a:=-x) (q:=-q-1) (r:=c-r)).2 ⟨by rw [Int.mul_sub,Int.mul_neg,Int.mul_one];omega,by omega,by omega⟩;rw [hn.1];split
  ·omega
  ·split<;>omega
theorem rnd_scale (x c k m:Int) (hc:0<c) (hk:0<k):rnd (x*k) (c*k) m=rnd x c m:=by
 have hd:x*k/(c*k)=x/c:=Int.mul_ediv_mul_of_pos_left x c hk;have hn:-(x*k)/(c*k)=-x/c:=by rw [←Int.neg_mul];exact Int.mul_ediv_mul_of_pos_left (-x) c hk
 have hm:x*k % (c*k)=x % c*k:=by
  rw [Int.mul_comm x k,Int.mul_comm c k,Int.mul_emod_mul_of_pos _ _ hk,Int.mul_comm]
 unfold rnd evn;rw [hd,hn,hm];have h1:(2*(x % c*k)<c*k)↔(2*(x % c)<c):=by
  rw [←Int.mul_assoc];exact Int.mul_lt_mul_right hk
 have h2:(c*k<2*(x % c*k))↔(c<2*(x % c)):=by
  rw [←Int.mul_assoc];exact Int.mul_lt_mul_right hk
 simp only [h1,h2]
theorem rnd_cross (x c y d m:Int) (hc:0<c) (hd:0<d) (h:x*d≤y*c):rnd x c m≤rnd y d m:=by
 rw [←rnd_scale x c d m hc hd,←rnd_scale y d c m hd hc,Int.mul_comm d c];exact rnd_mono _ _ _ _ (Int.mul_pos hc hd) h
theorem md_told (a b c m:Int) (hc:0<c) (hg:mdG a b c m=true) (hf:frB (rnd (a*b) c m)=true):mdB a b c m=true∧mdN a b c m=rnd (a*b) c m:=by
 have hm:=mode_cases (mdG_mode hg);have e:=mdC_round a b c m hc hm;have hr:rdB (mdC a b c m)=true:=by
  have k:=frB_iff.1 hf;unfold rdB;apply decide_eq_true;split at e<;>omega
 have hb:mdB a b c m=true:=by unfold mdB;rw [hg,hr];rfl
 exact ⟨hb,md_round a b c m hc hb⟩
theorem md_neg (a b c m:Int):mdN (-a) b (-c) m=mdN a b c m∧mdB (-a) b (-c) m=mdB a b c m:=by
 have s1:szI (-a)=szI a:=by unfold szI;split<;>split<;>omega
 have s2:szI (-c)=szI c:=by unfold szI;split<;>split<;>omega
 have hbel:belB (-a) b (-c)=belB a b c:=by unfold belB;rw [Int.neg_mul,Int.neg_mul,Int.mul_neg,Int.neg_neg]
 have hg:mdG (-a) b (-c) m=mdG a b c m:=by
  have hz:(-c==0)=(c==0):=by rw [Bool.eq_iff_iff];simp
  unfold mdG;rw [right_neg,right_neg,hz]
 have hC:mdC (-a) b (-c) m=mdC a b c m:=by unfold mdC;rw [s1,s2,hbel]
 constructor
 ·unfold mdN;rw [hg,hC,hbel]
 ·unfold mdB;rw [hg,hC]
def MD (m:Int):Prop:=m=0∨m=1∨m=2
theorem MD.b {m:Int} (h:MD m):modeB m=true:=by rcases h with rfl|rfl|rfl<;>rfl
theorem fm_inv {a b m:Int} (h:fmB a b m=true):frB a=true∧frB b=true∧fmN a b m=rnd (a*b) 16777216 m∧frB (rnd (a*b) 16777216 m)=true:=by
 have x:=fmB_md h;have r:=md_round _ _ _ _ (by decide) x.1;have k:=h;unfold fmB at k;rw [allB2] at k;simp only [Bool.and_eq_true] at k;rw [r] at k x;exact ⟨k.2.1,k.2.2,x.2,k.1.2⟩
theorem fm_told {a b m:Int} (ha:frB a=true) (hb:frB b=true) (hm:MD m) (hf:frB (rnd (a*b) 16777216 m)=true):fmB a b m=true∧fmN a b m=rnd (a*b) 16777216 m:=by
 have hg:mdG a b 16777216 m=true:=by unfold mdG;rw [frB_right ha,frB_right hb,hm.b];rfl
 have x:=md_told a b 16777216 m (by decide) hg hf;have hB:fmB a b m=true:=by unfold fmB;rw [x.1,x.2,hf,allB2,ha,hb];rfl
 exact ⟨hB,by unfold fmN;rw [hB,x.2];rfl⟩
def qn (a b:Int):Int:=if b<0 then -a*16777216 else a*16777216
theorem qn_neg {a b:Int} (h:b<0):qn a b=-a*16777216:=if_pos h
theorem qn_pos {a b:Int} (h:¬ b<0):qn a b=a*16777216:=if_neg h
theorem szI_neg' {b:Int} (h:b<0):szI b=-b:=if_pos h
theorem szI_pos' {b:Int} (h:¬ b<0):szI b=b:=if_neg h
theorem md_quot (a b m:Int) (hz:b≠0) (h:mdB a 16777216 b m=true):mdN a 16777216 b m=rnd (qn a b) (szI b) m:=by
 by_cases hb:b<0
 ·have n:=md_neg a 16777216 b m;rw [←n.2] at h;rw [←n.1,qn_neg hb,szI_neg' hb,md_round _ _ _ _ (by omega) h]
 ·rw [qn_pos hb,szI_pos' hb,md_round _ _ _ _ (by omega) h]
theorem fd_inv {a b m:Int} (h:fdB a b m=true):frB a=true∧frB b=true∧b≠0∧fdN a b m=rnd (qn a b) (szI b) m∧frB (rnd (qn a b) (szI b) m)=true:=by
 have x:=fdB_md h;have hz:b≠0:=by
  have:=mdB_G x.1;intro e;rw [e] at this;simp [mdG] at this
 have r:=md_quot a b m hz x.1;have k:=h;unfold fdB at k;rw [allB2] at k;simp only [Bool.and_eq_true] at k;rw [r] at k x;exact ⟨k.2.1,k.2.2,hz,x.2,k.1.2⟩
theorem md_qtold (a b m:Int) (hz:b≠0) (hg:mdG a 16777216 b m=true) (hf:frB (rnd (qn a b) (szI b) m)=true):mdB a 16777216 b m=true∧mdN a 16777216 b m=rnd (qn a b) (szI b) m:=by
 by_cases hb:b<0
 ·rw [qn_neg hb,szI_neg' hb] at hf ⊢;have n:=md_neg a 16777216 b m;rw [←n.1,←n.2];refine md_told (-a) 16777216 (-b) m (by omega) ?_ hf;have hz:(-b==0)=(b==0):=by rw [Bool.eq_iff_iff];simp
  rw [←hg];unfold mdG;rw [right_neg,right_neg,hz]
 ·rw [qn_pos hb,szI_pos' hb] at hf ⊢;exact md_told a 16777216 b m (by omega) hg hf
theorem fd_told {a b m:Int} (ha:frB a=true) (hb:frB b=true) (hz:b≠0) (hm:MD m) (hf:frB (rnd (qn a b) (szI b) m)=true):fdB a b m=true∧fdN a b m=rnd (qn a b) (szI b) m:=by
 have hz':(b==0)=false:=by simpa using hz
 have hg:mdG a 16777216 b m=true:=by unfold mdG;rw [frB_right ha,frB_right hb,hm.b,hz'];rfl
 have x:=md_qtold a b m hz hg hf;have hB:fdB a b m=true:=by unfold fdB;rw [x.1,x.2,hf,allB2,ha,hb];rfl
 exact ⟨hB,by unfold fdN;rw [hB,x.2];rfl⟩
structure En where
 v:Int
 l:Int
 h:Int
 bad:Bool
def wrongE:En:=⟨0,0,0,true⟩
def ptE (n:Int):Bool→En
 |true=>⟨n,n,n,false⟩
 |false=>wrongE
def fineB (a:En):Bool := !a.bad&&decide (a.l≤a.v)&&decide (a.v≤a.h)&&frB a.l&&frB a.h
theorem fineB_iff {a:En}:fineB a=true↔a.bad=false∧a.l≤a.v∧a.v≤a.h∧frB a.l=true∧frB a.h=true:=by
 unfold fineB;simp [Bool.and_eq_true,and_assoc]
def lowF (N:Int→Int→Int→Int) (ps:List (Int×Int)):Int:=ps.foldl (fun x p=>min x (N p.1 p.2 1)) 1125899906842624
def highF (N:Int→Int→Int→Int) (ps:List (Int×Int)):Int:=ps.foldl (fun x p=>max x (N p.1 p.2 2)) (-1125899906842624)
def okF (B:Int→Int→Int→Bool) (ps:List (Int×Int)):Bool:=ps.all fun p=>B p.1 p.2 1&&B p.1 p.2 2
def okE (B:Int→Int→Int→Bool) (a b:En) (ps:List (Int×Int)):Bool:=B a.v b.v 0&&fineB a&&fineB b&&okF B ps
def toldE (N:Int→Int→Int→Int) (B:Int→Int→Int→Bool) (a b:En) (ps:List (Int×Int)):En:=
 if okE B a b ps then ⟨N a.v b.v 0,lowF N ps,highF N ps,false⟩ else wrongE
def prs2 (a b:En):List (Int×Int):=[(a.l,b.l),(a.h,b.h)]
def prsX (a b:En):List (Int×Int):=[(a.l,b.h),(a.h,b.l)]
def prs4 (a b:En):List (Int×Int):=[(a.l,b.l),(a.l,b.h),(a.h,b.l),(a.h,b.h)]
def nA (a b _m:Int):Int:=faN a b
def bA (a b _m:Int):Bool:=faB a b
def nS (a b _m:Int):Int:=fsN a b
def bS (a b _m:Int):Bool:=fsB a b
def nQ (a _b m:Int):Int:=fqN a m
def bQ (a _b m:Int):Bool:=fqB a m
def addE (a b:En):En:=toldE nA bA a b (prs2 a b)
def subE (a b:En):En:=toldE nS bS a b (prsX a b)
def mulE (a b:En):En:=toldE fmN fmB a b (prs4 a b)
def zeroB (b:En):Bool:=decide (b.l≤0)&&decide (0≤b.h)
def divE (a b:En):En:=if zeroB b then wrongE else toldE fdN fdB a b (prs4 a b)
def rootE (a:En):En:=toldE nQ bQ a a (prs2 a a)
theorem foldl_min (f:Int×Int→Int):∀ (ps:List (Int×Int)) (i:Int),ps.foldl (fun x p=>min x (f p)) i≤i∧(∀ p∈ps,ps.foldl (fun x p=>min x (f p)) i≤f p)∧(∀ c,c≤i→(∀ p∈ps,c≤f p)→c≤ps.foldl (fun x p=>min x (f p)) i)
 |[],i=>⟨Int.le_refl _,fun _ h=>by simp at h,fun _ h _=>h⟩
 |q::ps,i=>by
  obtain ⟨h1,h2,h3⟩:=foldl_min f ps (min i (f q));simp only [List.foldl_cons];refine ⟨by omega,?_,?_⟩
  ·intro p hp;rcases List.mem_cons.1 hp with rfl|hp
   ·omega
   ·exact h2 p hp
  ·intro c hc hall;refine h3 c ?_ fun p hp=>hall p (List.mem_cons_of_mem _ hp)
   have:=hall q List.mem_cons_self;omega
theorem foldl_max (f:Int×Int→Int):∀ (ps:List (Int×Int)) (i:Int),i≤ps.foldl (fun x p=>max x (f p)) i∧(∀ p∈ps,f p≤ps.foldl (fun x p=>max x (f p)) i)∧(∀ c,i≤c→(∀ p∈ps,f p≤c)→ps.foldl (fun x p=>max x (f p)) i≤c)
 |[],i=>⟨Int.le_refl _,fun _ h=>by simp at h,fun _ h _=>h⟩
 |q::ps,i=>by
  obtain ⟨h1,h2,h3⟩:=foldl_max f ps (max i (f q));simp only [List.foldl_cons];refine ⟨by omega,?_,?_⟩
  ·intro p hp;rcases List.mem_cons.1 hp with rfl|hp
   ·omega
   ·exact h2 p hp
  ·intro c hc hall;refine h3 c ?_ fun p hp=>hall p (List.mem_cons_of_mem _ hp)
   have:=hall q List.mem_cons_self;omega
def Bd (N:Int→Int→Int→Int):Prop:=∀ a b m,-1125899906842624≤N a b m∧N a b m≤1125899906842624
theorem fsN_bd (a b:Int):-1125899906842624≤fsN a b∧fsN a b≤1125899906842624:=toN_bd _ _ fun h=>by
 unfold fsB at h;simp only [Bool.and_eq_true] at h;exact h.1
theorem bdA:Bd nA:=fun a b _=>faN_bd a b
theorem bdS:Bd nS:=fun a b _=>fsN_bd a b
theorem bdM:Bd fmN:=fmN_bd
theorem bdD:Bd fdN:=fdN_bd
theorem bdQ:Bd nQ:=fun a _ m=>fqN_bd a m
theorem low_bd {N:Int→Int→Int→Int} (hN:Bd N) (ps:List (Int×Int)):-1125899906842624≤lowF N ps∧lowF N ps≤1125899906842624:=by
 obtain ⟨h1,h2,h3⟩:=foldl_min (fun p=>N p.1 p.2 1) ps 1125899906842624;exact ⟨h3 _ (by omega) fun p _=>(hN _ _ _).1,h1⟩
theorem high_bd {N:Int→Int→Int→Int} (hN:Bd N) (ps:List (Int×Int)):-1125899906842624≤highF N ps∧highF N ps≤1125899906842624:=by
 obtain ⟨h1,h2,h3⟩:=foldl_max (fun p=>N p.1 p.2 2) ps (-1125899906842624);exact ⟨h1,h3 _ (by omega) fun p _=>(hN _ _ _).2⟩
theorem low_le {N:Int→Int→Int→Int} {ps:List (Int×Int)} {p:Int×Int} (h:p∈ps):lowF N ps≤N p.1 p.2 1:=(foldl_min (fun p=>N p.1 p.2 1) ps 1125899906842624).2.1 p h
theorem le_high {N:Int→Int→Int→Int} {ps:List (Int×Int)} {p:Int×Int} (h:p∈ps):N p.1 p.2 2≤highF N ps:=(foldl_max (fun p=>N p.1 p.2 2) ps (-1125899906842624)).2.1 p h
theorem ok_at {B:Int→Int→Int→Bool} {ps:List (Int×Int)} {p:Int×Int} (h:okF B ps=true) (hp:p∈ps):B p.1 p.2 1=true∧B p.1 p.2 2=true:=by
 have:=List.all_eq_true.1 h p hp;simpa [Bool.and_eq_true] using this
structure Hold (N:Int→Int→Int→Int) (B:Int→Int→Int→Bool) (ps:List (Int×Int)) (x y:Int):Prop where
 told:∀ m,MD m→B x y m=true
 low:lowF N ps≤N x y 1
 down:N x y 1≤N x y 0
 up:N x y 0≤N x y 2
 high:N x y 2≤highF N ps
def inB (a:En) (x:Int):Prop:=a.l≤x∧x≤a.h
theorem in_fr {a:En} (h:fineB a=true) {x:Int} (k:inB a x):frB x=true:=by
 obtain ⟨_,_,_,h1,h2⟩:=fineB_iff.1 h;have:=frB_iff.1 h1;have:=frB_iff.1 h2;unfold inB at k;exact frB_eq (by omega)
theorem in_v {a:En} (h:fineB a=true):inB a a.v:=by
 obtain ⟨_,h1,h2,_,_⟩:=fineB_iff.1 h;exact ⟨h1,h2⟩
theorem fa_val {a b:Int} (h:faB a b=true):faN a b=a+b∧frB (a+b)=true:=by
 have k:=h;unfold faB at k;rw [Bool.and_eq_true] at k;exact ⟨by unfold faN;rw [h];rfl,k.1⟩
theorem fa_told {a b:Int} (ha:frB a=true) (hb:frB b=true) (h:frB (a+b)=true):faB a b=true∧faN a b=a+b:=by
 have k:faB a b=true:=by unfold faB;rw [h,allB2,ha,hb];rfl
 exact ⟨k,by unfold faN;rw [k];rfl⟩
theorem fs_val {a b:Int} (h:fsB a b=true):fsN a b=a-b∧frB (a-b)=true:=by
 have k:=h;unfold fsB at k;rw [Bool.and_eq_true] at k;exact ⟨by unfold fsN;rw [h];rfl,k.1⟩
theorem fs_told {a b:Int} (ha:frB a=true) (hb:frB b=true) (h:frB (a-b)=true):fsB a b=true∧fsN a b=a-b:=by
 have k:fsB a b=true:=by unfold fsB;rw [h,allB2,ha,hb];rfl
 exact ⟨k,by unfold fsN;rw [k];rfl⟩
theorem hold_add {a b:En} (ha:fineB a=true) (hb:fineB b=true) (ho:okF bA (prs2 a b)=true) {x y:Int} (hx:inB a x) (hy:inB b y):Hold nA bA (prs2 a b) x y:=by
 have m1:(a.l,b.l)∈prs2 a b:=by simp [prs2]
 have m2:(a.h,b.h)∈prs2 a b:=by simp [prs2]
 have v1:=fa_val (ok_at ho m1).1;have v2:=fa_val (ok_at ho m2).1;have g1:=frB_iff.1 v1.2;have g2:=frB_iff.1 v2.2;have hx':=hx;have hy':=hy;unfold inB at hx' hy';have t:=fa_told (in_fr ha hx) (in_fr hb hy) (frB_eq (by omega));have l1:=low_le (N:=nA) m1;have l2:=le_high (N:=nA) m2;unfold nA at l1 l2;simp only at l1 l2 v1 v2;rw [v1.1] at l1;rw [v2.1] at l2;refine ⟨fun _ _=>t.1,?_,Int.le_refl _,Int.le_refl _,?_⟩
 ·show lowF nA (prs2 a b)≤faN x y;rw [t.2];exact Int.le_trans l1 (by omega)
 ·show faN x y≤highF nA (prs2 a b);rw [t.2];exact Int.le_trans (by omega) l2
theorem hold_sub {a b:En} (ha:fineB a=true) (hb:fineB b=true) (ho:okF bS (prsX a b)=true) {x y:Int} (hx:inB a x) (hy:inB b y):Hold nS bS (prsX a b) x y:=by
 have m1:(a.l,b.h)∈prsX a b:=by simp [prsX]
 have m2:(a.h,b.l)∈prsX a b:=by simp [prsX]
 have v1:=fs_val (ok_at ho m1).1;have v2:=fs_val (ok_at ho m2).1;have g1:=frB_iff.1 v1.2;have g2:=frB_iff.1 v2.2;have hx':=hx;have hy':=hy;unfold inB at hx' hy';have t:=fs_told (in_fr ha hx) (in_fr hb hy) (frB_eq (by omega));have l1:=low_le (N:=nS) m1;have l2:=le_high (N:=nS) m2;unfold nS at l1 l2;simp only at l1 l2 v1 v2;rw [v1.1] at l1;rw [v2.1] at l2;refine ⟨fun _ _=>t.1,?_,Int.le_refl _,Int.le_refl _,?_⟩
 ·show lowF nS (prsX a b)≤fsN x y;rw [t.2];exact Int.le_trans l1 (by omega)
 ·show fsN x y≤highF nS (prsX a b);rw [t.2];exact Int.le_trans (by omega) l2
theorem lin (l h t k:Int) (h1:l≤t) (h2:t≤h):(l*k≤t*k∨h*k≤t*k)∧(t*k≤l*k∨t*k≤h*k):=by
 rcases Int.le_total 0 k with hk|hk
 ·exact ⟨.inl (Int.mul_le_mul_of_nonneg_right h1 hk),.inr (Int.mul_le_mul_of_nonneg_right h2 hk)⟩
 ·exact ⟨.inr (Int.mul_le_mul_of_nonpos_right h2 hk),.inl (Int.mul_le_mul_of_nonpos_right h1 hk)⟩
theorem corners {a b:En} {x y:Int} (hx:inB a x) (hy:inB b y):(∃ p∈prs4 a b,p.1*p.2≤x*y)∧(∃ p∈prs4 a b,x*y≤p.1*p.2):=by
 have m1:(a.l,b.l)∈prs4 a b:=by simp [prs4]
 have m2:(a.l,b.h)∈prs4 a b:=by simp [prs4]
 have m3:(a.h,b.l)∈prs4 a b:=by simp [prs4]
 have m4:(a.h,b.h)∈prs4 a b:=by simp [prs4]
 have ky:=lin b.l b.h y x hy.1 hy.2;rw [Int.mul_comm y x,Int.mul_comm b.l x,Int.mul_comm b.h x] at ky;have kl:=lin a.l a.h x b.l hx.1 hx.2;have kh:=lin a.l a.h x b.h hx.1 hx.2;constructor
 ·rcases ky.1 with h|h
  ·rcases kl.1 with k|k
   ·exact ⟨_,m1,Int.le_trans k h⟩
   ·exact ⟨_,m3,Int.le_trans k h⟩
  ·rcases kh.1 with k|k
   ·exact ⟨_,m2,Int.le_trans k h⟩
   ·exact ⟨_,m4,Int.le_trans k h⟩
 ·rcases ky.2 with h|h
  ·rcases kl.2 with k|k
   ·exact ⟨_,m1,Int.le_trans h k⟩
   ·exact ⟨_,m3,Int.le_trans h k⟩
  ·rcases kh.2 with k|k
   ·exact ⟨_,m2,Int.le_trans h k⟩
   ·exact ⟨_,m4,Int.le_trans h k⟩
theorem hold_mul {a b:En} (ha:fineB a=true) (hb:fineB b=true) (ho:okF fmB (prs4 a b)=true) {x y:Int} (hx:inB a x) (hy:inB b y):Hold fmN fmB (prs4 a b) x y:=by
 obtain ⟨⟨p,mp,kp⟩,⟨q,mq,kq⟩⟩:=corners hx hy;have vp:=fm_inv (ok_at ho mp).1;have vq:=fm_inv (ok_at ho mq).2;have o:=rnd_order (x*y) 16777216 (by decide);have r1:=rnd_mono _ _ 16777216 1 (by decide) kp;have r2:=rnd_mono _ _ 16777216 2 (by decide) kq;have f1:=frB_iff.1 vp.2.2.2;have f2:=frB_iff.1 vq.2.2.2;have t:∀ m,MD m→fmB x y m=true∧fmN x y m=rnd (x*y) 16777216 m:=by
  intro m hm;refine fm_told (in_fr ha hx) (in_fr hb hy) hm (frB_eq ?_);rcases hm with rfl|rfl|rfl<;>omega
 have l1:=low_le (N:=fmN) mp;have l2:=le_high (N:=fmN) mq;rw [vp.2.2.1] at l1;rw [vq.2.2.1] at l2;refine ⟨fun m hm=>(t m hm).1,?_,?_,?_,?_⟩
 ·rw [(t 1 (.inr (.inl rfl))).2];omega
 ·rw [(t 1 (.inr (.inl rfl))).2,(t 0 (.inl rfl)).2];omega
 ·rw [(t 0 (.inl rfl)).2,(t 2 (.inr (.inr rfl))).2];omega
 ·rw [(t 2 (.inr (.inr rfl))).2];omega
theorem quots (al ah bl bh x y:Int) (h0:0<bl) (h1:al≤x) (h2:x≤ah) (h3:bl≤y) (h4:y≤bh) :
  (al*y≤x*bl∨al*y≤x*bh)∧(x*bl≤ah*y∨x*bh≤ah*y):=by
 constructor
 ·rcases Int.le_total 0 al with h|h
  ·right
   exact Int.le_trans (Int.mul_le_mul_of_nonneg_left h4 h) (Int.mul_le_mul_of_nonneg_right h1 (by omega))
  ·left
   exact Int.le_trans (Int.mul_le_mul_of_nonpos_left h h3) (Int.mul_le_mul_of_nonneg_right h1 (by omega))
 ·rcases Int.le_total 0 ah with h|h
  ·left
   exact Int.le_trans (Int.mul_le_mul_of_nonneg_right h2 (by omega)) (Int.mul_le_mul_of_nonneg_left h3 h)
  ·right
   exact Int.le_trans (Int.mul_le_mul_of_nonneg_right h2 (by omega)) (Int.mul_le_mul_of_nonpos_left h h4)
theorem scl {p q r s:Int} (h:p*q≤r*s):p*16777216*q≤r*16777216*s:=by
 rw [Int.mul_right_comm p,Int.mul_right_comm r];exact Int.mul_le_mul_of_nonneg_right h (by decide)
theorem qcorners {a b:En} {x y:Int} (hz:zeroB b=false) (hx:inB a x) (hy:inB b y) :
  (∃ p∈prs4 a b,qn p.1 p.2*szI y≤qn x y*szI p.2)∧(∃ p∈prs4 a b,qn x y*szI p.2≤qn p.1 p.2*szI y):=by
 have m1:(a.l,b.l)∈prs4 a b:=by simp [prs4]
 have m2:(a.l,b.h)∈prs4 a b:=by simp [prs4]
 have m3:(a.h,b.l)∈prs4 a b:=by simp [prs4]
 have m4:(a.h,b.h)∈prs4 a b:=by simp [prs4]
 unfold inB at hx hy;have hside:0<b.l∨b.h<0:=by
  unfold zeroB at hz;rw [Bool.and_eq_false_iff] at hz;rcases hz with h|h
  ·have:=of_decide_eq_false h;omega
  ·have:=of_decide_eq_false h;omega
 rcases hside with h0|h0
 ·have e1:∀ z,qn z b.l=z*16777216:=fun z=>qn_pos (by omega)
  have e2:∀ z,qn z b.h=z*16777216:=fun z=>qn_pos (by omega)
  have e3:qn x y=x*16777216:=qn_pos (by omega);have s1:szI b.l=b.l:=szI_pos' (by omega);have s2:szI b.h=b.h:=szI_pos' (by omega);have s3:szI y=y:=szI_pos' (by omega);have k:=quots a.l a.h b.l b.h x y h0 hx.1 hx.2 hy.1 hy.2;constructor
  ·rcases k.1 with h|h
   ·refine ⟨_,m1,?_⟩;simp only [e1,e3,s1,s3];exact scl h
   ·refine ⟨_,m2,?_⟩;simp only [e2,e3,s2,s3];exact scl h
  ·rcases k.2 with h|h
   ·refine ⟨_,m3,?_⟩;simp only [e1,e3,s1,s3];exact scl h
   ·refine ⟨_,m4,?_⟩;simp only [e2,e3,s2,s3];exact scl h
 ·have e1:∀ z,qn z b.l=-z*16777216:=fun z=>qn_neg (by omega)
  have e2:∀ z,qn z b.h=-z*16777216:=fun z=>qn_neg (by omega)
  have e3:qn x y=-x*16777216:=qn_neg (by omega);have s1:szI b.l=-b.l:=szI_neg' (by omega);have s2:szI b.h=-b.h:=szI_neg' (by omega);have s3:szI y=-y:=szI_neg' (by omega);have k:=quots (-a.h) (-a.l) (-b.h) (-b.l) (-x) (-y) (by omega) (by omega) (by omega) (by omega) (by omega);constructor
  ·rcases k.1 with h|h
   ·refine ⟨_,m4,?_⟩;simp only [e2,e3,s2,s3];exact scl h
   ·refine ⟨_,m3,?_⟩;simp only [e1,e3,s1,s3];exact scl h
  ·rcases k.2 with h|h
   ·refine ⟨_,m2,?_⟩;simp only [e2,e3,s2,s3];exact scl h
   ·refine ⟨_,m1,?_⟩;simp only [e1,e3,s1,s3];exact scl h
theorem szI_pp {b:Int} (h:b≠0):0<szI b:=by unfold szI;split<;>omega
theorem hold_div {a b:En} (ha:fineB a=true) (hb:fineB b=true) (hz:zeroB b=false) (ho:okF fdB (prs4 a b)=true) {x y:Int} (hx:inB a x) (hy:inB b y):Hold fdN fdB (prs4 a b) x y:=by
 obtain ⟨⟨p,mp,kp⟩,⟨q,mq,kq⟩⟩:=qcorners hz hx hy;have vp:=fd_inv (ok_at ho mp).1;have vq:=fd_inv (ok_at ho mq).2;have y0:y≠0:=by
  unfold inB at hy;unfold zeroB at hz;rw [Bool.and_eq_false_iff] at hz;rcases hz with h|h
  ·have:=of_decide_eq_false h;omega
  ·have:=of_decide_eq_false h;omega
 have sy:=szI_pp y0;have sp:=szI_pp vp.2.2.1;have sq:=szI_pp vq.2.2.1;have o:=rnd_order (qn x y) (szI y) sy;have r1:=rnd_cross _ _ _ _ 1 sp sy kp;have r2:=rnd_cross _ _ _ _ 2 sy sq kq;have f1:=frB_iff.1 vp.2.2.2.2;have f2:=frB_iff.1 vq.2.2.2.2;have t:∀ m,MD m→fdB x y m=true∧fdN x y m=rnd (qn x y) (szI y) m:=by
  intro m hm;refine fd_told (in_fr ha hx) (in_fr hb hy) y0 hm (frB_eq ?_);rcases hm with rfl|rfl|rfl<;>omega
 have l1:=low_le (N:=fdN) mp;have l2:=le_high (N:=fdN) mq;rw [vp.2.2.2.1] at l1;rw [vq.2.2.2.1] at l2;refine ⟨fun m hm=>(t m hm).1,?_,?_,?_,?_⟩
 ·rw [(t 1 (.inr (.inl rfl))).2];omega
 ·rw [(t 1 (.inr (.inl rfl))).2,(t 0 (.inl rfl)).2];omega
 ·rw [(t 0 (.inl rfl)).2,(t 2 (.inr (.inr rfl))).2];omega
 ·rw [(t 2 (.inr (.inr rfl))).2];omega
theorem fqB_told {a m:Int} (ha:frB a=true) (h0:0≤a) (hm:MD m):fqB a m=true:=by
 obtain ⟨r,t,er,r0,r1,t0,ep,ea,ht2,x1,x2,x0⟩:=fq_vals a ha h0;rcases hm with rfl|rfl|rfl
 ·exact x0.2
 ·exact x1.2
 ·exact x2.2
theorem hold_root {a:En} (ha:fineB a=true) (ho:okF bQ (prs2 a a)=true) {x y:Int} (hx:inB a x):Hold nQ bQ (prs2 a a) x y:=by
 have m1:(a.l,a.l)∈prs2 a a:=by simp [prs2]
 have m2:(a.h,a.h)∈prs2 a a:=by simp [prs2]
 have v1:=(ok_at ho m1).1;have v2:=(ok_at ho m2).2;have l1:=low_le (N:=nQ) m1;have l2:=le_high (N:=nQ) m2;simp only [bQ,nQ] at v1 v2 l1 l2;have k1:=fqB_ok v1;have t:∀ m,MD m→fqB x m=true:=fun m hm=>fqB_told (in_fr ha hx) (by unfold inB at hx;omega) hm
 have t1:=t 1 (.inr (.inl rfl));have t0:=t 0 (.inl rfl);have t2:=t 2 (.inr (.inr rfl));have o:=fq_order x t1 t0 t2;have r1:=fq_mono _ _ 1 hx.1 v1 t1;have r2:=fq_mono _ _ 2 hx.2 t2 v2;generalize hP:lowF nQ (prs2 a a)=P at *;generalize hQ:highF nQ (prs2 a a)=Q at *;refine ⟨?_,?_,?_,?_,?_⟩
 ·intro m hm;simp only [bQ];exact t m hm
 ·rw [hP];simp only [nQ];omega
 ·simp only [nQ];omega
 ·simp only [nQ];omega
 ·rw [hQ];simp only [nQ];omega
abbrev enV (x:En):Value:=.agg #[.int .i64 x.v,.int .i64 x.l,.int .i64 x.h,.bool x.bad]
theorem wrong_any (w:World) :
  Calls Tryz.prog 110 #[] w fun e w'=>e=.returned (enV wrongE)∧Bl w w':=by
 go_enter Tryz.func110,Tryz.ntmps110;go_wp2;simp [bodyPost,results,Tryz.results110,go_sem,wrongE];exact (Bl.refl _).alloc _
structure Box (w:World) (b:Nat) (x:En):Prop where
 c0:w.cell? ⟨b,0,none⟩=some (.int .i64 x.v)
 c1:w.cell? ⟨b,1,none⟩=some (.int .i64 x.l)
 c2:w.cell? ⟨b,2,none⟩=some (.int .i64 x.h)
 c3:w.cell? ⟨b,3,none⟩=some (.bool x.bad)
 f0:w.frozen? ⟨b,0,none⟩=false
 f1:w.frozen? ⟨b,1,none⟩=false
 f2:w.frozen? ⟨b,2,none⟩=false
 f3:w.frozen? ⟨b,3,none⟩=false
 lt:b<w.heap.size
theorem Box.later {w w':World} {b:Nat} {x:En} (h:Box w b x) (k:Bl w w'):Box w' b x:=by
 have:=h.lt;refine ⟨?_,?_,?_,?_,?_,?_,?_,?_,by have:=Below.size k;omega⟩
 ·rw [bl_cell k _ _ this];exact h.c0
 ·rw [bl_cell k _ _ this];exact h.c1
 ·rw [bl_cell k _ _ this];exact h.c2
 ·rw [bl_cell k _ _ this];exact h.c3
 ·rw [bl_froz k _ _ this];exact h.f0
 ·rw [bl_froz k _ _ this];exact h.f1
 ·rw [bl_froz k _ _ this];exact h.f2
 ·rw [bl_froz k _ _ this];exact h.f3
theorem Box.new (w:World) (x:En) (t:TypeId):Box (w.alloc (.cells #[.int .i64 x.v,.int .i64 x.l,.int .i64 x.h,.bool x.bad] t)) w.heap.size x:=by
 refine ⟨?_,?_,?_,?_,?_,?_,?_,?_,by simp⟩<;>simp [go_sem]
theorem Bl.set4 {a b:World} (h:Bl a b) {n:Nat} (hn:a.heap.size≤n) (v0 v1 v2 v3:Value):Bl a ((((b.setCell ⟨n,0,none⟩ v0).setCell ⟨n,1,none⟩ v1).setCell ⟨n,2,none⟩ v2).setCell ⟨n,3,none⟩ v3):=
 Bl.set (Bl.set (Bl.set (Bl.set h hn _) hn _) hn _) hn _
def zeroE:En:=⟨0,0,0,false⟩
theorem point_any (n:Int) (is:Bool) (w:World) :
  Calls Tryz.prog 62 #[.int .i64 n,.bool is] w fun e w'=>e=.returned (enV (ptE n is))∧Bl w w':=by
 cases is
 ·obtain ⟨W,hW⟩:∃ W,W=w.alloc (.cells #[.int .i64 0,.int .i64 0,.int .i64 0,.bool false] 52):=⟨_,rfl⟩;have b0:Bl w W:=by rw [hW];exact (Bl.refl _).alloc _
  have x0:Box W w.heap.size zeroE:=by rw [hW];exact Box.new w zeroE _
  have HW:=hideP hW;clear hW
  go_enter Tryz.func62,Tryz.ntmps62;go_wp2_with fail
  rw [←HW.out];refine (wrong_any _).mono ?_;rintro e w1 ⟨rfl,h1⟩;obtain ⟨c0,c1,c2,c3,f0,f1,f2,f3,lt⟩:=x0.later h1;go_wp2;simp [bodyPost,results,Tryz.results62,go_sem,c0,c1,c2,c3,ptE];exact Bl.set (Bl.set (Bl.set (Bl.set (b0.trans h1) (Nat.le_refl _) _) (Nat.le_refl _) _) (Nat.le_refl _) _) (Nat.le_refl _) _
 ·go_enter Tryz.func62,Tryz.ntmps62;go_wp2;simp [bodyPost,results,Tryz.results62,go_sem,ptE];exact (Bl.refl _).alloc _
theorem fine_any (a:En) (w:World) :
  Calls Tryz.prog 82 #[enV a] w fun e w'=>e=.returned (.bool (fineB a))∧Bl w w':=by
 obtain ⟨v,l,h,bd⟩:=a;unfold fineB;simp only;cases bd
 ·by_cases h1 : l ≤ v
  ·by_cases h2 : v ≤ h
   ·rw [decide_eq_true h1,decide_eq_true h2];cases h3:frB l
    ·go_enter Tryz.func82,Tryz.ntmps82;go_wp2_with (go_at_call 63;refine (fright_any _ _).mono ?_;rintro e w' ⟨rfl,rfl⟩)
     go_ret;exact ⟨rfl,(Bl.refl _).alloc _⟩
    ·go_enter Tryz.func82,Tryz.ntmps82;go_wp2_with (go_at_call 63;refine (fright_any _ _).mono ?_;rintro e w' ⟨rfl,rfl⟩)
     go_ret;exact ⟨rfl,(Bl.refl _).alloc _⟩
   ·rw [decide_eq_false h2]
    go_enter Tryz.func82,Tryz.ntmps82;go_wp2;go_ret;exact ⟨by simp,(Bl.refl _).alloc _⟩
  ·rw [decide_eq_false h1]
   go_enter Tryz.func82,Tryz.ntmps82;go_wp2;go_ret;exact ⟨by simp,(Bl.refl _).alloc _⟩
 ·go_enter Tryz.func82,Tryz.ntmps82;go_wp2;go_ret;exact ⟨by simp,(Bl.refl _).alloc _⟩
theorem pointE_any (n:Int) (w:World) :
  Calls Tryz.prog 24 #[.int .i64 n] w fun e w'=>e=.returned (enV (ptE n (frB n)))∧Bl w w':=by
 obtain ⟨W,hW⟩:∃ W,W=w.alloc (.cells #[.int .i64 0,.int .i64 0,.int .i64 0,.bool false] 52):=⟨_,rfl⟩;have b0:Bl w W:=by rw [hW];exact (Bl.refl _).alloc _
 have x0:Box W w.heap.size zeroE:=by rw [hW];exact Box.new w zeroE _
 have HW:=hideP hW;clear hW
 go_enter Tryz.func24,Tryz.ntmps24;go_wp2_with fail
 rw [←HW.out];refine (fright_any _ _).mono ?_;rintro e w1 ⟨rfl,rfl⟩;go_wp2_with fail
 refine (point_any _ _ _).mono ?_;rintro e w1 ⟨rfl,h1⟩;obtain ⟨c0,c1,c2,c3,f0,f1,f2,f3,lt⟩:=x0.later h1;go_wp2;simp [bodyPost,results,Tryz.results24,go_sem,c0,c1,c2,c3];exact Bl.set (Bl.set (Bl.set (Bl.set (b0.trans h1) (Nat.le_refl _) _) (Nat.le_refl _) _) (Nat.le_refl _) _) (Nat.le_refl _) _
theorem ofE_any (a:En) (n:Int) (w:World) :
  Calls Tryz.prog 37 #[enV a,.int .i64 n] w fun e w'=>e=.returned (enV (ptE (foN n) (foB n)))∧Bl w w':=by
 obtain ⟨W,hW⟩:∃ W,W=(w.alloc (.cells #[.int .i64 a.v,.int .i64 a.l,.int .i64 a.h,.bool a.bad] 52)).alloc (.cells #[.int .i64 0,.int .i64 0,.int .i64 0,.bool false] 52):=⟨_,rfl⟩;have b0:Bl w W:=by rw [hW];exact ((Bl.refl _).alloc _).alloc _
 have x0:Box W (w.heap.size+1) zeroE:=by rw [hW];have:=Box.new (w.alloc (.cells #[.int .i64 a.v,.int .i64 a.l,.int .i64 a.h,.bool a.bad] 52)) zeroE 52;simpa [zeroE] using this
 have HW:=hideP hW;clear hW
 go_enter Tryz.func37,Tryz.ntmps37;go_wp2_with fail
 rw [←HW.out];refine (fof_any _ _).mono ?_;rintro e w1 ⟨rfl,h1⟩;go_wp2_with fail
 refine (point_any _ _ _).mono ?_;rintro e w2 ⟨rfl,h2⟩;obtain ⟨c0,c1,c2,c3,f0,f1,f2,f3,lt⟩:=x0.later (h1.trans h2);go_wp2;simp [bodyPost,results,Tryz.results37,go_sem,c0,c1,c2,c3];exact Bl.set (Bl.set (Bl.set (Bl.set ((b0.trans h1).trans h2) (by simp) _) (by simp) _) (by simp) _) (by simp) _
def signE (a:En):Int:=match a.bad with
 |true=>0
 |false=>cmpI a.v 0
theorem signE_any (a:En) (w:World) :
  Calls Tryz.prog 207 #[enV a] w fun e w'=>e=.returned (.int .i64 (signE a))∧Bl w w':=by
 obtain ⟨v,l,h,bd⟩:=a;unfold signE;cases bd
 ·go_enter Tryz.func207,Tryz.ntmps207;go_wp2_with (go_at_call 160;refine (cmpInt_any _ _ _).mono ?_;rintro e w' ⟨rfl,rfl⟩)
  go_ret;exact ⟨rfl,(Bl.refl _).alloc _⟩
 ·go_enter Tryz.func207,Tryz.ntmps207;go_wp2;go_ret;exact ⟨rfl,(Bl.refl _).alloc _⟩
abbrev prV (x y:Int):Value:=.agg #[.int .i64 x,.int .i64 y]
def Prs (w:World) (blk:Nat) (ps:List (Int×Int)):Prop:=
 blk<w.heap.size∧∀ k,k<ps.length→w.cell? ⟨blk,k*2,none⟩=some (.int .i64 (ps.getD k (0,0)).1)∧w.cell? ⟨blk,k*2+1,none⟩=some (.int .i64 (ps.getD k (0,0)).2)
theorem Prs.later {w w':World} {blk:Nat} {ps:List (Int×Int)} (h:Prs w blk ps) (k:Bl w w'):Prs w' blk ps:=by
 refine ⟨by have:=Below.size k;have:=h.1;omega,fun j hj=>?_⟩;rw [bl_cell k _ _ h.1,bl_cell k _ _ h.1];exact h.2 j hj
theorem take_getD (ps:List (Int×Int)) (k:Nat) (h:k<ps.length):ps.take (k+1)=ps.take k++[ps.getD k (0,0)]:=by
 rw [List.take_succ_eq_append_getElem h];simp [List.getD_eq_getElem?_getD,h]
theorem low_snoc (N:Int→Int→Int→Int) (ps:List (Int×Int)) (p:Int×Int):lowF N (ps++[p])=min (lowF N ps) (N p.1 p.2 1):=by
 unfold lowF;rw [List.foldl_append];rfl
theorem high_snoc (N:Int→Int→Int→Int) (ps:List (Int×Int)) (p:Int×Int):highF N (ps++[p])=max (highF N ps) (N p.1 p.2 2):=by
 unfold highF;rw [List.foldl_append];rfl
theorem ok_snoc (B:Int→Int→Int→Bool) (ps:List (Int×Int)) (p:Int×Int):okF B (ps++[p])=(okF B ps&&(B p.1 p.2 1&&B p.1 p.2 2)):=by
 unfold okF;rw [List.all_append];simp
theorem ok_no (B:Int→Int→Int→Bool) (ps:List (Int×Int)) (k:Nat) (h:k<ps.length) (hp:(B (ps.getD k (0,0)).1 (ps.getD k (0,0)).2 1&&B (ps.getD k (0,0)).1 (ps.getD k (0,0)).2 2)=false):okF B ps=false:=by
 unfold okF;rw [Bool.eq_false_iff,ne_eq,List.all_eq_true];intro hall;have:=hall (ps[k]) (List.getElem_mem h);rw [List.getD_eq_getElem?_getD,List.getElem?_eq_getElem h] at hp;simp [this] at hp
theorem told_bad {N:Int→Int→Int→Int} {B:Int→Int→Int→Bool} {a b:En} {ps:List (Int×Int)} (h:okE B a b ps=false):toldE N B a b ps=wrongE:=by
 unfold toldE;rw [h];rfl
theorem told_ok {N:Int→Int→Int→Int} {B:Int→Int→Int→Bool} {a b:En} {ps:List (Int×Int)} (h:okE B a b ps=true):toldE N B a b ps=⟨N a.v b.v 0,lowF N ps,highF N ps,false⟩:=by
 unfold toldE;rw [h];rfl
set_option maxHeartbeats 2000000 in
theorem toldE_any (K:Nat) (N:Int→Int→Int→Int) (B:Int→Int→Int→Bool) (a b:En) (ps:List (Int×Int)) (blk:Nat) (w:World)
  (eg:∀ (args:Array Value) (w:World),(callFunc K args).run Tryz.prog w=.ok (.enter K args) w)
  (hf:∀ x y m w',Calls Tryz.prog K #[prV x y,.int .i64 m] w' fun e w''=>e=.returned (.tuple #[.int .i64 (N x y m),.bool (B x y m)])∧Bl w' w'')
  (hl:ps.length≤4) (hp:Prs w blk ps) :
  Calls Tryz.prog 211 #[enV a,enV b,.func (.func K) #[] #[],.slice (some ⟨blk,0,none⟩) ps.length ps.length] w fun e w'=>e=.returned (enV (toldE N B a b ps))∧Bl w w':=by
 obtain ⟨W,hW⟩:∃ W,W=((w.alloc (.cells #[.int .i64 a.v,.int .i64 a.l,.int .i64 a.h,.bool a.bad] 52)).alloc (.cells #[.int .i64 b.v,.int .i64 b.l,.int .i64 b.h,.bool b.bad] 52)).alloc (.cells #[.int .i64 0,.int .i64 0,.int .i64 0,.bool false] 52):=⟨_,rfl⟩;have b0:Bl w W:=by rw [hW];exact (((Bl.refl _).alloc _).alloc _).alloc _
 have xa:Box W w.heap.size a:=by
  rw [hW];exact (Box.new w a 52).later (((Bl.refl _).alloc _).alloc _)
 have xb:Box W (w.heap.size+1) b:=by
  rw [hW];have:=(Box.new (w.alloc (.cells #[.int .i64 a.v,.int .i64 a.l,.int .i64 a.h,.bool a.bad] 52)) b 52).later ((Bl.refl _).alloc (.cells #[.int .i64 0,.int .i64 0,.int .i64 0,.bool false] 52));simpa using this
 have xz:Box W (w.heap.size+2) zeroE:=by
  rw [hW];have:=Box.new ((w.alloc (.cells #[.int .i64 a.v,.int .i64 a.l,.int .i64 a.h,.bool a.bad] 52)).alloc (.cells #[.int .i64 b.v,.int .i64 b.l,.int .i64 b.h,.bool b.bad] 52)) zeroE 52;simpa [zeroE] using this
 have ca:=xa.c0;have cb:=xb.c0;have HW:=hideP hW;have HF:=hideP hf;have HP:=hideP (hp.later b0);have XA:=hideP xa;have XB:=hideP xb;have XZ:=hideP xz;have HB0:=hideP b0;clear hW hf hp xa xb xz b0;have hbad:∀ w1,Bl W w1→okE B a b ps=false→True:=fun _ _ _=>trivial
 clear hbad;have FA:=hideP (fine_any a);have FB:=hideP (fine_any b);have TB:okE B a b ps=(B a.v b.v 0&&fineB a&&fineB b&&okF B ps):=rfl;cases hv:B a.v b.v 0
 ·have HT:=hideP (told_bad (N:=N) (show okE B a b ps=false by rw [TB,hv];rfl));have F0:=HF.out a.v b.v 0;rw [hv] at F0;generalize N a.v b.v 0=n at F0;have HF0:=hideP F0;clear F0 TB hv
  go_enter Tryz.func211,Tryz.ntmps211;go_wp2_with fail
  rw [←HW.out];go_wp2_with fail
  refine (HF0.out _).mono ?_;rintro e w1 ⟨rfl,h1⟩;go_wp2_with fail
  refine (wrong_any _).mono ?_;rintro e w2 ⟨rfl,h2⟩;obtain ⟨c0,c1,c2,c3,f0,f1,f2,f3,lt⟩:=XZ.out.later (h1.trans h2);go_wp2;rw [HT.out];simp [bodyPost,results,Tryz.results211,go_sem,c0,c1,c2,c3];exact Bl.set4 ((HB0.out.trans h1).trans h2) (by omega) _ _ _ _
 have F0:=HF.out a.v b.v 0;rw [hv] at F0;cases ha:fineB a
 ·have HT:=hideP (told_bad (N:=N) (show okE B a b ps=false by rw [TB,ha];simp));have A0:=FA.out;rw [ha] at A0;generalize N a.v b.v 0=n at F0;have HF0:=hideP F0;have HA0:=hideP A0;clear F0 A0 TB hv ha
  go_enter Tryz.func211,Tryz.ntmps211;go_wp2_with fail
  rw [←HW.out];go_wp2_with fail
  refine (HF0.out _).mono ?_;rintro e w1 ⟨rfl,h1⟩;obtain ⟨a0,a1,a2,a3,_,_,_,_,_⟩:=XA.out.later h1;go_wp2_with fail
  refine (HA0.out _).mono ?_;rintro e w2 ⟨rfl,h2⟩;go_wp2_with fail
  refine (wrong_any _).mono ?_;rintro e w3 ⟨rfl,h3⟩;obtain ⟨c0,c1,c2,c3,f0,f1,f2,f3,lt⟩:=XZ.out.later ((h1.trans h2).trans h3);go_wp2;rw [HT.out];simp [bodyPost,results,Tryz.results211,go_sem,c0,c1,c2,c3];exact Bl.set4 (((HB0.out.trans h1).trans h2).trans h3) (by omega) _ _ _ _
 have A0:=FA.out;rw [ha] at A0;cases hb:fineB b
 ·have HT:=hideP (told_bad (N:=N) (show okE B a b ps=false by rw [TB,hb];simp));have B0:=FB.out;rw [hb] at B0;generalize N a.v b.v 0=n at F0;have HF0:=hideP F0;have HA0:=hideP A0;have HB1:=hideP B0;clear F0 A0 B0 TB hv ha hb
  go_enter Tryz.func211,Tryz.ntmps211;go_wp2_with fail
  rw [←HW.out];go_wp2_with fail
  refine (HF0.out _).mono ?_;rintro e w1 ⟨rfl,h1⟩;obtain ⟨a0,a1,a2,a3,_,_,_,_,_⟩:=XA.out.later h1;go_wp2_with fail
  refine (HA0.out _).mono ?_;rintro e w2 ⟨rfl,h2⟩;obtain ⟨d0,d1,d2,d3,_,_,_,_,_⟩:=XB.out.later (h1.trans h2);go_wp2_with fail
  refine (HB1.out _).mono ?_;rintro e w3 ⟨rfl,h3⟩;go_wp2_with fail
  refine (wrong_any _).mono ?_;rintro e w4 ⟨rfl,h4⟩;obtain ⟨c0,c1,c2,c3,f0,f1,f2,f3,lt⟩:=XZ.out.later (((h1.trans h2).trans h3).trans h4);go_wp2;rw [HT.out];simp [bodyPost,results,Tryz.results211,go_sem,c0,c1,c2,c3];exact Bl.set4 ((((HB0.out.trans h1).trans h2).trans h3).trans h4) (by omega) _ _ _ _
 have B0:=FB.out;rw [hb] at B0;have TT:okE B a b ps=okF B ps:=by rw [TB,hv,ha,hb];rfl
 have HTB:=hideP (fun h=>told_bad (N:=N) (show okE B a b ps=false from TT.trans h));have HTO:=hideP (fun h=>told_ok (N:=N) (show okE B a b ps=true from TT.trans h));generalize N a.v b.v 0=n at F0 HTO;have HF0:=hideP F0;have HA0:=hideP A0;have HB1:=hideP B0;clear F0 A0 B0 TB TT hv ha hb FA FB
 go_enter Tryz.func211,Tryz.ntmps211;go_wp2_with fail
 rw [←HW.out];go_wp2_with fail
 refine (HF0.out _).mono ?_;rintro e w1 ⟨rfl,h1⟩;obtain ⟨a0,a1,a2,a3,_,_,_,_,_⟩:=XA.out.later h1;go_wp2_with fail
 refine (HA0.out _).mono ?_;rintro e w2 ⟨rfl,h2⟩;obtain ⟨d0,d1,d2,d3,_,_,_,_,_⟩:=XB.out.later (h1.trans h2);go_wp2_with fail
 refine (HB1.out _).mono ?_;rintro e w3 ⟨rfl,h3⟩;have HB3:=hideP ((h1.trans h2).trans h3);clear h1 h2 h3 a0 a1 a2 a3 d0 d1 d2 d3 ca cb;go_wp2_with fail
 go_loopw [11,12,44] (fun lo hi i wr=>∃ k:Nat,k≤ps.length∧i=.int .i64 k∧lo=.int .i64 (lowF N (ps.take k))∧hi=.int .i64 (highF N (ps.take k))∧okF B (ps.take k)=true∧Bl w3 wr) (fun _ _ i _=>ps.length-(intOf i).toNat)
 case atStart=>exact ⟨0,by omega,rfl,rfl,rfl,rfl,Bl.refl _⟩
 case round =>
  obtain ⟨k,hk,rfl,rfl,rfl,ho,hB⟩:=hrel;by_cases hlt:k<ps.length
  ·obtain ⟨p0,p1⟩:=(HP.out.later (HB3.out.trans hB)).2 k hlt;have e1:=low_snoc N (ps.take k) (ps.getD k (0,0));have e2:=high_snoc N (ps.take k) (ps.getD k (0,0));have e3:=ok_snoc B (ps.take k) (ps.getD k (0,0));rw [←take_getD ps k hlt] at e1 e2 e3;have e4:=ok_no B ps k hlt;have D:=HF.out (ps.getD k (0,0)).1 (ps.getD k (0,0)).2 1;have U:=HF.out (ps.getD k (0,0)).1 (ps.getD k (0,0)).2 2;rw [ho] at e3;generalize (ps.getD k (0,0)).1=x at *;generalize (ps.getD k (0,0)).2=y at *;generalize N x y 1=n1 at *;generalize N x y 2=n2 at *;obtain ⟨V,hV⟩:∃ V,V=wr.alloc (.cells #[.int .i64 x,.int .i64 y] 215):=⟨_,rfl⟩;have bV:Bl wr V:=by rw [hV];exact (Bl.refl _).alloc _
   have v0:V.cell? ⟨wr.heap.size,0,none⟩=some (.int .i64 x):=by rw [hV];simp [go_sem]
   have v1:V.cell? ⟨wr.heap.size,1,none⟩=some (.int .i64 y):=by rw [hV];simp [go_sem]
   have lV:wr.heap.size<V.heap.size:=by rw [hV];simp
   have HV:=hideP hV;have HC:=hideP (And.intro v0 v1);clear hV v0 v1;have E4:=hideP e4;clear e4;have E1:=hideP e1;have E2:=hideP e2;have E3:=hideP e3;clear e1 e2 e3 ho;generalize lowF N (ps.take k)=lo at *;generalize highF N (ps.take k)=hi at *;cases hd:B x y 1
   ·have HT:=hideP (HTB.out (E4.out (by rw [hd];rfl)));rw [hd] at D;have HD:=hideP D;have HU:=hideP U;clear D U hd;go_wp2_with fail
    rw [←HV.out];refine (HD.out _).mono ?_;rintro e w4 ⟨rfl,h4⟩;have v0:w4.cell? ⟨wr.heap.size,0,none⟩=some (.int .i64 x):=by rw [bl_cell h4 _ _ lV];exact HC.out.1
    have v1:w4.cell? ⟨wr.heap.size,1,none⟩=some (.int .i64 y):=by rw [bl_cell h4 _ _ lV];exact HC.out.2
    go_wp2_with fail
    refine (HU.out _).mono ?_;rintro e w5 ⟨rfl,h5⟩;go_wp2_with fail
    refine (wrong_any _).mono ?_;rintro e w6 ⟨rfl,h6⟩;obtain ⟨c0,c1,c2,c3,f0,f1,f2,f3,lt⟩:=XZ.out.later (((((HB3.out.trans hB).trans bV).trans h4).trans h5).trans h6);go_wp2;rw [HT.out];simp [bodyPost,results,Tryz.results211,go_sem,c0,c1,c2,c3];exact Bl.set4 (((((((HB0.out.trans HB3.out)).trans hB).trans bV).trans h4).trans h5).trans h6) (by omega) _ _ _ _
   ·cases hu:B x y 2
    ·have HT:=hideP (HTB.out (E4.out (by rw [hd,hu];rfl)));rw [hd] at D;rw [hu] at U;have HD:=hideP D;have HU:=hideP U;clear D U hd hu;go_wp2_with fail
     rw [←HV.out];refine (HD.out _).mono ?_;rintro e w4 ⟨rfl,h4⟩;have v0:w4.cell? ⟨wr.heap.size,0,none⟩=some (.int .i64 x):=by rw [bl_cell h4 _ _ lV];exact HC.out.1
     have v1:w4.cell? ⟨wr.heap.size,1,none⟩=some (.int .i64 y):=by rw [bl_cell h4 _ _ lV];exact HC.out.2
     go_wp2_with fail
     refine (HU.out _).mono ?_;rintro e w5 ⟨rfl,h5⟩;go_wp2_with fail
     refine (wrong_any _).mono ?_;rintro e w6 ⟨rfl,h6⟩;obtain ⟨c0,c1,c2,c3,f0,f1,f2,f3,lt⟩:=XZ.out.later (((((HB3.out.trans hB).trans bV).trans h4).trans h5).trans h6);go_wp2;rw [HT.out];simp [bodyPost,results,Tryz.results211,go_sem,c0,c1,c2,c3];exact Bl.set4 (((((((HB0.out.trans HB3.out)).trans hB).trans bV).trans h4).trans h5).trans h6) (by omega) _ _ _ _
    ·have HG:=hideP (show okF B (ps.take (k+1))=true by rw [E3.out,hd,hu];rfl);rw [hd] at D;rw [hu] at U;have HD:=hideP D;have HU:=hideP U;clear D U hd hu;go_wp2_with fail
     rw [←HV.out];refine (HD.out _).mono ?_;rintro e w4 ⟨rfl,h4⟩;have v0:w4.cell? ⟨wr.heap.size,0,none⟩=some (.int .i64 x):=by rw [bl_cell h4 _ _ lV];exact HC.out.1
     have v1:w4.cell? ⟨wr.heap.size,1,none⟩=some (.int .i64 y):=by rw [bl_cell h4 _ _ lV];exact HC.out.2
     go_wp2_with fail
     refine (HU.out _).mono ?_;rintro e w5 ⟨rfl,h5⟩;go_wp2;go_roundw
     case rel=>exact ⟨k+1,by omega,by go_num,by rw [E1.out],by rw [E2.out],HG.out,((hB.trans bV).trans h4).trans h5⟩
     case measure=>simp [intOf];omega
  ·have e:ps.take k=ps:=List.take_of_length_le (by omega);rw [e] at ho ⊢;have HO:=hideP (HTO.out ho);obtain ⟨c0,c1,c2,c3,f0,f1,f2,f3,lt⟩:=XZ.out.later (HB3.out.trans hB);have HBB:=hideP ((HB0.out.trans HB3.out).trans hB);clear ho e hB;generalize lowF N ps=lo at *;generalize highF N ps=hi at *;go_wp2;rw [HO.out];simp [bodyPost,results,Tryz.results211,go_sem,c0,c1,c2,c3];exact Bl.set4 HBB.out (by omega) _ _ _ _
theorem addF_any (x y m:Int) (w:World) :
  Calls Tryz.prog 209 #[prV x y,.int .i64 m] w fun e w'=>e=.returned (.tuple #[.int .i64 (nA x y m),.bool (bA x y m)])∧Bl w w':=by
 go_enter Tryz.func209,Tryz.ntmps209;go_wp2_with (go_at_call 210;refine (fadd_any _ _ _).mono ?_;rintro e w1 ⟨rfl,h1⟩)
 go_ret2
 exact ⟨rfl,((Bl.refl _).alloc _).trans h1⟩
theorem subF_any (x y m:Int) (w:World) :
  Calls Tryz.prog 218 #[prV x y,.int .i64 m] w fun e w'=>e=.returned (.tuple #[.int .i64 (nS x y m),.bool (bS x y m)])∧Bl w w':=by
 go_enter Tryz.func218,Tryz.ntmps218;go_wp2_with (go_at_call 219;refine (fsub_any _ _ _).mono ?_;rintro e w1 ⟨rfl,h1⟩)
 go_ret2
 exact ⟨rfl,((Bl.refl _).alloc _).trans h1⟩
theorem mulF_any (x y m:Int) (w:World) :
  Calls Tryz.prog 214 #[prV x y,.int .i64 m] w fun e w'=>e=.returned (.tuple #[.int .i64 (fmN x y m),.bool (fmB x y m)])∧Bl w w':=by
 go_enter Tryz.func214,Tryz.ntmps214;go_wp2_with (go_at_call 215;refine (fmul_any _ _ _ _).mono ?_;rintro e w1 ⟨rfl,h1⟩)
 go_ret2
 exact ⟨rfl,((Bl.refl _).alloc _).trans h1⟩
theorem divF_any (x y m:Int) (w:World) :
  Calls Tryz.prog 212 #[prV x y,.int .i64 m] w fun e w'=>e=.returned (.tuple #[.int .i64 (fdN x y m),.bool (fdB x y m)])∧Bl w w':=by
 go_enter Tryz.func212,Tryz.ntmps212;go_wp2_with (go_at_call 213;refine (fdiv_any _ _ _ _).mono ?_;rintro e w1 ⟨rfl,h1⟩)
 go_ret2
 exact ⟨rfl,((Bl.refl _).alloc _).trans h1⟩
theorem rootF_any (x y m:Int) (w:World) :
  Calls Tryz.prog 216 #[prV x y,.int .i64 m] w fun e w'=>e=.returned (.tuple #[.int .i64 (nQ x y m),.bool (bQ x y m)])∧Bl w w':=by
 go_enter Tryz.func216,Tryz.ntmps216;go_wp2_with (go_at_call 217;refine (froot_any _ _ _).mono ?_;rintro e w1 ⟨rfl,h1⟩)
 go_ret2
 exact ⟨rfl,((Bl.refl _).alloc _).trans h1⟩
theorem Prs.two (w:World) (blk:Nat) (hb:blk=w.heap.size) (x0 y0 x1 y1:Int) (t:TypeId):Prs (w.alloc (.cells #[.int .i64 x0,.int .i64 y0,.int .i64 x1,.int .i64 y1] t)) blk [(x0,y0),(x1,y1)]:=by
 subst hb;refine ⟨by simp,fun k hk=>?_⟩;rcases (by simp at hk;omega:k=0∨k=1) with rfl|rfl<;>simp [go_sem]
theorem Prs.four (w:World) (blk:Nat) (hb:blk=w.heap.size) (x0 y0 x1 y1 x2 y2 x3 y3:Int) (t:TypeId):Prs (w.alloc (.cells #[.int .i64 x0,.int .i64 y0,.int .i64 x1,.int .i64 y1,.int .i64 x2,.int .i64 y2,.int .i64 x3,.int .i64 y3] t)) blk [(x0,y0),(x1,y1),(x2,y2),(x3,y3)]:=by
 subst hb;refine ⟨by simp,fun k hk=>?_⟩;rcases (by simp at hk;omega:k=0∨k=1∨k=2∨k=3) with rfl|rfl|rfl|rfl<;>simp [go_sem]
theorem addT (a b:En) (blk:Nat) (w:World) (h:Prs w blk (prs2 a b)) :
  Calls Tryz.prog 211 #[enV a,enV b,.func (.func 209) #[] #[],.slice (some ⟨blk,0,none⟩) 2 2] w fun e w'=>e=.returned (enV (addE a b))∧Bl w w':=
 toldE_any _ nA bA a b (prs2 a b) blk w (enters Tryz.func209 (by kernel_rfl) rfl) addF_any (by simp [prs2]) h
theorem subT (a b:En) (blk:Nat) (w:World) (h:Prs w blk (prsX a b)) :
  Calls Tryz.prog 211 #[enV a,enV b,.func (.func 218) #[] #[],.slice (some ⟨blk,0,none⟩) 2 2] w fun e w'=>e=.returned (enV (subE a b))∧Bl w w':=
 toldE_any _ nS bS a b (prsX a b) blk w (enters Tryz.func218 (by kernel_rfl) rfl) subF_any (by simp [prsX]) h
theorem mulT (a b:En) (blk:Nat) (w:World) (h:Prs w blk (prs4 a b)) :
  Calls Tryz.prog 211 #[enV a,enV b,.func (.func 214) #[] #[],.slice (some ⟨blk,0,none⟩) 4 4] w fun e w'=>e=.returned (enV (mulE a b))∧Bl w w':=
 toldE_any _ fmN fmB a b (prs4 a b) blk w (enters Tryz.func214 (by kernel_rfl) rfl) mulF_any (by simp [prs4]) h
theorem divT (a b:En) (blk:Nat) (w:World) (h:Prs w blk (prs4 a b)) :
  Calls Tryz.prog 211 #[enV a,enV b,.func (.func 212) #[] #[],.slice (some ⟨blk,0,none⟩) 4 4] w fun e w'=>e=.returned (enV (toldE fdN fdB a b (prs4 a b)))∧Bl w w':=
 toldE_any _ fdN fdB a b (prs4 a b) blk w (enters Tryz.func212 (by kernel_rfl) rfl) divF_any (by simp [prs4]) h
theorem rootT (a:En) (blk:Nat) (w:World) (h:Prs w blk (prs2 a a)) :
  Calls Tryz.prog 211 #[enV a,enV a,.func (.func 216) #[] #[],.slice (some ⟨blk,0,none⟩) 2 2] w fun e w'=>e=.returned (enV (rootE a))∧Bl w w':=
 toldE_any _ nQ bQ a a (prs2 a a) blk w (enters Tryz.func216 (by kernel_rfl) rfl) rootF_any (by simp [prs2]) h
structure Three (w W:World) (a b:En):Prop where
 eq:W=((w.alloc (.cells #[.int .i64 a.v,.int .i64 a.l,.int .i64 a.h,.bool a.bad] 52)).alloc (.cells #[.int .i64 b.v,.int .i64 b.l,.int .i64 b.h,.bool b.bad] 52)).alloc (.cells #[.int .i64 0,.int .i64 0,.int .i64 0,.bool false] 52)
 bl:Bl w W
 ba:Box W w.heap.size a
 bb:Box W (w.heap.size+1) b
 bz:Box W (w.heap.size+1+1) zeroE
 size:W.heap.size=w.heap.size+1+1+1
theorem three_ex (w:World) (a b:En):∃ W,Three w W a b:=by
 refine ⟨_,rfl,(((Bl.refl _).alloc _).alloc _).alloc _,(Box.new w a 52).later (((Bl.refl _).alloc _).alloc _),?_,?_,by simp⟩
 ·have:=(Box.new (w.alloc (.cells #[.int .i64 a.v,.int .i64 a.l,.int .i64 a.h,.bool a.bad] 52)) b 52).later ((Bl.refl _).alloc (.cells #[.int .i64 0,.int .i64 0,.int .i64 0,.bool false] 52));simpa using this
 ·have:=Box.new ((w.alloc (.cells #[.int .i64 a.v,.int .i64 a.l,.int .i64 a.h,.bool a.bad] 52)).alloc (.cells #[.int .i64 b.v,.int .i64 b.l,.int .i64 b.h,.bool b.bad] 52)) zeroE 52;simpa [zeroE] using this
theorem eadd_any (a b:En) (w:World) :
  Calls Tryz.prog 202 #[enV a,enV b] w fun e w'=>e=.returned (enV (addE a b))∧Bl w w':=by
 obtain ⟨W,X⟩:=three_ex w a b;have HX:=hideP X;clear X;have T:=hideP (addT a b);generalize addE a b=r at *
 go_enter Tryz.func202,Tryz.ntmps202;go_wp2_with fail
 rw [←HX.out.eq];refine (T.out _ _ (Prs.two _ _ HX.out.size.symm _ _ _ _ _)).mono ?_;rintro e w1 ⟨rfl,h1⟩;obtain ⟨c0,c1,c2,c3,f0,f1,f2,f3,lt⟩:=HX.out.bz.later (((Bl.refl _).alloc _).trans h1);go_wp2;simp [bodyPost,results,Tryz.results202,go_sem,c0,c1,c2,c3];exact Bl.set4 ((HX.out.bl.alloc _).trans h1) (by omega) _ _ _ _
theorem esub_any (a b:En) (w:World) :
  Calls Tryz.prog 208 #[enV a,enV b] w fun e w'=>e=.returned (enV (subE a b))∧Bl w w':=by
 obtain ⟨W,X⟩:=three_ex w a b;have HX:=hideP X;clear X;have T:=hideP (subT a b);generalize subE a b=r at *
 go_enter Tryz.func208,Tryz.ntmps208;go_wp2_with fail
 rw [←HX.out.eq];refine (T.out _ _ (Prs.two _ _ HX.out.size.symm _ _ _ _ _)).mono ?_;rintro e w1 ⟨rfl,h1⟩;obtain ⟨c0,c1,c2,c3,f0,f1,f2,f3,lt⟩:=HX.out.bz.later (((Bl.refl _).alloc _).trans h1);go_wp2;simp [bodyPost,results,Tryz.results208,go_sem,c0,c1,c2,c3];exact Bl.set4 ((HX.out.bl.alloc _).trans h1) (by omega) _ _ _ _
theorem emul_any (a b:En) (w:World) :
  Calls Tryz.prog 204 #[enV a,enV b] w fun e w'=>e=.returned (enV (mulE a b))∧Bl w w':=by
 obtain ⟨W,X⟩:=three_ex w a b;have HX:=hideP X;clear X;have T:=hideP (mulT a b);generalize mulE a b=r at *
 go_enter Tryz.func204,Tryz.ntmps204;go_wp2_with fail
 rw [←HX.out.eq];refine (T.out _ _ (Prs.four _ _ HX.out.size.symm _ _ _ _ _ _ _ _ _)).mono ?_;rintro e w1 ⟨rfl,h1⟩;obtain ⟨c0,c1,c2,c3,f0,f1,f2,f3,lt⟩:=HX.out.bz.later (((Bl.refl _).alloc _).trans h1);go_wp2;simp [bodyPost,results,Tryz.results204,go_sem,c0,c1,c2,c3];exact Bl.set4 ((HX.out.bl.alloc _).trans h1) (by omega) _ _ _ _
theorem ediv_any (a b:En) (w:World) :
  Calls Tryz.prog 203 #[enV a,enV b] w fun e w'=>e=.returned (enV (divE a b))∧Bl w w':=by
 obtain ⟨W,X⟩:=three_ex w a b;have HX:=hideP X;clear X;have T:=hideP (divT a b);unfold divE;generalize toldE fdN fdB a b (prs4 a b)=r at *;have hcase:(decide (b.l≤0)=false)∨(decide (b.l≤0)=true∧decide (0≤b.h)=false)∨(decide (b.l≤0)=true∧decide (0≤b.h)=true):=by
  cases decide (b.l≤0)<;>cases decide (0≤b.h)<;>simp
 rcases hcase with k1|⟨k1,k2⟩|⟨k1,k2⟩
 ·have hz:zeroB b=false:=by unfold zeroB;rw [k1];rfl
  rw [hz];clear hz;have k:=of_decide_eq_false k1
  go_enter Tryz.func203,Tryz.ntmps203;go_wp2_with fail
  rw [←HX.out.eq];refine (T.out _ _ (Prs.four _ _ HX.out.size.symm _ _ _ _ _ _ _ _ _)).mono ?_;rintro e w1 ⟨rfl,h1⟩;obtain ⟨c0,c1,c2,c3,f0,f1,f2,f3,lt⟩:=HX.out.bz.later (((Bl.refl _).alloc _).trans h1);go_wp2;simp [bodyPost,results,Tryz.results203,go_sem,c0,c1,c2,c3];exact Bl.set4 ((HX.out.bl.alloc _).trans h1) (by omega) _ _ _ _
 ·have hz:zeroB b=false:=by unfold zeroB;rw [k1,k2];rfl
  rw [hz];clear hz;have k:=of_decide_eq_true k1;have k':=of_decide_eq_false k2
  go_enter Tryz.func203,Tryz.ntmps203;go_wp2_with fail
  rw [←HX.out.eq];refine (T.out _ _ (Prs.four _ _ HX.out.size.symm _ _ _ _ _ _ _ _ _)).mono ?_;rintro e w1 ⟨rfl,h1⟩;obtain ⟨c0,c1,c2,c3,f0,f1,f2,f3,lt⟩:=HX.out.bz.later (((Bl.refl _).alloc _).trans h1);go_wp2;simp [bodyPost,results,Tryz.results203,go_sem,c0,c1,c2,c3];exact Bl.set4 ((HX.out.bl.alloc _).trans h1) (by omega) _ _ _ _
 ·have hz:zeroB b=true:=by unfold zeroB;rw [k1,k2];rfl
  rw [hz];clear hz;have k:=of_decide_eq_true k1;have k':=of_decide_eq_true k2
  go_enter Tryz.func203,Tryz.ntmps203;go_wp2_with fail
  rw [←HX.out.eq];refine (wrong_any _).mono ?_;rintro e w1 ⟨rfl,h1⟩;obtain ⟨c0,c1,c2,c3,f0,f1,f2,f3,lt⟩:=HX.out.bz.later h1;go_wp2;simp [bodyPost,results,Tryz.results203,go_sem,c0,c1,c2,c3];exact Bl.set4 (HX.out.bl.trans h1) (by omega) _ _ _ _
structure Two (w W:World) (a:En):Prop where
 eq:W=(w.alloc (.cells #[.int .i64 a.v,.int .i64 a.l,.int .i64 a.h,.bool a.bad] 52)).alloc (.cells #[.int .i64 0,.int .i64 0,.int .i64 0,.bool false] 52)
 bl:Bl w W
 ba:Box W w.heap.size a
 bz:Box W (w.heap.size+1) zeroE
 size:W.heap.size=w.heap.size+1+1
theorem two_ex (w:World) (a:En):∃ W,Two w W a:=by
 refine ⟨_,rfl,((Bl.refl _).alloc _).alloc _,(Box.new w a 52).later ((Bl.refl _).alloc _),?_,by simp⟩;have:=Box.new (w.alloc (.cells #[.int .i64 a.v,.int .i64 a.l,.int .i64 a.h,.bool a.bad] 52)) zeroE 52;simpa [zeroE] using this
theorem eroot_any (a:En) (w:World) :
  Calls Tryz.prog 206 #[enV a] w fun e w'=>e=.returned (enV (rootE a))∧Bl w w':=by
 obtain ⟨W,X⟩:=two_ex w a;have HX:=hideP X;clear X;have T:=hideP (rootT a);generalize rootE a=r at *
 go_enter Tryz.func206,Tryz.ntmps206;go_wp2_with fail
 rw [←HX.out.eq];refine (T.out _ _ (Prs.two _ _ HX.out.size.symm _ _ _ _ _)).mono ?_;rintro e w1 ⟨rfl,h1⟩;obtain ⟨c0,c1,c2,c3,f0,f1,f2,f3,lt⟩:=HX.out.bz.later (((Bl.refl _).alloc _).trans h1);go_wp2;simp [bodyPost,results,Tryz.results206,go_sem,c0,c1,c2,c3];exact Bl.set4 ((HX.out.bl.alloc _).trans h1) (by omega) _ _ _ _
def negE (a:En):En:=subE (ptE 0 true) a
theorem point0 (w:World):Calls Tryz.prog 24 #[.int .i64 0] w fun e w'=>e=.returned (enV (ptE 0 true))∧Bl w w':=pointE_any 0 w
theorem eneg_any (a:En) (w:World) :
  Calls Tryz.prog 205 #[enV a] w fun e w'=>e=.returned (enV (negE a))∧Bl w w':=by
 obtain ⟨W,X⟩:=two_ex w a;have HX:=hideP X
 have KP:=hideP (fun w' (h:Bl W w')=>(⟨(X.ba.later h).c0,(X.ba.later h).c1,(X.ba.later h).c2,(X.ba.later h).c3,(X.bz.later h).f0,(X.bz.later h).f1,(X.bz.later h).f2,(X.bz.later h).f3,(X.bz.later h).c0,(X.bz.later h).c1,(X.bz.later h).c2,(X.bz.later h).c3⟩ :
  w'.cell? ⟨w.heap.size,0,none⟩=some (.int .i64 a.v)∧w'.cell? ⟨w.heap.size,1,none⟩=some (.int .i64 a.l)∧w'.cell? ⟨w.heap.size,2,none⟩=some (.int .i64 a.h)∧w'.cell? ⟨w.heap.size,3,none⟩=some (.bool a.bad)∧w'.frozen? ⟨w.heap.size+1,0,none⟩=false∧w'.frozen? ⟨w.heap.size+1,1,none⟩=false∧w'.frozen? ⟨w.heap.size+1,2,none⟩=false∧w'.frozen? ⟨w.heap.size+1,3,none⟩=false∧w'.cell? ⟨w.heap.size+1,0,none⟩=some (.int .i64 0)∧w'.cell? ⟨w.heap.size+1,1,none⟩=some (.int .i64 0)∧w'.cell? ⟨w.heap.size+1,2,none⟩=some (.int .i64 0)∧w'.cell? ⟨w.heap.size+1,3,none⟩=some (.bool false)))
 clear X;have T:=hideP (esub_any (ptE 0 true) a);unfold negE;generalize subE (ptE 0 true) a=r at *
 go_enter Tryz.func205,Tryz.ntmps205;go_wp2_with fail
 rw [←HX.out.eq];obtain ⟨a0,a1,a2,a3,_,_,_,_,_⟩:=HX.out.ba
 go_region_with
  (first
   |(go_at_call 24;refine (point0 _).mono ?_;rintro e w1 ⟨rfl,h1⟩;obtain ⟨p0,p1,p2,p3,_⟩:=KP.out _ (Bl.trans (by repeat (first|exact Bl.refl _|apply Bl.drew)) h1))
   |(go_at_call 208;refine (T.out _).mono ?_;rintro e w2 ⟨rfl,h2⟩;obtain ⟨_,_,_,_,f0,f1,f2,f3,c0,c1,c2,c3⟩:=KP.out _ (Bl.trans (Bl.trans (by repeat (first|exact Bl.refl _|apply Bl.drew)) h1) h2)))
 all_goals
  go_wp2;simp [bodyPost,results,Tryz.results205,go_sem,c0,c1,c2,c3];exact Bl.set4 (Bl.trans (Bl.trans (by repeat (first|exact HX.out.bl|apply Bl.drew)) h1) h2) (by omega) _ _ _ _
theorem Tryz.mOfN (x:Value) (w:World):(method 327 52 x "Of").run Tryz.prog w=.ok (37,x) w:=by kernel_rfl
theorem Tryz.mAddN (x:Value) (w:World):(method 327 52 x "Add").run Tryz.prog w=.ok (202,x) w:=by kernel_rfl
theorem Tryz.mSubN (x:Value) (w:World):(method 327 52 x "Sub").run Tryz.prog w=.ok (208,x) w:=by kernel_rfl
theorem Tryz.mMulN (x:Value) (w:World):(method 327 52 x "Mul").run Tryz.prog w=.ok (204,x) w:=by kernel_rfl
theorem Tryz.info_N:(Tryz.prog.info? 52).map (fun i=>(i.zero,i.size,i.bytes))=some (some (.agg #[.int .i64 0,.int .i64 0,.int .i64 0,.bool false]),4,32):=by kernel_rfl
def cellsN (x:En):List Value:=[.int .i64 x.v,.int .i64 x.l,.int .i64 x.h,.bool x.bad]
theorem cellsN_len (x:En):(cellsN x).length=4:=rfl
theorem Box.fill {u:World} {p:Nat} {r:En} (h:Box u p r) (x:En):Box ((((u.setCell ⟨p,0,none⟩ (.int .i64 x.v)).setCell ⟨p,1,none⟩ (.int .i64 x.l)).setCell ⟨p,2,none⟩ (.int .i64 x.h)).setCell ⟨p,3,none⟩ (.bool x.bad)) p x:=by
 obtain ⟨c0,c1,c2,c3,f0,f1,f2,f3,lt⟩:=h;refine ⟨?_,?_,?_,?_,?_,?_,?_,?_,?_⟩<;>simp [go_sem, *]
theorem Box.oth {u:World} {p q:Nat} {r:En} (h:Box u p r) (hne:p≠q) (y0 y1 y2 y3:Value):Box ((((u.setCell ⟨q,0,none⟩ (y0)).setCell ⟨q,1,none⟩ (y1)).setCell ⟨q,2,none⟩ (y2)).setCell ⟨q,3,none⟩ (y3)) p r:=by
 obtain ⟨c0,c1,c2,c3,f0,f1,f2,f3,lt⟩:=h;have hne':=hne.symm;refine ⟨?_,?_,?_,?_,?_,?_,?_,?_,?_⟩<;>simp [go_sem, *]
theorem vwholeN (n:Int) (w:World) :
  Calls Tryz.prog 73 #[.int .i64 n] w fun e w'=>e=.returned (enV (ptE (foN n) (foB n)))∧Bl w w':=by
 have iv:=Tryz.mOfN;obtain ⟨W,hW⟩:∃ W,W=(w.alloc (.cells #[.int .i64 0,.int .i64 0,.int .i64 0,.bool false] 52)).alloc (.cells #[.int .i64 0,.int .i64 0,.int .i64 0,.bool false] 52):=⟨_,rfl⟩;have b0:Bl w W:=by rw [hW];exact ((Bl.refl _).alloc _).alloc _
 have x0:Box W w.heap.size zeroE:=by rw [hW];exact (Box.new w zeroE _).later ((Bl.refl _).alloc _)
 have HW:=hideP hW;clear hW;have OF:=hideP (ofE_any zeroE n);generalize (ptE (foN n) (foB n))=r at *
 go_enter Tryz.func73,Tryz.ntmps73;go_wp2_with fail
 rw [←HW.out];refine (OF.out _).mono ?_;rintro e w1 ⟨rfl,h1⟩;obtain ⟨c0,c1,c2,c3,f0,f1,f2,f3,lt⟩:=x0.later h1;clear iv;go_wp2;simp [bodyPost,results,Tryz.results73,go_sem,c0,c1,c2,c3];exact Bl.set4 (b0.trans h1) (Nat.le_refl _) _ _ _ _
def sumN (xs:List En):En:=xs.foldl addE (ptE (foN 0) (foB 0))
theorem sumN_snoc (xs:List En) (k:Nat) (x:En) (h:xs[k]?=some x):sumN (xs.take (k+1))=addE (sumN (xs.take k)) x:=by
 unfold sumN;rw [List.take_add_one,h];simp
set_option maxHeartbeats 1000000 in
theorem vsumN (v:Value) (xs:List En) (w:World) (h:Rq 4 cellsN w v xs) (hl:xs.length≤1000000) :
  Calls Tryz.prog 120 #[v] w fun e w'=>e=.returned (enV (sumN xs))∧Bl w w':=by
 have iv:=Tryz.mAddN;obtain ⟨W,hW⟩:∃ W,W=w.alloc (.cells #[.int .i64 0,.int .i64 0,.int .i64 0,.bool false] 52):=⟨_,rfl⟩;have b0:Bl w W:=by rw [hW];exact (Bl.refl _).alloc _
 have x0:Box W w.heap.size zeroE:=by rw [hW];exact Box.new w zeroE _
 have HW:=hideP hW;clear hW;rcases h with ⟨p,cap,rfl,rfl,hpn⟩|⟨b,o,cap,rfl,hc,hb,hx⟩
 ·go_enter Tryz.func120,Tryz.ntmps120;go_wp2_with fail
  rw [←HW.out];refine (vwholeN 0 _).mono ?_;rintro e w1 ⟨rfl,h1⟩;go_wp2_with fail
  go_loopw [9] (fun i wr=>i=.int .i64 0∧Box wr w1.heap.size (sumN [])∧Box wr w.heap.size zeroE∧Bl w wr) (fun i _=>0)
  case atStart=>exact ⟨rfl,Box.new w1 (ptE (foN 0) (foB 0)) _,(x0.later h1).later ((Bl.refl _).alloc _),(b0.trans h1).alloc _⟩
  case round =>
   obtain ⟨rfl,bs,bz,bl⟩:=hrel;obtain ⟨c0,c1,c2,c3,f0,f1,f2,f3,lt⟩:=bs;obtain ⟨d0,d1,d2,d3,g0,g1,g2,g3,zlt⟩:=bz;go_wp2;simp [bodyPost,results,Tryz.results120,go_sem,d0,d1,d2,d3];exact Bl.set4 bl (Nat.le_refl _) _ _ _ _
 ·have HX:=hideP hx;clear hx
  go_enter Tryz.func120,Tryz.ntmps120;go_wp2_with fail
  rw [←HW.out];refine (vwholeN 0 _).mono ?_;rintro e w1 ⟨rfl,h1⟩;generalize hz:(ptE (foN 0) (foB 0))=z at *;go_wp2_with fail
  go_loopw [9] (fun i wr=>∃ k:Nat,i=.int .i64 k∧k≤xs.length∧Box wr w1.heap.size (sumN (xs.take k))∧Box wr w.heap.size zeroE∧Bl w wr) (fun i _=>xs.length-(intOf i).toNat)
  case atStart =>
   refine ⟨0,rfl,Nat.zero_le _,?_,(x0.later h1).later ((Bl.refl _).alloc _),(b0.trans h1).alloc _⟩;have:sumN (xs.take 0)=z:=by rw [←hz];rfl
   rw [this];exact Box.new w1 z _
  case round =>
   obtain ⟨k,rfl,hk,bs,bz,bl⟩:=hrel;by_cases hlt:k<xs.length
   ·obtain ⟨x,hx⟩:∃ x,xs[k]?=some x:=⟨_,List.getElem?_eq_getElem hlt⟩;obtain ⟨c0,c1,c2,c3,f0,f1,f2,f3,lt⟩:=bs;have CX:∀ j u,(cellsN x)[j]?=some u→wr.cell? ⟨b,o+k*4+j,none⟩=some u:=fun j u hu=>(bl_cell bl _ _ hb).trans (HX.out k x hx j u hu)
    have y0:wr.cell? ⟨b,o+k*4,none⟩=some (.int .i64 x.v):=CX 0 _ rfl;have y1:wr.cell? ⟨b,o+k*4+1,none⟩=some (.int .i64 x.l):=CX 1 _ rfl;have y2:wr.cell? ⟨b,o+k*4+2,none⟩=some (.int .i64 x.h):=CX 2 _ rfl;have y3:wr.cell? ⟨b,o+k*4+3,none⟩=some (.bool x.bad):=CX 3 _ rfl;clear CX;go_wp2_with fail
    refine (eadd_any _ _ _).mono ?_;rintro e w2 ⟨rfl,h2⟩;have bl2:Bl wr w2:=((Bl.refl _).alloc _).trans h2;have bs2:=(⟨c0,c1,c2,c3,f0,f1,f2,f3,lt⟩:Box wr w1.heap.size (sumN (xs.take k))).later bl2;have bz2:=bz.later bl2;clear c0 c1 c2 c3 f0 f1 f2 f3 y0 y1 y2 y3;obtain ⟨c0,c1,c2,c3,f0,f1,f2,f3,lt2⟩:=id bs2;have SN:=hideP (sumN_snoc xs k x hx);generalize hS:addE (sumN (xs.take k)) x=S at *;go_wp2;go_roundw
    case rel =>
     refine ⟨k+1,by simp,hlt,?_,?_,?_⟩
     ·rw [SN.out];exact bs2.fill S
     ·exact bz2.oth (by have:=b0.size;have:=h1.size;have:=x0.lt;omega) _ _ _ _
     ·exact Bl.set4 (bl.trans bl2) (by have:=b0.size;have:=h1.size;omega) _ _ _ _
    case measure=>simp [intOf];omega
   ·have hk':k=xs.length:=by omega
    subst hk';rw [List.take_length] at bs;obtain ⟨c0,c1,c2,c3,f0,f1,f2,f3,lt⟩:=bs;obtain ⟨d0,d1,d2,d3,g0,g1,g2,g3,zlt⟩:=bz;go_wp2;simp [bodyPost,results,Tryz.results120,go_sem,d0,d1,d2,d3];exact Bl.set4 bl (Nat.le_refl _) _ _ _ _
theorem ownN_step {w wr w1:World} {v v':Value} {xs:List En} {x:En} {o:Obj} (hb:Bl w wr) (hown:wr.ownsRow w.heap.size 52 4 v xs.length (xs.flatMap cellsN))
  (hown':w1.ownsRow w.heap.size 52 4 v' (xs.length+1) (xs.flatMap cellsN++cellsN x)) (hg:(wr.alloc o).grownBy w1 v.ownBlock) :
  Bl w w1∧w1.ownsRow w.heap.size 52 4 v' (xs++[x]).length ((xs++[x]).flatMap cellsN):=by
 refine ⟨Below.grown (Below.alloc hb hb.size o) hg (by have:=hb.size;simp;omega) (fun k hk=>(hown.lt k hk).1),?_⟩;simpa [List.flatMap_append] using hown'
theorem own_blN {w w':World} {B n:Nat} {v:Value} {l:List Value} (h:w.ownsRow B 52 4 v n l) (k:Bl w w'):w'.ownsRow B 52 4 v n l:=by
 refine ⟨h.1,?_⟩;rcases h.2 with hn|⟨g,cap,cur,rfl,hb,hg,rest⟩
 ·exact .inl hn
 ·exact .inr ⟨g,cap,cur,rfl,hb,(Below.block k g (Array.getElem?_eq_some_iff.1 hg).1).trans hg,rest⟩
theorem ownN_step' {n₀:Nat} {w wr w1:World} {v v':Value} {xs:List En} {x:En} {o:Obj} (hb:Bl w wr) (hn:w.heap.size≤n₀) (hown:wr.ownsRow n₀ 52 4 v xs.length (xs.flatMap cellsN))
  (hown':w1.ownsRow n₀ 52 4 v' (xs.length+1) (xs.flatMap cellsN++cellsN x)) (hg:(wr.alloc o).grownBy w1 v.ownBlock) :
  Bl w w1∧w1.ownsRow n₀ 52 4 v' (xs++[x]).length ((xs++[x]).flatMap cellsN):=by
 refine ⟨Below.grown (Below.alloc hb hb.size o) hg (by have:=hb.size;simp;omega) (fun k hk=>by have:=(hown.lt k hk).1;omega),?_⟩;simpa [List.flatMap_append] using hown'
theorem Box.grown {n₀ n p:Nat} {w wr w1:World} {v:Value} {l:List Value} {x:En} (h:Box w p x) (hb:Bl w wr) (hown:w.ownsRow n₀ 52 4 v n l) (hg:wr.grownBy w1 v.ownBlock) (hp:p<n₀):Box w1 p x:=by
 have h':=h.later hb;have hk:w1.heap[p]?=wr.heap[p]?:=hg.block p h'.lt (fun e=>by have:=(hown.lt p e.symm).1;omega);obtain ⟨c0,c1,c2,c3,f0,f1,f2,f3,lt⟩:=h';exact ⟨(World.cell?_of_block (a:=⟨p,0,none⟩) hk).trans c0,(World.cell?_of_block (a:=⟨p,1,none⟩) hk).trans c1,(World.cell?_of_block (a:=⟨p,2,none⟩) hk).trans c2,(World.cell?_of_block (a:=⟨p,3,none⟩) hk).trans c3,(World.frozen?_of_block (a:=⟨p,0,none⟩) hk).trans f0,(World.frozen?_of_block (a:=⟨p,1,none⟩) hk).trans f1,(World.frozen?_of_block (a:=⟨p,2,none⟩) hk).trans f2,(World.frozen?_of_block (a:=⟨p,3,none⟩) hk).trans f3,by have:=hg.size;omega⟩
theorem newN_cells (w:World) (x:En) (t:TypeId):∀ j u,(cellsN x)[j]?=some u→(w.alloc (.cells #[.int .i64 x.v,.int .i64 x.l,.int .i64 x.h,.bool x.bad] t)).cell? ((⟨w.heap.size,0,none⟩:Addr).add j)=some u:=by
 intro j u hu;have hadd:(⟨w.heap.size,0,none⟩:Addr).add j=⟨w.heap.size,j,none⟩:=by unfold Addr.add;split<;>simp_all
 rw [hadd];have h:=Box.new w x t;unfold cellsN at hu;rcases j with _|_|_|_|j
 ·simp at hu;rw [←hu];exact h.c0
 ·simp at hu;rw [←hu];exact h.c1
 ·simp at hu;rw [←hu];exact h.c2
 ·simp at hu;rw [←hu];exact h.c3
 ·simp at hu
theorem oneN_cells (x:En):∀ u∈cellsN x,u.oneCell'=true:=by
 intro u hu;unfold cellsN at hu;simp only [List.mem_cons,List.not_mem_nil,or_false] at hu;rcases hu with rfl|rfl|rfl|rfl<;>rfl
def wholeN (n:Int):En:=ptE (foN n) (foB n)
set_option maxHeartbeats 1000000 in
theorem vWholeN' (v:Value) (ns:List Int) (w:World) (h:Rq 1 (fun n=>[.int .i64 n]) w v ns) (hl:ns.length≤1000000) :
  Calls Tryz.prog 35 #[v] w fun e w'=>∃ u,e=.returned u∧Rw 4 cellsN w' u (ns.map wholeN)∧Fresh w.heap.size u∧Bl w w':=by
 obtain ⟨i0,hi,hz0,hz1,hz2⟩:=info_parts Tryz.info_N;rcases h with ⟨p,cap,rfl,rfl,hpn⟩|⟨b,o,cap,rfl,hc,hb,hx⟩
 ·go_enter Tryz.func35,Tryz.ntmps35;go_wp2_with (at_make;refine wpList_make_own _ rfl _ _ 46 rfl w.heap.size 52 i0 (.agg #[.int .i64 0,.int .i64 0,.int .i64 0,.bool false]) 4 Tryz.underlying46 hi hz0 hz1 .i64 .i64 _ 0 rfl rfl (by simp) (by rw [hz2];omega) (by unfold maxLen;omega) (Nat.le_refl _) ?_;intro w0 hown0 hgrow0)
  have hB0:Bl w w0:=(Bl.refl w).grown hgrow0 (by omega) (fun k e=>by cases e)
  go_loopw [3,11] (fun v i wr=>i=.int .i64 0∧wr.ownsRow w.heap.size 52 4 v 0 []∧Bl w wr) (fun _ _ _=>0)
  case atStart=>exact ⟨rfl,hown0,hB0⟩
  case round =>
   obtain ⟨rfl,hown,hB⟩:=hrel;go_wp2;go_ret;exact ⟨_,rfl,Rw.of_own cellsN_len (xs:=[]) hown,fun g hg=>(hown.lt g hg).1,hB⟩
 ·have HX:=hideP hx;clear hx
  go_enter Tryz.func35,Tryz.ntmps35;go_wp2_with (at_make;refine wpList_make_own _ rfl _ _ 46 rfl w.heap.size 52 i0 (.agg #[.int .i64 0,.int .i64 0,.int .i64 0,.bool false]) 4 Tryz.underlying46 hi hz0 hz1 .i64 .i64 _ ns.length rfl rfl (by simp) (by rw [hz2];omega) (by unfold maxLen;omega) (Nat.le_refl _) ?_;intro w0 hown0 hgrow0)
  have hB0:Bl w w0:=(Bl.refl w).grown hgrow0 (by omega) (fun k e=>by cases e)
  go_loopw [3,11] (fun v i wr=>∃ k:Nat,i=.int .i64 k∧k≤ns.length∧wr.ownsRow w.heap.size 52 4 v ((ns.take k).map wholeN).length (((ns.take k).map wholeN).flatMap cellsN)∧Bl w wr) (fun _ i _=>ns.length-(intOf i).toNat)
  case atStart=>exact ⟨0,rfl,Nat.zero_le _,hown0,hB0⟩
  case round =>
   obtain ⟨k,rfl,hk,hown,hB⟩:=hrel;by_cases hlt:k<ns.length
   ·obtain ⟨x,hx⟩:∃ x,ns[k]?=some x:=⟨_,List.getElem?_eq_getElem hlt⟩;have y0:wr.cell? ⟨b,o+k,none⟩=some (.int .i64 x):=by
     have:=(bl_cell hB _ _ hb).trans (HX.out k x hx 0 _ rfl);simpa using this
    have hT:(ns.take (k+1)).map wholeN=(ns.take k).map wholeN++[wholeN x]:=by rw [List.take_add_one,hx];simp
    have hkl:((ns.take k).map wholeN).length=k:=by simp;omega
    have HK:=hideP hkl;clear hkl;have HT:=hideP hT;clear hT;generalize hys:(ns.take k).map wholeN=ys at *;clear hys;go_wp2_with fail
    refine (vwholeN x _).mono ?_;rintro e w2 ⟨rfl,h2⟩;have hr:wholeN x=(ptE (foN x) (foB x)):=rfl;generalize (ptE (foN x) (foB x))=r at *;rw [hr] at HT;clear hr y0;replace hown:=own_blN hown h2;replace hB:=hB.trans h2;have hkk:=HK.out;go_wp2_with (at_builtin;refine wpList_append_own _ rfl _ _ 46 rfl w.heap.size 52 i0 (.agg #[.int .i64 0,.int .i64 0,.int .i64 0,.bool false]) 4 32 Tryz.underlying46 hi hz0 hz1 hz2 rfl (by decide) _ _ _ rfl (hown.alloc _) ⟨_,0,none⟩ 1 1 (cellsN r) rfl rfl (newN_cells _ _ _) (oneN_cells _) (by unfold maxLen;omega) (by omega) (by have:=hB.size;simp;omega) ?_;intro v' w1 hown' hgrow _)
    have R:=ownN_step hB hown hown' hgrow;clear hown hown' hgrow;go_wp2;go_roundw
    case rel=>exact ⟨k+1,by simp,hlt,by rw [HT.out];exact R.2,R.1⟩
    case measure=>simp [intOf];omega
   ·have hk':k=ns.length:=by omega
    subst hk';rw [List.take_length] at hown;have R:=hideP (Rw.of_own cellsN_len hown);have FR:=hideP (show Fresh w.heap.size _ from fun g hg=>(hown.lt g hg).1);clear hown;go_wp2;go_ret;exact ⟨_,rfl,R.out,FR.out,hB⟩
theorem vWholeN (v:Value) (ns:List Int) (w:World) (h:Rq 1 (fun n=>[.int .i64 n]) w v ns) (hl:ns.length≤1000000) :
  Calls Tryz.prog 35 #[v] w fun e w'=>∃ u,e=.returned u∧Rw 4 cellsN w' u (ns.map wholeN)∧Bl w w':=
 (vWholeN' v ns w h hl).mono fun _ _ ⟨u,h1,h2,_,h3⟩=>⟨u,h1,h2,h3⟩
set_option maxHeartbeats 1000000 in
theorem vScaleN (v:Value) (xs:List En) (by_:En) (w:World) (h:Rw 4 cellsN w v xs) (hl:xs.length≤1000000) :
  Calls Tryz.prog 78 #[v,enV by_] w fun e w'=>∃ u,e=.returned u∧Rw 4 cellsN w' u (xs.map fun x=>mulE x by_)∧Bl w w':=by
 have iv:=Tryz.mMulN;obtain ⟨i0,hi,hz0,hz1,hz2⟩:=info_parts Tryz.info_N;have x0:=Box.new w by_ 52;rcases h with ⟨rfl,rfl⟩|⟨b,o,cap,rfl,hc,hb,hx⟩
 ·go_enter Tryz.func78,Tryz.ntmps78;go_wp2_with (at_make;refine wpList_make_own _ rfl _ _ 46 rfl w.heap.size 52 i0 (.agg #[.int .i64 0,.int .i64 0,.int .i64 0,.bool false]) 4 Tryz.underlying46 hi hz0 hz1 .i64 .i64 _ 0 rfl rfl (by simp) (by rw [hz2];omega) (by unfold maxLen;omega) (by simp) ?_;intro w0 hown0 hgrow0)
  rw [World.size_alloc] at hown0;have hB0:Bl w w0:=Below.grown (Below.alloc (Bl.refl w) (Nat.le_refl _) _) hgrow0 (by simp) (fun k e=>by cases e)
  go_loopw [5,13] (fun v i wr=>i=.int .i64 0∧wr.ownsRow w.heap.size 52 4 v 0 []∧Bl w wr) (fun _ _ _=>0)
  case atStart=>exact ⟨rfl,hown0,hB0⟩
  case round =>
   obtain ⟨rfl,hown,hB⟩:=hrel;go_wp2;go_ret;exact ⟨_,rfl,Rw.of_own cellsN_len (xs:=[]) hown,hB⟩
 ·have HX:=hideP hx;clear hx
  go_enter Tryz.func78,Tryz.ntmps78;go_wp2_with (at_make;refine wpList_make_own _ rfl _ _ 46 rfl (w.heap.size+1) 52 i0 (.agg #[.int .i64 0,.int .i64 0,.int .i64 0,.bool false]) 4 Tryz.underlying46 hi hz0 hz1 .i64 .i64 _ xs.length rfl rfl (by simp) (by rw [hz2];omega) (by unfold maxLen;omega) (by simp) ?_;intro w0 hown0 hgrow0)
  rw [World.size_alloc] at hown0;have hB1:Bl (w.alloc (.cells #[.int .i64 by_.v,.int .i64 by_.l,.int .i64 by_.h,.bool by_.bad] 52)) w0:=Below.grown (Bl.refl _) hgrow0 (Nat.le_refl _) (fun k e=>by cases e);have hB0:Bl w w0:=((Bl.refl w).alloc _).trans hB1
  go_loopw [5,13] (fun v i wr=>∃ k:Nat,i=.int .i64 k∧k≤xs.length∧Box wr w.heap.size by_∧wr.ownsRow (w.heap.size+1) 52 4 v ((xs.take k).map fun x=>mulE x by_).length (((xs.take k).map fun x=>mulE x by_).flatMap cellsN)∧Bl w wr) (fun _ i _=>xs.length-(intOf i).toNat)
  case atStart=>exact ⟨0,rfl,Nat.zero_le _,x0.later hB1,hown0,hB0⟩
  case round =>
   obtain ⟨k,rfl,hk,bx,hown,hB⟩:=hrel;by_cases hlt:k<xs.length
   ·obtain ⟨x,hx⟩:∃ x,xs[k]?=some x:=⟨_,List.getElem?_eq_getElem hlt⟩;have CX:∀ j u,(cellsN x)[j]?=some u→wr.cell? ⟨b,o+k*4+j,none⟩=some u:=fun j u hu=>(bl_cell hB _ _ hb).trans (HX.out k x hx j u hu)
    have y0:wr.cell? ⟨b,o+k*4,none⟩=some (.int .i64 x.v):=CX 0 _ rfl;have y1:wr.cell? ⟨b,o+k*4+1,none⟩=some (.int .i64 x.l):=CX 1 _ rfl;have y2:wr.cell? ⟨b,o+k*4+2,none⟩=some (.int .i64 x.h):=CX 2 _ rfl;have y3:wr.cell? ⟨b,o+k*4+3,none⟩=some (.bool x.bad):=CX 3 _ rfl;clear CX;obtain ⟨c0,c1,c2,c3,f0,f1,f2,f3,lt⟩:=id bx;have HT:=hideP (show (xs.take (k+1)).map (fun x=>mulE x by_)=(xs.take k).map (fun x=>mulE x by_)++[mulE x by_] by rw [List.take_add_one,hx];simp);have HK:=hideP (show ((xs.take k).map fun x=>mulE x by_).length=k by simp;omega);generalize hys:(xs.take k).map (fun x=>mulE x by_)=ys at *;clear hys;go_wp2_with fail
    refine (emul_any _ _ _).mono ?_;rintro e w2 ⟨rfl,h2⟩;have bl2:Bl wr w2:=((Bl.refl _).alloc _).trans h2;generalize mulE x by_=r at *;clear y0 y1 y2 y3 c0 c1 c2 c3;replace hown:=own_blN hown bl2;replace hB:=hB.trans bl2;have bx2:=bx.later bl2;have hkk:=HK.out;go_wp2_with (at_builtin;refine wpList_append_own _ rfl _ _ 46 rfl (w.heap.size+1) 52 i0 (.agg #[.int .i64 0,.int .i64 0,.int .i64 0,.bool false]) 4 32 Tryz.underlying46 hi hz0 hz1 hz2 rfl (by decide) _ _ _ rfl (hown.alloc _) ⟨_,0,none⟩ 1 1 (cellsN r) rfl rfl (newN_cells _ _ _) (oneN_cells _) (by unfold maxLen;omega) (by omega) (by have:=bx2.lt;simp;omega) ?_;intro v' w1 hown' hgrow _)
    have R:=ownN_step' (n₀:=w.heap.size+1) hB (by omega) hown hown' hgrow;have bx3:=bx2.grown ((Bl.refl _).alloc _) hown hgrow (by omega);clear hown hown' hgrow;go_wp2;go_roundw
    case rel=>exact ⟨k+1,by simp,hlt,bx3,by rw [HT.out];exact R.2,R.1⟩
    case measure=>simp [intOf];omega
   ·have hk':k=xs.length:=by omega
    subst hk';rw [List.take_length] at hown;have R:=hideP (Rw.of_own cellsN_len hown);clear hown;go_wp2;go_ret;exact ⟨_,rfl,R.out,hB⟩
theorem dAddN (a b:En) (w:World) :
  Calls Tryz.prog 123 #[enV a,enV b] w fun e w'=>e=.returned (enV (addE a b))∧Bl w w':=by
 have iv:=Tryz.mAddN;obtain ⟨W,X⟩:=three_ex w a b;have T:=hideP (eadd_any a b);have HX:=hideP X;clear X;generalize addE a b=r at *
 go_enter Tryz.func123,Tryz.ntmps123;go_wp2_with fail
 rw [←HX.out.eq];refine (T.out _).mono ?_;rintro e w1 ⟨rfl,h1⟩;obtain ⟨c0,c1,c2,c3,f0,f1,f2,f3,lt⟩:=HX.out.bz.later h1;clear iv;go_wp2;simp [bodyPost,results,Tryz.results123,go_sem,c0,c1,c2,c3];exact Bl.set4 (HX.out.bl.trans h1) (by omega) _ _ _ _
theorem dSubN (a b:En) (w:World) :
  Calls Tryz.prog 166 #[enV a,enV b] w fun e w'=>e=.returned (enV (subE a b))∧Bl w w':=by
 have iv:=Tryz.mSubN;obtain ⟨W,X⟩:=three_ex w a b;have T:=hideP (esub_any a b);have HX:=hideP X;clear X;generalize subE a b=r at *
 go_enter Tryz.func166,Tryz.ntmps166;go_wp2_with fail
 rw [←HX.out.eq];refine (T.out _).mono ?_;rintro e w1 ⟨rfl,h1⟩;obtain ⟨c0,c1,c2,c3,f0,f1,f2,f3,lt⟩:=HX.out.bz.later h1;clear iv;go_wp2;simp [bodyPost,results,Tryz.results166,go_sem,c0,c1,c2,c3];exact Bl.set4 (HX.out.bl.trans h1) (by omega) _ _ _ _
theorem dMulN (a b:En) (w:World) :
  Calls Tryz.prog 122 #[enV a,enV b] w fun e w'=>e=.returned (enV (mulE a b))∧Bl w w':=by
 have iv:=Tryz.mMulN;obtain ⟨W,X⟩:=three_ex w a b;have T:=hideP (emul_any a b);have HX:=hideP X;clear X;generalize mulE a b=r at *
 go_enter Tryz.func122,Tryz.ntmps122;go_wp2_with fail
 rw [←HX.out.eq];refine (T.out _).mono ?_;rintro e w1 ⟨rfl,h1⟩;obtain ⟨c0,c1,c2,c3,f0,f1,f2,f3,lt⟩:=HX.out.bz.later h1;clear iv;go_wp2;simp [bodyPost,results,Tryz.results122,go_sem,c0,c1,c2,c3];exact Bl.set4 (HX.out.bl.trans h1) (by omega) _ _ _ _
theorem Tryz.nil0N (w:World):(binOp .eql 46 (.slice none 0 0) (.slice none 0 0)).run Tryz.prog w=.ok (.bool true) w:=by kernel_rfl
theorem Tryz.nil1N (a:Addr) (n cap:Nat) (w:World):(binOp .eql 46 (.slice (some a) n cap) (.slice none 0 0)).run Tryz.prog w=.ok (.bool false) w:=by kernel_rfl
set_option maxHeartbeats 1000000 in
theorem vCloneN (v:Value) (xs:List En) (w:World) (h:Rq 4 cellsN w v xs) (hl:xs.length≤1000000) :
  Calls Tryz.prog 72 #[v] w fun e w'=>∃ u,e=.returned u∧Rw 4 cellsN w' u xs∧Fresh w.heap.size u∧Bl w w':=by
 have n0:=Tryz.nil0N;have n1:=Tryz.nil1N;obtain ⟨i0,hi,hz0,hz1,hz2⟩:=info_parts Tryz.info_N;rcases h with ⟨p,cap,rfl,rfl,hpn⟩|⟨b,o,cap,rfl,hc,hb,hx⟩
 ·rcases p with _|ad
  ·obtain rfl:=hpn rfl
   go_enter Tryz.func72,Tryz.ntmps72;go_wp2;go_ret;exact ⟨_,rfl,.inl ⟨rfl,rfl⟩,nofun,Bl.refl _⟩
  ·clear n0
   go_enter Tryz.func72,Tryz.ntmps72;go_wp2_with (at_builtin;refine wpList_append_own _ rfl _ _ 46 rfl w.heap.size 52 i0 (.agg #[.int .i64 0,.int .i64 0,.int .i64 0,.bool false]) 4 32 Tryz.underlying46 hi hz0 hz1 hz2 rfl (by decide) _ 0 [] rfl (World.ownsRow_made w #[] 0 (Nat.le_refl _) (by decide) rfl) ad 0 cap [] rfl (by simp) nofun nofun (by unfold maxLen;omega) (by omega) (by simp) ?_;intro v' w1 hown' hgrow _)
   have R:=hideP (Rw.of_own (xs:=[]) cellsN_len (by simpa using hown'));have FR:=hideP (show Fresh w.heap.size v' from fun g hg=>(hown'.lt g hg).1);have hB:Bl w w1:=Below.grown (Below.alloc (Bl.refl w) (Nat.le_refl _) _) hgrow (by simp) (fun k e=>by cases e;exact Nat.le_refl _);clear hown' hgrow;go_wp2;go_ret;exact ⟨_,rfl,R.out,FR.out,hB⟩
 ·have HX:=hideP hx;clear hx n0
  go_enter Tryz.func72,Tryz.ntmps72;go_wp2_with (at_builtin;refine wpList_append_own _ rfl _ _ 46 rfl w.heap.size 52 i0 (.agg #[.int .i64 0,.int .i64 0,.int .i64 0,.bool false]) 4 32 Tryz.underlying46 hi hz0 hz1 hz2 rfl (by decide) _ 0 [] rfl (World.ownsRow_made w #[] 0 (Nat.le_refl _) (by decide) rfl) ⟨b,o,none⟩ xs.length cap (xs.flatMap cellsN) rfl (flat_len cellsN_len xs) (flat_cells cellsN_len ((Rw_cells_later HX.out hb ((Bl.refl _).alloc _)))) (flat_one oneN_cells xs) (by unfold maxLen;omega) (by omega) (by simp) ?_;intro v' w1 hown' hgrow _)
  have R:=hideP (Rw.of_own (xs:=xs) cellsN_len (by simpa using hown'));have FR:=hideP (show Fresh w.heap.size v' from fun g hg=>(hown'.lt g hg).1);have hB:Bl w w1:=Below.grown (Below.alloc (Bl.refl w) (Nat.le_refl _) _) hgrow (by simp) (fun k e=>by cases e;exact Nat.le_refl _);clear hown' hgrow;go_wp2;go_ret;exact ⟨_,rfl,R.out,FR.out,hB⟩
theorem Tryz.cutN (p:Option Addr) (n cap m:Nat) (w:World) (h:m≤cap):(Instr.sliceAt 46 (.slice p n cap) none (some (.int .i64 m)) none).run Tryz.prog w=.ok (.slice p m cap) w:=by
 have hu:Tryz.prog.underlying 46=some (.slice (Tryz.prog.elem 46)):=by kernel_rfl
 obtain ⟨i0,hi,hz0,hz1,hz2⟩:=info_parts Tryz.info_N;have he:Tryz.prog.elem 46=52:=by kernel_rfl
 rw [run_sliceAt_slice (h:=hu),run_slice_h (ht:=hu) (h0:=by omega) (h2:=by omega),he];have e0:p.map (fun a=>a.add 0)=p:=by cases p<;>simp [Addr.add]
 simp [sizeOf,typeInfo,hi,sliced,e0,Result.andThen]
theorem cloneN_cut {p:Option Addr} {cap:Nat} {xs:List En} {w W:World} (hb:Bl w W) (CA:∀ m,m≤xs.length→Rq 4 cellsN w (.slice p m cap) (xs.take m)) (hl:xs.length≤1000000) :
  ∀ m,m≤xs.length→∀ u,Bl W u→Calls Tryz.prog 72 #[.slice p m cap] u fun e w'=>∃ p1 k1,e=.returned (.slice p1 m k1)∧(Rw 4 cellsN w' (.slice p1 m k1) (xs.take m)∧Fresh u.heap.size (.slice p1 m k1))∧Bl u w':=by
 intro m h u hu;refine (vCloneN (.slice p m cap) (xs.take m) u ((CA m h).later (hb.trans hu)) (by simp;omega)).mono ?_;rintro e w' ⟨v,rfl,hr,hf,hbl⟩;obtain ⟨p1,k1,rfl,_,_⟩:=hr.cut;have hl':(xs.take m).length=m:=by simp;omega
 rw [hl'] at hr hf ⊢;exact ⟨p1,k1,rfl,⟨hr,hf⟩,hbl⟩
set_option maxHeartbeats 1000000 in
theorem vPairsN (va vb:Value) (xs ys:List En) (w:World) (ha:Rq 4 cellsN w va xs) (hb:Rq 4 cellsN w vb ys) (hl:xs.length≤1000000) (hm:ys.length≤1000000) :
  Calls Tryz.prog 144 #[va,vb] w fun e w'=>e=.returned (.func (.func 158) #[] #[.pointer (some ⟨w.heap.size,0,none⟩),.pointer (some ⟨w.heap.size+1,0,none⟩)]) ∧
   PairsIn 4 cellsN w' w.heap.size w'.heap.size w.heap.size (w.heap.size+1) (xs.take (min xs.length ys.length)) (ys.take (min xs.length ys.length))∧Bl w w':=by
 obtain ⟨p,cap,rfl,hc,CA⟩:=ha.cut;obtain ⟨q,dap,rfl,hd,CB⟩:=hb.cut;obtain ⟨W,X⟩:=twoS_ex w (.slice p xs.length cap) (.slice q ys.length dap) 46;have HX:=hideP X;have sl1:=fun m u (h:m≤cap)=>Tryz.cutN p xs.length cap m u h
 have sl2:=fun m u (h:m≤dap)=>Tryz.cutN q ys.length dap m u h
 have HA:=hideP (cloneN_cut X.bl CA hl);have HB:=hideP (cloneN_cut X.bl CB hm);clear CA CB ha hb X;by_cases hlt:ys.length<xs.length
 ·rw [show min xs.length ys.length=ys.length by omega];have A:=hideP (HA.out ys.length (by omega));have B:=hideP (HB.out ys.length (by omega));have s1:=fun u=>sl1 ys.length u (by omega)
  have s2:=fun u=>sl2 ys.length u (by omega)
  have hm0:min (xs.length:Int) (ys.length:Int)=(ys.length:Int):=by omega
  clear HA HB sl1 sl2
  go_enter Tryz.func144,Tryz.ntmps144;go_wp2_with fail
  rw [←HX.out.eq];obtain ⟨c0,c1,f0,f1⟩:=HX.out.k _ ((Bl.refl _).drew)
  go_region_with (first
   |(go_at_call_of 72 #[Value.slice p ys.length cap];refine (A.out _ ((Bl.refl _).drew)).mono ?_;rintro e w1 ⟨p1,k1,rfl,R1,h1⟩;obtain ⟨d0,d1,g0,g1⟩:=HX.out.k _ (((Bl.refl _).drew).trans h1))
   |(go_at_call_of 72 #[Value.slice q ys.length dap];refine (B.out _ (((Bl.refl _).drew).trans h1)).mono ?_;rintro e w2 ⟨p2,k2,rfl,R2,h2⟩;obtain ⟨e0,e1,l0,l1⟩:=HX.out.k _ ((((Bl.refl _).drew).trans h1).trans h2)))
  all_goals
   clear c0 c1 f0 f1 d0 d1 g0 g1 s1 s2 A B;go_wp2;go_ret;refine ⟨rfl,?_,?_⟩
   ·have hs:=HX.out.size;have h1s:=Below.size h1;have h2s:=Below.size h2;have hd:W.drew.heap.size=W.heap.size:=rfl;have q1:Rw 4 cellsN ((w2.setCell ⟨w.heap.size,0,none⟩ (.slice p1 ys.length k1)).setCell ⟨w.heap.size+1,0,none⟩ (.slice p2 ys.length k2)) (.slice p1 ys.length k1) _:=((R1.1.later h2).set _ (fun g hg=>by have:=R1.2 g hg;show w.heap.size+1≤g;omega)).set _ (fun g hg=>by have:=R1.2 g hg;show w.heap.size+1+1≤g;omega);have q2:Rw 4 cellsN ((w2.setCell ⟨w.heap.size,0,none⟩ (.slice p1 ys.length k1)).setCell ⟨w.heap.size+1,0,none⟩ (.slice p2 ys.length k2)) (.slice p2 ys.length k2) _:=(R2.1.set _ (fun g hg=>by have:=R2.2 g hg;show w.heap.size+1≤g;omega)).set _ (fun g hg=>by have:=R2.2 g hg;show w.heap.size+1+1≤g;omega);refine ⟨_,_,Nat.le_refl _,by simp;omega,by omega,by simp;omega,?_,?_,q1,q2,fun g hg=>⟨by have:=R1.2 g hg;omega,q1.lt g hg⟩,fun g hg=>⟨by have:=R2.2 g hg;omega,q2.lt g hg⟩,by simp;omega⟩
    ·simp [go_sem,e0,e1]
    ·simp [go_sem,e0,e1]
   ·exact Bl.set (Bl.set ((HX.out.bl.trans (((Bl.refl _).drew).trans h1)).trans h2) (Nat.le_refl _) _) (by show w.heap.size≤w.heap.size+1;omega) _
 ·rw [show min xs.length ys.length=xs.length by omega];have A:=hideP (HA.out xs.length (by omega));have B:=hideP (HB.out xs.length (by omega));have s1:=fun u=>sl1 xs.length u (by omega)
  have s2:=fun u=>sl2 xs.length u (by omega)
  have hm0:min (xs.length:Int) (ys.length:Int)=(xs.length:Int):=by omega
  clear HA HB sl1 sl2
  go_enter Tryz.func144,Tryz.ntmps144;go_wp2_with fail
  rw [←HX.out.eq];obtain ⟨c0,c1,f0,f1⟩:=HX.out.k _ ((Bl.refl _).drew)
  go_region_with (first
   |(go_at_call_of 72 #[Value.slice p xs.length cap];refine (A.out _ ((Bl.refl _).drew)).mono ?_;rintro e w1 ⟨p1,k1,rfl,R1,h1⟩;obtain ⟨d0,d1,g0,g1⟩:=HX.out.k _ (((Bl.refl _).drew).trans h1))
   |(go_at_call_of 72 #[Value.slice q xs.length dap];refine (B.out _ (((Bl.refl _).drew).trans h1)).mono ?_;rintro e w2 ⟨p2,k2,rfl,R2,h2⟩;obtain ⟨e0,e1,l0,l1⟩:=HX.out.k _ ((((Bl.refl _).drew).trans h1).trans h2)))
  all_goals
   clear c0 c1 f0 f1 d0 d1 g0 g1 s1 s2 A B;go_wp2;go_ret;refine ⟨rfl,?_,?_⟩
   ·have hs:=HX.out.size;have h1s:=Below.size h1;have h2s:=Below.size h2;have hd:W.drew.heap.size=W.heap.size:=rfl;have q1:Rw 4 cellsN ((w2.setCell ⟨w.heap.size,0,none⟩ (.slice p1 xs.length k1)).setCell ⟨w.heap.size+1,0,none⟩ (.slice p2 xs.length k2)) (.slice p1 xs.length k1) _:=((R1.1.later h2).set _ (fun g hg=>by have:=R1.2 g hg;show w.heap.size+1≤g;omega)).set _ (fun g hg=>by have:=R1.2 g hg;show w.heap.size+1+1≤g;omega);have q2:Rw 4 cellsN ((w2.setCell ⟨w.heap.size,0,none⟩ (.slice p1 xs.length k1)).setCell ⟨w.heap.size+1,0,none⟩ (.slice p2 xs.length k2)) (.slice p2 xs.length k2) _:=(R2.1.set _ (fun g hg=>by have:=R2.2 g hg;show w.heap.size+1≤g;omega)).set _ (fun g hg=>by have:=R2.2 g hg;show w.heap.size+1+1≤g;omega);refine ⟨_,_,Nat.le_refl _,by simp;omega,by omega,by simp;omega,?_,?_,q1,q2,fun g hg=>⟨by have:=R1.2 g hg;omega,q1.lt g hg⟩,fun g hg=>⟨by have:=R2.2 g hg;omega,q2.lt g hg⟩,by simp;omega⟩
    ·simp [go_sem,e0,e1]
    ·simp [go_sem,e0,e1]
   ·exact Bl.set (Bl.set ((HX.out.bl.trans (((Bl.refl _).drew).trans h1)).trans h2) (Nat.le_refl _) _) (by show w.heap.size≤w.heap.size+1;omega) _
open Go.Shelf
attribute [local go_sem] Oper.semAt_some
theorem Tryz.yieldN (l:Nat) (w:World):(binOp .eql 189 (.func (.yield l) #[] #[]) .nilFunc).run Tryz.prog w=.ok (.bool false) w:=by kernel_rfl
set_option maxRecDepth 100000 in
set_option maxHeartbeats 2000000 in
theorem iterN (n l A B lo hi:Nat) (xs ys:List En) (hl:xs.length≤1000000) (J Jx:List (En×En)→World→Prop) (W:World) (hJ:AbidesFrom W.heap.size J) (hh:hi≤W.heap.size)
  (hY:∀ pre x W1,J pre W1→pre.length<xs.length→YieldAt Fence.wide (n-1) Tryz.prog l #[enV x.1,enV x.2] W1 fun e W' =>
   (e=.returned (.bool true)∧J (pre++[x]) W'∧Span lo hi W1 W')∨(e=.returned (.bool false)∧Jx (pre++[x]) W'))
  (hP:PairsIn 4 cellsN W lo hi A B xs ys) (h0:J [] W) :
  CallsIn Fence.wide n Tryz.prog 158 #[.func (.yield l) #[] #[],.pointer (some ⟨A,0,none⟩),.pointer (some ⟨B,0,none⟩)] W fun e W'=>(∃ v,e=.returned v) ∧
   ((∃ zs,zs=xs.zip ys∧J zs W')∨(∃ pre,pre <+: xs.zip ys∧Jx pre W')):=by
 have yn:=Tryz.yieldN l;obtain ⟨u,v,a1,a2,b1,b2,cu,cv,ru,rv,fu,fv,hxy⟩:=hP;rcases ru with ⟨rfl,rfl⟩|⟨b,o,cap,rfl,hc,hb,hx⟩
 ·clear hY;refine callsIn_of_wp Tryz.func158 rfl trivial ?_ rfl;simp only [Tryz.ntmps158,List.size_toArray,List.length_cons,List.length_nil,Nat.reduceAdd,Nat.reduceSub,Array.replicate_succ,Array.replicate_zero,List.push_toArray,List.append_toArray,List.nil_append,List.cons_append]
  gi_wp2
  gi_loopw [10] (fun i wr=>i=.int .i64 0∧J [] wr) (fun _ _=>0)
  case atStart=>exact ⟨rfl,h0⟩
  case round =>
   obtain ⟨rfl,hJs⟩:=hrel
   gi_wp2
   go_end0
   exact ⟨⟨_,rfl⟩,.inl ⟨_,rfl,hJs⟩⟩
 ·have hb':=fu b rfl;have HX:=hideP hx;have HV:=hideP rv;have HXY:=hideP hxy;clear hx rv hxy;refine callsIn_of_wp Tryz.func158 rfl trivial ?_ rfl;simp only [Tryz.ntmps158,List.size_toArray,List.length_cons,List.length_nil,Nat.reduceAdd,Nat.reduceSub,Array.replicate_succ,Array.replicate_zero,List.push_toArray,List.append_toArray,List.nil_append,List.cons_append]
  gi_wp2
  gi_loopw [10] (fun i wr=>∃ k:Nat,k≤xs.length∧i=.int .i64 k∧J ((xs.zip ys).take k) wr∧Span lo hi W wr∧W.heap.size≤wr.heap.size)
   (fun i _=>xs.length-(intOf i).toNat)
  case atStart=>exact ⟨0,Nat.zero_le _,rfl,h0,Span.refl _ _ _,Nat.le_refl _⟩
  case round =>
   obtain ⟨k,hk,rfl,hJs,hsp,hsz⟩:=hrel;by_cases hlt:k<xs.length
   ·obtain ⟨x,hx⟩:∃ x,xs[k]?=some x:=⟨_,List.getElem?_eq_getElem hlt⟩;obtain ⟨y,hy⟩:∃ y,ys[k]?=some y:=⟨_,List.getElem?_eq_getElem (by have:=HXY.out;omega)⟩;rcases HV.out with ⟨rfl,e0⟩|⟨b',o',cap',rfl,hc',hbb,hy'⟩
    ·have:=HXY.out;rw [e0] at this;simp at this;rw [this] at hlt;simp at hlt
    have HY:=hideP hy';have hb2:=fv b' rfl;have hlt':k<ys.length:=by have:=HXY.out;omega
    clear hy';have CX:∀ j u,(cellsN x)[j]?=some u→wr.cell? ⟨b,o+k*4+j,none⟩=some u:=fun j u hu=>(hsp.cell b _ hb'.1 hb'.2).trans (HX.out k x hx j u hu)
    have x0:wr.cell? ⟨b,o+k*4,none⟩=some (.int .i64 x.v):=CX 0 _ rfl;have x1:wr.cell? ⟨b,o+k*4+1,none⟩=some (.int .i64 x.l):=CX 1 _ rfl;have x2:wr.cell? ⟨b,o+k*4+2,none⟩=some (.int .i64 x.h):=CX 2 _ rfl;have x3:wr.cell? ⟨b,o+k*4+3,none⟩=some (.bool x.bad):=CX 3 _ rfl;clear CX;obtain ⟨V,hV⟩:∃ V,V=wr.alloc (.cells #[.int .i64 x.v,.int .i64 x.l,.int .i64 x.h,.bool x.bad] 52):=⟨_,rfl⟩;have bV:Bl wr V.drew:=by rw [hV];exact ((Bl.refl _).alloc _).drew
    have BX:Box V.drew wr.heap.size x:=by rw [hV];exact (Box.new wr x _).later ((Bl.refl _).drew)
    have sV:Span lo hi W V.drew:=hsp.trans (bV.span (by omega));have jV:J ((xs.zip ys).take k) V.drew:=by
     refine hJ _ _ _ none hJs ?_ nofun;rw [hV];exact ⟨rfl,rfl,rfl,by simp,fun i hi _=>by have:=(((Bl.refl wr).alloc (.cells #[.int .i64 x.v,.int .i64 x.l,.int .i64 x.h,.bool x.bad] 52)).drew).block i hi;exact this⟩
    have CY:∀ j u,(cellsN y)[j]?=some u→V.drew.cell? ⟨b',o'+k*4+j,none⟩=some u:=fun j u hu=>(sV.cell b' _ hb2.1 hb2.2).trans (HY.out k y hy j u hu)
    have y0:V.drew.cell? ⟨b',o'+k*4,none⟩=some (.int .i64 y.v):=CY 0 _ rfl;have y1:V.drew.cell? ⟨b',o'+k*4+1,none⟩=some (.int .i64 y.l):=CY 1 _ rfl;have y2:V.drew.cell? ⟨b',o'+k*4+2,none⟩=some (.int .i64 y.h):=CY 2 _ rfl;have y3:V.drew.cell? ⟨b',o'+k*4+3,none⟩=some (.bool y.bad):=CY 3 _ rfl;have yb:V.drew.cell? ⟨B,0,none⟩=some (.slice (some ⟨b',o',none⟩) ys.length cap'):=(sV.cell B 0 b1 b2).trans cv;obtain ⟨z0,z1,z2,z3,_,_,_,_,_⟩:=BX;have hlen:((xs.zip ys).take k).length=k:=by have:=HXY.out;simp;omega
    obtain ⟨fn,tmps,assign,body,hyd,hR⟩:=hY _ (x,y) V.drew jV (by omega);dsimp only at hyd;have HT:=hideP (show (xs.zip ys).take (k+1)=(xs.zip ys).take k++[(x,y)] by
     rw [List.take_add_one,(List.getElem?_zip_eq_some (z:=(x,y))).2 ⟨hx,hy⟩];rfl)
    have HW:=hideP hV;clear CY hV hJs
    gi_wp2
    rw [←HW.out];have hR2:RoundIn Fence.wide (n-1) Tryz.prog l fn tmps assign body V.drew fun e W'=>∃ r:Bool,e=.returned (.bool r)∧((r=true∧J ((xs.zip ys).take k++[(x,y)]) W'∧Span lo hi V.drew W')∨(r=false∧Jx ((xs.zip ys).take k++[(x,y)]) W')):=by
     refine hR.mono ?_;rintro e W' (⟨rfl,h1,h2⟩|⟨rfl,h1⟩)
     ·exact ⟨true,rfl,.inl ⟨rfl,h1,h2⟩⟩
     ·exact ⟨false,rfl,.inr ⟨rfl,h1⟩⟩
    have fm:Tryz.prog.follows .mixedOrders=true:=by kernel_rfl
    gi_region_with_o (refine ⟨fun h=>(by cases h),?_⟩;refine hR2.mono ?_;rintro e W3 ⟨r,rfl,hr⟩)
    all_goals
     rcases hr with ⟨rfl,hJ3,hk3⟩|⟨rfl,hJx3⟩
     ·gi_wp2
      go_roundw
      case rel=>exact ⟨k+1,by omega,by simp,by rw [HT.out];exact hJ3,sV.trans hk3,by have:=(bV.size);have:=hk3.size;omega⟩
      case measure=>simp [intOf];omega
     ·gi_wp2
      refine bodyPost_ret (results_none rfl _ _ _) rfl ?_;exact ⟨⟨_,rfl⟩,.inr ⟨_,by rw [←HT.out];exact List.take_prefix _ _,hJx3⟩⟩
   ·have hk':k=xs.length:=by omega
    subst hk';have HJ:=hideP hJs;clear hJs
    gi_wp2
    go_end0
    refine ⟨⟨_,rfl⟩,.inl ⟨_,?_,HJ.out⟩⟩;have:=HXY.out;exact List.take_of_length_le (by rw [List.length_zip];exact Nat.min_le_left _ _)
theorem seqN (n A B lo hi:Nat) (xs ys:List En) (hl:xs.length≤1000000) (w:World) (hh:hi≤w.heap.size) (hP:PairsIn 4 cellsN w lo hi A B xs ys) :
  SeqStopsK Fence.wide n Tryz.prog 158 #[.pointer (some ⟨A,0,none⟩),.pointer (some ⟨B,0,none⟩)] (fun x:En×En=>#[enV x.1,enV x.2]) (Span lo hi) (fun zs=>zs=xs.zip ys) (fun pre=>pre <+: xs.zip ys) xs.length w:=
 fun l J Jx W hW hJ _ hY h0=>iterN n l A B lo hi xs ys hl J Jx W hJ (Nat.le_trans hh hW.size) hY (hP.later (Bl.span hW hh)) h0
attribute [local go_sem] Oper.semAt_some
theorem Box.own {X Y:World} {b:Nat} {x:En} {row:Option Nat} (h:Box X b x) (hg:X.grownBy Y row) (hr:∀ r,row=some r→∃ o:Obj,X.heap[r]?=some o∧o.isCells=false):Box Y b x:=
 ⟨cell_kept h.c0 hg hr,cell_kept h.c1 hg hr,cell_kept h.c2 hg hr,cell_kept h.c3 hg hr,(frozen_kept h.c0 hg hr).trans h.f0,(frozen_kept h.c1 hg hr).trans h.f1,(frozen_kept h.c2 hg hr).trans h.f2,(frozen_kept h.c3 hg hr).trans h.f3,by have:=h.lt;have:=hg.size;omega⟩
theorem Box.cells {w:World} {b:Nat} {x:En} (h:Box w b x):∀ j u,(cellsN x)[j]?=some u→w.cell? ((⟨b,0,none⟩:Addr).add j)=some u:=by
 intro j u hu;have hadd:(⟨b,0,none⟩:Addr).add j=⟨b,j,none⟩:=by unfold Addr.add;split<;>simp_all
 rw [hadd];unfold cellsN at hu;rcases j with _|_|_|_|j
 ·simp at hu;rw [←hu];exact h.c0
 ·simp at hu;rw [←hu];exact h.c1
 ·simp at hu;rw [←hu];exact h.c2
 ·simp at hu;rw [←hu];exact h.c3
 ·simp at hu
def eachActN (t0 t1 t2 t6 t10 t11 t12 t13 t14 t15 t16 t17 t18 t19 t20:Value) (D R X Y:Nat) (v21 v22 v23 v24 v25 v26:Value):Act:=
 { tmps:=#[t0,t1,t2,undef,undef,.pointer (some ⟨D,0,none⟩),t6,.pointer (some ⟨R,0,none⟩),.pointer (some ⟨X,0,none⟩),.pointer (some ⟨Y,0,none⟩),t10,t11,t12,t13,t14,t15,t16,t17,t18,t19,t20,v21,v22,v23,v24,v25,v26,undef,undef],defers:=[] }
def EachIN (A:Value→Value→Value→Value→Value→Value→Act) (v f:Value) (x y z:En) (W:World) (k:Nat) (l:Array Bool) (act:Act) (u:World):Prop:=
 ∃ (l0 l1 l2 l3 l4 l5:Bool) (v21 v22 v23 v24 v25 v26:Value) (g:Nat),l=#[l0,l1,l2,l3,l4,l5,false,false]∧k=one' l0+one' l1+one' l2+one' l3+one' l4+one' l5∧act=A v21 v22 v23 v24 v25 v26
  ∧ (l0=true→v21=v)∧(l1=true→v22=f)∧(l2=true→v23=enV x)∧(l3=true→v24=enV y)∧(l4=true→v25=enV z)∧(l5=true→v26=.slice (some ⟨g,0,none⟩) 1 1∧Box u g z)
  ∧ (l4=true→l1=true∧l2=true∧l3=true)∧(l5=true→l4=true)∧Bl W u
set_option maxRecDepth 100000 in
set_option maxHeartbeats 2000000 in
theorem eachN' (K:Nat) (op:En→En→En) (hK:∀ a b w,Calls Tryz.prog K #[enV a,enV b] w fun e w'=>e=.returned (enV (op a b))∧Bl w w') (eg:∀ args w,(callFunc K args).run Tryz.prog w=.ok (.enter K args) w)
  (va vb:Value) (xs ys:List En) (w:World) (ha:Rq 4 cellsN w va xs) (hb:Rq 4 cellsN w vb ys) (hl:xs.length≤1000000) (hm:ys.length≤1000000) :
  Calls Tryz.prog 121 #[va,vb,.func (.func K) #[] #[]] w fun e w'=>∃ u,e=.returned u∧Rw 4 cellsN w' u (List.zipWith op xs ys)∧Fresh w.heap.size u∧Bl w w':=by
 obtain ⟨i0,hi,hz0,hz1,hz2⟩:=info_parts Tryz.info_N;refine (callsIn_wide (n:=6)).1 ?_;obtain ⟨p,cap,rfl,hc,_⟩:=ha.cut;obtain ⟨q,dap,rfl,hd,_⟩:=hb.cut;have HA:=hideP ha;have HB:=hideP hb;clear ha hb;have HK:=hideP hK;clear hK;obtain ⟨m,hmin⟩:∃ m,m=min xs.length ys.length:=⟨_,rfl⟩;have hm0:min (xs.length:Int) (ys.length:Int)=(m:Int):=by omega
 have hm1:(if ys.length<xs.length then (ys.length:Int) else (xs.length:Int))=(m:Int):=by split<;>omega
 have hml:m≤1000000:=by omega
 have HM:=hideP hmin;clear hmin;refine callsIn_of_wp_marks Tryz.func121 rfl trivial ?_ rfl;simp only [Tryz.ntmps121,List.size_toArray,List.length_cons,List.length_nil,Nat.reduceAdd,Nat.reduceSub,Array.replicate_succ,Array.replicate_zero,List.push_toArray,List.append_toArray,List.nil_append,List.cons_append]
 gi_wp2_with (first
  |(gi_at_make;refine wpListIn_make_own _ rfl _ _ 46 rfl w.heap.size 52 i0 (.agg #[.int .i64 0,.int .i64 0,.int .i64 0,.bool false]) 4 Tryz.underlying46 hi hz0 hz1 .i64 .i64 _ m rfl rfl (by simp) (by rw [hz2];omega) (by unfold maxLen;omega) (by simp) ?_;intro w0 hown0 hgrow0;have hB0:Bl w w0:=((Bl.refl w).alloc _).grown hgrow0 (by simp) (fun k e=>by cases e))
  |(refine ⟨trivial,?_⟩;refine (callsIn_wide.2 (vPairsN _ _ xs ys _ (HA.out.later (hB0.alloc _)) (HB.out.later (hB0.alloc _)) hl hm)).mono ?_;rintro e w3 ⟨rfl,hP,hB3⟩))
 simp only [World.size_alloc] at hP hown0;have hszl:w0.heap.size+1≤w3.heap.size:=by have:=hB3.size;simpa using this
 have hsz0:w.heap.size+1≤w0.heap.size:=by have:=hgrow0.size;simpa using this
 have hB:Bl w w3:=(hB0.alloc _).trans hB3;have bD:Boxed w3 w.heap.size 153 (.func (.func K) #[] #[]):=boxed_bl (((Boxed.new w 153 (.func (.func K) #[] #[])).kept hgrow0 (by simp)).alloc _) hB3;have bR:Boxed w3 w0.heap.size 46 (.slice (some ⟨w.heap.size+1,0,none⟩) 0 m):=boxed_bl (Boxed.new w0 46 _) hB3;have hrow:w3.ownsRow w.heap.size 52 4 (.slice (some ⟨w.heap.size+1,0,none⟩) 0 m) 0 []:=own_blN (hown0.alloc _) hB3;clear hown0;have HP:=hideP hP;clear hP
 refine wpIn_rangeFunc_ownH rfl (by omega) (gf:=158) (lb:=#[.pointer (some ⟨w0.heap.size+1,0,none⟩),.pointer (some ⟨w0.heap.size+1+1,0,none⟩)]) rfl trivial (enters_of Tryz.func158 (by kernel_rfl) rfl)
  (seqN 5 _ _ _ w3.heap.size _ _ (by simp;omega) w3 (Nat.le_refl _) HP.out) (fun h k=>h.trans k) (span_b (Nat.le_refl _)) (Below.refl _ _) (fun _=>rfl)
  (fun pre W=>(∃ v,Boxed W w0.heap.size 46 v∧W.ownsRow w.heap.size 52 4 v (opL op pre).length ((opL op pre).flatMap cellsN)∧(∀ g,v.ownBlock=some g→g<w0.heap.size+1∨w3.heap.size≤g))∧(Boxed W w.heap.size 153 (.func (.func K) #[] #[])∧(Below w.heap.size w W∧w3.heap.size≤W.heap.size)))
  (fun _ _ _=>False)
  (OwnFrom.and (Own.from (holdsRow_own w.heap.size w0.heap.size 46 52 4 (fun pre=>(opL op pre).length) (fun pre=>(opL op pre).flatMap cellsN) (fun pre v=>∀ g,v.ownBlock=some g→g<w0.heap.size+1∨w3.heap.size≤g)) _) (OwnFrom.and (Own.from (boxed_own _ _ _) _) (OwnFrom.and (ownFrom_below (Nat.le_refl _) hB.size) (fun _ _ _ _ h hg _=>Nat.le_trans h hg.size))))
  (fun _ _ _ _ _ hs _ _=>hs)
  ⟨⟨_,bR,hrow,fun g hg=>by cases hg;exact .inl (by show w.heap.size+1<_;omega)⟩,bD,hB,Nat.le_refl _⟩
  (fun x a' W=>∃ Bx,w3.heap.size≤Bx∧Box W Bx x.1∧Box W (Bx+1) x.2∧a'=eachActN (.slice p xs.length cap) (.slice q ys.length dap) (.func (.func K) #[] #[]) (.slice none 0 0) (.slice p xs.length cap) (.int .i64 xs.length) (.slice q ys.length dap) (.int .i64 ys.length) (.int .i64 m) (.slice (some ⟨w.heap.size+1,0,none⟩) 0 m) (.slice p xs.length cap) (.slice q ys.length dap) (.func (.func 158) #[] #[.pointer (some ⟨w0.heap.size+1,0,none⟩),.pointer (some ⟨w0.heap.size+1+1,0,none⟩)]) (enV x.1) (enV x.2) w.heap.size w0.heap.size Bx (Bx+1) undef undef undef undef undef undef)
  (fun x a' _ X Y row hs hg hr=>by obtain ⟨Bx,h0,h1,h2,h3⟩:=hs;exact ⟨Bx,h0,h1.own hg (fun r e=>(hr r e).2),h2.own hg (fun r e=>(hr r e).2),h3⟩)
  ?assign ?body ?done ?stop
 case assign =>
  rintro l pre x W K' ⟨⟨v,hv,hr,hg⟩,hd,hBW,hsW⟩ hK';have HK2:=hideP hK';clear hK'
  gi_wp2
  have hb2:Bl W ((W.alloc (.cells #[.int .i64 x.1.v,.int .i64 x.1.l,.int .i64 x.1.h,.bool x.1.bad] 52)).alloc (.cells #[.int .i64 x.2.v,.int .i64 x.2.l,.int .i64 x.2.h,.bool x.2.bad] 52)):=((Bl.refl W).alloc _).alloc _
  exact HK2.out _ _ (hb2.keeps _) (hb2.span hsW) ⟨⟨v,(hv.alloc _).alloc _,(hr.alloc _).alloc _,hg⟩,(hd.alloc _).alloc _,hBW.trans (hb2.mono hBW.size),by have:=hb2.size;omega⟩
   ⟨W.heap.size,hsW,(Box.new W x.1 _).later ((Bl.refl _).alloc _),by have:=Box.new (W.alloc (.cells #[.int .i64 x.1.v,.int .i64 x.1.l,.int .i64 x.1.h,.bool x.1.bad] 52)) x.2 52;simpa using this,rfl⟩
 case body =>
  rintro l pre ⟨x,y⟩ a' W hl' ⟨r,hr'⟩ ⟨⟨v,hv,hrow,hg⟩,hd,hBW,hsW⟩ ⟨Bx,hBx,b1,b2,rfl⟩ hlt;have fm:Tryz.prog.follows .mixedOrders=true:=by kernel_rfl
  have HV:=hideP hv;have HD:=hideP hd;have HR:=hideP hrow;have B1:=hideP b1;have B2:=hideP b2;have HG:=hideP hg;have HBW:=hideP hBW;clear hv hd hrow b1 b2 hg hBW;obtain ⟨z,hz⟩:∃ z,z=op x y:=⟨_,rfl⟩;have HK3:=hideP (fun u=>HK.out x y u);rw [←hz] at HK3;have HZ:=hideP hz;clear hz;have hpl:(opL op pre).length=pre.length:=by simp [opL]
  have hlt':pre.length≤1000000:=by simp at hlt;omega
  obtain ⟨A,hA⟩:∃ A,A=eachActN (.slice p xs.length cap) (.slice q ys.length dap) (.func (.func K) #[] #[]) (.slice none 0 0) (.slice p xs.length cap) (.int .i64 xs.length) (.slice q ys.length dap) (.int .i64 ys.length) (.int .i64 m) (.slice (some ⟨w.heap.size+1,0,none⟩) 0 m) (.slice p xs.length cap) (.slice q ys.length dap) (.func (.func 158) #[] #[.pointer (some ⟨w0.heap.size+1,0,none⟩),.pointer (some ⟨w0.heap.size+1+1,0,none⟩)]) (enV x) (enV y) w.heap.size w0.heap.size Bx (Bx+1):=⟨_,rfl⟩;show Code.wpIn _ _ _ _ _ (eachActN _ _ _ _ _ _ _ _ _ _ _ _ _ (enV x) (enV y) _ _ _ _ _ _ _ _ _ _) W;rw [←hA];have HAct:=hideP hA;clear hA
  gi_wp2
  refine wpIn_region_any fm ?_;change wpAnyIn _ _ _ _ _ _ _ _ _ (World.drew _);refine wpAnyIn_phase (fuel:=2) (EachIN A v (.func (.func K) #[] #[]) x y z W) ?fin ?live ?step 6 _ _ _ ⟨false,false,false,false,false,false,undef,undef,undef,undef,undef,undef,0,rfl,rfl,rfl,nofun,nofun,nofun,nofun,nofun,nofun,nofun,nofun,(Bl.refl _).drew⟩
  case live =>
   intro k l act u h h0;obtain ⟨l0,l1,l2,l3,l4,l5,v21,v22,v23,v24,v25,v26,g,rfl,hk,rfl,e0,e1,e2,e3,e4,e5,c4,c5,hB⟩:=h;rw [List.eq_nil_iff_forall_not_mem] at h0;cases l0
   ·exact h0 0 (mem_ready.2 ⟨rfl,_,rfl,fun e he=>by simp at he⟩)
   cases l1
   ·exact h0 1 (mem_ready.2 ⟨rfl,_,rfl,fun e he=>by simp at he⟩)
   cases l2
   ·exact h0 2 (mem_ready.2 ⟨rfl,_,rfl,fun e he=>by simp at he⟩)
   cases l3
   ·exact h0 3 (mem_ready.2 ⟨rfl,_,rfl,fun e he=>by simp at he⟩)
   cases l4
   ·exact h0 4 (mem_ready.2 ⟨rfl,_,rfl,fun e he hb=>by simp at he;rcases he with rfl|rfl|rfl<;>rfl⟩)
   cases l5
   ·exact h0 5 (mem_ready.2 ⟨rfl,_,rfl,fun e he hb=>by simp at he;rcases he with rfl;rfl⟩)
   simp [one'] at hk
  case step =>
   intro k l act u i h hi' hall;obtain ⟨l0,l1,l2,l3,l4,l5,v21,v22,v23,v24,v25,v26,g,rfl,hk,rfl,e0,e1,e2,e3,e4,e5,c4,c5,hB⟩:=h;have hlt2:=getD_lt' hi';simp only [List.size_toArray,List.length_cons,List.length_nil] at hlt2;have cR:u.cell? ⟨w0.heap.size,0,none⟩=some v:=(boxed_bl HV.out hB).cell;have cD:u.cell? ⟨w.heap.size,0,none⟩=some (.func (.func K) #[] #[]):=(boxed_bl HD.out hB).cell;obtain ⟨c0,c1,c2,c3,f0,f1,f2,f3,lt1⟩:=B1.out.later hB;obtain ⟨d0,d1,d2,d3,g0,g1,g2,g3,lt2⟩:=B2.out.later hB;rcases (by omega:i=0∨i=1∨i=2∨i=3∨i=4∨i=5∨i=6∨i=7) with rfl|rfl|rfl|rfl|rfl|rfl|rfl|rfl
   ·skip
    have hl0:l0=false:=hi';subst hl0;have E0:=hideP e0;have E1:=hideP e1;have E2:=hideP e2;have E3:=hideP e3;have E4:=hideP e4;have E5:=hideP e5;have C4:=hideP c4;have C5:=hideP c5;have HKk:=hideP hk;have HBu:=hideP hB;clear e0 e1 e2 e3 e4 e5 c4 c5 hk hB hi' hall;refine wpOpIn_step (o:=_) rfl (fun K' hK0=>?_);have hK':=hideP hK0;clear hK0;rw [HAct.out];unfold eachActN
    try simp only [List.getElem_toArray,List.getElem_cons_zero,List.getElem_cons_succ]
    go_simp
    exact hK'.out _ _ ⟨true,l1,l2,l3,l4,l5,(v),v22,v23,v24,v25,v26,g,rfl,by have:=HKk.out;simp [one'] at this ⊢;omega,by rw [HAct.out];rfl,fun _=>rfl,E1.out,E2.out,E3.out,E4.out,E5.out,C4.out,C5.out,HBu.out⟩
   ·skip
    have hl0:l1=false:=hi';subst hl0;have E0:=hideP e0;have E1:=hideP e1;have E2:=hideP e2;have E3:=hideP e3;have E4:=hideP e4;have E5:=hideP e5;have C4:=hideP c4;have C5:=hideP c5;have HKk:=hideP hk;have HBu:=hideP hB;clear e0 e1 e2 e3 e4 e5 c4 c5 hk hB hi' hall;refine wpOpIn_step (o:=_) rfl (fun K' hK0=>?_);have hK':=hideP hK0;clear hK0;rw [HAct.out];unfold eachActN
    try simp only [List.getElem_toArray,List.getElem_cons_zero,List.getElem_cons_succ]
    go_simp
    exact hK'.out _ _ ⟨l0,true,l2,l3,l4,l5,v21,(.func (.func K) #[] #[]),v23,v24,v25,v26,g,rfl,by have:=HKk.out;simp [one'] at this ⊢;omega,by rw [HAct.out];rfl,E0.out,fun _=>rfl,E2.out,E3.out,E4.out,E5.out,fun h=>⟨rfl,(C4.out h).2.1,(C4.out h).2.2⟩,C5.out,HBu.out⟩
   ·skip
    have hl0:l2=false:=hi';subst hl0;have E0:=hideP e0;have E1:=hideP e1;have E2:=hideP e2;have E3:=hideP e3;have E4:=hideP e4;have E5:=hideP e5;have C4:=hideP c4;have C5:=hideP c5;have HKk:=hideP hk;have HBu:=hideP hB;clear e0 e1 e2 e3 e4 e5 c4 c5 hk hB hi' hall;refine wpOpIn_step (o:=_) rfl (fun K' hK0=>?_);have hK':=hideP hK0;clear hK0;rw [HAct.out];unfold eachActN
    try simp only [List.getElem_toArray,List.getElem_cons_zero,List.getElem_cons_succ]
    go_simp
    exact hK'.out _ _ ⟨l0,l1,true,l3,l4,l5,v21,v22,(enV x),v24,v25,v26,g,rfl,by have:=HKk.out;simp [one'] at this ⊢;omega,by rw [HAct.out];rfl,E0.out,E1.out,fun _=>rfl,E3.out,E4.out,E5.out,fun h=>⟨(C4.out h).1,rfl,(C4.out h).2.2⟩,C5.out,HBu.out⟩
   ·skip
    have hl0:l3=false:=hi';subst hl0;have E0:=hideP e0;have E1:=hideP e1;have E2:=hideP e2;have E3:=hideP e3;have E4:=hideP e4;have E5:=hideP e5;have C4:=hideP c4;have C5:=hideP c5;have HKk:=hideP hk;have HBu:=hideP hB;clear e0 e1 e2 e3 e4 e5 c4 c5 hk hB hi' hall;refine wpOpIn_step (o:=_) rfl (fun K' hK0=>?_);have hK':=hideP hK0;clear hK0;rw [HAct.out];unfold eachActN
    try simp only [List.getElem_toArray,List.getElem_cons_zero,List.getElem_cons_succ]
    go_simp
    exact hK'.out _ _ ⟨l0,l1,l2,true,l4,l5,v21,v22,v23,(enV y),v25,v26,g,rfl,by have:=HKk.out;simp [one'] at this ⊢;omega,by rw [HAct.out];rfl,E0.out,E1.out,E2.out,fun _=>rfl,E4.out,E5.out,fun h=>⟨(C4.out h).1,(C4.out h).2.1,rfl⟩,C5.out,HBu.out⟩
   ·skip
    have hl0:l4=false:=hi';subst hl0;have h1:l1=true:=hall ⟨1,.data⟩ ⟨_,rfl,by simp⟩ rfl;have h2:l2=true:=hall ⟨2,.data⟩ ⟨_,rfl,by simp⟩ rfl;have h3:l3=true:=hall ⟨3,.data⟩ ⟨_,rfl,by simp⟩ rfl;obtain rfl:=e1 h1;obtain rfl:=e2 h2;obtain rfl:=e3 h3;have E0:=hideP e0;have E1:=hideP e1;have E2:=hideP e2;have E3:=hideP e3;have E4:=hideP e4;have E5:=hideP e5;have C4:=hideP c4;have C5:=hideP c5;have HKk:=hideP hk;have HBu:=hideP hB;have H1:=hideP h1;have H2:=hideP h2;have H3:=hideP h3;clear h1 h2 h3;clear e0 e1 e2 e3 e4 e5 c4 c5 hk hB hi' hall;refine wpOpIn_step (o:=_) rfl (fun K' hK0=>?_);have hK':=hideP hK0;clear hK0;rw [HAct.out];unfold eachActN
    try simp only [List.getElem_toArray,List.getElem_cons_zero,List.getElem_cons_succ]
    go_simp
    refine ⟨trivial,?_⟩;refine (CallsIn.inRound l (callsIn_wide.2 (HK3.out _))).mono ?_;rintro e w4 ⟨rfl,h4⟩
    try gi_wp2
    exact hK'.out _ _ ⟨l0,l1,l2,l3,true,l5,v21,(.func (.func K) #[] #[]),(enV x),(enV y),(enV z),v26,g,rfl,by have:=HKk.out;simp [one'] at this ⊢;omega,by rw [HAct.out];rfl,E0.out,fun _=>rfl,fun _=>rfl,fun _=>rfl,fun _=>rfl,fun h=>absurd (C5.out h) (by simp),fun _=>⟨H1.out,H2.out,H3.out⟩,fun _=>rfl,HBu.out.trans h4⟩
   ·skip
    have hl0:l5=false:=hi';subst hl0;have h4:l4=true:=hall ⟨4,.data⟩ ⟨_,rfl,by simp⟩ rfl;obtain rfl:=e4 h4;have E0:=hideP e0;have E1:=hideP e1;have E2:=hideP e2;have E3:=hideP e3;have E4:=hideP e4;have E5:=hideP e5;have C4:=hideP c4;have C5:=hideP c5;have HKk:=hideP hk;have HBu:=hideP hB;have H4:=hideP h4;clear h4;clear e0 e1 e2 e3 e4 e5 c4 c5 hk hB hi' hall;refine wpOpIn_step (o:=_) rfl (fun K' hK0=>?_);have hK':=hideP hK0;clear hK0;rw [HAct.out];unfold eachActN
    try simp only [List.getElem_toArray,List.getElem_cons_zero,List.getElem_cons_succ]
    go_simp
    exact hK'.out _ _ ⟨l0,l1,l2,l3,l4,true,v21,v22,v23,v24,(enV z),(.slice (some ⟨u.heap.size,0,none⟩) 1 1),u.heap.size,rfl,by have:=HKk.out;simp [one'] at this ⊢;omega,by rw [HAct.out];rfl,E0.out,E1.out,E2.out,E3.out,fun _=>rfl,fun _=>⟨rfl,Box.new u z _⟩,C4.out,fun _=>H4.out,HBu.out.alloc _⟩
   ·exfalso;have h0:l0=true:=hall ⟨0,.data⟩ ⟨_,rfl,by simp⟩ rfl;have h4:l4=true:=hall ⟨4,.chain⟩ ⟨_,rfl,by simp⟩ rfl;have h5:l5=true:=hall ⟨5,.data⟩ ⟨_,rfl,by simp⟩ rfl;obtain ⟨h1,h2,h3⟩:=c4 h4;rw [h0,h1,h2,h3,h4,h5] at hk;simp [one'] at hk
   ·exact Bool.noConfusion (show false=true from hall ⟨6,.data⟩ ⟨_,rfl,by simp⟩ rfl)
  case fin =>
   intro l act u h;obtain ⟨l0,l1,l2,l3,l4,l5,v21,v22,v23,v24,v25,v26,g,rfl,hk,rfl,e0,e1,e2,e3,e4,e5,c4,c5,hB⟩:=h;obtain ⟨rfl,rfl,rfl,rfl,rfl,rfl⟩:l0=true∧l1=true∧l2=true∧l3=true∧l4=true∧l5=true:=by
    cases l0<;>cases l1<;>cases l2<;>cases l3<;>cases l4<;>cases l5<;>first|exact ⟨rfl,rfl,rfl,rfl,rfl,rfl⟩|(simp [one'] at hk)
   obtain rfl:=e0 rfl;obtain rfl:=e1 rfl;obtain rfl:=e2 rfl;obtain rfl:=e3 rfl;obtain rfl:=e4 rfl;obtain ⟨rfl,bz⟩:=e5 rfl;clear e0 e1 e2 e3 e4 e5 c4 c5 hk;have hvu:=boxed_bl HV.out hB;have hru:=own_blN HR.out hB;have hus:w.heap.size≤u.heap.size:=by have:=HBW.out.size;have:=hB.size;omega
   refine wpAnyIn_ready (rs:=[6]) (by kernel_rfl) (by simp) ?_;refine AllReadyIn.cons (i:=6) (o:=_) rfl (fun K' hK'=>?_) AllReadyIn.nil;rw [if_pos (by rfl)];refine stepIn_append (Operand.tmp 21) (Operand.tmp 26) 46 rfl w.heap.size 52 i0 (.agg #[.int .i64 0,.int .i64 0,.int .i64 0,.bool false]) 4 32 Tryz.underlying46 hi hz0 hz1 hz2 rfl (by decide) v21 _ _ (by rw [HAct.out];rfl) hru ⟨g,0,none⟩ 1 1 (cellsN z) (by rw [HAct.out];rfl) rfl bz.cells (oneN_cells _) (by unfold maxLen;omega) (by omega) hus ?_;intro v' w5 hown' hgrow hat;refine hK' _ _ ?_;clear hK' K';obtain ⟨g',cap',rfl⟩:=ownsRow_succ hown';obtain ⟨hv5,hv6,hr6,hk6,hb6⟩:=boxed_appended hvu (by decide) hru hus (by omega) hown' hgrow;have cv5:=hv5.cell;have fv5:=hv5.frozen;have HV6:=hideP hv6;have HR6:=hideP hr6;have HSP:=hideP (span_appended (R:=w0.heap.size) (v':=.slice (some ⟨g',0,none⟩) ((opL op pre).length+1) cap') hB hsW HG.out hgrow (Nat.lt_succ_self _));have HG':=hideP (show ∀ b,(Value.slice (some ⟨g',0,none⟩) ((opL op pre).length+1) cap').ownBlock=some b→b<w0.heap.size+1∨w3.heap.size≤b by
    intro b hb;rcases hat with h|h
    ·exact HG.out b (h.symm.trans hb)
    ·rw [h] at hb;cases hb;exact .inr (by have:=hB.size;omega))
   clear hv5 hv6 hr6 hown' hvu hru hat hpl;rw [HAct.out];unfold eachActN;refine wpAnyIn_ready (rs:=[7]) (by kernel_rfl) (by simp) ?_;refine AllReadyIn.cons (i:=7) (o:=_) rfl (fun K' hK'=>?_) AllReadyIn.nil;have HK4:=hideP hK';clear hK'
   try simp only [List.getElem_toArray,List.getElem_cons_zero,List.getElem_cons_succ]
   go_simp
   refine HK4.out _ _ ?_;refine wpAnyIn_done (by kernel_rfl) ?_ _
   gi_wp2
   have hBf:=hB.keeps w3.heap.size;refine ⟨hBf.trans (hk6.from _),HSP.out,⟨_,HV6.out,?_,HG'.out⟩,?_,HBW.out.trans ((hB.mono HBW.out.size).trans hb6),?_⟩
   ·have:=HR6.out;rw [opL_snoc,←HZ.out];simpa [List.flatMap_append] using this
   ·exact ((boxed_bl HD.out hB).kept hgrow ((boxed_bl HD.out hB).not_row (by decide) (own_blN HR.out hB))).other (by omega) _
   ·have:=hB.size;have:=hgrow.size;simp;omega
 case done =>
  rintro D zs W hD rfl ⟨⟨v,hv,hrow,_⟩,_,hBW,hsW⟩ hKD;have hc:=hv.cell
  gi_wp2
  refine ⟨by simp,.inl ⟨_,_,rfl,run_takeDeferred hKD,?_⟩⟩;refine ⟨_,results_tmp rfl _ _ _,v,rfl,?_,fun g hg=>(hrow.lt g hg).1,hBW.trans (belowK_b (w:=w) (Nat.le_refl _) W D _ _ (by omega) hKD rfl rfl)⟩;have:=ownsRow_putObj hrow (.deferred none) hKD rfl;rw [←HM.out,opL_zip op xs ys m HM.out] at this;exact Rw.of_own cellsN_len this
 case stop =>
  rintro D c pre W _ _ h _;exact h.elim
theorem eachN (K:Nat) (op:En→En→En) (hK:∀ a b w,Calls Tryz.prog K #[enV a,enV b] w fun e w'=>e=.returned (enV (op a b))∧Bl w w') (eg:∀ args w,(callFunc K args).run Tryz.prog w=.ok (.enter K args) w)
  (va vb:Value) (xs ys:List En) (w:World) (ha:Rq 4 cellsN w va xs) (hb:Rq 4 cellsN w vb ys) (hl:xs.length≤1000000) (hm:ys.length≤1000000) :
  Calls Tryz.prog 121 #[va,vb,.func (.func K) #[] #[]] w fun e w'=>∃ u,e=.returned u∧Rw 4 cellsN w' u (List.zipWith op xs ys)∧Bl w w':=
 (eachN' K op hK eg va vb xs ys w ha hb hl hm).mono fun _ _ ⟨u,h1,h2,_,h3⟩=>⟨u,h1,h2,h3⟩
theorem vAddN' (va vb:Value) (xs ys:List En) (w:World) (ha:Rq 4 cellsN w va xs) (hb:Rq 4 cellsN w vb ys) (hl:xs.length≤1000000) (hm:ys.length≤1000000) :
  Calls Tryz.prog 77 #[va,vb] w fun e w'=>∃ u,e=.returned u∧Rw 4 cellsN w' u (List.zipWith addE xs ys)∧Fresh w.heap.size u∧Bl w w':=by
 have E:=hideP (eachN' 123 addE dAddN (enters_of Tryz.func123 (by kernel_rfl) rfl) va vb xs ys w ha hb hl hm);clear ha hb
 go_enter Tryz.func77,Tryz.ntmps77;go_wp2_with fail
 refine E.out.mono ?_;rintro e w1 ⟨u,rfl,hr,hf,h1⟩;go_wp2;go_ret;exact ⟨_,rfl,hr,hf,h1⟩
theorem vSubN' (va vb:Value) (xs ys:List En) (w:World) (ha:Rq 4 cellsN w va xs) (hb:Rq 4 cellsN w vb ys) (hl:xs.length≤1000000) (hm:ys.length≤1000000) :
  Calls Tryz.prog 163 #[va,vb] w fun e w'=>∃ u,e=.returned u∧Rw 4 cellsN w' u (List.zipWith subE xs ys)∧Fresh w.heap.size u∧Bl w w':=by
 have E:=hideP (eachN' 166 subE dSubN (enters_of Tryz.func166 (by kernel_rfl) rfl) va vb xs ys w ha hb hl hm);clear ha hb
 go_enter Tryz.func163,Tryz.ntmps163;go_wp2_with fail
 refine E.out.mono ?_;rintro e w1 ⟨u,rfl,hr,hf,h1⟩;go_wp2;go_ret;exact ⟨_,rfl,hr,hf,h1⟩
theorem vSubN (va vb:Value) (xs ys:List En) (w:World) (ha:Rq 4 cellsN w va xs) (hb:Rq 4 cellsN w vb ys) (hl:xs.length≤1000000) (hm:ys.length≤1000000) :
  Calls Tryz.prog 163 #[va,vb] w fun e w'=>∃ u,e=.returned u∧Rw 4 cellsN w' u (List.zipWith subE xs ys)∧Bl w w':=
 (vSubN' va vb xs ys w ha hb hl hm).mono fun _ _ ⟨u,h1,h2,_,h3⟩=>⟨u,h1,h2,h3⟩
def dotN (xs ys:List En):En:=sumN (List.zipWith mulE xs ys)
theorem vDotN (va vb:Value) (xs ys:List En) (w:World) (ha:Rq 4 cellsN w va xs) (hb:Rq 4 cellsN w vb ys) (hl:xs.length≤1000000) (hm:ys.length≤1000000) :
  Calls Tryz.prog 76 #[va,vb] w fun e w'=>e=.returned (enV (dotN xs ys))∧Bl w w':=by
 obtain ⟨W,hW⟩:∃ W,W=w.alloc (.cells #[.int .i64 0,.int .i64 0,.int .i64 0,.bool false] 52):=⟨_,rfl⟩;have b0:Bl w W:=by rw [hW];exact (Bl.refl _).alloc _
 have x0:Box W w.heap.size zeroE:=by rw [hW];exact Box.new w zeroE _
 have E:=hideP (eachN 122 mulE dMulN (enters_of Tryz.func122 (by kernel_rfl) rfl) va vb xs ys W (ha.later b0) (hb.later b0) hl hm);have HL:=hideP (show (List.zipWith mulE xs ys).length≤1000000 by simp;omega);generalize hr0:dotN xs ys=r;have HR0:=hideP hr0;clear hr0;have HW:=hideP hW;clear ha hb hW
 go_enter Tryz.func76,Tryz.ntmps76;go_wp2_with fail
 rw [←HW.out];refine E.out.mono ?_;rintro e w1 ⟨u,rfl,hr,h1⟩;have S0:=vsumN u _ w1 hr.q HL.out;rw [show sumN (List.zipWith mulE xs ys)=r from HR0.out] at S0;have S:=hideP S0;clear hr S0;go_wp2_with fail
 refine S.out.mono ?_;rintro e w2 ⟨rfl,h2⟩;obtain ⟨c0,c1,c2,c3,f0,f1,f2,f3,lt⟩:=x0.later (h1.trans h2);go_wp2;simp [bodyPost,results,Tryz.results76,go_sem,c0,c1,c2,c3];exact Bl.set4 (b0.trans (h1.trans h2)) (Nat.le_refl _) _ _ _ _
theorem mRightN (r c:Int) (p:Option Addr) (n cap:Nat) (w:World) :
  Calls Tryz.prog 80 #[mV r c p n cap] w fun e w'=>e=.returned (.bool (fitB r c n))∧Bl w w':=by
 go_enter Tryz.func80,Tryz.ntmps80;go_wp2_with fail
 refine (fits_any _ _ _ _).mono ?_;rintro e w1 ⟨rfl,rfl⟩;go_wp2;go_ret;exact ⟨rfl,(Bl.refl _).alloc _⟩
theorem mNewN (r c:Int) (p:Option Addr) (n cap:Nat) (xs:List En) (w:World) (hr:Rq 4 cellsN w (.slice p n cap) xs) (h:fitB r c n=true) (hn:xs.length=n) :
  Calls Tryz.prog 107 #[.int .i64 r,.int .i64 c,.slice p n cap] w fun e w'=>∃ p' cap',e=.returned (.tuple #[mV r c p' n cap',.bool true])∧(Rw 4 cellsN w' (.slice p' n cap') xs∧Fresh w.heap.size (.slice p' n cap'))∧Bl w w':=by
 have hl:n≤1000000:=by obtain ⟨R,C,_,_,hd,rfl⟩:=fitB_nat h;have:=hd.lt;omega
 obtain ⟨W,hW⟩:∃ W,W=w.alloc (.cells #[.int .i64 0,.int .i64 0,.slice none 0 0] 48):=⟨_,rfl⟩;have b0:Bl w W:=by rw [hW];exact (Bl.refl _).alloc _
 have x0:MBox W w.heap.size 0 0 none 0 0:=by rw [hW];exact MBox.new w 0 0 none 0 0 _
 have hsz:W.heap.size=w.heap.size+1:=by rw [hW];simp
 have CL:=hideP (vCloneN (.slice p n cap) xs W (hr.later b0) (by omega));have HW:=hideP hW;clear hW hr
 go_enter Tryz.func107,Tryz.ntmps107;go_wp2_with fail
 rw [←HW.out];refine (fits_any _ _ _ _).mono ?_;rintro e w1 ⟨rfl,rfl⟩;rw [h];go_wp2_with fail
 refine CL.out.mono ?_;rintro e w2 ⟨u,rfl,hR,hF,h2⟩;obtain ⟨p',cap',rfl,_,_⟩:=hR.cut;rw [hn] at hR hF ⊢;have HR:=hideP hR;have HF:=hideP hF;obtain ⟨c0,c1,c2,f0,f1,f2,lt⟩:=x0.later h2;clear hR hF CL;go_wp2;simp [bodyPost,results,Tryz.results107,go_sem,c0,c1,c2];refine ⟨p',cap',⟨rfl,rfl⟩,⟨((HR.out.set _ ?_).set _ ?_).set _ ?_,fun g hg=>?_⟩,Bl.put3 (b0.trans h2) (Nat.le_refl _) _ _ _⟩
 ·exact fun g hg=>by have:=HF.out g hg;show w.heap.size+1≤g;omega
 ·exact fun g hg=>by have:=HF.out g hg;show w.heap.size+1≤g;omega
 ·exact fun g hg=>by have:=HF.out g hg;show w.heap.size+1≤g;omega
 ·have:=HF.out g hg;omega
theorem mWholeN (r c:Int) (p:Option Addr) (n cap:Nat) (ns:List Int) (w:World) (hr:Rq 1 (fun n=>[.int .i64 n]) w (.slice p n cap) ns) (h:fitB r c n=true) (hn:ns.length=n) :
  Calls Tryz.prog 33 #[.int .i64 r,.int .i64 c,.slice p n cap] w fun e w'=>∃ p' cap',e=.returned (.tuple #[mV r c p' n cap',.bool true])∧Rw 4 cellsN w' (.slice p' n cap') (ns.map wholeN)∧Bl w w':=by
 have hl:n≤1000000:=by obtain ⟨R,C,_,_,hd,rfl⟩:=fitB_nat h;have:=hd.lt;omega
 obtain ⟨W,hW⟩:∃ W,W=w.alloc (.cells #[.int .i64 0,.int .i64 0,.slice none 0 0] 48):=⟨_,rfl⟩;have b0:Bl w W:=by rw [hW];exact (Bl.refl _).alloc _
 have x0:MBox W w.heap.size 0 0 none 0 0:=by rw [hW];exact MBox.new w 0 0 none 0 0 _
 have hsz:W.heap.size=w.heap.size+1:=by rw [hW];simp
 have CL:=hideP (vWholeN' (.slice p n cap) ns W (hr.later b0) (by omega));have HW:=hideP hW;clear hW hr
 go_enter Tryz.func33,Tryz.ntmps33;go_wp2_with fail
 rw [←HW.out];refine (fits_any _ _ _ _).mono ?_;rintro e w1 ⟨rfl,rfl⟩;rw [h];go_wp2_with fail
 refine CL.out.mono ?_;rintro e w2 ⟨u,rfl,hR,hF,h2⟩;obtain ⟨p',cap',rfl,_,_⟩:=hR.cut;rw [List.length_map,hn] at hR hF ⊢;have HR:=hideP hR;have HF:=hideP hF;obtain ⟨c0,c1,c2,f0,f1,f2,lt⟩:=x0.later h2;clear hR hF CL;go_wp2;simp [bodyPost,results,Tryz.results33,go_sem,c0,c1,c2];refine ⟨p',cap',⟨rfl,rfl⟩,((HR.out.set _ ?_).set _ ?_).set _ ?_,Bl.put3 (b0.trans h2) (Nat.le_refl _) _ _ _⟩
 ·exact fun g hg=>by have:=HF.out g hg;show w.heap.size+1≤g;omega
 ·exact fun g hg=>by have:=HF.out g hg;show w.heap.size+1≤g;omega
 ·exact fun g hg=>by have:=HF.out g hg;show w.heap.size+1≤g;omega
set_option maxHeartbeats 1000000 in
theorem jFitsN (r c:Int) (p:Option Addr) (n cap:Nat) (k:Int) (w:World) :
  Calls Tryz.prog 141 #[mV r c p n cap,.int .i64 k] w fun e w'=>e=.returned (.bool (fitJ r c n k))∧Bl w w':=by
 obtain ⟨W,hW⟩:∃ W,W=w.alloc (.cells #[.int .i64 r,.int .i64 c,.slice p n cap] 48):=⟨_,rfl⟩;have b0:Bl w W:=by rw [hW];exact (Bl.refl _).alloc _
 have mx0:MBox W w.heap.size r c p n cap:=by rw [hW];exact MBox.new w _ _ _ _ _ _
 have HW:=hideP hW;by_cases h4:k≤4
 ·obtain ⟨c0,c1,c2,f0,f1,f2,lt⟩:=id mx0;rw [hW] at c0 c1 c2;clear hW
  go_enter Tryz.func141,Tryz.ntmps141;go_wp2_with fail
  rw [←HW.out];refine (mRightN _ _ _ _ _ _).mono ?_;rintro e w1 ⟨rfl,h1⟩;clear c0 c1 c2 f0 f1 f2 lt;obtain ⟨c0,c1,c2,f0,f1,f2,lt⟩:=mx0.later h1;cases hf:fitB r c n with
  |false =>
   go_wp2;go_ret;exact ⟨by unfold fitJ;rw [hf];simp,b0.trans h1⟩
  |true =>
   by_cases e1:r=k
   ·subst e1;by_cases e2:c=r
    ·subst e2;go_wp2;go_ret;exact ⟨by unfold fitJ;rw [hf];simp [h4],b0.trans h1⟩
    ·have e2':(c==r)=false:=by simp;omega
     go_wp2;go_ret;exact ⟨by unfold fitJ;rw [hf,e2'];simp,b0.trans h1⟩
   ·have e1':(r==k)=false:=by simp;omega
    go_wp2;go_ret;exact ⟨by unfold fitJ;rw [hf,e1'];simp,b0.trans h1⟩
 ·have h4':¬ k≤4:=h4;clear hW
  go_enter Tryz.func141,Tryz.ntmps141;go_wp2;go_ret;rw [←HW.out];exact ⟨by unfold fitJ;rw [decide_eq_false (by omega)];rfl,b0⟩
set_option maxHeartbeats 1000000 in
theorem jRightN (px:Option Addr) (nx cx:Nat) (r c:Int) (p:Option Addr) (n cap:Nat) (w:World) :
  Calls Tryz.prog 106 #[sJ px nx cx r c p n cap] w fun e w'=>e=.returned (.bool (fitJ r c n nx))∧Bl w w':=by
 obtain ⟨W,hW⟩:∃ W,W=w.alloc (.cells #[.slice px nx cx,.int .i64 r,.int .i64 c,.slice p n cap] 134):=⟨_,rfl⟩;have b0:Bl w W:=by rw [hW];exact (Bl.refl _).alloc _
 have HW:=hideP hW;clear hW
 go_enter Tryz.func106,Tryz.ntmps106;go_wp2_with fail
 rw [←HW.out];refine (jFitsN _ _ _ _ _ _ _).mono ?_;rintro e w1 ⟨rfl,h1⟩;go_wp2;go_ret;exact ⟨rfl,b0.trans h1⟩
theorem mAtN (R C:Nat) (p:Option Addr) (n cap:Nat) (f:Nat→Nat→En) (w:World) (h:Mx 4 cellsN w R C p n cap f) (i k:Nat) (hi:i<R) (hk:k<C) :
  Calls Tryz.prog 38 #[mV R C p n cap,.int .i64 i,.int .i64 k] w fun e w'=>e=.returned (enV (f i k))∧Bl w w':=by
 have hfit:=h.fit;obtain ⟨b,o,rfl,hc,hb,HC⟩:=h.cells;obtain ⟨hd,hn,-⟩:=h;have CX:=HC i k hi hk;clear HC;have ha1:=amongB_t hi;have ha2:=amongB_t hk;obtain ⟨a,q,e1,e2,hq1,hq3,hq5,hq6⟩:=place hd hi hk;rw [←e2] at CX;rw [←hn] at hq5;clear e1 e2;generalize hx:f i k=x at *;have y0:∀ u,Bl w u→u.cell? ⟨b,o+q*4,none⟩=some (.int .i64 x.v):=fun u hu=>(bl_cell hu _ _ hb).trans (CX 0 _ rfl)
 have y1:∀ u,Bl w u→u.cell? ⟨b,o+q*4+1,none⟩=some (.int .i64 x.l):=fun u hu=>(bl_cell hu _ _ hb).trans (CX 1 _ rfl)
 have y2:∀ u,Bl w u→u.cell? ⟨b,o+q*4+2,none⟩=some (.int .i64 x.h):=fun u hu=>(bl_cell hu _ _ hb).trans (CX 2 _ rfl)
 have y3:∀ u,Bl w u→u.cell? ⟨b,o+q*4+3,none⟩=some (.bool x.bad):=fun u hu=>(bl_cell hu _ _ hb).trans (CX 3 _ rfl)
 clear CX hx;have h16:=hd.lt;rw [←hn] at h16;clear hn;obtain ⟨W,hW⟩:∃ W,W=(w.alloc (.cells #[.int .i64 R,.int .i64 C,.slice (some ⟨b,o,none⟩) n cap] 48)).alloc (.cells #[.int .i64 0,.int .i64 0,.int .i64 0,.bool false] 52):=⟨_,rfl⟩;have b0:Bl w W:=by rw [hW];exact ((Bl.refl _).alloc _).alloc _
 have m0:MBox W w.heap.size R C (some ⟨b,o,none⟩) n cap:=by rw [hW];exact (MBox.new w _ _ _ _ _ _).later ((Bl.refl _).alloc _)
 have x0:Box W (w.heap.size+1) zeroE:=by rw [hW];have:=Box.new (w.alloc (.cells #[.int .i64 R,.int .i64 C,.slice (some ⟨b,o,none⟩) n cap] 48)) zeroE 52;rw [World.size_alloc] at this;exact this
 have HW:=hideP hW;clear hW
 go_enter Tryz.func38,Tryz.ntmps38;go_wp2_with fail
 rw [←HW.out];refine (mRightN _ _ _ _ _ _).mono ?_;rintro e w1 ⟨rfl,h1⟩;rw [hfit];obtain ⟨c0,c1,c2,f0,f1,f2,lt⟩:=m0.later h1;go_wp2_with fail
 refine (among_any _ _ _).mono ?_;rintro e w2 ⟨rfl,rfl⟩;rw [ha1];go_wp2_with fail
 refine (among_any _ _ _).mono ?_;rintro e w3 ⟨rfl,rfl⟩;rw [ha2];have z0:=y0 _ (b0.trans h1);have z1:=y1 _ (b0.trans h1);have z2:=y2 _ (b0.trans h1);have z3:=y3 _ (b0.trans h1);obtain ⟨d0,d1,d2,d3,g0,g1,g2,g3,lt2⟩:=x0.later h1;clear y0 y1 y2 y3;go_wp2;simp [bodyPost,results,Tryz.results38,go_sem,d0,d1,d2,d3];exact Bl.set4 (b0.trans h1) (Nat.le_succ _) _ _ _ _
theorem Tryz.partN (b o n cap lo hi:Nat) (w:World) (h1:lo≤hi) (h2:hi≤n) (h3:n≤cap) (h4:lo<cap):(Instr.sliceAt 46 (.slice (some ⟨b,o,none⟩) n cap) (some (.int .i64 lo)) (some (.int .i64 hi)) none).run Tryz.prog w=.ok (.slice (some ⟨b,o+lo*4,none⟩) (hi-lo) (cap-lo)) w:=by
 have hu:Tryz.prog.underlying 46=some (.slice (Tryz.prog.elem 46)):=by kernel_rfl
 obtain ⟨i0,hi0,hz0,hz1,hz2⟩:=info_parts Tryz.info_N;have he:Tryz.prog.elem 46=52:=by kernel_rfl
 rw [run_sliceAt_slice (h:=hu),run_slice_lh (ht:=hu) (h0:=by omega) (h1:=by omega) (h2:=by omega),he];have hcm:¬ cap=lo:=by omega
 have hcm':¬ cap≤lo:=by omega
 simp [sizeOf,typeInfo,hi0,sliced,Result.andThen,hz1,hcm,hcm',Addr.add]
theorem mRowN (R C:Nat) (p:Option Addr) (n cap:Nat) (f:Nat→Nat→En) (w:World) (h:Mx 4 cellsN w R C p n cap f) (i:Nat) (hi:i<R) :
  Calls Tryz.prog 109 #[mV R C p n cap,.int .i64 i] w fun e w'=>∃ p' cap',e=.returned (.slice p' C cap')∧(Rw 4 cellsN w' (.slice p' C cap') (rowM C f i)∧Fresh w.heap.size (.slice p' C cap')∧C≤cap')∧Bl w w':=by
 have hfit:=h.fit;obtain ⟨b,o,rfl,hc,hb,-⟩:=h.cells;obtain ⟨hd,hn,hR⟩:=h;have ha1:=amongB_t hi;have h16:=hd.lt;have hi16:i<16:=Nat.lt_of_lt_of_le hi hd.r2;have hC16:=hd.c2;have hC1:=hd.c1;obtain ⟨a,e,e1,e2,hq1,hq3,hq5,hq6,hq7⟩:=places hd hi;have hpt:Rq 4 cellsN w (.slice (some ⟨b,o+a*4,none⟩) C (cap-a)) (rowM C f i):=by
  have:=hR.part (lo:=a) (m:=C) (by rw [mk_len,hn]) (by omega) (by omega) (cap-a) (by omega);rw [e1,mk_row f hi] at this;rw [e1];exact this
 have sl:=fun u=>Tryz.partN b o n cap a e u (by omega) (by omega) hc (by omega)
 rw [show e-a=C by omega] at sl;have HP:=hideP hpt;rw [←hn] at h16 hq5;clear hR hpt e1 e2 hn;obtain ⟨W,hW⟩:∃ W,W=(w.alloc (.cells #[.int .i64 R,.int .i64 C,.slice (some ⟨b,o,none⟩) n cap] 48)):=⟨_,rfl⟩;have b0:Bl w W:=by rw [hW];exact (Bl.refl _).alloc _
 have m0:MBox W w.heap.size R C (some ⟨b,o,none⟩) n cap:=by rw [hW];exact MBox.new w _ _ _ _ _ _
 have HW:=hideP hW;clear hW
 go_enter Tryz.func109,Tryz.ntmps109;go_wp2_with fail
 rw [←HW.out];refine (mRightN _ _ _ _ _ _).mono ?_;rintro e w1 ⟨rfl,h1⟩;rw [hfit];obtain ⟨c0,c1,c2,f0,f1,f2,lt⟩:=m0.later h1;go_wp2_with fail
 refine (among_any _ _ _).mono ?_;rintro e w2 ⟨rfl,rfl⟩;rw [ha1];go_wp2_with fail
 refine (vCloneN _ (rowM C f i) _ (HP.out.later (b0.trans h1)) (by rw [rowM_len];omega)).mono ?_;rintro e w3 ⟨u,rfl,hR,hF,h3⟩;obtain ⟨p',cap',rfl,hcl,_⟩:=hR.cut;rw [rowM_len] at hR hF hcl ⊢;have HR:=hideP hR;have HF:=hideP hF;clear hR hF;go_wp2;go_ret;exact ⟨p',cap',rfl,⟨HR.out,fun g hg=>by have:=HF.out g hg;have:=(b0.trans h1).size;omega,hcl⟩,(b0.trans h1).trans h3⟩
theorem tSquareN (r c:Int) (p:Option Addr) (n cap:Nat) (w:World) :
  Calls Tryz.prog 60 #[mV r c p n cap] w fun e w'=>e=.returned (.bool (sqB r c n))∧Bl w w':=by
 obtain ⟨W,hW⟩:∃ W,W=w.alloc (.cells #[.int .i64 r,.int .i64 c,.slice p n cap] 48):=⟨_,rfl⟩;have b0:Bl w W:=by rw [hW];exact (Bl.refl _).alloc _
 have m0:MBox W w.heap.size r c p n cap:=by rw [hW];exact MBox.new w _ _ _ _ _ _
 have HW:=hideP hW;clear hW;have hd:sqB r c n=(fitB r c n&&(r==c)):=by unfold sqB;congr 1
 rw [hd];clear hd;cases hf:fitB r c n
 ·go_enter Tryz.func60,Tryz.ntmps60;go_wp2_with fail
  rw [←HW.out];refine (mRightN _ _ _ _ _ _).mono ?_;rintro e w1 ⟨rfl,h1⟩;rw [hf];obtain ⟨c0,c1,c2,f0,f1,f2,lt⟩:=m0.later h1;go_wp2;go_ret;exact ⟨rfl,b0.trans h1⟩
 ·go_enter Tryz.func60,Tryz.ntmps60;go_wp2_with fail
  rw [←HW.out];refine (mRightN _ _ _ _ _ _).mono ?_;rintro e w1 ⟨rfl,h1⟩;rw [hf];obtain ⟨c0,c1,c2,f0,f1,f2,lt⟩:=m0.later h1;go_wp2;go_ret;exact ⟨by rw [Bool.true_and];rfl,b0.trans h1⟩
set_option maxHeartbeats 1000000 in
theorem vWholeON (p:Option Addr) (n cap:Nat) (ns:List Int) (w:World) (h:Rq 1 (fun n=>[.int .i64 n]) w (.slice p n cap) ns) (hn:ns.length=n) (h0:0<n) (hl:n≤1000000) :
  Calls Tryz.prog 35 #[.slice p n cap] w fun e w'=>∃ u,e=.returned u∧w'.ownsRow w.heap.size 52 4 u n ((ns.map wholeN).flatMap cellsN)∧Bl w w':=by
 obtain ⟨i0,hi,hz0,hz1,hz2⟩:=info_parts Tryz.info_N;subst hn;rcases h with ⟨p',cap',he,rfl,hpn⟩|⟨b,o,cap',he,hc,hb,hx⟩
 ·simp at h0
 ·cases he;have HX:=hideP hx;clear hx
  go_enter Tryz.func35,Tryz.ntmps35;go_wp2_with (at_make;refine wpList_make_own _ rfl _ _ 46 rfl w.heap.size 52 i0 (.agg #[.int .i64 0,.int .i64 0,.int .i64 0,.bool false]) 4 Tryz.underlying46 hi hz0 hz1 .i64 .i64 _ ns.length rfl rfl (by simp) (by rw [hz2];omega) (by unfold maxLen;omega) (Nat.le_refl _) ?_;intro w0 hown0 hgrow0)
  have hB0:Bl w w0:=(Bl.refl w).grown hgrow0 (by omega) (fun k e=>by cases e)
  go_loopw [3,11] (fun v i wr=>∃ k:Nat,i=.int .i64 k∧k≤ns.length∧wr.ownsRow w.heap.size 52 4 v ((ns.take k).map wholeN).length (((ns.take k).map wholeN).flatMap cellsN)∧Bl w wr) (fun _ i _=>ns.length-(intOf i).toNat)
  case atStart=>exact ⟨0,rfl,Nat.zero_le _,hown0,hB0⟩
  case round =>
   obtain ⟨k,rfl,hk,hown,hB⟩:=hrel;by_cases hlt:k<ns.length
   ·obtain ⟨x,hx⟩:∃ x,ns[k]?=some x:=⟨_,List.getElem?_eq_getElem hlt⟩;have y0:wr.cell? ⟨b,o+k,none⟩=some (.int .i64 x):=by
     have:=(bl_cell hB _ _ hb).trans (HX.out k x hx 0 _ rfl);simpa using this
    have hT:(ns.take (k+1)).map wholeN=(ns.take k).map wholeN++[wholeN x]:=by rw [List.take_add_one,hx];simp
    have hkl:((ns.take k).map wholeN).length=k:=by simp;omega
    have HK:=hideP hkl;clear hkl;have HT:=hideP hT;clear hT;generalize hys:(ns.take k).map wholeN=ys at *;clear hys;go_wp2_with fail
    refine (vwholeN x _).mono ?_;rintro e w2 ⟨rfl,h2⟩;have hr:wholeN x=(ptE (foN x) (foB x)):=rfl;generalize (ptE (foN x) (foB x))=r at *;rw [hr] at HT;clear hr y0;replace hown:=own_blN hown h2;replace hB:=hB.trans h2;have hkk:=HK.out;go_wp2_with (at_builtin;refine wpList_append_own _ rfl _ _ 46 rfl w.heap.size 52 i0 (.agg #[.int .i64 0,.int .i64 0,.int .i64 0,.bool false]) 4 32 Tryz.underlying46 hi hz0 hz1 hz2 rfl (by decide) _ _ _ rfl (hown.alloc _) ⟨_,0,none⟩ 1 1 (cellsN r) rfl rfl (newN_cells _ _ _) (oneN_cells _) (by unfold maxLen;omega) (by omega) (by have:=hB.size;simp;omega) ?_;intro v' w1 hown' hgrow _)
    have R:=ownN_step hB hown hown' hgrow;clear hown hown' hgrow;go_wp2;go_roundw
    case rel=>exact ⟨k+1,by simp,hlt,by rw [HT.out];exact R.2,R.1⟩
    case measure=>simp [intOf];omega
   ·have hk':k=ns.length:=by omega
    subst hk';rw [List.take_length,List.length_map] at hown;have R:=hideP hown;clear hown;go_wp2;go_ret;exact ⟨_,rfl,R.out,hB⟩
theorem mWholeON (r c:Int) (p:Option Addr) (n cap:Nat) (ns:List Int) (w:World) (hr:Rq 1 (fun n=>[.int .i64 n]) w (.slice p n cap) ns) (h:fitB r c n=true) (hn:ns.length=n) :
  Calls Tryz.prog 33 #[.int .i64 r,.int .i64 c,.slice p n cap] w fun e w'=>∃ g cap',e=.returned (.tuple #[mV r c (some ⟨g,0,none⟩) n cap',.bool true])∧w'.ownsRow (w.heap.size+1) 52 4 (.slice (some ⟨g,0,none⟩) n cap') n ((ns.map wholeN).flatMap cellsN)∧Bl w w':=by
 have hl:n≤1000000∧0<n:=by obtain ⟨R,C,_,_,hd,rfl⟩:=fitB_nat h;have:=hd.lt;exact ⟨by omega,Nat.mul_pos hd.r1 hd.c1⟩
 obtain ⟨W,hW⟩:∃ W,W=w.alloc (.cells #[.int .i64 0,.int .i64 0,.slice none 0 0] 48):=⟨_,rfl⟩;have b0:Bl w W:=by rw [hW];exact (Bl.refl _).alloc _
 have x0:MBox W w.heap.size 0 0 none 0 0:=by rw [hW];exact MBox.new w 0 0 none 0 0 _
 have hsz:W.heap.size=w.heap.size+1:=by rw [hW];simp
 have CL:=hideP (vWholeON p n cap ns W (hr.later b0) hn hl.2 hl.1);rw [hsz] at CL;have HW:=hideP hW;clear hW hr
 go_enter Tryz.func33,Tryz.ntmps33;go_wp2_with fail
 rw [←HW.out];refine (fits_any _ _ _ _).mono ?_;rintro e w1 ⟨rfl,rfl⟩;rw [h];go_wp2_with fail
 refine CL.out.mono ?_;rintro e w2 ⟨u,rfl,hR,h2⟩;obtain ⟨g,cap',hu⟩:∃ g cap',u=.slice (some ⟨g,0,none⟩) n cap':=by
  rcases hR.2 with ⟨rfl,e⟩|⟨g,cap',cur,rfl,_⟩
  ·have:=hl.2;omega
  ·exact ⟨g,cap',rfl⟩
 subst hu;have HR:=hideP hR;obtain ⟨c0,c1,c2,f0,f1,f2,lt⟩:=x0.later h2;clear hR CL;go_wp2;simp [bodyPost,results,Tryz.results33,go_sem,c0,c1,c2];refine ⟨g,cap',⟨rfl,rfl⟩,?_,Bl.put3 (b0.trans h2) (Nat.le_refl _) _ _ _⟩;exact ownsRow_setCell_below (ownsRow_setCell_below (ownsRow_setCell_below HR.out (a:=⟨w.heap.size,0,none⟩) (Nat.lt_succ_self _) _) (a:=⟨w.heap.size,1,none⟩) (Nat.lt_succ_self _) _) (a:=⟨w.heap.size,2,none⟩) (Nat.lt_succ_self _) _
theorem own_putN {w:World} {base g m cap:Nat} {xs:List En} (h:w.ownsRow base 52 4 (.slice (some ⟨g,0,none⟩) m cap) m (xs.flatMap cellsN)) {q:Nat} (hq:q<xs.length) (x:En) :
  ((((w.setCell ⟨g,q*4,none⟩ (.int .i64 x.v)).setCell ⟨g,q*4+1,none⟩ (.int .i64 x.l)).setCell ⟨g,q*4+2,none⟩ (.int .i64 x.h)).setCell ⟨g,q*4+3,none⟩ (.bool x.bad)).ownsRow base 52 4 (.slice (some ⟨g,0,none⟩) m cap) m ((xs.set q x).flatMap cellsN):=by
 have e:=flat_set cellsN_len xs q x hq;rw [←e];have o0:=h;obtain ⟨o1,g1⟩:=o0.stored (q*4) (.int .i64 x.v);obtain ⟨o2,g2⟩:=o1.stored (q*4+1) (.int .i64 x.l);obtain ⟨o3,g3⟩:=o2.stored (q*4+2) (.int .i64 x.h);obtain ⟨o4,g4⟩:=o3.stored (q*4+3) (.bool x.bad);exact o4
set_option maxRecDepth 100000 in
set_option maxHeartbeats 2000000 in
theorem tTriangleN (G pb:Nat) (eg:∀ (args:Array Value) (w:World),(callFunc G args).run Tryz.prog w=.ok (.enter G args) w) (val:(Nat→Nat→En)→Nat→Nat→En) (n N:Nat) (h1:1≤n) (h2:n≤16) (hN:N=n*n) (w:World)
  (hG:∀ (f:Nat→Nat→En) (p:Option Addr) (cap i k:Nat) (u:World),k≤i→i<n→Bl w u→Mx 4 cellsN u n n p N cap f→Calls Tryz.prog G #[mV n n p N cap,.int .i64 i,.int .i64 k,.pointer (some ⟨pb,0,none⟩)] u fun e w'=>e=.returned (enV (val f i k))∧Bl u w') :
  Calls Tryz.prog 116 #[.int .i64 n,.func (.func G) #[] #[.pointer (some ⟨pb,0,none⟩)]] w fun e w'=>∃ p' cap',e=.returned (mV n n p' N cap')∧(Mx 4 cellsN w' n n p' N cap' (triT val (wholeN 0) n n)∧Fresh w.heap.size (.slice p' N cap'))∧Bl w w':=by
 obtain ⟨i0,hi,hz0,hz1,hz2⟩:=info_parts Tryz.info_I;have fm:Tryz.prog.follows .mixedOrders=true:=by kernel_rfl
 have hd:Dim n n:=⟨h1,h2,h1,h2⟩;have hnn:(n:Int)*(n:Int)=N:=by rw [hN];simp
 have hN256:N≤256:=by rw [hN];exact hd.lt
 have hfit:=hideP (fitB_dim hd hN);have HN:=hideP hN;have HG:=hideP hG;clear hN hG;have z0:=MBox.new w 0 0 none 0 0 48
 go_enter Tryz.func116,Tryz.ntmps116;go_wp2_with (at_make;refine wpList_make_full _ rfl _ _ 22 rfl (w.heap.size+1) 3 i0 (.int .i64 0) 1 Tryz.underlying22 hi hz0 hz1 .i64 .i64 _ _ N rfl rfl (by simp) (by simp) (by rw [hz2];omega) (by unfold maxLen;omega) (by simp) ?_;intro w0 hown0 hgrow0)
 rw [zeros_made] at hown0;have hB0:Bl w w0:=((Bl.refl w).alloc _).grown hgrow0 (by simp) (fun k e=>by cases e);have hz:MBox w0 w.heap.size 0 0 none 0 0:=mbox_block z0 (hgrow0.block _ z0.lt nofun) hgrow0.size;have hs0:w.heap.size+1≤w0.heap.size:=by have:=hz.lt;omega
 clear hgrow0 z0
 try simp only [World.size_alloc] at hown0 ⊢
 have hr:Rq 1 (fun n=>[.int .i64 n]) w0 (.slice (some ⟨w.heap.size+1,0,none⟩) N N) (List.replicate N (0:Int)):=(Rw.of_own cellsI_len (xs:=List.replicate N (0:Int)) (by rw [List.length_replicate];exact hown0)).q;have WH:=hideP (mWholeON n n _ N N _ w0 hr hfit.out (by simp));clear hr hown0;refine WH.out.mono ?_;rintro e w2 ⟨g,cap,rfl,hown,h2'⟩;rw [HN.out,zeros_map,←HN.out] at hown;have hg:=hown.lt g rfl;have hB2:Bl w w2:=hB0.trans h2';have hz2:=hz.later h2';clear WH hz hB0;obtain ⟨W,hW⟩:∃ W,W=w2.alloc (.cells #[.int .i64 n,.int .i64 n,.slice (some ⟨g,0,none⟩) N cap] 48):=⟨_,rfl⟩;have bt:MBox W w2.heap.size n n (some ⟨g,0,none⟩) N cap:=by rw [hW];exact MBox.new w2 _ _ _ _ _ _
 have bW:Bl w W:=by rw [hW];exact hB2.alloc _
 have hzW:MBox W w.heap.size 0 0 none 0 0:=by rw [hW];exact hz2.later ((Bl.refl _).alloc _)
 have hoW:W.ownsRow (w.heap.size+1) 52 4 (.slice (some ⟨g,0,none⟩) N cap) N ((mk n n (triT val (wholeN 0) n 0)).flatMap cellsN):=by
  rw [hW];exact (own_base hown (by omega)).alloc _
 have hgt:w.heap.size+1≤g∧g<w2.heap.size:=⟨by have:=hg.1;omega,hg.2⟩;have HW:=hideP hW;clear hW hown hg hz2 h2';go_wp2_with fail
 rw [←HW.out]
 go_loopw [20] (fun i wr=>∃ k:Nat,i=.int .i64 k∧k≤n∧wr.ownsRow (w.heap.size+1) 52 4 (.slice (some ⟨g,0,none⟩) N cap) N ((mk n n (triT val (wholeN 0) n k)).flatMap cellsN)∧MBox wr w2.heap.size n n (some ⟨g,0,none⟩) N cap∧MBox wr w.heap.size 0 0 none 0 0∧Bl w wr) (fun i _=>n-(intOf i).toNat)
 case atStart=>exact ⟨0,rfl,Nat.zero_le _,hoW,bt,hzW,bW⟩
 case round =>
  clear hoW bt hzW bW;obtain ⟨k,rfl,hk,hown,ht,hz,hB⟩:=hrel;by_cases hlt:k<n
  ·go_wp2_with fail
   go_loopw [8] (fun i wr=>∃ m:Nat,i=.int .i64 (((k+m:Nat)):Int)∧k+m≤n∧wr.ownsRow (w.heap.size+1) 52 4 (.slice (some ⟨g,0,none⟩) N cap) N ((mk n n (colT val k (triT val (wholeN 0) n k) m)).flatMap cellsN)∧MBox wr w2.heap.size n n (some ⟨g,0,none⟩) N cap∧MBox wr w.heap.size 0 0 none 0 0∧Bl w wr) (fun i _=>n-(intOf i).toNat)
   case atStart=>exact ⟨0,rfl,by omega,hown,ht,hz,hB⟩
   case round =>
    clear hown ht hz hB;obtain ⟨m,rfl,hm,hown,ht,hz,hB⟩:=hrel;obtain ⟨i,hi'⟩:∃ i,i=k+m:=⟨_,rfl⟩;rw [←hi'] at hm ⊢;by_cases hlt2:i<n
    ·have HT:=hideP (show colT val k (triT val (wholeN 0) n k) (m+1)=putM (colT val k (triT val (wholeN 0) n k) m) i k (val (colT val k (triT val (wholeN 0) n k) m) i k) by rw [hi'];rfl);have hki:k≤i:=by omega
     have HI:=hideP hi';clear hi';generalize colT val k (triT val (wholeN 0) n k) m=f at *;obtain ⟨a,q,e1,e2,hq1,hq3,hq5,hq6⟩:=place hd hlt2 hlt;rw [←HN.out] at hq5;have HP:=hideP e2;clear e1 e2;have MX:∀ u,Bl wr u→Mx 4 cellsN u n n (some ⟨g,0,none⟩) N cap f:=fun u hu=>⟨hd,HN.out,(Rw.of_own cellsN_len (xs:=mk n n f) (by rw [mk_len,←HN.out];exact own_blN hown hu)).q⟩
     have CL:=hideP (fun u (hu:Bl wr u)=>HG.out f (some ⟨g,0,none⟩) cap i k u hki hlt2 (hB.trans hu) (MX u hu));have OW:=hideP hown;have CX:∀ j u,(cellsN (f i k))[j]?=some u→wr.cell? ⟨g,q*4+j,none⟩=some u:=fun j u hu=>by
      have:=(MX wr (Bl.refl _)).cells;obtain ⟨b,o,e,_,_,hc⟩:=this;cases e;have:=hc i k hlt2 hlt j u hu;rw [←HP.out] at this;simpa using this
     have FZ:∀ j,wr.frozen? ⟨g,j,none⟩=false:=fun j=>hown.frozenAt j
     have hgl:g<wr.heap.size:=(hown.lt g rfl).2;have WA:IntKind.i64.wrap (a:Int)=a:=wrapS7 (by omega) (by omega);have WQ:IntKind.i64.wrap (q:Int)=q:=wrapS7 (by omega) (by omega);clear hown MX;generalize f i k=y at *;generalize val f i k=x at *;go_wp2_with fail
     refine (wpIn_wide (n:=8)).1 (region_q fm [some 29,some 30,some 31,some 32,some 33,some 34,some 35,some 36,some 37,some 38,some 39,some 40,some 41,none] (fun _=>false) 13 (by kernel_rfl) (by rfl)
      (fun j v u=>match j with|0=>v=.pointer (some ⟨w2.heap.size,2,none⟩)|1=>v=.slice (some ⟨g,0,none⟩) N cap|2=>v=.int .i64 i|3=>v=.int .i64 n|4=>v=.int .i64 a|5=>v=.int .i64 k|6=>v=.int .i64 q|7=>v=.func (.func G) #[] #[.pointer (some ⟨pb,0,none⟩)]|8=>v=mV n n (some ⟨g,0,none⟩) N cap|9=>v=.int .i64 i|10=>v=.int .i64 k|11=>v=enV x|12=>v=.pointer (some ⟨g,q*4,none⟩)|_=>False)
      (fun j v u u' _ h=>h) (fun vs u0 u=>u=(((u0.setCell ⟨g,q*4,none⟩ (.int .i64 x.v)).setCell ⟨g,q*4+1,none⟩ (.int .i64 x.l)).setCell ⟨g,q*4+2,none⟩ (.int .i64 x.h)).setCell ⟨g,q*4+3,none⟩ (.bool x.bad)) ?step ?still ?store ?fin)
     case step =>
      intro j o t act u ho hdt hpu hsz hu hfr hin;have hj:j<14:=l9 ho;obtain ⟨c0,c1,c2,f0,f1,f2,lt⟩:=ht.later hu;rcases (by omega:j=0∨j=1∨j=2∨j=3∨j=4∨j=5∨j=6∨j=7∨j=8∨j=9∨j=10∨j=11∨j=12∨j=13) with rfl|rfl|rfl|rfl|rfl|rfl|rfl|rfl|rfl|rfl|rfl|rfl|rfl|rfl
      ·obtain ⟨rfl,rfl⟩:=o7 ho hdt;have i5:_=Value.pointer (some ⟨w2.heap.size,0,none⟩):=hfr 5 (by decide);exact pl9 (r:=by simp only [seval,i5];simp [go_sem,c0,c1,c2,hq1,hq3,hq5,WA,WQ])
      ·obtain ⟨rfl,rfl⟩:=o7 ho hdt;have i29:_=Value.pointer (some ⟨w2.heap.size,2,none⟩):=hin ⟨0,.data⟩ (by simp) rfl 29 rfl;exact pl9 (r:=by simp only [seval,i29];simp [go_sem,c0,c1,c2,hq1,hq3,hq5,WA,WQ])
      ·obtain ⟨rfl,rfl⟩:=o7 ho hdt;have i8:_=Value.int .i64 i:=hfr 8 (by decide);exact pl9 (r:=by simp only [seval,i8];simp [go_sem])
      ·obtain ⟨rfl,rfl⟩:=o7 ho hdt;have i0:_=Value.int .i64 n:=hfr 0 (by decide);exact pl9 (r:=by simp only [seval,i0];simp [go_sem])
      ·obtain ⟨rfl,rfl⟩:=o7 ho hdt;have i31:_=Value.int .i64 i:=hin ⟨2,.data⟩ (by simp) rfl 31 rfl;have i32:_=Value.int .i64 n:=hin ⟨3,.data⟩ (by simp) rfl 32 rfl;exact pl9 (r:=by simp only [seval,i31,i32];simp [go_sem,c0,c1,c2,hq1,hq3,hq5,WA,WQ])
      ·obtain ⟨rfl,rfl⟩:=o7 ho hdt;have i7:_=Value.int .i64 k:=hfr 7 (by decide);exact pl9 (r:=by simp only [seval,i7];simp [go_sem])
      ·obtain ⟨rfl,rfl⟩:=o7 ho hdt;have i33:_=Value.int .i64 a:=hin ⟨4,.data⟩ (by simp) rfl 33 rfl;have i34:_=Value.int .i64 k:=hin ⟨5,.data⟩ (by simp) rfl 34 rfl;exact pl9 (r:=by simp only [seval,i33,i34];simp [go_sem,c0,c1,c2,hq1,hq3,hq5,WA,WQ])
      ·obtain ⟨rfl,rfl⟩:=o7 ho hdt;have i1:_=Value.func (.func G) #[] #[.pointer (some ⟨pb,0,none⟩)]:=hfr 1 (by decide);exact pl9 (r:=by simp only [seval,i1];simp [go_sem])
      ·obtain ⟨rfl,rfl⟩:=o7 ho hdt;have i5:_=Value.pointer (some ⟨w2.heap.size,0,none⟩):=hfr 5 (by decide);exact pl9 (r:=by simp only [seval,i5];simp [go_sem,c0,c1,c2,hq1,hq3,hq5,WA,WQ])
      ·obtain ⟨rfl,rfl⟩:=o7 ho hdt;have i8:_=Value.int .i64 i:=hfr 8 (by decide);exact pl9 (r:=by simp only [seval,i8];simp [go_sem])
      ·obtain ⟨rfl,rfl⟩:=o7 ho hdt;have i7:_=Value.int .i64 k:=hfr 7 (by decide);exact pl9 (r:=by simp only [seval,i7];simp [go_sem])
      ·obtain ⟨rfl,rfl⟩:=o7 ho hdt;have i36:_=Value.func (.func G) #[] #[.pointer (some ⟨pb,0,none⟩)]:=hin ⟨7,.data⟩ (by simp) rfl 36 rfl;have i37:_=mV n n (some ⟨g,0,none⟩) N cap:=hin ⟨8,.data⟩ (by simp) rfl 37 rfl;have i38:_=Value.int .i64 i:=hin ⟨9,.data⟩ (by simp) rfl 38 rfl;have i39:_=Value.int .i64 k:=hin ⟨10,.data⟩ (by simp) rfl 39 rfl;refine enter_wp G #[mV n n (some ⟨g,0,none⟩) N cap,.int .i64 i,.int .i64 k,.pointer (some ⟨pb,0,none⟩)] (by intro c h;cases h) (fun _ _=>trivial) (by simp only [seval,i36,i37,i38,i39];simp [invoke,eg,Result.andThen,go_sem]) (fun h=>by cases h) (callsIn_wide.2 (CL.out u hu)) ?_;rintro e w' ⟨rfl,hb⟩;exact ⟨_,rfl,_,rfl,rfl,hb⟩
      ·obtain ⟨rfl,rfl⟩:=o7 ho hdt;have i30:_=Value.slice (some ⟨g,0,none⟩) N cap:=hin ⟨1,.data⟩ (by simp) rfl 30 rfl;have i35:_=Value.int .i64 q:=hin ⟨6,.data⟩ (by simp) rfl 35 rfl;exact pl9 (r:=by simp only [seval,i30,i35];simp [go_sem,c0,c1,c2,hq1,hq3,hq5,WA,WQ])
      ·obtain rfl:=o9 ho;cases hdt
     case still =>
      intro j o t act u0 u ho hdt hpu;cases hpu
     case store =>
      intro o act u vs ho hsz hu hfr hin;obtain rfl:=o9 ho;obtain ⟨i40,k40⟩:act.eval (.tmp (40:Nat))=vs 11∧((vs 11)=enV x):=hin 11 40 rfl rfl;obtain ⟨i41,k41⟩:act.eval (.tmp (41:Nat))=vs 12∧((vs 12)=.pointer (some ⟨g,q*4,none⟩)):=hin 12 41 rfl rfl;have y0:u.cell? ⟨g,q*4,none⟩=some (.int .i64 y.v):=(bl_cell hu _ _ hgl).trans (CX 0 _ rfl);have e0:u.frozen? ⟨g,q*4,none⟩=false:=(bl_froz hu _ _ hgl).trans (FZ _);have y1:u.cell? ⟨g,q*4+1,none⟩=some (.int .i64 y.l):=(bl_cell hu _ _ hgl).trans (CX 1 _ rfl);have e1:u.frozen? ⟨g,q*4+1,none⟩=false:=(bl_froz hu _ _ hgl).trans (FZ _);have y2:u.cell? ⟨g,q*4+2,none⟩=some (.int .i64 y.h):=(bl_cell hu _ _ hgl).trans (CX 2 _ rfl);have e2:u.frozen? ⟨g,q*4+2,none⟩=false:=(bl_froz hu _ _ hgl).trans (FZ _);have y3:u.cell? ⟨g,q*4+3,none⟩=some (.bool y.bad):=(bl_cell hu _ _ hgl).trans (CX 3 _ rfl);have e3:u.frozen? ⟨g,q*4+3,none⟩=false:=(bl_froz hu _ _ hgl).trans (FZ _);rw [k41] at i41;rw [k40] at i40;exact sw9 (by simp only [execOp,i41,i40];simp [go_sem,y0,e0,y1,e1,y2,e2,y3,e3]) ⟨rfl,rfl⟩
     case fin =>
      intro vs vb u0 u hu hin hps;have a0:=hin 0 29 rfl;have a1:=hin 1 30 rfl;have a2:=hin 2 31 rfl;have a3:=hin 3 32 rfl;have a4:=hin 4 33 rfl;have a5:=hin 5 34 rfl;have a6:=hin 6 35 rfl;have a7:=hin 7 36 rfl;have a8:=hin 8 37 rfl;have a9:=hin 9 38 rfl;have a10:=hin 10 39 rfl;have a11:=hin 11 40 rfl;have a12:=hin 12 41 rfl;simp only [seval] at a0 a1 a2 a3 a4 a5 a6 a7 a8 a9 a10 a11 a12 ⊢;rw [if_pos (by decide)] at hps;simp only [a0,a1,a2,a3,a4,a5,a6,a7,a8,a9,a10,a11,a12];subst hps;have hq':q<(mk n n f).length:=by rw [mk_len,←HN.out];exact hq5
      have OP:=hideP (own_putN (own_blN OW.out hu) hq' x);rw [HP.out,mk_put hlt2 hlt,←HP.out,←HT.out] at OP;have tS:=hideP (mbox_putX (ht.later hu) (show w2.heap.size≠g by omega) (q*4) [.int .i64 x.v,.int .i64 x.l,.int .i64 x.h,.bool x.bad]);have zS:=hideP (mbox_putX (hz.later hu) (show w.heap.size≠g by omega) (q*4) [.int .i64 x.v,.int .i64 x.l,.int .i64 x.h,.bool x.bad]);have bS:=hideP (bl_putX (hB.trans hu) (show w.heap.size≤g by omega) (q*4) [.int .i64 x.v,.int .i64 x.l,.int .i64 x.h,.bool x.bad]);clear ht hz OW;go_wp2;go_roundw
      case rel=>exact ⟨m+1,by rw [HI.out];simp;omega,by have:=HI.out;omega,OP.out,tS.out,zS.out,bS.out⟩
      case measure=>simp [intOf];omega
    ·have hni:n=i:=by omega
     subst hni;have e:n-k=m:=by omega
     have HT:=hideP (show triT val (wholeN 0) n (k+1)=colT val k (triT val (wholeN 0) n k) m by rw [←e];rfl);go_wp2_with fail
     go_roundw
     case rel=>exact ⟨k+1,by simp,hlt,by rw [HT.out];exact hown,ht,hz,hB⟩
     case measure=>simp [intOf];omega
  ·obtain rfl:k=n:=by omega
   have RW:=hideP (show Rw 4 cellsN wr (.slice (some ⟨g,0,none⟩) N cap) (mk k k (triT val (wholeN 0) k k)) from Rw.of_own cellsN_len (xs:=mk k k (triT val (wholeN 0) k k)) (by rw [mk_len,←HN.out];exact hown));have FR:=hideP (show Fresh (w.heap.size+1) (.slice (some ⟨g,0,none⟩) N cap) from fun b hb=>(hown.lt b hb).1);obtain ⟨c0,c1,c2,f0,f1,f2,lt⟩:=hz;obtain ⟨d0,d1,d2,g0,g1,g2,lt2⟩:=ht;clear hown;go_wp2;simp [bodyPost,results,Tryz.results116,go_sem,c0,c1,c2];have q:=((RW.out.set (p:=⟨w.heap.size,0,none⟩) (.int .i64 k) FR.out).set (p:=⟨w.heap.size,1,none⟩) (.int .i64 k) FR.out).set (p:=⟨w.heap.size,2,none⟩) (.slice (some ⟨g,0,none⟩) N cap) FR.out;exact ⟨_,_,⟨rfl,rfl⟩,⟨⟨hd,HN.out,q.q⟩,fun b hb=>by have:=FR.out b hb;omega⟩,Bl.put3 hB (Nat.le_refl _) _ _ _⟩
end Go.Proofs.YtljmggemdkfbiaaGreat
