/- What is done of all pairs of two rows: what holds whatever their numbers (layer 5). -/
import Derived.Test.YtljmggemdkfbiaaGreatRows
import Derived.WalkKit
import Derived.WalkSpells
import Derived.RowKit3
import Derived.Laws.MathBits
import Derived.Deep.RegionHeld3
import Derived.Deep.RegionWith
import Derived.BigQuiet
import Derived.Deep.DeepCutAuto
import Derived.RangeFuncNested
import Derived.RangeFuncBound
import Derived.RangeFuncCalls
import Derived.RangeFuncLeaves
import Derived.Shelf.Abstract
import Derived.Shelf.RegionOpen
import Derived.OwnWalkIn
import Derived.TacticsInMore
import Derived.LoopNIn
import Derived.LoopIn
import Derived.Maps.OwnIn
namespace Go.Proofs.YtljmggemdkfbiaaGreat
open Go.RowKit
set_option linter.unusedSimpArgs false
set_option linter.unusedVariables false
def I64 (x:Int):Prop:=-9223372036854775808≤x∧x≤9223372036854775807
def U64 (x:Int):Prop:=0≤x∧x<18446744073709551616
def rightB (n:Int):Bool:=decide (-4611686018427387903≤n)&&decide (n≤4611686018427387903)
def modeB (m:Int):Bool:=decide (m=0)||decide (m=1)||decide (m=2)
def cmpI (x y:Int):Int:=if x<y then -1 else if y<x then 1 else 0
def szI (n:Int):Int:=if n<0 then -n else n
theorem rightB_eq {n:Int} (h:-4611686018427387903≤n∧n≤4611686018427387903):rightB n=true:=by simp [rightB,h]
theorem right_any (n:Int) (w:World) :
  Calls Tryz.prog 145 #[.int .i64 n] w fun e w'=>e=.returned (.bool (rightB n))∧w'=w:=by
 unfold rightB;by_cases h:-4611686018427387903≤n
 ·by_cases h2:n≤4611686018427387903
  ·go_enter Tryz.func145,Tryz.ntmps145;go_wp2;go_ret;exact ⟨by simp [h,h2],rfl⟩
  ·go_enter Tryz.func145,Tryz.ntmps145;go_wp2;go_ret;exact ⟨by simp [h,h2],rfl⟩
 ·go_enter Tryz.func145,Tryz.ntmps145;go_wp2;go_ret;exact ⟨by simp;omega,rfl⟩
theorem ret_int {k:IntKind} {a b:Int} (h:a=b):Ending.returned (.int k a)=.returned (.int k b):=by rw [h]
theorem size_any (n:Int) (hn:I64 n) (w:World) :
  Calls Tryz.prog 148 #[.int .i64 n] w fun e w'=>e=.returned (.int .u64 (szI n))∧w'=w:=by
 obtain ⟨h1,h2⟩:=hn;unfold szI;by_cases h:n<0
 ·go_enter Tryz.func148,Tryz.ntmps148;go_wp2;go_ret;exact ⟨ret_int (by unfold wrap64;rw [IntKind.wrap_u64];omega),rfl⟩
 ·go_enter Tryz.func148,Tryz.ntmps148;go_wp2;go_ret;exact ⟨rfl,rfl⟩
theorem sign_any (n:Int) (w:World) :
  Calls Tryz.prog 149 #[.int .i64 n] w fun e w'=>e=.returned (.int .i64 (cmpI n 0))∧w'=w:=by
 unfold cmpI
 go_enter Tryz.func149,Tryz.ntmps149;go_wp2
 all_goals (go_ret;exact ⟨rfl,rfl⟩)
theorem cmpInt_any (x y:Int) (w:World) :
  Calls Tryz.prog 160 #[.int .i64 x,.int .i64 y] w fun e w'=>e=.returned (.int .i64 (cmpI x y))∧w'=w:=by
 unfold cmpI
 go_enter Tryz.func160,Tryz.ntmps160;go_wp2
 all_goals (go_ret;exact ⟨rfl,rfl⟩)
theorem cmpU_any (x y:Int) (w:World) :
  Calls Tryz.prog 165 #[.int .u64 x,.int .u64 y] w fun e w'=>e=.returned (.int .i64 (cmpI x y))∧w'=w:=by
 unfold cmpI
 go_enter Tryz.func165,Tryz.ntmps165;go_wp2
 all_goals (go_ret;exact ⟨rfl,rfl⟩)
theorem isMode_any (m:Int) (w:World) :
  Calls Tryz.prog 146 #[.int .i64 m] w fun e w'=>e=.returned (.bool (modeB m))∧w'=w:=by
 by_cases h0:m=0
 ·have e:modeB m=true:=by simp [modeB,h0]
  rw [e];clear e;subst h0
  go_enter Tryz.func146,Tryz.ntmps146;go_wp2;go_ret;exact ⟨rfl,rfl⟩
 ·have b0:(m==0)=false:=by simpa using h0
  by_cases h1:m=1
  ·have e:modeB m=true:=by simp [modeB,h1]
   rw [e];clear e;subst h1;clear h0 b0
   go_enter Tryz.func146,Tryz.ntmps146;go_wp2;go_ret;exact ⟨rfl,rfl⟩
  ·have b1:(m==1)=false:=by simpa using h1
   have e:modeB m=(m==2):=by simp [modeB,h0,h1];rfl
   rw [e];clear e
   go_enter Tryz.func146,Tryz.ntmps146;go_wp2;go_ret;exact ⟨rfl,rfl⟩
set_option maxHeartbeats 1000000 in
theorem mul64_any (x y:Int) (hx:U64 x) (hy:U64 y) (w:World) :
  Calls Tryz.prog 126 #[.int .u64 x,.int .u64 y] w fun e w' =>
   e=.returned (.tuple #[.int .u64 (x*y/18446744073709551616),.int .u64 (x*y % 18446744073709551616)])∧w'=w:=by
 obtain ⟨x0,x1⟩:=hx;obtain ⟨y0,y1⟩:=hy
 go_enter Tryz.func126,Tryz.ntmps126;go_wp2
 go_ret2
 refine ⟨?_,rfl⟩;have hm:=mul64_arith x y x0 x1 y0 y1;simp only [IntKind.wrap_u64,and_low32 x x0 x1,and_low32 y y0 y1];rw [and_low32 _ (Int.emod_nonneg _ (by decide)) (Int.emod_lt_of_pos _ (by decide)),hm];rfl
def Bl (w w':World):Prop:=Below w.heap.size w w'
theorem Bl.refl (w:World):Bl w w:=Below.refl _ _
theorem Bl.trans {a b c:World} (h:Bl a b) (k:Bl b c):Bl a c:=Below.trans h (Below.mono k h.size)
theorem Bl.alloc {a b:World} (h:Bl a b) (o:Obj):Bl a (b.alloc o):=Below.alloc h h.size o
theorem Bl.drew {a b:World} (h:Bl a b):Bl a b.drew:=Below.drew h
theorem Bl.set {a b:World} (h:Bl a b) {p:Addr} (hp:a.heap.size≤p.block) (v:Value):Bl a (b.setCell p v):=Below.setCell h hp v
theorem bl_cell {W w1:World} (hb:Bl W w1):∀ b o,b<W.heap.size→w1.cell? ⟨b,o,none⟩=W.cell? ⟨b,o,none⟩:=fun b o h=>Below.cell hb (p:=⟨b,o,none⟩) h
theorem bl_froz {W w1:World} (hb:Bl W w1):∀ b o,b<W.heap.size→w1.frozen? ⟨b,o,none⟩=W.frozen? ⟨b,o,none⟩:=fun b o h=>Below.frozen hb (p:=⟨b,o,none⟩) h
abbrev wd (n:Int):Value:=.agg #[.int .u64 (n/18446744073709551616),.int .u64 (n % 18446744073709551616)]
theorem times_ex (x y:Int) (hx:U64 x) (hy:U64 y) (w:World) :
  Calls Tryz.prog 159 #[.int .u64 x,.int .u64 y] w fun e w'=>e=.returned (wd (x*y))∧∃ o,w.alloc o=w':=by
 go_enter Tryz.func159,Tryz.ntmps159;go_wp2_with (go_at_call 126;refine (mul64_any x y hx hy _).mono ?_;rintro e w' ⟨rfl,rfl⟩)
 simp [bodyPost,results,Tryz.results159,go_sem]
theorem times_any (x y:Int) (hx:U64 x) (hy:U64 y) (w:World) :
  Calls Tryz.prog 159 #[.int .u64 x,.int .u64 y] w fun e w'=>e=.returned (wd (x*y))∧Bl w w':=by
 refine (times_ex x y hx hy w).mono ?_;rintro e w' ⟨rfl,o,rfl⟩;exact ⟨rfl,(Bl.refl _).alloc _⟩
theorem szI_u64 (n:Int) (h:I64 n):U64 (szI n):=by obtain ⟨a,b⟩:=h;unfold szI U64;split<;>omega
theorem product_any (a b:Int) (ha:I64 a) (hb:I64 b) (w:World) :
  Calls Tryz.prog 147 #[.int .i64 a,.int .i64 b] w fun e w'=>e=.returned (wd (szI a*szI b))∧Bl w w':=by
 go_enter Tryz.func147,Tryz.ntmps147;go_wp2_with fail
 refine (size_any a ha _).mono ?_;rintro e w' ⟨rfl,hw⟩;subst hw;go_wp2_with fail
 refine (size_any b hb _).mono ?_;rintro e w' ⟨rfl,hw⟩;subst hw;go_wp2_with fail
 refine (times_any _ _ (szI_u64 a ha) (szI_u64 b hb) _).mono ?_;rintro e w' ⟨rfl,hw⟩;have c0:w'.cell? ⟨w.heap.size,0,none⟩=some (.int .u64 0):=by rw [bl_cell hw _ _ (by simp)];simp [go_sem]
 have c1:w'.cell? ⟨w.heap.size,1,none⟩=some (.int .u64 0):=by rw [bl_cell hw _ _ (by simp)];simp [go_sem]
 have f0:w'.frozen? ⟨w.heap.size,0,none⟩=false:=by rw [bl_froz hw _ _ (by simp)];simp [go_sem]
 have f1:w'.frozen? ⟨w.heap.size,1,none⟩=false:=by rw [bl_froz hw _ _ (by simp)];simp [go_sem]
 go_wp2;simp [bodyPost,results,Tryz.results147,go_sem,c0,c1];exact Bl.set (Bl.set (((Bl.refl _).alloc _).trans hw) (Nat.le_refl _) _) (Nat.le_refl _) _
def orI (p q:Int):Int:=if p=0 then q else p
theorem or_any (b o:Nat) (p q:Int) (w:World) (h0:w.cell? ⟨b,o,none⟩=some (.int .i64 p)) (h1:w.cell? ⟨b,o+1,none⟩=some (.int .i64 q)) :
  Calls Tryz.prog 223 #[.slice (some ⟨b,o,none⟩) 2 2] w fun e w'=>e=.returned (.int .i64 (orI p q))∧w'=w:=by
 unfold orI;by_cases hp:p=0
 ·subst hp;rw [if_pos rfl];by_cases hq:q=0
  ·subst hq
   go_enter Tryz.func223,Tryz.ntmps223;go_wp2
   go_loop [8] (fun i=>∃ k:Nat,k≤2∧i=.int .i64 k) (fun i=>2-(intOf i).toNat)
   case atStart=>exact ⟨0,by omega,rfl⟩
   case round =>
    obtain ⟨k,hk,rfl⟩:=hrel;rcases (by omega:k=0∨k=1∨k=2) with rfl|rfl|rfl
    ·go_wp2
     go_round
     case rel=>exact ⟨1,by omega,rfl⟩
     case measure=>simp [intOf]
    ·go_wp2
     go_round
     case rel=>exact ⟨2,by omega,rfl⟩
     case measure=>simp [intOf]
    ·go_wp2;go_ret;exact ⟨rfl,rfl⟩
  ·have hb:(q != 0)=true:=by simpa using hq
   go_enter Tryz.func223,Tryz.ntmps223;go_wp2
   go_loop [8] (fun i=>∃ k:Nat,k≤1∧i=.int .i64 k) (fun i=>2-(intOf i).toNat)
   case atStart=>exact ⟨0,by omega,rfl⟩
   case round =>
    obtain ⟨k,hk,rfl⟩:=hrel;rcases (by omega:k=0∨k=1) with rfl|rfl
    ·go_wp2
     go_round
     case rel=>exact ⟨1,by omega,rfl⟩
     case measure=>simp [intOf]
    ·go_wp2;go_ret;exact ⟨rfl,rfl⟩
 ·rw [if_neg hp];have hb:(p != 0)=true:=by simpa using hp
  clear hp
  go_enter Tryz.func223,Tryz.ntmps223;go_wp2
  go_loop [8] (fun i=>i=.int .i64 0) (fun i=>0)
  case atStart=>rfl
  case round =>
   subst hrel;go_wp2;go_ret;exact ⟨rfl,rfl⟩
theorem order_ex (x y:Int) (w:World) (hx:U64 (x/18446744073709551616)) (hy:U64 (y/18446744073709551616)) :
  Calls Tryz.prog 222 #[wd x,wd y] w fun e w'=>e=.returned (.int .i64 (cmpI x y))∧∃ o1 o2 o3,(((w.alloc o1).alloc o2).alloc o3).drew=w':=by
 have hx1:U64 (x % 18446744073709551616):=⟨by omega,by omega⟩;have hy1:U64 (y % 18446744073709551616):=⟨by omega,by omega⟩;have hq:cmpI x y=orI (cmpI (x/18446744073709551616) (y/18446744073709551616)) (cmpI (x % 18446744073709551616) (y % 18446744073709551616)):=by
  unfold cmpI orI;split<;>split<;>(try split)<;>(try split)<;>(try split)<;>omega
 rw [hq];clear hq;unfold wd;generalize x/18446744073709551616=x1 at *;generalize x % 18446744073709551616=x0 at *;generalize y/18446744073709551616=y1 at *;generalize y % 18446744073709551616=y0 at *;generalize hp:cmpI x1 y1=p;generalize hq:cmpI x0 y0=q;have Hp:Hid (cmpI x1 y1=p):=hp;have Hq:Hid (cmpI x0 y0=q):=hq;clear hp hq
 go_enter Tryz.func222,Tryz.ntmps222;go_wp2
 go_region_held3 (fun w'=>w'.cell? ⟨w.heap.size,0,none⟩=some (.int .u64 x1)∧w'.cell? ⟨w.heap.size,1,none⟩=some (.int .u64 x0)∧w'.cell? ⟨w.heap.size+1,0,none⟩=some (.int .u64 y1)∧w'.cell? ⟨w.heap.size+1,1,none⟩=some (.int .u64 y0)) (simp [go_sem,World.cell?_alloc_past])
  (first
   |(go_at_call_of 165 (Value.int .u64 x1);refine (cmpU_any x1 y1 _).mono ?_;rw [Hp.out];rintro e w' ⟨rfl,rfl⟩)
   |(go_at_call_of 165 (Value.int .u64 x0);refine (cmpU_any x0 y0 _).mono ?_;rw [Hq.out];rintro e w' ⟨rfl,rfl⟩)
   |(go_at_call 223;refine (or_any _ 0 p q _ (by simp [go_sem]) (by simp [go_sem])).mono ?_;rintro e w' ⟨rfl,rfl⟩))
 go_wp2;go_ret;exact ⟨rfl,_,_,_,rfl⟩
def outB (cut rest gap:Int) (below:Bool) (mode:Int):Bool:=
 if mode=1 then below&&decide (0<rest) else if mode=2 then !below&&decide (0<rest) else
  decide (gap<2*rest)||(decide (2*rest=gap)&&decide (cut % 2=1))
theorem outward_any (cut rest gap mode:Int) (below:Bool) (h0:0≤rest) (h1:2*rest<18446744073709551616) (hc:0≤cut) (hm:modeB mode=true) (w:World) :
  Calls Tryz.prog 161 #[.int .u64 cut,.int .u64 rest,.int .u64 gap,.bool below,.int .i64 mode] w fun e w' =>
   e=.returned (.bool (outB cut rest gap below mode))∧w'=w:=by
 have hm':mode=1∨mode=2∨mode=0:=by
  simp [modeB] at hm;omega
 clear hm;rcases hm' with rfl|rfl|rfl
 ·have e:outB cut rest gap below 1=(below&&decide (0<rest)):=by simp [outB]
  rw [e];clear e;cases below
  ·go_enter Tryz.func161,Tryz.ntmps161;go_wp2;go_ret;exact ⟨rfl,rfl⟩
  ·go_enter Tryz.func161,Tryz.ntmps161;go_wp2
   all_goals (go_ret;exact ⟨by simp [*],rfl⟩)
 ·have e:outB cut rest gap below 2=(!below&&decide (0<rest)):=by simp [outB]
  rw [e];clear e;cases below
  ·go_enter Tryz.func161,Tryz.ntmps161;go_wp2
   all_goals (go_ret;exact ⟨by simp [*],rfl⟩)
  ·go_enter Tryz.func161,Tryz.ntmps161;go_wp2;go_ret;exact ⟨rfl,rfl⟩
 ·have e:outB cut rest gap below 0=(decide (gap<2*rest)||(decide (2*rest=gap)&&decide (cut % 2=1))):=by simp [outB]
  rw [e];clear e;rcases (by omega:gap<2*rest∨2*rest=gap∨2*rest<gap) with h|h|h
  ·have e:(decide (gap<2*rest)||(decide (2*rest=gap)&&decide (cut % 2=1)))=true:=by simp [h]
   rw [e];clear e;have hh:cmpI (2*rest) gap=1:=by unfold cmpI;rw [if_neg (by omega),if_pos h]
   have H:Hid _:=hh;clear hh
   go_enter Tryz.func161,Tryz.ntmps161;go_wp2_with (go_at_call 165;refine (cmpU_any _ _ _).mono ?_;rw [H.out];rintro e w' ⟨rfl,rfl⟩)
   go_ret;exact ⟨rfl,rfl⟩
  ·have e:(decide (gap<2*rest)||(decide (2*rest=gap)&&decide (cut % 2=1)))=(cut % 2==1):=by
    rw [decide_eq_false (by omega:¬ gap<2*rest),decide_eq_true h];rfl
   rw [e];clear e;have hh:cmpI (2*rest) gap=0:=by unfold cmpI;rw [if_neg (by omega),if_neg (by omega)]
   have H:Hid _:=hh;clear hh;have hd:decide ((0:Int)<0)=false:=by decide
   clear h
   go_enter Tryz.func161,Tryz.ntmps161;go_wp2_with (go_at_call 165;refine (cmpU_any _ _ _).mono ?_;rw [H.out];rintro e w' ⟨rfl,rfl⟩)
   go_ret;exact ⟨rfl,rfl⟩
  ·have e:(decide (gap<2*rest)||(decide (2*rest=gap)&&decide (cut % 2=1)))=false:=by
    rw [decide_eq_false (by omega:¬ gap<2*rest),decide_eq_false (by omega:¬ 2*rest=gap)];rfl
   rw [e];clear e;have hh:cmpI (2*rest) gap=-1:=by unfold cmpI;rw [if_pos h]
   have H:Hid _:=hh;clear hh
   go_enter Tryz.func161,Tryz.ntmps161;go_wp2_with (go_at_call 165;refine (cmpU_any _ _ _).mono ?_;rw [H.out];rintro e w' ⟨rfl,rfl⟩)
   go_ret;exact ⟨rfl,rfl⟩
def upI (cut:Int) (o:Bool):Int:=if o then cut+1 else cut
def rdN (c:Int) (below:Bool):Int:=if 4611686018427387903<c then 0 else if below then -c else c
def rdB (c:Int):Bool:=decide (c≤4611686018427387903)
theorem rounded_any (cut rest gap mode:Int) (below:Bool) (h0:0≤rest) (h1:2*rest<18446744073709551616) (hc:0≤cut) (hm:modeB mode=true) (w:World) :
  Calls Tryz.prog 150 #[.int .u64 cut,.int .u64 rest,.int .u64 gap,.bool below,.int .i64 mode] w fun e w' =>
   e=.returned (.tuple #[.int .i64 (rdN (upI cut (outB cut rest gap below mode)) below),.bool (rdB (upI cut (outB cut rest gap below mode)))])∧w'=w:=by
 have C:=outward_any cut rest gap mode below h0 h1 hc hm;generalize outB cut rest gap below mode=o at *;have HC:Hid _:=C;clear C;by_cases hb:4611686018427387903<cut
 ·have e1:rdN (upI cut o) below=0:=by unfold rdN upI;cases o<;>simp<;>omega
  have e2:rdB (upI cut o)=false:=by unfold rdB upI;cases o<;>simp<;>omega
  rw [e1,e2];clear e1 e2
  go_enter Tryz.func150,Tryz.ntmps150;go_wp2
  go_ret2
  exact ⟨rfl,rfl⟩
 ·cases o
  ·have e1:rdN (upI cut false) below=if below then -cut else cut:=by unfold rdN upI;simp;omega
   have e2:rdB (upI cut false)=true:=by unfold rdB upI;simp;omega
   rw [e1,e2];clear e1 e2;cases below
   all_goals
    go_enter Tryz.func150,Tryz.ntmps150;go_wp2_with (go_at_call 161;refine (HC.out _).mono ?_;rintro e w' ⟨rfl,rfl⟩)
    go_ret2
    exact ⟨rfl,rfl⟩
  ·by_cases hb2 : cut + 1 ≤ 4611686018427387903
   ·have e1:rdN (upI cut true) below=if below then -(cut+1) else cut+1:=by unfold rdN upI;simp;omega
    have e2:rdB (upI cut true)=true:=by unfold rdB upI;simp;omega
    rw [e1,e2];clear e1 e2;cases below
    all_goals
     go_enter Tryz.func150,Tryz.ntmps150;go_wp2_with (go_at_call 161;refine (HC.out _).mono ?_;rintro e w' ⟨rfl,rfl⟩)
     go_ret2
     exact ⟨rfl,rfl⟩
   ·have e1:rdN (upI cut true) below=0:=by unfold rdN upI;simp;omega
    have e2:rdB (upI cut true)=false:=by unfold rdB upI;simp;omega
    rw [e1,e2];clear e1 e2
    go_enter Tryz.func150,Tryz.ntmps150;go_wp2_with (go_at_call 161;refine (HC.out _).mono ?_;rintro e w' ⟨rfl,rfl⟩)
    go_ret2
    exact ⟨rfl,rfl⟩
theorem cmpI_lt {x y:Int} (h:x<y):cmpI x y=-1:=by unfold cmpI;rw [if_pos h]
theorem cmpI_gt {x y:Int} (h:y<x):cmpI x y=1:=by unfold cmpI;rw [if_neg (by omega),if_pos h]
theorem cmpI_eq {x y:Int} (h:x=y):cmpI x y=0:=by unfold cmpI;rw [if_neg (by omega),if_neg (by omega)]
theorem cmpI_three (x y:Int):(x<y∧cmpI x y=-1)∨(x=y∧cmpI x y=0)∨(y<x∧cmpI x y=1):=by
 rcases (by omega:x<y∨x=y∨y<x) with h|h|h
 ·exact .inl ⟨h,cmpI_lt h⟩
 ·exact .inr (.inl ⟨h,cmpI_eq h⟩)
 ·exact .inr (.inr ⟨h,cmpI_gt h⟩)
theorem sgn_mul (a b:Int):cmpI a 0*cmpI b 0=cmpI (a*b) 0:=by
 rcases cmpI_three a 0 with ⟨h,e⟩|⟨h,e⟩|⟨h,e⟩<;>rcases cmpI_three b 0 with ⟨k,f⟩|⟨k,f⟩|⟨k,f⟩<;>rw [e,f]
 ·have:=Int.mul_pos_of_neg_of_neg h k;rw [cmpI_gt this];rfl
 ·subst k;simp [cmpI]
 ·have:=Int.mul_neg_of_neg_of_pos h k;rw [cmpI_lt this];rfl
 ·subst h;simp [cmpI]
 ·subst h;simp [cmpI]
 ·subst h;simp [cmpI]
 ·have:=Int.mul_neg_of_pos_of_neg h k;rw [cmpI_lt this];rfl
 ·subst k;simp [cmpI]
 ·have:=Int.mul_pos h k;rw [cmpI_gt this];rfl
theorem szI_mul (a b:Int):szI a*szI b=szI (a*b):=by
 have e:∀ n:Int,szI n=n.natAbs:=fun n=>by unfold szI;split<;>omega
 rw [e,e,e,Int.natAbs_mul,Int.natCast_mul]
theorem wrap64_unit {x:Int} (h:-1≤x∧x≤1):wrap64 x=x:=IntWalk.wrap64_in x (by omega)
theorem cmpI_bd (x y:Int):-1≤cmpI x y∧cmpI x y≤1:=by
 rcases cmpI_three x y with ⟨_,e⟩|⟨_,e⟩|⟨_,e⟩<;>rw [e]<;>decide
theorem rightB_iff {n:Int}:rightB n=true↔-4611686018427387903≤n∧n≤4611686018427387903:=by simp [rightB]
theorem right_i64 {n:Int} (h:rightB n=true):I64 n:=by have:=rightB_iff.1 h;unfold I64;omega
theorem szI_right {n:Int} (h:rightB n=true):0≤szI n∧szI n≤4611686018427387903:=by
 have:=rightB_iff.1 h;unfold szI;split<;>omega
theorem mul_hi {x y:Int} (hx:0≤x∧x≤4611686018427387903) (hy:0≤y∧y≤4611686018427387903):0≤x*y∧x*y≤21267647932558653957237540927630737409:=by
 refine ⟨Int.mul_nonneg hx.1 hy.1,?_⟩;have:=Int.mul_le_mul hx.2 hy.2 hy.1 (by omega:(0:Int)≤4611686018427387903);simpa using this
theorem hi_word {p:Int} (h:0≤p∧p≤21267647932558653957237540927630737409):U64 (p/18446744073709551616):=by unfold U64;omega
theorem half_step (r D:Int) (i:Nat) (hi:i<62) (hD:D=2 ^ (61-i)) (hr0:0≤r) (hrm:r % 2 ^ (62-i)=0) (hr3:r+2 ^ (62-i)≤4611686018427387904) :
  (2:Int) ^ (62-i)=D+D∧1≤D∧r % D=0∧(r+D) % D=0∧bits .or .u64 r (IntKind.u64.wrap (2 ^ (61-i)))=r+D:=by
 have e:(2:Int) ^ (62-i)=D+D:=by
  rw [show 62-i=(61-i)+1 from by omega,Int.pow_succ,←hD];omega
 have hp:(0:Int)<D:=by rw [hD];exact Int.pow_pos (by decide)
 have hd:D ∣ r:=by
  have h1:(D+D) ∣ r:=by rw [←e];exact Int.dvd_of_emod_eq_zero hrm
  obtain ⟨c,hc⟩:=h1;exact ⟨2*c,by rw [hc,Int.add_mul,←Int.mul_assoc,Int.mul_comm D 2];rw [Int.mul_assoc];omega⟩
 refine ⟨e,by omega,Int.emod_eq_zero_of_dvd hd,?_,?_⟩
 ·exact Int.emod_eq_zero_of_dvd (Int.dvd_add hd (Int.dvd_refl D))
 ·rw [e] at hr3;rw [←hD];have hw:IntKind.u64.wrap D=D:=by rw [IntKind.wrap_u64];omega
  rw [hw];have e64:(2:Int) ^ 64=18446744073709551616:=by decide
  refine bits_join .u64 64 (by decide) (fun n h h'=>?_) (62-i) r D hr0 hrm (by omega) (by omega) (by omega) (by omega);rw [IntKind.wrap_u64];rw [e64] at h';omega
set_option maxHeartbeats 1000000 in
theorem floorRoot_any (p:Int) (w:World) (h0:0≤p) (h1:p≤21267647932558653957237540927630737409) :
  Calls Tryz.prog 221 #[wd p] w fun e w'=>(∃ r:Int,e=.returned (.int .u64 r)∧0≤r∧r*r≤p∧p<(r+1)*(r+1))∧Bl w w':=by
 unfold wd;have hpw:U64 (p/18446744073709551616):=hi_word ⟨h0,h1⟩
 go_enter Tryz.func221,Tryz.ntmps221;go_wp2_with fail
 go_loopw [3,6] (fun a b wr=>∃ (r:Int) (i:Nat),a=.int .u64 r∧b=.int .i64 i∧i≤62∧0≤r∧r % 2 ^ (62-i)=0∧r*r≤p∧p<(r+2 ^ (62-i))*(r+2 ^ (62-i))∧r+2 ^ (62-i)≤4611686018427387904∧Bl (w.alloc (.cells #[.int .u64 (p/18446744073709551616),.int .u64 (p % 18446744073709551616)] 175)) wr) (fun _ b _=>62-(intOf b).toNat)
 case atStart =>
  have e62:(2:Int) ^ 62=4611686018427387904:=by decide
  refine ⟨0,0,rfl,rfl,by omega,by omega,by simp,by simpa using h0,?_,?_,Bl.refl _⟩
  ·rw [show 62-0=62 from rfl,e62];omega
  ·rw [show 62-0=62 from rfl,e62];omega
 case round =>
  obtain ⟨r,i,rfl,rfl,hi,hr0,hrm,hr1,hr2,hr3,hB⟩:=hrel;have g0:=bl_cell hB w.heap.size 0 (by simp);have g1:=bl_cell hB w.heap.size 1 (by simp);simp [go_sem] at g0 g1;have hsz:w.heap.size<_:=Nat.lt_of_lt_of_le (by simp:w.heap.size<(w.alloc (.cells #[.int .u64 (p/18446744073709551616),.int .u64 (p % 18446744073709551616)] 175)).heap.size) hB.size;have keep:∀ W,Bl wr W→W.cell? ⟨w.heap.size,0,none⟩=some (.int .u64 (p/18446744073709551616))∧W.cell? ⟨w.heap.size,1,none⟩=some (.int .u64 (p % 18446744073709551616)):=
   fun W h=>⟨(bl_cell h _ _ hsz).trans g0,(bl_cell h _ _ hsz).trans g1⟩
  have KP:Hid _:=keep;clear keep;by_cases hlt:i<62
  ·obtain ⟨D,hD⟩:∃ D:Int,D=2 ^ (61-i):=⟨_,rfl⟩;obtain ⟨eD,D1,m1,m2,hor⟩:=half_step r D i hlt hD hr0 hrm hr3;rw [eD] at hr2 hr3;have hm:U64 (r+D):=by unfold U64;omega
   have hmm:=hi_word (mul_hi (x:=r+D) (y:=r+D) (by omega) (by omega));have hmm0:=(mul_hi (x:=r+D) (y:=r+D) (by omega) (by omega)).1;have HD:Hid (D=2 ^ (61-i)):=hD;have nx:62-(i+1)=61-i:=by omega
   have HN:Hid (62-(i+1)=61-i):=nx;have Hm1:Hid (r % D=0):=m1;have Hm2:Hid ((r+D) % D=0):=m2;have Hr2:Hid (p<(r+(D+D))*(r+(D+D))):=hr2;have C:=cmpI_three ((r+D)*(r+D)) p;have O:=order_ex ((r+D)*(r+D)) p;have T:=times_ex (r+D) (r+D) hm hm;unfold wd at O T;clear hD hrm eD nx m1 m2 hr2;have hC:(cmpI ((r+D)*(r+D)) p≤0∧(r+D)*(r+D)≤p)∨(0<cmpI ((r+D)*(r+D)) p∧p<(r+D)*(r+D)):=by
    rcases C with ⟨a,b⟩|⟨a,b⟩|⟨a,b⟩<;>rw [b]<;>omega
   generalize hq:cmpI ((r+D)*(r+D)) p=q at *;have HO:Hid _:=O;have HT:Hid _:=T;clear O T C hq;generalize hmr:r+D=m at *;have HMR:Hid (r+D=m):=hmr;clear hmr;rcases hC with ⟨hc1,hc2⟩|⟨hc1,hc2⟩
   ·go_wp2_with fail
    go_region_held3 (fun w'=>w'.cell? ⟨w.heap.size,0,none⟩=some (.int .u64 (p/18446744073709551616))∧w'.cell? ⟨w.heap.size,1,none⟩=some (.int .u64 (p % 18446744073709551616))) (exact KP.out _ (by repeat (first|exact Bl.refl _|apply Bl.drew|apply Bl.alloc)))
     (first
      |(go_at_call 159;refine (HT.out _).mono ?_;rintro e w' ⟨rfl,o,rfl⟩)
      |(go_at_call 222;refine (HO.out _ hmm hpw).mono ?_;rintro e w' ⟨rfl,o1,o2,o3,rfl⟩))
    go_wp2;go_roundw
    case rel =>
     refine ⟨m,i+1,rfl,by go_num,by omega,by have:=HMR.out;omega,?_,hc2,?_,?_,?_⟩
     ·rw [HN.out,←HD.out];exact Hm2.out
     ·rw [HN.out,←HD.out,show m+D=r+(D+D) from by have:=HMR.out;omega];exact Hr2.out
     ·rw [HN.out,←HD.out];have:=HMR.out;omega
     ·exact hB.trans (by repeat (first|exact Bl.refl _|apply Bl.drew|apply Bl.alloc))
    case measure=>simp [intOf];omega
   ·go_wp2_with fail
    go_region_held3 (fun w'=>w'.cell? ⟨w.heap.size,0,none⟩=some (.int .u64 (p/18446744073709551616))∧w'.cell? ⟨w.heap.size,1,none⟩=some (.int .u64 (p % 18446744073709551616))) (exact KP.out _ (by repeat (first|exact Bl.refl _|apply Bl.drew|apply Bl.alloc)))
     (first
      |(go_at_call 159;refine (HT.out _).mono ?_;rintro e w' ⟨rfl,o,rfl⟩)
      |(go_at_call 222;refine (HO.out _ hmm hpw).mono ?_;rintro e w' ⟨rfl,o1,o2,o3,rfl⟩))
    go_wp2;go_roundw
    case rel =>
     refine ⟨r,i+1,rfl,by go_num,by omega,hr0,?_,hr1,?_,?_,?_⟩
     ·rw [HN.out,←HD.out];exact Hm1.out
     ·rw [HN.out,←HD.out,HMR.out];exact hc2
     ·rw [HN.out,←HD.out];omega
     ·exact hB.trans (by repeat (first|exact Bl.refl _|apply Bl.drew|apply Bl.alloc))
    case measure=>simp [intOf];omega
  ·have e:i=62:=by omega
   subst e;go_wp2;go_ret;refine ⟨⟨r,rfl,hr0,hr1,?_⟩,((Bl.refl _).alloc _).trans hB⟩;simpa using hr2
def isq:Nat→Nat
 |0=>0
 |n+1=>if (isq n+1)*(isq n+1)≤n+1 then isq n+1 else isq n
theorem isq_spec:∀ n:Nat,isq n*isq n≤n∧n<(isq n+1)*(isq n+1)
 |0=>by simp [isq]
 |n+1=>by
  obtain ⟨h1,h2⟩:=isq_spec n;unfold isq;generalize isq n=r at *;split
  ·rename_i h
   refine ⟨h,?_⟩;have:(r+1+1)*(r+1+1)=(r+1)*(r+1)+2*(r+1)+1:=by
    rw [Nat.mul_add,Nat.add_mul];omega
   omega
  ·omega
def rtF (p:Int):Int:=isq p.toNat
theorem rtF_spec (p:Int) (h:0≤p):0≤rtF p∧rtF p*rtF p≤p∧p<(rtF p+1)*(rtF p+1):=by
 obtain ⟨h1,h2⟩:=isq_spec p.toNat;unfold rtF;generalize isq p.toNat=r at *;have a1:((r*r:Nat):Int)≤(p.toNat:Int):=by exact_mod_cast h1
 have a2:(p.toNat:Int)<(((r+1)*(r+1):Nat):Int):=by exact_mod_cast h2
 push_cast at a1 a2
 omega
theorem root_one (p r:Int) (h:0≤r) (h1:r*r≤p) (h2:p<(r+1)*(r+1)):r=rtF p:=by
 have hp:0≤p:=by have:=Int.mul_nonneg h h;omega
 obtain ⟨k0,k1,k2⟩:=rtF_spec p hp;generalize rtF p=q at *;rcases (by omega:r<q∨r=q∨q<r) with h'|h'|h'
 ·have:=Int.mul_le_mul (show r+1≤q by omega) (show r+1≤q by omega) (by omega) (by omega);omega
 ·exact h'
 ·have:=Int.mul_le_mul (show q+1≤r by omega) (show q+1≤r by omega) (by omega) (by omega);omega
theorem rtF_le (p b:Int) (h0:0≤p) (hb:0≤b) (h:p≤b*b):rtF p≤b:=by
 obtain ⟨k0,k1,k2⟩:=rtF_spec p h0;generalize rtF p=q at *;rcases Int.lt_or_le b q with h'|h'
 ·have:=Int.mul_le_mul (show b+1≤q by omega) (show b+1≤q by omega) (by omega) (by omega);rw [Int.add_mul,Int.mul_add] at this;omega
 ·exact h'
def rtG (a b mode:Int):Bool:=rightB a&&rightB b && !decide (a*b<0)&&modeB mode
def rtC (a b mode:Int):Int:=
 upI (rtF (szI a*szI b)) (outB (rtF (szI a*szI b)) (szI a*szI b-rtF (szI a*szI b)*rtF (szI a*szI b)) (2*rtF (szI a*szI b)+1) false mode)
def rtN (a b mode:Int):Int:=if rtG a b mode then rdN (rtC a b mode) false else 0
def rtB (a b mode:Int):Bool:=rtG a b mode&&rdB (rtC a b mode)
theorem index_low (x y:Value) (w:World):(Instr.index 175 (.agg #[x,y]) (.int .i64 1)).run Tryz.prog w=.ok y w:=by kernel_rfl
set_option maxHeartbeats 1000000 in
theorem root_good (a b mode:Int) (ha:rightB a=true) (hb:rightB b=true) (hs:decide (a*b<0)=false) (hm:modeB mode=true) (w:World) :
  Calls Tryz.prog 220 #[.int .i64 a,.int .i64 b,.int .i64 mode] w fun e w' =>
   e=.returned (.tuple #[.int .i64 (rdN (rtC a b mode) false),.bool (rdB (rtC a b mode))])∧Bl w w':=by
 have e1:wrap64 (cmpI a 0*cmpI b 0)=cmpI (a*b) 0:=by rw [sgn_mul];exact wrap64_unit (cmpI_bd _ _)
 have e3:decide (cmpI (a*b) 0<0)=false:=by
  rw [←hs];rcases cmpI_three (a*b) 0 with ⟨h,e⟩|⟨h,e⟩|⟨h,e⟩<;>rw [e]<;>simp<;>omega
 clear hs;have hp:=mul_hi (szI_right ha) (szI_right hb);have ia:=right_i64 ha;have ib:=right_i64 hb;unfold rtC;have P:=product_any a b ia ib;generalize szI a*szI b=p at *;have F:=floorRoot_any p;have hr:=rtF_spec p hp.1;have hu:=root_one p;have hle:=rtF_le p 4611686018427387903 hp.1 (by omega) (by omega);generalize rtF p=r at *;obtain ⟨r0,r1,r2⟩:=hr;have hrr:=mul_hi (x:=r) (y:=r) (by omega) (by omega);rw [Int.add_mul,Int.mul_add] at r2;have ew:IntKind.u64.wrap (p % 18446744073709551616-r*r % 18446744073709551616)=p-r*r:=by
  rw [IntKind.wrap_u64];omega
 have hru:U64 r:=by unfold U64;omega
 have T:=times_ex r r hru hru;have R:=rounded_any r (p-r*r) (2*r+1) mode false (by omega) (by omega) r0 hm;unfold wd at P F T;have HP:Hid _:=P;have HF:Hid _:=F;have HU:Hid _:=hu;have HT:Hid _:=T;have HR:Hid _:=R;clear P F hu T R
 go_enter Tryz.func220,Tryz.ntmps220
 go_wp2_with (first
  |(go_at_call 145;refine (right_any _ _).mono ?_;rintro e w' ⟨rfl,rfl⟩)
  |(go_at_call 149;refine (sign_any _ _).mono ?_;rintro e w' ⟨rfl,rfl⟩)
  |(go_at_call 146;refine (isMode_any _ _).mono ?_;rintro e w' ⟨rfl,rfl⟩))
 refine (HP.out _).mono ?_;rintro e w1 ⟨rfl,h1⟩;go_wp2_with fail
 refine (HF.out _ hp.1 hp.2).mono ?_;rintro e w2 ⟨⟨r',rfl,k0,k1,k2⟩,h2⟩;obtain rfl:=HU.out r' k0 k1 k2;have g1:=bl_cell h2 w1.heap.size 1 (by simp);simp [go_sem] at g1;have hsz:w1.heap.size<w2.heap.size:=Nat.lt_of_lt_of_le (by simp) h2.size;have keep:∀ W,Bl w2 W→W.cell? ⟨w1.heap.size,1,none⟩=some (.int .u64 (p % 18446744073709551616)):=
  fun W h=>(bl_cell h _ _ hsz).trans g1
 have KP:Hid _:=keep;clear keep k0 k1 k2;have ix:=index_low;go_wp2_with fail
 go_region_held3 (fun w'=>w'.cell? ⟨w1.heap.size,1,none⟩=some (.int .u64 (p % 18446744073709551616))) (exact KP.out _ (by repeat (first|exact Bl.refl _|apply Bl.drew|apply Bl.alloc)))
  (first
   |(go_at_call 159;refine (HT.out _).mono ?_;rintro e w' ⟨rfl,o,rfl⟩))
 go_wp2_with fail
 refine (HR.out _).mono ?_;rintro e w4 ⟨rfl,rfl⟩;go_wp2
 go_ret2
 exact ⟨rfl,((h1.alloc _).trans h2).trans (by repeat (first|exact Bl.refl _|apply Bl.drew|apply Bl.alloc))⟩
theorem root_any (a b mode:Int) (w:World) :
  Calls Tryz.prog 220 #[.int .i64 a,.int .i64 b,.int .i64 mode] w fun e w' =>
   e=.returned (.tuple #[.int .i64 (rtN a b mode),.bool (rtB a b mode)])∧Bl w w':=by
 unfold rtN rtB rtG;cases ha:rightB a
 ·go_enter Tryz.func220,Tryz.ntmps220
  go_wp2_with (first
   |(go_at_call 145;refine (right_any _ _).mono ?_;rintro e w' ⟨rfl,rfl⟩)
   |(go_at_call 149;refine (sign_any _ _).mono ?_;rintro e w' ⟨rfl,rfl⟩)
   |(go_at_call 146;refine (isMode_any _ _).mono ?_;rintro e w' ⟨rfl,rfl⟩))
  go_ret2
  exact ⟨rfl,Bl.refl _⟩
 cases hb:rightB b
 ·go_enter Tryz.func220,Tryz.ntmps220
  go_wp2_with (first
   |(go_at_call 145;refine (right_any _ _).mono ?_;rintro e w' ⟨rfl,rfl⟩)
   |(go_at_call 149;refine (sign_any _ _).mono ?_;rintro e w' ⟨rfl,rfl⟩)
   |(go_at_call 146;refine (isMode_any _ _).mono ?_;rintro e w' ⟨rfl,rfl⟩))
  go_ret2
  exact ⟨rfl,Bl.refl _⟩
 have e1:wrap64 (cmpI a 0*cmpI b 0)=cmpI (a*b) 0:=by rw [sgn_mul];exact wrap64_unit (cmpI_bd _ _)
 have e3:decide (cmpI (a*b) 0<0)=decide (a*b<0):=by
  rcases cmpI_three (a*b) 0 with ⟨h,e⟩|⟨h,e⟩|⟨h,e⟩<;>rw [e]<;>simp<;>omega
 cases hs:decide (a*b<0)
 case true =>
  rw [hs] at e3;generalize cmpI (a*b) 0=l at *;clear hs
  go_enter Tryz.func220,Tryz.ntmps220
  go_wp2_with (first
   |(go_at_call 145;refine (right_any _ _).mono ?_;rintro e w' ⟨rfl,rfl⟩)
   |(go_at_call 149;refine (sign_any _ _).mono ?_;rintro e w' ⟨rfl,rfl⟩)
   |(go_at_call 146;refine (isMode_any _ _).mono ?_;rintro e w' ⟨rfl,rfl⟩))
  go_ret2
  exact ⟨rfl,Bl.refl _⟩
 case false =>
  cases hm:modeB mode
  case true=>exact root_good a b mode ha hb hs hm w
  case false =>
   rw [hs] at e3;generalize cmpI (a*b) 0=l at *;clear hs
   go_enter Tryz.func220,Tryz.ntmps220
   go_wp2_with (first
    |(go_at_call 145;refine (right_any _ _).mono ?_;rintro e w' ⟨rfl,rfl⟩)
    |(go_at_call 149;refine (sign_any _ _).mono ?_;rintro e w' ⟨rfl,rfl⟩)
    |(go_at_call 146;refine (isMode_any _ _).mono ?_;rintro e w' ⟨rfl,rfl⟩))
   go_ret2
   exact ⟨rfl,Bl.refl _⟩
structure Fr where
 n:Int
 d:Int
 bad:Bool
theorem Fr.ext' {a b:Fr} (h1:a.n=b.n) (h2:a.d=b.d) (h3:a.bad=b.bad):a=b:=by cases a;cases b;simp_all
def wrongR:Fr:=⟨0,0,true⟩
def smB (n:Int):Bool:=decide (-1073741824≤n)&&decide (n≤1073741824)
theorem smB_iff {n:Int}:smB n=true↔-1073741824≤n∧n≤1073741824:=by simp [smB]
def gvB (n:Int):Bool:=decide (-1152921504606846976≤n)&&decide (n≤1152921504606846976)
theorem gvB_iff {n:Int}:gvB n=true↔-1152921504606846976≤n∧n≤1152921504606846976:=by simp [gvB]
def fineR (a:Fr):Bool := !a.bad&&decide (1≤a.d)&&smB a.d&&smB a.n&&decide (Int.gcd a.n a.d=1)
theorem fineR_iff {a:Fr}:fineR a=true↔a.bad=false∧1≤a.d∧a.d≤1073741824∧-1073741824≤a.n∧a.n≤1073741824∧Int.gcd a.n a.d=1:=by
 simp only [fineR,Bool.and_eq_true,decide_eq_true_eq,smB_iff,Bool.not_eq_true'];constructor
 ·rintro ⟨⟨⟨⟨h1,h2⟩,h3⟩,h4⟩,h5⟩;exact ⟨h1,h2,h3.2,h4.1,h4.2,h5⟩
 ·rintro ⟨h1,h2,h3,h4,h5,h6⟩;exact ⟨⟨⟨⟨h1,h2⟩,by omega,h3⟩,h4,h5⟩,h6⟩
def toQ (a:Fr):Rat:=Rat.divInt a.n a.d
def ofQ (q:Rat):Fr:=if smB q.num&&smB (q.den:Int) then ⟨q.num,q.den,false⟩ else wrongR
def lowR (n d:Int):Fr:=if d=0 then wrongR else ofQ (Rat.divInt n d)
def newR (n d:Int):Fr:=if gvB n&&gvB d then lowR n d else wrongR
def okR (q:Rat):Bool:=smB q.num&&smB (q.den:Int)
theorem okR_iff {q:Rat}:okR q=true↔-1073741824≤q.num∧q.num≤1073741824∧q.den≤1073741824:=by
 unfold okR;rw [Bool.and_eq_true,smB_iff,smB_iff];omega
theorem ofQ_ok {q:Rat} (h:okR q=true):ofQ q=⟨q.num,q.den,false⟩:=by unfold okR at h;unfold ofQ;rw [if_pos h]
theorem ofQ_no {q:Rat} (h:okR q=false):ofQ q=wrongR:=by unfold ofQ;rw [if_neg (by unfold okR at h;rw [h];decide)]
theorem ofQ_fine {q:Rat}:fineR (ofQ q)=okR q:=by
 cases h:okR q
 ·rw [ofQ_no h];rfl
 ·rw [ofQ_ok h,fineR_iff];have:=okR_iff.1 h;have h1:=q.den_pos;refine ⟨rfl,by simp;omega,by simp;omega,this.1,this.2.1,?_⟩;show Nat.gcd q.num.natAbs ((q.den:Int).natAbs)=1;rw [Int.natAbs_natCast];exact q.reduced
theorem toQ_parts {a:Fr} (h:fineR a=true):(toQ a).num=a.n∧((toQ a).den:Int)=a.d:=by
 obtain ⟨h1,h2,h3,h4,h5,h6⟩:=fineR_iff.1 h;unfold toQ;rw [Rat.num_divInt,Rat.den_divInt,Int.gcd_comm,h6,if_neg (by omega),Int.sign_eq_one_of_pos (by omega)];simp;omega
theorem ofQ_toQ {a:Fr} (h:fineR a=true):ofQ (toQ a)=a:=by
 obtain ⟨e1,e2⟩:=toQ_parts h;obtain ⟨h1,h2,h3,h4,h5,h6⟩:=fineR_iff.1 h;rw [ofQ_ok (okR_iff.2 (by rw [e1];omega))];exact Fr.ext' e1 e2 h1.symm
theorem toQ_ofQ {q:Rat} (h:okR q=true):toQ (ofQ q)=q:=by
 rw [ofQ_ok h];exact Rat.num_divInt_den q
theorem low_parts (n d:Int) (hd:0<d) (g:Int) (hg:g=(Int.gcd n d:Int)):(Rat.divInt n d).num=n.tdiv g∧((Rat.divInt n d).den:Int)=d.tdiv g:=by
 subst hg;have g0:0<Int.gcd n d:=Int.gcd_pos_of_ne_zero_right _ (by omega);rw [Rat.num_divInt,Rat.den_divInt,Int.sign_eq_one_of_pos hd,if_neg (by omega),Int.one_mul,Int.gcd_comm d n];obtain ⟨x,hx⟩:=Int.gcd_dvd_left n d;obtain ⟨y,hy⟩:=Int.gcd_dvd_right n d;generalize Int.gcd n d=g at *;have gz:(g:Int)≠0:=by omega
 constructor
 ·rw [hx,Int.mul_ediv_cancel_left _ gz,Int.mul_tdiv_cancel_left _ gz]
 ·rw [Int.natCast_ediv,show (d.natAbs:Int)=d by omega,hy,Int.mul_ediv_cancel_left _ gz,Int.mul_tdiv_cancel_left _ gz]
theorem lowR_neg (n d:Int) (hd:d<0):lowR n d=lowR (-n) (-d):=by
 unfold lowR;rw [if_neg (by omega),if_neg (by omega),Rat.neg_divInt_neg]
theorem lowR_pos (n d:Int) (hd:0<d) (g:Int) (hg:g=(Int.gcd n d:Int)):lowR n d=if smB (n.tdiv g)&&smB (d.tdiv g) then ⟨n.tdiv g,d.tdiv g,false⟩ else wrongR:=by
 obtain ⟨e1,e2⟩:=low_parts n d hd g hg;unfold lowR;rw [if_neg (by omega)];unfold ofQ;rw [e1,e2]
theorem fine_new {a:Fr} (hb:a.bad=false):fineR a=true↔a=newR a.n a.d:=by
 constructor
 ·intro h;obtain ⟨h1,h2,h3,h4,h5,h6⟩:=fineR_iff.1 h;unfold newR;rw [if_pos (by rw [gvB_iff.2 (by omega),gvB_iff.2 (by omega)];rfl)];unfold lowR;rw [if_neg (by omega)];exact (ofQ_toQ h).symm
 ·intro h;unfold newR at h;split at h
  ·unfold lowR at h;split at h
   ·rw [h] at hb;cases hb
   ·rename_i hd
    rw [h,ofQ_fine];cases hq:okR (Rat.divInt a.n a.d)
    ·rw [ofQ_no hq] at h;rw [h] at hb;cases hb
    ·rfl
  ·rw [h] at hb;cases hb
def addR (a b:Fr):Fr:=if fineR a&&fineR b then ofQ (toQ a+toQ b) else wrongR
def subR (a b:Fr):Fr:=if fineR a&&fineR b then ofQ (toQ a-toQ b) else wrongR
def mulR (a b:Fr):Fr:=if fineR a&&fineR b then ofQ (toQ a*toQ b) else wrongR
def divR (a b:Fr):Fr:=if fineR a&&fineR b&&decide (b.n≠0) then ofQ (toQ a/toQ b) else wrongR
theorem fine_d {a:Fr} (h:fineR a=true):a.d≠0:=by have:=fineR_iff.1 h;omega
theorem low_add {a b:Fr} (ha:fineR a=true) (hb:fineR b=true):lowR (a.n*b.d+b.n*a.d) (a.d*b.d)=ofQ (toQ a+toQ b):=by
 unfold lowR toQ;rw [if_neg (Int.mul_ne_zero (fine_d ha) (fine_d hb)),Rat.divInt_add_divInt _ _ (fine_d ha) (fine_d hb)]
theorem low_sub {a b:Fr} (ha:fineR a=true) (hb:fineR b=true):lowR (a.n*b.d-b.n*a.d) (a.d*b.d)=ofQ (toQ a-toQ b):=by
 unfold lowR toQ;rw [if_neg (Int.mul_ne_zero (fine_d ha) (fine_d hb)),Rat.divInt_sub_divInt _ _ (fine_d ha) (fine_d hb)]
theorem low_mul {a b:Fr} (ha:fineR a=true) (hb:fineR b=true):lowR (a.n*b.n) (a.d*b.d)=ofQ (toQ a*toQ b):=by
 unfold lowR toQ;rw [if_neg (Int.mul_ne_zero (fine_d ha) (fine_d hb)),Rat.divInt_mul_divInt]
theorem low_div {a b:Fr} (ha:fineR a=true) (hb:fineR b=true) (h0:b.n≠0):lowR (a.n*b.d) (a.d*b.n)=ofQ (toQ a/toQ b):=by
 unfold lowR toQ;rw [if_neg (Int.mul_ne_zero (fine_d ha) h0),Rat.div_def,Rat.inv_divInt,Rat.divInt_mul_divInt]
theorem low_div0 {a b:Fr} (h0:b.n=0):lowR (a.n*b.d) (a.d*b.n)=wrongR:=by
 unfold lowR;rw [h0,if_pos (by simp)]
def bval:List Int→Int
 |[]=>0
 |x::r=>x+2*bval r
def AllBits (xs:List Int):Prop:=∀ x∈xs,x=0∨x=1
def Row (w:World) (v:Value) (n:Int):Prop:=
 ∃ (b o cap:Nat) (xs:List Int),v=.slice (some ⟨b,o,none⟩) 130 cap∧130≤cap∧b<w.heap.size∧xs.length=130∧AllBits xs∧bval xs=n ∧
  ∀ j,j<130→w.cell? ⟨b,o+j,none⟩=some (.int .i64 (xs.getD j 0))
theorem hideP {p:Prop} (h:p):Hid p:=h
abbrev frV (x:Fr):Value:=.agg #[.int .i64 x.n,.int .i64 x.d,.bool x.bad]
structure FBox (w:World) (b:Nat) (x:Fr):Prop where
 c0:w.cell? ⟨b,0,none⟩=some (.int .i64 x.n)
 c1:w.cell? ⟨b,1,none⟩=some (.int .i64 x.d)
 c2:w.cell? ⟨b,2,none⟩=some (.bool x.bad)
 f0:w.frozen? ⟨b,0,none⟩=false
 f1:w.frozen? ⟨b,1,none⟩=false
 f2:w.frozen? ⟨b,2,none⟩=false
 lt:b<w.heap.size
theorem FBox.later {w w':World} {b:Nat} {x:Fr} (h:FBox w b x) (k:Bl w w'):FBox w' b x:=by
 have:=h.lt;refine ⟨?_,?_,?_,?_,?_,?_,by have:=Below.size k;omega⟩
 ·rw [bl_cell k _ _ this];exact h.c0
 ·rw [bl_cell k _ _ this];exact h.c1
 ·rw [bl_cell k _ _ this];exact h.c2
 ·rw [bl_froz k _ _ this];exact h.f0
 ·rw [bl_froz k _ _ this];exact h.f1
 ·rw [bl_froz k _ _ this];exact h.f2
theorem FBox.new (w:World) (x:Fr) (t:TypeId):FBox (w.alloc (.cells #[.int .i64 x.n,.int .i64 x.d,.bool x.bad] t)) w.heap.size x:=by
 refine ⟨?_,?_,?_,?_,?_,?_,by simp⟩<;>simp [go_sem]
theorem Bl.set3 {a b:World} (h:Bl a b) {n:Nat} (hn:a.heap.size≤n) (v0 v1 v2:Value):Bl a (((b.setCell ⟨n,0,none⟩ v0).setCell ⟨n,1,none⟩ v1).setCell ⟨n,2,none⟩ v2):=
 Bl.set (Bl.set (Bl.set h hn _) hn _) hn _
def zeroR:Fr:=⟨0,0,false⟩
structure OneZ (w W:World):Prop where
 eq:W=w.alloc (.cells #[.int .i64 0,.int .i64 0,.bool false] 34)
 bl:Bl w W
 bz:FBox W w.heap.size zeroR
 size:W.heap.size=w.heap.size+1
theorem oneZ_ex (w:World):∃ W,OneZ w W:=⟨_,rfl,(Bl.refl _).alloc _,FBox.new w zeroR _,by simp⟩
theorem wrongR_any (w:World) :
  Calls Tryz.prog 55 #[] w fun e w'=>e=.returned (frV wrongR)∧Bl w w':=by
 go_enter Tryz.func55,Tryz.ntmps55;go_wp2;simp [bodyPost,results,Tryz.results55,go_sem,wrongR];exact (Bl.refl _).alloc _
theorem within_any (n m:Int) (h0:0≤m) (h1:m≤4611686018427387904) (w:World) :
  Calls Tryz.prog 54 #[.int .i64 n,.int .i64 m] w fun e w'=>e=.returned (.bool (decide (-m≤n)&&decide (n≤m)))∧w'=w:=by
 by_cases h:-m≤n
 ·by_cases h2:n≤m
  ·go_enter Tryz.func54,Tryz.ntmps54;go_wp2;go_ret;exact ⟨by simp [h,h2],rfl⟩
  ·go_enter Tryz.func54,Tryz.ntmps54;go_wp2;go_ret;exact ⟨by simp [h,h2],rfl⟩
 ·go_enter Tryz.func54,Tryz.ntmps54;go_wp2;go_ret;exact ⟨by simp;omega,rfl⟩
theorem within_sm (n:Int) (w:World) :
  Calls Tryz.prog 54 #[.int .i64 n,.int .i64 1073741824] w fun e w'=>e=.returned (.bool (smB n))∧w'=w:=within_any n _ (by decide) (by decide) w
theorem within_gv (n:Int) (w:World) :
  Calls Tryz.prog 54 #[.int .i64 n,.int .i64 1152921504606846976] w fun e w'=>e=.returned (.bool (gvB n))∧w'=w:=within_any n _ (by decide) (by decide) w
theorem gcd_step (a b:Int) (ha:0≤a) (hb:0<b):Int.gcd b (a % b)=Int.gcd a b:=by
 rw [Int.gcd_comm,Int.gcd_comm a b];show Nat.gcd _ _=Nat.gcd _ _;rw [Int.natAbs_emod_of_nonneg ha,←Nat.gcd_rec]
theorem drewN_bl:∀ (n:Nat) (w:World),Bl w (w.drewN n)
 |0,w=>Bl.refl w
 |n+1,w=>(drewN_bl n w).trans ((Bl.refl _).drew)
theorem divisor_any (a b:Int) (ha:0≤a) (hb:0≤b) (w:World) :
  Calls Tryz.prog 99 #[.int .i64 a,.int .i64 b] w fun e w'=>e=.returned (.int .i64 (Int.gcd a b:Int))∧Bl w w':=by
 go_enter Tryz.func99,Tryz.ntmps99;go_wp2
 go_loopw [0,1] (fun x y wr=>∃ (p q:Int),x=.int .i64 p∧y=.int .i64 q∧0≤p∧0≤q∧Int.gcd p q=Int.gcd a b∧Bl w wr) (fun _ y _=>(intOf y).toNat)
 case atStart=>exact ⟨a,b,rfl,rfl,ha,hb,rfl,Bl.refl _⟩
 case round =>
  obtain ⟨p,q,rfl,rfl,hp,hq,hg,hB⟩:=hrel;have HG:=hideP hg;clear hg;by_cases h:0<q
  ·have hq0:(q==0)=false:=by simpa using (show q≠0 by omega)
   go_wp2
   go_quiet (fail)
   go_wp2;go_roundw
   case rel=>exact ⟨q,p % q,rfl,rfl,hq,Int.emod_nonneg _ (by omega),by rw [gcd_step p q hp h];exact HG.out,hB.trans (drewN_bl _ _)⟩
   case measure =>
    have:=Int.emod_nonneg p (show q≠0 by omega);have:=Int.emod_lt_of_pos p h;simp [intOf];omega
  ·obtain rfl:q=0:=by omega
   go_wp2;go_ret;refine ⟨?_,hB⟩;rw [←HG.out];exact ret_int (by rw [Int.gcd_zero];omega)
theorem low_two (x y:Int) (hy:1≤y) (r:Fr) (h:r=if smB x&&smB y then ⟨x,y,false⟩ else wrongR) :
  (smB x=false∧r=wrongR)∨(smB x=true∧1073741824<y∧r=wrongR)∨(smB x=true∧¬ 1073741824<y∧r=⟨x,y,false⟩):=by
 subst h;cases hx:smB x
 ·exact .inl ⟨rfl,rfl⟩
 ·by_cases hy2 : 1073741824 < y
  ·have:smB y=false:=by
    rw [Bool.eq_false_iff,ne_eq,smB_iff];omega
   rw [this];exact .inr (.inl ⟨rfl,hy2,rfl⟩)
  ·rw [smB_iff.2 (by omega:-1073741824≤y∧y≤1073741824)];exact .inr (.inr ⟨rfl,hy2,rfl⟩)
set_option maxHeartbeats 1000000 in
theorem lowest_mid (n d m:Int) (hm:(m=-n∧n < -n)∨(m=n∧¬ n < -n)) (h1:-4611686018427387904≤n) (h2:n≤4611686018427387904) (h3:0<d) (h4:d≤4611686018427387904) (w:World) :
  Calls Tryz.prog 56 #[.int .i64 n,.int .i64 d] w fun e w'=>e=.returned (frV (lowR n d))∧Bl w w':=by
 obtain ⟨W,X⟩:=oneZ_ex w;have HX:=hideP X;clear X;have D:=hideP (divisor_any m d (by omega) (by omega));have L:=lowR_pos n d h3 (Int.gcd m d:Int) (by
  rcases hm with ⟨rfl,_⟩|⟨rfl,_⟩
  ·rw [Int.neg_gcd]
  ·rfl)
 have g0:0<(Int.gcd m d:Int):=by have:=Int.gcd_pos_of_ne_zero_right m (show d≠0 by omega);omega
 have gl:(Int.gcd m d:Int)≤d:=Int.gcd_le_right _ h3;generalize (Int.gcd m d:Int)=g at *;have ey:d.tdiv g=d/g:=Int.tdiv_eq_ediv_of_nonneg (by omega);rw [ey] at L;have y1:1≤d/g:=by
  have:=Int.ediv_le_ediv g0 gl
  rwa [Int.ediv_self (by omega)] at this
 have hd0:(d==0)=false:=by simpa using (show d≠0 by omega)
 have hg0:(g==0)=false:=by simpa using (show g≠0 by omega)
 have hn0:¬ d<0:=by omega
 have ex:m=n→n.tdiv g=n/g:=fun h=>Int.tdiv_eq_ediv_of_nonneg (by omega)
 generalize lowR n d=r at *;obtain ⟨y,hy⟩:∃ y,d/g=y:=⟨_,rfl⟩;rw [hy] at L y1;have HY:=hideP hy;clear hy ey;rcases hm with ⟨rfl,hm⟩|⟨rfl,hm⟩
 ·clear ex;obtain ⟨x,hx⟩:∃ x,n.tdiv g=x:=⟨_,rfl⟩;rw [hx] at L;have HXX:=hideP hx;clear hx;rcases low_two x y y1 r L with ⟨k,rfl⟩|⟨k,k2,rfl⟩|⟨k,k2,rfl⟩
  all_goals
   clear L
   go_enter Tryz.func56,Tryz.ntmps56;go_wp2_with fail
   rw [←HX.out.eq];refine (D.out _).mono ?_;rintro e w1 ⟨rfl,h1⟩;go_wp2
   go_quiet (fail)
   simp only [HXX.out,HY.out];have B1:=h1.trans (drewN_bl nq w1);generalize w1.drewN nq=w2 at *;obtain ⟨c0,c1,c2,f0,f1,f2,lt⟩:=HX.out.bz.later B1
   go_wp2_with (first
    |(go_at_call 54;refine (within_sm _ _).mono ?_;rintro e w' ⟨rfl,rfl⟩)
    |(go_at_call 55;refine (wrongR_any _).mono ?_;rintro e w3 ⟨rfl,h3⟩;obtain ⟨c0,c1,c2,f0,f1,f2,lt⟩:=HX.out.bz.later (B1.trans h3)))
   simp [bodyPost,results,Tryz.results56,go_sem,c0,c1,c2];refine Bl.set3 ?_ (by omega) _ _ _
   first
    |exact HX.out.bl.trans B1
    |exact HX.out.bl.trans (B1.trans h3)
 ·rw [ex rfl] at L;obtain ⟨x,hx⟩:∃ x,m/g=x:=⟨_,rfl⟩;rw [hx] at L;have HXX:=hideP hx;clear hx ex;rcases low_two x y y1 r L with ⟨k,rfl⟩|⟨k,k2,rfl⟩|⟨k,k2,rfl⟩
  all_goals
   clear L
   go_enter Tryz.func56,Tryz.ntmps56;go_wp2_with fail
   rw [←HX.out.eq];refine (D.out _).mono ?_;rintro e w1 ⟨rfl,h1⟩;go_wp2
   go_quiet (fail)
   simp only [HXX.out,HY.out];have B1:=h1.trans (drewN_bl nq w1);generalize w1.drewN nq=w2 at *;obtain ⟨c0,c1,c2,f0,f1,f2,lt⟩:=HX.out.bz.later B1
   go_wp2_with (first
    |(go_at_call 54;refine (within_sm _ _).mono ?_;rintro e w' ⟨rfl,rfl⟩)
    |(go_at_call 55;refine (wrongR_any _).mono ?_;rintro e w3 ⟨rfl,h3⟩;obtain ⟨c0,c1,c2,f0,f1,f2,lt⟩:=HX.out.bz.later (B1.trans h3)))
   simp [bodyPost,results,Tryz.results56,go_sem,c0,c1,c2];refine Bl.set3 ?_ (by omega) _ _ _
   first
    |exact HX.out.bl.trans B1
    |exact HX.out.bl.trans (B1.trans h3)
theorem lowest_zero (n:Int) (w:World) :
  Calls Tryz.prog 56 #[.int .i64 n,.int .i64 0] w fun e w'=>e=.returned (frV (lowR n 0))∧Bl w w':=by
 obtain ⟨W,X⟩:=oneZ_ex w;have HX:=hideP X;clear X;have e:lowR n 0=wrongR:=by unfold lowR;rw [if_pos rfl]
 rw [e];clear e
 go_enter Tryz.func56,Tryz.ntmps56;go_wp2_with fail
 rw [←HX.out.eq];refine (wrongR_any _).mono ?_;rintro e w1 ⟨rfl,h1⟩;obtain ⟨c0,c1,c2,f0,f1,f2,lt⟩:=HX.out.bz.later h1;go_wp2;simp [bodyPost,results,Tryz.results56,go_sem,c0,c1,c2];exact Bl.set3 (HX.out.bl.trans h1) (by omega) _ _ _
theorem tdiv_neg_wrap (n g:Int) (h1:-4611686018427387904≤n) (h2:n≤4611686018427387904):wrap64 (-(n.tdiv g))=(-n).tdiv g:=by
 rw [Int.neg_tdiv];have h:(n.tdiv g).natAbs≤n.natAbs:=by rw [Int.natAbs_tdiv];exact Nat.div_le_self _ _
 exact IntWalk.wrap64_in _ (by omega)
theorem tdiv_one_le (d g:Int) (hg:0<g) (h:g≤d):1≤d.tdiv g:=by
 rw [Int.tdiv_eq_ediv_of_nonneg (by omega)];have:=Int.ediv_le_ediv hg h
 rwa [Int.ediv_self (by omega)] at this
set_option maxHeartbeats 1000000 in
theorem lowest_neg (n d m:Int) (hm:(m=n∧-n<n)∨(m=-n∧¬ -n<n)) (h1:-4611686018427387904≤n) (h2:n≤4611686018427387904) (h3:d<0) (h4:-4611686018427387904≤d) (w:World) :
  Calls Tryz.prog 56 #[.int .i64 n,.int .i64 d] w fun e w'=>e=.returned (frV (lowR n d))∧Bl w w':=by
 obtain ⟨W,X⟩:=oneZ_ex w;have HX:=hideP X;clear X;have D:=hideP (divisor_any m (-d) (by omega) (by omega));have L:=lowR_pos (-n) (-d) (by omega) (Int.gcd m (-d):Int) (by
  rcases hm with ⟨rfl,_⟩|⟨rfl,_⟩
  ·rw [Int.neg_gcd]
  ·rfl)
 rw [←lowR_neg n d h3] at L;have g0:0<(Int.gcd m (-d):Int):=by have:=Int.gcd_pos_of_ne_zero_right m (show -d≠0 by omega);omega
 have gl:(Int.gcd m (-d):Int)≤-d:=Int.gcd_le_right _ (by omega);generalize (Int.gcd m (-d):Int)=g at *;have hd0:(d==0)=false:=by simpa using (show d≠0 by omega)
 have hg0:(g==0)=false:=by simpa using (show g≠0 by omega)
 generalize lowR n d=r at *;have e1:=hideP (tdiv_neg_wrap n g h1 h2);have e2:=hideP (tdiv_neg_wrap d g (by omega) (by omega));have y1:=tdiv_one_le (-d) g g0 gl;obtain ⟨x,hx⟩:∃ x,(-n).tdiv g=x:=⟨_,rfl⟩;obtain ⟨y,hy⟩:∃ y,(-d).tdiv g=y:=⟨_,rfl⟩;rw [hx] at e1 L;rw [hy] at e2 L y1;clear hx hy;rcases low_two x y y1 r L with ⟨k,rfl⟩|⟨k,k2,rfl⟩|⟨k,k2,rfl⟩
 all_goals
  clear L;rcases hm with ⟨rfl,hm⟩|⟨rfl,hm⟩
  all_goals
   go_enter Tryz.func56,Tryz.ntmps56;go_wp2_with fail
   rw [←HX.out.eq];refine (D.out _).mono ?_;rintro e w1 ⟨rfl,h1⟩;go_wp2
   go_quiet (fail)
   simp only [e1.out,e2.out];have B1:=h1.trans (drewN_bl nq w1);generalize w1.drewN nq=w2 at *;obtain ⟨c0,c1,c2,f0,f1,f2,lt⟩:=HX.out.bz.later B1
   go_wp2_with (first
    |(go_at_call 54;refine (within_sm _ _).mono ?_;rintro e w' ⟨rfl,rfl⟩)
    |(go_at_call 55;refine (wrongR_any _).mono ?_;rintro e w3 ⟨rfl,h3⟩;obtain ⟨c0,c1,c2,f0,f1,f2,lt⟩:=HX.out.bz.later (B1.trans h3)))
   simp [bodyPost,results,Tryz.results56,go_sem,c0,c1,c2];refine Bl.set3 ?_ (by omega) _ _ _
   first
    |exact HX.out.bl.trans B1
    |exact HX.out.bl.trans (B1.trans h3)
theorem lowest_any (n d:Int) (h1:-4611686018427387904≤n) (h2:n≤4611686018427387904) (h3:-4611686018427387904≤d) (h4:d≤4611686018427387904) (w:World) :
  Calls Tryz.prog 56 #[.int .i64 n,.int .i64 d] w fun e w'=>e=.returned (frV (lowR n d))∧Bl w w':=by
 rcases (by omega:d<0∨d=0∨0<d) with h|h|h
 ·by_cases hn:-n<n
  ·exact lowest_neg n d n (.inl ⟨rfl,hn⟩) h1 h2 h h3 w
  ·exact lowest_neg n d (-n) (.inr ⟨rfl,hn⟩) h1 h2 h h3 w
 ·subst h;exact lowest_zero n w
 ·by_cases hn:n < -n
  ·exact lowest_mid n d (-n) (.inl ⟨rfl,hn⟩) h1 h2 h h4 w
  ·exact lowest_mid n d n (.inr ⟨rfl,hn⟩) h1 h2 h h4 w
theorem new_any (n d:Int) (w:World) :
  Calls Tryz.prog 17 #[.int .i64 n,.int .i64 d] w fun e w'=>e=.returned (frV (newR n d))∧Bl w w':=by
 obtain ⟨W,X⟩:=oneZ_ex w;have HX:=hideP X;clear X;unfold newR;cases hn:gvB n
 ·go_enter Tryz.func17,Tryz.ntmps17;go_wp2_with fail
  rw [←HX.out.eq];refine (within_gv _ _).mono ?_;rintro e w' ⟨rfl,rfl⟩;go_wp2_with fail
  refine (wrongR_any _).mono ?_;rintro e w1 ⟨rfl,h1⟩;obtain ⟨c0,c1,c2,f0,f1,f2,lt⟩:=HX.out.bz.later h1;go_wp2;simp [bodyPost,results,Tryz.results17,go_sem,c0,c1,c2];exact Bl.set3 (HX.out.bl.trans h1) (by omega) _ _ _
 ·cases hd:gvB d
  ·go_enter Tryz.func17,Tryz.ntmps17;go_wp2_with fail
   rw [←HX.out.eq];refine (within_gv _ _).mono ?_;rintro e w' ⟨rfl,rfl⟩;go_wp2_with fail
   refine (within_gv _ _).mono ?_;rintro e w' ⟨rfl,rfl⟩;go_wp2_with fail
   refine (wrongR_any _).mono ?_;rintro e w1 ⟨rfl,h1⟩;obtain ⟨c0,c1,c2,f0,f1,f2,lt⟩:=HX.out.bz.later h1;go_wp2;simp [bodyPost,results,Tryz.results17,go_sem,c0,c1,c2];exact Bl.set3 (HX.out.bl.trans h1) (by omega) _ _ _
  ·have L:=hideP (lowest_any n d (by have:=gvB_iff.1 hn;omega) (by have:=gvB_iff.1 hn;omega) (by have:=gvB_iff.1 hd;omega) (by have:=gvB_iff.1 hd;omega));generalize lowR n d=r at *
   go_enter Tryz.func17,Tryz.ntmps17;go_wp2_with fail
   rw [←HX.out.eq];refine (within_gv _ _).mono ?_;rintro e w' ⟨rfl,rfl⟩;go_wp2_with fail
   refine (within_gv _ _).mono ?_;rintro e w' ⟨rfl,rfl⟩;go_wp2_with fail
   refine (L.out _).mono ?_;rintro e w1 ⟨rfl,h1⟩;obtain ⟨c0,c1,c2,f0,f1,f2,lt⟩:=HX.out.bz.later h1;go_wp2;simp [bodyPost,results,Tryz.results17,go_sem,c0,c1,c2];exact Bl.set3 (HX.out.bl.trans h1) (by omega) _ _ _
structure Wl (V:World) where
 w:World
 bl:Bl V w
theorem wl_ne (V:World):Nonempty (Wl V):=⟨⟨V,Bl.refl V⟩⟩
theorem wl_region {P:Program} {id:Nat} {Q:Exit→Act→World→Prop} {a:Act} {w:World} {l:List Oper} (V:World) (hV:Bl V w) (hm:P.follows .mixedOrders=true) (hB:Region.lexB .any l.toArray=true)
  (h:wpQuiet P l.toArray (fun w'=>∃ z:Wl V,w'=z.w) (fun a'=>∀ w',(∃ z:Wl V,w'=z.w)→Q .normal a' w') l a):(Code.region id l.toArray true).wp P Q a w:=
 wp_region_quiet (C:=fun w'=>∃ z:Wl V,w'=z.w) hm hB ⟨⟨w.drew,hV.drew⟩,rfl⟩ (by simpa using h)
theorem wl_call {P:Program} {f:FuncId} {args:Array Value} {V:World} {z:Wl V} {v:Value} (h:Calls P f args z.w fun e w'=>e=.returned v∧Bl z.w w') :
  Calls P f args z.w fun e w''=>e=.returned v∧∃ z':Wl V,w''=z'.w:=
 h.mono fun _ w' ⟨he,hb⟩=>⟨he,⟨w',z.bl.trans hb⟩,rfl⟩
theorem enters {f:FuncId} {fn:Func} {c:Code} (hf:Tryz.prog.funcs[f]?=some fn) (hname:(fn.name == "runtime.NumGoroutine")=false) (hb:fn.body=some c) :
  ∀ (args:Array Value) (w:World),(callFunc f args).run Tryz.prog w=.ok (.enter f args) w:=by
 intro args w;have h1:fn.name ≠ "runtime.NumGoroutine" := by simpa using hname
 simp [callFunc,hf,h1,hb,mark]
theorem FBox.wl {V:World} {b:Nat} {x:Fr} (h:FBox V b x):(∀ z:Wl V,z.w.cell? ⟨b,0,none⟩=some (.int .i64 x.n))∧(∀ z:Wl V,z.w.cell? ⟨b,1,none⟩=some (.int .i64 x.d))∧(∀ z:Wl V,z.w.cell? ⟨b,2,none⟩=some (.bool x.bad)):=
 ⟨fun z=>(h.later z.bl).c0,fun z=>(h.later z.bl).c1,fun z=>(h.later z.bl).c2⟩
structure OneA (w W:World) (a:Fr):Prop where
 eq:W=w.alloc (.cells #[.int .i64 a.n,.int .i64 a.d,.bool a.bad] 34)
 bl:Bl w W
 ba:FBox W w.heap.size a
 size:W.heap.size=w.heap.size+1
theorem oneA_ex (w:World) (a:Fr):∃ W,OneA w W a:=⟨_,rfl,(Bl.refl _).alloc _,FBox.new w a _,by simp⟩
def eqR (a b:Fr):Bool:=a.n==b.n&&(a.d==b.d&&a.bad==b.bad)
theorem eqR_iff {a b:Fr}:eqR a b=true↔a=b:=by
 unfold eqR;rw [Bool.and_eq_true,Bool.and_eq_true,beq_iff_eq,beq_iff_eq,beq_iff_eq];constructor
 ·rintro ⟨h1,h2,h3⟩;exact Fr.ext' h1 h2 h3
 ·rintro rfl;exact ⟨rfl,rfl,rfl⟩
theorem Tryz.frFields:Tryz.prog.underlying 34=some (.struct (Tryz.prog.fieldsOf 34)):=by kernel_rfl
theorem Tryz.frHeld:Tryz.prog.stoodInHeld 34=false:=by kernel_rfl
theorem Tryz.frGuard:Tryz.prog.eqGuardType Tryz.prog.depth 34=false:=by kernel_rfl
theorem Tryz.frList:(Tryz.prog.fieldsOf 34).toList.map (fun f=>(f.name,f.type,f.offset))=[("N",3,0),("D",3,1),("Bad",4,2)]:=by kernel_rfl
theorem eqFields_map (d:Nat) (xs ys:Array Value) (fs gs:List Field) (h:fs.map (fun f=>(f.name,f.type,f.offset))=gs.map (fun f=>(f.name,f.type,f.offset))):Op.eqFields d xs ys fs=Op.eqFields d xs ys gs:=by
 induction fs generalizing gs with
 |nil=>cases gs with
  |nil=>rfl
  |cons=>simp at h
 |cons f fs ih=>cases gs with
  |nil=>simp at h
  |cons g gs =>
   simp only [List.map_cons,List.cons.injEq,Prod.mk.injEq] at h;simp only [Op.eqFields];rw [h.1.1,h.1.2.1,h.1.2.2,ih gs h.2]
theorem eql_fr (a b:Fr) (w:World):(binOp .eql 34 (frV a) (frV b)).run Tryz.prog w=.ok (.bool (eqR a b)) w:=by
 rw [run_eql_struct,run_equalIn_agg _ _ _ _ _ Tryz.frFields Tryz.frHeld];rw [eqFields_map 9999 #[.int .i64 a.n,.int .i64 a.d,.bool a.bad] #[.int .i64 b.n,.int .i64 b.d,.bool b.bad] _ [{ name := "N",type:=3,offset:=0,embedded:=false,tag := "",pkgPath := "",byteOffset:=0 },{ name := "D",type:=3,offset:=1,embedded:=false,tag := "",pkgPath := "",byteOffset:=0 },{ name := "Bad",type:=4,offset:=2,embedded:=false,tag := "",pkgPath := "",byteOffset:=0 }] Tryz.frList];cases h1:(a.n==b.n)<;>cases h2:(a.d==b.d)<;>cases h3:(a.bad==b.bad)<;>simp [Op.eqFields,part,go_sem,eqR,h1,h2,h3]
theorem fineR_any (a:Fr) (w:World) :
  Calls Tryz.prog 186 #[frV a] w fun e w'=>e=.returned (.bool (fineR a))∧Bl w w':=by
 obtain ⟨W,X⟩:=oneA_ex w a;have HX:=hideP X;clear X;obtain ⟨n,d,bd⟩:=a;have N:=hideP (new_any n d);obtain ⟨a0,a1,a2⟩:=HX.out.ba.wl;dsimp only at a0 a1 a2;cases bd
 ·have FN:=fine_new (a:=⟨n,d,false⟩) rfl;have FN':fineR ⟨n,d,false⟩=eqR ⟨n,d,false⟩ (newR n d):=by rw [Bool.eq_iff_iff,FN,eqR_iff]
  rw [FN'];clear FN FN';generalize newR n d=r at *;have EG:=Tryz.frGuard;have EQ:=eql_fr ⟨n,d,false⟩ r;generalize eqR ⟨n,d,false⟩ r=b at *
  go_enter Tryz.func186,Tryz.ntmps186;go_wp2_with fail
  rw [←HX.out.eq];have wne:=wl_ne W;refine wl_region W (Bl.refl _) (by kernel_rfl) (by kernel_rfl) ?_
  repeat (go_big_quiet_step (first|(go_at_call 17;exact wl_call (N.out _))))
  refine wpQuiet_nil ?_;intro _ hw';obtain ⟨z,hw''⟩:=hw';subst hw'';clear wne;obtain ⟨w1,h1⟩:=z;dsimp only;clear a0 a1 a2;go_wp2;go_ret;exact ⟨rfl,HX.out.bl.trans h1⟩
 ·go_enter Tryz.func186,Tryz.ntmps186;go_wp2_with fail
  rw [←HX.out.eq];have wne:=wl_ne W;refine wl_region W (Bl.refl _) (by kernel_rfl) (by kernel_rfl) ?_
  repeat (go_big_quiet_step (first|(go_at_call 17;exact wl_call (N.out _))))
  refine wpQuiet_nil ?_;intro _ hw';obtain ⟨z,hw''⟩:=hw';subst hw'';clear wne;obtain ⟨w1,h1⟩:=z;dsimp only;clear a0 a1 a2;go_wp2;go_ret;exact ⟨rfl,HX.out.bl.trans h1⟩
structure ThreeR (w W:World) (a b:Fr):Prop where
 eq:W=((w.alloc (.cells #[.int .i64 a.n,.int .i64 a.d,.bool a.bad] 34)).alloc (.cells #[.int .i64 b.n,.int .i64 b.d,.bool b.bad] 34)).alloc (.cells #[.int .i64 0,.int .i64 0,.bool false] 34)
 bl:Bl w W
 ba:FBox W w.heap.size a
 bb:FBox W (w.heap.size+1) b
 bz:FBox W (w.heap.size+1+1) zeroR
 size:W.heap.size=w.heap.size+1+1+1
theorem threeR_ex (w:World) (a b:Fr):∃ W,ThreeR w W a b:=by
 refine ⟨_,rfl,(((Bl.refl _).alloc _).alloc _).alloc _,(FBox.new w a 34).later (((Bl.refl _).alloc _).alloc _),?_,?_,by simp⟩
 ·have:=(FBox.new (w.alloc (.cells #[.int .i64 a.n,.int .i64 a.d,.bool a.bad] 34)) b 34).later ((Bl.refl _).alloc (.cells #[.int .i64 0,.int .i64 0,.bool false] 34));simpa using this
 ·have:=FBox.new ((w.alloc (.cells #[.int .i64 a.n,.int .i64 a.d,.bool a.bad] 34)).alloc (.cells #[.int .i64 b.n,.int .i64 b.d,.bool b.bad] 34)) zeroR 34;simpa [zeroR] using this
theorem toldR_any (K:Nat) (caps:Array Value) (p q:Int) (a b:Fr) (w:World)
  (eg:∀ (args:Array Value) (w:World),(callFunc K args).run Tryz.prog w=.ok (.enter K args) w)
  (hf:fineR a=true→fineR b=true→∀ w',Bl w w'→Calls Tryz.prog K caps w' fun e w''=>e=.returned (.tuple #[.int .i64 p,.int .i64 q])∧Bl w' w'')
  (hb:fineR a=true→fineR b=true→-4611686018427387904≤p∧p≤4611686018427387904∧-4611686018427387904≤q∧q≤4611686018427387904) :
  Calls Tryz.prog 193 #[frV a,frV b,.func (.func K) #[] caps] w fun e w'=>e=.returned (frV (if fineR a&&fineR b then lowR p q else wrongR))∧Bl w w':=by
 obtain ⟨W,X⟩:=threeR_ex w a b;have HX:=hideP X;clear X;have FA:=hideP (fineR_any a);have FB:=hideP (fineR_any b);cases ha:fineR a
 ·rw [ha] at FA;clear hf hb
  go_enter Tryz.func193,Tryz.ntmps193;go_wp2_with fail
  rw [←HX.out.eq];refine (FA.out _).mono ?_;rintro e w1 ⟨rfl,h1⟩;go_wp2_with fail
  refine (wrongR_any _).mono ?_;rintro e w2 ⟨rfl,h2⟩;obtain ⟨c0,c1,c2,f0,f1,f2,lt⟩:=HX.out.bz.later (h1.trans h2);go_wp2;simp [bodyPost,results,Tryz.results193,go_sem,c0,c1,c2];exact Bl.set3 (HX.out.bl.trans (h1.trans h2)) (by omega) _ _ _
 ·rw [ha] at FA;cases hbb:fineR b
  ·rw [hbb] at FB;clear hf hb
   go_enter Tryz.func193,Tryz.ntmps193;go_wp2_with fail
   rw [←HX.out.eq];refine (FA.out _).mono ?_;rintro e w1 ⟨rfl,h1⟩;obtain ⟨b0,b1,b2,_,_,_,_⟩:=HX.out.bb.later h1;go_wp2_with fail
   refine (FB.out _).mono ?_;rintro e w2 ⟨rfl,h2⟩;go_wp2_with fail
   refine (wrongR_any _).mono ?_;rintro e w3 ⟨rfl,h3⟩;clear b0 b1 b2;obtain ⟨c0,c1,c2,f0,f1,f2,lt⟩:=HX.out.bz.later ((h1.trans h2).trans h3);go_wp2;simp [bodyPost,results,Tryz.results193,go_sem,c0,c1,c2];exact Bl.set3 (HX.out.bl.trans ((h1.trans h2).trans h3)) (by omega) _ _ _
  ·rw [hbb] at FB;have HF:=hideP (hf ha hbb);have HL:=hideP (lowest_any p q (hb ha hbb).1 (hb ha hbb).2.1 (hb ha hbb).2.2.1 (hb ha hbb).2.2.2);clear hf hb;generalize lowR p q=r at *
   go_enter Tryz.func193,Tryz.ntmps193;go_wp2_with fail
   rw [←HX.out.eq];refine (FA.out _).mono ?_;rintro e w1 ⟨rfl,h1⟩;obtain ⟨b0,b1,b2,_,_,_,_⟩:=HX.out.bb.later h1;go_wp2_with fail
   refine (FB.out _).mono ?_;rintro e w2 ⟨rfl,h2⟩;go_wp2_with fail
   refine (HF.out _ (HX.out.bl.trans (h1.trans h2))).mono ?_;rintro e w3 ⟨rfl,h3⟩;go_wp2_with fail
   refine (HL.out _).mono ?_;rintro e w4 ⟨rfl,h4⟩;clear b0 b1 b2;obtain ⟨c0,c1,c2,f0,f1,f2,lt⟩:=HX.out.bz.later (((h1.trans h2).trans h3).trans h4);go_wp2;simp [bodyPost,results,Tryz.results193,go_sem,c0,c1,c2];exact Bl.set3 (HX.out.bl.trans (((h1.trans h2).trans h3).trans h4)) (by omega) _ _ _
theorem mul_part {x y:Int} (hx:-1073741824≤x∧x≤1073741824) (hy:-1073741824≤y∧y≤1073741824):-1152921504606846976≤x*y∧x*y≤1152921504606846976:=by
 have h:(x*y).natAbs≤1073741824*1073741824:=by
  rw [Int.natAbs_mul];exact Nat.mul_le_mul (by omega) (by omega)
 omega
theorem fine_n {a:Fr} (h:fineR a=true):-1073741824≤a.n∧a.n≤1073741824:=by have:=fineR_iff.1 h;omega
theorem fine_dd {a:Fr} (h:fineR a=true):-1073741824≤a.d∧a.d≤1073741824:=by have:=fineR_iff.1 h;omega
theorem wrap_part {x y:Int} (h:-1152921504606846976≤x*y∧x*y≤1152921504606846976):wrap64 (x*y)=x*y:=IntWalk.wrap64_in _ (by omega)
theorem addP_any (a b:Fr) (p q:Nat) (w:World) (ha:fineR a=true) (hb:fineR b=true) (xa:FBox w p a) (xb:FBox w q b) :
  Calls Tryz.prog 194 #[.pointer (some ⟨p,0,none⟩),.pointer (some ⟨q,0,none⟩)] w fun e w'=>e=.returned (.tuple #[.int .i64 (a.n*b.d+b.n*a.d),.int .i64 (a.d*b.d)])∧Bl w w':=by
 have m1:=mul_part (fine_n ha) (fine_dd hb);have m2:=mul_part (fine_n hb) (fine_dd ha);have m3:=mul_part (fine_dd ha) (fine_dd hb);have e1:=wrap_part m1;have e2:=wrap_part m2;have e3:=wrap_part m3;have e4:wrap64 (a.n*b.d+b.n*a.d)=a.n*b.d+b.n*a.d:=IntWalk.wrap64_in _ (by omega);clear m1 m2 m3 ha hb;obtain ⟨a0,a1,a2,_,_,_,_⟩:=xa;obtain ⟨b0,b1,b2,_,_,_,_⟩:=xb
 go_enter Tryz.func194,Tryz.ntmps194;go_wp2
 go_quiet (fail)
 go_wp2
 go_ret2
 refine ⟨?_,drewN_bl _ _⟩;simp [e3,e4]
theorem subP_any (a b:Fr) (p q:Nat) (w:World) (ha:fineR a=true) (hb:fineR b=true) (xa:FBox w p a) (xb:FBox w q b) :
  Calls Tryz.prog 198 #[.pointer (some ⟨p,0,none⟩),.pointer (some ⟨q,0,none⟩)] w fun e w'=>e=.returned (.tuple #[.int .i64 (a.n*b.d-b.n*a.d),.int .i64 (a.d*b.d)])∧Bl w w':=by
 have m1:=mul_part (fine_n ha) (fine_dd hb);have m2:=mul_part (fine_n hb) (fine_dd ha);have m3:=mul_part (fine_dd ha) (fine_dd hb);have e1:=wrap_part m1;have e2:=wrap_part m2;have e3:=wrap_part m3;have e4:wrap64 (a.n*b.d-b.n*a.d)=a.n*b.d-b.n*a.d:=IntWalk.wrap64_in _ (by omega);clear m1 m2 m3 ha hb;obtain ⟨a0,a1,a2,_,_,_,_⟩:=xa;obtain ⟨b0,b1,b2,_,_,_,_⟩:=xb
 go_enter Tryz.func198,Tryz.ntmps198;go_wp2
 go_quiet (fail)
 go_wp2
 go_ret2
 refine ⟨?_,drewN_bl _ _⟩;simp [e3,e4]
theorem mulP_any (a b:Fr) (p q:Nat) (w:World) (ha:fineR a=true) (hb:fineR b=true) (xa:FBox w p a) (xb:FBox w q b) :
  Calls Tryz.prog 196 #[.pointer (some ⟨p,0,none⟩),.pointer (some ⟨q,0,none⟩)] w fun e w'=>e=.returned (.tuple #[.int .i64 (a.n*b.n),.int .i64 (a.d*b.d)])∧Bl w w':=by
 have m1:=mul_part (fine_n ha) (fine_n hb);have m3:=mul_part (fine_dd ha) (fine_dd hb);have e1:=wrap_part m1;have e3:=wrap_part m3;clear m1 m3 ha hb;obtain ⟨a0,a1,a2,_,_,_,_⟩:=xa;obtain ⟨b0,b1,b2,_,_,_,_⟩:=xb
 go_enter Tryz.func196,Tryz.ntmps196;go_wp2
 go_quiet (fail)
 go_wp2
 go_ret2
 refine ⟨?_,drewN_bl _ _⟩;simp [e1,e3]
theorem divP_any (a b:Fr) (p q:Nat) (w:World) (ha:fineR a=true) (hb:fineR b=true) (xa:FBox w p a) (xb:FBox w q b) :
  Calls Tryz.prog 195 #[.pointer (some ⟨p,0,none⟩),.pointer (some ⟨q,0,none⟩)] w fun e w'=>e=.returned (.tuple #[.int .i64 (a.n*b.d),.int .i64 (a.d*b.n)])∧Bl w w':=by
 have m1:=mul_part (fine_n ha) (fine_dd hb);have m3:=mul_part (fine_dd ha) (fine_n hb);have e1:=wrap_part m1;have e3:=wrap_part m3;clear m1 m3 ha hb;obtain ⟨a0,a1,a2,_,_,_,_⟩:=xa;obtain ⟨b0,b1,b2,_,_,_,_⟩:=xb
 go_enter Tryz.func195,Tryz.ntmps195;go_wp2
 go_quiet (fail)
 go_wp2
 go_ret2
 refine ⟨?_,drewN_bl _ _⟩;simp [e1,e3]
theorem addX_eq (a b:Fr):(if fineR a&&fineR b then lowR (a.n*b.d+b.n*a.d) (a.d*b.d) else wrongR)=addR a b:=by
 unfold addR;cases ha:fineR a
 ·rfl
 ·cases hb:fineR b
  ·rfl
  ·simp only [Bool.and_self,if_true];exact low_add ha hb
theorem addX_any (a b:Fr) (p q:Nat) (w:World) (xa:FBox w p a) (xb:FBox w q b) :
  Calls Tryz.prog 193 #[frV a,frV b,.func (.func 194) #[] #[.pointer (some ⟨p,0,none⟩),.pointer (some ⟨q,0,none⟩)]] w fun e w'=>e=.returned (frV (addR a b))∧Bl w w':=by
 rw [←addX_eq]
 exact toldR_any _ _ (a.n*b.d+b.n*a.d) (a.d*b.d) a b w (enters Tryz.func194 (by kernel_rfl) rfl)
  (fun ha hb w' h=>addP_any a b p q w' ha hb (xa.later h) (xb.later h)) (fun ha hb=>by have m1:=mul_part (fine_n ha) (fine_dd hb);have m2:=mul_part (fine_n hb) (fine_dd ha);have m3:=mul_part (fine_dd ha) (fine_dd hb);omega)
theorem radd_any (a b:Fr) (w:World) :
  Calls Tryz.prog 184 #[frV a,frV b] w fun e w'=>e=.returned (frV (addR a b))∧Bl w w':=by
 obtain ⟨W,X⟩:=threeR_ex w a b;have T:=hideP (addX_any a b w.heap.size (w.heap.size+1) W X.ba X.bb);have HX:=hideP X;clear X;generalize addR a b=r at *
 go_enter Tryz.func184,Tryz.ntmps184;go_wp2_with fail
 rw [←HX.out.eq];refine (T.out).mono ?_;rintro e w1 ⟨rfl,h1⟩;obtain ⟨c0,c1,c2,f0,f1,f2,lt⟩:=HX.out.bz.later h1;go_wp2;simp [bodyPost,results,Tryz.results184,go_sem,c0,c1,c2];exact Bl.set3 (HX.out.bl.trans h1) (by omega) _ _ _
theorem subX_eq (a b:Fr):(if fineR a&&fineR b then lowR (a.n*b.d-b.n*a.d) (a.d*b.d) else wrongR)=subR a b:=by
 unfold subR;cases ha:fineR a
 ·rfl
 ·cases hb:fineR b
  ·rfl
  ·simp only [Bool.and_self,if_true];exact low_sub ha hb
theorem subX_any (a b:Fr) (p q:Nat) (w:World) (xa:FBox w p a) (xb:FBox w q b) :
  Calls Tryz.prog 193 #[frV a,frV b,.func (.func 198) #[] #[.pointer (some ⟨p,0,none⟩),.pointer (some ⟨q,0,none⟩)]] w fun e w'=>e=.returned (frV (subR a b))∧Bl w w':=by
 rw [←subX_eq]
 exact toldR_any _ _ (a.n*b.d-b.n*a.d) (a.d*b.d) a b w (enters Tryz.func198 (by kernel_rfl) rfl)
  (fun ha hb w' h=>subP_any a b p q w' ha hb (xa.later h) (xb.later h)) (fun ha hb=>by have m1:=mul_part (fine_n ha) (fine_dd hb);have m2:=mul_part (fine_n hb) (fine_dd ha);have m3:=mul_part (fine_dd ha) (fine_dd hb);omega)
theorem rsub_any (a b:Fr) (w:World) :
  Calls Tryz.prog 192 #[frV a,frV b] w fun e w'=>e=.returned (frV (subR a b))∧Bl w w':=by
 obtain ⟨W,X⟩:=threeR_ex w a b;have T:=hideP (subX_any a b w.heap.size (w.heap.size+1) W X.ba X.bb);have HX:=hideP X;clear X;generalize subR a b=r at *
 go_enter Tryz.func192,Tryz.ntmps192;go_wp2_with fail
 rw [←HX.out.eq];refine (T.out).mono ?_;rintro e w1 ⟨rfl,h1⟩;obtain ⟨c0,c1,c2,f0,f1,f2,lt⟩:=HX.out.bz.later h1;go_wp2;simp [bodyPost,results,Tryz.results192,go_sem,c0,c1,c2];exact Bl.set3 (HX.out.bl.trans h1) (by omega) _ _ _
theorem mulX_eq (a b:Fr):(if fineR a&&fineR b then lowR (a.n*b.n) (a.d*b.d) else wrongR)=mulR a b:=by
 unfold mulR;cases ha:fineR a
 ·rfl
 ·cases hb:fineR b
  ·rfl
  ·simp only [Bool.and_self,if_true];exact low_mul ha hb
theorem mulX_any (a b:Fr) (p q:Nat) (w:World) (xa:FBox w p a) (xb:FBox w q b) :
  Calls Tryz.prog 193 #[frV a,frV b,.func (.func 196) #[] #[.pointer (some ⟨p,0,none⟩),.pointer (some ⟨q,0,none⟩)]] w fun e w'=>e=.returned (frV (mulR a b))∧Bl w w':=by
 rw [←mulX_eq]
 exact toldR_any _ _ (a.n*b.n) (a.d*b.d) a b w (enters Tryz.func196 (by kernel_rfl) rfl)
  (fun ha hb w' h=>mulP_any a b p q w' ha hb (xa.later h) (xb.later h)) (fun ha hb=>by have m1:=mul_part (fine_n ha) (fine_n hb);have m3:=mul_part (fine_dd ha) (fine_dd hb);omega)
theorem rmul_any (a b:Fr) (w:World) :
  Calls Tryz.prog 187 #[frV a,frV b] w fun e w'=>e=.returned (frV (mulR a b))∧Bl w w':=by
 obtain ⟨W,X⟩:=threeR_ex w a b;have T:=hideP (mulX_any a b w.heap.size (w.heap.size+1) W X.ba X.bb);have HX:=hideP X;clear X;generalize mulR a b=r at *
 go_enter Tryz.func187,Tryz.ntmps187;go_wp2_with fail
 rw [←HX.out.eq];refine (T.out).mono ?_;rintro e w1 ⟨rfl,h1⟩;obtain ⟨c0,c1,c2,f0,f1,f2,lt⟩:=HX.out.bz.later h1;go_wp2;simp [bodyPost,results,Tryz.results187,go_sem,c0,c1,c2];exact Bl.set3 (HX.out.bl.trans h1) (by omega) _ _ _
theorem divX_eq (a b:Fr):(if fineR a&&fineR b then lowR (a.n*b.d) (a.d*b.n) else wrongR)=divR a b:=by
 unfold divR;cases ha:fineR a
 ·rfl
 ·cases hb:fineR b
  ·rfl
  ·simp only [Bool.and_self,if_true,Bool.true_and];by_cases h0:b.n=0
   ·rw [if_neg (by simpa using h0)];exact low_div0 h0
   ·rw [if_pos (by simpa using h0)];exact low_div ha hb h0
theorem divX_any (a b:Fr) (p q:Nat) (w:World) (xa:FBox w p a) (xb:FBox w q b) :
  Calls Tryz.prog 193 #[frV a,frV b,.func (.func 195) #[] #[.pointer (some ⟨p,0,none⟩),.pointer (some ⟨q,0,none⟩)]] w fun e w'=>e=.returned (frV (divR a b))∧Bl w w':=by
 rw [←divX_eq]
 exact toldR_any _ _ (a.n*b.d) (a.d*b.n) a b w (enters Tryz.func195 (by kernel_rfl) rfl)
  (fun ha hb w' h=>divP_any a b p q w' ha hb (xa.later h) (xb.later h)) (fun ha hb=>by have m1:=mul_part (fine_n ha) (fine_dd hb);have m3:=mul_part (fine_dd ha) (fine_n hb);omega)
theorem rdiv_any (a b:Fr) (w:World) :
  Calls Tryz.prog 185 #[frV a,frV b] w fun e w'=>e=.returned (frV (divR a b))∧Bl w w':=by
 obtain ⟨W,X⟩:=threeR_ex w a b;have T:=hideP (divX_any a b w.heap.size (w.heap.size+1) W X.ba X.bb);have HX:=hideP X;clear X;generalize divR a b=r at *
 go_enter Tryz.func185,Tryz.ntmps185;go_wp2_with fail
 rw [←HX.out.eq];refine (T.out).mono ?_;rintro e w1 ⟨rfl,h1⟩;obtain ⟨c0,c1,c2,f0,f1,f2,lt⟩:=HX.out.bz.later h1;go_wp2;simp [bodyPost,results,Tryz.results185,go_sem,c0,c1,c2];exact Bl.set3 (HX.out.bl.trans h1) (by omega) _ _ _
structure TwoR (w W:World) (a:Fr):Prop where
 eq:W=(w.alloc (.cells #[.int .i64 a.n,.int .i64 a.d,.bool a.bad] 34)).alloc (.cells #[.int .i64 0,.int .i64 0,.bool false] 34)
 bl:Bl w W
 ba:FBox W w.heap.size a
 bz:FBox W (w.heap.size+1) zeroR
 size:W.heap.size=w.heap.size+1+1
theorem twoR_ex (w:World) (a:Fr):∃ W,TwoR w W a:=by
 refine ⟨_,rfl,((Bl.refl _).alloc _).alloc _,(FBox.new w a 34).later ((Bl.refl _).alloc _),?_,by simp⟩;have:=FBox.new (w.alloc (.cells #[.int .i64 a.n,.int .i64 a.d,.bool a.bad] 34)) zeroR 34;simpa [zeroR] using this
theorem rof_any (a:Fr) (n:Int) (w:World) :
  Calls Tryz.prog 189 #[frV a,.int .i64 n] w fun e w'=>e=.returned (frV (newR n 1))∧Bl w w':=by
 obtain ⟨W,X⟩:=twoR_ex w a;have HX:=hideP X;clear X;have T:=hideP (new_any n 1);generalize newR n 1=r at *
 go_enter Tryz.func189,Tryz.ntmps189;go_wp2_with fail
 rw [←HX.out.eq];refine (T.out _).mono ?_;rintro e w1 ⟨rfl,h1⟩;obtain ⟨c0,c1,c2,f0,f1,f2,lt⟩:=HX.out.bz.later h1;go_wp2;simp [bodyPost,results,Tryz.results189,go_sem,c0,c1,c2];exact Bl.set3 (HX.out.bl.trans h1) (by omega) _ _ _
def zR:Fr:=⟨0,1,false⟩
def negR (a:Fr):Fr:=subR zR a
theorem half16 (r D:Int) (i:Nat) (hi:i<16) (hD:D=2 ^ (15-i)) (hr0:0≤r) (hrm:r % 2 ^ (16-i)=0) (hr3:r+2 ^ (16-i)≤65536) :
  (2:Int) ^ (16-i)=D+D∧1≤D∧r % D=0∧(r+D) % D=0∧bits .or .i64 r (wrap64 (2 ^ (15-i)))=r+D:=by
 have e:(2:Int) ^ (16-i)=D+D:=by
  rw [show 16-i=(15-i)+1 from by omega,Int.pow_succ,←hD];omega
 have hp:(0:Int)<D:=by rw [hD];exact Int.pow_pos (by decide)
 have hd:D ∣ r:=by
  have h1:(D+D) ∣ r:=by rw [←e];exact Int.dvd_of_emod_eq_zero hrm
  obtain ⟨c,hc⟩:=h1;exact ⟨2*c,by rw [hc,Int.add_mul,←Int.mul_assoc,Int.mul_comm D 2];rw [Int.mul_assoc];omega⟩
 refine ⟨e,by omega,Int.emod_eq_zero_of_dvd hd,?_,?_⟩
 ·exact Int.emod_eq_zero_of_dvd (Int.dvd_add hd (Int.dvd_refl D))
 ·rw [e] at hr3;rw [←hD];have hw:wrap64 D=D:=IntWalk.wrap64_in _ (by omega);rw [hw];have e63:(2:Int) ^ 62=4611686018427387904:=by decide
  refine bits_join .i64 62 (by decide) (fun n h h'=>?_) (16-i) r D hr0 hrm (by omega) (by omega) (by omega) (by omega);rw [e63] at h';rw [IntWalk.i64_left];have:=IntWalk.wrap64_in n (by omega);exact this
theorem pow16:∀ j:Nat,j≤16→(2:Int) ^ j≤65536:=by decide
theorem floorNeg_any (n:Int) (h:n<0) (w:World) :
  Calls Tryz.prog 197 #[.int .i64 n] w fun e w'=>e=.returned (.int .i64 0)∧w'=w:=by
 go_enter Tryz.func197,Tryz.ntmps197;go_wp2
 go_loop [3,6] (fun r i=>∃ k:Nat,k≤16∧r=.int .i64 0∧i=.int .i64 k) (fun _ i=>16-(intOf i).toNat)
 case atStart=>exact ⟨0,by omega,rfl,rfl⟩
 case round =>
  obtain ⟨k,hk,rfl,rfl⟩:=hrel;by_cases hlt:k<16
  ·obtain ⟨D,hD⟩:∃ D:Int,D=2 ^ (15-k):=⟨_,rfl⟩;have hle:(2:Int) ^ (16-k)≤65536:=pow16 _ (by omega);obtain ⟨eD,D1,m1,m2,hor⟩:=half16 0 D k hlt hD (by omega) (by simp) (by omega);have hor':bits .or .i64 0 (wrap64 (2 ^ (15-k)))=D:=by rw [hor];omega
   have hDle:D≤65536:=by omega
   have hsq:0≤D*D∧D*D≤65536*65536:=⟨Int.mul_nonneg (by omega) (by omega),Int.mul_le_mul hDle hDle (by omega) (by decide)⟩;have hwr:wrap64 (D*D)=D*D:=IntWalk.wrap64_in _ (by omega);have hno:¬ D*D≤n:=by omega
   clear hor m1 m2 eD hle hsq hD D1 hDle;go_wp2
   go_round
   case rel=>exact ⟨k+1,by omega,rfl,by go_num⟩
   case measure=>simp [intOf];omega
  ·obtain rfl:k=16:=by omega
   go_wp2;go_ret;exact ⟨rfl,rfl⟩
theorem floorR_any (n:Int) (h0:0≤n) (h1:n≤1073741824) (w:World) :
  Calls Tryz.prog 197 #[.int .i64 n] w fun e w'=>e=.returned (.int .i64 (rtF n))∧w'=w:=by
 go_enter Tryz.func197,Tryz.ntmps197;go_wp2
 go_loop [3,6] (fun a b=>∃ (r:Int) (i:Nat),a=.int .i64 r∧b=.int .i64 i∧i≤16∧0≤r∧r % 2 ^ (16-i)=0∧r*r≤n∧n<(r+2 ^ (16-i))*(r+2 ^ (16-i))∧r+2 ^ (16-i)≤65536) (fun _ i=>16-(intOf i).toNat)
 case atStart =>
  have e16:(2:Int) ^ 16=65536:=by decide
  refine ⟨0,0,rfl,rfl,by omega,by omega,by simp,by simpa using h0,?_,?_⟩
  ·rw [show 16-0=16 from rfl,e16];omega
  ·rw [show 16-0=16 from rfl,e16];omega
 case round =>
  obtain ⟨r,i,rfl,rfl,hi,hr0,hrm,hr1,hr2,hr3⟩:=hrel;by_cases hlt:i<16
  ·obtain ⟨D,hD⟩:∃ D:Int,D=2 ^ (15-i):=⟨_,rfl⟩;obtain ⟨eD,D1,m1,m2,hor⟩:=half16 r D i hlt hD hr0 hrm hr3;rw [eD] at hr2 hr3;have HD:=hideP hD;have HN:=hideP (show 16-(i+1)=15-i by omega);have Hm1:=hideP m1;have Hm2:=hideP m2;have Hr2:=hideP hr2;have Hr1:=hideP hr1;have hsq:0≤(r+D)*(r+D)∧(r+D)*(r+D)≤65536*65536:=⟨Int.mul_nonneg (by omega) (by omega),Int.mul_le_mul (by omega) (by omega) (by omega) (by decide)⟩;have hwr:wrap64 ((r+D)*(r+D))=(r+D)*(r+D):=IntWalk.wrap64_in _ (by omega);clear hD hrm eD m1 m2 hr2 hsq hr1;by_cases hc:(r+D)*(r+D)≤n
   ·generalize hmr:r+D=m at *;have HMR:=hideP hmr;clear hmr;go_wp2
    go_round
    case rel =>
     refine ⟨m,i+1,rfl,by go_num,by omega,by have:=HMR.out;omega,?_,hc,?_,?_⟩
     ·rw [HN.out,←HD.out];exact Hm2.out
     ·rw [HN.out,←HD.out,show m+D=r+(D+D) from by have:=HMR.out;omega];exact Hr2.out
     ·rw [HN.out,←HD.out];have:=HMR.out;omega
    case measure=>simp [intOf];omega
   ·generalize hmr:r+D=m at *;have HMR:=hideP hmr;clear hmr;go_wp2
    go_round
    case rel =>
     refine ⟨r,i+1,rfl,by go_num,by omega,hr0,?_,Hr1.out,?_,?_⟩
     ·rw [HN.out,←HD.out];exact Hm1.out
     ·rw [HN.out,←HD.out,HMR.out];omega
     ·rw [HN.out,←HD.out];omega
    case measure=>simp [intOf];omega
  ·obtain rfl:i=16:=by omega
   have H:=root_one n r hr0 hr1 (by simpa using hr2);clear hrm hr1 hr2 hr3;subst H;go_wp2;go_ret;exact ⟨rfl,rfl⟩
def flR (n:Int):Int:=if n<0 then 0 else rtF n
theorem flR_any (n:Int) (h1:n≤1073741824) (w:World) :
  Calls Tryz.prog 197 #[.int .i64 n] w fun e w'=>e=.returned (.int .i64 (flR n))∧w'=w:=by
 unfold flR;by_cases h:n<0
 ·rw [if_pos h];exact floorNeg_any n h w
 ·rw [if_neg h];exact floorR_any n (by omega) h1 w
theorem neq_fr (a b:Fr) (w:World):(binOp .neq 34 (frV a) (frV b)).run Tryz.prog w=.ok (.bool (!eqR a b)) w:=by
 rw [run_neq_struct,run_equalIn_agg _ _ _ _ _ Tryz.frFields Tryz.frHeld];rw [eqFields_map 9999 #[.int .i64 a.n,.int .i64 a.d,.bool a.bad] #[.int .i64 b.n,.int .i64 b.d,.bool b.bad] _ [{ name := "N",type:=3,offset:=0,embedded:=false,tag := "",pkgPath := "",byteOffset:=0 },{ name := "D",type:=3,offset:=1,embedded:=false,tag := "",pkgPath := "",byteOffset:=0 },{ name := "Bad",type:=4,offset:=2,embedded:=false,tag := "",pkgPath := "",byteOffset:=0 }] Tryz.frList];cases h1:(a.n==b.n)<;>cases h2:(a.d==b.d)<;>cases h3:(a.bad==b.bad)<;>simp [Op.eqFields,part,go_sem,eqR,h1,h2,h3]
def tryR (a:Fr):Fr:=⟨flR a.n,flR a.d,false⟩
def rootR (a:Fr):Fr:=if fineR a then (if eqR (mulR (tryR a) (tryR a)) a then tryR a else wrongR) else wrongR
set_option maxRecDepth 100000 in
set_option maxHeartbeats 1000000 in
theorem rroot_any (a:Fr) (w:World) :
  Calls Tryz.prog 190 #[frV a] w fun e w'=>e=.returned (frV (rootR a))∧Bl w w':=by
 obtain ⟨W,X⟩:=twoR_ex w a;have HX:=hideP X;clear X;have T:=hideP (fineR_any a);unfold rootR;cases hf:fineR a
 ·rw [hf] at T
  go_enter Tryz.func190,Tryz.ntmps190;go_wp2_with fail
  rw [←HX.out.eq];refine (T.out _).mono ?_;rintro e w1 ⟨rfl,h1⟩;go_wp2_with fail
  refine (wrongR_any _).mono ?_;rintro e w2 ⟨rfl,h2⟩;obtain ⟨c0,c1,c2,f0,f1,f2,lt⟩:=HX.out.bz.later (h1.trans h2);go_wp2;simp [bodyPost,results,Tryz.results190,go_sem,c0,c1,c2];exact Bl.set3 (HX.out.bl.trans (h1.trans h2)) (by omega) _ _ _
 ·rw [hf] at T;have R1:=hideP (flR_any a.n (fine_n hf).2);have R2:=hideP (flR_any a.d (fine_dd hf).2);have M:=hideP (rmul_any (tryR a) (tryR a));have NQ:=neq_fr (mulR (tryR a) (tryR a)) a;have EG:=Tryz.frGuard;generalize mulR (tryR a) (tryR a)=m at *;obtain ⟨x,hx⟩:∃ x,flR a.n=x:=⟨_,rfl⟩;obtain ⟨y,hy⟩:∃ y,flR a.d=y:=⟨_,rfl⟩;have hr:tryR a=⟨x,y,false⟩:=by unfold tryR;rw [hx,hy]
  rw [hr] at M ⊢;rw [hx] at R1;rw [hy] at R2;clear hx hy hr
  go_enter Tryz.func190,Tryz.ntmps190;go_wp2_with fail
  rw [←HX.out.eq];refine (T.out _).mono ?_;rintro e w1 ⟨rfl,h1⟩;have KP:=hideP (fun w' (h:Bl w1 w')=>HX.out.ba.later (h1.trans h));go_wp2_with fail
  go_region_held3 (fun w'=>w'.cell? ⟨w.heap.size,0,none⟩=some (.int .i64 a.n)∧w'.cell? ⟨w.heap.size,1,none⟩=some (.int .i64 a.d)) (exact ⟨(KP.out _ (by repeat (first|exact Bl.refl _|apply Bl.drew|apply Bl.alloc))).c0,(KP.out _ (by repeat (first|exact Bl.refl _|apply Bl.drew|apply Bl.alloc))).c1⟩)
   (first
    |(go_at_call_of 197 #[Value.int .i64 a.n];refine (R1.out _).mono ?_;rintro e w' ⟨rfl,rfl⟩)
    |(go_at_call_of 197 #[Value.int .i64 a.d];refine (R2.out _).mono ?_;rintro e w' ⟨rfl,rfl⟩))
  all_goals
   obtain ⟨V,hV⟩:∃ V,V=(w1.alloc (Obj.cells #[Value.int .i64 x,Value.int .i64 y,Value.bool false] 34)).drew:=⟨_,rfl⟩;have bV:Bl w1 V:=by rw [hV];exact ((Bl.refl _).alloc _).drew
   have xr:FBox V w1.heap.size ⟨x,y,false⟩:=by rw [hV];exact (FBox.new w1 ⟨x,y,false⟩ 34).later ((Bl.refl _).drew)
   have xa:=HX.out.ba.later (h1.trans bV);have xz:=HX.out.bz.later (h1.trans bV);rw [←hV];have HB:=hideP (HX.out.bl.trans (h1.trans bV));have XZ:=hideP xz;have XR:=hideP xr;obtain ⟨a0,a1,a2⟩:=xa.wl;obtain ⟨r0,r1,r2⟩:=xr.wl;clear hV bV xr xa xz KP;dsimp only at r0 r1 r2;go_wp2_with fail
   have wne:=wl_ne V;refine wl_region V (Bl.refl _) (by kernel_rfl) (by kernel_rfl) ?_
   repeat (go_big_quiet_step (first|(go_at_call 187;exact wl_call (M.out _))))
   refine wpQuiet_nil ?_;intro _ hw';obtain ⟨z,hw''⟩:=hw';subst hw'';clear wne;obtain ⟨w2,h2⟩:=z;dsimp only;clear a0 a1 a2 r0 r1 r2;cases he:eqR m a
   ·simp only [he,Bool.not_false];go_wp2_with fail
    refine (wrongR_any _).mono ?_;rintro e w3 ⟨rfl,h3⟩;obtain ⟨c0,c1,c2,f0,f1,f2,lt⟩:=XZ.out.later (h2.trans h3);go_wp2;simp [bodyPost,results,Tryz.results190,go_sem,c0,c1,c2];exact Bl.set3 (HB.out.trans (h2.trans h3)) (by omega) _ _ _
   ·simp only [he,Bool.not_true];obtain ⟨r0,r1,r2,_,_,_,_⟩:=XR.out.later h2;obtain ⟨c0,c1,c2,f0,f1,f2,lt⟩:=XZ.out.later h2;dsimp only at r0 r1 r2;go_wp2;simp [bodyPost,results,Tryz.results190,go_sem,c0,c1,c2];exact Bl.set3 (HB.out.trans h2) (by omega) _ _ _
theorem addR_fine {a b:Fr} (ha:fineR a=true) (hb:fineR b=true):addR a b=ofQ (toQ a+toQ b):=by unfold addR;rw [ha,hb];rfl
theorem subR_fine {a b:Fr} (ha:fineR a=true) (hb:fineR b=true):subR a b=ofQ (toQ a-toQ b):=by unfold subR;rw [ha,hb];rfl
theorem mulR_fine {a b:Fr} (ha:fineR a=true) (hb:fineR b=true):mulR a b=ofQ (toQ a*toQ b):=by unfold mulR;rw [ha,hb];rfl
theorem divR_fine {a b:Fr} (ha:fineR a=true) (hb:fineR b=true) (h0:b.n≠0):divR a b=ofQ (toQ a/toQ b):=by
 unfold divR;rw [ha,hb,decide_eq_true h0];rfl
theorem toQ_ne {b:Fr} (hb:fineR b=true) (h0:b.n≠0):toQ b≠0:=by
 intro h;have:=(toQ_parts hb).1;rw [h] at this;exact h0 this.symm
def Rw {α:Type} (s:Nat) (c:α→List Value) (w:World) (v:Value) (xs:List α):Prop:=
 (v=.slice none 0 0∧xs=[])∨∃ b o cap,v=.slice (some ⟨b,o,none⟩) xs.length cap∧xs.length≤cap∧b<w.heap.size ∧
  ∀ j x,xs[j]?=some x→∀ k u,(c x)[k]?=some u→w.cell? ⟨b,o+j*s+k,none⟩=some u
theorem Rw.later {α:Type} {s:Nat} {c:α→List Value} {w w':World} {v:Value} {xs:List α} (h:Rw s c w v xs) (k:Bl w w'):Rw s c w' v xs:=by
 rcases h with h|⟨b,o,cap,e,hc,hb,hx⟩
 ·exact .inl h
 ·exact .inr ⟨b,o,cap,e,hc,Nat.lt_of_lt_of_le hb (Below.size k),fun j x hj i u hu=>(bl_cell k _ _ hb).trans (hx j x hj i u hu)⟩
theorem Rw.of_own {α:Type} {s:Nat} {c:α→List Value} (hs:∀ x,(c x).length=s) {w:World} {B:Nat} {e:TypeId} {v:Value} {xs:List α}
  (h:w.ownsRow B e s v xs.length (xs.flatMap c)):Rw s c w v xs:=by
 have hlt:=h.lt;have hc:∀ g,v.ownBlock=some g→∀ j u,(xs.flatMap c)[j]?=some u→w.cell? ((⟨g,0,none⟩:Addr).add j)=some u:=fun g hg=>h.cells hg
 rcases h.2 with ⟨rfl,e0⟩|⟨g,cap,cur,rfl,hb,_,hn,hm,hz,ht⟩
 ·exact .inl ⟨rfl,List.eq_nil_of_length_eq_zero e0⟩
 ·refine .inr ⟨g,0,cap,rfl,hn,(hlt g rfl).2,fun j x hj k u hu=>?_⟩;have hf:(xs.flatMap c)[j*s+k]?=some u:=by
   clear hlt hc ht hz hm hn hb h
   induction xs generalizing j with
   |nil=>simp at hj
   |cons y ys ih =>
    rw [List.flatMap_cons];cases j with
    |zero =>
     simp at hj;subst hj;rw [Nat.zero_mul,Nat.zero_add,List.getElem?_append_left (by have:=(List.getElem?_eq_some_iff.1 hu).1;omega)];exact hu
    |succ j =>
     rw [List.getElem?_append_right (by rw [hs,Nat.add_mul];omega),hs];have:=ih j (by simpa using hj);rw [show (j+1)*s+k-s=j*s+k by rw [Nat.add_mul];omega];exact this
  have:=hc g rfl _ u hf;have hadd:(⟨g,0,none⟩:Addr).add (j*s+k)=⟨g,j*s+k,none⟩:=by unfold Addr.add;split<;>simp_all
  rw [hadd] at this;simpa using this
theorem flat_at {α:Type} {s:Nat} {c:α→List Value} (hs:∀ x,(c x).length=s) (xs:List α) (j:Nat) (u:Value) (h:(xs.flatMap c)[j]?=some u):∃ i x k,xs[i]?=some x∧(c x)[k]?=some u∧j=i*s+k:=by
 induction xs generalizing j with
 |nil=>simp at h
 |cons y ys ih =>
  rw [List.flatMap_cons] at h;by_cases hj:j<s
  ·rw [List.getElem?_append_left (by rw [hs];exact hj)] at h;exact ⟨0,y,j,by simp,h,by simp⟩
  ·rw [List.getElem?_append_right (by rw [hs];omega),hs] at h;obtain ⟨i,x,k,h1,h2,h3⟩:=ih _ h;exact ⟨i+1,x,k,by simpa using h1,h2,by rw [Nat.add_mul];omega⟩
theorem flat_len {α:Type} {s:Nat} {c:α→List Value} (hs:∀ x,(c x).length=s) (xs:List α):(xs.flatMap c).length=xs.length*s:=by
 induction xs with
 |nil=>simp
 |cons y ys ih=>rw [List.flatMap_cons,List.length_append,ih,hs,List.length_cons,Nat.add_mul];omega
theorem flat_cells {α:Type} {s:Nat} {c:α→List Value} (hs:∀ x,(c x).length=s) {w:World} {b o:Nat} {xs:List α}
  (hx:∀ j x,xs[j]?=some x→∀ k u,(c x)[k]?=some u→w.cell? ⟨b,o+j*s+k,none⟩=some u):∀ j u,(xs.flatMap c)[j]?=some u→w.cell? ((⟨b,o,none⟩:Addr).add j)=some u:=by
 intro j u hu;obtain ⟨i,x,k,h1,h2,rfl⟩:=flat_at hs xs j u hu;have hadd:(⟨b,o,none⟩:Addr).add (i*s+k)=⟨b,o+(i*s+k),none⟩:=by unfold Addr.add;split<;>simp_all
 rw [hadd,←Nat.add_assoc];exact hx i x h1 k u h2
theorem Rw_cells_later {α:Type} {s:Nat} {c:α→List Value} {w w':World} {b o:Nat} {xs:List α} (hx:∀ j x,xs[j]?=some x→∀ k u,(c x)[k]?=some u→w.cell? ⟨b,o+j*s+k,none⟩=some u) (hb:b<w.heap.size) (k:Bl w w') :
  ∀ j x,xs[j]?=some x→∀ k u,(c x)[k]?=some u→w'.cell? ⟨b,o+j*s+k,none⟩=some u:=fun j x hj i u hu=>(bl_cell k _ _ hb).trans (hx j x hj i u hu)
def Fresh (n:Nat) (v:Value):Prop:=∀ g,v.ownBlock=some g→n≤g
theorem Rw.set {α:Type} {s:Nat} {c:α→List Value} {w:World} {v:Value} {xs:List α} (h:Rw s c w v xs) {p:Addr} (u:Value) (hf:Fresh (p.block+1) v):Rw s c (w.setCell p u) v xs:=by
 rcases h with h|⟨b,o,cap,rfl,hc,hb,hx⟩
 ·exact .inl h
 ·have hne:p.block+1≤b:=hf b rfl;have hk:(w.setCell p u).heap[b]?=w.heap[b]?:=Below.heap_setCell _ _ _ b (by omega);exact .inr ⟨b,o,cap,rfl,hc,by simpa using hb,fun j x hj k v hv=>(World.cell?_of_block (a:=⟨b,o+j*s+k,none⟩) hk).trans (hx j x hj k v hv)⟩
theorem Rw.cut {α:Type} {s:Nat} {c:α→List Value} {w:World} {v:Value} {xs:List α} (h:Rw s c w v xs) :
  ∃ p cap,v=.slice p xs.length cap∧xs.length≤cap∧∀ m,m≤xs.length→Rw s c w (.slice p m cap) (xs.take m):=by
 rcases h with ⟨rfl,rfl⟩|⟨b,o,cap,rfl,hc,hb,hx⟩
 ·exact ⟨none,0,rfl,Nat.le_refl _,fun m hm=>by
   have hm0:m=0:=by simpa using hm
   subst hm0;exact .inl ⟨rfl,rfl⟩⟩
 ·refine ⟨some ⟨b,o,none⟩,cap,rfl,hc,fun m hm=>.inr ⟨b,o,cap,by simp [hm],by simp;omega,hb,fun j x hj k u hu=>hx j x ?_ k u hu⟩⟩;rw [List.getElem?_take] at hj;split at hj
  ·exact hj
  ·cases hj
structure TwoS (w W:World) (va vb:Value) (t:TypeId):Prop where
 eq:W=(w.alloc (.cells #[va] t)).alloc (.cells #[vb] t)
 bl:Bl w W
 size:W.heap.size=w.heap.size+1+1
 k:∀ u,Bl W u→u.cell? ⟨w.heap.size,0,none⟩=some va∧u.cell? ⟨w.heap.size+1,0,none⟩=some vb∧u.frozen? ⟨w.heap.size,0,none⟩=false∧u.frozen? ⟨w.heap.size+1,0,none⟩=false
theorem twoS_ex (w:World) (va vb:Value) (t:TypeId):∃ W,TwoS w W va vb t:=by
 refine ⟨_,rfl,((Bl.refl _).alloc _).alloc _,by simp,fun u hu=>⟨?_,?_,?_,?_⟩⟩
 ·rw [bl_cell hu _ _ (by simp;omega)];simp [go_sem]
 ·rw [bl_cell hu _ _ (by simp)];simp [go_sem]
 ·rw [bl_froz hu _ _ (by simp;omega)];simp [go_sem]
 ·rw [bl_froz hu _ _ (by simp)];simp [go_sem]
structure Span (lo hi:Nat) (w w':World):Prop where
 size:w.heap.size≤w'.heap.size
 block:∀ k,lo≤k→k<hi→w'.heap[k]?=w.heap[k]?
theorem Span.refl (lo hi:Nat) (w:World):Span lo hi w w:=⟨Nat.le_refl _,fun _ _ _=>rfl⟩
theorem Span.trans {lo hi:Nat} {a b c:World} (h:Span lo hi a b) (k:Span lo hi b c):Span lo hi a c:=⟨Nat.le_trans h.size k.size,fun i h1 h2=>(k.block i h1 h2).trans (h.block i h1 h2)⟩
theorem Bl.span {lo hi:Nat} {w w':World} (h:Bl w w') (hh:hi≤w.heap.size):Span lo hi w w':=⟨Below.size h,fun k _ h2=>Below.block h k (by omega)⟩
theorem Span.cell {lo hi:Nat} {w w':World} (h:Span lo hi w w') (b o:Nat) (h1:lo≤b) (h2:b<hi):w'.cell? ⟨b,o,none⟩=w.cell? ⟨b,o,none⟩:=World.cell?_of_block (a:=⟨b,o,none⟩) (h.block b h1 h2)
def PairsIn {α:Type} (s:Nat) (c:α→List Value) (w:World) (lo hi A B:Nat) (xs ys:List α):Prop:=
 ∃ u v,lo≤A∧A<hi∧lo≤B∧B<hi∧w.cell? ⟨A,0,none⟩=some u∧w.cell? ⟨B,0,none⟩=some v∧Rw s c w u xs∧Rw s c w v ys∧(∀ g,u.ownBlock=some g→lo≤g∧g<hi)∧(∀ g,v.ownBlock=some g→lo≤g∧g<hi)∧xs.length=ys.length
theorem Rw.span {α:Type} {s:Nat} {c:α→List Value} {w w':World} {v:Value} {xs:List α} {lo hi:Nat} (h:Rw s c w v xs) (hf:∀ g,v.ownBlock=some g→lo≤g∧g<hi) (k:Span lo hi w w'):Rw s c w' v xs:=by
 rcases h with h|⟨b,o,cap,rfl,hc,hb,hx⟩
 ·exact .inl h
 ·have hne:=hf b rfl;exact .inr ⟨b,o,cap,rfl,hc,Nat.lt_of_lt_of_le hb k.size,fun j x hj i v hv=>(k.cell b _ hne.1 hne.2).trans (hx j x hj i v hv)⟩
theorem PairsIn.later {α:Type} {s:Nat} {c:α→List Value} {w w':World} {lo hi A B:Nat} {xs ys:List α} (h:PairsIn s c w lo hi A B xs ys) (k:Span lo hi w w'):PairsIn s c w' lo hi A B xs ys:=by
 obtain ⟨u,v,a1,a2,b1,b2,cu,cv,ru,rv,fu,fv,hl⟩:=h;exact ⟨u,v,a1,a2,b1,b2,(k.cell _ _ a1 a2).trans cu,(k.cell _ _ b1 b2).trans cv,ru.span fu k,rv.span fv k,fu,fv,hl⟩
theorem Rw.lt {α:Type} {s:Nat} {c:α→List Value} {w:World} {v:Value} {xs:List α} (h:Rw s c w v xs):∀ g,v.ownBlock=some g→g<w.heap.size:=by
 rcases h with ⟨rfl,rfl⟩|⟨b,o,cap,rfl,hc,hb,hx⟩
 ·nofun
 ·intro g hg;cases hg;exact hb
theorem flat_one {α:Type} {c:α→List Value} (h1:∀ x,∀ u∈c x,u.oneCell'=true) (xs:List α):∀ u∈xs.flatMap c,u.oneCell'=true:=by
 intro u hu;obtain ⟨x,_,hx⟩:=List.mem_flatMap.1 hu;exact h1 x u hx
def Rq {α:Type} (s:Nat) (c:α→List Value) (w:World) (v:Value) (xs:List α):Prop:=
 (∃ p cap,v=.slice p 0 cap∧xs=[]∧(p=none→cap=0))∨∃ b o cap,v=.slice (some ⟨b,o,none⟩) xs.length cap∧xs.length≤cap∧b<w.heap.size ∧
  ∀ j x,xs[j]?=some x→∀ k u,(c x)[k]?=some u→w.cell? ⟨b,o+j*s+k,none⟩=some u
theorem Rw.q {α:Type} {s:Nat} {c:α→List Value} {w:World} {v:Value} {xs:List α} (h:Rw s c w v xs):Rq s c w v xs:=by
 rcases h with ⟨rfl,rfl⟩|h
 ·exact .inl ⟨none,0,rfl,rfl,fun _=>rfl⟩
 ·exact .inr h
theorem Rq.later {α:Type} {s:Nat} {c:α→List Value} {w w':World} {v:Value} {xs:List α} (h:Rq s c w v xs) (k:Bl w w'):Rq s c w' v xs:=by
 rcases h with h|⟨b,o,cap,e,hc,hb,hx⟩
 ·exact .inl h
 ·exact .inr ⟨b,o,cap,e,hc,Nat.lt_of_lt_of_le hb (Below.size k),fun j x hj i u hu=>(bl_cell k _ _ hb).trans (hx j x hj i u hu)⟩
theorem Rq.cut {α:Type} {s:Nat} {c:α→List Value} {w:World} {v:Value} {xs:List α} (h:Rq s c w v xs) :
  ∃ p cap,v=.slice p xs.length cap∧xs.length≤cap∧∀ m,m≤xs.length→Rq s c w (.slice p m cap) (xs.take m):=by
 rcases h with ⟨p,cap,rfl,rfl,hp⟩|⟨b,o,cap,rfl,hc,hb,hx⟩
 ·exact ⟨p,cap,rfl,Nat.zero_le _,fun m hm=>by
   have hm0:m=0:=by simpa using hm
   subst hm0;exact .inl ⟨p,cap,rfl,rfl,hp⟩⟩
 ·refine ⟨some ⟨b,o,none⟩,cap,rfl,hc,fun m hm=>.inr ⟨b,o,cap,by simp [hm],by simp;omega,hb,fun j x hj k u hu=>hx j x ?_ k u hu⟩⟩;rw [List.getElem?_take] at hj;split at hj
  ·exact hj
  ·cases hj
theorem Tryz.mOfF (x:Value) (w:World):(method 327 34 x "Of").run Tryz.prog w=.ok (189,x) w:=by kernel_rfl
theorem Tryz.mAddF (x:Value) (w:World):(method 327 34 x "Add").run Tryz.prog w=.ok (184,x) w:=by kernel_rfl
theorem Tryz.mSubF (x:Value) (w:World):(method 327 34 x "Sub").run Tryz.prog w=.ok (192,x) w:=by kernel_rfl
theorem Tryz.mMulF (x:Value) (w:World):(method 327 34 x "Mul").run Tryz.prog w=.ok (187,x) w:=by kernel_rfl
theorem Tryz.info_F:(Tryz.prog.info? 34).map (fun i=>(i.zero,i.size,i.bytes))=some (some (.agg #[.int .i64 0,.int .i64 0,.bool false]),3,24):=by kernel_rfl
def cellsF (x:Fr):List Value:=[.int .i64 x.n,.int .i64 x.d,.bool x.bad]
theorem cellsF_len (x:Fr):(cellsF x).length=3:=rfl
theorem FBox.fill {u:World} {p:Nat} {r:Fr} (h:FBox u p r) (x:Fr):FBox (((u.setCell ⟨p,0,none⟩ (.int .i64 x.n)).setCell ⟨p,1,none⟩ (.int .i64 x.d)).setCell ⟨p,2,none⟩ (.bool x.bad)) p x:=by
 obtain ⟨c0,c1,c2,f0,f1,f2,lt⟩:=h;refine ⟨?_,?_,?_,?_,?_,?_,?_⟩<;>simp [go_sem, *]
theorem FBox.oth {u:World} {p q:Nat} {r:Fr} (h:FBox u p r) (hne:p≠q) (y0 y1 y2:Value):FBox (((u.setCell ⟨q,0,none⟩ (y0)).setCell ⟨q,1,none⟩ (y1)).setCell ⟨q,2,none⟩ (y2)) p r:=by
 obtain ⟨c0,c1,c2,f0,f1,f2,lt⟩:=h;have hne':=hne.symm;refine ⟨?_,?_,?_,?_,?_,?_,?_⟩<;>simp [go_sem, *]
theorem vwholeF (n:Int) (w:World) :
  Calls Tryz.prog 53 #[.int .i64 n] w fun e w'=>e=.returned (frV (newR n 1))∧Bl w w':=by
 have iv:=Tryz.mOfF;obtain ⟨W,hW⟩:∃ W,W=(w.alloc (.cells #[.int .i64 0,.int .i64 0,.bool false] 34)).alloc (.cells #[.int .i64 0,.int .i64 0,.bool false] 34):=⟨_,rfl⟩;have b0:Bl w W:=by rw [hW];exact ((Bl.refl _).alloc _).alloc _
 have x0:FBox W w.heap.size zeroR:=by rw [hW];exact (FBox.new w zeroR _).later ((Bl.refl _).alloc _)
 have HW:=hideP hW;clear hW;have OF:=hideP (rof_any zeroR n);generalize (newR n 1)=r at *
 go_enter Tryz.func53,Tryz.ntmps53;go_wp2_with fail
 rw [←HW.out];refine (OF.out _).mono ?_;rintro e w1 ⟨rfl,h1⟩;obtain ⟨c0,c1,c2,f0,f1,f2,lt⟩:=x0.later h1;clear iv;go_wp2;simp [bodyPost,results,Tryz.results53,go_sem,c0,c1,c2];exact Bl.set3 (b0.trans h1) (Nat.le_refl _) _ _ _
def sumF (xs:List Fr):Fr:=xs.foldl addR (newR 0 1)
theorem sumF_snoc (xs:List Fr) (k:Nat) (x:Fr) (h:xs[k]?=some x):sumF (xs.take (k+1))=addR (sumF (xs.take k)) x:=by
 unfold sumF;rw [List.take_add_one,h];simp
set_option maxHeartbeats 1000000 in
theorem vsumF (v:Value) (xs:List Fr) (w:World) (h:Rq 3 cellsF w v xs) (hl:xs.length≤1000000) :
  Calls Tryz.prog 92 #[v] w fun e w'=>e=.returned (frV (sumF xs))∧Bl w w':=by
 have iv:=Tryz.mAddF;obtain ⟨W,hW⟩:∃ W,W=w.alloc (.cells #[.int .i64 0,.int .i64 0,.bool false] 34):=⟨_,rfl⟩;have b0:Bl w W:=by rw [hW];exact (Bl.refl _).alloc _
 have x0:FBox W w.heap.size zeroR:=by rw [hW];exact FBox.new w zeroR _
 have HW:=hideP hW;clear hW;rcases h with ⟨p,cap,rfl,rfl,hpn⟩|⟨b,o,cap,rfl,hc,hb,hx⟩
 ·go_enter Tryz.func92,Tryz.ntmps92;go_wp2_with fail
  rw [←HW.out];refine (vwholeF 0 _).mono ?_;rintro e w1 ⟨rfl,h1⟩;go_wp2_with fail
  go_loopw [9] (fun i wr=>i=.int .i64 0∧FBox wr w1.heap.size (sumF [])∧FBox wr w.heap.size zeroR∧Bl w wr) (fun i _=>0)
  case atStart=>exact ⟨rfl,FBox.new w1 (newR 0 1) _,(x0.later h1).later ((Bl.refl _).alloc _),(b0.trans h1).alloc _⟩
  case round =>
   obtain ⟨rfl,bs,bz,bl⟩:=hrel;obtain ⟨c0,c1,c2,f0,f1,f2,lt⟩:=bs;obtain ⟨d0,d1,d2,g0,g1,g2,zlt⟩:=bz;go_wp2;simp [bodyPost,results,Tryz.results92,go_sem,d0,d1,d2];exact Bl.set3 bl (Nat.le_refl _) _ _ _
 ·have HX:=hideP hx;clear hx
  go_enter Tryz.func92,Tryz.ntmps92;go_wp2_with fail
  rw [←HW.out];refine (vwholeF 0 _).mono ?_;rintro e w1 ⟨rfl,h1⟩;generalize hz:(newR 0 1)=z at *;go_wp2_with fail
  go_loopw [9] (fun i wr=>∃ k:Nat,i=.int .i64 k∧k≤xs.length∧FBox wr w1.heap.size (sumF (xs.take k))∧FBox wr w.heap.size zeroR∧Bl w wr) (fun i _=>xs.length-(intOf i).toNat)
  case atStart =>
   refine ⟨0,rfl,Nat.zero_le _,?_,(x0.later h1).later ((Bl.refl _).alloc _),(b0.trans h1).alloc _⟩;have:sumF (xs.take 0)=z:=by rw [←hz];rfl
   rw [this];exact FBox.new w1 z _
  case round =>
   obtain ⟨k,rfl,hk,bs,bz,bl⟩:=hrel;by_cases hlt:k<xs.length
   ·obtain ⟨x,hx⟩:∃ x,xs[k]?=some x:=⟨_,List.getElem?_eq_getElem hlt⟩;obtain ⟨c0,c1,c2,f0,f1,f2,lt⟩:=bs;have CX:∀ j u,(cellsF x)[j]?=some u→wr.cell? ⟨b,o+k*3+j,none⟩=some u:=fun j u hu=>(bl_cell bl _ _ hb).trans (HX.out k x hx j u hu)
    have y0:wr.cell? ⟨b,o+k*3,none⟩=some (.int .i64 x.n):=CX 0 _ rfl;have y1:wr.cell? ⟨b,o+k*3+1,none⟩=some (.int .i64 x.d):=CX 1 _ rfl;have y2:wr.cell? ⟨b,o+k*3+2,none⟩=some (.bool x.bad):=CX 2 _ rfl;clear CX;go_wp2_with fail
    refine (radd_any _ _ _).mono ?_;rintro e w2 ⟨rfl,h2⟩;have bl2:Bl wr w2:=((Bl.refl _).alloc _).trans h2;have bs2:=(⟨c0,c1,c2,f0,f1,f2,lt⟩:FBox wr w1.heap.size (sumF (xs.take k))).later bl2;have bz2:=bz.later bl2;clear c0 c1 c2 f0 f1 f2 y0 y1 y2;obtain ⟨c0,c1,c2,f0,f1,f2,lt2⟩:=id bs2;have SN:=hideP (sumF_snoc xs k x hx);generalize hS:addR (sumF (xs.take k)) x=S at *;go_wp2;go_roundw
    case rel =>
     refine ⟨k+1,by simp,hlt,?_,?_,?_⟩
     ·rw [SN.out];exact bs2.fill S
     ·exact bz2.oth (by have:=b0.size;have:=h1.size;have:=x0.lt;omega) _ _ _
     ·exact Bl.set3 (bl.trans bl2) (by have:=b0.size;have:=h1.size;omega) _ _ _
    case measure=>simp [intOf];omega
   ·have hk':k=xs.length:=by omega
    subst hk';rw [List.take_length] at bs;obtain ⟨c0,c1,c2,f0,f1,f2,lt⟩:=bs;obtain ⟨d0,d1,d2,g0,g1,g2,zlt⟩:=bz;go_wp2;simp [bodyPost,results,Tryz.results92,go_sem,d0,d1,d2];exact Bl.set3 bl (Nat.le_refl _) _ _ _
theorem ownF_step {w wr w1:World} {v v':Value} {xs:List Fr} {x:Fr} {o:Obj} (hb:Bl w wr) (hown:wr.ownsRow w.heap.size 34 3 v xs.length (xs.flatMap cellsF))
  (hown':w1.ownsRow w.heap.size 34 3 v' (xs.length+1) (xs.flatMap cellsF++cellsF x)) (hg:(wr.alloc o).grownBy w1 v.ownBlock) :
  Bl w w1∧w1.ownsRow w.heap.size 34 3 v' (xs++[x]).length ((xs++[x]).flatMap cellsF):=by
 refine ⟨Below.grown (Below.alloc hb hb.size o) hg (by have:=hb.size;simp;omega) (fun k hk=>(hown.lt k hk).1),?_⟩;simpa [List.flatMap_append] using hown'
theorem own_blF {w w':World} {B n:Nat} {v:Value} {l:List Value} (h:w.ownsRow B 34 3 v n l) (k:Bl w w'):w'.ownsRow B 34 3 v n l:=by
 refine ⟨h.1,?_⟩;rcases h.2 with hn|⟨g,cap,cur,rfl,hb,hg,rest⟩
 ·exact .inl hn
 ·exact .inr ⟨g,cap,cur,rfl,hb,(Below.block k g (Array.getElem?_eq_some_iff.1 hg).1).trans hg,rest⟩
theorem ownF_step' {n₀:Nat} {w wr w1:World} {v v':Value} {xs:List Fr} {x:Fr} {o:Obj} (hb:Bl w wr) (hn:w.heap.size≤n₀) (hown:wr.ownsRow n₀ 34 3 v xs.length (xs.flatMap cellsF))
  (hown':w1.ownsRow n₀ 34 3 v' (xs.length+1) (xs.flatMap cellsF++cellsF x)) (hg:(wr.alloc o).grownBy w1 v.ownBlock) :
  Bl w w1∧w1.ownsRow n₀ 34 3 v' (xs++[x]).length ((xs++[x]).flatMap cellsF):=by
 refine ⟨Below.grown (Below.alloc hb hb.size o) hg (by have:=hb.size;simp;omega) (fun k hk=>by have:=(hown.lt k hk).1;omega),?_⟩;simpa [List.flatMap_append] using hown'
theorem FBox.grown {n₀ n p:Nat} {w wr w1:World} {v:Value} {l:List Value} {x:Fr} (h:FBox w p x) (hb:Bl w wr) (hown:w.ownsRow n₀ 34 3 v n l) (hg:wr.grownBy w1 v.ownBlock) (hp:p<n₀):FBox w1 p x:=by
 have h':=h.later hb;have hk:w1.heap[p]?=wr.heap[p]?:=hg.block p h'.lt (fun e=>by have:=(hown.lt p e.symm).1;omega);obtain ⟨c0,c1,c2,f0,f1,f2,lt⟩:=h';exact ⟨(World.cell?_of_block (a:=⟨p,0,none⟩) hk).trans c0,(World.cell?_of_block (a:=⟨p,1,none⟩) hk).trans c1,(World.cell?_of_block (a:=⟨p,2,none⟩) hk).trans c2,(World.frozen?_of_block (a:=⟨p,0,none⟩) hk).trans f0,(World.frozen?_of_block (a:=⟨p,1,none⟩) hk).trans f1,(World.frozen?_of_block (a:=⟨p,2,none⟩) hk).trans f2,by have:=hg.size;omega⟩
theorem newF_cells (w:World) (x:Fr) (t:TypeId):∀ j u,(cellsF x)[j]?=some u→(w.alloc (.cells #[.int .i64 x.n,.int .i64 x.d,.bool x.bad] t)).cell? ((⟨w.heap.size,0,none⟩:Addr).add j)=some u:=by
 intro j u hu;have hadd:(⟨w.heap.size,0,none⟩:Addr).add j=⟨w.heap.size,j,none⟩:=by unfold Addr.add;split<;>simp_all
 rw [hadd];have h:=FBox.new w x t;unfold cellsF at hu;rcases j with _|_|_|j
 ·simp at hu;rw [←hu];exact h.c0
 ·simp at hu;rw [←hu];exact h.c1
 ·simp at hu;rw [←hu];exact h.c2
 ·simp at hu
theorem oneF_cells (x:Fr):∀ u∈cellsF x,u.oneCell'=true:=by
 intro u hu;unfold cellsF at hu;simp only [List.mem_cons,List.not_mem_nil,or_false] at hu;rcases hu with rfl|rfl|rfl<;>rfl
def wholeF (n:Int):Fr:=newR n 1
set_option maxHeartbeats 1000000 in
theorem vWholeF' (v:Value) (ns:List Int) (w:World) (h:Rq 1 (fun n=>[.int .i64 n]) w v ns) (hl:ns.length≤1000000) :
  Calls Tryz.prog 16 #[v] w fun e w'=>∃ u,e=.returned u∧Rw 3 cellsF w' u (ns.map wholeF)∧Fresh w.heap.size u∧Bl w w':=by
 obtain ⟨i0,hi,hz0,hz1,hz2⟩:=info_parts Tryz.info_F;rcases h with ⟨p,cap,rfl,rfl,hpn⟩|⟨b,o,cap,rfl,hc,hb,hx⟩
 ·go_enter Tryz.func16,Tryz.ntmps16;go_wp2_with (at_make;refine wpList_make_own _ rfl _ _ 28 rfl w.heap.size 34 i0 (.agg #[.int .i64 0,.int .i64 0,.bool false]) 3 Tryz.underlying28 hi hz0 hz1 .i64 .i64 _ 0 rfl rfl (by simp) (by rw [hz2];omega) (by unfold maxLen;omega) (Nat.le_refl _) ?_;intro w0 hown0 hgrow0)
  have hB0:Bl w w0:=(Bl.refl w).grown hgrow0 (by omega) (fun k e=>by cases e)
  go_loopw [3,11] (fun v i wr=>i=.int .i64 0∧wr.ownsRow w.heap.size 34 3 v 0 []∧Bl w wr) (fun _ _ _=>0)
  case atStart=>exact ⟨rfl,hown0,hB0⟩
  case round =>
   obtain ⟨rfl,hown,hB⟩:=hrel;go_wp2;go_ret;exact ⟨_,rfl,Rw.of_own cellsF_len (xs:=[]) hown,fun g hg=>(hown.lt g hg).1,hB⟩
 ·have HX:=hideP hx;clear hx
  go_enter Tryz.func16,Tryz.ntmps16;go_wp2_with (at_make;refine wpList_make_own _ rfl _ _ 28 rfl w.heap.size 34 i0 (.agg #[.int .i64 0,.int .i64 0,.bool false]) 3 Tryz.underlying28 hi hz0 hz1 .i64 .i64 _ ns.length rfl rfl (by simp) (by rw [hz2];omega) (by unfold maxLen;omega) (Nat.le_refl _) ?_;intro w0 hown0 hgrow0)
  have hB0:Bl w w0:=(Bl.refl w).grown hgrow0 (by omega) (fun k e=>by cases e)
  go_loopw [3,11] (fun v i wr=>∃ k:Nat,i=.int .i64 k∧k≤ns.length∧wr.ownsRow w.heap.size 34 3 v ((ns.take k).map wholeF).length (((ns.take k).map wholeF).flatMap cellsF)∧Bl w wr) (fun _ i _=>ns.length-(intOf i).toNat)
  case atStart=>exact ⟨0,rfl,Nat.zero_le _,hown0,hB0⟩
  case round =>
   obtain ⟨k,rfl,hk,hown,hB⟩:=hrel;by_cases hlt:k<ns.length
   ·obtain ⟨x,hx⟩:∃ x,ns[k]?=some x:=⟨_,List.getElem?_eq_getElem hlt⟩;have y0:wr.cell? ⟨b,o+k,none⟩=some (.int .i64 x):=by
     have:=(bl_cell hB _ _ hb).trans (HX.out k x hx 0 _ rfl);simpa using this
    have hT:(ns.take (k+1)).map wholeF=(ns.take k).map wholeF++[wholeF x]:=by rw [List.take_add_one,hx];simp
    have hkl:((ns.take k).map wholeF).length=k:=by simp;omega
    have HK:=hideP hkl;clear hkl;have HT:=hideP hT;clear hT;generalize hys:(ns.take k).map wholeF=ys at *;clear hys;go_wp2_with fail
    refine (vwholeF x _).mono ?_;rintro e w2 ⟨rfl,h2⟩;have hr:wholeF x=(newR x 1):=rfl;generalize (newR x 1)=r at *;rw [hr] at HT;clear hr y0;replace hown:=own_blF hown h2;replace hB:=hB.trans h2;have hkk:=HK.out;go_wp2_with (at_builtin;refine wpList_append_own _ rfl _ _ 28 rfl w.heap.size 34 i0 (.agg #[.int .i64 0,.int .i64 0,.bool false]) 3 24 Tryz.underlying28 hi hz0 hz1 hz2 rfl (by decide) _ _ _ rfl (hown.alloc _) ⟨_,0,none⟩ 1 1 (cellsF r) rfl rfl (newF_cells _ _ _) (oneF_cells _) (by unfold maxLen;omega) (by omega) (by have:=hB.size;simp;omega) ?_;intro v' w1 hown' hgrow _)
    have R:=ownF_step hB hown hown' hgrow;clear hown hown' hgrow;go_wp2;go_roundw
    case rel=>exact ⟨k+1,by simp,hlt,by rw [HT.out];exact R.2,R.1⟩
    case measure=>simp [intOf];omega
   ·have hk':k=ns.length:=by omega
    subst hk';rw [List.take_length] at hown;have R:=hideP (Rw.of_own cellsF_len hown);have FR:=hideP (show Fresh w.heap.size _ from fun g hg=>(hown.lt g hg).1);clear hown;go_wp2;go_ret;exact ⟨_,rfl,R.out,FR.out,hB⟩
theorem vWholeF (v:Value) (ns:List Int) (w:World) (h:Rq 1 (fun n=>[.int .i64 n]) w v ns) (hl:ns.length≤1000000) :
  Calls Tryz.prog 16 #[v] w fun e w'=>∃ u,e=.returned u∧Rw 3 cellsF w' u (ns.map wholeF)∧Bl w w':=
 (vWholeF' v ns w h hl).mono fun _ _ ⟨u,h1,h2,_,h3⟩=>⟨u,h1,h2,h3⟩
set_option maxHeartbeats 1000000 in
theorem vScaleF (v:Value) (xs:List Fr) (by_:Fr) (w:World) (h:Rw 3 cellsF w v xs) (hl:xs.length≤1000000) :
  Calls Tryz.prog 50 #[v,frV by_] w fun e w'=>∃ u,e=.returned u∧Rw 3 cellsF w' u (xs.map fun x=>mulR x by_)∧Bl w w':=by
 have iv:=Tryz.mMulF;obtain ⟨i0,hi,hz0,hz1,hz2⟩:=info_parts Tryz.info_F;have x0:=FBox.new w by_ 34;rcases h with ⟨rfl,rfl⟩|⟨b,o,cap,rfl,hc,hb,hx⟩
 ·go_enter Tryz.func50,Tryz.ntmps50;go_wp2_with (at_make;refine wpList_make_own _ rfl _ _ 28 rfl w.heap.size 34 i0 (.agg #[.int .i64 0,.int .i64 0,.bool false]) 3 Tryz.underlying28 hi hz0 hz1 .i64 .i64 _ 0 rfl rfl (by simp) (by rw [hz2];omega) (by unfold maxLen;omega) (by simp) ?_;intro w0 hown0 hgrow0)
  rw [World.size_alloc] at hown0;have hB0:Bl w w0:=Below.grown (Below.alloc (Bl.refl w) (Nat.le_refl _) _) hgrow0 (by simp) (fun k e=>by cases e)
  go_loopw [5,13] (fun v i wr=>i=.int .i64 0∧wr.ownsRow w.heap.size 34 3 v 0 []∧Bl w wr) (fun _ _ _=>0)
  case atStart=>exact ⟨rfl,hown0,hB0⟩
  case round =>
   obtain ⟨rfl,hown,hB⟩:=hrel;go_wp2;go_ret;exact ⟨_,rfl,Rw.of_own cellsF_len (xs:=[]) hown,hB⟩
 ·have HX:=hideP hx;clear hx
  go_enter Tryz.func50,Tryz.ntmps50;go_wp2_with (at_make;refine wpList_make_own _ rfl _ _ 28 rfl (w.heap.size+1) 34 i0 (.agg #[.int .i64 0,.int .i64 0,.bool false]) 3 Tryz.underlying28 hi hz0 hz1 .i64 .i64 _ xs.length rfl rfl (by simp) (by rw [hz2];omega) (by unfold maxLen;omega) (by simp) ?_;intro w0 hown0 hgrow0)
  rw [World.size_alloc] at hown0;have hB1:Bl (w.alloc (.cells #[.int .i64 by_.n,.int .i64 by_.d,.bool by_.bad] 34)) w0:=Below.grown (Bl.refl _) hgrow0 (Nat.le_refl _) (fun k e=>by cases e);have hB0:Bl w w0:=((Bl.refl w).alloc _).trans hB1
  go_loopw [5,13] (fun v i wr=>∃ k:Nat,i=.int .i64 k∧k≤xs.length∧FBox wr w.heap.size by_∧wr.ownsRow (w.heap.size+1) 34 3 v ((xs.take k).map fun x=>mulR x by_).length (((xs.take k).map fun x=>mulR x by_).flatMap cellsF)∧Bl w wr) (fun _ i _=>xs.length-(intOf i).toNat)
  case atStart=>exact ⟨0,rfl,Nat.zero_le _,x0.later hB1,hown0,hB0⟩
  case round =>
   obtain ⟨k,rfl,hk,bx,hown,hB⟩:=hrel;by_cases hlt:k<xs.length
   ·obtain ⟨x,hx⟩:∃ x,xs[k]?=some x:=⟨_,List.getElem?_eq_getElem hlt⟩;have CX:∀ j u,(cellsF x)[j]?=some u→wr.cell? ⟨b,o+k*3+j,none⟩=some u:=fun j u hu=>(bl_cell hB _ _ hb).trans (HX.out k x hx j u hu)
    have y0:wr.cell? ⟨b,o+k*3,none⟩=some (.int .i64 x.n):=CX 0 _ rfl;have y1:wr.cell? ⟨b,o+k*3+1,none⟩=some (.int .i64 x.d):=CX 1 _ rfl;have y2:wr.cell? ⟨b,o+k*3+2,none⟩=some (.bool x.bad):=CX 2 _ rfl;clear CX;obtain ⟨c0,c1,c2,f0,f1,f2,lt⟩:=id bx;have HT:=hideP (show (xs.take (k+1)).map (fun x=>mulR x by_)=(xs.take k).map (fun x=>mulR x by_)++[mulR x by_] by rw [List.take_add_one,hx];simp);have HK:=hideP (show ((xs.take k).map fun x=>mulR x by_).length=k by simp;omega);generalize hys:(xs.take k).map (fun x=>mulR x by_)=ys at *;clear hys;go_wp2_with fail
    refine (rmul_any _ _ _).mono ?_;rintro e w2 ⟨rfl,h2⟩;have bl2:Bl wr w2:=((Bl.refl _).alloc _).trans h2;generalize mulR x by_=r at *;clear y0 y1 y2 c0 c1 c2;replace hown:=own_blF hown bl2;replace hB:=hB.trans bl2;have bx2:=bx.later bl2;have hkk:=HK.out;go_wp2_with (at_builtin;refine wpList_append_own _ rfl _ _ 28 rfl (w.heap.size+1) 34 i0 (.agg #[.int .i64 0,.int .i64 0,.bool false]) 3 24 Tryz.underlying28 hi hz0 hz1 hz2 rfl (by decide) _ _ _ rfl (hown.alloc _) ⟨_,0,none⟩ 1 1 (cellsF r) rfl rfl (newF_cells _ _ _) (oneF_cells _) (by unfold maxLen;omega) (by omega) (by have:=bx2.lt;simp;omega) ?_;intro v' w1 hown' hgrow _)
    have R:=ownF_step' (n₀:=w.heap.size+1) hB (by omega) hown hown' hgrow;have bx3:=bx2.grown ((Bl.refl _).alloc _) hown hgrow (by omega);clear hown hown' hgrow;go_wp2;go_roundw
    case rel=>exact ⟨k+1,by simp,hlt,bx3,by rw [HT.out];exact R.2,R.1⟩
    case measure=>simp [intOf];omega
   ·have hk':k=xs.length:=by omega
    subst hk';rw [List.take_length] at hown;have R:=hideP (Rw.of_own cellsF_len hown);clear hown;go_wp2;go_ret;exact ⟨_,rfl,R.out,hB⟩
theorem dAddF (a b:Fr) (w:World) :
  Calls Tryz.prog 95 #[frV a,frV b] w fun e w'=>e=.returned (frV (addR a b))∧Bl w w':=by
 have iv:=Tryz.mAddF;obtain ⟨W,X⟩:=threeR_ex w a b;have T:=hideP (radd_any a b);have HX:=hideP X;clear X;generalize addR a b=r at *
 go_enter Tryz.func95,Tryz.ntmps95;go_wp2_with fail
 rw [←HX.out.eq];refine (T.out _).mono ?_;rintro e w1 ⟨rfl,h1⟩;obtain ⟨c0,c1,c2,f0,f1,f2,lt⟩:=HX.out.bz.later h1;clear iv;go_wp2;simp [bodyPost,results,Tryz.results95,go_sem,c0,c1,c2];exact Bl.set3 (HX.out.bl.trans h1) (by omega) _ _ _
theorem dSubF (a b:Fr) (w:World) :
  Calls Tryz.prog 153 #[frV a,frV b] w fun e w'=>e=.returned (frV (subR a b))∧Bl w w':=by
 have iv:=Tryz.mSubF;obtain ⟨W,X⟩:=threeR_ex w a b;have T:=hideP (rsub_any a b);have HX:=hideP X;clear X;generalize subR a b=r at *
 go_enter Tryz.func153,Tryz.ntmps153;go_wp2_with fail
 rw [←HX.out.eq];refine (T.out _).mono ?_;rintro e w1 ⟨rfl,h1⟩;obtain ⟨c0,c1,c2,f0,f1,f2,lt⟩:=HX.out.bz.later h1;clear iv;go_wp2;simp [bodyPost,results,Tryz.results153,go_sem,c0,c1,c2];exact Bl.set3 (HX.out.bl.trans h1) (by omega) _ _ _
theorem dMulF (a b:Fr) (w:World) :
  Calls Tryz.prog 94 #[frV a,frV b] w fun e w'=>e=.returned (frV (mulR a b))∧Bl w w':=by
 have iv:=Tryz.mMulF;obtain ⟨W,X⟩:=threeR_ex w a b;have T:=hideP (rmul_any a b);have HX:=hideP X;clear X;generalize mulR a b=r at *
 go_enter Tryz.func94,Tryz.ntmps94;go_wp2_with fail
 rw [←HX.out.eq];refine (T.out _).mono ?_;rintro e w1 ⟨rfl,h1⟩;obtain ⟨c0,c1,c2,f0,f1,f2,lt⟩:=HX.out.bz.later h1;clear iv;go_wp2;simp [bodyPost,results,Tryz.results94,go_sem,c0,c1,c2];exact Bl.set3 (HX.out.bl.trans h1) (by omega) _ _ _
theorem Tryz.nil0F (w:World):(binOp .eql 28 (.slice none 0 0) (.slice none 0 0)).run Tryz.prog w=.ok (.bool true) w:=by kernel_rfl
theorem Tryz.nil1F (a:Addr) (n cap:Nat) (w:World):(binOp .eql 28 (.slice (some a) n cap) (.slice none 0 0)).run Tryz.prog w=.ok (.bool false) w:=by kernel_rfl
set_option maxHeartbeats 1000000 in
theorem vCloneF (v:Value) (xs:List Fr) (w:World) (h:Rq 3 cellsF w v xs) (hl:xs.length≤1000000) :
  Calls Tryz.prog 66 #[v] w fun e w'=>∃ u,e=.returned u∧Rw 3 cellsF w' u xs∧Fresh w.heap.size u∧Bl w w':=by
 have n0:=Tryz.nil0F;have n1:=Tryz.nil1F;obtain ⟨i0,hi,hz0,hz1,hz2⟩:=info_parts Tryz.info_F;rcases h with ⟨p,cap,rfl,rfl,hpn⟩|⟨b,o,cap,rfl,hc,hb,hx⟩
 ·rcases p with _|ad
  ·obtain rfl:=hpn rfl
   go_enter Tryz.func66,Tryz.ntmps66;go_wp2;go_ret;exact ⟨_,rfl,.inl ⟨rfl,rfl⟩,nofun,Bl.refl _⟩
  ·clear n0
   go_enter Tryz.func66,Tryz.ntmps66;go_wp2_with (at_builtin;refine wpList_append_own _ rfl _ _ 28 rfl w.heap.size 34 i0 (.agg #[.int .i64 0,.int .i64 0,.bool false]) 3 24 Tryz.underlying28 hi hz0 hz1 hz2 rfl (by decide) _ 0 [] rfl (World.ownsRow_made w #[] 0 (Nat.le_refl _) (by decide) rfl) ad 0 cap [] rfl (by simp) nofun nofun (by unfold maxLen;omega) (by omega) (by simp) ?_;intro v' w1 hown' hgrow _)
   have R:=hideP (Rw.of_own (xs:=[]) cellsF_len (by simpa using hown'));have FR:=hideP (show Fresh w.heap.size v' from fun g hg=>(hown'.lt g hg).1);have hB:Bl w w1:=Below.grown (Below.alloc (Bl.refl w) (Nat.le_refl _) _) hgrow (by simp) (fun k e=>by cases e;exact Nat.le_refl _);clear hown' hgrow;go_wp2;go_ret;exact ⟨_,rfl,R.out,FR.out,hB⟩
 ·have HX:=hideP hx;clear hx n0
  go_enter Tryz.func66,Tryz.ntmps66;go_wp2_with (at_builtin;refine wpList_append_own _ rfl _ _ 28 rfl w.heap.size 34 i0 (.agg #[.int .i64 0,.int .i64 0,.bool false]) 3 24 Tryz.underlying28 hi hz0 hz1 hz2 rfl (by decide) _ 0 [] rfl (World.ownsRow_made w #[] 0 (Nat.le_refl _) (by decide) rfl) ⟨b,o,none⟩ xs.length cap (xs.flatMap cellsF) rfl (flat_len cellsF_len xs) (flat_cells cellsF_len ((Rw_cells_later HX.out hb ((Bl.refl _).alloc _)))) (flat_one oneF_cells xs) (by unfold maxLen;omega) (by omega) (by simp) ?_;intro v' w1 hown' hgrow _)
  have R:=hideP (Rw.of_own (xs:=xs) cellsF_len (by simpa using hown'));have FR:=hideP (show Fresh w.heap.size v' from fun g hg=>(hown'.lt g hg).1);have hB:Bl w w1:=Below.grown (Below.alloc (Bl.refl w) (Nat.le_refl _) _) hgrow (by simp) (fun k e=>by cases e;exact Nat.le_refl _);clear hown' hgrow;go_wp2;go_ret;exact ⟨_,rfl,R.out,FR.out,hB⟩
theorem Tryz.cutF (p:Option Addr) (n cap m:Nat) (w:World) (h:m≤cap):(Instr.sliceAt 28 (.slice p n cap) none (some (.int .i64 m)) none).run Tryz.prog w=.ok (.slice p m cap) w:=by
 have hu:Tryz.prog.underlying 28=some (.slice (Tryz.prog.elem 28)):=by kernel_rfl
 obtain ⟨i0,hi,hz0,hz1,hz2⟩:=info_parts Tryz.info_F;have he:Tryz.prog.elem 28=34:=by kernel_rfl
 rw [run_sliceAt_slice (h:=hu),run_slice_h (ht:=hu) (h0:=by omega) (h2:=by omega),he];have e0:p.map (fun a=>a.add 0)=p:=by cases p<;>simp [Addr.add]
 simp [sizeOf,typeInfo,hi,sliced,e0,Result.andThen]
theorem cloneF_cut {p:Option Addr} {cap:Nat} {xs:List Fr} {w W:World} (hb:Bl w W) (CA:∀ m,m≤xs.length→Rq 3 cellsF w (.slice p m cap) (xs.take m)) (hl:xs.length≤1000000) :
  ∀ m,m≤xs.length→∀ u,Bl W u→Calls Tryz.prog 66 #[.slice p m cap] u fun e w'=>∃ p1 k1,e=.returned (.slice p1 m k1)∧(Rw 3 cellsF w' (.slice p1 m k1) (xs.take m)∧Fresh u.heap.size (.slice p1 m k1))∧Bl u w':=by
 intro m h u hu;refine (vCloneF (.slice p m cap) (xs.take m) u ((CA m h).later (hb.trans hu)) (by simp;omega)).mono ?_;rintro e w' ⟨v,rfl,hr,hf,hbl⟩;obtain ⟨p1,k1,rfl,_,_⟩:=hr.cut;have hl':(xs.take m).length=m:=by simp;omega
 rw [hl'] at hr hf ⊢;exact ⟨p1,k1,rfl,⟨hr,hf⟩,hbl⟩
set_option maxHeartbeats 1000000 in
theorem vPairsF (va vb:Value) (xs ys:List Fr) (w:World) (ha:Rq 3 cellsF w va xs) (hb:Rq 3 cellsF w vb ys) (hl:xs.length≤1000000) (hm:ys.length≤1000000) :
  Calls Tryz.prog 134 #[va,vb] w fun e w'=>e=.returned (.func (.func 152) #[] #[.pointer (some ⟨w.heap.size,0,none⟩),.pointer (some ⟨w.heap.size+1,0,none⟩)]) ∧
   PairsIn 3 cellsF w' w.heap.size w'.heap.size w.heap.size (w.heap.size+1) (xs.take (min xs.length ys.length)) (ys.take (min xs.length ys.length))∧Bl w w':=by
 obtain ⟨p,cap,rfl,hc,CA⟩:=ha.cut;obtain ⟨q,dap,rfl,hd,CB⟩:=hb.cut;obtain ⟨W,X⟩:=twoS_ex w (.slice p xs.length cap) (.slice q ys.length dap) 28;have HX:=hideP X;have sl1:=fun m u (h:m≤cap)=>Tryz.cutF p xs.length cap m u h
 have sl2:=fun m u (h:m≤dap)=>Tryz.cutF q ys.length dap m u h
 have HA:=hideP (cloneF_cut X.bl CA hl);have HB:=hideP (cloneF_cut X.bl CB hm);clear CA CB ha hb X;by_cases hlt:ys.length<xs.length
 ·rw [show min xs.length ys.length=ys.length by omega];have A:=hideP (HA.out ys.length (by omega));have B:=hideP (HB.out ys.length (by omega));have s1:=fun u=>sl1 ys.length u (by omega)
  have s2:=fun u=>sl2 ys.length u (by omega)
  have hm0:min (xs.length:Int) (ys.length:Int)=(ys.length:Int):=by omega
  clear HA HB sl1 sl2
  go_enter Tryz.func134,Tryz.ntmps134;go_wp2_with fail
  rw [←HX.out.eq];obtain ⟨c0,c1,f0,f1⟩:=HX.out.k _ ((Bl.refl _).drew)
  go_region_with (first
   |(go_at_call_of 66 #[Value.slice p ys.length cap];refine (A.out _ ((Bl.refl _).drew)).mono ?_;rintro e w1 ⟨p1,k1,rfl,R1,h1⟩;obtain ⟨d0,d1,g0,g1⟩:=HX.out.k _ (((Bl.refl _).drew).trans h1))
   |(go_at_call_of 66 #[Value.slice q ys.length dap];refine (B.out _ (((Bl.refl _).drew).trans h1)).mono ?_;rintro e w2 ⟨p2,k2,rfl,R2,h2⟩;obtain ⟨e0,e1,l0,l1⟩:=HX.out.k _ ((((Bl.refl _).drew).trans h1).trans h2)))
  all_goals
   clear c0 c1 f0 f1 d0 d1 g0 g1 s1 s2 A B;go_wp2;go_ret;refine ⟨rfl,?_,?_⟩
   ·have hs:=HX.out.size;have h1s:=Below.size h1;have h2s:=Below.size h2;have hd:W.drew.heap.size=W.heap.size:=rfl;have q1:Rw 3 cellsF ((w2.setCell ⟨w.heap.size,0,none⟩ (.slice p1 ys.length k1)).setCell ⟨w.heap.size+1,0,none⟩ (.slice p2 ys.length k2)) (.slice p1 ys.length k1) _:=((R1.1.later h2).set _ (fun g hg=>by have:=R1.2 g hg;show w.heap.size+1≤g;omega)).set _ (fun g hg=>by have:=R1.2 g hg;show w.heap.size+1+1≤g;omega);have q2:Rw 3 cellsF ((w2.setCell ⟨w.heap.size,0,none⟩ (.slice p1 ys.length k1)).setCell ⟨w.heap.size+1,0,none⟩ (.slice p2 ys.length k2)) (.slice p2 ys.length k2) _:=(R2.1.set _ (fun g hg=>by have:=R2.2 g hg;show w.heap.size+1≤g;omega)).set _ (fun g hg=>by have:=R2.2 g hg;show w.heap.size+1+1≤g;omega);refine ⟨_,_,Nat.le_refl _,by simp;omega,by omega,by simp;omega,?_,?_,q1,q2,fun g hg=>⟨by have:=R1.2 g hg;omega,q1.lt g hg⟩,fun g hg=>⟨by have:=R2.2 g hg;omega,q2.lt g hg⟩,by simp;omega⟩
    ·simp [go_sem,e0,e1]
    ·simp [go_sem,e0,e1]
   ·exact Bl.set (Bl.set ((HX.out.bl.trans (((Bl.refl _).drew).trans h1)).trans h2) (Nat.le_refl _) _) (by show w.heap.size≤w.heap.size+1;omega) _
 ·rw [show min xs.length ys.length=xs.length by omega];have A:=hideP (HA.out xs.length (by omega));have B:=hideP (HB.out xs.length (by omega));have s1:=fun u=>sl1 xs.length u (by omega)
  have s2:=fun u=>sl2 xs.length u (by omega)
  have hm0:min (xs.length:Int) (ys.length:Int)=(xs.length:Int):=by omega
  clear HA HB sl1 sl2
  go_enter Tryz.func134,Tryz.ntmps134;go_wp2_with fail
  rw [←HX.out.eq];obtain ⟨c0,c1,f0,f1⟩:=HX.out.k _ ((Bl.refl _).drew)
  go_region_with (first
   |(go_at_call_of 66 #[Value.slice p xs.length cap];refine (A.out _ ((Bl.refl _).drew)).mono ?_;rintro e w1 ⟨p1,k1,rfl,R1,h1⟩;obtain ⟨d0,d1,g0,g1⟩:=HX.out.k _ (((Bl.refl _).drew).trans h1))
   |(go_at_call_of 66 #[Value.slice q xs.length dap];refine (B.out _ (((Bl.refl _).drew).trans h1)).mono ?_;rintro e w2 ⟨p2,k2,rfl,R2,h2⟩;obtain ⟨e0,e1,l0,l1⟩:=HX.out.k _ ((((Bl.refl _).drew).trans h1).trans h2)))
  all_goals
   clear c0 c1 f0 f1 d0 d1 g0 g1 s1 s2 A B;go_wp2;go_ret;refine ⟨rfl,?_,?_⟩
   ·have hs:=HX.out.size;have h1s:=Below.size h1;have h2s:=Below.size h2;have hd:W.drew.heap.size=W.heap.size:=rfl;have q1:Rw 3 cellsF ((w2.setCell ⟨w.heap.size,0,none⟩ (.slice p1 xs.length k1)).setCell ⟨w.heap.size+1,0,none⟩ (.slice p2 xs.length k2)) (.slice p1 xs.length k1) _:=((R1.1.later h2).set _ (fun g hg=>by have:=R1.2 g hg;show w.heap.size+1≤g;omega)).set _ (fun g hg=>by have:=R1.2 g hg;show w.heap.size+1+1≤g;omega);have q2:Rw 3 cellsF ((w2.setCell ⟨w.heap.size,0,none⟩ (.slice p1 xs.length k1)).setCell ⟨w.heap.size+1,0,none⟩ (.slice p2 xs.length k2)) (.slice p2 xs.length k2) _:=(R2.1.set _ (fun g hg=>by have:=R2.2 g hg;show w.heap.size+1≤g;omega)).set _ (fun g hg=>by have:=R2.2 g hg;show w.heap.size+1+1≤g;omega);refine ⟨_,_,Nat.le_refl _,by simp;omega,by omega,by simp;omega,?_,?_,q1,q2,fun g hg=>⟨by have:=R1.2 g hg;omega,q1.lt g hg⟩,fun g hg=>⟨by have:=R2.2 g hg;omega,q2.lt g hg⟩,by simp;omega⟩
    ·simp [go_sem,e0,e1]
    ·simp [go_sem,e0,e1]
   ·exact Bl.set (Bl.set ((HX.out.bl.trans (((Bl.refl _).drew).trans h1)).trans h2) (Nat.le_refl _) _) (by show w.heap.size≤w.heap.size+1;omega) _
open Go.Shelf
attribute [local go_sem] Oper.semAt_some
theorem Tryz.yieldF (l:Nat) (w:World):(binOp .eql 184 (.func (.yield l) #[] #[]) .nilFunc).run Tryz.prog w=.ok (.bool false) w:=by kernel_rfl
set_option maxRecDepth 100000 in
set_option maxHeartbeats 2000000 in
theorem iterF (n l A B lo hi:Nat) (xs ys:List Fr) (hl:xs.length≤1000000) (J Jx:List (Fr×Fr)→World→Prop) (W:World) (hJ:AbidesFrom W.heap.size J) (hh:hi≤W.heap.size)
  (hY:∀ pre x W1,J pre W1→pre.length<xs.length→YieldAt Fence.wide (n-1) Tryz.prog l #[frV x.1,frV x.2] W1 fun e W' =>
   (e=.returned (.bool true)∧J (pre++[x]) W'∧Span lo hi W1 W')∨(e=.returned (.bool false)∧Jx (pre++[x]) W'))
  (hP:PairsIn 3 cellsF W lo hi A B xs ys) (h0:J [] W) :
  CallsIn Fence.wide n Tryz.prog 152 #[.func (.yield l) #[] #[],.pointer (some ⟨A,0,none⟩),.pointer (some ⟨B,0,none⟩)] W fun e W'=>(∃ v,e=.returned v) ∧
   ((∃ zs,zs=xs.zip ys∧J zs W')∨(∃ pre,pre <+: xs.zip ys∧Jx pre W')):=by
 have yn:=Tryz.yieldF l;obtain ⟨u,v,a1,a2,b1,b2,cu,cv,ru,rv,fu,fv,hxy⟩:=hP;rcases ru with ⟨rfl,rfl⟩|⟨b,o,cap,rfl,hc,hb,hx⟩
 ·clear hY;refine callsIn_of_wp Tryz.func152 rfl trivial ?_ rfl;simp only [Tryz.ntmps152,List.size_toArray,List.length_cons,List.length_nil,Nat.reduceAdd,Nat.reduceSub,Array.replicate_succ,Array.replicate_zero,List.push_toArray,List.append_toArray,List.nil_append,List.cons_append]
  gi_wp2
  gi_loopw [10] (fun i wr=>i=.int .i64 0∧J [] wr) (fun _ _=>0)
  case atStart=>exact ⟨rfl,h0⟩
  case round =>
   obtain ⟨rfl,hJs⟩:=hrel
   gi_wp2
   go_end0
   exact ⟨⟨_,rfl⟩,.inl ⟨_,rfl,hJs⟩⟩
 ·have hb':=fu b rfl;have HX:=hideP hx;have HV:=hideP rv;have HXY:=hideP hxy;clear hx rv hxy;refine callsIn_of_wp Tryz.func152 rfl trivial ?_ rfl;simp only [Tryz.ntmps152,List.size_toArray,List.length_cons,List.length_nil,Nat.reduceAdd,Nat.reduceSub,Array.replicate_succ,Array.replicate_zero,List.push_toArray,List.append_toArray,List.nil_append,List.cons_append]
  gi_wp2
  gi_loopw [10] (fun i wr=>∃ k:Nat,k≤xs.length∧i=.int .i64 k∧J ((xs.zip ys).take k) wr∧Span lo hi W wr∧W.heap.size≤wr.heap.size)
   (fun i _=>xs.length-(intOf i).toNat)
  case atStart=>exact ⟨0,Nat.zero_le _,rfl,h0,Span.refl _ _ _,Nat.le_refl _⟩
  case round =>
   obtain ⟨k,hk,rfl,hJs,hsp,hsz⟩:=hrel;by_cases hlt:k<xs.length
   ·obtain ⟨x,hx⟩:∃ x,xs[k]?=some x:=⟨_,List.getElem?_eq_getElem hlt⟩;obtain ⟨y,hy⟩:∃ y,ys[k]?=some y:=⟨_,List.getElem?_eq_getElem (by have:=HXY.out;omega)⟩;rcases HV.out with ⟨rfl,e0⟩|⟨b',o',cap',rfl,hc',hbb,hy'⟩
    ·have:=HXY.out;rw [e0] at this;simp at this;rw [this] at hlt;simp at hlt
    have HY:=hideP hy';have hb2:=fv b' rfl;have hlt':k<ys.length:=by have:=HXY.out;omega
    clear hy';have CX:∀ j u,(cellsF x)[j]?=some u→wr.cell? ⟨b,o+k*3+j,none⟩=some u:=fun j u hu=>(hsp.cell b _ hb'.1 hb'.2).trans (HX.out k x hx j u hu)
    have x0:wr.cell? ⟨b,o+k*3,none⟩=some (.int .i64 x.n):=CX 0 _ rfl;have x1:wr.cell? ⟨b,o+k*3+1,none⟩=some (.int .i64 x.d):=CX 1 _ rfl;have x2:wr.cell? ⟨b,o+k*3+2,none⟩=some (.bool x.bad):=CX 2 _ rfl;clear CX;obtain ⟨V,hV⟩:∃ V,V=wr.alloc (.cells #[.int .i64 x.n,.int .i64 x.d,.bool x.bad] 34):=⟨_,rfl⟩;have bV:Bl wr V.drew:=by rw [hV];exact ((Bl.refl _).alloc _).drew
    have BX:FBox V.drew wr.heap.size x:=by rw [hV];exact (FBox.new wr x _).later ((Bl.refl _).drew)
    have sV:Span lo hi W V.drew:=hsp.trans (bV.span (by omega));have jV:J ((xs.zip ys).take k) V.drew:=by
     refine hJ _ _ _ none hJs ?_ nofun;rw [hV];exact ⟨rfl,rfl,rfl,by simp,fun i hi _=>by have:=(((Bl.refl wr).alloc (.cells #[.int .i64 x.n,.int .i64 x.d,.bool x.bad] 34)).drew).block i hi;exact this⟩
    have CY:∀ j u,(cellsF y)[j]?=some u→V.drew.cell? ⟨b',o'+k*3+j,none⟩=some u:=fun j u hu=>(sV.cell b' _ hb2.1 hb2.2).trans (HY.out k y hy j u hu)
    have y0:V.drew.cell? ⟨b',o'+k*3,none⟩=some (.int .i64 y.n):=CY 0 _ rfl;have y1:V.drew.cell? ⟨b',o'+k*3+1,none⟩=some (.int .i64 y.d):=CY 1 _ rfl;have y2:V.drew.cell? ⟨b',o'+k*3+2,none⟩=some (.bool y.bad):=CY 2 _ rfl;have yb:V.drew.cell? ⟨B,0,none⟩=some (.slice (some ⟨b',o',none⟩) ys.length cap'):=(sV.cell B 0 b1 b2).trans cv;obtain ⟨z0,z1,z2,_,_,_,_⟩:=BX;have hlen:((xs.zip ys).take k).length=k:=by have:=HXY.out;simp;omega
    obtain ⟨fn,tmps,assign,body,hyd,hR⟩:=hY _ (x,y) V.drew jV (by omega);dsimp only at hyd;have HT:=hideP (show (xs.zip ys).take (k+1)=(xs.zip ys).take k++[(x,y)] by
     rw [List.take_add_one,(List.getElem?_zip_eq_some (z:=(x,y))).2 ⟨hx,hy⟩];rfl)
    have HW:=hideP hV;clear CY hV hJs
    gi_wp2
    rw [←HW.out];have hR2:RoundIn Fence.wide (n-1) Tryz.prog l fn tmps assign body V.drew fun e W'=>∃ r:Bool,e=.returned (.bool r)∧((r=true∧J ((xs.zip ys).take k++[(x,y)]) W'∧Span lo hi V.drew W')∨(r=false∧Jx ((xs.zip ys).take k++[(x,y)]) W')):=by
     refine hR.mono ?_;rintro e W' (⟨rfl,h1,h2⟩|⟨rfl,h1⟩)
     ·exact ⟨true,rfl,.inl ⟨rfl,h1,h2⟩⟩
     ·exact ⟨false,rfl,.inr ⟨rfl,h1⟩⟩
    have fm:Tryz.prog.follows .mixedOrders=true:=by kernel_rfl
    gi_region_with_o (refine ⟨fun h=>(by cases h),?_⟩;refine hR2.mono ?_;rintro e W3 ⟨r,rfl,hr⟩)
    all_goals
     rcases hr with ⟨rfl,hJ3,hk3⟩|⟨rfl,hJx3⟩
     ·gi_wp2
      go_roundw
      case rel=>exact ⟨k+1,by omega,by simp,by rw [HT.out];exact hJ3,sV.trans hk3,by have:=(bV.size);have:=hk3.size;omega⟩
      case measure=>simp [intOf];omega
     ·gi_wp2
      refine bodyPost_ret (results_none rfl _ _ _) rfl ?_;exact ⟨⟨_,rfl⟩,.inr ⟨_,by rw [←HT.out];exact List.take_prefix _ _,hJx3⟩⟩
   ·have hk':k=xs.length:=by omega
    subst hk';have HJ:=hideP hJs;clear hJs
    gi_wp2
    go_end0
    refine ⟨⟨_,rfl⟩,.inl ⟨_,?_,HJ.out⟩⟩;have:=HXY.out;exact List.take_of_length_le (by rw [List.length_zip];exact Nat.min_le_left _ _)
theorem seqF (n A B lo hi:Nat) (xs ys:List Fr) (hl:xs.length≤1000000) (w:World) (hh:hi≤w.heap.size) (hP:PairsIn 3 cellsF w lo hi A B xs ys) :
  SeqStopsK Fence.wide n Tryz.prog 152 #[.pointer (some ⟨A,0,none⟩),.pointer (some ⟨B,0,none⟩)] (fun x:Fr×Fr=>#[frV x.1,frV x.2]) (Span lo hi) (fun zs=>zs=xs.zip ys) (fun pre=>pre <+: xs.zip ys) xs.length w:=
 fun l J Jx W hW hJ _ hY h0=>iterF n l A B lo hi xs ys hl J Jx W hJ (Nat.le_trans hh hW.size) hY (hP.later (Bl.span hW hh)) h0
theorem wpAnyIn_phase {F:Fence} {n:Nat} {P:Program} {md:Region.Mode} {ops:Array Oper} {Q:Exit→Act→World→Prop} {fuel:Nat} (I:Nat→Array Bool→Act→World→Prop)
  (fin:∀ l a w,I 0 l a w→wpAnyIn F n P md ops Q fuel l a w)
  (live:∀ k l a w,I (k+1) l a w→Region.ready md ops l=[]→False)
  (step:∀ k l a w i,I (k+1) l a w→l.getD i true=false→(∀ e,(∃ o,ops[i]?=some o∧e∈o.after)→Region.binds md e=true→l.getD e.on false=true)→wpOpIn F n P ops Q i (fun a' w'=>I k (l.setIfInBounds i true) a' w') a w) :
  ∀ (k:Nat) (l:Array Bool) (a:Act) (w:World),I k l a w→wpAnyIn F n P md ops Q (fuel+k) l a w
 |0,l,a,w,h=>fin l a w h
 |k+1,l,a,w,h=>⟨fun h0=>(live k l a w h h0).elim,fun i hi=>by
   obtain ⟨h1,o,ho,hall⟩:=mem_ready.1 hi;refine wpOpIn_mono (fun a' w' h'=>wpAnyIn_phase I fin live step k _ a' w' h') (step k l a w i h h1 (fun e ⟨o',ho',he⟩ hb=>?_));rw [ho] at ho';cases ho';exact hall e he hb⟩
theorem stepIn_append {F:Fence} {nF:Nat} {P:Program} {o:Oper} {a:Act} {w:World} {K:Act→World→Prop} {Q:Exit→Act→World→Prop} (s x:Operand) (t:TypeId)
  (ho:o.op=.call { callee:=.builtin .append,args:=#[s,x],argTypes:=#[t,t] })
  (base:Nat) (e:TypeId) (i:TypeInfo) (z:Value) (size bytes:Nat) (ht:P.underlying t=some (.slice e)) (hi:P.info? e=some i) (hz:i.zero=some z)
  (hsize:i.size=size) (hby:i.bytes=bytes) (hzs:z.cells.size=size) (hsz:0<size)
  (v:Value) (n:Nat) (xs:List Value) (hs:a.eval s=v) (hown:w.ownsRow base e size v n xs)
  (ad:Addr) (m c:Nat) (news:List Value) (hx:a.eval x=.slice (some ad) m c) (hl:news.length=m*size) (hnews:∀ j u,news[j]?=some u→w.cell? (ad.add j)=some u) (h1:∀ u∈news,u.oneCell'=true)
  (h63:n+m≤maxLen) (hbytes:(n+m)*bytes≤140737488355328) (hbase:base≤w.heap.size)
  (h:∀ v' w',w'.ownsRow base e size v' (n+m) (xs++news)→w.grownBy w' v.ownBlock→(v'.ownBlock=v.ownBlock∨v'.ownBlock=some w.heap.size)→K (a.put o.dst v') w') :
  Oper.wpIn F nF P o a w K Q:=by
 obtain ⟨v',w',hr,h2,h3,h4,h5⟩:=run_append_own_at (P:=P) w base t o.type e i z size bytes ht hi hz hsize hby hzs hsz v n xs hown ad m c news hl hnews h1 h63 hbytes hbase;unfold Oper.wpIn;refine ⟨by simp [Oper.about,ho,resolve,Target.leads,Sem.run_pure],?_⟩;rw [Oper.semAt_plain F _ _ (by rw [ho];intro c hc';cases hc')];simp [execOp,ho,resolve,invoke,builtin,hs,hx,hr,Result.andThen];exact h v' w' h2 h3 h5
def one' (b:Bool):Nat:=if b then 0 else 1
theorem getD_lt' {l:Array Bool} {i:Nat} (h:l.getD i true=false):i<l.size:=by
 rcases Nat.lt_or_ge i l.size with h'|h'
 ·exact h'
 ·simp [Array.getD,Nat.not_lt.2 h'] at h
def opL {α:Type} (op:α→α→α) (pre:List (α×α)):List α:=pre.map fun p=>op p.1 p.2
theorem opL_snoc {α:Type} (op:α→α→α) (pre:List (α×α)) (x:α×α):opL op (pre++[x])=opL op pre++[op x.1 x.2]:=by simp [opL]
theorem opL_zip {α:Type} (op:α→α→α) (xs ys:List α) (m:Nat) (h:m=min xs.length ys.length):opL op ((xs.take m).zip (ys.take m))=List.zipWith op xs ys:=by
 subst h
 induction xs generalizing ys with
 |nil=>simp [opL]
 |cons x xs ih =>
  cases ys with
  |nil=>simp [opL]
  |cons y ys =>
   have:=ih ys;simp only [opL,List.length_cons] at this ⊢;rw [show min (xs.length+1) (ys.length+1)=min xs.length ys.length+1 by omega];simp [List.take_succ_cons,this]
theorem boxed_bl {w w':World} {B:Nat} {t:TypeId} {v:Value} (h:Boxed w B t v) (k:Bl w w'):Boxed w' B t v:=(Below.block k B h.lt).trans h
theorem span_b {lo hi:Nat} {w:World} (hh:hi≤w.heap.size) (W:World) (l:Nat) (o o':Obj) (hl:w.heap.size≤l) (h:W.heap[l]?=some o) (_:o.isCells=false) (_:o.isWalk=false):Span lo hi W (W.putObj l o'):=
 ⟨by simp [World.putObj],fun k _ h2=>World.putObj_heap_other (by omega)⟩
theorem Bl.keeps {w w':World} (B:Nat) (h:Bl w w'):KeepsFrom B w w':=by
 refine ⟨h.size,fun k o h1 h2 h3=>?_⟩;exact (Below.block h k (Array.getElem?_eq_some_iff.1 h2).1).trans h2
theorem boxed_appended {u w5:World} {n₀ B:Nat} {t e:TypeId} {size:Nat} {v v':Value} {k m:Nat} {xs ys:List Value}
  (hv:Boxed u B t v) (hte:t≠e) (hrow:u.ownsRow n₀ e size v k xs) (hn₀:n₀≤u.heap.size) (hB:n₀≤B)
  (hown':w5.ownsRow n₀ e size v' m ys) (hgrow:u.grownBy w5 v.ownBlock) :
  Boxed w5 B t v∧Boxed (w5.setCell ⟨B,0,none⟩ v') B t v'∧(w5.setCell ⟨B,0,none⟩ v').ownsRow n₀ e size v' m ys∧KeepsOthers u (w5.setCell ⟨B,0,none⟩ v')∧Below n₀ u (w5.setCell ⟨B,0,none⟩ v'):=by
 have hv1:Boxed w5 B t v:=hv.kept hgrow (hv.not_row hte hrow);refine ⟨hv1,hv1.set v',hown'.kept (grownBy_setCell' w5 B v') (.inr (hv1.not_row hte hown').symm),?_,?_⟩
 ·refine (KeepsOthers.of_grownBy hgrow fun j o ej hj=>?_).trans (KeepsOthers.setCell _ _ _);rcases hrow.2 with ⟨rfl,_⟩|⟨g,cap,cur,rfl,_,hgb,_⟩
  ·simp [Value.ownBlock] at ej
  ·obtain rfl:g=j:=by simpa [Value.ownBlock] using ej
   rw [hgb] at hj;cases hj;rfl
 ·exact ((Below.refl n₀ u).grown hgrow hn₀ (fun j ej=>(hrow.lt j ej).1)).setCell (p:=⟨B,0,none⟩) hB v'
theorem span_appended {W u w5:World} {lo hi R:Nat} {v v':Value} (hB:Bl W u) (hh:hi≤W.heap.size) (hg:∀ g,v.ownBlock=some g→g<lo∨hi≤g) (hgrow:u.grownBy w5 v.ownBlock) (hR:R<lo):Span lo hi W (w5.setCell ⟨R,0,none⟩ v'):=by
 refine ⟨by have:=hB.size;have:=hgrow.size;simp;omega,fun k h1 h2=>?_⟩;have e1:(w5.setCell ⟨R,0,none⟩ v').heap[k]?=w5.heap[k]?:=Below.heap_setCell _ _ _ k (by show k≠R;omega);have e2:w5.heap[k]?=u.heap[k]?:=hgrow.block k (by have:=hB.size;omega) (fun e=>by rcases hg k e.symm with h|h<;>omega);exact (e1.trans e2).trans (Below.block hB k (by omega))
end Go.Proofs.YtljmggemdkfbiaaGreat
