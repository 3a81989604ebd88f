/- The contract of the document's Root. -/
import Derived.Test.YtljmggemdkfbiaaGreatWD
import Derived.Test.YtljmggemdkfbiaaGreatWC
import Derived.Test.YtljmggemdkfbiaaGreatWB
import Derived.Test.YtljmggemdkfbiaaGreatWA
import Derived.Lib.BitFns
import Derived.Lib.Strings
import Derived.Lib.Walk
import Derived.WalkKit
import Derived.Laws.MathBits
import Derived.BigQuiet
import Derived.Deep.DeepCutAuto
namespace Go.Proofs.YtljmggemdkfbiaaGreat
open Go.RowKit
set_option linter.unusedSimpArgs false
set_option linter.unusedVariables false
theorem butRF (u:World) (b:Nat) (v0 v1 v2:Value):But (fun i=>i=b) u ((((u.setCell ⟨b,0,none⟩ v0).setCell ⟨b,1,none⟩ v1).setCell ⟨b,2,none⟩ v2)):=(((but_cell1 (S:=fun i=>i=b) rfl _ _ _).trans (but_cell1 (S:=fun i=>i=b) rfl _ _ _)).trans (but_cell1 (S:=fun i=>i=b) rfl _ _ _))
theorem linJ_set9F {n i:Nat} (f:Nat→Fr) (hi:i<n) (y:Fr):(linJ n f).set i y=linJ n (fun r=>if r=i then y else f r):=by
 refine List.ext_getElem? fun k=>?_
 rw [List.getElem?_set];by_cases hk:k<n
 ·rw [linJ_get _ hk,linJ_get _ hk];by_cases e:i=k
  ·subst e;simp [linJ_len,hi]
  ·rw [if_neg e,if_neg (fun h=>e h.symm)]
 ·rw [if_neg (by omega)];rw [List.getElem?_eq_none (by rw [linJ_len];omega),List.getElem?_eq_none (by rw [linJ_len];omega)]
set_option maxRecDepth 100000 in
set_option maxHeartbeats 8000000 in
theorem rChangeF (n N g cap ge ce j0 lo:Nat) (t:StO Fr) (x:Fr) (w:World) (hd:Dim n n) (hN:N=n*n) (h:RwZ 3 cellsF w lo (.slice (some ⟨g,0,none⟩) N cap) (mk n n t.s)) (he:RwZ 3 cellsF w lo (.slice (some ⟨ge,0,none⟩) n ce) (linJ n t.e)) (hne:g≠ge) (hj0:j0<n) :
  Calls Tryz.prog 115 #[mV n n (some ⟨g,0,none⟩) N cap,.slice (some ⟨ge,0,none⟩) n ce,.int .i64 j0,frV x,frV t.a] w fun e w'=>e=.returned (frV (bO kdF t.a x))∧RwZ 3 cellsF w' lo (.slice (some ⟨g,0,none⟩) N cap) (mk n n (stepO kdF n j0 x t).s)∧RwZ 3 cellsF w' lo (.slice (some ⟨ge,0,none⟩) n ce) (linJ n (stepO kdF n j0 x t).e)∧But (fun b=>b=g∨b=ge) w w':=by
 have fm:Tryz.prog.follows .mixedOrders=true:=by kernel_rfl
 have egT:=enters_of Tryz.func113 (by kernel_rfl) rfl;have egA:=enters_of Tryz.func184 (by kernel_rfl) rfl;have egS:=enters_of Tryz.func192 (by kernel_rfl) rfl;have egM:=enters_of Tryz.func187 (by kernel_rfl) rfl;have egD:=enters_of Tryz.func185 (by kernel_rfl) rfl;have egR:=enters_of Tryz.func190 (by kernel_rfl) rfl;have mvD:=Tryz.mDivF;have mvR:=Tryz.mRootF;have hn16:=hd.r2;have HN:=hideP hN;have HD:=hideP hd;obtain ⟨av,hav⟩:∃ y,y=t.a:=⟨_,rfl⟩;obtain ⟨ww,hww⟩:∃ y,y=mulR x x:=⟨_,rfl⟩;obtain ⟨bb,hbb⟩:∃ y,y=addR av ww:=⟨_,rfl⟩;obtain ⟨q1,hq1⟩:∃ y,y=divR av bb:=⟨_,rfl⟩;obtain ⟨dd,hdd⟩:∃ y,y=rootR q1:=⟨_,rfl⟩;obtain ⟨ab,hab⟩:∃ y,y=mulR av bb:=⟨_,rfl⟩;obtain ⟨rt,hrt⟩:∃ y,y=rootR ab:=⟨_,rfl⟩;obtain ⟨cc,hcc⟩:∃ y,y=divR x rt:=⟨_,rfl⟩;have HWW:=hideP (fun u=>by have:=rmul_any x x u;rw [←hww] at this;exact this);have HBB:=hideP (fun u=>by have:=radd_any av ww u;rw [←hbb] at this;exact this);have HQ1:=hideP (fun u=>by have:=rdiv_any av bb u;rw [←hq1] at this;exact this);have HD1:=hideP (fun u=>by have:=rroot_any q1 u;rw [←hdd] at this;exact this);have HAB:=hideP (fun u=>by have:=rmul_any av bb u;rw [←hab] at this;exact this);have HRT:=hideP (fun u=>by have:=rroot_any ab u;rw [←hrt] at this;exact this);have HCC:=hideP (fun u=>by have:=rdiv_any x rt u;rw [←hcc] at this;exact this);have HAV:=hideP hav;have HBO:=hideP (show bO kdF t.a x=bb from by rw [hbb,hww,hav];rfl);have HDD:=hideP (show dd=dO kdF av x from by rw [hdd,hq1,hbb,hww];rfl);have HCCQ:=hideP (show cc=cO kdF av x from by rw [hcc,hrt,hab,hbb,hww];rfl);rw [HBO.out,←hav];clear hav hww hbb hq1 hdd hab hrt hcc;obtain ⟨W,hW⟩:∃ W,W=(((w.alloc (.cells #[.int .i64 n,.int .i64 n,.slice (some ⟨g,0,none⟩) N cap] 30)).alloc (.cells #[.int .i64 x.n,.int .i64 x.d,.bool x.bad] 34)).alloc (.cells #[.int .i64 av.n,.int .i64 av.d,.bool av.bad] 34)).alloc (.cells #[.int .i64 0,.int .i64 0,.bool false] 34):=⟨_,rfl⟩;have b0:Bl w W:=by rw [hW];exact ((((Bl.refl _).alloc _).alloc _).alloc _).alloc _
 have m0:MBox W w.heap.size n n (some ⟨g,0,none⟩) N cap:=by rw [hW];exact (MBox.new w _ _ _ _ _ _).later ((((Bl.refl _).alloc _).alloc _).alloc _)
 have kw:FBox W (w.heap.size+1) x:=by rw [hW];have:=(FBox.new (w.alloc (.cells #[.int .i64 n,.int .i64 n,.slice (some ⟨g,0,none⟩) N cap] 30)) x 34).later (((Bl.refl _).alloc (.cells #[.int .i64 av.n,.int .i64 av.d,.bool av.bad] 34)).alloc (.cells #[.int .i64 0,.int .i64 0,.bool false] 34));simp only [World.size_alloc] at this;exact this
 have ka:FBox W (w.heap.size+1+1) av:=by rw [hW];have:=(FBox.new ((w.alloc (.cells #[.int .i64 n,.int .i64 n,.slice (some ⟨g,0,none⟩) N cap] 30)).alloc (.cells #[.int .i64 x.n,.int .i64 x.d,.bool x.bad] 34)) av 34).later ((Bl.refl _).alloc (.cells #[.int .i64 0,.int .i64 0,.bool false] 34));simp only [World.size_alloc] at this;exact this
 have kz:FBox W (w.heap.size+1+1+1) zeroR:=by rw [hW];have:=(FBox.new (((w.alloc (.cells #[.int .i64 n,.int .i64 n,.slice (some ⟨g,0,none⟩) N cap] 30)).alloc (.cells #[.int .i64 x.n,.int .i64 x.d,.bool x.bad] 34)).alloc (.cells #[.int .i64 av.n,.int .i64 av.d,.bool av.bad] 34)) zeroR 34);simp only [World.size_alloc] at this;exact this
 have hWs:W.heap.size=w.heap.size+1+1+1+1:=by rw [hW];simp
 have hglt:=h.glt;have hgelt:=he.glt;have H0:=hideP (h.later b0);have E0:=hideP (he.later b0);have HW:=hideP hW;clear hW h he hd hN
 go_enter Tryz.func115,Tryz.ntmps115;go_wp2_with fail
 try simp only [World.size_alloc]
 rw [←HW.out]
 refine (wpIn_wide (n:=8)).1 (region_q fm [some 16,some 17,some 18,some 19,some 20,some 21,some 22,some 11,none] (fun _=>false) 8 (by kernel_rfl) (by rfl)
   (fun j v u=>match j with|0=>v=frV av|1=>v=.iface 34 (frV av)|2=>v=frV x|3=>v=.iface 34 (frV x)|4=>v=frV x|5=>v=frV ww|6=>v=frV bb|7=>∃ b,v=.pointer (some ⟨b,0,none⟩)∧W.heap.size≤b∧FBox u b zeroR|_=>False)
   (by
    intro j v u u' hb h;split at h<;>first|exact h|(obtain ⟨b,e,h1,h2⟩:=h;exact ⟨b,e,h1,h2.later hb⟩)|(obtain ⟨q,c,e,h1⟩:=h;exact ⟨q,c,e,h1.later hb⟩)) (fun vs u0 u=>∃ b,vs 7=.pointer (some ⟨b,0,none⟩)∧W.heap.size≤b∧FBox u b bb∧Bl W u) ?step ?still ?store ?fin)
 case step =>
  intro j o t act u ho hdt hpu hsz hu hfr hin;have hj:j<9:=l9 ho;rcases (by omega:j=0∨j=1∨j=2∨j=3∨j=4∨j=5∨j=6∨j=7∨j=8) with rfl|rfl|rfl|rfl|rfl|rfl|rfl|rfl|rfl
  ·obtain ⟨rfl,rfl⟩:=o7 ho hdt;have i9:_=Value.pointer (some ⟨w.heap.size+1+1,0,none⟩):=hfr 9 (by decide);obtain ⟨c0,c1,c2,f0,f1,f2,_⟩:=ka.later hu;exact pl9 (r:=by simp only [seval,i9];simp [go_sem,c0,c1,c2])
  ·obtain ⟨rfl,rfl⟩:=o7 ho hdt;have i16:_=frV av:=hin ⟨0,.data⟩ (by simp) rfl 16 rfl;exact pl9 (r:=by simp only [seval,i16];simp [go_sem])
  ·obtain ⟨rfl,rfl⟩:=o7 ho hdt;have i8:_=Value.pointer (some ⟨w.heap.size+1,0,none⟩):=hfr 8 (by decide);obtain ⟨c0,c1,c2,f0,f1,f2,_⟩:=kw.later hu;exact pl9 (r:=by simp only [seval,i8];simp [go_sem,c0,c1,c2])
  ·obtain ⟨rfl,rfl⟩:=o7 ho hdt;have i18:_=frV x:=hin ⟨2,.data⟩ (by simp) rfl 18 rfl;exact pl9 (r:=by simp only [seval,i18];simp [go_sem])
  ·obtain ⟨rfl,rfl⟩:=o7 ho hdt;have i8:_=Value.pointer (some ⟨w.heap.size+1,0,none⟩):=hfr 8 (by decide);obtain ⟨c0,c1,c2,f0,f1,f2,_⟩:=kw.later hu;exact pl9 (r:=by simp only [seval,i8];simp [go_sem,c0,c1,c2])
  ·obtain ⟨rfl,rfl⟩:=o7 ho hdt;have i19:_=Value.iface 34 (frV x):=hin ⟨3,.data⟩ (by simp) rfl 19 rfl;have i20:_=frV x:=hin ⟨4,.data⟩ (by simp) rfl 20 rfl;have iv:=Tryz.mMulF;refine ew9 187 #[frV x,frV x] (by simp only [seval,i19,i20];simp [invoke,iv,egM,Result.andThen,go_sem]) (HWW.out u) ?_;rintro e w' ⟨rfl,hb⟩;exact ⟨_,rfl,_,rfl,rfl,hb⟩
  ·obtain ⟨rfl,rfl⟩:=o7 ho hdt;have i17:_=Value.iface 34 (frV av):=hin ⟨1,.data⟩ (by simp) rfl 17 rfl;have i21:_=frV ww:=hin ⟨5,.data⟩ (by simp) rfl 21 rfl;have iv:=Tryz.mAddF;refine ew9 184 #[frV av,frV ww] (by simp only [seval,i17,i21];simp [invoke,iv,egA,Result.andThen,go_sem]) (HBB.out u) ?_;rintro e w' ⟨rfl,hb⟩;exact ⟨_,rfl,_,rfl,rfl,hb⟩
  ·obtain ⟨rfl,rfl⟩:=o7 ho hdt;exact pw9 (w':=u.alloc (.cells #[.int .i64 0,.int .i64 0,.bool false] 34)) (v:=.pointer (some ⟨u.heap.size,0,none⟩)) (by simp only [execOp];simp [go_sem]) ⟨_,rfl,⟨u.heap.size,rfl,hu.size,FBox.new u zeroR _⟩,(Bl.refl _).alloc _⟩
  ·obtain rfl:=o9 ho;cases hdt
 case still =>
  intro j o t act u0 u ho hdt hpu;cases hpu
 case store =>
  intro o act u vs ho hsz hu hfr hin;obtain rfl:=o9 ho;obtain ⟨i11,k11⟩:act.eval (.tmp (11:Nat))=vs 7∧(∃ b,(vs 7)=.pointer (some ⟨b,0,none⟩)∧W.heap.size≤b∧FBox u b zeroR):=hin 7 11 rfl rfl;obtain ⟨i22,k22⟩:act.eval (.tmp (22:Nat))=vs 6∧((vs 6)=frV bb):=hin 6 22 rfl rfl;obtain ⟨b,e1,hb,bx⟩:=k11;rw [e1] at i11;replace i22:=i22.trans k22;obtain ⟨c0,c1,c2,f0,f1,f2,ltb⟩:=id bx;exact sw9 (by simp only [execOp,i11,i22];simp [go_sem,zeroR,c0,c1,c2,f0,f1,f2]) ⟨rfl,b,e1,hb,bx.fill _,Bl.set3 hu hb _ _ _⟩
 case fin =>
  intro vs vb u0 u hu hin hps;have a0:=hin 0 16 rfl;have a1:=hin 1 17 rfl;have a2:=hin 2 18 rfl;have a3:=hin 3 19 rfl;have a4:=hin 4 20 rfl;have a5:=hin 5 21 rfl;have a6:=hin 6 22 rfl;have a7:=hin 7 11 rfl;simp only [seval] at a0 a1 a2 a3 a4 a5 a6 a7 ⊢;rw [if_pos (by decide)] at hps;simp only [a0,a1,a2,a3,a4,a5,a6];obtain ⟨b11,eb,hb11,kb,hbu⟩:=hps;simp only [eb];obtain ⟨w1,rfl⟩:∃ w1,w1=u:=⟨_,rfl⟩;have b1:Bl W w1:=hbu;have lt11:W.heap.size≤b11:=hb11;clear hin hu a0 a1 a2 a3 a4 a5 a6;obtain ⟨c0,c1,c2,f0,f1,f2,_⟩:=ka.later b1;obtain ⟨d0,d1,d2,g0,g1,g2,_⟩:=kb;have kb:FBox w1 b11 bb:=⟨d0,d1,d2,g0,g1,g2,by assumption⟩;go_wp2_with fail
  refine (HQ1.out _).mono ?_;rintro e w2 ⟨rfl,h2⟩;clear c0 c1 c2 f0 f1 f2 d0 d1 d2 g0 g1 g2;go_wp2_with fail
  refine (HD1.out _).mono ?_;rintro e w2' ⟨rfl,h2'⟩;obtain ⟨w3,hw3⟩:∃ w3,w3=w2'.alloc (.cells #[.int .i64 dd.n,.int .i64 dd.d,.bool dd.bad] 34):=⟨_,rfl⟩;have b2a:Bl w2' w3:=by rw [hw3];exact (Bl.refl _).alloc _
  have kd:FBox w3 w2'.heap.size dd:=by rw [hw3];exact FBox.new w2' dd _
  have b13:Bl w1 w3:=(h2.trans h2').trans b2a;have b3:Bl W w3:=b1.trans b13;obtain ⟨b12,hb12⟩:∃ b12,b12=w2'.heap.size:=⟨_,rfl⟩;have lt12:W.heap.size≤b12:=by rw [hb12];have:=(b1.trans (h2.trans h2')).size;omega
  have HW3:=hideP hw3;clear hw3;go_wp2_with fail
  rw [←HW3.out,←hb12];rw [←hb12] at kd;clear hb12
  refine (wpIn_wide (n:=8)).1 (region_q fm [some 29,some 30,some 31,some 32,some 33,some 34,some 35,some 36,some 37,some 13,none] (fun _=>false) 10 (by kernel_rfl) (by rfl)
     (fun j v u=>match j with|0=>v=frV x|1=>v=.iface 34 (frV x)|2=>v=frV av|3=>v=.iface 34 (frV av)|4=>v=frV bb|5=>v=frV ab|6=>v=.iface 34 (frV ab)|7=>v=frV rt|8=>v=frV cc|9=>∃ b,v=.pointer (some ⟨b,0,none⟩)∧w3.heap.size≤b∧FBox u b zeroR|_=>False)
     (by
      intro j v u u' hb h;split at h<;>first|exact h|(obtain ⟨b,e,h1,h2⟩:=h;exact ⟨b,e,h1,h2.later hb⟩)|(obtain ⟨q,c,e,h1⟩:=h;exact ⟨q,c,e,h1.later hb⟩)) (fun vs u0 u=>∃ b,vs 9=.pointer (some ⟨b,0,none⟩)∧w3.heap.size≤b∧FBox u b cc∧Bl w3 u) ?step ?still ?store ?fin)
  case step =>
   intro j o t act u ho hdt hpu hsz hu hfr hin;have hj:j<11:=l9 ho;rcases (by omega:j=0∨j=1∨j=2∨j=3∨j=4∨j=5∨j=6∨j=7∨j=8∨j=9∨j=10) with rfl|rfl|rfl|rfl|rfl|rfl|rfl|rfl|rfl|rfl|rfl
   ·obtain ⟨rfl,rfl⟩:=o7 ho hdt;have i8:_=Value.pointer (some ⟨w.heap.size+1,0,none⟩):=hfr 8 (by decide);obtain ⟨c0,c1,c2,f0,f1,f2,_⟩:=kw.later (b3.trans hu);exact pl9 (r:=by simp only [seval,i8];simp [go_sem,c0,c1,c2])
   ·obtain ⟨rfl,rfl⟩:=o7 ho hdt;have i29:_=frV x:=hin ⟨0,.data⟩ (by simp) rfl 29 rfl;exact pl9 (r:=by simp only [seval,i29];simp [go_sem])
   ·obtain ⟨rfl,rfl⟩:=o7 ho hdt;have i9:_=Value.pointer (some ⟨w.heap.size+1+1,0,none⟩):=hfr 9 (by decide);obtain ⟨c0,c1,c2,f0,f1,f2,_⟩:=ka.later (b3.trans hu);exact pl9 (r:=by simp only [seval,i9];simp [go_sem,c0,c1,c2])
   ·obtain ⟨rfl,rfl⟩:=o7 ho hdt;have i31:_=frV av:=hin ⟨2,.data⟩ (by simp) rfl 31 rfl;exact pl9 (r:=by simp only [seval,i31];simp [go_sem])
   ·obtain ⟨rfl,rfl⟩:=o7 ho hdt;have i11:_=Value.pointer (some ⟨b11,0,none⟩):=hfr 11 (by decide);obtain ⟨c0,c1,c2,f0,f1,f2,_⟩:=kb.later (b13.trans hu);exact pl9 (r:=by simp only [seval,i11];simp [go_sem,c0,c1,c2])
   ·obtain ⟨rfl,rfl⟩:=o7 ho hdt;have i32:_=Value.iface 34 (frV av):=hin ⟨3,.data⟩ (by simp) rfl 32 rfl;have i33:_=frV bb:=hin ⟨4,.data⟩ (by simp) rfl 33 rfl;have iv:=Tryz.mMulF;refine ew9 187 #[frV av,frV bb] (by simp only [seval,i32,i33];simp [invoke,iv,egM,Result.andThen,go_sem]) (HAB.out u) ?_;rintro e w' ⟨rfl,hb⟩;exact ⟨_,rfl,_,rfl,rfl,hb⟩
   ·obtain ⟨rfl,rfl⟩:=o7 ho hdt;have i34:_=frV ab:=hin ⟨5,.data⟩ (by simp) rfl 34 rfl;exact pl9 (r:=by simp only [seval,i34];simp [go_sem])
   ·obtain ⟨rfl,rfl⟩:=o7 ho hdt;have i35:_=Value.iface 34 (frV ab):=hin ⟨6,.data⟩ (by simp) rfl 35 rfl;have iv:=Tryz.mRootF;refine ew9 190 #[frV ab] (by simp only [seval,i35];simp [invoke,iv,egR,Result.andThen,go_sem]) (HRT.out u) ?_;rintro e w' ⟨rfl,hb⟩;exact ⟨_,rfl,_,rfl,rfl,hb⟩
   ·obtain ⟨rfl,rfl⟩:=o7 ho hdt;have i30:_=Value.iface 34 (frV x):=hin ⟨1,.data⟩ (by simp) rfl 30 rfl;have i36:_=frV rt:=hin ⟨7,.data⟩ (by simp) rfl 36 rfl;have iv:=Tryz.mDivF;refine ew9 185 #[frV x,frV rt] (by simp only [seval,i30,i36];simp [invoke,iv,egD,Result.andThen,go_sem]) (HCC.out u) ?_;rintro e w' ⟨rfl,hb⟩;exact ⟨_,rfl,_,rfl,rfl,hb⟩
   ·obtain ⟨rfl,rfl⟩:=o7 ho hdt;exact pw9 (w':=u.alloc (.cells #[.int .i64 0,.int .i64 0,.bool false] 34)) (v:=.pointer (some ⟨u.heap.size,0,none⟩)) (by simp only [execOp];simp [go_sem]) ⟨_,rfl,⟨u.heap.size,rfl,hu.size,FBox.new u zeroR _⟩,(Bl.refl _).alloc _⟩
   ·obtain rfl:=o9 ho;cases hdt
  case still =>
   intro j o t act u0 u ho hdt hpu;cases hpu
  case store =>
   intro o act u vs ho hsz hu hfr hin;obtain rfl:=o9 ho;obtain ⟨i13,k13⟩:act.eval (.tmp (13:Nat))=vs 9∧(∃ b,(vs 9)=.pointer (some ⟨b,0,none⟩)∧w3.heap.size≤b∧FBox u b zeroR):=hin 9 13 rfl rfl;obtain ⟨i37,k37⟩:act.eval (.tmp (37:Nat))=vs 8∧((vs 8)=frV cc):=hin 8 37 rfl rfl;obtain ⟨b,e1,hb,bx⟩:=k13;rw [e1] at i13;replace i37:=i37.trans k37;obtain ⟨c0,c1,c2,f0,f1,f2,ltb⟩:=id bx;exact sw9 (by simp only [execOp,i13,i37];simp [go_sem,zeroR,c0,c1,c2,f0,f1,f2]) ⟨rfl,b,e1,hb,bx.fill _,Bl.set3 hu hb _ _ _⟩
  case fin =>
   intro vs vb u0 u hu hin hps;have a0:=hin 0 29 rfl;have a1:=hin 1 30 rfl;have a2:=hin 2 31 rfl;have a3:=hin 3 32 rfl;have a4:=hin 4 33 rfl;have a5:=hin 5 34 rfl;have a6:=hin 6 35 rfl;have a7:=hin 7 36 rfl;have a8:=hin 8 37 rfl;have a9:=hin 9 13 rfl;simp only [seval] at a0 a1 a2 a3 a4 a5 a6 a7 a8 a9 ⊢;rw [if_pos (by decide)] at hps;simp only [a0,a1,a2,a3,a4,a5,a6,a7,a8];obtain ⟨b13',eb,hb13,kc,hbu⟩:=hps;simp only [eb];obtain ⟨w5,rfl⟩:∃ w5,w5=u:=⟨_,rfl⟩;have b35:Bl w3 w5:=hbu;have b5:Bl W w5:=b3.trans hbu;have B5:Bl W w5:=b5;have b05:Bl W W:=Bl.refl _;have b15':Bl w1 w5:=b13.trans hbu;have lt13:w3.heap.size≤b13':=hb13;have lt12:=lt12;clear hin hu a0 a1 a2 a3 a4 a5 a6 a7 a8;go_wp2_with fail
   go_loopw [14] (fun v wr=>∃ i:Nat,v=.int .i64 i∧j0≤i∧i≤n∧RwZ 3 cellsF wr lo (.slice (some ⟨g,0,none⟩) N cap) (mk n n (partS kdF j0 i x t))∧RwZ 3 cellsF wr lo (.slice (some ⟨ge,0,none⟩) n ce) (linJ n (partE kdF j0 i x t))∧But (fun b=>b=g∨b=ge) w5 wr) (fun v _=>n-(intOf v).toNat)
   case atStart=>exact ⟨j0,rfl,Nat.le_refl _,by omega,by rw [partS_zero];exact H0.out.later B5,by rw [partE_zero];exact E0.out.later B5,But.refl _ _⟩
   case round =>
    obtain ⟨i,rfl,hji,hin,hr,he,bt⟩:=hrel;have HR:=hideP hr;have HE:=hideP he;clear hr he;have mb:MBox wr w.heap.size n n (some ⟨g,0,none⟩) N cap:=(m0.later b5).but bt (by have:=hglt;have:=hgelt;omega);by_cases hlt:i<n
    ·obtain ⟨a,q,e1,e2,hq1,hq3,hq5,hq6⟩:=place HD.out hlt hj0;rw [←HN.out] at hq5;have HPQ:=hideP e2;clear e1 e2;obtain ⟨y,hy⟩:∃ y,y=t.s i j0:=⟨_,rfl⟩;obtain ⟨ei,hei⟩:∃ y,y=t.e i:=⟨_,rfl⟩;obtain ⟨yd,hyd⟩:∃ z,z=mulR y dd:=⟨_,rfl⟩;obtain ⟨ec,hec⟩:∃ z,z=mulR ei cc:=⟨_,rfl⟩;obtain ⟨sn,hsn⟩:∃ z,z=subR yd ec:=⟨_,rfl⟩;obtain ⟨yx,hyx⟩:∃ z,z=mulR y x:=⟨_,rfl⟩;obtain ⟨en,hen⟩:∃ z,z=addR ei yx:=⟨_,rfl⟩;have HSNQ:=hideP (show sO kdF t.a x (t.s i j0) (t.e i)=sn from by rw [hsn,hyd,hec,hy,hei,HDD.out,HCCQ.out,HAV.out];rfl);have HENQ:=hideP (show kdF.add (t.e i) (kdF.mul (t.s i j0) x)=en from by rw [hen,hyx,hy,hei];rfl);have HEIQ:=hideP hei;have AT:=hideP (fun u (hu:Bl wr u)=>by have:=mAtF n n (some ⟨g,0,none⟩) N cap (partS kdF j0 i x t) u ⟨HD.out,HN.out,(HR.out.later hu).rw.q⟩ i j0 hlt hj0;rw [partS_at,←hy] at this;exact this);have HYD:=hideP (fun u=>by have:=rmul_any y dd u;rw [←hyd] at this;exact this);have HEC:=hideP (fun u=>by have:=rmul_any ei cc u;rw [←hec] at this;exact this);have HSN:=hideP (fun u=>by have:=rsub_any yd ec u;rw [←hsn] at this;exact this);have HYX:=hideP (fun u=>by have:=rmul_any y x u;rw [←hyx] at this;exact this);have HEN:=hideP (fun u=>by have:=radd_any ei yx u;rw [←hen] at this;exact this);have HYQ:=hideP hy;clear hy hei hyd hec hsn hyx hen;obtain ⟨m0',m1',m2',_,_,_,_⟩:=id mb;go_wp2_with fail
     refine (AT.out _ (Bl.refl _)).mono ?_;rintro e w7 ⟨rfl,h7⟩;clear m0' m1' m2';obtain ⟨W7,hW7⟩:∃ W7,W7=w7.alloc (.cells #[.int .i64 y.n,.int .i64 y.d,.bool y.bad] 34):=⟨_,rfl⟩;have b7:Bl w7 W7:=by rw [hW7];exact (Bl.refl _).alloc _
     have ky7:FBox W7 w7.heap.size y:=by rw [hW7];exact FBox.new w7 y _
     have b7r:Bl wr W7:=h7.trans b7;have hgl7:g<w7.heap.size:=Nat.lt_of_lt_of_le HR.out.glt h7.size;have bt7:But (fun b=>b=g∨b=ge) w5 W7:=bt.trans (But.of_bl b7r);have km7:=mb.later b7r;have kw7:FBox W7 (w.heap.size+1) x:=((kw.later b5).but bt (by have:=hglt;have:=hgelt;omega)).later b7r;have kd7:FBox W7 b12 dd:=((kd.later b35).but bt (by have:=hglt;have:=hgelt;have:=lt12;omega)).later b7r;have kc7:FBox W7 b13' cc:=(kc.but bt (by have:=hglt;have:=hgelt;have:=lt13;have:=b3.size;omega)).later b7r;have HR7:=hideP (HR.out.later b7r);have HE7:=hideP (HE.out.later b7r);have hgl:g<W7.heap.size:=HR7.out.glt;have hgel:ge<W7.heap.size:=HE7.out.glt;have bws:w.heap.size+1+1+1+1≤w5.heap.size:=by have:=(b05.trans b5).size;omega
     have CG:=hideP (show ∀ j u,(cellsF y)[j]?=some u→W7.cell? ⟨g,q*3+j,none⟩=some u from fun j u hu=>by
      obtain ⟨g',c',e,_,_,_,_,hc⟩:=HR7.out;cases e;exact hc q y (by rw [HPQ.out,mk_get _ hlt hj0,partS_at,HYQ.out]) j u hu)
     have FG:=hideP (show ∀ j,W7.frozen? ⟨g,j,none⟩=false from fun j=>by
      obtain ⟨g',c',e,_,_,_,hf,_⟩:=HR7.out;cases e;exact hf j)
     have CE:=hideP (show ∀ j u,(cellsF ei)[j]?=some u→W7.cell? ⟨ge,i*3+j,none⟩=some u from fun j u hu=>by
      obtain ⟨g',c',e,_,_,_,_,hc⟩:=HE7.out;simp only [Value.slice.injEq,Option.some.injEq,Addr.mk.injEq] at e;obtain ⟨⟨rfl,_⟩,_,rfl⟩:=e;exact hc i ei (by rw [linJ_get _ hlt,partE_at,HEIQ.out]) j u hu)
     have WA:IntKind.i64.wrap (a:Int)=a:=wrapS7 (by omega) (by have:=HD.out.lt;have:=HN.out;omega);have WQ:IntKind.i64.wrap (q:Int)=q:=wrapS7 (by omega) (by have:=HD.out.lt;have:=HN.out;omega);have HW7:=hideP hW7;clear hW7;go_wp2_with fail
     rw [←HW7.out]
     refine (wpIn_wide (n:=8)).1 (region_q fm [some 49,some 50,some 51,some 52,some 53,some 54,some 55,some 56,some 57,some 58,some 59,some 60,some 61,some 62,some 63,some 64,some 65,some 66,some 67,some 68,some 69,some 70,none] (fun _=>false) 22 (by kernel_rfl) (by rfl)
       (fun j v u=>match j with|0=>v=.pointer (some ⟨w.heap.size,2,none⟩)|1=>v=.slice (some ⟨g,0,none⟩) N cap|2=>v=.int .i64 i|3=>v=.pointer (some ⟨w.heap.size,1,none⟩)|4=>v=.int .i64 n|5=>v=.int .i64 a|6=>v=.int .i64 j0|7=>v=.int .i64 q|8=>v=frV y|9=>v=.iface 34 (frV y)|10=>v=frV dd|11=>v=frV yd|12=>v=.iface 34 (frV yd)|13=>v=.slice (some ⟨ge,0,none⟩) n ce|14=>v=.int .i64 i|15=>v=.pointer (some ⟨ge,i*3,none⟩)|16=>v=frV ei|17=>v=.iface 34 (frV ei)|18=>v=frV cc|19=>v=frV ec|20=>v=frV sn|21=>v=.pointer (some ⟨g,q*3,none⟩)|_=>False)
       (fun j v u u' _ h=>h) (fun vs u0 u=>u=u0.setCells g (q*3) (cellsF sn)) ?step ?still ?store ?fin)
     case step =>
      intro j o t act u ho hdt hpu hsz hu hfr hin;have hj:j<23:=l9 ho;obtain ⟨m0,m1,m2,_,_,_,_⟩:=km7.later hu;have ee0:u.cell? ⟨ge,i*3,none⟩=some (.int .i64 ei.n):=(bl_cell hu _ _ hgel).trans (CE.out 0 _ rfl);have ee1:u.cell? ⟨ge,i*3+1,none⟩=some (.int .i64 ei.d):=(bl_cell hu _ _ hgel).trans (CE.out 1 _ rfl);have ee2:u.cell? ⟨ge,i*3+2,none⟩=some (.bool ei.bad):=(bl_cell hu _ _ hgel).trans (CE.out 2 _ rfl);have gg0:u.cell? ⟨g,q*3,none⟩=some (.int .i64 y.n):=(bl_cell hu _ _ hgl).trans (CG.out 0 _ rfl);have fg0:u.frozen? ⟨g,q*3,none⟩=false:=(bl_froz hu _ _ hgl).trans (FG.out _);have gg1:u.cell? ⟨g,q*3+1,none⟩=some (.int .i64 y.d):=(bl_cell hu _ _ hgl).trans (CG.out 1 _ rfl);have fg1:u.frozen? ⟨g,q*3+1,none⟩=false:=(bl_froz hu _ _ hgl).trans (FG.out _);have gg2:u.cell? ⟨g,q*3+2,none⟩=some (.bool y.bad):=(bl_cell hu _ _ hgl).trans (CG.out 2 _ rfl);have fg2:u.frozen? ⟨g,q*3+2,none⟩=false:=(bl_froz hu _ _ hgl).trans (FG.out _);rcases (by omega:j=0∨j=1∨j=2∨j=3∨j=4∨j=5∨j=6∨j=7∨j=8∨j=9∨j=10∨j=11∨j=12∨j=13∨j=14∨j=15∨j=16∨j=17∨j=18∨j=19∨j=20∨j=21∨j=22) with rfl|rfl|rfl|rfl|rfl|rfl|rfl|rfl|rfl|rfl|rfl|rfl|rfl|rfl|rfl|rfl|rfl|rfl|rfl|rfl|rfl|rfl|rfl
      ·obtain ⟨rfl,rfl⟩:=o7 ho hdt;have i5:_=Value.pointer (some ⟨w.heap.size,0,none⟩):=hfr 5 (by decide);exact pl9 (r:=by simp only [seval,i5];simp [go_sem,m0,m1,m2])
      ·obtain ⟨rfl,rfl⟩:=o7 ho hdt;have i49:_=Value.pointer (some ⟨w.heap.size,2,none⟩):=hin ⟨0,.data⟩ (by simp) rfl 49 rfl;exact pl9 (r:=by simp only [seval,i49];simp [go_sem,m0,m1,m2])
      ·obtain ⟨rfl,rfl⟩:=o7 ho hdt;have i14:_=Value.int .i64 i:=hfr 14 (by decide);exact pl9 (r:=by simp only [seval,i14];simp [go_sem,m0])
      ·obtain ⟨rfl,rfl⟩:=o7 ho hdt;have i5:_=Value.pointer (some ⟨w.heap.size,0,none⟩):=hfr 5 (by decide);exact pl9 (r:=by simp only [seval,i5];simp [go_sem,m0,m1,m2])
      ·obtain ⟨rfl,rfl⟩:=o7 ho hdt;have i52:_=Value.pointer (some ⟨w.heap.size,1,none⟩):=hin ⟨3,.data⟩ (by simp) rfl 52 rfl;exact pl9 (r:=by simp only [seval,i52];simp [go_sem,m0,m1,m2])
      ·obtain ⟨rfl,rfl⟩:=o7 ho hdt;have i51:_=Value.int .i64 i:=hin ⟨2,.data⟩ (by simp) rfl 51 rfl;have i53:_=Value.int .i64 n:=hin ⟨4,.data⟩ (by simp) rfl 53 rfl;exact pl9 (r:=by simp only [seval,i51,i53];simp [go_sem,hq1,WA])
      ·obtain ⟨rfl,rfl⟩:=o7 ho hdt;have i2:_=Value.int .i64 j0:=hfr 2 (by decide);exact pl9 (r:=by simp only [seval,i2];simp [go_sem,m0])
      ·obtain ⟨rfl,rfl⟩:=o7 ho hdt;have i54:_=Value.int .i64 a:=hin ⟨5,.data⟩ (by simp) rfl 54 rfl;have i55:_=Value.int .i64 j0:=hin ⟨6,.data⟩ (by simp) rfl 55 rfl;exact pl9 (r:=by simp only [seval,i54,i55];simp [go_sem,hq3,WQ])
      ·obtain ⟨rfl,rfl⟩:=o7 ho hdt;have i15:_=Value.pointer (some ⟨w7.heap.size,0,none⟩):=hfr 15 (by decide);obtain ⟨c0,c1,c2,f0,f1,f2,_⟩:=ky7.later hu;exact pl9 (r:=by simp only [seval,i15];simp [go_sem,c0,c1,c2])
      ·obtain ⟨rfl,rfl⟩:=o7 ho hdt;have i57:_=frV y:=hin ⟨8,.data⟩ (by simp) rfl 57 rfl;exact pl9 (r:=by simp only [seval,i57];simp [go_sem])
      ·obtain ⟨rfl,rfl⟩:=o7 ho hdt;have i12:_=Value.pointer (some ⟨b12,0,none⟩):=hfr 12 (by decide);obtain ⟨c0,c1,c2,f0,f1,f2,_⟩:=kd7.later hu;exact pl9 (r:=by simp only [seval,i12];simp [go_sem,c0,c1,c2])
      ·obtain ⟨rfl,rfl⟩:=o7 ho hdt;have i58:_=Value.iface 34 (frV y):=hin ⟨9,.data⟩ (by simp) rfl 58 rfl;have i59:_=frV dd:=hin ⟨10,.data⟩ (by simp) rfl 59 rfl;have iv:=Tryz.mMulF;refine ew9 187 #[frV y,frV dd] (by simp only [seval,i58,i59];simp [invoke,iv,egM,Result.andThen,go_sem]) (HYD.out u) ?_;rintro e w' ⟨rfl,hb⟩;exact ⟨_,rfl,_,rfl,rfl,hb⟩
      ·obtain ⟨rfl,rfl⟩:=o7 ho hdt;have i60:_=frV yd:=hin ⟨11,.data⟩ (by simp) rfl 60 rfl;exact pl9 (r:=by simp only [seval,i60];simp [go_sem])
      ·obtain ⟨rfl,rfl⟩:=o7 ho hdt;have i1:_=Value.slice (some ⟨ge,0,none⟩) n ce:=hfr 1 (by decide);exact pl9 (r:=by simp only [seval,i1];simp [go_sem,m0])
      ·obtain ⟨rfl,rfl⟩:=o7 ho hdt;have i14:_=Value.int .i64 i:=hfr 14 (by decide);exact pl9 (r:=by simp only [seval,i14];simp [go_sem,m0])
      ·obtain ⟨rfl,rfl⟩:=o7 ho hdt;have i62:_=Value.slice (some ⟨ge,0,none⟩) n ce:=hin ⟨13,.data⟩ (by simp) rfl 62 rfl;have i63:_=Value.int .i64 i:=hin ⟨14,.data⟩ (by simp) rfl 63 rfl;exact pl9 (r:=by simp only [seval,i62,i63];simp [go_sem,hlt,ee0,ee1,ee2])
      ·obtain ⟨rfl,rfl⟩:=o7 ho hdt;have i64:_=Value.pointer (some ⟨ge,i*3,none⟩):=hin ⟨15,.data⟩ (by simp) rfl 64 rfl;exact pl9 (r:=by simp only [seval,i64];simp [go_sem,ee0,ee1,ee2])
      ·obtain ⟨rfl,rfl⟩:=o7 ho hdt;have i65:_=frV ei:=hin ⟨16,.data⟩ (by simp) rfl 65 rfl;exact pl9 (r:=by simp only [seval,i65];simp [go_sem])
      ·obtain ⟨rfl,rfl⟩:=o7 ho hdt;have i13:_=Value.pointer (some ⟨b13',0,none⟩):=hfr 13 (by decide);obtain ⟨c0,c1,c2,f0,f1,f2,_⟩:=kc7.later hu;exact pl9 (r:=by simp only [seval,i13];simp [go_sem,c0,c1,c2])
      ·obtain ⟨rfl,rfl⟩:=o7 ho hdt;have i66:_=Value.iface 34 (frV ei):=hin ⟨17,.data⟩ (by simp) rfl 66 rfl;have i67:_=frV cc:=hin ⟨18,.data⟩ (by simp) rfl 67 rfl;have iv:=Tryz.mMulF;refine ew9 187 #[frV ei,frV cc] (by simp only [seval,i66,i67];simp [invoke,iv,egM,Result.andThen,go_sem]) (HEC.out u) ?_;rintro e w' ⟨rfl,hb⟩;exact ⟨_,rfl,_,rfl,rfl,hb⟩
      ·obtain ⟨rfl,rfl⟩:=o7 ho hdt;have i61:_=Value.iface 34 (frV yd):=hin ⟨12,.data⟩ (by simp) rfl 61 rfl;have i68:_=frV ec:=hin ⟨19,.data⟩ (by simp) rfl 68 rfl;have iv:=Tryz.mSubF;refine ew9 192 #[frV yd,frV ec] (by simp only [seval,i61,i68];simp [invoke,iv,egS,Result.andThen,go_sem]) (HSN.out u) ?_;rintro e w' ⟨rfl,hb⟩;exact ⟨_,rfl,_,rfl,rfl,hb⟩
      ·obtain ⟨rfl,rfl⟩:=o7 ho hdt;have i50:_=Value.slice (some ⟨g,0,none⟩) N cap:=hin ⟨1,.data⟩ (by simp) rfl 50 rfl;have i56:_=Value.int .i64 q:=hin ⟨7,.data⟩ (by simp) rfl 56 rfl;exact pl9 (r:=by simp only [seval,i50,i56];simp [go_sem,hq5,gg0,fg0,gg1,fg1,gg2,fg2])
      ·obtain rfl:=o9 ho;cases hdt
     case still =>
      intro j o t act u0 u ho hdt hpu;cases hpu
     case store =>
      intro o act u vs ho hsz hu hfr hin;obtain rfl:=o9 ho;obtain ⟨i69,k69⟩:act.eval (.tmp (69:Nat))=vs 20∧((vs 20)=frV sn):=hin 20 69 rfl rfl;obtain ⟨i70,k70⟩:act.eval (.tmp (70:Nat))=vs 21∧((vs 21)=.pointer (some ⟨g,q*3,none⟩)):=hin 21 70 rfl rfl;have gg0:u.cell? ⟨g,q*3,none⟩=some (.int .i64 y.n):=(bl_cell hu _ _ hgl).trans (CG.out 0 _ rfl);have fg0:u.frozen? ⟨g,q*3,none⟩=false:=(bl_froz hu _ _ hgl).trans (FG.out _);have gg1:u.cell? ⟨g,q*3+1,none⟩=some (.int .i64 y.d):=(bl_cell hu _ _ hgl).trans (CG.out 1 _ rfl);have fg1:u.frozen? ⟨g,q*3+1,none⟩=false:=(bl_froz hu _ _ hgl).trans (FG.out _);have gg2:u.cell? ⟨g,q*3+2,none⟩=some (.bool y.bad):=(bl_cell hu _ _ hgl).trans (CG.out 2 _ rfl);have fg2:u.frozen? ⟨g,q*3+2,none⟩=false:=(bl_froz hu _ _ hgl).trans (FG.out _);replace i70:=i70.trans k70;replace i69:=i69.trans k69;exact sw9 (by simp only [execOp,i70,i69];simp [go_sem,gg0,fg0,gg1,fg1,gg2,fg2];rfl) ⟨rfl,rfl⟩
     case fin =>
      intro vs vb u0 u hu hin hps;have a0:=hin 0 49 rfl;have a1:=hin 1 50 rfl;have a2:=hin 2 51 rfl;have a3:=hin 3 52 rfl;have a4:=hin 4 53 rfl;have a5:=hin 5 54 rfl;have a6:=hin 6 55 rfl;have a7:=hin 7 56 rfl;have a8:=hin 8 57 rfl;have a9:=hin 9 58 rfl;have a10:=hin 10 59 rfl;have a11:=hin 11 60 rfl;have a12:=hin 12 61 rfl;have a13:=hin 13 62 rfl;have a14:=hin 14 63 rfl;have a15:=hin 15 64 rfl;have a16:=hin 16 65 rfl;have a17:=hin 17 66 rfl;have a18:=hin 18 67 rfl;have a19:=hin 19 68 rfl;have a20:=hin 20 69 rfl;have a21:=hin 21 70 rfl;simp only [seval] at a0 a1 a2 a3 a4 a5 a6 a7 a8 a9 a10 a11 a12 a13 a14 a15 a16 a17 a18 a19 a20 a21 ⊢;rw [if_pos (by decide)] at hps;simp only [a0,a1,a2,a3,a4,a5,a6,a7,a8,a9,a10,a11,a12,a13,a14,a15,a16,a17,a18,a19,a20,a21];have hq':q<(mk n n (partS kdF j0 i x t)).length:=by rw [mk_len,←HN.out];exact hq5
      have PUT:=hideP ((HR7.out.later hu).putAt cellsF_len hq' sn);rw [HPQ.out,mk_put hlt hj0,←HPQ.out,←hps] at PUT;obtain ⟨w8,hw8⟩:∃ w8,w8=u:=⟨_,rfl⟩;subst hw8;have HS8:=hideP (show RwZ 3 cellsF w8 lo (.slice (some ⟨g,0,none⟩) N cap) (mk n n (partS kdF j0 (i+1) x t)) from by rw [partS_next kdF hji,HSNQ.out];exact PUT.out);have HE8:=hideP (show RwZ 3 cellsF w8 lo (.slice (some ⟨ge,0,none⟩) n ce) (linJ n (partE kdF j0 i x t)) from by rw [hps];exact (HE7.out.later hu).but (S:=fun b=>b=g) (but_setCells (S:=fun b=>b=g) (b:=g) rfl _ _ _ _ (But.refl _ _)) (fun b hb=>by cases hb;exact fun e=>hne e.symm));have bt78:But (fun b=>b=g) W7 w8:=by rw [hps];exact (But.of_bl hu).trans (but_setCells (S:=fun b=>b=g) (b:=g) rfl _ _ _ _ (But.refl _ _))
      have bt8:But (fun b=>b=g∨b=ge) w5 w8:=bt7.trans (bt78.mono fun _ h=>.inl h);have kw8:FBox w8 (w.heap.size+1) x:=kw7.but bt78 (by have:=hglt;have:=bws;omega);have ky8:FBox w8 w7.heap.size y:=ky7.but bt78 (by have:=hgl7;omega);have CE8:=hideP (show ∀ j u,(cellsF ei)[j]?=some u→w8.cell? ⟨ge,i*3+j,none⟩=some u from fun j u hu=>by
       obtain ⟨g',c',e,_,_,_,_,hc⟩:=HE8.out;simp only [Value.slice.injEq,Option.some.injEq,Addr.mk.injEq] at e;obtain ⟨⟨rfl,_⟩,_,rfl⟩:=e;exact hc i ei (by rw [linJ_get _ hlt,partE_at,HEIQ.out]) j u hu)
      have FE8:=hideP (show ∀ j,w8.frozen? ⟨ge,j,none⟩=false from fun j=>by
       obtain ⟨g',c',e,_,_,_,hf,_⟩:=HE8.out;simp only [Value.slice.injEq,Option.some.injEq,Addr.mk.injEq] at e;obtain ⟨⟨rfl,_⟩,_,rfl⟩:=e;exact hf j)
      have hgel8:ge<w8.heap.size:=HE8.out.glt;clear hps hu PUT CE FG CG km7 kd7 kc7 kw7 ky7;go_wp2_with fail
      refine (wpIn_wide (n:=8)).1 (region_q fm [some 71,some 72,some 73,some 74,some 75,some 76,some 77,some 78,some 79,some 80,some 81,some 82,some 83,none] (fun _=>false) 13 (by kernel_rfl) (by rfl)
           (fun j v u=>match j with|0=>v=.slice (some ⟨ge,0,none⟩) n ce|1=>v=.int .i64 i|2=>v=.slice (some ⟨ge,0,none⟩) n ce|3=>v=.int .i64 i|4=>v=.pointer (some ⟨ge,i*3,none⟩)|5=>v=frV ei|6=>v=.iface 34 (frV ei)|7=>v=frV y|8=>v=.iface 34 (frV y)|9=>v=frV x|10=>v=frV yx|11=>v=frV en|12=>v=.pointer (some ⟨ge,i*3,none⟩)|_=>False)
           (fun j v u u' _ h=>h) (fun vs u0 u=>u=u0.setCells ge (i*3) (cellsF en)) ?step ?still ?store ?fin)
      case step =>
       intro j o t act u ho hdt hpu hsz hu hfr hin;have hj:j<14:=l9 ho;have ee0:u.cell? ⟨ge,i*3,none⟩=some (.int .i64 ei.n):=(bl_cell hu _ _ hgel8).trans (CE8.out 0 _ rfl);have fe0:u.frozen? ⟨ge,i*3,none⟩=false:=(bl_froz hu _ _ hgel8).trans (FE8.out _);have ee1:u.cell? ⟨ge,i*3+1,none⟩=some (.int .i64 ei.d):=(bl_cell hu _ _ hgel8).trans (CE8.out 1 _ rfl);have fe1:u.frozen? ⟨ge,i*3+1,none⟩=false:=(bl_froz hu _ _ hgel8).trans (FE8.out _);have ee2:u.cell? ⟨ge,i*3+2,none⟩=some (.bool ei.bad):=(bl_cell hu _ _ hgel8).trans (CE8.out 2 _ rfl);have fe2:u.frozen? ⟨ge,i*3+2,none⟩=false:=(bl_froz hu _ _ hgel8).trans (FE8.out _);rcases (by omega:j=0∨j=1∨j=2∨j=3∨j=4∨j=5∨j=6∨j=7∨j=8∨j=9∨j=10∨j=11∨j=12∨j=13) with rfl|rfl|rfl|rfl|rfl|rfl|rfl|rfl|rfl|rfl|rfl|rfl|rfl|rfl
       ·obtain ⟨rfl,rfl⟩:=o7 ho hdt;have i1:_=Value.slice (some ⟨ge,0,none⟩) n ce:=hfr 1 (by decide);exact pl9 (r:=by simp only [seval,i1];simp [go_sem,hlt])
       ·obtain ⟨rfl,rfl⟩:=o7 ho hdt;have i14:_=Value.int .i64 i:=hfr 14 (by decide);exact pl9 (r:=by simp only [seval,i14];simp [go_sem,hlt])
       ·obtain ⟨rfl,rfl⟩:=o7 ho hdt;have i1:_=Value.slice (some ⟨ge,0,none⟩) n ce:=hfr 1 (by decide);exact pl9 (r:=by simp only [seval,i1];simp [go_sem,hlt])
       ·obtain ⟨rfl,rfl⟩:=o7 ho hdt;have i14:_=Value.int .i64 i:=hfr 14 (by decide);exact pl9 (r:=by simp only [seval,i14];simp [go_sem,hlt])
       ·obtain ⟨rfl,rfl⟩:=o7 ho hdt;have i73:_=Value.slice (some ⟨ge,0,none⟩) n ce:=hin ⟨2,.data⟩ (by simp) rfl 73 rfl;have i74:_=Value.int .i64 i:=hin ⟨3,.data⟩ (by simp) rfl 74 rfl;exact pl9 (r:=by simp only [seval,i73,i74];simp [go_sem,hlt,ee0,ee1,ee2])
       ·obtain ⟨rfl,rfl⟩:=o7 ho hdt;have i75:_=Value.pointer (some ⟨ge,i*3,none⟩):=hin ⟨4,.data⟩ (by simp) rfl 75 rfl;exact pl9 (r:=by simp only [seval,i75];simp [go_sem,ee0,ee1,ee2])
       ·obtain ⟨rfl,rfl⟩:=o7 ho hdt;have i76:_=frV ei:=hin ⟨5,.data⟩ (by simp) rfl 76 rfl;exact pl9 (r:=by simp only [seval,i76];simp [go_sem])
       ·obtain ⟨rfl,rfl⟩:=o7 ho hdt;have i15:_=Value.pointer (some ⟨w7.heap.size,0,none⟩):=hfr 15 (by decide);obtain ⟨c0,c1,c2,f0,f1,f2,_⟩:=ky8.later hu;exact pl9 (r:=by simp only [seval,i15];simp [go_sem,c0,c1,c2])
       ·obtain ⟨rfl,rfl⟩:=o7 ho hdt;have i78:_=frV y:=hin ⟨7,.data⟩ (by simp) rfl 78 rfl;exact pl9 (r:=by simp only [seval,i78];simp [go_sem])
       ·obtain ⟨rfl,rfl⟩:=o7 ho hdt;have i8:_=Value.pointer (some ⟨w.heap.size+1,0,none⟩):=hfr 8 (by decide);obtain ⟨c0,c1,c2,f0,f1,f2,_⟩:=kw8.later hu;exact pl9 (r:=by simp only [seval,i8];simp [go_sem,c0,c1,c2])
       ·obtain ⟨rfl,rfl⟩:=o7 ho hdt;have i79:_=Value.iface 34 (frV y):=hin ⟨8,.data⟩ (by simp) rfl 79 rfl;have i80:_=frV x:=hin ⟨9,.data⟩ (by simp) rfl 80 rfl;have iv:=Tryz.mMulF;refine ew9 187 #[frV y,frV x] (by simp only [seval,i79,i80];simp [invoke,iv,egM,Result.andThen,go_sem]) (HYX.out u) ?_;rintro e w' ⟨rfl,hb⟩;exact ⟨_,rfl,_,rfl,rfl,hb⟩
       ·obtain ⟨rfl,rfl⟩:=o7 ho hdt;have i77:_=Value.iface 34 (frV ei):=hin ⟨6,.data⟩ (by simp) rfl 77 rfl;have i81:_=frV yx:=hin ⟨10,.data⟩ (by simp) rfl 81 rfl;have iv:=Tryz.mAddF;refine ew9 184 #[frV ei,frV yx] (by simp only [seval,i77,i81];simp [invoke,iv,egA,Result.andThen,go_sem]) (HEN.out u) ?_;rintro e w' ⟨rfl,hb⟩;exact ⟨_,rfl,_,rfl,rfl,hb⟩
       ·obtain ⟨rfl,rfl⟩:=o7 ho hdt;have i71:_=Value.slice (some ⟨ge,0,none⟩) n ce:=hin ⟨0,.data⟩ (by simp) rfl 71 rfl;have i72:_=Value.int .i64 i:=hin ⟨1,.data⟩ (by simp) rfl 72 rfl;exact pl9 (r:=by simp only [seval,i71,i72];simp [go_sem,hlt,ee0,ee1,ee2])
       ·obtain rfl:=o9 ho;cases hdt
      case still =>
       intro j o t act u0 u ho hdt hpu;cases hpu
      case store =>
       intro o act u vs ho hsz hu hfr hin;obtain rfl:=o9 ho;obtain ⟨i82,k82⟩:act.eval (.tmp (82:Nat))=vs 11∧((vs 11)=frV en):=hin 11 82 rfl rfl;obtain ⟨i83,k83⟩:act.eval (.tmp (83:Nat))=vs 12∧((vs 12)=.pointer (some ⟨ge,i*3,none⟩)):=hin 12 83 rfl rfl;have ee0:u.cell? ⟨ge,i*3,none⟩=some (.int .i64 ei.n):=(bl_cell hu _ _ hgel8).trans (CE8.out 0 _ rfl);have fe0:u.frozen? ⟨ge,i*3,none⟩=false:=(bl_froz hu _ _ hgel8).trans (FE8.out _);have ee1:u.cell? ⟨ge,i*3+1,none⟩=some (.int .i64 ei.d):=(bl_cell hu _ _ hgel8).trans (CE8.out 1 _ rfl);have fe1:u.frozen? ⟨ge,i*3+1,none⟩=false:=(bl_froz hu _ _ hgel8).trans (FE8.out _);have ee2:u.cell? ⟨ge,i*3+2,none⟩=some (.bool ei.bad):=(bl_cell hu _ _ hgel8).trans (CE8.out 2 _ rfl);have fe2:u.frozen? ⟨ge,i*3+2,none⟩=false:=(bl_froz hu _ _ hgel8).trans (FE8.out _);replace i83:=i83.trans k83;replace i82:=i82.trans k82;exact sw9 (by simp only [execOp,i83,i82];simp [go_sem,ee0,fe0,ee1,fe1,ee2,fe2];rfl) ⟨rfl,rfl⟩
      case fin =>
       intro vs vb u0 u hu hin hps;have a0:=hin 0 71 rfl;have a1:=hin 1 72 rfl;have a2:=hin 2 73 rfl;have a3:=hin 3 74 rfl;have a4:=hin 4 75 rfl;have a5:=hin 5 76 rfl;have a6:=hin 6 77 rfl;have a7:=hin 7 78 rfl;have a8:=hin 8 79 rfl;have a9:=hin 9 80 rfl;have a10:=hin 10 81 rfl;have a11:=hin 11 82 rfl;have a12:=hin 12 83 rfl;simp only [seval] at a0 a1 a2 a3 a4 a5 a6 a7 a8 a9 a10 a11 a12 ⊢;rw [if_pos (by decide)] at hps;simp only [a0,a1,a2,a3,a4,a5,a6,a7,a8,a9,a10,a11,a12];have hie:i<(linJ n (partE kdF j0 i x t)).length:=by rw [linJ_len];exact hlt
       have PUT9:=hideP ((HE8.out.later hu).putAt cellsF_len hie en);rw [linJ_set9F _ hlt,←hps] at PUT9;have HS9:=hideP (show RwZ 3 cellsF u lo (.slice (some ⟨g,0,none⟩) N cap) (mk n n (partS kdF j0 (i+1) x t)) from by rw [hps];exact (HS8.out.later hu).but (S:=fun b=>b=ge) (but_setCells (S:=fun b=>b=ge) (b:=ge) rfl _ _ _ _ (But.refl _ _)) (fun b hb=>by cases hb;exact hne));have bt9:But (fun b=>b=g∨b=ge) w5 u:=by rw [hps];exact bt8.trans ((But.of_bl hu).trans ((but_setCells (S:=fun b=>b=ge) (b:=ge) rfl _ _ _ _ (But.refl _ _)).mono fun _ h=>.inr h))
       clear hps hu;go_wp2;go_roundw
       case rel=>exact ⟨i+1,by simp,by omega,by omega,HS9.out,by rw [show partE kdF j0 (i+1) x t=fun r=>if r=i then en else partE kdF j0 i x t r from by funext r;rw [partE_next kdF hji,HENQ.out]];exact PUT9.out,bt9⟩
       case measure=>simp [intOf];omega
    ·obtain rfl:i=n:=by omega
     obtain ⟨m0',m1',m2',_,_,_,_⟩:=id mb;have kb9:FBox wr b11 bb:=(kb.later b15').but bt (by have:=hglt;have:=hgelt;have:=lt11;omega);have kz9:FBox wr (w.heap.size+1+1+1) zeroR:=(kz.later b5).but bt (by have:=hglt;have:=hgelt;omega);obtain ⟨c0,c1,c2,f0,f1,f2,_⟩:=id kb9;obtain ⟨d0,d1,d2,g0,g1,g2,_⟩:=id kz9;go_wp2;simp [bodyPost,results,Tryz.results115,go_sem,c0,c1,c2,f0,f1,f2,d0,d1,d2,g0,g1,g2];exact ⟨HR.out.but (butRF _ _ _ _ _) (fun b hb=>by cases hb;show ¬ g=w.heap.size+1+1+1;omega),HE.out.but (butRF _ _ _ _ _) (fun b hb=>by cases hb;show ¬ ge=w.heap.size+1+1+1;omega),((But.of_bl (b0.trans b5)).trans bt).put (butRF _ _ _ _ _) (by omega)⟩
theorem rw_run {α:Type} {F:Fence} {n:Nat} {P:Program} {l B:Nat} {w W1:World} (hB:B≤l) (hb:Bl w W1) (hlt1:B≤W1.heap.size) {r:Loop} (hst:r.state=.ready) (hpe:r.pending=none) (hfn:F.fn r.fn)
  {gf:Nat} {lb:Array Value} {encs:α→Array Value} {V:α→World→World→Prop} {Kp:World→World→Prop} {S Sp:List α→Prop} {N:Nat} (hseq:SeqV F n P gf lb encs V Kp S Sp N w) (hV:∀ x A B,V x A B→Bl A B)
  (hps:∀ x,(encs x).size=r.params.size)
  (hKt:∀ {A B C:World},Kp A B→Kp B C→Kp A C) (hKb:∀ (W:World) (l:Nat) (o o':Obj),B≤l→W.heap[l]?=some o→o.isCells=false→o.isWalk=false→Kp W (W.putObj l o'))
  {I:List α→World→Prop} {Ix:Code→List α→World→Prop} (hI:OwnFrom B I) (hIx:∀ c,OwnFrom B (Ix c)) {Ax:List α→α→Act→World→Prop} (hAx:∀ pre x a',OwnFrom B (fun (_:Unit) W=>Ax pre x a' W))
  (hl:W1.heap[l]?=some (.loop r)) (h0:I [] W1) (D:Nat) (od:Obj) (hD:B≤D) (hDl:D≠l) (hod:W1.heap[D]?=some od∨W1.heap.size≤D) (hoc:od.isCells=false) (how:od.isWalk=false)
  (hassign:∀ (pre:List α) (x:α) (W0 W:World) (K:Act→World→Prop),I pre W0→V x W0 W→I pre W→(∀ a' W',KeepsFrom B W W'→Kp W W'→I pre W'→Ax pre x a' W'→K a' W') →
   r.assign.wpIn (F.inRound l) (n-1) P (Exit.then K (fun _ _ _=>False)) { tmps:=(r.params.zip (encs x)).foldl (fun t (p,v)=>t.setIfInBounds p v) r.tmps,defers:=[] } W)
  (hbody:∀ (pre:List α) (x:α) (a':Act) (W:World),(∃ r',W.heap[l]?=some (.loop r'))→I pre W→Ax pre x a' W→pre.length<N→r.body.wpIn (F.inRound l) (n-1) P (ownPostG B Kp I Ix (pre++[x]) W) a' W) :
  CallsIn F n P gf (#[.func (.yield l) #[] #[]]++lb) W1 fun e W'=>(∃ v,e=.returned v)∧((∃ xs,S xs∧I xs W'∧W'.heap[l]?=some (.loop r)∧(W1.heap[D]?=some od→W'.heap[D]?=some od))∨∃ pre c,Sp pre∧Ix c pre W'∧W'.heap[l]?=some (.loop (recOf r (some c)))∧(W1.heap[D]?=some od→W'.heap[D]?=some od)):=by
 have keep:∀ {A C:World} {row:Option Nat},A.grownBy C row→(∀ q,row=some q→W1.heap.size≤q∧∃ o:Obj,A.heap[q]?=some o∧o.isWalk=true)→∀ (k:Nat) (o:Obj),A.heap[k]?=some o→o.isWalk=false→C.heap[k]?=some o:=by
  intro A C row hg hr k o hk ho;refine (hg.block k (Array.getElem?_eq_some_iff.1 hk).1 (fun e=>?_)).trans hk;obtain ⟨_,o',ho',hw⟩:=hr k e.symm;rw [hk] at ho';cases ho';rw [ho] at hw;cases hw
 have own:∀ {A:World} {row:Option Nat},(∀ q,row=some q→W1.heap.size≤q∧∃ o:Obj,A.heap[q]?=some o∧o.isWalk=true)→∀ q,row=some q→B≤q∧∃ o:Obj,A.heap[q]?=some o∧o.isCells=false:=by
  intro A row hr q e;obtain ⟨h1,o,ho,hw⟩:=hr q e;exact ⟨Nat.le_trans hlt1 h1,o,ho,Obj.not_cells_of_walk hw⟩
 refine (hseq l (fun pre W=>I pre W∧W.heap[l]?=some (.loop r)∧(W1.heap[D]?=some od→W.heap[D]?=some od)) (fun pre W=>∃ c,Ix c pre W∧W.heap[l]?=some (.loop (recOf r (some c)))∧(W1.heap[D]?=some od→W.heap[D]?=some od)) W1 hb
  (fun s A C row hs hg hr=>⟨hI s A C row hs.1 hg (own hr),keep hg hr _ _ hs.2.1 rfl,fun h=>keep hg hr _ _ (hs.2.2 h) how⟩)
  (fun s A C row hs hg hr=>by obtain ⟨c,h1,h2,h3⟩:=hs;exact ⟨c,hIx c s A C row h1 hg (own hr),keep hg hr _ _ h2 rfl,fun h=>keep hg hr _ _ (h3 h) how⟩) ?_ ⟨h0,hl,id⟩).mono ?_
 ·rintro pre x W0 W ⟨i0,l0,d0⟩ hv hlen;have hbv:=hV x W0 W hv;have hlW:=(Below.block hbv l (Array.getElem?_eq_some_iff.1 l0).1).trans l0;refine ((rv_round (Kp:=Kp) (ys:=pre++[x]) hB hst hfn (hps x) hKt hKb hI hIx (hAx pre x) hlW (fun K hK=>hassign pre x W0 W K i0 hv (own_later hI hbv i0) hK) (fun a' W' hr hi ha=>hbody pre x a' W' hr hi ha hlen)):YieldAt F (n-1) P l (encs x) W _).mono ?_;rintro e W' ⟨j,rfl,hl',ho,hj⟩;have hd':W1.heap[D]?=some od→W'.heap[D]?=some od:=fun h=>ho D od hD hDl ((Below.block hbv D (Array.getElem?_eq_some_iff.1 (d0 h)).1).trans (d0 h)) hoc
  cases j with
  |none=>exact .inl ⟨rfl,⟨hj.1,by rw [recOf_none hst hpe] at hl';exact hl',hd'⟩,hj.2⟩
  |some c=>exact .inr ⟨rfl,c,hj,hl',hd'⟩
 ·rintro e W' ⟨he,(⟨xs,h1,h2,h3,h4⟩|⟨pre,h1,c,h2,h3,h4⟩)⟩
  ·exact ⟨he,.inl ⟨xs,h1,h2,h3,h4⟩⟩
  ·exact ⟨he,.inr ⟨pre,c,h1,h2,h3,h4⟩⟩
theorem rangeW {α:Type} {F:Fence} {n:Nat} {P:Program} {g:Operand} {ps:Array Tmp} {assign body:Code} {Q:Exit→Act→World→Prop} {a:Act} {w:World}
  (hro:F.round=none) (h1:1≤n) {gf:Nat} {lb:Array Value} (hg:a.eval g=.func (.func gf) #[] lb) (hFg:F.fn gf) (eg:∀ args w,(callFunc gf args).run P w=.ok (.enter gf args) w)
  {encs:α→Array Value} {V:α→World→World→Prop} {Kp:World→World→Prop} {S Sp:List α→Prop} {N:Nat} (hseq:SeqV F (n-1) P gf lb encs V Kp S Sp N w) (hV:∀ x A B,V x A B→Bl A B)
  (hKt:∀ {A B C:World},Kp A B→Kp B C→Kp A C) (hKb:∀ (W:World) (l:Nat) (o o':Obj),w.heap.size≤l→W.heap[l]?=some o→o.isCells=false→o.isWalk=false→Kp W (W.putObj l o')) (hps:∀ x,(encs x).size=ps.size)
  (I:List α→World→Prop) (Ix:Code→List α→World→Prop) (hI:OwnFrom w.heap.size I) (hIx:∀ c,OwnFrom w.heap.size (Ix c)) (h0:I [] w) (Ax:Act→List α→α→Act→World→Prop) (hAx:∀ pre x a',OwnFrom w.heap.size (fun (_:Unit) W=>Ax a pre x a' W))
  (hassign:∀ (l:Nat) (pre:List α) (x:α) (W0 W:World) (K:Act→World→Prop),I pre W0→V x W0 W→I pre W→(∀ a' W',KeepsFrom w.heap.size W W'→Kp W W'→I pre W'→Ax a pre x a' W'→K a' W') →
   assign.wpIn (F.inRound l) (n-1-1) P (Exit.then K (fun _ _ _=>False)) { tmps:=(ps.zip (encs x)).foldl (fun t (p,v)=>t.setIfInBounds p v) a.tmps,defers:=[] } W)
  (hbody:∀ (l:Nat) (pre:List α) (x:α) (a':Act) (W:World),w.heap.size≤l→(∃ r,W.heap[l]?=some (.loop r))→I pre W→Ax a pre x a' W→pre.length<N→body.wpIn (F.inRound l) (n-1-1) P (ownPostG w.heap.size Kp I Ix (pre++[x]) W) a' W)
  (hdone:∀ (D:Nat) (xs:List α) (W:World),w.heap.size≤D→S xs→I xs W→W.heap[D]?=some (.deferred (some []))→Q .normal { a with defers:={ target:=.collected D,args:=#[] }::a.defers } W)
  (hstop:∀ (D:Nat) (c:Code) (pre:List α) (W:World),w.heap.size≤D→Sp pre→Ix c pre W→W.heap[D]?=some (.deferred (some []))→c.wpIn F n P Q { a with defers:={ target:=.collected D,args:=#[] }::a.defers } W) :
  (Code.rangeFunc g ps assign body).wpIn F n P Q a w:=by
 refine wpIn_rangeFunc fun fn hfn=>?_
 rw [hro];have he:=run_enterLoop_outer (P:=P) (w:=w) fn a.tmps ps assign body;generalize hr:({ state:=.ready,pending:=none,fn,tmps:=a.tmps,params:=ps,assign,body,defers:=w.heap.size }:Loop)=r at he;obtain ⟨e1,e2,e3,e4,e5,e6,e7⟩:r.state=.ready∧r.pending=none∧r.fn=fn∧r.tmps=a.tmps∧r.params=ps∧r.assign=assign∧r.body=body:=by rw [←hr];exact ⟨rfl,rfl,rfl,rfl,rfl,rfl,rfl⟩
 clear hr;generalize hW:(w.alloc (.deferred (some []))).alloc (.loop r)=W1 at he;have hb:Bl w W1:=by rw [←hW];exact ((Bl.refl w).alloc _).alloc _
 have hl:W1.heap[w.heap.size+1]?=some (.loop r):=by
  rw [←hW];have:=World.alloc_heap_new (w.alloc (.deferred (some []))) (.loop r);rwa [World.size_alloc] at this
 have hd:W1.heap[w.heap.size]?=some (.deferred (some [])):=by rw [←hW];exact (Below.heap_alloc _ _ _ (by simp)).trans (World.alloc_heap_new w _)
 refine ⟨_,_,_,{ target:=.fn (.func gf) lb,args:=#[.func (.yield (w.heap.size+1)) #[] #[]] },W1,gf,#[.func (.yield (w.heap.size+1)) #[] #[]]++lb,W1,he,?_,?_,?_,fun _=>h1,?_⟩
 ·simp only [resolve,hg];simp [go_sem]
 ·intro f' hf';simp [Target.leads] at hf';subst hf';exact hFg
 ·simp [invoke,go_sem,eg]
 ·refine (rw_run (Kp:=Kp) (Ax:=Ax a) (Nat.le_succ _) hb hb.size e1 e2 (e3▸hfn) hseq hV (by rw [e5];exact hps) hKt hKb hI hIx hAx hl (own_later hI hb h0) w.heap.size (.deferred (some [])) (Nat.le_refl _) (by omega) (.inl hd) rfl rfl
   (by rw [e4,e5,e6];exact fun pre x W0 W K=>hassign _ pre x W0 W K) (by rw [e7];exact fun pre x a' W h=>hbody _ pre x a' W (Nat.le_succ _) h)).mono ?_
  rintro e W' ⟨⟨v,rfl⟩,(⟨xs,h1,h2,h3,h4⟩|⟨pre,c,h1,h2,h3,h4⟩)⟩
  ·have hq:=run_endLoop (P:=P) h3 (by rw [e1];decide);rw [e2] at hq;exact ⟨none,_,hq,hdone _ xs _ (Nat.le_refl _) h1 (hI.putObj _ h2 (Nat.le_succ _) h3 rfl) ((World.putObj_heap_other (by omega)).trans (h4 hd))⟩
  ·have hq:=run_endLoop (P:=P) h3 (by simp [recOf]);exact ⟨some c,_,hq,hstop _ c pre _ (Nat.le_refl _) h1 ((hIx c).putObj _ h2 (Nat.le_succ _) h3 rfl) ((World.putObj_heap_other (by omega)).trans (h4 hd))⟩
theorem RwZ.own {α:Type} {s:Nat} {c:α→List Value} (hs:∀ x,(c x).length=s) (s0:0<s) {X Y:World} {lo:Nat} {v:Value} {xs:List α} {row:Option Nat} (h:RwZ s c X lo v xs) (hne:xs≠[]) (hg:X.grownBy Y row) (hr:∀ r,row=some r→∃ o:Obj,X.heap[r]?=some o∧o.isCells=false):RwZ s c Y lo v xs:=by
 obtain ⟨b,cap,rfl,hc,hlo,hb,hf,hx⟩:=h;obtain ⟨x0,xs',rfl⟩:=List.exists_cons_of_ne_nil hne;have hcell:=hx 0 x0 rfl 0 _ (List.getElem?_eq_getElem (by rw [hs];exact s0));have hbr:row≠some b:=by
  intro e;obtain ⟨o,ho,hoc⟩:=hr b e;unfold World.cell? at hcell;simp only [ho] at hcell;cases o<;>simp_all [Obj.isCells]
 have hblk:=hg.block b hb (fun e=>hbr e.symm);exact ⟨b,cap,rfl,hc,hlo,Nat.lt_of_lt_of_le hb hg.size,fun o=>(World.frozen?_of_block (a:=⟨b,o,none⟩) hblk).trans (hf o),fun j x hj k u hu=>(World.cell?_of_block (a:=⟨b,j*s+k,none⟩) hblk).trans (hx j x hj k u hu)⟩
theorem RwZ.beside {α:Type} {s:Nat} {c:α→List Value} {u w5:World} {lo B:Nat} {v v':Value} {xs:List α} {row:Option Nat} (h:RwZ s c u lo v xs) (hg:u.grownBy w5 row) (hne:∀ g,v.ownBlock=some g→row≠some g∧g≠B):RwZ s c (w5.setCell ⟨B,0,none⟩ v') lo v xs:=by
 obtain ⟨b,cap,rfl,hc,hlo,hb,hf,hx⟩:=h;have h1:=hne b rfl;have hk:(w5.setCell ⟨B,0,none⟩ v').heap[b]?=u.heap[b]?:=(Below.heap_setCell _ _ _ b (by show b≠B;exact h1.2)).trans (hg.block b hb (fun e=>h1.1 e.symm));exact ⟨b,cap,rfl,hc,hlo,by simp;exact Nat.lt_of_lt_of_le hb hg.size,fun o=>(World.frozen?_of_block (a:=⟨b,o,none⟩) hk).trans (hf o),fun j x hj k u hu=>(World.cell?_of_block (a:=⟨b,j*s+k,none⟩) hk).trans (hx j x hj k u hu)⟩
abbrev hdC (C:Nat) (x:RowX):List Value:=[rowV C x]
theorem hd_get (C:Nat):∀ (pre:List RowX) (i:Nat) (x:RowX),pre[i]?=some x→(pre.flatMap (hdC C))[i]?=some (rowV C x)
 |[],i,x,h=>by simp at h
 |y::pre,0,x,h=>by simp at h;subst h;rfl
 |y::pre,i+1,x,h=>by
  rw [List.flatMap_cons];show ([rowV C y]++pre.flatMap (hdC C))[i+1]?=_;rw [List.getElem?_append_right (by simp)];exact hd_get C pre i x (by simpa using h)
def RowsZ {α:Type} (s:Nat) (c:α→List Value) (lo R C:Nat) (f:Nat→Nat→α) (pre:List RowX) (U:World):Prop:=
 (∀ y∈pre,RwZ s c U lo (rowV C y) (rowM C f y.1)∧y.1<R)∧pre.Pairwise fun x y=>(rowV C x).ownBlock≠(rowV C y).ownBlock
theorem rowsZ_own {α:Type} {s:Nat} {c:α→List Value} (hs:∀ x,(c x).length=s) (s0:0<s) (B lo R C:Nat) (h0:0<C) (f:Nat→Nat→α):OwnFrom B (RowsZ s c lo R C f):=
 fun pre X Y row h hg hr=>⟨fun y hy=>⟨(h.1 y hy).1.own hs s0 (by intro e;have:=congrArg List.length e;rw [rowM_len] at this;simp at this;omega) hg (fun r e=>(hr r e).2),(h.1 y hy).2⟩,h.2⟩
theorem Tbl.of {α:Type} {s:Nat} {c:α→List Value} {U:World} {base lo R C:Nat} {t:TypeId} {f:Nat→Nat→α} {zs:List RowX} {v:Value} (hS:zs.map (·.1)=List.range R) (hR:0<R)
  (hrow:U.ownsRow base t 1 v zs.length (zs.flatMap (hdC C))) (hZ:RowsZ s c lo R C f zs U) (hG:∀ y∈zs,v.ownBlock≠(rowV C y).ownBlock) :
  ∃ H hc B cp,v=.slice (some ⟨H,0,none⟩) R hc∧R≤hc∧base≤H∧Tbl s c U H B cp R C f∧∀ i,i<R→lo≤B i:=by
 have hlen:zs.length=R:=by have:=congrArg List.length hS;simpa using this
 have at_:∀ i,i<R→∃ x,zs[i]?=some x∧x.1=i∧∃ b,x.2.1=some ⟨b,0,none⟩∧C≤x.2.2∧lo≤b∧b<U.heap.size∧(∀ o,U.frozen? ⟨b,o,none⟩=false)∧∀ j z,(rowM C f i)[j]?=some z→∀ k u,(c z)[k]?=some u→U.cell? ⟨b,j*s+k,none⟩=some u:=fun i hi=>by
  have hx:zs[i]?=some (zs[i]'(by omega)):=List.getElem?_eq_getElem (by omega);have h1:(zs[i]'(by omega)).1=i:=by
   have:=congrArg (·[i]?) hS;simp only [List.getElem?_map,hx,List.getElem?_range hi,Option.map_some,Option.some.injEq] at this;exact this
  obtain ⟨b,cap,e,hc,hlo,hb,hf,hcell⟩:=(hZ.1 _ (List.mem_of_getElem? hx)).1;rw [h1] at hcell;simp only [rowV,Value.slice.injEq] at e;rw [rowM_len] at hc;exact ⟨_,hx,h1,b,e.1,by rw [e.2.2];exact hc,hlo,hb,hf,hcell⟩
 have ex:∀ i,∃ b,i<R→∃ x,zs[i]?=some x∧x.1=i∧x.2.1=some ⟨b,0,none⟩∧C≤x.2.2∧lo≤b∧b<U.heap.size∧(∀ o,U.frozen? ⟨b,o,none⟩=false)∧∀ j z,(rowM C f i)[j]?=some z→∀ k u,(c z)[k]?=some u→U.cell? ⟨b,j*s+k,none⟩=some u:=fun i=>by
  by_cases hi:i<R
  ·obtain ⟨x,h1,h2,b,h3⟩:=at_ i hi;exact ⟨b,fun _=>⟨x,h1,h2,h3⟩⟩
  ·exact ⟨0,fun h=>absurd h hi⟩
 obtain ⟨B,hB⟩:=Classical.axiomOfChoice ex;have hB:∀ i,i<R→∃ x,zs[i]?=some x∧x.1=i∧x.2.1=some ⟨B i,0,none⟩∧C≤x.2.2∧lo≤B i∧B i<U.heap.size∧(∀ o,U.frozen? ⟨B i,o,none⟩=false)∧∀ j z,(rowM C f i)[j]?=some z→∀ k u,(c z)[k]?=some u→U.cell? ⟨B i,j*s+k,none⟩=some u:=hB;have hlt:=hrow.lt;have hcs:∀ g,v.ownBlock=some g→∀ j u,(zs.flatMap (hdC C))[j]?=some u→U.cell? ((⟨g,0,none⟩:Addr).add j)=some u:=fun g hg=>hrow.cells hg
 rcases hrow.2 with ⟨_,e0⟩|⟨H,hc,cur,rfl,hbs,_,hcap,_⟩
 ·omega
 ·refine ⟨H,hc,B,fun i=>((zs[i]?.map fun x:RowX=>x.2.2).getD 0),by rw [hlen],by omega,hbs,⟨fun i hi=>?_,(hlt H rfl).2,fun i hi=>?_,fun i j hi hj e=>?_,fun i hi e=>?_,fun i hi=>?_,fun i j hi hj k u hu=>?_,fun i hi=>?_⟩,fun i hi=>?_⟩
  ·obtain ⟨x,hx,h1,h2,_⟩:=hB i hi;have:=hcs H rfl i _ (hd_get C zs i x hx);have hadd:(⟨H,0,none⟩:Addr).add i=⟨H,i,none⟩:=by unfold Addr.add;split<;>simp_all
   rw [hadd] at this;rw [this,hx];simp only [rowV,Option.map_some,Option.getD_some,h2]
  ·obtain ⟨x,_,_,_,_,_,h,_⟩:=hB i hi;exact h
  ·obtain ⟨x,hx,h1,h2,_⟩:=hB i hi;obtain ⟨y,hy,k1,k2,_⟩:=hB j hj;have P:=List.pairwise_iff_getElem.1 hZ.2;have ex:zs[i]'(by omega)=x:=by rw [List.getElem?_eq_getElem (by omega)] at hx;exact Option.some.inj hx
   have ey:zs[j]'(by omega)=y:=by rw [List.getElem?_eq_getElem (by omega)] at hy;exact Option.some.inj hy
   have same:(rowV C x).ownBlock=(rowV C y).ownBlock:=by unfold rowV;rw [h2,k2,e];rfl
   rcases Nat.lt_trichotomy i j with h|h|h
   ·have:=P i j (by omega) (by omega) h;rw [ex,ey] at this;exact absurd same this
   ·exact h
   ·have:=P j i (by omega) (by omega) h;rw [ex,ey] at this;exact absurd same.symm this
  ·obtain ⟨x,hx,h1,h2,_⟩:=hB i hi;refine hG x (List.mem_of_getElem? hx) ?_;unfold rowV;rw [h2,e];rfl
  ·obtain ⟨x,hx,_,_,h,_⟩:=hB i hi;rw [hx];exact h
  ·obtain ⟨x,_,_,_,_,_,_,_,h⟩:=hB i hi;exact h j (f i j) (rowM_get f i hj) k u hu
  ·obtain ⟨x,_,_,_,_,_,_,h,_⟩:=hB i hi;exact h
  ·obtain ⟨x,_,_,_,_,h,_⟩:=hB i hi;exact h
theorem rq_own8 {α:Type} {s:Nat} {c:α→List Value} {X Y:World} {v:Value} {xs:List α} {row:Option Nat} (h:Rq s c X v xs) (hg:X.grownBy Y row) (hr:∀ r,row=some r→∃ o:Obj,X.heap[r]?=some o∧o.isCells=false):Rq s c Y v xs:=by
 rcases h with h|⟨b,o,cap,rfl,hc,hb,hx⟩
 ·exact .inl h
 ·exact .inr ⟨b,o,cap,rfl,hc,Nat.lt_of_lt_of_le hb hg.size,fun j x hj k u hu=>cell_kept (hx j x hj k u hu) hg hr⟩
theorem mx_own8 {α:Type} {s:Nat} {c:α→List Value} {X Y:World} {R C:Nat} {p:Option Addr} {n cap:Nat} {f:Nat→Nat→α} {row:Option Nat} (h:Mx s c X R C p n cap f) (hg:X.grownBy Y row) (hr:∀ r,row=some r→∃ o:Obj,X.heap[r]?=some o∧o.isCells=false):Mx s c Y R C p n cap f:=
 ⟨h.1,h.2.1,rq_own8 h.2.2 hg hr⟩
theorem own_slice8 {w:World} {B:Nat} {e:TypeId} {s n:Nat} {v:Value} {xs:List Value} (h:w.ownsRow B e s v n xs) (h0:0<n):∃ g c,v=.slice (some ⟨g,0,none⟩) n c:=by
 rcases h.2 with ⟨_,e0⟩|⟨g,cap,cur,rfl,_⟩
 ·omega
 ·exact ⟨g,cap,rfl⟩
open Go.Shelf
attribute [local go_sem] Oper.semAt_some
structure KeptBF (w:World) (B:Nat) (p:Option Addr) (n cap:Nat) (f:Nat→Fr):Prop where
 box:w.cell? ⟨B,0,none⟩=some (.slice p n cap)
 row:Rw 3 cellsF w (.slice p n cap) (linJ n f)
def zsBF (n:Nat) (f:Nat→Fr) (t:Nat):List (Nat×Fr):=(List.range t).map fun s=>(n-1-s,f (n-1-s))
theorem zsB_nextF (n:Nat) (f:Nat→Fr) (t:Nat):zsBF n f (t+1)=zsBF n f t++[(n-1-t,f (n-1-t))]:=by
 unfold zsBF;rw [List.range_succ,List.map_append];rfl
theorem rq_atF {w:World} {p:Option Addr} {n cap:Nat} {f:Nat→Fr} (h:Rq 3 cellsF w (.slice p n cap) (linJ n f)) {i:Nat} (hi:i<n):∃ b o,p=some ⟨b,o,none⟩∧∀ j v,(cellsF (f i))[j]?=some v→w.cell? ⟨b,o+i*3+j,none⟩=some v:=by
 rcases h with ⟨p',cap',e,hx,_⟩|⟨b,o,cap',e,hc,hb,hx⟩
 ·have:=congrArg List.length hx;rw [linJ_len] at this;simp at this;omega
 ·simp only [Value.slice.injEq] at e;exact ⟨b,o,e.1,fun j v hj=>hx i _ (linJ_get _ hi) j v hj⟩
set_option maxRecDepth 100000 in
set_option maxHeartbeats 2000000 in
theorem iterBF (m l B n:Nat) (p:Option Addr) (cap:Nat) (f:Nat→Fr) (Kp:World→World→Prop) (hKp:∀ {A C:World},KeptBF A B p n cap f→Kp A C→KeptBF C B p n cap f) (J Jx:List (Nat×Fr)→World→Prop) (W:World) (hn:n≤1000)
  (hY:∀ pre x W0 W1,J pre W0→(W1=W0∧pre=zsBF n f pre.length∧x=(n-1-pre.length,f (n-1-pre.length)))→pre.length<n→YieldAt Fence.wide (m-1) Tryz.prog l #[.int .i64 x.1,frV x.2] W1 fun e W' =>
   (e=.returned (.bool true)∧J (pre++[x]) W'∧Kp W1 W')∨(e=.returned (.bool false)∧Jx (pre++[x]) W'))
  (hP:KeptBF W B p n cap f) (h0:J [] W) :
  CallsIn Fence.wide m Tryz.prog 142 #[.func (.yield l) #[] #[],.pointer (some ⟨B,0,none⟩)] W fun e W'=>(∃ v,e=.returned v) ∧
   ((∃ zs:List (Nat×Fr),zs=zsBF n f n∧J zs W')∨(∃ pre:List (Nat×Fr),pre.length≤n∧Jx pre W')):=by
 have HP:=hideP hP;have c0:=hP.box;clear hP;refine callsIn_of_wp Tryz.func142 rfl trivial ?_ rfl;simp only [Tryz.ntmps142,List.size_toArray,List.length_cons,List.length_nil,Nat.reduceAdd,Nat.reduceSub,Array.replicate_succ,Array.replicate_zero,List.push_toArray,List.append_toArray,List.nil_append,List.cons_append];have WN:IntKind.i64.wrap ((n:Int)-1)=(n:Int)-1:=wrapS7 (by omega) (by omega)
 gi_wp2
 clear c0
 gi_loopw [3] (fun i wr=>∃ t:Nat,t≤n∧i=.int .i64 ((n:Int)-1-t)∧J (zsBF n f t) wr∧KeptBF wr B p n cap f) (fun i _=>(intOf i+1).toNat)
 case atStart=>exact ⟨0,Nat.zero_le _,by simp,h0,HP.out⟩
 case round =>
  obtain ⟨t,ht,rfl,hJs,hk⟩:=hrel;have HK:=hideP hk;clear hk;by_cases hlt:t<n
  ·obtain ⟨i,hi⟩:∃ i:Nat,i=n-1-t:=⟨_,rfl⟩;have e1:(n:Int)-1-t=(i:Int):=by omega
   have e2:IntKind.i64.wrap ((i:Int)-1)=(i:Int)-1:=wrapS7 (by omega) (by omega);have hin:i<n:=by omega
   have hge:(i:Int)≥0:=by omega
   rw [e1];obtain ⟨b,o,rfl,CX⟩:=rq_atF HK.out.row.q hin;obtain ⟨y,hy⟩:∃ y,y=f i:=⟨_,rfl⟩;rw [←hy] at CX;have x0:wr.cell? ⟨b,o+i*3,none⟩=some (.int .i64 y.n):=by simpa using CX 0 _ rfl
   have x1:wr.cell? ⟨b,o+i*3+1,none⟩=some (.int .i64 y.d):=by simpa using CX 1 _ rfl
   have x2:wr.cell? ⟨b,o+i*3+2,none⟩=some (.bool y.bad):=by simpa using CX 2 _ rfl
   have c0:=HK.out.box;have hlen:(zsBF n f t).length=t:=by simp [zsBF]
   obtain ⟨fn,tmps,assign,body,hyd,hR2⟩:=hY (zsBF n f t) (i,y) wr wr hJs ⟨rfl,by rw [hlen],by rw [hlen,←hi,hy]⟩ (by omega);dsimp only at hyd;have hR3:RoundIn Fence.wide (m-1) Tryz.prog l fn tmps assign body wr fun e W'=>∃ r:Bool,e=.returned (.bool r)∧((r=true∧J (zsBF n f (t+1)) W'∧Kp wr W')∨(r=false∧Jx (zsBF n f (t+1)) W')):=by
    refine hR2.mono ?_;rw [zsB_nextF,←hi,←hy];rintro e W' (⟨rfl,h1,h2⟩|⟨rfl,h1⟩)
    ·exact ⟨true,rfl,.inl ⟨rfl,h1,h2⟩⟩
    ·exact ⟨false,rfl,.inr ⟨rfl,h1⟩⟩
   have HI:=hideP hi;clear CX hR2 hy e1 hi
   gi_wp2_with fail
   refine ⟨fun h=>(by cases h),?_⟩;refine hR3.mono ?_;rintro e W3 ⟨r,rfl,hr⟩;clear c0 x0 x1 x2 hR3 hyd;rcases hr with ⟨rfl,hJ3,hk3⟩|⟨rfl,hJx3⟩
   ·have HK3:=hideP (hKp HK.out hk3)
    gi_wp2
    go_roundw
    case rel=>exact ⟨t+1,by omega,by first|rfl|(congr 1;have:=HI.out;omega),hJ3,HK3.out⟩
    case measure=>simp [intOf]<;>omega
   ·gi_wp2
    refine bodyPost_ret (results_none rfl _ _ _) rfl ?_;exact ⟨⟨_,rfl⟩,.inr ⟨_,by simp [zsBF]<;>omega,hJx3⟩⟩
  ·obtain rfl:t=n:=by omega
   have e1:(t:Int)-1-t=-1:=by omega
   rw [e1];have HJ:=hideP hJs;clear hJs
   gi_wp2
   go_end0
   exact ⟨⟨_,rfl⟩,.inl ⟨_,rfl,HJ.out⟩⟩
theorem seqBF (m B n:Nat) (p:Option Addr) (cap:Nat) (f:Nat→Fr) (Kp:World→World→Prop) (hKp:∀ {A C:World},KeptBF A B p n cap f→Kp A C→KeptBF C B p n cap f) (w:World) (hn:n≤1000) (hP:∀ W,Bl w W→KeptBF W B p n cap f) :
  SeqV Fence.wide m Tryz.prog 142 #[.pointer (some ⟨B,0,none⟩)] (fun x:Nat×Fr=>#[.int .i64 x.1,frV x.2]) (fun x W0 W1=>W1=W0∧x.1<n) Kp (fun zs=>zs=zsBF n f n) (fun pre=>pre.length≤n) n w:=
 fun l J Jx W hW hJ _ hY h0=>iterBF m l B n p cap f Kp hKp J Jx W hn (fun pre x W0 W1 h1 h2 h3=>hY pre x W0 W1 h1 ⟨h2.1,by rw [h2.2.2];show n-1-pre.length<n;omega⟩ h3) (hP W hW) h0
theorem backwardF (n:Nat) (p:Option Addr) (cap:Nat) (f:Nat→Fr) (w:World) (h:Rw 3 cellsF w (.slice p n cap) (linJ n f)) :
  Calls Tryz.prog 114 #[.slice p n cap] w fun e w'=>e=.returned (.func (.func 142) #[] #[.pointer (some ⟨w.heap.size,0,none⟩)])∧KeptBF w' w.heap.size p n cap f∧w'=w.alloc (.cells #[.slice p n cap] 28):=by
 go_enter Tryz.func114,Tryz.ntmps114;go_wp2;go_ret;exact ⟨rfl,⟨by simp [go_sem],h.later ((Bl.refl _).alloc _)⟩,rfl⟩
attribute [local go_sem] Oper.semAt_some
def RelOF (ge lo n:Nat) (xs:List Fr) (x y:World):Prop:=Bl x y∨(But (fun b=>b=ge) x y∧RwZ 3 cellsF y lo (.slice (some ⟨ge,0,none⟩) n n) xs)
theorem RelOF.but {ge lo n:Nat} {xs:List Fr} {x y:World} (h:RelOF ge lo n xs x y):But (fun b=>b=ge) x y:=by
 rcases h with h|h
 ·exact But.of_bl h
 ·exact h.1
theorem RelOF.trans {ge lo n:Nat} {xs:List Fr} {x y z:World} (h:RelOF ge lo n xs x y) (k:RelOF ge lo n xs y z):RelOF ge lo n xs x z:=by
 rcases k with k|k
 ·rcases h with h|h
  ·exact .inl (h.trans k)
  ·exact .inr ⟨h.1.trans (But.of_bl k),h.2.later k⟩
 ·exact .inr ⟨h.but.trans k.1,k.2⟩
theorem RelOF.rwz {ge lo n:Nat} {xs:List Fr} {x y:World} (h:RelOF ge lo n xs x y) (k:RwZ 3 cellsF x lo (.slice (some ⟨ge,0,none⟩) n n) xs):RwZ 3 cellsF y lo (.slice (some ⟨ge,0,none⟩) n n) xs:=by
 rcases h with h|h
 ·exact k.later h
 ·exact h.2
theorem rq_butF {α:Type} {s:Nat} {c:α→List Value} {w w':World} {v:Value} {xs:List α} {S:Nat→Prop} (h:Rq s c w v xs) (k:But S w w') (hs:∀ g,v.ownBlock=some g→¬ S g):Rq s c w' v xs:=by
 rcases h with h|⟨b,o,cap,rfl,hc,hb,hx⟩
 ·exact .inl h
 ·exact .inr ⟨b,o,cap,rfl,hc,Nat.lt_of_lt_of_le hb k.size,fun j x hj i u hu=>(k.cell _ _ hb (hs b rfl)).trans (hx j x hj i u hu)⟩
theorem RwZ.againF {w:World} {lo g n cap:Nat} {xs:List Fr} (h:RwZ 3 cellsF w lo (.slice (some ⟨g,0,none⟩) n cap) xs) :
  (∀ j,j<(xs.flatMap cellsF).length→(w.cell? ⟨g,0+j,none⟩).isSome=true)∧(∀ j,j<(xs.flatMap cellsF).length→w.frozen? ⟨g,0+j,none⟩=false):=by
 obtain ⟨b,cap',e,hc,hlo,hb,hf,hx⟩:=h;simp only [Value.slice.injEq,Option.some.injEq,Addr.mk.injEq] at e;obtain ⟨⟨rfl,_⟩,_,_⟩:=e;refine ⟨fun j hj=>?_,fun j _=>hf _⟩;rw [flat_len cellsF_len] at hj;have h1:j/3<xs.length:=(Nat.div_lt_iff_lt_mul (by decide)).2 hj;have h2:=hx (j/3) _ (List.getElem?_eq_getElem h1) (j % 3) _ (List.getElem?_eq_getElem (by rw [cellsF_len];exact Nat.mod_lt _ (by decide)));rw [show 0+j=j/3*3+j % 3 from by rw [Nat.zero_add,Nat.mul_comm];exact (Nat.div_add_mod j 3).symm,h2];rfl
theorem RwZ.copy2F {w:World} {lo g n cap:Nat} {xs:List Fr} (h:RwZ 3 cellsF w lo (.slice (some ⟨g,0,none⟩) n cap) xs):RwZ 3 cellsF (w.setCells g 0 (xs.flatMap cellsF)) lo (.slice (some ⟨g,0,none⟩) n cap) xs:=by
 have H:=RwZ.againF h;obtain ⟨b,cap',e,hc,hlo,hb,hf,hx⟩:=h;simp only [Value.slice.injEq,Option.some.injEq,Addr.mk.injEq] at e;obtain ⟨⟨rfl,_⟩,rfl,rfl⟩:=e;refine ⟨g,cap,rfl,hc,hlo,by rw [setCells_size];exact hb,fun o=>?_,fun j x hj k u hu=>?_⟩
 ·rw [World.frozen?_setCells];exact hf o
 ·have hk:k<3:=by have:=(List.getElem?_eq_some_iff.1 hu).1;rwa [cellsF_len] at this
  have hjl:=(List.getElem?_eq_some_iff.1 hj).1;refine cell_set_some (o:=0) (fun j hj=>by have:=H.1 j hj;exact this) (Nat.zero_le _) (by rw [Nat.zero_add,flat_len cellsF_len];have:(j+1)*3≤xs.length*3:=Nat.mul_le_mul_right _ hjl;omega) ?_;rw [Nat.sub_zero,flat_get cellsF_len xs j k x hj hk];exact hu
theorem but_putObj9F {S:Nat→Prop} (W:World) {l:Nat} {o':Obj} (h:S l):But S W (W.putObj l o'):=⟨rfl,rfl,rfl,by simp [World.putObj],fun i _ hs=>World.putObj_heap_other (by rintro rfl;exact hs h)⟩
theorem cell_lt9F {w:World} {b o:Nat} {v:Value} (h:w.cell? ⟨b,o,none⟩=some v):b<w.heap.size:=by
 rcases Nat.lt_or_ge b w.heap.size with h1|h1
 ·exact h1
 ·unfold World.cell? at h;rw [show w.heap[b]?=none from Array.getElem?_eq_none h1] at h;cases h
theorem box_blk9F {w w':World} {b:Nat} {x:Fr} (h:FBox w b x) (e:w'.heap[b]?=w.heap[b]?) (hs:w.heap.size≤w'.heap.size):FBox w' b x:=
 ⟨(World.cell?_of_block (a:=⟨b,0,none⟩) e).trans h.c0,(World.cell?_of_block (a:=⟨b,1,none⟩) e).trans h.c1,(World.cell?_of_block (a:=⟨b,2,none⟩) e).trans h.c2,(World.frozen?_of_block (a:=⟨b,0,none⟩) e).trans h.f0,(World.frozen?_of_block (a:=⟨b,1,none⟩) e).trans h.f1,(World.frozen?_of_block (a:=⟨b,2,none⟩) e).trans h.f2,Nat.lt_of_lt_of_le h.lt hs⟩
theorem keptB_butF {A C:World} {B:Nat} {p:Option Addr} {n cap:Nat} {f:Nat→Fr} {S:Nat→Prop} (h:KeptBF A B p n cap f) (k:But S A C) (hB:¬ S B) (hp:∀ b,(Value.slice p n cap).ownBlock=some b→¬ S b):KeptBF C B p n cap f:=
 ⟨(k.cell _ _ (cell_lt9F h.box) hB).trans h.box,h.row.but k hp⟩
theorem own_ne9F {X:World} {row:Option Nat} {b o:Nat} {v:Value} (hc:X.cell? ⟨b,o,none⟩=some v) (hr:∀ r,row=some r→∃ o:Obj,X.heap[r]?=some o∧o.isCells=false):row≠some b:=by
 intro e;obtain ⟨ob,ho,hoc⟩:=hr b e;unfold World.cell? at hc;simp only [ho] at hc;cases ob<;>simp_all [Obj.isCells]
theorem own_blk9F {X Y:World} {row:Option Nat} {b o:Nat} {v:Value} (hc:X.cell? ⟨b,o,none⟩=some v) (hg:X.grownBy Y row) (hr:∀ r,row=some r→∃ o:Obj,X.heap[r]?=some o∧o.isCells=false):Y.heap[b]?=X.heap[b]?:=
 hg.block b (cell_lt9F hc) (fun e=>own_ne9F hc hr e.symm)
structure StIF (w:World) (n N g c1 ge H:Nat) (t:StO Fr) (U:World):Prop where
 s:RwZ 3 cellsF U w.heap.size (.slice (some ⟨g,0,none⟩) N c1) (mk n n t.s)
 e:RwZ 3 cellsF U w.heap.size (.slice (some ⟨ge,0,none⟩) n n) (linJ n t.e)
 a:FBox U (w.heap.size+1+1+1+1) t.a
 m:MBox U (w.heap.size+1+1) n n (some ⟨g,0,none⟩) N c1
 l:U.cell? ⟨w.heap.size+1+1+1,0,none⟩=some (.slice (some ⟨ge,0,none⟩) n n)
 lf:U.frozen? ⟨w.heap.size+1+1+1,0,none⟩=false
 bl:Bl w U
 sz:H≤U.heap.size
theorem sti_ownF {w:World} {n N g c1 ge H:Nat} {t:StO Fr} {X Y:World} {row:Option Nat} (h:StIF w n N g c1 ge H t X) (n1:1≤n) (hN:N=n*n) (hw:w.heap.size≤H) (hg:X.grownBy Y row) (hr:∀ r,row=some r→H≤r∧∃ o:Obj,X.heap[r]?=some o∧o.isCells=false):StIF w n N g c1 ge H t Y:=by
 have hr2:∀ r,row=some r→∃ o:Obj,X.heap[r]?=some o∧o.isCells=false:=fun r e=>(hr r e).2
 have ne1:mk n n t.s≠[]:=fun e=>by have:=congrArg List.length e;rw [mk_len] at this;have h2:0<n*n:=Nat.mul_pos n1 n1;simp at this;omega
 have ne2:linJ n t.e≠[]:=fun e=>by have:=congrArg List.length e;rw [linJ_len] at this;simp at this;omega
 have e8:=own_blk9F h.a.c0 hg hr2;have e6:=own_blk9F h.m.c0 hg hr2;have e7:=own_blk9F h.l hg hr2;exact ⟨h.s.own cellsF_len (by decide) ne1 hg hr2,h.e.own cellsF_len (by decide) ne2 hg hr2,box_blk9F h.a e8 hg.size,mbox_block h.m e6 hg.size,(World.cell?_of_block (a:=⟨_,0,none⟩) e7).trans h.l,(World.frozen?_of_block (a:=⟨_,0,none⟩) e7).trans h.lf,Below.grown h.bl hg h.bl.size (fun k e=>Nat.le_trans hw (hr k e).1),Nat.le_trans h.sz hg.size⟩
theorem sti_laterF {w:World} {n N g c1 ge H:Nat} {t:StO Fr} {X Y:World} (h:StIF w n N g c1 ge H t X) (k:Bl X Y):StIF w n N g c1 ge H t Y:=
 ⟨h.s.later k,h.e.later k,h.a.later k,h.m.later k,(bl_cell k _ _ (cell_lt9F h.l)).trans h.l,(bl_froz k _ _ (cell_lt9F h.l)).trans h.lf,h.bl.trans k,Nat.le_trans h.sz k.size⟩
structure GdOF (w:World) (n N g c1 ge:Nat) (a:Fr) (U:World):Prop where
 m:MBox U (w.heap.size+1+1) n n (some ⟨g,0,none⟩) N c1
 l:U.cell? ⟨w.heap.size+1+1+1,0,none⟩=some (.slice (some ⟨ge,0,none⟩) n n)
 lf:U.frozen? ⟨w.heap.size+1+1+1,0,none⟩=false
 a:FBox U (w.heap.size+1+1+1+1) a
def RelGF (w:World) (n N g c1 ge:Nat) (a:Fr) (x y:World):Prop:=But (fun b=>b=w.heap.size+1+1∨b=w.heap.size+1+1+1∨b=w.heap.size+1+1+1+1) x y∧(GdOF w n N g c1 ge a x→GdOF w n N g c1 ge a y)
theorem RelGF.refl {w:World} {n N g c1 ge:Nat} {a:Fr} (x:World):RelGF w n N g c1 ge a x x:=⟨But.refl _ _,id⟩
theorem gd_laterF {w:World} {n N g c1 ge:Nat} {a:Fr} {x y:World} (h:GdOF w n N g c1 ge a x) (k:Bl x y):GdOF w n N g c1 ge a y:=⟨h.m.later k,(bl_cell k _ _ (cell_lt9F h.l)).trans h.l,(bl_froz k _ _ (cell_lt9F h.l)).trans h.lf,h.a.later k⟩
theorem RelGF.refl0 {w:World} {n N g c1 ge:Nat} {a:Fr} (x:World):RelGF w n N g c1 ge a x x.drew:=⟨But.of_bl (Bl.refl _).drew,fun h=>gd_laterF h (Bl.refl _).drew⟩
theorem RelGF.trans {w:World} {n N g c1 ge:Nat} {a:Fr} {x y z:World} (h:RelGF w n N g c1 ge a x y) (k:RelGF w n N g c1 ge a y z):RelGF w n N g c1 ge a x z:=⟨h.1.trans k.1,fun q=>k.2 (h.2 q)⟩
theorem RelGF.m {w:World} {n N g c1 ge:Nat} {a:Fr} (u:World):RelGF w n N g c1 ge a u (((u.setCell ⟨w.heap.size+1+1,0,none⟩ (.int .i64 n)).setCell ⟨w.heap.size+1+1,1,none⟩ (.int .i64 n)).setCell ⟨w.heap.size+1+1,2,none⟩ (.slice (some ⟨g,0,none⟩) N c1)):=by
 have b:But (fun i=>i=w.heap.size+1+1) u (((u.setCell ⟨w.heap.size+1+1,0,none⟩ (.int .i64 n)).setCell ⟨w.heap.size+1+1,1,none⟩ (.int .i64 n)).setCell ⟨w.heap.size+1+1,2,none⟩ (.slice (some ⟨g,0,none⟩) N c1)):=((but_cell1 (S:=fun i=>i=w.heap.size+1+1) rfl _ _ _).trans (but_cell1 (S:=fun i=>i=w.heap.size+1+1) rfl _ _ _)).trans (but_cell1 (S:=fun i=>i=w.heap.size+1+1) rfl _ _ _);exact ⟨b.mono fun i h=>.inl h,fun h=>⟨h.m.fill _ _ _ _ _,(b.cell _ _ (cell_lt9F h.l) (by show ¬ w.heap.size+1+1+1=w.heap.size+1+1;omega)).trans h.l,(b.froz _ _ (cell_lt9F h.l) (by show ¬ w.heap.size+1+1+1=w.heap.size+1+1;omega)).trans h.lf,h.a.but b (by show ¬ w.heap.size+1+1+1+1=w.heap.size+1+1;omega)⟩⟩
theorem RelGF.l {w:World} {n N g c1 ge:Nat} {a:Fr} (u:World):RelGF w n N g c1 ge a u (u.setCell ⟨w.heap.size+1+1+1,0,none⟩ (.slice (some ⟨ge,0,none⟩) n n)):=by
 have b:But (fun i=>i=w.heap.size+1+1+1) u (u.setCell ⟨w.heap.size+1+1+1,0,none⟩ (.slice (some ⟨ge,0,none⟩) n n)):=but_cell1 (S:=fun i=>i=w.heap.size+1+1+1) rfl _ _ _;exact ⟨b.mono fun i h=>.inr (.inl h),fun h=>⟨h.m.but b (by show ¬ w.heap.size+1+1=w.heap.size+1+1+1;omega),by have:=h.l;simp [go_sem,this],by have:=h.lf;simp [go_sem,this],h.a.but b (by show ¬ w.heap.size+1+1+1+1=w.heap.size+1+1+1;omega)⟩⟩
theorem RelGF.a {w:World} {n N g c1 ge:Nat} {a:Fr} (u:World):RelGF w n N g c1 ge a u (((u.setCell ⟨w.heap.size+1+1+1+1,0,none⟩ (.int .i64 a.n)).setCell ⟨w.heap.size+1+1+1+1,1,none⟩ (.int .i64 a.d)).setCell ⟨w.heap.size+1+1+1+1,2,none⟩ (.bool a.bad)):=by
 have b:But (fun i=>i=w.heap.size+1+1+1+1) u (((u.setCell ⟨w.heap.size+1+1+1+1,0,none⟩ (.int .i64 a.n)).setCell ⟨w.heap.size+1+1+1+1,1,none⟩ (.int .i64 a.d)).setCell ⟨w.heap.size+1+1+1+1,2,none⟩ (.bool a.bad)):=butRF _ _ _ _ _;exact ⟨b.mono fun i h=>.inr (.inr h),fun h=>⟨h.m.but b (by show ¬ w.heap.size+1+1=w.heap.size+1+1+1+1;omega),(b.cell _ _ (cell_lt9F h.l) (by show ¬ w.heap.size+1+1+1=w.heap.size+1+1+1+1;omega)).trans h.l,(b.froz _ _ (cell_lt9F h.l) (by show ¬ w.heap.size+1+1+1=w.heap.size+1+1+1+1;omega)).trans h.lf,h.a.fill a⟩⟩
theorem oneF (x:Fr):∀ v∈cellsF x,v.oneCell'=true:=by
 intro v hv;simp [cellsF] at hv;rcases hv with rfl|rfl|rfl<;>rfl
theorem make_zeroOF (n:Nat) (hn:n≤1000) (u:World):∃ u',(Instr.makeSlice 22 (.int .i64 n) (.int .i64 n)).run Tryz.prog u=.ok (.slice (some ⟨u.heap.size,0,none⟩) n n) u'∧Rq 1 cI u' (.slice (some ⟨u.heap.size,0,none⟩) n n) (linJ n fun _=>(0:Int))∧Bl u u':=by
 obtain ⟨i0,hi,hz0,hz1,hz2⟩:=info_parts (show (Tryz.prog.info? 3).map (fun i=>(i.zero,i.size,i.bytes))=some (some (.int .i64 0),1,8) by kernel_rfl);obtain ⟨u',h1,h2,h3⟩:=run_makeSlice_full (P:=Tryz.prog) (w:=u) u.heap.size 22 3 i0 (.int .i64 0) 1 (by kernel_rfl) hi hz0 hz1 .i64 .i64 n (by omega) (by rw [hz2];omega) (by unfold maxLen;omega) (Nat.le_refl _);refine ⟨u',h1,?_,(Bl.refl u).grown h3 (Nat.le_refl _) (fun k e=>by cases e)⟩;have e:(madeCells (Value.cells (.int .i64 0)) (n*1)).toList=(linJ n fun _=>(0:Int)).flatMap cI:=by
  rw [show (linJ n fun _=>(0:Int)).flatMap cI=(linJ n fun _=>(0:Int)).map (fun x=>(.int .i64 x:Value)) from flatI_map _,Nat.mul_one];rw [show (linJ n fun _=>(0:Int))=List.replicate n 0 from by unfold linJ;rw [List.map_const'];simp,List.map_replicate];exact toList_madeCells_one _ _
 rw [e] at h2;have h4:=Rw.of_own (s:=1) (c:=cI) (fun _=>rfl) (xs:=linJ n fun _=>(0:Int)) (by rw [linJ_len];exact h2);exact h4.q
theorem whole_linOF (p:Option Addr) (n cap:Nat) (h:Nat→Int) (w:World) (hr:Rq 1 cI w (.slice p n cap) (linJ n h)) (hl:n≤1000000) :
  Calls Tryz.prog 16 #[.slice p n cap] w fun e w'=>∃ q c,e=.returned (.slice q n c)∧Rw 3 cellsF w' (.slice q n c) (linJ n fun i=>wholeF (h i))∧Fresh w.heap.size (.slice q n c)∧Bl w w':=
 (vWholeF' _ _ w hr (by rw [linJ_len];exact hl)).mono fun e w' ⟨u,he,hr,hf,hb⟩=>by
  rw [linJ_map] at hr;obtain ⟨q,c,rfl,_,_⟩:=hr.cut;rw [linJ_len] at hr hf he;exact ⟨q,c,he,hr,hf,hb⟩
theorem rq_cells0F {w:World} {p:Option Addr} {n cap:Nat} {f:Nat→Fr} (h:Rq 3 cellsF w (.slice p n cap) (linJ n f)) (h1:1≤n):∃ b o,p=some ⟨b,o,none⟩∧∀ j v,((linJ n f).flatMap cellsF)[j]?=some v→w.cell? ((⟨b,o,none⟩:Addr).add j)=some v:=by
 rcases h with ⟨p',cap',e,hx,_⟩|⟨b,o,cap',e,hc,hb,hx⟩
 ·have:=congrArg List.length hx;rw [linJ_len] at this;simp at this;omega
 ·simp only [Value.slice.injEq] at e;refine ⟨b,o,e.1,fun j v hj=>?_⟩;have hjl:j<n*3:=by have:=(List.getElem?_eq_some_iff.1 hj).1;rwa [flat_len cellsF_len,linJ_len] at this
  have h1:j/3<n:=(Nat.div_lt_iff_lt_mul (by decide)).2 hjl;have h3:j % 3<3:=Nat.mod_lt _ (by decide);have e2:j=j/3*3+j % 3:=by rw [Nat.mul_comm];exact (Nat.div_add_mod j 3).symm
  rw [e2,flat_get cellsF_len _ _ _ _ (linJ_get f h1) h3] at hj;rw [add_off _ _ rfl];have:=hx _ _ (linJ_get f h1) _ _ hj;show w.cell? ⟨b,o+j,none⟩=some v;rw [e2,←Nat.add_assoc];exact this
set_option maxRecDepth 100000 in
set_option maxHeartbeats 8000000 in
theorem rTakenF (n N:Nat) (p:Option Addr) (cap:Nat) (s:Nat→Nat→Fr) (ph:Option Addr) (ch:Nat) (h:Nat→Fr) (r:Fr) (w:World) (hS:Mx 3 cellsF w n n p N cap s) (hh:Rq 3 cellsF w (.slice ph n ch) (linJ n h)) :
  Calls Tryz.prog 67 #[mV n n p N cap,.slice ph n ch,frV r] w fun e w'=>∃ g c ge ce,e=.returned (.tuple #[mV n n (some ⟨g,0,none⟩) N c,.slice (some ⟨ge,0,none⟩) n ce,frV (runO kdF n s h r n).a])∧(RwZ 3 cellsF w' w.heap.size (.slice (some ⟨g,0,none⟩) N c) (mk n n (runO kdF n s h r n).s)∧RwZ 3 cellsF w' w.heap.size (.slice (some ⟨ge,0,none⟩) n ce) (linJ n (runO kdF n s h r n).e))∧Bl w w':=by
 have fm:Tryz.prog.follows .mixedOrders=true:=by kernel_rfl
 have egW:=enters_of Tryz.func16 (by kernel_rfl) rfl;obtain ⟨i0,hi,hz0,hz1,hz2⟩:=info_parts Tryz.info_F;refine (callsIn_wide (n:=8)).1 ?_;have hd:=hS.1;have hN:=hS.2.1;have hfit:=hS.fit;have hn16:=hd.r2;have n1:=hd.r1;have HSM:=hideP hS;have HHM:=hideP hh;obtain ⟨W,hW⟩:∃ W,W=((((w.alloc (.cells #[.int .i64 n,.int .i64 n,.slice p N cap] 30)).alloc (.cells #[.int .i64 r.n,.int .i64 r.d,.bool r.bad] 34)).alloc (.cells #[.int .i64 0,.int .i64 0,.slice none 0 0] 30)).alloc (.cells #[.slice none 0 0] 28)).alloc (.cells #[.int .i64 0,.int .i64 0,.bool false] 34):=⟨_,rfl⟩;have b0:Bl w W:=by rw [hW];exact (((((Bl.refl _).alloc _).alloc _).alloc _).alloc _).alloc _
 have hWs:W.heap.size=w.heap.size+1+1+1+1+1:=by rw [hW];simp
 have m0:MBox W w.heap.size n n p N cap:=by rw [hW];exact (MBox.new w _ _ _ _ _ _).later (((((Bl.refl _).alloc _).alloc _).alloc _).alloc _)
 have kr:FBox W (w.heap.size+1) r:=by rw [hW];have:=(FBox.new (w.alloc (.cells #[.int .i64 n,.int .i64 n,.slice p N cap] 30)) r 34).later ((((Bl.refl _).alloc (.cells #[.int .i64 0,.int .i64 0,.slice none 0 0] 30)).alloc (.cells #[.slice none 0 0] 28)).alloc (.cells #[.int .i64 0,.int .i64 0,.bool false] 34));simp only [World.size_alloc] at this;exact this
 have z6:MBox W (w.heap.size+1+1) 0 0 none 0 0:=by rw [hW];have:=(MBox.new ((w.alloc (.cells #[.int .i64 n,.int .i64 n,.slice p N cap] 30)).alloc (.cells #[.int .i64 r.n,.int .i64 r.d,.bool r.bad] 34)) 0 0 none 0 0 30).later (((Bl.refl _).alloc (.cells #[.slice none 0 0] 28)).alloc (.cells #[.int .i64 0,.int .i64 0,.bool false] 34));simp only [World.size_alloc] at this;exact this
 have s7:W.cell? ⟨w.heap.size+1+1+1,0,none⟩=some (.slice none 0 0):=by rw [hW];simp [go_sem]
 have f7:W.frozen? ⟨w.heap.size+1+1+1,0,none⟩=false:=by rw [hW];simp [go_sem]
 have k8:FBox W (w.heap.size+1+1+1+1) zeroR:=by rw [hW];have:=(FBox.new ((((w.alloc (.cells #[.int .i64 n,.int .i64 n,.slice p N cap] 30)).alloc (.cells #[.int .i64 r.n,.int .i64 r.d,.bool r.bad] 34)).alloc (.cells #[.int .i64 0,.int .i64 0,.slice none 0 0] 30)).alloc (.cells #[.slice none 0 0] 28)) zeroR 34);simp only [World.size_alloc] at this;exact this
 have NW:=hideP (mNewZF (n:Int) (n:Int) p N cap (mk n n s) W (hS.2.2.later b0) hfit (by rw [mk_len,hN]));have HW:=hideP hW;have HNN:=hideP hN;clear hW hS hh hN;refine callsIn_of_wp_marks Tryz.func67 rfl trivial ?_ rfl;refine wpIn_wide.2 ?_;simp only [Tryz.ntmps67,List.size_toArray,List.length_cons,List.length_nil,Nat.reduceAdd,Nat.reduceSub,Array.replicate_succ,Array.replicate_zero,List.push_toArray,List.append_toArray,List.nil_append,List.cons_append];obtain ⟨c0,c1,c2,_,_,_,_⟩:=id m0;rw [HW.out] at c0 c1 c2;go_wp2_with fail
 try simp only [World.size_alloc]
 rw [←HW.out];refine NW.out.mono ?_;rintro e w1 ⟨p1,c1',rfl,hZ,h1⟩;clear c0 c1 c2 NW;obtain ⟨g,cg,eg,hcg,hlog,hgl,_,_⟩:=id hZ;simp only [Value.slice.injEq] at eg;obtain ⟨rfl,e2,e3⟩:=eg;clear e2 e3 hcg;obtain ⟨W1,hW1⟩:∃ W1,W1=((w1.setCell ⟨w.heap.size+1+1,0,none⟩ (.int .i64 n)).setCell ⟨w.heap.size+1+1,1,none⟩ (.int .i64 n)).setCell ⟨w.heap.size+1+1,2,none⟩ (.slice (some ⟨g,0,none⟩) N c1'):=⟨_,rfl⟩;have bu1:But (fun b=>b=w.heap.size+1+1) w1 W1:=by rw [hW1];exact ((but_cell1 (S:=fun i=>i=w.heap.size+1+1) rfl _ _ _).trans (but_cell1 (S:=fun i=>i=w.heap.size+1+1) rfl _ _ _)).trans (but_cell1 (S:=fun i=>i=w.heap.size+1+1) rfl _ _ _)
 have B1:Bl w W1:=by rw [hW1];exact Bl.put3 (b0.trans h1) (by omega) _ _ _
 have z61:MBox W1 (w.heap.size+1+1) n n (some ⟨g,0,none⟩) N c1':=by rw [hW1];exact (z6.later h1).fill _ _ _ _ _
 have m1:MBox W1 w.heap.size n n p N cap:=(m0.later h1).but bu1 (by omega);have kr1:FBox W1 (w.heap.size+1) r:=(kr.later h1).but bu1 (by omega);have k81:FBox W1 (w.heap.size+1+1+1+1) zeroR:=(k8.later h1).but bu1 (by omega);have s71:W1.cell? ⟨w.heap.size+1+1+1,0,none⟩=some (.slice none 0 0):=(bu1.cell _ _ (by have:=h1.size;omega) (by omega)).trans ((bl_cell h1 _ _ (by omega)).trans s7);have f71:W1.frozen? ⟨w.heap.size+1+1+1,0,none⟩=false:=(bu1.froz _ _ (by have:=h1.size;omega) (by omega)).trans ((bl_froz h1 _ _ (by omega)).trans f7);have HZ1:=hideP (hZ.but bu1 (fun b hb=>by cases hb;show ¬ g=w.heap.size+1+1;omega));have g1l:g<W1.heap.size:=HZ1.out.glt;have w1s:w.heap.size+1+1+1+1+1≤W1.heap.size:=by have:=h1.size;have:=bu1.size;omega
 obtain ⟨q0,q1,q2,q3,q4,q5,_⟩:=z6.later h1;obtain ⟨c0,c1,c2,_,_,_,_⟩:=id m1;have HW1:=hideP hW1;rw [hW1] at c0 c1 c2;clear hW1 hZ m0 kr z6 s7 f7 k8;go_wp2_with fail
 rw [←HW1.out];refine (mTurnF n n p N cap s W1 (HSM.out.later B1)).mono ?_;rintro e w2 ⟨p2,c2',rfl,⟨hT,_,_⟩,h2⟩;clear q0 q1 q2 q3 q4 q5 c0 c1 c2;go_wp2_with fail
 refine (mApplyF' n n p2 N c2' (fun i k=>s k i) ph ch (linJ n h) w2 hT (HHM.out.later (B1.trans h2)) (linJ_len _ _)).mono ?_;rintro e w3 ⟨pw,cw,rfl,hRw,hFw,h3⟩;have HRW:=hideP (show Rw 3 cellsF w3 (.slice pw n cw) (linJ n (wO kdF n s h)) from hRw);have b13:Bl W1 w3:=h2.trans h3;clear hT hRw;have s73:=(bl_cell b13 _ 0 (by omega)).trans s71;have f73:=(bl_froz b13 _ 0 (by omega)).trans f71;have hse:w.heap.size+1+1+1<w3.heap.size:=by have:=b13.size;omega
 go_wp2_with (at_make;refine wpList_make_full _ rfl _ _ 28 rfl w3.heap.size 34 i0 (.agg #[.int .i64 0,.int .i64 0,.bool false]) 3 Tryz.underlying28 hi hz0 hz1 .i64 .i64 _ _ n rfl rfl (by simp) (by simp) (by rw [hz2];omega) (by unfold maxLen;omega) (by simp) ?_;intro w4 hown4 hgrow4;have s74:=(bl_cell ((Bl.refl w3).grown hgrow4 (Nat.le_refl _) (fun k e=>by cases e)) _ 0 hse).trans s73;have f74:=(bl_froz ((Bl.refl w3).grown hgrow4 (Nat.le_refl _) (fun k e=>by cases e)) _ 0 hse).trans f73)
 obtain ⟨ge,hge⟩:∃ ge,ge=w3.heap.size:=⟨_,rfl⟩;have b34:Bl w3 w4:=(Bl.refl w3).grown hgrow4 (Nat.le_refl _) (fun k e=>by cases e);obtain ⟨W4,hW4⟩:∃ W4,W4=w4.setCell ⟨w.heap.size+1+1+1,0,none⟩ (.slice (some ⟨w3.heap.size,0,none⟩) n n):=⟨_,rfl⟩;have bu4:But (fun b=>b=w.heap.size+1+1+1) w4 W4:=by rw [hW4];exact but_cell1 (S:=fun i=>i=w.heap.size+1+1+1) rfl _ _ _
 have own4:=ownsRow_setCell_below hown4 (a:=⟨w.heap.size+1+1+1,0,none⟩) hse (.slice (some ⟨w3.heap.size,0,none⟩) n n);rw [←hW4,←hge] at own4;have s7w:W4.cell? ⟨w.heap.size+1+1+1,0,none⟩=some (.slice (some ⟨ge,0,none⟩) n n):=by rw [hW4,hge];simp [go_sem,s74]
 have HW4:=hideP hW4;have geW:ge<W4.heap.size:=(own4.lt ge rfl).2;have OWN4:=hideP own4;clear hW4 s74 f74 own4 hown4;have w4s:W4.heap.size=w4.heap.size:=by rw [HW4.out];simp
 have bw34:w3.heap.size≤w4.heap.size:=b34.size;have HRW4:=hideP ((HRW.out.later b34).but bu4 (fun b hb=>by have:=hFw b hb;have:=h2.size;show ¬ b=w.heap.size+1+1+1;omega));have gwn:∀ b,(Value.slice pw n cw).ownBlock=some b→b≠ge∧b≠g∧w.heap.size+1+1+1+1<b:=fun b hb=>by
  have h5:=hFw b hb;have h6:=HRW.out.lt b hb;have h7:=h2.size;exact ⟨by omega,by omega,by omega⟩
 have HZ4:=hideP (((HZ1.out.later b13).later b34).but bu4 (fun b hb=>by cases hb;show ¬ g=w.heap.size+1+1+1;omega));have b14:Bl W1 w4:=b13.trans b34;have z64:MBox W4 (w.heap.size+1+1) n n (some ⟨g,0,none⟩) N c1':=(z61.later b14).but bu4 (by omega);have kr4:FBox W4 (w.heap.size+1) r:=(kr1.later b14).but bu4 (by omega);have k84:FBox W4 (w.heap.size+1+1+1+1) zeroR:=(k81.later b14).but bu4 (by omega);have f7w:W4.frozen? ⟨w.heap.size+1+1+1,0,none⟩=false:=by rw [HW4.out];simp [go_sem];exact (bl_froz b34 _ 0 hse).trans f73
 have B4:Bl w W4:=by rw [HW4.out];exact Bl.set ((B1.trans b14)) (by show w.heap.size≤w.heap.size+1+1+1;omega) _
 have g5:g<ge:=by have:=b13.size;omega
 have ge5:w.heap.size+1+1+1+1+1≤ge:=by have:=b13.size;omega
 have gge:g≠ge:=by omega
 have SEVEN:=fun (u:World) (hu:RelOF ge w3.heap.size n (linJ n fun _=>wholeF 0) W4 u)=>(hu.but.cell (w.heap.size+1+1+1) 0 (by omega) (by omega)).trans s7w
 have GEU:=fun (u:World) (hu:RelOF ge w3.heap.size n (linJ n fun _=>wholeF 0) W4 u)=>Nat.lt_of_lt_of_le geW hu.but.size
 have FL:((linJ n fun _=>wholeF 0).flatMap cellsF).length=n*3:=by rw [flat_len cellsF_len,linJ_len]
 have ONEC:∀ v∈(linJ n fun _=>wholeF 0).flatMap cellsF,v.oneCell'=true:=fun v hv=>by
  obtain ⟨x,_,hx⟩:=List.mem_flatMap.1 hv;exact oneF x v hx
 have CANZ:∀ u (hu:RelOF ge w3.heap.size n (linJ n fun _=>wholeF 0) W4 u),(∀ j,j<((linJ n fun _=>wholeF 0).flatMap cellsF).length→(u.cell? ⟨ge,0+j,none⟩).isSome=true)∧(∀ j,j<((linJ n fun _=>wholeF 0).flatMap cellsF).length→u.frozen? ⟨ge,0+j,none⟩=false)∧RwZ 3 cellsF (u.setCells ge 0 ((linJ n fun _=>wholeF 0).flatMap cellsF)) w3.heap.size (.slice (some ⟨ge,0,none⟩) n n) (linJ n fun _=>wholeF 0):=fun u hu=>by
  rcases hu with hb|⟨_,hz⟩
  ·have H:=RwZ.copy cellsF_len (own_blF OWN4.out hb) (xs:=linJ n fun _=>wholeF 0) (linJ_len _ _) n1;rw [Nat.zero_mul] at H;exact ⟨H.2.1,fun j _=>H.2.2 j,H.1.base (by omega)⟩
  ·have H:=RwZ.againF hz;exact ⟨H.1,H.2,RwZ.copy2F hz⟩
 clear s71 f71 s73 f73 hi hz0 hz1 hz2;rw [←HW4.out,←hge];have HGE:=hideP hge;clear hge
 refine (wpIn_wide (n:=8)).1 (region_r fm (RelOF ge w3.heap.size n (linJ n fun _=>wholeF 0)) [some 33,some 34,some 35,some 36,some 37,some 38] (by kernel_rfl) (by rfl) (.inl (Bl.refl _).drew) (fun h k=>h.trans k)
  (fun j v u=>match j with|0=>v=.slice (some ⟨ge,0,none⟩) n n|1=>v=.slice ph n ch|2=>v=.int .i64 n|3=>∃ g',v=.slice (some ⟨g',0,none⟩) n n∧Rq 1 cI u (.slice (some ⟨g',0,none⟩) n n) (linJ n fun _=>(0:Int))∧g'≠ge|4=>∃ q c,v=.slice q n c∧Rw 3 cellsF u (.slice q n c) (linJ n fun _=>wholeF 0)∧∀ g',(Value.slice q n c).ownBlock=some g'→g'≠ge|5=>v=.int .i64 n∧RwZ 3 cellsF u w3.heap.size (.slice (some ⟨ge,0,none⟩) n n) (linJ n fun _=>wholeF 0)|_=>False)
  (by
   intro j v u u' hR0 hb h;split at h<;>first|exact h|(obtain ⟨g',e,h1,h2⟩:=h;exact ⟨g',e,rq_butF h1 hb.but (fun g hg=>by cases hg;exact h2),h2⟩)|(obtain ⟨q,c,e,h1,h2⟩:=h;exact ⟨q,c,e,h1.but hb.but h2,h2⟩)|exact ⟨h.1,hb.rwz h.2⟩) ?step ?fin)
 case step =>
  intro j o act u ho hsz hu hfr hin hnon;have hj:j<6:=l9 ho;have s7':=SEVEN u hu;have hgeu:ge<u.heap.size:=GEU u hu;rcases (by omega:j=0∨j=1∨j=2∨j=3∨j=4∨j=5) with rfl|rfl|rfl|rfl|rfl|rfl
  ·obtain rfl:=o9 ho;have i7:_=Value.pointer (some ⟨w.heap.size+1+1+1,0,none⟩):=hfr 7 (by decide);exact pw9 (by simp only [seval,i7];simp [go_sem,s7']) ⟨_,rfl,rfl,.inl (Bl.refl _)⟩
  ·obtain rfl:=o9 ho;have i1:_=Value.slice ph n ch:=hfr 1 (by decide);exact pw9 (by simp only [seval,i1];simp [go_sem,hn16]) ⟨_,rfl,rfl,.inl (Bl.refl _)⟩
  ·obtain rfl:=o9 ho;have i34:_=Value.slice ph n ch:=hin ⟨1,.data⟩ (by simp) rfl 34 rfl;exact pw9 (by simp only [execOp,resolve,List.map_toArray,List.map_cons,List.map_nil,i34];simp [invoke,builtin,Builtin.len_,Builtin.lenOf,Result.andThen,go_sem]) ⟨_,rfl,rfl,.inl (Bl.refl _)⟩
  ·obtain rfl:=o9 ho;have i35:_=Value.int .i64 n:=hin ⟨2,.data⟩ (by simp) rfl 35 rfl;obtain ⟨u',hr,hq,hb⟩:=make_zeroOF n (by omega) u;exact pw9 (w':=u') (v:=.slice (some ⟨u.heap.size,0,none⟩) n n) (by simp only [execOp,i35];rw [Sem.run_bind,hr];rfl) ⟨_,rfl,⟨u.heap.size,rfl,hq,by have:=hgeu;omega⟩,.inl hb⟩
  ·obtain rfl:=o9 ho;have i36:∃ g',(act.eval (.tmp (36:Nat)))=.slice (some ⟨g',0,none⟩) n n∧Rq 1 cI u (.slice (some ⟨g',0,none⟩) n n) (linJ n fun _=>(0:Int))∧g'≠ge:=hin ⟨3,.data⟩ (by simp) rfl 36 rfl;obtain ⟨g0,e0,hg,_⟩:=i36;refine ew9 16 #[.slice (some ⟨g0,0,none⟩) n n] (by simp only [seval,e0];simp [invoke,egW,Result.andThen,go_sem]) (whole_linOF _ n n (fun _=>(0:Int)) u hg (by omega)) ?_;rintro e w' ⟨q,c,rfl,hR,hF,hb⟩;exact ⟨_,rfl,_,rfl,⟨q,c,rfl,hR,fun g' e=>by have:=hF g' e;have:=hgeu;omega⟩,.inl hb⟩
  ·obtain rfl:=o9 ho;have i33:_=Value.slice (some ⟨ge,0,none⟩) n n:=hin ⟨0,.data⟩ (by simp) rfl 33 rfl;have i37:∃ q c,(act.eval (.tmp (37:Nat)))=.slice q n c∧Rw 3 cellsF u (.slice q n c) (linJ n fun _=>wholeF 0)∧∀ g',(Value.slice q n c).ownBlock=some g'→g'≠ge:=hin ⟨4,.data⟩ (by simp) rfl 37 rfl;obtain ⟨q0,c0',e0,hq,hqn⟩:=i37;obtain ⟨gq,oq,rfl,CQ⟩:=rq_cells0F hq.q (by omega);obtain ⟨hsm,hfz,hnew⟩:=CANZ u hu;exact pw9 (v:=.int .i64 n) (by simp only [execOp,resolve,List.map_toArray,List.map_cons,List.map_nil,i33,e0];simp [invoke,builtin,goInt,run_copy_s (P:=Tryz.prog) u 28 28 _ 34 3 ge 0 n n ⟨gq,oq,none⟩ n c0' n ((linJ n fun _=>wholeF 0).flatMap cellsF) Tryz.underlying28 Tryz.sizeF (by simp) FL CQ hsm hfz ONEC,Result.andThen]) ⟨_,rfl,⟨rfl,hnew⟩,.inr ⟨but_setCells (S:=fun b=>b=ge) (b:=ge) rfl _ _ _ _ (But.refl _ _),hnew⟩⟩
 case fin =>
  intro vs u hu hin hnon;have a0:=hin 0 33 rfl;have a1:=hin 1 34 rfl;have a2:=hin 2 35 rfl;have a3:=hin 3 36 rfl;have a4:=hin 4 37 rfl;have a5:=hin 5 38 rfl;simp only [seval] at a0 a1 a2 a3 a4 a5 ⊢;simp only [a0,a1,a2,a5];obtain ⟨w5,rfl⟩:∃ w5,w5=u:=⟨_,rfl⟩;have bu45:But (fun b=>b=ge) W4 w5:=hu.but;have HE5:=hideP a5.2;have HZ5:=hideP (HZ4.out.but bu45 (fun b hb=>by cases hb;exact gge));have HRW5:=hideP (HRW4.out.but bu45 (fun b hb=>(gwn b hb).1));have z65:MBox w5 (w.heap.size+1+1) n n (some ⟨g,0,none⟩) N c1':=z64.but bu45 (by show ¬ w.heap.size+1+1=ge;omega);have kr5:FBox w5 (w.heap.size+1) r:=kr4.but bu45 (by show ¬ w.heap.size+1=ge;omega);have k85:FBox w5 (w.heap.size+1+1+1+1) zeroR:=k84.but bu45 (by show ¬ w.heap.size+1+1+1+1=ge;omega);have s75:w5.cell? ⟨w.heap.size+1+1+1,0,none⟩=some (.slice (some ⟨ge,0,none⟩) n n):=(bu45.cell _ _ (by omega) (by show ¬ w.heap.size+1+1+1=ge;omega)).trans s7w;have f75:w5.frozen? ⟨w.heap.size+1+1+1,0,none⟩=false:=(bu45.froz _ _ (by omega) (by show ¬ w.heap.size+1+1+1=ge;omega)).trans f7w;have B5:Bl w w5:=bu45.bl B4 (fun i hi=>by have:i=ge:=hi;omega);have w5s:W4.heap.size≤w5.heap.size:=bu45.size;clear a0 a1 a2 a3 a4 a5 hin hnon SEVEN GEU CANZ s7w f7w z64 kr4 k84;obtain ⟨W5,hW5⟩:∃ W5,W5=(((w5.setCell ⟨w.heap.size+1+1+1+1,0,none⟩ (.int .i64 r.n)).setCell ⟨w.heap.size+1+1+1+1,1,none⟩ (.int .i64 r.d)).setCell ⟨w.heap.size+1+1+1+1,2,none⟩ (.bool r.bad)):=⟨_,rfl⟩;have bu5:But (fun b=>b=w.heap.size+1+1+1+1) w5 W5:=by rw [hW5];exact butRF _ _ _ _ _
  have kA:FBox W5 (w.heap.size+1+1+1+1) r:=by rw [hW5];exact k85.fill r
  have HZ6:=hideP (HZ5.out.but bu5 (fun b hb=>by cases hb;show ¬ g=w.heap.size+1+1+1+1;omega));have HE6:=hideP (HE5.out.but bu5 (fun b hb=>by cases hb;show ¬ ge=w.heap.size+1+1+1+1;omega));have HRW6:=hideP (HRW5.out.but bu5 (fun b hb=>by have:=(gwn b hb).2.2;show ¬ b=w.heap.size+1+1+1+1;omega));have z66:MBox W5 (w.heap.size+1+1) n n (some ⟨g,0,none⟩) N c1':=z65.but bu5 (by omega);have s76:W5.cell? ⟨w.heap.size+1+1+1,0,none⟩=some (.slice (some ⟨ge,0,none⟩) n n):=(bu5.cell _ _ (by omega) (by omega)).trans s75;have f76:W5.frozen? ⟨w.heap.size+1+1+1,0,none⟩=false:=(bu5.froz _ _ (by omega) (by omega)).trans f75;have B6:Bl w W5:=bu5.bl B5 (fun i hi=>by have:i=w.heap.size+1+1+1+1:=hi;omega);have w6s:w5.heap.size≤W5.heap.size:=bu5.size;obtain ⟨c0,c1,c2,f0,f1,f2,_⟩:=kr5;obtain ⟨d0,d1,d2,g0,g1,g2,_⟩:=k85;have HW5:=hideP hW5;clear hW5 z65 s75 f75;go_wp2_with fail
  rw [←HW5.out];refine (backwardF n pw cw (wO kdF n s h) W5 HRW6.out).mono ?_;rintro e w6 ⟨rfl,hkb,hw6⟩;have b56:Bl W5 w6:=by rw [hw6];exact (Bl.refl _).alloc _
  have h6s:w6.heap.size=W5.heap.size+1:=by rw [hw6];simp
  have HKB:=hideP hkb;clear hw6 hkb c0 c1 c2 f0 f1 f2 d0 d1 d2 g0 g1 g2;have I0:StIF w n N g c1' ge w6.heap.size ⟨s,fun _=>wholeF 0,r⟩ w6:=⟨(HZ6.out.later b56).base (by omega),(HE6.out.later b56).base (by omega),kA.later b56,z66.later b56,(bl_cell b56 _ _ (by omega)).trans s76,(bl_froz b56 _ _ (by omega)).trans f76,B6.trans b56,Nat.le_refl _⟩;go_wp2_with fail
  refine (wpIn_wide (n:=8)).1 (rangeW rfl (by omega) (gf:=142) (lb:=#[.pointer (some ⟨W5.heap.size,0,none⟩)]) rfl trivial (enters_of Tryz.func142 (by kernel_rfl) rfl)
   (seqBF 7 W5.heap.size n pw cw (wO kdF n s h) (But (fun b=>b=g∨b=ge∨b=w.heap.size+1+1+1+1∨w6.heap.size≤b)) (fun {A C} hk hb=>keptB_butF hk hb (by show ¬ (W5.heap.size=g∨W5.heap.size=ge∨W5.heap.size=w.heap.size+1+1+1+1∨w6.heap.size≤W5.heap.size);omega) (fun b hb=>by have:=gwn b hb;have:=HRW6.out.lt b hb;show ¬ (b=g∨b=ge∨b=w.heap.size+1+1+1+1∨w6.heap.size≤b);omega)) w6 (by omega) (fun U hU=>⟨(bl_cell hU _ _ (by omega)).trans HKB.out.box,HKB.out.row.later hU⟩))
   (fun x A B h=>by rw [h.1];exact Bl.refl _) (fun h k=>h.trans k) (fun U l o o' hl _ _ _=>but_putObj9F _ (.inr (.inr (.inr hl)))) (fun _=>rfl)
   (fun pre U=>StIF w n N g c1' ge w6.heap.size (foldO kdF n ⟨s,fun _=>wholeF 0,r⟩ pre) U) (fun _ _ _=>False) (fun pre X Y row hs hg hr=>sti_ownF hs n1 HNN.out (by omega) hg hr) (fun _ _ _ _ _ hs _ _=>hs) I0
   (fun a pre x a' U=>x.1<n∧∃ b,FBox U b x.2∧w6.heap.size≤b∧a'={ tmps:=((((a.tmps.setIfInBounds 42 (.int .i64 x.1)).setIfInBounds 43 (frV x.2)).setIfInBounds 11 (.int .i64 x.1)).setIfInBounds 12 (.pointer (some ⟨b,0,none⟩))),defers:=[] })
   (fun pre x a' _ X Y row hs hg hr=>by
    obtain ⟨h1,b,h2,h3,h4⟩:=hs;exact ⟨h1,b,box_blk9F h2 (own_blk9F h2.c0 hg (fun r e=>(hr r e).2)) hg.size,h3,h4⟩)
   ?assign ?body ?done ?stop)
  case assign =>
   rintro l pre x W0 U K' hI0 ⟨rfl,hx⟩ hI hK';have HK3:=hideP hK';have HI:=hideP hI;clear hK' hI hI0;have kB:Bl U (U.alloc (.cells #[.int .i64 x.2.n,.int .i64 x.2.d,.bool x.2.bad] 34)):=(Bl.refl _).alloc _;have hU:=HI.out.sz
   gi_wp2
   refine HK3.out _ _ (kB.keeps _) (But.of_bl kB) (sti_laterF HI.out kB) ⟨hx,U.heap.size,FBox.new U x.2 _,hU,?_⟩;simp only [List.setIfInBounds_toArray,List.set_cons_zero,List.set_cons_succ]
  case stop =>
   rintro D' c pre U _ _ h _;exact h.elim
  case body =>
   rintro l pre x a' U hl' ⟨rl,hr'⟩ hI ⟨hx,b,hbx,hbl,rfl⟩ hlt;simp only [List.setIfInBounds_toArray,List.set_cons_zero,List.set_cons_succ];obtain ⟨T,hT⟩:∃ T,T=foldO kdF n ⟨s,fun _=>wholeF 0,r⟩ pre:=⟨_,rfl⟩;rw [←hT] at hI;have HI:=hideP hI;have HT:=hideP hT;obtain ⟨m0,m1,m2,_,_,_,_⟩:=hI.m;have l0:=hI.l;obtain ⟨c0,c1,c2,f0,f1,f2,_⟩:=hbx;obtain ⟨d0,d1,d2,g0,g1,g2,_⟩:=hI.a;obtain ⟨nb,hnb⟩:∃ y,y=bO kdF T.a x.2:=⟨_,rfl⟩;have CH:=hideP (by have:=rChangeF n N g c1' ge n x.1 w.heap.size T x.2 U hd HNN.out hI.s hI.e gge hx;rw [←hnb] at this;exact this);have HNB:=hideP hnb;clear hI hT hnb hr'
   gi_wp2_with fail
   refine ⟨trivial,?_⟩;refine (CallsIn.inRound l (callsIn_wide.2 CH.out)).mono ?_;rintro e w9 ⟨rfl,hs9,he9,bt9⟩;have bt9':But (fun b=>b=g∨b=ge) U w9:=bt9;have hU:=HI.out.sz;have kA9:FBox w9 (w.heap.size+1+1+1+1) T.a:=HI.out.a.but bt9 (by show ¬ (w.heap.size+1+1+1+1=g∨w.heap.size+1+1+1+1=ge);omega);have HS9:=hideP hs9;have HE9:=hideP he9;clear m0 m1 m2 l0 c0 c1 c2 f0 f1 f2 d0 d1 d2 g0 g1 g2 hs9 he9 bt9;obtain ⟨d0,d1,d2,g0,g1,g2,_⟩:=id kA9
   gi_wp2
   obtain ⟨W9,hW9⟩:∃ W9,W9=(((w9.setCell ⟨w.heap.size+1+1+1+1,0,none⟩ (.int .i64 nb.n)).setCell ⟨w.heap.size+1+1+1+1,1,none⟩ (.int .i64 nb.d)).setCell ⟨w.heap.size+1+1+1+1,2,none⟩ (.bool nb.bad)):=⟨_,rfl⟩;have bu9:But (fun b=>b=w.heap.size+1+1+1+1) w9 W9:=by rw [hW9];exact butRF _ _ _ _ _
   have kf9:FBox W9 (w.heap.size+1+1+1+1) nb:=by rw [hW9];exact kA9.fill nb
   have b9:But (fun b=>b=g∨b=ge∨b=w.heap.size+1+1+1+1) U W9:=(bt9'.mono (fun i h=>by rcases h with h|h;exact .inl h;exact .inr (.inl h))).trans (bu9.mono (fun i h=>.inr (.inr h)));rw [←hW9];refine ⟨⟨b9.size,fun k o hB hk _=>(b9.block k (Array.getElem?_eq_some_iff.1 hk).1 (by show ¬ (k=g∨k=ge∨k=w.heap.size+1+1+1+1);omega)).trans hk⟩,b9.mono (fun i h=>by rcases h with h|h|h;exact .inl h;exact .inr (.inl h);exact .inr (.inr (.inl h))),?_⟩;show StIF w n N g c1' ge w6.heap.size (foldO kdF n ⟨s,fun _=>wholeF 0,r⟩ (pre++[x])) W9;rw [foldO_next,←HT.out];refine ⟨HS9.out.but bu9 (fun b hb=>by cases hb;show ¬ g=w.heap.size+1+1+1+1;omega),HE9.out.but bu9 (fun b hb=>by cases hb;show ¬ ge=w.heap.size+1+1+1+1;omega),?_,HI.out.m.but b9 (by show ¬ (w.heap.size+1+1=g∨w.heap.size+1+1=ge∨w.heap.size+1+1=w.heap.size+1+1+1+1);omega),(b9.cell _ _ (cell_lt9F HI.out.l) (by show ¬ (w.heap.size+1+1+1=g∨w.heap.size+1+1+1=ge∨w.heap.size+1+1+1=w.heap.size+1+1+1+1);omega)).trans HI.out.l,(b9.froz _ _ (cell_lt9F HI.out.l) (by show ¬ (w.heap.size+1+1+1=g∨w.heap.size+1+1+1=ge∨w.heap.size+1+1+1=w.heap.size+1+1+1+1);omega)).trans HI.out.lf,b9.bl HI.out.bl (fun i h=>by have h':i=g∨i=ge∨i=w.heap.size+1+1+1+1:=h;omega),Nat.le_trans HI.out.sz b9.size⟩;show FBox W9 _ (bO kdF T.a x.2);rw [←HNB.out];exact kf9
  case done =>
   rintro Dm zs U hD hS hI hKD;subst hS;obtain ⟨T,hT⟩:∃ T,T=runO kdF n s h r n:=⟨_,rfl⟩;rw [show foldO kdF n ⟨s,fun _=>wholeF 0,r⟩ (zsBF n (wO kdF n s h) n)=T from by rw [hT];exact foldO_run kdF n s h r n] at hI;have HI:=hideP hI;have HKD:=hideP hKD;have HTR:=hideP hT;obtain ⟨ta,hta⟩:∃ y,y=T.a:=⟨_,rfl⟩;have G0:GdOF w n N g c1' ge ta U:=⟨hI.m,hI.l,hI.lf,by rw [hta];exact hI.a⟩;have HTA:=hideP hta;clear hT hta hI hKD;go_wp2_with fail
   refine (wpIn_wide (n:=8)).1 (region_r fm (RelGF w n N g c1' ge ta) [some 50,some 51,some 52,none,none,none] (by kernel_rfl) (by rfl) (RelGF.refl0 _) (fun h k=>h.trans k)
    (fun j v u=>match j with|0=>v=mV n n (some ⟨g,0,none⟩) N c1'|1=>v=.slice (some ⟨ge,0,none⟩) n n|2=>v=frV ta|3=>True|4=>True|5=>True|_=>False)
    (fun j v u u' _ _ h=>h) ?step ?fin)
   case step =>
    intro j o act u ho hsz hu hfr hin hnon;have hj:j<6:=l9 ho;obtain ⟨⟨m0,m1,m2,x0,x1,x2,_⟩,l0,lf0,⟨d0,d1,d2,g0,g1,g2,_⟩⟩:=hu.2 G0;rcases (by omega:j=0∨j=1∨j=2∨j=3∨j=4∨j=5) with rfl|rfl|rfl|rfl|rfl|rfl
    ·obtain rfl:=o9 ho;have i6:_=Value.pointer (some ⟨w.heap.size+1+1,0,none⟩):=hfr 6 (by decide);exact pw9 (by simp only [seval,i6];simp [go_sem,m0,m1,m2]) ⟨_,rfl,rfl,RelGF.refl u⟩
    ·obtain rfl:=o9 ho;have i7:_=Value.pointer (some ⟨w.heap.size+1+1+1,0,none⟩):=hfr 7 (by decide);exact pw9 (by simp only [seval,i7];simp [go_sem,l0]) ⟨_,rfl,rfl,RelGF.refl u⟩
    ·obtain rfl:=o9 ho;have i8:_=Value.pointer (some ⟨w.heap.size+1+1+1+1,0,none⟩):=hfr 8 (by decide);exact pw9 (by simp only [seval,i8];simp [go_sem,d0,d1,d2]) ⟨_,rfl,rfl,RelGF.refl u⟩
    ·obtain rfl:=o9 ho;have i6:_=Value.pointer (some ⟨w.heap.size+1+1,0,none⟩):=hfr 6 (by decide);have i50:_=mV n n (some ⟨g,0,none⟩) N c1':=hin ⟨0,.data⟩ (by simp) rfl 50 rfl;exact sw9 (by simp only [execOp,i6,i50];simp [go_sem,m0,m1,m2,x0,x1,x2]) ⟨_,rfl,trivial,RelGF.m u⟩
    ·obtain rfl:=o9 ho;have i7:_=Value.pointer (some ⟨w.heap.size+1+1+1,0,none⟩):=hfr 7 (by decide);have i51:_=Value.slice (some ⟨ge,0,none⟩) n n:=hin ⟨1,.data⟩ (by simp) rfl 51 rfl;exact sw9 (by simp only [execOp,i7,i51];simp [go_sem,l0,lf0]) ⟨_,rfl,trivial,RelGF.l u⟩
    ·obtain rfl:=o9 ho;have i8:_=Value.pointer (some ⟨w.heap.size+1+1+1+1,0,none⟩):=hfr 8 (by decide);have i52:_=frV ta:=hin ⟨2,.data⟩ (by simp) rfl 52 rfl;exact sw9 (by simp only [execOp,i8,i52];simp [go_sem,d0,d1,d2,g0,g1,g2]) ⟨_,rfl,trivial,RelGF.a u⟩
   case fin =>
    intro vs u hu hin hnon;have a0:=hin 0 50 rfl;have a1:=hin 1 51 rfl;have a2:=hin 2 52 rfl;have a3:=hnon 3 rfl;have a4:=hnon 4 rfl;have a5:=hnon 5 rfl;simp only [seval] at a0 a1 a2 a3 a4 a5 ⊢;simp only [a0,a1,a2];obtain ⟨W9,rfl⟩:∃ W9,W9=u:=⟨_,rfl⟩;have bg:But (fun b=>b=w.heap.size+1+1∨b=w.heap.size+1+1+1∨b=w.heap.size+1+1+1+1) U W9:=hu.1;have G9:=hu.2 G0;have hK9:W9.heap[Dm]?=some (.deferred (some [])):=(bg.block Dm (Array.getElem?_eq_some_iff.1 HKD.out).1 (by show ¬ (Dm=w.heap.size+1+1∨Dm=w.heap.size+1+1+1∨Dm=w.heap.size+1+1+1+1);omega)).trans HKD.out;have HS9:=hideP (HI.out.s.but bg (fun b hb=>by cases hb;show ¬ (g=w.heap.size+1+1∨g=w.heap.size+1+1+1∨g=w.heap.size+1+1+1+1);omega));have HE9:=hideP (HI.out.e.but bg (fun b hb=>by cases hb;show ¬ (ge=w.heap.size+1+1∨ge=w.heap.size+1+1+1∨ge=w.heap.size+1+1+1+1);omega));have B9:Bl w W9:=bg.bl HI.out.bl (fun i h=>by have h':i=w.heap.size+1+1∨i=w.heap.size+1+1+1∨i=w.heap.size+1+1+1+1:=h;omega);clear a0 a1 a2 a3 a4 a5 hin hnon;go_wp2;refine ⟨by simp,.inl ⟨_,_,rfl,run_takeDeferred hK9,?_⟩⟩;have gk:=grownBy_putObj' W9 Dm (.deferred none);have gr:∀ r,some Dm=some r→∃ o:Obj,W9.heap[r]?=some o∧o.isCells=false:=fun r e=>by cases e;exact ⟨_,hK9,rfl⟩
    have ne1:mk n n T.s≠[]:=fun e=>by have:=congrArg List.length e;rw [mk_len] at this;have h2:0<n*n:=Nat.mul_pos n1 n1;simp at this;omega
    have ne2:linJ n T.e≠[]:=fun e=>by have:=congrArg List.length e;rw [linJ_len] at this;simp at this;omega
    have d0:=cell_kept G9.m.c0 gk gr;have d1:=cell_kept G9.m.c1 gk gr;have d2:=cell_kept G9.m.c2 gk gr;have e0:=cell_kept G9.l gk gr;have q0:=cell_kept G9.a.c0 gk gr;have q1:=cell_kept G9.a.c1 gk gr;have q2:=cell_kept G9.a.c2 gk gr;refine ⟨.tuple #[mV n n (some ⟨g,0,none⟩) N c1',.slice (some ⟨ge,0,none⟩) n n,frV ta],?_,⟨g,c1',ge,n,by rw [←HTR.out,←HTA.out],⟨?_,?_⟩,?_⟩⟩
    ·simp [results,Tryz.f67,go_sem,d0,d1,d2,e0,q0,q1,q2]
    ·rw [←HTR.out];exact HS9.out.own cellsF_len (by decide) ne1 gk gr
    ·rw [←HTR.out];exact HE9.out.own cellsF_len (by decide) ne2 gk gr
    ·exact Below.trans B9 (belowK_b (w:=w) (Nat.le_refl _) W9 Dm _ _ (by omega) hK9 rfl rfl)
set_option maxHeartbeats 1000000 in
theorem rShares0F (v:Value) (xs:List Fr) (by_:Fr) (w:World) (h:Rw 3 cellsF w v xs) (hl:xs.length≤1000000) :
  Calls Tryz.prog 68 #[v,frV by_] w fun e w'=>∃ u,e=.returned u∧Rw 3 cellsF w' u (xs.map fun x=>divR x by_)∧Fresh w.heap.size u∧Bl w w':=by
 have iv:=Tryz.mDivF;obtain ⟨i0,hi,hz0,hz1,hz2⟩:=info_parts Tryz.info_F;have x0:=FBox.new w by_ 34;rcases h with ⟨rfl,rfl⟩|⟨b,o,cap,rfl,hc,hb,hx⟩
 ·go_enter Tryz.func68,Tryz.ntmps68;go_wp2_with (at_make;refine wpList_make_own _ rfl _ _ 28 rfl w.heap.size 34 i0 (.agg #[.int .i64 0,.int .i64 0,.bool false]) 3 Tryz.underlying28 hi hz0 hz1 .i64 .i64 _ 0 rfl rfl (by simp) (by rw [hz2];omega) (by unfold maxLen;omega) (by simp) ?_;intro w0 hown0 hgrow0)
  rw [World.size_alloc] at hown0;have hB0:Bl w w0:=Below.grown (Below.alloc (Bl.refl w) (Nat.le_refl _) _) hgrow0 (by simp) (fun k e=>by cases e)
  go_loopw [5,13] (fun v i wr=>i=.int .i64 0∧wr.ownsRow w.heap.size 34 3 v 0 []∧Bl w wr) (fun _ _ _=>0)
  case atStart=>exact ⟨rfl,hown0,hB0⟩
  case round =>
   obtain ⟨rfl,hown,hB⟩:=hrel;go_wp2;go_ret;exact ⟨_,rfl,Rw.of_own cellsF_len (xs:=[]) hown,fresh_ownF hown (Nat.le_refl _),hB⟩
 ·have HX:=hideP hx;clear hx
  go_enter Tryz.func68,Tryz.ntmps68;go_wp2_with (at_make;refine wpList_make_own _ rfl _ _ 28 rfl (w.heap.size+1) 34 i0 (.agg #[.int .i64 0,.int .i64 0,.bool false]) 3 Tryz.underlying28 hi hz0 hz1 .i64 .i64 _ xs.length rfl rfl (by simp) (by rw [hz2];omega) (by unfold maxLen;omega) (by simp) ?_;intro w0 hown0 hgrow0)
  rw [World.size_alloc] at hown0;have hB1:Bl (w.alloc (.cells #[.int .i64 by_.n,.int .i64 by_.d,.bool by_.bad] 34)) w0:=Below.grown (Bl.refl _) hgrow0 (Nat.le_refl _) (fun k e=>by cases e);have hB0:Bl w w0:=((Bl.refl w).alloc _).trans hB1
  go_loopw [5,13] (fun v i wr=>∃ k:Nat,i=.int .i64 k∧k≤xs.length∧FBox wr w.heap.size by_∧wr.ownsRow (w.heap.size+1) 34 3 v ((xs.take k).map fun x=>divR x by_).length (((xs.take k).map fun x=>divR x by_).flatMap cellsF)∧Bl w wr) (fun _ i _=>xs.length-(intOf i).toNat)
  case atStart=>exact ⟨0,rfl,Nat.zero_le _,x0.later hB1,hown0,hB0⟩
  case round =>
   obtain ⟨k,rfl,hk,bx,hown,hB⟩:=hrel;by_cases hlt:k<xs.length
   ·obtain ⟨x,hx⟩:∃ x,xs[k]?=some x:=⟨_,List.getElem?_eq_getElem hlt⟩;have CX:∀ j u,(cellsF x)[j]?=some u→wr.cell? ⟨b,o+k*3+j,none⟩=some u:=fun j u hu=>(bl_cell hB _ _ hb).trans (HX.out k x hx j u hu)
    have y0:wr.cell? ⟨b,o+k*3,none⟩=some (.int .i64 x.n):=CX 0 _ rfl;have y1:wr.cell? ⟨b,o+k*3+1,none⟩=some (.int .i64 x.d):=CX 1 _ rfl;have y2:wr.cell? ⟨b,o+k*3+2,none⟩=some (.bool x.bad):=CX 2 _ rfl;clear CX;obtain ⟨c0,c1,c2,f0,f1,f2,lt⟩:=id bx;have HT:=hideP (show (xs.take (k+1)).map (fun x=>divR x by_)=(xs.take k).map (fun x=>divR x by_)++[divR x by_] by rw [List.take_add_one,hx];simp);have HK:=hideP (show ((xs.take k).map fun x=>divR x by_).length=k by simp;omega);generalize hys:(xs.take k).map (fun x=>divR x by_)=ys at *;clear hys;go_wp2_with fail
    refine (rdiv_any _ _ _).mono ?_;rintro e w2 ⟨rfl,h2⟩;have bl2:Bl wr w2:=((Bl.refl _).alloc _).trans h2;generalize divR x by_=r at *;clear y0 y1 y2 c0 c1 c2;replace hown:=own_blF hown bl2;replace hB:=hB.trans bl2;have bx2:=bx.later bl2;have hkk:=HK.out;go_wp2_with (at_builtin;refine wpList_append_own _ rfl _ _ 28 rfl (w.heap.size+1) 34 i0 (.agg #[.int .i64 0,.int .i64 0,.bool false]) 3 24 Tryz.underlying28 hi hz0 hz1 hz2 rfl (by decide) _ _ _ rfl (hown.alloc _) ⟨_,0,none⟩ 1 1 (cellsF r) rfl rfl (newF_cells _ _ _) (oneF_cells _) (by unfold maxLen;omega) (by omega) (by have:=bx2.lt;simp;omega) ?_;intro v' w1 hown' hgrow _)
    have R:=ownF_step' (n₀:=w.heap.size+1) hB (by omega) hown hown' hgrow;have bx3:=bx2.grown ((Bl.refl _).alloc _) hown hgrow (by omega);clear hown hown' hgrow;go_wp2;go_roundw
    case rel=>exact ⟨k+1,by simp,hlt,bx3,by rw [HT.out];exact R.2,R.1⟩
    case measure=>simp [intOf];omega
   ·have hk':k=xs.length:=by omega
    subst hk';rw [List.take_length] at hown;have R:=hideP (Rw.of_own cellsF_len hown);have FR:=hideP (fresh_ownF hown (Nat.le_succ _));clear hown;go_wp2;go_ret;exact ⟨_,rfl,R.out,FR.out,hB⟩
theorem rSharesF (n:Nat) (p:Option Addr) (cap:Nat) (u:Nat→Fr) (a:Fr) (w:World) (h:Rw 3 cellsF w (.slice p n cap) (linJ n u)) (hl:n≤1000000) :
  Calls Tryz.prog 68 #[.slice p n cap,frV a] w fun e w'=>∃ q c,e=.returned (.slice q n c)∧(Rw 3 cellsF w' (.slice q n c) (linJ n (fun i=>divR (u i) a))∧Fresh w.heap.size (.slice q n c))∧Bl w w':=
 (rShares0F _ _ a w h (by rw [linJ_len];exact hl)).mono fun e w' ⟨v,he,hr,hf,hb⟩=>by
  rw [linJ_map] at hr;obtain ⟨q,c,rfl,_,_⟩:=hr.cut;rw [linJ_len] at hr hf he;exact ⟨q,c,he,⟨hr,hf⟩,hb⟩
set_option maxRecDepth 100000 in
set_option maxHeartbeats 8000000 in
theorem rUpdateF (n N:Nat) (px:Option Addr) (cx:Nat) (x:Nat→Fr) (p:Option Addr) (cap:Nat) (S:Nat→Nat→Fr) (ph:Option Addr) (ch:Nat) (h:Nat→Fr) (r z:Fr) (w:World)
  (hx:Rq 3 cellsF w (.slice px n cx) (linJ n x)) (hP:Mx 3 cellsF w n n p N cap S) (hh:Rq 3 cellsF w (.slice ph n ch) (linJ n h)) (h4:n≤4) :
  Calls Tryz.prog 27 #[sJ px n cx n n p N cap,.slice ph n ch,frV r,frV z] w fun e w'=>∃ q c p' c',e=.returned (.tuple #[sJ q n c n n p' N c',newsVF (surpJ kdF n x h z) (runO kdF n S h r n).a,.bool true])∧(Rw 3 cellsF w' (.slice q n c) (linJ n fun i=>addR (x i) (mulR (divR ((runO kdF n S h r n).e i) (runO kdF n S h r n).a) (surpJ kdF n x h z)))∧Mx 3 cellsF w' n n p' N c' (runO kdF n S h r n).s∧Fresh w.heap.size (.slice q n c)∧Fresh w.heap.size (.slice p' N c'))∧Bl w w':=by
 have fm:Tryz.prog.follows .mixedOrders=true:=by kernel_rfl
 have egD:=enters_of Tryz.func47 (by kernel_rfl) rfl;have egS:=enters_of Tryz.func192 (by kernel_rfl) rfl;have egC:=enters_of Tryz.func50 (by kernel_rfl) rfl;have egV:=enters_of Tryz.func49 (by kernel_rfl) rfl;have hfit:=fitJ_dim hP.1 hP.2.1 h4;have hn6:n≤1000000:=by omega
 have hn1:1≤n:=hP.1.r1;obtain ⟨T,hT⟩:∃ T,T=runO kdF n S h r n:=⟨_,rfl⟩;obtain ⟨a,ha⟩:∃ a,a=T.a:=⟨_,rfl⟩;obtain ⟨dx,hdx⟩:∃ dx,dx=dotF (linJ n h) (linJ n x):=⟨_,rfl⟩;obtain ⟨e9,he9⟩:∃ e9,e9=subR z dx:=⟨_,rfl⟩;have hsur:e9=surpJ kdF n x h z:=by rw [he9,hdx];rfl
 obtain ⟨kk,hkk⟩:∃ kk,kk=fun i=>divR (T.e i) a:=⟨_,rfl⟩
 have HUX:=hideP (show (fun i=>addR (x i) (mulR (divR (T.e i) a) e9))=fun i=>addR (x i) (mulR (kk i) e9) by rw [hkk]);have DOX0:=hideP (fun (u:World) (h1:Rq 3 cellsF u (.slice ph n ch) (linJ n h)) (h2:Rq 3 cellsF u (.slice px n cx) (linJ n x))=>by have:=vDotF (.slice ph n ch) (.slice px n cx) (linJ n h) (linJ n x) u h1 h2 (by rw [linJ_len];exact hn6) (by rw [linJ_len];exact hn6);rw [←hdx] at this;exact this);have SUB:=hideP (fun u=>by have:=rsub_any z dx u;rw [←he9] at this;exact this);have TAK0:=hideP (fun (u:World) (h1:Mx 3 cellsF u n n p N cap S) (h2:Rq 3 cellsF u (.slice ph n ch) (linJ n h))=>by have:=rTakenF n N p cap S ph ch h r u h1 h2;rw [←hT,←ha] at this;exact this);rw [←hT,←ha,←hsur,HUX.out];have HKK:=hideP (show linJ n kk=linJ n (fun i=>divR (T.e i) a) by rw [hkk]);clear hT ha hdx he9 hsur hkk;obtain ⟨W,hW⟩:∃ W,W=((((w.alloc (.cells #[.slice px n cx,.int .i64 n,.int .i64 n,.slice p N cap] 63)).alloc (.cells #[.int .i64 r.n,.int .i64 r.d,.bool r.bad] 34)).alloc (.cells #[.int .i64 z.n,.int .i64 z.d,.bool z.bad] 34)).alloc (.cells #[.slice none 0 0,.int .i64 0,.int .i64 0,.slice none 0 0] 63)).alloc (.cells #[.int .i64 0,.int .i64 0,.bool false,.int .i64 0,.int .i64 0,.bool false] 41):=⟨_,rfl⟩;have b0:Bl w W:=by rw [hW];exact (((((Bl.refl _).alloc _).alloc _).alloc _).alloc _).alloc _
 have s0:SBox W w.heap.size px n cx n n p N cap:=by rw [hW];exact (SBox.new w _ _ _ _ _ _ _ _ _).later (((((Bl.refl _).alloc _).alloc _).alloc _).alloc _)
 have r0:FBox W (w.heap.size+1) r:=by rw [hW];have:=FBox.new (w.alloc (.cells #[.slice px n cx,.int .i64 n,.int .i64 n,.slice p N cap] 63)) r 34;simp only [World.size_alloc] at this;exact this.later ((((Bl.refl _).alloc _).alloc _).alloc _)
 have z0:FBox W (w.heap.size+1+1) z:=by rw [hW];have:=FBox.new ((w.alloc (.cells #[.slice px n cx,.int .i64 n,.int .i64 n,.slice p N cap] 63)).alloc (.cells #[.int .i64 r.n,.int .i64 r.d,.bool r.bad] 34)) z 34;simp only [World.size_alloc] at this;exact this.later (((Bl.refl _).alloc _).alloc _)
 have sz0:SBox W (w.heap.size+1+1+1) none 0 0 0 0 none 0 0:=by rw [hW];have:=SBox.new (((w.alloc (.cells #[.slice px n cx,.int .i64 n,.int .i64 n,.slice p N cap] 63)).alloc (.cells #[.int .i64 r.n,.int .i64 r.d,.bool r.bad] 34)).alloc (.cells #[.int .i64 z.n,.int .i64 z.d,.bool z.bad] 34)) none 0 0 0 0 none 0 0 63;simp only [World.size_alloc] at this;exact this.later ((Bl.refl _).alloc _)
 have nz0:NBoxF W (w.heap.size+1+1+1+1) zeroR zeroR:=by rw [hW];have:=NBoxF.new ((((w.alloc (.cells #[.slice px n cx,.int .i64 n,.int .i64 n,.slice p N cap] 63)).alloc (.cells #[.int .i64 r.n,.int .i64 r.d,.bool r.bad] 34)).alloc (.cells #[.int .i64 z.n,.int .i64 z.d,.bool z.bad] 34)).alloc (.cells #[.slice none 0 0,.int .i64 0,.int .i64 0,.slice none 0 0] 63)) zeroR zeroR 41;simp only [World.size_alloc] at this;exact this
 have hs:W.heap.size=w.heap.size+1+1+1+1+1:=by rw [hW];simp
 have HX:=hideP hx;have HD:=hideP hP.1;have HN:=hideP hP.2.1;have HP:=hideP hP;have HH:=hideP hh;have HW:=hideP hW;obtain ⟨d0,d1,d2,d3,_,_,_,_,_⟩:=id s0;rw [hW] at d0 d1 d2 d3;clear hW hx hP hh
 go_enter Tryz.func27,Tryz.ntmps27;go_wp2_with fail
 try simp only [World.size_alloc]
 rw [←HW.out];refine (rRightF _ _ _ _ _ _ _ _ _).mono ?_;rintro e w1 ⟨rfl,h1⟩;rw [hfit];clear d0 d1 d2 d3;obtain ⟨d0,d1,d2,d3,_,_,_,_,_⟩:=s0.later h1;obtain ⟨c0,c1,c2,f0,f1,f2,_⟩:=r0.later h1;go_wp2_with fail
 refine (TAK0.out w1 (HP.out.later (b0.trans h1)) (HH.out.later (b0.trans h1))).mono ?_;rintro e w3 ⟨g,gc,ge,gce,rfl,⟨hZs,hZe⟩,h3⟩;clear d0 d1 d2 d3 c0 c1 c2 f0 f1 f2 TAK0;obtain ⟨W3,hW3⟩:∃ W3,W3=(w3.alloc (.cells #[.int .i64 n,.int .i64 n,.slice (some ⟨g,0,none⟩) N gc] 30)).alloc (.cells #[.int .i64 a.n,.int .i64 a.d,.bool a.bad] 34):=⟨_,rfl⟩;have b3':Bl w3 W3:=by rw [hW3];exact ((Bl.refl _).alloc _).alloc _
 have b3W:Bl W W3:=h1.trans (h3.trans b3');have B3:Bl w W3:=b0.trans b3W;have hs3:W3.heap.size=w3.heap.size+1+1:=by rw [hW3];simp
 have hs31:w.heap.size+1+1+1+1+1≤w3.heap.size:=by have:=(h1.trans h3).size;omega
 have k11':MBox W3 w3.heap.size n n (some ⟨g,0,none⟩) N gc:=by rw [hW3];exact (MBox.new w3 _ _ _ _ _ _).later ((Bl.refl _).alloc _)
 have ka':FBox W3 (w3.heap.size+1) a:=by rw [hW3];have:=FBox.new (w3.alloc (.cells #[.int .i64 n,.int .i64 n,.slice (some ⟨g,0,none⟩) N gc] 30)) a 34;simp only [World.size_alloc] at this;exact this
 have HZS:=hideP ((hZs.later b3'));have gfr:∀ b,(Value.slice (some ⟨g,0,none⟩) N gc).ownBlock=some b→w1.heap.size≤b:=hZs.fresh;have SH:=hideP (rSharesF n (some ⟨ge,0,none⟩) gce T.e a W3 (hZe.later b3').rw hn6);obtain ⟨d0,d1,d2,g0,g1,g2,_⟩:=id ka';have HW3:=hideP hW3;rw [hW3] at d0 d1 d2;clear hW3 hZs hZe;go_wp2_with fail
 rw [←HW3.out];refine SH.out.mono ?_;rintro e w5 ⟨pk,ck,rfl,⟨hRk,_⟩,h5⟩;have HK5:=hideP (show Rw 3 cellsF w5 (.slice pk n ck) (linJ n kk) from by rw [HKK.out];exact hRk);have B5:=B3.trans h5;have b35:Bl W3 w5:=h5;have kz:=z0.later (b3W.trans h5);have ks:=s0.later (b3W.trans h5);have hs5:=b35.size;have DOX:=hideP (fun u (hu:Bl w5 u)=>DOX0.out u (HH.out.later (B5.trans hu)) (HX.out.later (B5.trans hu)));obtain ⟨b11,hb11⟩:∃ b11,b11=w3.heap.size:=⟨_,rfl⟩;obtain ⟨b13,hb13⟩:∃ b13,b13=w3.heap.size+1:=⟨_,rfl⟩;have k11:MBox W3 b11 n n (some ⟨g,0,none⟩) N gc:=by rw [hb11];exact k11'
 have ka:FBox W3 b13 a:=by rw [hb13];exact ka'
 clear d0 d1 d2 g0 g1 g2 hRk SH DOX0 k11' ka';go_wp2_with fail
 try simp only [←hb13]
 try simp only [←hb11]
 refine (wpIn_wide (n:=8)).1 (region_q fm [some 42,some 43,some 44,some 45,some 46,some 47,some 48,some 15,none] (fun _=>false) 8 (by kernel_rfl) (by rfl)
  (fun j v u=>match j with|0=>v=frV z|1=>v=.iface 34 (frV z)|2=>v=.slice ph n ch|3=>v=.pointer (some ⟨w.heap.size,0,none⟩)|4=>v=.slice px n cx|5=>v=frV dx|6=>v=frV e9|7=>∃ b,v=.pointer (some ⟨b,0,none⟩)∧w5.heap.size≤b∧FBox u b zeroR|_=>False)
  (by
    intro j v u u' hb h;split at h<;>first|exact h|(obtain ⟨b,e,h1,h2⟩:=h;exact ⟨b,e,h1,h2.later hb⟩)|(obtain ⟨q,c,e,h1⟩:=h;exact ⟨q,c,e,h1.later hb⟩)) (fun vs u0 u=>∃ b,vs 7=.pointer (some ⟨b,0,none⟩)∧w5.heap.size≤b∧FBox u b e9∧Bl w5 u) ?step ?still ?store ?fin)
 case step =>
  intro j o t act u ho hdt hpu hsz hu hfr hin;have hj:j<9:=l9 ho;obtain ⟨c0,c1,c2,f0,f1,f2,ltr⟩:=kz.later hu;obtain ⟨y0,y1,y2,y3,_,_,_,_,_⟩:=ks.later hu;rcases (by omega:j=0∨j=1∨j=2∨j=3∨j=4∨j=5∨j=6∨j=7∨j=8) with rfl|rfl|rfl|rfl|rfl|rfl|rfl|rfl|rfl
  ·obtain ⟨rfl,rfl⟩:=o7 ho hdt;have i7:_=Value.pointer (some ⟨w.heap.size+1+1,0,none⟩):=hfr 7 (by decide);exact pl9 (r:=by simp only [seval,i7];simp [go_sem,c0,c1,c2])
  ·obtain ⟨rfl,rfl⟩:=o7 ho hdt;have i42:_=frV z:=hin ⟨0,.data⟩ (by simp) rfl 42 rfl;exact pl9 (r:=by simp only [seval,i42];simp [go_sem])
  ·obtain ⟨rfl,rfl⟩:=o7 ho hdt;have i1:_=Value.slice ph n ch:=hfr 1 (by decide);exact pl9 (r:=by simp only [seval,i1];simp [go_sem,y0])
  ·obtain ⟨rfl,rfl⟩:=o7 ho hdt;have i4:_=Value.pointer (some ⟨w.heap.size,0,none⟩):=hfr 4 (by decide);exact pl9 (r:=by simp only [seval,i4];simp [go_sem,y0,y1,y2,y3])
  ·obtain ⟨rfl,rfl⟩:=o7 ho hdt;have i45:_=Value.pointer (some ⟨w.heap.size,0,none⟩):=hin ⟨3,.data⟩ (by simp) rfl 45 rfl;exact pl9 (r:=by simp only [seval,i45];simp [go_sem,y0,y1,y2,y3])
  ·obtain ⟨rfl,rfl⟩:=o7 ho hdt;have i44:_=Value.slice ph n ch:=hin ⟨2,.data⟩ (by simp) rfl 44 rfl;have i46:_=Value.slice px n cx:=hin ⟨4,.data⟩ (by simp) rfl 46 rfl;refine ew9 47 #[.slice ph n ch,.slice px n cx] (by simp only [seval,i44,i46];simp [invoke,egD,Result.andThen,go_sem]) (DOX.out u hu) ?_;rintro e w' ⟨rfl,hb⟩;exact ⟨_,rfl,_,rfl,rfl,hb⟩
  ·obtain ⟨rfl,rfl⟩:=o7 ho hdt;have i43:_=Value.iface 34 (frV z):=hin ⟨1,.data⟩ (by simp) rfl 43 rfl;have i47:_=frV dx:=hin ⟨5,.data⟩ (by simp) rfl 47 rfl;have iv:=Tryz.mSubF;refine ew9 192 #[frV z,frV dx] (by simp only [seval,i43,i47];simp [invoke,iv,egS,Result.andThen,go_sem]) (SUB.out u) ?_;rintro e w' ⟨rfl,hb⟩;exact ⟨_,rfl,_,rfl,rfl,hb⟩
  ·obtain ⟨rfl,rfl⟩:=o7 ho hdt;exact pw9 (w':=u.alloc (.cells #[.int .i64 0,.int .i64 0,.bool false] 34)) (v:=.pointer (some ⟨u.heap.size,0,none⟩)) (by simp only [execOp];simp [go_sem]) ⟨_,rfl,⟨u.heap.size,rfl,hu.size,FBox.new u zeroR _⟩,(Bl.refl _).alloc _⟩
  ·obtain rfl:=o9 ho;cases hdt
 case still =>
  intro j o t act u0 u ho hdt hpu;cases hpu
 case store =>
  intro o act u vs ho hsz hu hfr hin;obtain rfl:=o9 ho;obtain ⟨i15,k15⟩:act.eval (.tmp (15:Nat))=vs 7∧(∃ b,(vs 7)=.pointer (some ⟨b,0,none⟩)∧w5.heap.size≤b∧FBox u b zeroR):=hin 7 15 rfl rfl;obtain ⟨i48,k48⟩:act.eval (.tmp (48:Nat))=vs 6∧((vs 6)=frV e9):=hin 6 48 rfl rfl;obtain ⟨b,e1,hb,bx⟩:=k15;rw [e1] at i15;replace i48:=i48.trans k48;obtain ⟨c0,c1,c2,f0,f1,f2,ltb⟩:=id bx;exact sw9 (by simp only [execOp,i15,i48];simp [go_sem,zeroR,c0,c1,c2,f0,f1,f2]) ⟨rfl,b,e1,hb,bx.fill _,Bl.set3 hu hb _ _ _⟩
 case fin =>
  intro vs vb u0 u hu hin hps;have a0:=hin 0 42 rfl;have a1:=hin 1 43 rfl;have a2:=hin 2 44 rfl;have a3:=hin 3 45 rfl;have a4:=hin 4 46 rfl;have a5:=hin 5 47 rfl;have a6:=hin 6 48 rfl;have a7:=hin 7 15 rfl;simp only [seval] at a0 a1 a2 a3 a4 a5 a6 a7 ⊢;rw [if_pos (by decide)] at hps;simp only [a0,a1,a2,a3,a4,a5,a6];obtain ⟨b15,e15,hb15,ke,hbu⟩:=hps;simp only [e15];obtain ⟨w6,rfl⟩:∃ w6,w6=u:=⟨_,rfl⟩;clear a0 a1 a2 a3 a4 a5 a6 hu hin;have B6:=B5.trans hbu;have b36:=b35.trans hbu;have ks6:=ks.later hbu;have HK:=hideP (HK5.out.later hbu);have hs6:=hbu.size;clear DOX SUB kz ks;go_wp2_with fail
  refine (wpIn_wide (n:=8)).1 (region_q fm [some 49,some 50,some 51,some 52,some 53,some 54,some 16] (fun _=>false) 7 (by kernel_rfl) (by rfl)
    (fun j v u=>match j with|0=>v=.pointer (some ⟨w.heap.size,0,none⟩)|1=>v=.slice px n cx|2=>v=.slice pk n ck|3=>v=frV e9|4=>∃ q c,v=.slice q n c∧Rw 3 cellsF u (.slice q n c) (linJ n fun i=>mulR (kk i) e9)|5=>∃ q c,v=.slice q n c∧Rw 3 cellsF u (.slice q n c) (linJ n fun i=>addR (x i) (mulR (kk i) e9))∧Fresh w6.heap.size (.slice q n c)|6=>∃ q c,v=.slice q n c∧Rw 3 cellsF u (.slice q n c) (linJ n fun i=>addR (x i) (mulR (kk i) e9))∧Fresh w6.heap.size (.slice q n c)|_=>False)
    (by
      intro j v u u' hb h;split at h<;>first|exact h|(obtain ⟨q,c,e,h1,h2⟩:=h;exact ⟨q,c,e,h1.later hb,h2⟩)|(obtain ⟨q,c,e,h1⟩:=h;exact ⟨q,c,e,h1.later hb⟩)) (fun vs u0 u=>u=u0) ?step ?still ?store ?fin)
  case step =>
   intro j o t act u ho hdt hpu hsz hu hfr hin;have hj:j<7:=l9 ho;obtain ⟨c0,c1,c2,f0,f1,f2,ltr⟩:=ke.later hu;obtain ⟨y0,y1,y2,y3,_,_,_,_,_⟩:=ks6.later hu;rcases (by omega:j=0∨j=1∨j=2∨j=3∨j=4∨j=5∨j=6) with rfl|rfl|rfl|rfl|rfl|rfl|rfl
   ·obtain ⟨rfl,rfl⟩:=o7 ho hdt;have i4:_=Value.pointer (some ⟨w.heap.size,0,none⟩):=hfr 4 (by decide);exact pl9 (r:=by simp only [seval,i4];simp [go_sem,y0,y1,y2,y3])
   ·obtain ⟨rfl,rfl⟩:=o7 ho hdt;have i49:_=Value.pointer (some ⟨w.heap.size,0,none⟩):=hin ⟨0,.data⟩ (by simp) rfl 49 rfl;exact pl9 (r:=by simp only [seval,i49];simp [go_sem,y0,y1,y2,y3])
   ·obtain ⟨rfl,rfl⟩:=o7 ho hdt;have i14:_=Value.slice pk n ck:=hfr 14 (by decide);exact pl9 (r:=by simp only [seval,i14];simp [go_sem,y0])
   ·obtain ⟨rfl,rfl⟩:=o7 ho hdt;have i15:_=Value.pointer (some ⟨b15,0,none⟩):=hfr 15 (by decide);exact pl9 (r:=by simp only [seval,i15];simp [go_sem,c0,c1,c2])
   ·obtain ⟨rfl,rfl⟩:=o7 ho hdt;have i51:_=Value.slice pk n ck:=hin ⟨2,.data⟩ (by simp) rfl 51 rfl;have i52:_=frV e9:=hin ⟨3,.data⟩ (by simp) rfl 52 rfl;refine ew9 50 #[.slice pk n ck,frV e9] (by simp only [seval,i51,i52];simp [invoke,egC,Result.andThen,go_sem]) (scale_linF pk n ck kk e9 u (HK.out.later hu) hn6) ?_;rintro e w' ⟨q,c,rfl,hR,hb⟩;exact ⟨_,rfl,_,rfl,⟨q,c,rfl,hR⟩,hb⟩
   ·obtain ⟨rfl,rfl⟩:=o7 ho hdt;have i50:_=Value.slice px n cx:=hin ⟨1,.data⟩ (by simp) rfl 50 rfl;have i53:∃ q c,(act.eval (.tmp (53:Nat)))=.slice q n c∧Rw 3 cellsF u (.slice q n c) (linJ n fun i=>mulR (kk i) e9):=hin ⟨4,.data⟩ (by simp) rfl 53 rfl;obtain ⟨q0,c0',e1,hq⟩:=i53;refine ew9 49 #[.slice px n cx,.slice q0 n c0'] (by simp only [seval,i50,e1];simp [invoke,egV,Result.andThen,go_sem]) (add_linF px q0 n cx c0' x _ u (HX.out.later (B6.trans hu)) hq.q hn6) ?_;rintro e w' ⟨q,c,rfl,⟨hR,hF⟩,hb⟩;exact ⟨_,rfl,_,rfl,⟨q,c,rfl,hR,fresh_le hF hu.size⟩,hb⟩
   ·obtain ⟨rfl,rfl⟩:=o7 ho hdt;have i54:∃ q c,(act.eval (.tmp (54:Nat)))=.slice q n c∧Rw 3 cellsF u (.slice q n c) (linJ n fun i=>addR (x i) (mulR (kk i) e9))∧Fresh w6.heap.size (.slice q n c):=hin ⟨5,.data⟩ (by simp) rfl 54 rfl;obtain ⟨q0,c0',e1,hq⟩:=i54;exact pw9 (by simp only [seval,e1];simp [go_sem]) ⟨_,rfl,⟨q0,c0',rfl,hq⟩,Bl.refl _⟩
  case still =>
   intro j o t act u0 u ho hdt hpu;cases hpu
  case store =>
   intro o act u vs ho;cases ho
  case fin =>
   intro vs vb u0 u hu hin hps;have a0:=hin 0 49 rfl;have a1:=hin 1 50 rfl;have a2:=hin 2 51 rfl;have a3:=hin 3 52 rfl;have a4:=hin 4 53 rfl;have a5:=hin 5 54 rfl;have a6:=hin 6 16 rfl;simp only [seval] at a0 a1 a2 a3 a4 a5 a6 ⊢;rw [if_neg (by decide)] at hps;simp only [a0,a1,a2,a3];subst hps;obtain ⟨px',cx',e6,hRx,hFx⟩:=a6;simp only [e6];obtain ⟨w7,rfl⟩:∃ w7,w7=u:=⟨_,rfl⟩;have HRX:=hideP hRx;have HFX:=hideP hFx;clear a4 a5 hRx hFx hin;have B7:=B6.trans hu;have b37:=b36.trans hu;have ke7:=ke.later hu;have ka7:=ka.later b37;have k7:=k11.later b37;have HZS7:=hideP (show Mx 3 cellsF w7 n n (some ⟨g,0,none⟩) N gc T.s from ⟨HD.out,HN.out,((HZS.out.later b37).rw).q⟩);have SZ0:=hideP (sz0.later (b3W.trans b37));have NZ0:=hideP (nz0.later (b3W.trans b37));have hs7:=hu.size;have hs36:=b36.size;have gl:=HZS.out.fresh g rfl;have l15:=ke7.lt;have l13:=ka7.lt;have hs1w:=h1.size;clear hu;go_wp2_with fail
   refine (wpIn_wide (n:=8)).1 (region_r fm (TwoJ (w.heap.size+1+1+1) (w.heap.size+1+1+1+1) (fun y=>SBox y (w.heap.size+1+1+1) px' n cx' n n (some ⟨g,0,none⟩) N gc) (fun y=>NBoxF y (w.heap.size+1+1+1+1) e9 a)) [some 55,some 56,some 57,some 58,some 59,some 60,none,none,some 10] (by kernel_rfl) (by rfl) (TwoJ.bl ((Bl.refl _).drew) (by omega) (by omega)) (fun h k=>TwoJ.trans (fun x y t b e=>t.heap e b.size) (fun x y t b e=>t.heap e b.size) h k)
     (fun j v u=>match j with|0=>v=.slice px' n cx'|1=>v=mV n n (some ⟨g,0,none⟩) N gc|2=>v=sJ px' n cx' n n (some ⟨g,0,none⟩) N gc|3=>v=frV e9|4=>v=frV a|5=>v=newsVF e9 a|6=>SBox u (w.heap.size+1+1+1) px' n cx' n n (some ⟨g,0,none⟩) N gc|7=>NBoxF u (w.heap.size+1+1+1+1) e9 a|8=>v=.bool true|_=>False)
     (by
       intro j v u u' hb hr h;split at h
       ·exact h
       ·exact h
       ·exact h
       ·exact h
       ·exact h
       ·exact h
       ·rcases hr.g8 with e|t
        ·exact h.heap e hr.but.size
        ·exact t
       ·rcases hr.l9 with e|t
        ·exact h.heap e hr.but.size
        ·exact t
       ·exact h
       ·exact h) ?step ?fin)
   case step =>
    intro j o act u ho hsz hu hfr hin hnon;have hj:j<9:=l9 ho;obtain ⟨m0,m1,m2,_,_,_,_⟩:=k7.but hu.but (by show ¬ (_=_∨_=_);omega);have cE0:u.cell? ⟨b15,0,none⟩=some (.int .i64 e9.n):=(hu.but.cell _ _ (by omega) (by show ¬ (_=_∨_=_);omega)).trans ke7.c0;have cE1:u.cell? ⟨b15,1,none⟩=some (.int .i64 e9.d):=(hu.but.cell _ _ (by omega) (by show ¬ (_=_∨_=_);omega)).trans ke7.c1;have cE2:u.cell? ⟨b15,2,none⟩=some (.bool e9.bad):=(hu.but.cell _ _ (by omega) (by show ¬ (_=_∨_=_);omega)).trans ke7.c2;have cA0:u.cell? ⟨b13,0,none⟩=some (.int .i64 a.n):=(hu.but.cell _ _ (by omega) (by show ¬ (_=_∨_=_);omega)).trans ka7.c0;have cA1:u.cell? ⟨b13,1,none⟩=some (.int .i64 a.d):=(hu.but.cell _ _ (by omega) (by show ¬ (_=_∨_=_);omega)).trans ka7.c1;have cA2:u.cell? ⟨b13,2,none⟩=some (.bool a.bad):=(hu.but.cell _ _ (by omega) (by show ¬ (_=_∨_=_);omega)).trans ka7.c2;rcases (by omega:j=0∨j=1∨j=2∨j=3∨j=4∨j=5∨j=6∨j=7∨j=8) with rfl|rfl|rfl|rfl|rfl|rfl|rfl|rfl|rfl
    ·obtain rfl:=o9 ho;have i16:_=Value.slice px' n cx':=hfr 16 (by decide);exact pw9 (by simp only [seval,i16];simp [go_sem,hn6]) ⟨_,rfl,rfl,TwoJ.bl (Bl.refl _) (by have:=hu.but.size;omega) (by have:=hu.but.size;omega)⟩
    ·obtain rfl:=o9 ho;have i11:_=Value.pointer (some ⟨b11,0,none⟩):=hfr 11 (by decide);exact pw9 (by simp only [seval,i11];simp [go_sem,m0,m1,m2]) ⟨_,rfl,rfl,TwoJ.bl (Bl.refl _) (by have:=hu.but.size;omega) (by have:=hu.but.size;omega)⟩
    ·obtain rfl:=o9 ho;have i55:_=Value.slice px' n cx':=hin ⟨0,.data⟩ (by simp) rfl 55 rfl;have i56:_=mV n n (some ⟨g,0,none⟩) N gc:=hin ⟨1,.data⟩ (by simp) rfl 56 rfl;exact pw9 (by simp only [execOp,List.map_toArray,List.map_cons,List.map_nil,i55,i56];simp [Tryz.buildRF,Result.andThen,go_sem]) ⟨_,rfl,rfl,TwoJ.bl (Bl.refl _) (by have:=hu.but.size;omega) (by have:=hu.but.size;omega)⟩
    ·obtain rfl:=o9 ho;have i15:_=Value.pointer (some ⟨b15,0,none⟩):=hfr 15 (by decide);exact pw9 (by simp only [seval,i15];simp [go_sem,cE0,cE1,cE2]) ⟨_,rfl,rfl,TwoJ.bl (Bl.refl _) (by have:=hu.but.size;omega) (by have:=hu.but.size;omega)⟩
    ·obtain rfl:=o9 ho;have i13:_=Value.pointer (some ⟨b13,0,none⟩):=hfr 13 (by decide);exact pw9 (by simp only [seval,i13];simp [go_sem,cA0,cA1,cA2]) ⟨_,rfl,rfl,TwoJ.bl (Bl.refl _) (by have:=hu.but.size;omega) (by have:=hu.but.size;omega)⟩
    ·obtain rfl:=o9 ho;have i58:_=frV e9:=hin ⟨3,.data⟩ (by simp) rfl 58 rfl;have i59:_=frV a:=hin ⟨4,.data⟩ (by simp) rfl 59 rfl;exact pw9 (by simp only [execOp,List.map_toArray,List.map_cons,List.map_nil,i58,i59];simp [Tryz.buildNF,Result.andThen,go_sem]) ⟨_,rfl,rfl,TwoJ.bl (Bl.refl _) (by have:=hu.but.size;omega) (by have:=hu.but.size;omega)⟩
    ·obtain rfl:=o9 ho;have i8:_=Value.pointer (some ⟨w.heap.size+1+1+1,0,none⟩):=hfr 8 (by decide);have i57:_=sJ px' n cx' n n (some ⟨g,0,none⟩) N gc:=hin ⟨2,.data⟩ (by simp) rfl 57 rfl;obtain ⟨qa,qb,qc,qd,qe,qf,qg,qh,sx⟩:∃ px nx cx r c p n cap,SBox u (w.heap.size+1+1+1) px nx cx r c p n cap:=by
      rcases hu.g8 with e|t
      ·exact ⟨_,_,_,_,_,_,_,_,SZ0.out.heap e hu.but.size⟩
      ·exact ⟨_,_,_,_,_,_,_,_,t⟩
     have SX:=hideP sx;obtain ⟨d0,d1,d2,d3,x0,x1,x2,x3,ltd⟩:=id sx;exact sw9 (by simp only [execOp,i8,i57];simp [go_sem,d0,d1,d2,d3,x0,x1,x2,x3]) ⟨undef,rfl,SX.out.fill _ _ _ _ _ _ _ _,⟨(((but_cell1 (.inl rfl) _ _ _).trans (but_cell1 (.inl rfl) _ _ _)).trans (but_cell1 (.inl rfl) _ _ _)).trans (but_cell1 (.inl rfl) _ _ _),.inr (SX.out.fill _ _ _ _ _ _ _ _),.inl (by rw [heap1 _ (by omega),heap1 _ (by omega),heap1 _ (by omega),heap1 _ (by omega)])⟩⟩
    ·obtain rfl:=o9 ho;have i9:_=Value.pointer (some ⟨w.heap.size+1+1+1+1,0,none⟩):=hfr 9 (by decide);have i60:_=newsVF e9 a:=hin ⟨5,.data⟩ (by simp) rfl 60 rfl;obtain ⟨x',y',nx⟩:∃ x y,NBoxF u (w.heap.size+1+1+1+1) x y:=by
      rcases hu.l9 with e|t
      ·exact ⟨_,_,NZ0.out.heap e hu.but.size⟩
      ·exact ⟨_,_,t⟩
     have NX:=hideP nx;obtain ⟨d0,d1,d2,d3,d4,d5,x0,x1,x2,x3,x4,x5,ltd⟩:=id nx;exact sw9 (by simp only [execOp,i9,i60];simp [go_sem,d0,d1,d2,d3,d4,d5,x0,x1,x2,x3,x4,x5]) ⟨undef,rfl,NX.out.fill e9 a,⟨(((((but_cell1 (.inr rfl) _ _ _).trans (but_cell1 (.inr rfl) _ _ _)).trans (but_cell1 (.inr rfl) _ _ _)).trans (but_cell1 (.inr rfl) _ _ _)).trans (but_cell1 (.inr rfl) _ _ _)).trans (but_cell1 (.inr rfl) _ _ _),.inl (by rw [heap1 _ (by omega),heap1 _ (by omega),heap1 _ (by omega),heap1 _ (by omega),heap1 _ (by omega),heap1 _ (by omega)]),.inr (NX.out.fill e9 a)⟩⟩
    ·obtain rfl:=o9 ho;exact pw9 (by simp only [seval];simp [go_sem]) ⟨_,rfl,rfl,TwoJ.bl (Bl.refl _) (by have:=hu.but.size;omega) (by have:=hu.but.size;omega)⟩
   case fin =>
    intro vs u hu hin hnon;have a0:=hin 0 55 rfl;have a1:=hin 1 56 rfl;have a2:=hin 2 57 rfl;have a3:=hin 3 58 rfl;have a4:=hin 4 59 rfl;have a5:=hin 5 60 rfl;have a6:=hnon 6 rfl;have a7:=hnon 7 rfl;have a8:=hin 8 10 rfl;simp only [seval] at a0 a1 a2 a3 a4 a5 a6 a7 a8 ⊢;simp only [a0,a1,a2,a3,a4,a5,a8];obtain ⟨d0,d1,d2,d3,_,_,_,_,_⟩:=a6;obtain ⟨q0,q1,q2,q3,q4,q5,_,_,_,_,_,_,_⟩:=a7;have HMF:=hideP (Mx.but (HZS7.out) hu.but (fun b hb=>by cases hb;show ¬ (g=w.heap.size+1+1+1∨g=w.heap.size+1+1+1+1);omega));have HRW:=hideP (HRX.out.but hu.but (fun b hb=>by have:=HFX.out b hb;show ¬ (_=_∨_=_);omega));clear hin hnon;go_wp2;simp [bodyPost,results,Tryz.results27,go_sem,d0,d1,d2,d3,q0,q1,q2,q3,q4,q5];exact ⟨px',cx',some ⟨g,0,none⟩,gc,by simp,⟨HRW.out,HMF.out,fresh_le HFX.out (by omega),fun b hb=>by cases hb;show w.heap.size≤g;omega⟩,hu.but.bl B7 (fun i hi=>by rcases hi with h|h<;>omega)⟩
def LenIs (x n:Int):Prop:=∃ k:Nat,n=k∧k≤64∧x<2 ^ k∧(0<x→2 ^ k≤2*x)
theorem len8_size:Lib.len8tab.size=256:=by decide +kernel
theorem len8_all:∀ b:Fin 256,b.val<2 ^ (Lib.len8tab[b.val]'(by rw [len8_size];exact b.isLt)).toNat∧(0<b.val→2 ^ (Lib.len8tab[b.val]'(by rw [len8_size];exact b.isLt)).toNat≤2*b.val)∧(Lib.len8tab[b.val]'(by rw [len8_size];exact b.isLt)).toNat≤8:=by decide +kernel
theorem len_of (x:Int) (c:Nat) (y:Int) (h0:0≤x) (hc:c≤56) (hy:y=x/2 ^ c) (hb:y<256) (hl:c=0∨0<y) (hz:y.toNat<Lib.len8tab.size) :
  LenIs x (wrap64 (c+wrap64 ((Lib.len8tab[y.toNat]'hz).toNat:Nat))):=by
 have hp:(0:Int)<2 ^ c:=Int.pow_pos (by decide);have hy0:0≤y:=by rw [hy];exact Int.ediv_nonneg h0 (Int.le_of_lt hp)
 obtain ⟨a1,a2,a3⟩:=len8_all ⟨y.toNat,by omega⟩;simp only at a1 a2 a3;generalize (Lib.len8tab[y.toNat]'hz).toNat=t at *;have e1:wrap64 (t:Int)=t:=IntWalk.wrap64_in _ (by omega);rw [e1,IntWalk.wrap64_in ((c:Int)+t) (by omega)];refine ⟨c+t,by omega,by omega,?_,?_⟩
 ·have b1:y+1≤2 ^ t:=by
   have:((y.toNat+1:Nat):Int)≤((2 ^ t:Nat):Int):=by exact_mod_cast a1
   push_cast at this
   omega
  have b2:x<(y+1)*2 ^ c:=by
   rw [hy];exact Int.lt_ediv_add_one_mul_self x hp
  have b3:(y+1)*2 ^ c≤2 ^ t*2 ^ c:=Int.mul_le_mul_of_nonneg_right b1 (Int.le_of_lt hp);rw [Int.pow_add,Int.mul_comm];omega
 ·intro hx;by_cases hyp:0<y
  ·have b1:(2:Int) ^ t≤2*y:=by
    have:=a2 (by omega);have:((2 ^ t:Nat):Int)≤((2*y.toNat:Nat):Int):=by exact_mod_cast this
    push_cast at this
    omega
   have b2:y*2 ^ c≤x:=by rw [hy];exact Int.ediv_mul_le x (by omega)
   have b3:(2:Int) ^ t*2 ^ c≤(2*y)*2 ^ c:=Int.mul_le_mul_of_nonneg_right b1 (Int.le_of_lt hp);rw [Int.pow_add,Int.mul_comm];rw [Int.mul_assoc] at b3;omega
  ·have:c=0:=by omega
   subst this;simp at hy;omega
set_option maxHeartbeats 4000000 in
set_option maxRecDepth 100000 in
theorem len64_any (x:Int) (w:World) (h0:0≤x) (h1:x≤18446744073709551615) :
  Calls Tryz.prog 162 #[.int .u64 x] w fun e w'=>(∃ n:Int,e=.returned (.int .i64 n)∧LenIs x n)∧w'=w:=by
 have hs:=len8_size
 go_enter Tryz.func162,Tryz.ntmps162;go_wp2
 all_goals (go_ret;refine ⟨⟨_,rfl,?_⟩,rfl⟩)
 ·exact len_of x 56 _ h0 (by decide) (by omega) (by omega) (by omega) _
 ·exact len_of x 48 _ h0 (by decide) (by omega) (by omega) (by omega) _
 ·exact len_of x 40 _ h0 (by decide) (by omega) (by omega) (by omega) _
 ·exact len_of x 32 _ h0 (by decide) (by omega) (by omega) (by omega) _
 ·exact len_of x 24 _ h0 (by decide) (by omega) (by omega) (by omega) _
 ·exact len_of x 16 _ h0 (by decide) (by omega) (by omega) (by omega) _
 ·exact len_of x 8 _ h0 (by decide) (by omega) (by omega) (by omega) _
 ·have hz:x.toNat<Lib.len8tab.size:=by rw [len8_size];omega
  have:=len_of x 0 x h0 (by decide) (by simp) (by omega) (by omega) hz;simpa using this
def LzIs (y s:Int):Prop:=∃ k:Nat,s=k∧k≤63∧y*2 ^ k<18446744073709551616∧9223372036854775808≤y*2 ^ k
theorem lz_of_len {y n:Int} (h:LenIs y n) (hy:0<y) (hy1:y<18446744073709551616):LzIs y (64-n):=by
 obtain ⟨k,rfl,hk,h1,h2⟩:=h;have h2:=h2 hy;have hk0:1≤k:=by
  rcases Nat.eq_zero_or_pos k with e|e
  ·subst e;simp at h1;omega
  ·exact e
 refine ⟨64-k,by omega,by omega,?_,?_⟩
 ·have hp:(0:Int)<2 ^ (64-k):=Int.pow_pos (by decide);have:=Int.mul_lt_mul_of_pos_right h1 hp;rw [←Int.pow_add,show k+(64-k)=64 from by omega] at this;simpa using this
 ·have hp:(0:Int)<2 ^ (64-k):=Int.pow_pos (by decide);have:=Int.mul_le_mul_of_nonneg_right h2 (Int.le_of_lt hp);rw [←Int.pow_add,show k+(64-k)=64 from by omega,Int.mul_assoc] at this;have e:(2:Int) ^ 64=18446744073709551616:=by decide
  rw [e] at this;omega
theorem lz64_any (y:Int) (w:World) (h0:0<y) (h1:y<18446744073709551616) :
  Calls Tryz.prog 151 #[.int .u64 y] w fun e w'=>(∃ s:Int,e=.returned (.int .i64 s)∧LzIs y s)∧w'=w:=by
 go_enter Tryz.func151,Tryz.ntmps151;go_wp2_with fail
 refine (len64_any y _ (by omega) (by omega)).mono ?_;rintro e w' ⟨⟨n,rfl,hn⟩,rfl⟩;have hb:0≤n∧n≤64:=by obtain ⟨k,rfl,hk,_⟩:=hn;omega
 obtain ⟨b1,b2⟩:=hb;have H:Hid (LenIs y n):=hn;clear hn;go_wp2;go_ret;exact ⟨⟨_,rfl,lz_of_len H.out h0 h1⟩,rfl⟩
structure Digit (U d Y y1 y0 Q R:Int):Prop where
 hY:Y=y1*4294967296+y0
 y0n:0≤y0
 y0l:y0<4294967296
 y1l:2147483648≤y1
 y1h:y1<4294967296
 dn:0≤d
 dl:d<4294967296
 Un:0≤U
 Ul:U<Y
 Qn:0≤Q
 Ql:Q≤4294967295
 Rn:0≤R
 Rl:R<Y
 eq:U*4294967296+d=Q*Y+R
theorem digit_mk {U d Y y1 y0:Int} (hY:Y=y1*4294967296+y0) (y0n:0≤y0) (y0l:y0<4294967296) (y1l:2147483648≤y1) (y1h:y1<4294967296)
  (dn:0≤d) (dl:d<4294967296) (Un:0≤U) (Ul:U<Y):∃ Q R,Digit U d Y y1 y0 Q R:=by
 have hYp:0<Y:=by omega
 have hN:0≤U*4294967296+d:=by omega
 refine ⟨(U*4294967296+d)/Y,(U*4294967296+d) % Y,hY,y0n,y0l,y1l,y1h,dn,dl,Un,Ul,Int.ediv_nonneg hN (by omega),?_,Int.emod_nonneg _ (by omega),Int.emod_lt_of_pos _ hYp,?_⟩
 ·have:(U*4294967296+d)/Y<4294967296:=by
   apply Int.ediv_lt_of_lt_mul hYp;omega
  omega
 ·rw [Int.mul_comm ((U*4294967296+d)/Y) Y];exact (Int.mul_ediv_add_emod _ _).symm
theorem Digit.le_of {U d Y y1 y0 Q R:Int} (D:Digit U d Y y1 y0 Q R) (q:Int) (h:q*Y≤U*4294967296+d):q≤Q:=by
 obtain ⟨hY,y0n,y0l,y1l,y1h,dn,dl,Un,Ul,Qn,Ql,Rn,Rl,eq⟩:=D;rcases Int.lt_or_le Q q with h'|h'
 ·have:=Int.mul_le_mul_of_nonneg_right (show Q+1≤q by omega) (show 0≤Y by omega);rw [Int.add_mul,Int.one_mul] at this;omega
 ·exact h'
theorem Digit.mulY {U d Y y1 y0 Q R:Int} (D:Digit U d Y y1 y0 Q R) (q:Int):q*Y=q*y1*4294967296+q*y0:=by
 rw [D.hY,Int.mul_add,Int.mul_assoc]
theorem Digit.first {U d Y y1 y0 Q R:Int} (D:Digit U d Y y1 y0 Q R):Q≤U/y1∧U/y1≤4294967297∧0≤U/y1*y1∧U/y1*y1≤U∧U-U/y1*y1<y1:=by
 have hm:=D.mulY Q;obtain ⟨hY,y0n,y0l,y1l,y1h,dn,dl,Un,Ul,Qn,Ql,Rn,Rl,eq⟩:=D;have e1:=Int.mul_ediv_add_emod U y1;have e2:=Int.emod_nonneg U (show y1≠0 by omega);have e3:=Int.emod_lt_of_pos U (show 0<y1 by omega);have e4:=Int.ediv_nonneg Un (show 0≤y1 by omega);rw [Int.mul_comm y1 (U/y1)] at e1;have e5:0≤Q*y0:=Int.mul_nonneg Qn y0n;have e6:Q*y1≤U:=by omega
 refine ⟨(Int.le_ediv_iff_mul_le (by omega)).2 e6,?_,Int.mul_nonneg e4 (by omega),by omega,by omega⟩;have:U/y1<4294967298:=by
  apply Int.ediv_lt_of_lt_mul (by omega);omega
 omega
theorem Digit.more {U d Y y1 y0 Q R:Int} (D:Digit U d Y y1 y0 Q R) (q r:Int) (hr:r=U-q*y1) (hq:Q≤q) (h:4294967296≤q∨4294967296*r+d<q*y0):Q≤q-1:=by
 rcases h with h|h
 ·have:=D.Ql;omega
 ·rcases Int.lt_or_le Q q with h'|h'
  ·omega
  ·exfalso;have e:q=Q:=by omega
   subst e;have hm:=D.mulY q;have:=D.eq;have:=D.Rn;omega
theorem Digit.done {U d Y y1 y0 Q R:Int} (D:Digit U d Y y1 y0 Q R) (q r:Int) (hr:r=U-q*y1) (hq:Q≤q) (h:¬ 4294967296*r+d<q*y0):q=Q:=by
 have hm:=D.mulY q;have:=D.le_of q (by omega);omega
theorem Digit.broke {U d Y y1 y0 Q R:Int} (D:Digit U d Y y1 y0 Q R) (q r:Int) (hr:r=U-q*y1) (hq:Q≤q) (hb:q≤4294967296) (h:4294967296≤r):q=Q:=by
 have hm:=D.mulY q;have h1:=Int.mul_le_mul hb (show y0≤4294967295 by have:=D.y0l;omega) D.y0n (by omega);have:=D.dn;have:=D.le_of q (by omega);omega
theorem Digit.rest {U d Y y1 y0 Q R:Int} (D:Digit U d Y y1 y0 Q R) (hYl:Y<18446744073709551616):IntKind.u64.wrap (IntKind.u64.wrap (IntKind.u64.wrap (U*4294967296)+d)-IntKind.u64.wrap (Q*Y))=R:=by
 obtain ⟨hY,y0n,y0l,y1l,y1h,dn,dl,Un,Ul,Qn,Ql,Rn,Rl,eq⟩:=D;simp only [IntKind.wrap_u64];omega
theorem Digit.q_mul {U d Y y1 y0 Q R:Int} (D:Digit U d Y y1 y0 Q R) (q:Int) (h0:0≤q) (h:q<4294967296):0≤q*y0∧q*y0<18446744073709551616:=by
 refine ⟨Int.mul_nonneg h0 D.y0n,?_⟩;have h1:=Int.mul_le_mul (show q≤4294967295 by omega) (show y0≤4294967295 by have:=D.y0l;omega) D.y0n (by omega);omega
theorem up_words (lo:Int) (k:Nat) (hk:k≤63):lo*2 ^ k=lo/2 ^ (64-k)*18446744073709551616+lo*2 ^ k % 18446744073709551616:=by
 have e:(18446744073709551616:Int)=2 ^ (64-k)*2 ^ k:=by
  rw [←Int.pow_add,show 64-k+k=64 from by omega];decide
 have e2:lo*2 ^ k/18446744073709551616=lo/2 ^ (64-k):=by
  rw [e,Int.mul_ediv_mul_of_pos_left _ _ (Int.pow_pos (by decide))]
 have:=Int.mul_ediv_add_emod (lo*2 ^ k) 18446744073709551616;rw [e2] at this;omega
theorem up_low (lo:Int) (k:Nat) (hk:k≤63) (h0:0≤lo) (h1:lo<18446744073709551616):0≤lo/2 ^ (64-k)∧lo/2 ^ (64-k)<2 ^ k:=by
 have hp:(0:Int)<2 ^ (64-k):=Int.pow_pos (by decide);refine ⟨Int.ediv_nonneg h0 (Int.le_of_lt hp),Int.ediv_lt_of_lt_mul hp ?_⟩;rw [←Int.pow_add,show k+(64-k)=64 from by omega];exact h1
theorem or_words (hi lo:Int) (k:Nat) (hk:k≤63) (h0:0≤hi) (hh:hi*2 ^ k<18446744073709551616) (l0:0≤lo) (l1:lo<18446744073709551616) :
  bits .or .u64 (hi*2 ^ k) (lo/2 ^ (64-k))=hi*2 ^ k+lo/2 ^ (64-k):=by
 obtain ⟨a,b⟩:=up_low lo k hk l0 l1;have hp:(2:Int) ^ k≤2 ^ 63:=by
  have:(2:Nat) ^ k≤2 ^ 63:=Nat.pow_le_pow_right (by decide) hk
  exact_mod_cast this
 have e63:(2:Int) ^ 63=9223372036854775808:=by decide
 rw [e63] at hp;refine bits_join .u64 64 (by decide) (fun n h h'=>?_) k _ _ (Int.mul_nonneg h0 (Int.le_of_lt (Int.pow_pos (by decide)))) (Int.mul_emod_left _ _) hh a b (by omega);rw [IntKind.wrap_u64];have e64:(2:Int) ^ 64=18446744073709551616:=by decide
 rw [e64] at h';omega
theorem two_digits {hi lo y Y U V v1 v0 y1 y0 Q1 R1 Q0 R0:Int} {k:Nat} (hy:0<y) (hY:y*2 ^ k=Y)
  (hU:(hi*18446744073709551616+lo)*2 ^ k=U*18446744073709551616+V) (hV:V=v1*4294967296+v0)
  (D1:Digit U v1 Y y1 y0 Q1 R1) (D0:Digit R1 v0 Y y1 y0 Q0 R0) :
  (hi*18446744073709551616+lo)/y=Q1*4294967296+Q0∧(hi*18446744073709551616+lo) % y=R0/2 ^ k:=by
 have e1:=D1.eq;have e0:=D0.eq;have hp:(0:Int)<2 ^ k:=Int.pow_pos (by decide);have r0:=D0.Rn;have r1:=D0.Rl;generalize hn:hi*18446744073709551616+lo=n at *;generalize hP:(2:Int) ^ k=P at *;have e:n*P=(Q1*4294967296+Q0)*y*P+R0:=by
  rw [Int.mul_assoc,hY,Int.add_mul];have:Q1*4294967296*Y=(Q1*Y)*4294967296:=by rw [Int.mul_assoc,Int.mul_comm 4294967296 Y,Int.mul_assoc]
  omega
 have hr:R0=(n-(Q1*4294967296+Q0)*y)*P:=by rw [Int.sub_mul];omega
 generalize hq:Q1*4294967296+Q0=q at *;generalize hm:n-q*y=m at *;have m0:0≤m:=by
  rcases Int.lt_or_le m 0 with h|h
  ·have:=Int.mul_neg_of_neg_of_pos h hp;omega
  ·exact h
 have m1:m<y:=by
  rcases Int.lt_or_le m y with h|h
  ·exact h
  ·have:=Int.mul_le_mul_of_nonneg_right h (Int.le_of_lt hp);omega
 have hd:R0/P=m:=by rw [hr];exact Int.mul_ediv_cancel _ (by omega)
 have en:n=m+y*q:=by rw [Int.mul_comm y q];omega
 rw [hd,en];constructor
 ·rw [Int.add_mul_ediv_left _ _ (by omega),Int.ediv_eq_zero_of_lt m0 m1];omega
 ·rw [Int.add_mul_emod_self_left,Int.emod_eq_of_lt m0 m1]
theorem SmallBl (B:Nat) (w:World) (n:Nat):Below B w (w.drewN n):=⟨rfl,rfl,rfl,Nat.le_refl _,fun _ _=>rfl⟩
theorem div64_low (lo y:Int) (w:World) (hl:U64 lo) (hy:U64 y) (hlt:0<y) :
  Calls Tryz.prog 127 #[.int .u64 0,.int .u64 lo,.int .u64 y] w fun e w' =>
   (e=.returned (.tuple #[.int .u64 (lo/y),.int .u64 (lo % y)]))∧Below w.heap.size w w':=by
 obtain ⟨l0,l1⟩:=hl;obtain ⟨y0,y1⟩:=hy;have h1:(y==0)=false:=by simp;omega
 have h2:¬ y≤0:=by omega
 go_enter Tryz.func127,Tryz.ntmps127;go_wp2
 go_quiet (fail)
 go_wp2
 go_ret2
 exact ⟨rfl,SmallBl _ _ _⟩
set_option maxHeartbeats 1000000 in
theorem div64_high (hi lo y:Int) (w:World) (hl:U64 lo) (hy:U64 y) (h0:0<hi) (hlt:hi<y) :
  Calls Tryz.prog 127 #[.int .u64 hi,.int .u64 lo,.int .u64 y] w fun e w' =>
   (e=.returned (.tuple #[.int .u64 ((hi*18446744073709551616+lo)/y),.int .u64 ((hi*18446744073709551616+lo) % y)]))∧Below w.heap.size w w':=by
 obtain ⟨l0,l1⟩:=hl;obtain ⟨y0,y1⟩:=hy;have h1:(y==0)=false:=by simp;omega
 have h2:¬ y≤hi:=by omega
 have h3:(hi==0)=false:=by simp;omega
 go_enter Tryz.func127,Tryz.ntmps127;go_wp2_with fail
 refine (lz64_any y _ (by omega) y1).mono ?_;rintro e w' ⟨⟨s,rfl,hs⟩,rfl⟩;obtain ⟨k,rfl,hk,b1,b2⟩:=hs;have hp:(0:Int)<2 ^ k:=Int.pow_pos (by decide);have n1:0≤hi*2 ^ k:=Int.mul_nonneg (by omega) (by omega);have n2:hi*2 ^ k+2 ^ k≤y*2 ^ k:=by
  have:=Int.mul_le_mul_of_nonneg_right (show hi+1≤y by omega) (Int.le_of_lt hp);rw [Int.add_mul,Int.one_mul] at this;exact this
 have hor:=or_words hi lo k (by omega) (by omega) (by omega) l0 l1;obtain ⟨n3,n4⟩:=up_low lo k (by omega) l0 l1;have hwd:=up_words lo k (by omega);have hUV:(hi*18446744073709551616+lo)*2 ^ k=(hi*2 ^ k+lo/2 ^ (64-k))*18446744073709551616+IntKind.u64.wrap (lo*2 ^ k):=by
  rw [IntKind.wrap_u64,Int.add_mul,Int.add_mul,Int.mul_assoc,Int.mul_comm 18446744073709551616 (2 ^ k),←Int.mul_assoc,hwd];omega
 have hV:0≤IntKind.u64.wrap (lo*2 ^ k)∧IntKind.u64.wrap (lo*2 ^ k)<18446744073709551616:=by rw [IntKind.wrap_u64];omega
 rw [←hor] at hUV;have hU:0≤bits .or .u64 (hi*2 ^ k) (lo/2 ^ (64-k))∧bits .or .u64 (hi*2 ^ k) (lo/2 ^ (64-k))<y*2 ^ k:=by rw [hor];omega
 have HH:Hid ((hi*18446744073709551616+lo)*2 ^ k=bits .or .u64 (hi*2 ^ k) (lo/2 ^ (64-k))*18446744073709551616+IntKind.u64.wrap (lo*2 ^ k)):=hUV;clear hUV hwd hor n4;have hYa:=and_low32 (y*2 ^ k) (by omega) b1;have hVa:=and_low32 (IntKind.u64.wrap (lo*2 ^ k)) hV.1 hV.2;have hw1:IntKind.u64.wrap (hi*2 ^ k)=hi*2 ^ k:=by rw [IntKind.wrap_u64];omega
 clear n3 n1 n2;generalize gY:y*2 ^ k=Y at *;generalize gU:bits .or .u64 (hi*2 ^ k) (lo/2 ^ (64-k))=U at *;generalize gV:IntKind.u64.wrap (lo*2 ^ k)=V at *;obtain ⟨U0,U1⟩:=hU;obtain ⟨V0,V1⟩:=hV;have HY:Hid (Y=Y/4294967296*4294967296+Y % 4294967296):=by show _=_;omega
 have HV:Hid (V=V/4294967296*4294967296+V % 4294967296):=by show _=_;omega
 have a1:2147483648≤Y/4294967296∧Y/4294967296<4294967296:=by omega
 have a0:0≤Y % 4294967296∧Y % 4294967296<4294967296:=by omega
 have c1:0≤V/4294967296∧V/4294967296<4294967296:=by omega
 have c0:0≤V % 4294967296∧V % 4294967296<4294967296:=by omega
 generalize gy1:Y/4294967296=y1 at *;generalize gy0:Y % 4294967296=y0 at *;generalize gv1:V/4294967296=v1 at *;generalize gv0:V % 4294967296=v0 at *;obtain ⟨a1,a1'⟩:=a1;obtain ⟨a0,a0'⟩:=a0;obtain ⟨c1,c1'⟩:=c1;obtain ⟨c0,c0'⟩:=c0;obtain ⟨Q1,R1,D1⟩:=digit_mk (U:=U) (d:=v1) HY.out a0 a0' a1 a1' c1 c1' U0 U1;obtain ⟨Q0,R0,D0⟩:=digit_mk (U:=R1) (d:=v0) HY.out a0 a0' a1 a1' c0 c0' D1.Rn D1.Rl;have fin:=two_digits (by omega) gY HH.out HV.out D1 D0;have HF:Hid ((hi*18446744073709551616+lo)/y=Q1*4294967296+Q0∧(hi*18446744073709551616+lo) % y=R0/2 ^ k):=fin;clear fin HY HV HH;obtain ⟨f1,f2,f3,f4,f5⟩:=D1.first
 obtain ⟨s1,s2,s3,s4,s5⟩:=D0.first
 have rR1:=D1.rest b1;have rR0:=D0.rest b1;have q1n:=D1.Qn;have q1l:=D1.Ql;have q0n:=D0.Qn;have q0l:=D0.Ql;have r1n:=D1.Rn;have r1l:=D1.Rl;have r0n:=D0.Rn;have r0l:=D0.Rl;generalize gq:U/y1=qq at *;generalize gp:R1/y1=pp at *;go_wp2_with fail
 clear gU gV gy0 gv1 gv0 hYa hVa hw1
 go_loop [15,16] (fun a b=>∃ q r:Int,a=.int .u64 q∧b=.int .u64 r∧r=U-q*y1∧0≤r∧r<4294967296∧Q1≤q∧q≤4294967297) (fun a _=>(intOf a).toNat)
 case atStart=>exact ⟨qq,U-qq*y1,by rw [←gq],by rw [←gq],rfl,by omega,by omega,f1,f2⟩
 case round =>
  clear f1 f2 f3 f4 f5;obtain ⟨q,r,rfl,rfl,hr,hr0,hr1,hq1,hq2⟩:=hrel;have HR:Hid (r=U-q*y1):=hr;clear hr;by_cases hb:4294967296≤q
  ·have hm:=D1.more q r HR.out hq1 (.inl hb);have HR':Hid (r+y1=U-(q-1)*y1):=by show _=_;rw [Int.sub_mul,Int.one_mul];have:=HR.out;omega
   by_cases hbr:4294967296≤r+y1
   ·have hd:=D1.broke (q-1) (r+y1) HR'.out hm (by omega) hbr;go_wp2_with fail
    clear hq1 hq2 hr0 hr1 hb
    try clear hm hbr hc
    go_loop [18,16] (fun a b=>∃ q r:Int,a=.int .u64 q∧b=.int .u64 r∧r=R1-q*y1∧0≤r∧r<4294967296∧Q0≤q∧q≤4294967297) (fun a _=>(intOf a).toNat)
    case atStart=>exact ⟨pp,R1-pp*y1,rfl,rfl,rfl,by omega,by omega,s1,s2⟩
    case round =>
     obtain ⟨q,r,rfl,rfl,hr,hr0,hr1,hq1,hq2⟩:=hrel;have HR:Hid (r=R1-q*y1):=hr;clear hr;by_cases hb:4294967296≤q
     ·have hm:=D0.more q r HR.out hq1 (.inl hb);have HR':Hid (r+y1=R1-(q-1)*y1):=by show _=_;rw [Int.sub_mul,Int.one_mul];have:=HR.out;omega
      by_cases hbr:4294967296≤r+y1
      ·have hd:=D0.broke (q-1) (r+y1) HR'.out hm (by omega) hbr;go_wp2
       go_ret2
       refine ⟨?_,Below.refl _ _⟩;rw [HF.out.1,HF.out.2];rfl
      ·go_wp2
       go_round
       case rel=>exact ⟨q-1,r+y1,rfl,rfl,HR'.out,by omega,by omega,hm,by omega⟩
       case measure=>simp [intOf];omega
     ·obtain ⟨m0,m1⟩:=D0.q_mul q (by omega) (by omega);by_cases hc:4294967296*r+v0<q*y0
      ·have hm:=D0.more q r HR.out hq1 (.inr hc);have HR':Hid (r+y1=R1-(q-1)*y1):=by show _=_;rw [Int.sub_mul,Int.one_mul];have:=HR.out;omega
       by_cases hbr:4294967296≤r+y1
       ·have hd:=D0.broke (q-1) (r+y1) HR'.out hm (by omega) hbr;go_wp2
        go_ret2
        refine ⟨?_,Below.refl _ _⟩;rw [HF.out.1,HF.out.2];rfl
       ·go_wp2
        go_round
        case rel=>exact ⟨q-1,r+y1,rfl,rfl,HR'.out,by omega,by omega,hm,by omega⟩
        case measure=>simp [intOf];omega
      ·have hd:=D0.done q r HR.out hq1 hc;subst hd;go_wp2
       go_ret2
       refine ⟨?_,Below.refl _ _⟩;rw [HF.out.1,HF.out.2];rfl
   ·go_wp2
    go_round
    case rel=>exact ⟨q-1,r+y1,rfl,rfl,HR'.out,by omega,by omega,hm,by omega⟩
    case measure=>simp [intOf];omega
  ·obtain ⟨m0,m1⟩:=D1.q_mul q (by omega) (by omega);by_cases hc:4294967296*r+v1<q*y0
   ·have hm:=D1.more q r HR.out hq1 (.inr hc);have HR':Hid (r+y1=U-(q-1)*y1):=by show _=_;rw [Int.sub_mul,Int.one_mul];have:=HR.out;omega
    by_cases hbr:4294967296≤r+y1
    ·have hd:=D1.broke (q-1) (r+y1) HR'.out hm (by omega) hbr;go_wp2_with fail
     clear hq1 hq2 hr0 hr1 hb
     try clear hm hbr hc
     go_loop [18,16] (fun a b=>∃ q r:Int,a=.int .u64 q∧b=.int .u64 r∧r=R1-q*y1∧0≤r∧r<4294967296∧Q0≤q∧q≤4294967297) (fun a _=>(intOf a).toNat)
     case atStart=>exact ⟨pp,R1-pp*y1,rfl,rfl,rfl,by omega,by omega,s1,s2⟩
     case round =>
      obtain ⟨q,r,rfl,rfl,hr,hr0,hr1,hq1,hq2⟩:=hrel;have HR:Hid (r=R1-q*y1):=hr;clear hr;by_cases hb:4294967296≤q
      ·have hm:=D0.more q r HR.out hq1 (.inl hb);have HR':Hid (r+y1=R1-(q-1)*y1):=by show _=_;rw [Int.sub_mul,Int.one_mul];have:=HR.out;omega
       by_cases hbr:4294967296≤r+y1
       ·have hd:=D0.broke (q-1) (r+y1) HR'.out hm (by omega) hbr;go_wp2
        go_ret2
        refine ⟨?_,Below.refl _ _⟩;rw [HF.out.1,HF.out.2];rfl
       ·go_wp2
        go_round
        case rel=>exact ⟨q-1,r+y1,rfl,rfl,HR'.out,by omega,by omega,hm,by omega⟩
        case measure=>simp [intOf];omega
      ·obtain ⟨m0,m1⟩:=D0.q_mul q (by omega) (by omega);by_cases hc:4294967296*r+v0<q*y0
       ·have hm:=D0.more q r HR.out hq1 (.inr hc);have HR':Hid (r+y1=R1-(q-1)*y1):=by show _=_;rw [Int.sub_mul,Int.one_mul];have:=HR.out;omega
        by_cases hbr:4294967296≤r+y1
        ·have hd:=D0.broke (q-1) (r+y1) HR'.out hm (by omega) hbr;go_wp2
         go_ret2
         refine ⟨?_,Below.refl _ _⟩;rw [HF.out.1,HF.out.2];rfl
        ·go_wp2
         go_round
         case rel=>exact ⟨q-1,r+y1,rfl,rfl,HR'.out,by omega,by omega,hm,by omega⟩
         case measure=>simp [intOf];omega
       ·have hd:=D0.done q r HR.out hq1 hc;subst hd;go_wp2
        go_ret2
        refine ⟨?_,Below.refl _ _⟩;rw [HF.out.1,HF.out.2];rfl
    ·go_wp2
     go_round
     case rel=>exact ⟨q-1,r+y1,rfl,rfl,HR'.out,by omega,by omega,hm,by omega⟩
     case measure=>simp [intOf];omega
   ·have hd:=D1.done q r HR.out hq1 hc;subst hd;go_wp2_with fail
    clear hq1 hq2 hr0 hr1 hb
    try clear hm hbr hc
    go_loop [18,16] (fun a b=>∃ q r:Int,a=.int .u64 q∧b=.int .u64 r∧r=R1-q*y1∧0≤r∧r<4294967296∧Q0≤q∧q≤4294967297) (fun a _=>(intOf a).toNat)
    case atStart=>exact ⟨pp,R1-pp*y1,rfl,rfl,rfl,by omega,by omega,s1,s2⟩
    case round =>
     obtain ⟨q,r,rfl,rfl,hr,hr0,hr1,hq1,hq2⟩:=hrel;have HR:Hid (r=R1-q*y1):=hr;clear hr;by_cases hb:4294967296≤q
     ·have hm:=D0.more q r HR.out hq1 (.inl hb);have HR':Hid (r+y1=R1-(q-1)*y1):=by show _=_;rw [Int.sub_mul,Int.one_mul];have:=HR.out;omega
      by_cases hbr:4294967296≤r+y1
      ·have hd:=D0.broke (q-1) (r+y1) HR'.out hm (by omega) hbr;go_wp2
       go_ret2
       refine ⟨?_,Below.refl _ _⟩;rw [HF.out.1,HF.out.2];rfl
      ·go_wp2
       go_round
       case rel=>exact ⟨q-1,r+y1,rfl,rfl,HR'.out,by omega,by omega,hm,by omega⟩
       case measure=>simp [intOf];omega
     ·obtain ⟨m0,m1⟩:=D0.q_mul q (by omega) (by omega);by_cases hc:4294967296*r+v0<q*y0
      ·have hm:=D0.more q r HR.out hq1 (.inr hc);have HR':Hid (r+y1=R1-(q-1)*y1):=by show _=_;rw [Int.sub_mul,Int.one_mul];have:=HR.out;omega
       by_cases hbr:4294967296≤r+y1
       ·have hd:=D0.broke (q-1) (r+y1) HR'.out hm (by omega) hbr;go_wp2
        go_ret2
        refine ⟨?_,Below.refl _ _⟩;rw [HF.out.1,HF.out.2];rfl
       ·go_wp2
        go_round
        case rel=>exact ⟨q-1,r+y1,rfl,rfl,HR'.out,by omega,by omega,hm,by omega⟩
        case measure=>simp [intOf];omega
      ·have hd:=D0.done q r HR.out hq1 hc;subst hd;go_wp2
       go_ret2
       refine ⟨?_,Below.refl _ _⟩;rw [HF.out.1,HF.out.2];rfl
theorem div64_any (p y:Int) (w:World) (hp:0≤p) (hy:U64 y) (hlt:p/18446744073709551616<y) :
  Calls Tryz.prog 127 #[.int .u64 (p/18446744073709551616),.int .u64 (p % 18446744073709551616),.int .u64 y] w fun e w' =>
   (e=.returned (.tuple #[.int .u64 (p/y),.int .u64 (p % y)]))∧Bl w w':=by
 have hl:U64 (p % 18446744073709551616):=⟨by omega,by omega⟩;have e:p=p/18446744073709551616*18446744073709551616+p % 18446744073709551616:=by omega
 rcases (by omega:p/18446744073709551616=0∨0<p/18446744073709551616) with h|h
 ·have:=div64_low (p % 18446744073709551616) y w hl hy (by omega);rw [h];rw [h,Int.zero_mul,Int.zero_add] at e;rw [←e] at this;rw [←e];exact this
 ·have:=div64_high (p/18446744073709551616) (p % 18446744073709551616) y w hl hy h hlt;rw [←e] at this;exact this
def belB (a b c:Int):Bool:=decide (a*b*c<0)
def mdC (a b c mode:Int):Int:=upI (szI a*szI b/szI c) (outB (szI a*szI b/szI c) (szI a*szI b % szI c) (szI c) (belB a b c) mode)
def mdG (a b c mode:Int):Bool:=rightB a&&rightB b&&rightB c && !(c==0)&&modeB mode
def mdN (a b c mode:Int):Int:=if mdG a b c mode then rdN (mdC a b c mode) (belB a b c) else 0
def mdB (a b c mode:Int):Bool:=mdG a b c mode&&rdB (mdC a b c mode)
theorem upI_le (q:Int) (o:Bool):q≤upI q o:=by unfold upI;split<;>omega
set_option maxHeartbeats 1000000 in
theorem mulDiv_good (a b c mode:Int) (ha:rightB a=true) (hb:rightB b=true) (hc:rightB c=true) (hz:(c==0)=false) (hm:modeB mode=true) (w:World) :
  Calls Tryz.prog 124 #[.int .i64 a,.int .i64 b,.int .i64 c,.int .i64 mode] w fun e w' =>
   e=.returned (.tuple #[.int .i64 (rdN (mdC a b c mode) (belB a b c)),.bool (rdB (mdC a b c mode))])∧Bl w w':=by
 have e1:wrap64 (cmpI a 0*cmpI b 0)=cmpI (a*b) 0:=by rw [sgn_mul];exact wrap64_unit (cmpI_bd _ _)
 have e2:wrap64 (cmpI (a*b) 0*cmpI c 0)=cmpI (a*b*c) 0:=by rw [sgn_mul];exact wrap64_unit (cmpI_bd _ _)
 have e3:decide (cmpI (a*b*c) 0<0)=belB a b c:=by
  unfold belB;rcases cmpI_three (a*b*c) 0 with ⟨h,e⟩|⟨h,e⟩|⟨h,e⟩<;>rw [e]<;>simp<;>omega
 have hp:=mul_hi (szI_right ha) (szI_right hb);have hd:=szI_right hc;have hd0:0<szI c:=by
  have:c≠0:=by simpa using hz
  unfold szI;split<;>omega
 have ia:=right_i64 ha;have ib:=right_i64 hb;have ic:=right_i64 hc;unfold mdC;have P:=product_any a b ia ib;have S:=size_any c ic;generalize szI a*szI b=p at *;generalize szI c=d at *;generalize belB a b c=bl at *;have HP:Hid _:=P;have HS:Hid _:=S;clear P S;by_cases hbig:d≤p/18446744073709551616
 ·have hq:4611686018427387903<p/d:=by
   have:=(Int.le_ediv_iff_mul_le (c:=d) (a:=18446744073709551616) (b:=p) hd0).2 (by omega);omega
  have hu:=upI_le (p/d) (outB (p/d) (p % d) d bl mode);have r1:rdN (upI (p/d) (outB (p/d) (p % d) d bl mode)) bl=0:=by unfold rdN;rw [if_pos (by omega)]
  have r2:rdB (upI (p/d) (outB (p/d) (p % d) d bl mode))=false:=by unfold rdB;exact decide_eq_false (by omega)
  rw [r1,r2];clear r1 r2 hu hq e1 e2 e3
  go_enter Tryz.func124,Tryz.ntmps124
  go_wp2_with (first
   |(go_at_call 145;refine (right_any _ _).mono ?_;rintro e w' ⟨rfl,rfl⟩)
   |(go_at_call 146;refine (isMode_any _ _).mono ?_;rintro e w' ⟨rfl,rfl⟩))
  refine (HP.out _).mono ?_;rintro e w1 ⟨rfl,h1⟩;go_wp2_with fail
  refine (HS.out _).mono ?_;rintro e w2 ⟨rfl,rfl⟩;go_wp2
  go_ret2
  exact ⟨rfl,h1.alloc _⟩
 ·go_enter Tryz.func124,Tryz.ntmps124
  go_wp2_with (first
   |(go_at_call 145;refine (right_any _ _).mono ?_;rintro e w' ⟨rfl,rfl⟩)
   |(go_at_call 146;refine (isMode_any _ _).mono ?_;rintro e w' ⟨rfl,rfl⟩))
  refine (HP.out _).mono ?_;rintro e w1 ⟨rfl,h1⟩;go_wp2_with fail
  refine (HS.out _).mono ?_;rintro e w2 ⟨rfl,rfl⟩;go_wp2_with fail
  refine (div64_any p d _ hp.1 (by unfold U64;omega) (by omega)).mono ?_;rintro e w3 ⟨rfl,h3⟩;have q0:0≤p/d:=Int.ediv_nonneg hp.1 (by omega);have r0:0≤p % d:=Int.emod_nonneg _ (by omega);have r1:p % d<d:=Int.emod_lt_of_pos _ hd0;have R:=rounded_any (p/d) (p % d) d mode bl r0 (by omega) q0 hm;have HR:Hid _:=R;clear R;go_wp2_with (go_at_call 149;refine (sign_any _ _).mono ?_;rintro e w' ⟨rfl,rfl⟩)
  refine (HR.out _).mono ?_;rintro e w4 ⟨rfl,rfl⟩;go_wp2
  go_ret2
  exact ⟨rfl,(h1.alloc _).trans h3⟩
theorem mulDiv_any (a b c mode:Int) (w:World) :
  Calls Tryz.prog 124 #[.int .i64 a,.int .i64 b,.int .i64 c,.int .i64 mode] w fun e w' =>
   e=.returned (.tuple #[.int .i64 (mdN a b c mode),.bool (mdB a b c mode)])∧Bl w w':=by
 unfold mdN mdB mdG;cases ha:rightB a
 ·go_enter Tryz.func124,Tryz.ntmps124
  go_wp2_with (first
   |(go_at_call 145;refine (right_any _ _).mono ?_;rintro e w' ⟨rfl,rfl⟩)
   |(go_at_call 146;refine (isMode_any _ _).mono ?_;rintro e w' ⟨rfl,rfl⟩))
  go_ret2
  exact ⟨rfl,Bl.refl _⟩
 cases hb:rightB b
 ·go_enter Tryz.func124,Tryz.ntmps124
  go_wp2_with (first
   |(go_at_call 145;refine (right_any _ _).mono ?_;rintro e w' ⟨rfl,rfl⟩)
   |(go_at_call 146;refine (isMode_any _ _).mono ?_;rintro e w' ⟨rfl,rfl⟩))
  go_ret2
  exact ⟨rfl,Bl.refl _⟩
 cases hc:rightB c
 ·go_enter Tryz.func124,Tryz.ntmps124
  go_wp2_with (first
   |(go_at_call 145;refine (right_any _ _).mono ?_;rintro e w' ⟨rfl,rfl⟩)
   |(go_at_call 146;refine (isMode_any _ _).mono ?_;rintro e w' ⟨rfl,rfl⟩))
  go_ret2
  exact ⟨rfl,Bl.refl _⟩
 cases hz:(c==0)
 case true =>
  go_enter Tryz.func124,Tryz.ntmps124
  go_wp2_with (first
   |(go_at_call 145;refine (right_any _ _).mono ?_;rintro e w' ⟨rfl,rfl⟩)
   |(go_at_call 146;refine (isMode_any _ _).mono ?_;rintro e w' ⟨rfl,rfl⟩))
  go_ret2
  exact ⟨rfl,Bl.refl _⟩
 case false =>
  cases hm:modeB mode
  case false =>
   go_enter Tryz.func124,Tryz.ntmps124
   go_wp2_with (first
    |(go_at_call 145;refine (right_any _ _).mono ?_;rintro e w' ⟨rfl,rfl⟩)
    |(go_at_call 146;refine (isMode_any _ _).mono ?_;rintro e w' ⟨rfl,rfl⟩))
   go_ret2
   exact ⟨rfl,Bl.refl _⟩
  case true=>exact mulDiv_good a b c mode ha hb hc hz hm w
def frB (n:Int):Bool:=decide (-1125899906842624≤n)&&decide (n≤1125899906842624)
theorem frB_iff {n:Int}:frB n=true↔-1125899906842624≤n∧n≤1125899906842624:=by simp [frB]
theorem frB_eq {n:Int} (h:-1125899906842624≤n∧n≤1125899906842624):frB n=true:=frB_iff.2 h
theorem frB_right {n:Int} (h:frB n=true):rightB n=true:=by have:=frB_iff.1 h;exact rightB_eq (by omega)
def toN (x:Int) (ok:Bool):Int:=if ok then x else 0
theorem toN_t (x:Int):toN x true=x:=rfl
theorem toN_f (x:Int):toN x false=0:=rfl
theorem toN_bd (x:Int) (ok:Bool) (h:ok=true→frB x=true):-1125899906842624≤toN x ok∧toN x ok≤1125899906842624:=by
 cases ok
 ·rw [toN_f];omega
 ·rw [toN_t];exact frB_iff.1 (h rfl)
theorem fright_any (n:Int) (w:World) :
  Calls Tryz.prog 63 #[.int .i64 n] w fun e w'=>e=.returned (.bool (frB n))∧w'=w:=by
 unfold frB;by_cases h:-1125899906842624≤n
 ·by_cases h2:n≤1125899906842624
  ·go_enter Tryz.func63,Tryz.ntmps63;go_wp2;go_ret;exact ⟨by simp [h,h2],rfl⟩
  ·go_enter Tryz.func63,Tryz.ntmps63;go_wp2;go_ret;exact ⟨by simp [h,h2],rfl⟩
 ·go_enter Tryz.func63,Tryz.ntmps63;go_wp2;go_ret;exact ⟨by simp;omega,rfl⟩
def allB (xs:List Int):Bool:=xs.all frB
theorem allB_take (xs:List Int) (k:Nat) (h:k<xs.length) (ht:allB (xs.take k)=true):allB (xs.take (k+1))=frB (xs.getD k 0):=by
 rw [List.take_succ_eq_append_getElem h];unfold allB at ht ⊢;rw [List.all_append,ht];simp [List.getD_eq_getElem?_getD,h]
theorem allB_false (xs:List Int) (k:Nat) (h:k<xs.length) (hf:frB (xs.getD k 0)=false):allB xs=false:=by
 unfold allB;rw [Bool.eq_false_iff,ne_eq,List.all_eq_true];intro hall;have:=hall (xs[k]) (List.getElem_mem h);rw [List.getD_eq_getElem?_getD,List.getElem?_eq_getElem h] at hf;simp [this] at hf
theorem told_no (n:Int) (is:Bool) (h:(is&&frB n)=false) (v:Value) (w:World) :
  Calls Tryz.prog 125 #[.int .i64 n,.bool is,v] w fun e w'=>e=.returned (.tuple #[.int .i64 0,.bool false])∧w'=w:=by
 cases is
 ·clear h
  go_enter Tryz.func125,Tryz.ntmps125;go_wp2_with (go_at_call 63;refine (fright_any _ _).mono ?_;rintro e w' ⟨rfl,rfl⟩)
  go_ret2
  exact ⟨rfl,rfl⟩
 ·have hf:frB n=false:=by simpa using h
  clear h
  go_enter Tryz.func125,Tryz.ntmps125;go_wp2_with (go_at_call 63;refine (fright_any _ _).mono ?_;rintro e w' ⟨rfl,rfl⟩)
  go_ret2
  exact ⟨rfl,rfl⟩
theorem told_nil (n:Int) (is:Bool) (w:World) :
  Calls Tryz.prog 125 #[.int .i64 n,.bool is,.slice none 0 0] w fun e w'=>e=.returned (.tuple #[.int .i64 (toN n (is&&frB n)),.bool (is&&frB n)])∧w'=w:=by
 cases h:(is&&frB n)
 ·exact told_no n is h _ w
 ·rw [Bool.and_eq_true] at h;obtain ⟨rfl,hf⟩:=h
  go_enter Tryz.func125,Tryz.ntmps125;go_wp2_with (go_at_call 63;refine (fright_any _ _).mono ?_;rintro e w' ⟨rfl,rfl⟩)
  go_loop [19] (fun i=>i=.int .i64 0) (fun i=>0)
  case atStart=>rfl
  case round =>
   subst hrel;go_wp2
   go_ret2
   exact ⟨rfl,rfl⟩
theorem told_any (n:Int) (is:Bool) (b o:Nat) (xs:List Int) (w:World) (hl:xs.length≤8)
  (hc:∀ k,k<xs.length→w.cell? ⟨b,o+k,none⟩=some (.int .i64 (xs.getD k 0))) :
  Calls Tryz.prog 125 #[.int .i64 n,.bool is,.slice (some ⟨b,o,none⟩) xs.length xs.length] w fun e w' =>
   e=.returned (.tuple #[.int .i64 (toN n (is&&frB n&&allB xs)),.bool (is&&frB n&&allB xs)])∧w'=w:=by
 cases h:(is&&frB n)
 ·exact told_no n is h _ w
 ·rw [Bool.and_eq_true] at h;obtain ⟨rfl,hf⟩:=h
  go_enter Tryz.func125,Tryz.ntmps125;go_wp2_with (go_at_call 63;refine (fright_any _ _).mono ?_;rintro e w' ⟨rfl,rfl⟩)
  go_loop [19] (fun i=>∃ k:Nat,k≤xs.length∧i=.int .i64 k∧allB (xs.take k)=true) (fun i=>xs.length-(intOf i).toNat)
  case atStart=>exact ⟨0,by omega,rfl,rfl⟩
  case round =>
   obtain ⟨k,hk,rfl,ha⟩:=hrel;by_cases hlt:k<xs.length
   ·have hck:=hc k hlt;have hs:=allB_take xs k hlt ha;have hno:=allB_false xs k hlt;generalize xs.getD k 0=x at *;have HS:=hideP hs;have HN:=hideP hno;clear hs hno ha hc;cases hx:frB x
    ·go_wp2_with (go_at_call 63;refine (fright_any _ _).mono ?_;rintro e w' ⟨rfl,rfl⟩)
     go_ret2
     exact ⟨by rw [HN.out hx];rfl,rfl⟩
    ·go_wp2_with (go_at_call 63;refine (fright_any _ _).mono ?_;rintro e w' ⟨rfl,rfl⟩)
     go_round
     case rel=>exact ⟨k+1,by omega,by go_num,by rw [HS.out];exact hx⟩
     case measure=>simp [intOf];omega
   ·have HA:=hideP ha;clear ha hc;go_wp2
    go_ret2
    have e:xs.take k=xs:=List.take_of_length_le (by omega);refine ⟨?_,rfl⟩;have:=HA.out;rw [e] at this;rw [this];rfl
theorem outB_zero (r g:Int) (b:Bool) (m:Int) (h:0<g):outB r 0 g b m=false:=by
 unfold outB;split
 ·simp
 ·split
  ·simp
  ·rw [decide_eq_false (by omega:¬ g<2*0),decide_eq_false (by omega:¬ 2*0=g)];rfl
theorem md_exact (a b c n m:Int) (ha:rightB a=true) (hb:rightB b=true) (hc:rightB c=true) (hn:rightB n=true) (hz:c≠0) (hm:modeB m=true) (h:a*b=n*c) :
  mdN a b c m=n∧mdB a b c m=true:=by
 have hg:mdG a b c m=true:=by unfold mdG;rw [ha,hb,hc,hm];simp [hz]
 have hd0:0<szI c:=by unfold szI;split<;>omega
 have hsn:=szI_right hn;have e:szI a*szI b=szI n*szI c:=by rw [szI_mul,szI_mul,h]
 have hC:mdC a b c m=szI n:=by
  unfold mdC;rw [e,Int.mul_ediv_cancel _ (by omega),Int.mul_emod_left,outB_zero _ _ _ _ hd0];rfl
 have hbl:belB a b c=decide (n<0):=by
  unfold belB;rw [h,Int.mul_assoc];have hcc:0<c*c:=by
   rcases Int.lt_or_gt_of_ne hz with k|k
   ·exact Int.mul_pos_of_neg_of_neg k k
   ·exact Int.mul_pos k k
  rcases (by omega:n<0∨n=0∨0<n) with k|k|k
  ·have:=Int.mul_neg_of_neg_of_pos k hcc;simp [k,this]
  ·subst k;simp
  ·have:=Int.mul_pos k hcc;rw [decide_eq_false (by omega),decide_eq_false (by omega)]
 unfold mdN mdB;rw [hg,hC,hbl];constructor
 ·rw [if_pos rfl];unfold rdN;rw [if_neg (by omega)];unfold szI;by_cases k:n<0<;>simp [k]
 ·unfold rdB;simp;omega
theorem md_bad (a b c m:Int) (h:mdG a b c m=false):mdN a b c m=0∧mdB a b c m=false:=by
 unfold mdN mdB;rw [h];exact ⟨rfl,rfl⟩
theorem mdG_bad {a b c m:Int} (h:rightB a=false∨rightB b=false∨rightB c=false):mdG a b c m=false:=by
 unfold mdG;rcases h with h|h|h<;>rw [h]<;>simp
theorem right_neg {a:Int}:rightB (-a)=rightB a:=by
 unfold rightB;rw [Bool.eq_iff_iff];simp;omega
def ng (a:Int):Int:=if a<0 then 1 else 0
end Go.Proofs.YtljmggemdkfbiaaGreat
