/- Contract of root's shares (layer 10). Written by genRo.py. -/
import Derived.Test.YtljmggemdkfbiaaGreatWD
import Derived.Test.YtljmggemdkfbiaaGreatWG
import Derived.Test.YtljmggemdkfbiaaGreatWF
import Derived.Test.YtljmggemdkfbiaaGreatWB
import Derived.Laws.EntriesVeiled
import Derived.Test.YtljmggemdkfbiaaGreatWC
import Derived.Test.YtljmggemdkfbiaaGreatWE
import Derived.Test.YtljmggemdkfbiaaGreatWA
namespace Go.Proofs.YtljmggemdkfbiaaGreat
open Go.RowKit
set_option linter.unusedSimpArgs false
set_option linter.unusedVariables false
def lowN (e:En):Bool:=decide (signE e<0)
open Go.Shelf
attribute [local go_sem] Oper.semAt_some
theorem Tryz.hSignN (x:Value) (w:World):(method 327 52 x "Sign").run Tryz.prog w=.ok (207,x) w:=by kernel_rfl
theorem Tryz.hNegN (x:Value) (w:World):(method 327 52 x "Neg").run Tryz.prog w=.ok (205,x) w:=by kernel_rfl
theorem Tryz.hAddN (x:Value) (w:World):(method 327 52 x "Add").run Tryz.prog w=.ok (202,x) w:=by kernel_rfl
theorem hAwayN (v:Value) (xs:List En) (x:En) (w:World) (h:Rq 4 cellsN w v xs) (hl:xs.length≤1000000) (hx:xs[0]?=some x) :
  Calls Tryz.prog 154 #[v] w fun e w'=>e=.returned (enV (if lowN x=true then rootE (dotN xs xs) else negE (rootE (dotN xs xs))))∧Bl w w':=by
 have mr:=Tryz.mRootN;have ms:=Tryz.hSignN;have mn:=Tryz.hNegN;have hlen:0<xs.length:=(List.getElem?_eq_some_iff.1 hx).1;obtain ⟨b,o,cap,rfl,hcap,hb,CX⟩:∃ b o cap,v=.slice (some ⟨b,o,none⟩) xs.length cap∧xs.length≤cap∧b<w.heap.size∧∀ k u,(cellsN x)[k]?=some u→w.cell? ⟨b,o+k,none⟩=some u:=by
  rcases h with ⟨p,cap,_,rfl,_⟩|⟨b,o,cap,e,hc,hb,hq⟩
  ·simp at hlen
  ·exact ⟨b,o,cap,e,hc,hb,fun k u hu=>by have:=hq 0 x hx k u hu;simpa using this⟩
 have DOT:=hideP (fun u (hu:Bl w u)=>vDotN (.slice (some ⟨b,o,none⟩) xs.length cap) (.slice (some ⟨b,o,none⟩) xs.length cap) xs xs u (h.later hu) (h.later hu) hl hl);obtain ⟨d,hd⟩:∃ d,d=dotN xs xs:=⟨_,rfl⟩;rw [←hd] at DOT ⊢;obtain ⟨r,hr⟩:∃ r,r=rootE d:=⟨_,rfl⟩;have ROOT:=hideP (fun u=>by have:=eroot_any d u;rw [←hr] at this;exact this);rw [←hr];obtain ⟨l,hl0⟩:∃ l,l=xs.length:=⟨_,rfl⟩;rw [←hl0] at DOT hlen hcap ⊢;have HX:=hideP CX;clear h hx hd hr hl hl0 CX;have SG:=hideP (show lowN x=decide (signE x<0) from rfl);have SGC:=hideP (fun u=>signE_any x u);generalize signE x=sg at *;generalize lowN x=lo at *;obtain ⟨W,hW⟩:∃ W,W=w.alloc (.cells #[.int .i64 0,.int .i64 0,.int .i64 0,.bool false] 52):=⟨_,rfl⟩;have b0:Bl w W:=by rw [hW];exact (Bl.refl _).alloc _
 have x0:Box W w.heap.size zeroE:=by rw [hW];exact Box.new w zeroE 52
 have HW:=hideP hW;clear hW
 go_enter Tryz.func154,Tryz.ntmps154;go_wp2_with fail
 rw [←HW.out];refine (DOT.out _ b0).mono ?_;rintro e w1 ⟨rfl,h1⟩;go_wp2_with fail
 refine (ROOT.out _).mono ?_;rintro e w2 ⟨rfl,h2⟩;obtain ⟨W2,hW2⟩:∃ W2,W2=w2.alloc (.cells #[.int .i64 r.v,.int .i64 r.l,.int .i64 r.h,.bool r.bad] 52):=⟨_,rfl⟩;have b2:Bl w2 W2:=by rw [hW2];exact (Bl.refl _).alloc _
 have k2:=Box.new w2 r 52;rw [←hW2] at k2;have y0:=(x0.later (h1.trans h2)).later b2;have wW2:Bl w W2:=b0.trans ((h1.trans h2).trans b2);have q0:w2.cell? ⟨b,o,none⟩=some (.int .i64 x.v):=(bl_cell (b0.trans (h1.trans h2)) _ _ hb).trans (HX.out 0 _ rfl);have q1:w2.cell? ⟨b,o+1,none⟩=some (.int .i64 x.l):=(bl_cell (b0.trans (h1.trans h2)) _ _ hb).trans (HX.out 1 _ rfl);have q2:w2.cell? ⟨b,o+2,none⟩=some (.int .i64 x.h):=(bl_cell (b0.trans (h1.trans h2)) _ _ hb).trans (HX.out 2 _ rfl);have q3:w2.cell? ⟨b,o+3,none⟩=some (.bool x.bad):=(bl_cell (b0.trans (h1.trans h2)) _ _ hb).trans (HX.out 3 _ rfl);have hb2:b<w2.heap.size:=Nat.lt_of_lt_of_le hb (Below.size (b0.trans (h1.trans h2)));have HW2:=hideP hW2;clear hW2 DOT ROOT;go_wp2_with fail
 rw [←HW2.out];refine (SGC.out _).mono ?_;rintro e w3 ⟨rfl,h3⟩;clear q0 q1 q2 q3;obtain ⟨c0,c1,c2,c3,f0,f1,f2,f3,lt3⟩:=k2.later h3;obtain ⟨d0,d1,d2,d3,g0,g1,g2,g3,lt4⟩:=y0.later h3;by_cases hs:sg<0
 ·have hlo:lo=true:=by rw [SG.out];exact decide_eq_true hs
  subst hlo;go_wp2;simp [bodyPost,results,Tryz.results154,go_sem,c0,c1,c2,c3,d0,d1,d2,d3];exact Bl.set4 (wW2.trans h3) (Nat.le_refl _) _ _ _ _
 ·have hlo:lo=false:=by rw [SG.out];exact decide_eq_false hs
  subst hlo;go_wp2_with fail
  refine (eneg_any r _).mono ?_;rintro e w4 ⟨rfl,h4⟩;clear c0 c1 c2 c3 f0 f1 f2 f3 d0 d1 d2 d3 g0 g1 g2 g3;obtain ⟨d0,d1,d2,d3,g0,g1,g2,g3,lt5⟩:=(y0.later h3).later h4;go_wp2;simp [bodyPost,results,Tryz.results154,go_sem,d0,d1,d2,d3];exact Bl.set4 ((wW2.trans h3).trans h4) (Nat.le_refl _) _ _ _ _
attribute [local go_sem] Oper.semAt_some
set_option maxRecDepth 100000 in
set_option maxHeartbeats 2000000 in
theorem hLessN (vw vv:Value) (ws vs:List En) (q:En) (w:World) (hw:Rq 4 cellsN w vw ws) (hv:Rw 4 cellsN w vv vs) (hl:ws.length≤1000000) (hm:vs.length≤1000000) :
  Calls Tryz.prog 155 #[vw,vv,enV q] w fun e w'=>∃ u,e=.returned u∧Rw 4 cellsN w' u (lessH kdN ws vs q)∧Bl w w':=by
 have fm:Tryz.prog.follows .mixedOrders=true:=by kernel_rfl
 have egA:=enters_of Tryz.func202 (by kernel_rfl) rfl;have egD:=enters_of Tryz.func203 (by kernel_rfl) rfl;have HL:=hideP (show lessH kdN ws vs q=List.zipWith subE ws (vs.map fun x=>mulE x (divE (addE (dotN ws vs) (dotN ws vs)) q)) from rfl);obtain ⟨W,hW⟩:∃ W,W=w.alloc (.cells #[.int .i64 q.v,.int .i64 q.l,.int .i64 q.h,.bool q.bad] 52):=⟨_,rfl⟩;have b0:Bl w W:=by rw [hW];exact (Bl.refl _).alloc _
 have kq:Box W w.heap.size q:=by rw [hW];exact Box.new w q 52
 have DOT:=hideP (fun u (hu:Bl w u)=>vDotN vw vv ws vs u (hw.later hu) (hv.q.later hu) hl hm);obtain ⟨d,hd⟩:∃ d,d=dotN ws vs:=⟨_,rfl⟩;rw [←hd] at DOT HL;obtain ⟨s,hs⟩:∃ s,s=addE d d:=⟨_,rfl⟩;have ADD:=hideP (fun u=>by have:=eadd_any d d u;rw [←hs] at this;exact this);rw [←hs] at HL;obtain ⟨t,ht⟩:∃ t,t=divE s q:=⟨_,rfl⟩;have DIV:=hideP (fun u=>by have:=ediv_any s q u;rw [←ht] at this;exact this);rw [←ht] at HL;have SCL:=hideP (fun u (hu:Bl w u)=>vScaleN vv vs t u (hv.later hu) hm);have HW0:=hideP hw;have HW:=hideP hW;clear hW hw hv hd hs ht
 go_enter Tryz.func155,Tryz.ntmps155;go_wp2_with fail
 rw [←HW.out];refine (DOT.out _ b0).mono ?_;rintro e w1 ⟨rfl,h1'⟩;have h1:Bl W w1:=h1';obtain ⟨W1,hW1⟩:∃ W1,W1=w1.alloc (.cells #[.int .i64 d.v,.int .i64 d.l,.int .i64 d.h,.bool d.bad] 52):=⟨_,rfl⟩;have b1:Bl w1 W1:=by rw [hW1];exact (Bl.refl _).alloc _
 have k1:=Box.new w1 d 52;rw [←hW1] at k1;have wW1:Bl w W1:=(b0.trans h1).trans b1;have HW1:=hideP hW1;clear hW1 DOT;go_wp2_with fail
 rw [←HW1.out]
 refine (wpIn_wide (n:=8)).1 (region_q fm [some 11,some 12,some 13,some 14,some 15,some 16,some 17,none] (fun _=>false) 7 (by kernel_rfl) (by rfl)
  (fun j v u=>match j with|0=>v=enV d|1=>v=.iface 52 (enV d)|2=>v=enV d|3=>v=enV s|4=>v=.iface 52 (enV s)|5=>v=enV q|6=>v=enV t|_=>False)
  (fun j v u u' _ h=>h) (fun vs u0 u=>Box u w1.heap.size t∧Bl w u) ?step ?still ?store ?fin)
 case step =>
  intro j o t act u ho hdt hpu hsz hu hfr hin;have hj:j<8:=l9 ho;obtain ⟨c0,c1,c2,c3,f0,f1,f2,f3,ltq⟩:=kq.later (h1.trans (b1.trans hu));obtain ⟨d0,d1,d2,d3,g0,g1,g2,g3,ltd⟩:=k1.later hu;rcases (by omega:j=0∨j=1∨j=2∨j=3∨j=4∨j=5∨j=6∨j=7) with rfl|rfl|rfl|rfl|rfl|rfl|rfl|rfl
  ·obtain ⟨rfl,rfl⟩:=o7 ho hdt;have i7:_=Value.pointer (some ⟨w1.heap.size,0,none⟩):=hfr 7 (by decide);exact pl9 (r:=by simp only [seval,i7];simp [go_sem,c0,c1,c2,c3,d0,d1,d2,d3])
  ·obtain ⟨rfl,rfl⟩:=o7 ho hdt;have i11:_=enV d:=hin ⟨0,.data⟩ (by simp) rfl 11 rfl;exact pl9 (r:=by simp only [seval,i11];simp [go_sem,c0,c1,c2,c3,d0,d1,d2,d3])
  ·obtain ⟨rfl,rfl⟩:=o7 ho hdt;have i7:_=Value.pointer (some ⟨w1.heap.size,0,none⟩):=hfr 7 (by decide);exact pl9 (r:=by simp only [seval,i7];simp [go_sem,c0,c1,c2,c3,d0,d1,d2,d3])
  ·obtain ⟨rfl,rfl⟩:=o7 ho hdt;have i12:_=Value.iface 52 (enV d):=hin ⟨1,.data⟩ (by simp) rfl 12 rfl;have i13:_=enV d:=hin ⟨2,.data⟩ (by simp) rfl 13 rfl;have iv:=Tryz.hAddN;refine ew9 202 #[enV d,enV d] (by simp only [seval,i12,i13];simp [invoke,iv,egA,Result.andThen,go_sem]) (ADD.out u) ?_;rintro e w' ⟨rfl,hb⟩;exact ⟨_,rfl,_,rfl,rfl,hb⟩
  ·obtain ⟨rfl,rfl⟩:=o7 ho hdt;have i14:_=enV s:=hin ⟨3,.data⟩ (by simp) rfl 14 rfl;exact pl9 (r:=by simp only [seval,i14];simp [go_sem,c0,c1,c2,c3,d0,d1,d2,d3])
  ·obtain ⟨rfl,rfl⟩:=o7 ho hdt;have i5:_=Value.pointer (some ⟨w.heap.size,0,none⟩):=hfr 5 (by decide);exact pl9 (r:=by simp only [seval,i5];simp [go_sem,c0,c1,c2,c3,d0,d1,d2,d3])
  ·obtain ⟨rfl,rfl⟩:=o7 ho hdt;have i15:_=Value.iface 52 (enV s):=hin ⟨4,.data⟩ (by simp) rfl 15 rfl;have i16:_=enV q:=hin ⟨5,.data⟩ (by simp) rfl 16 rfl;have iv:=Tryz.mDivN;refine ew9 203 #[enV s,enV q] (by simp only [seval,i15,i16];simp [invoke,iv,egD,Result.andThen,go_sem]) (DIV.out u) ?_;rintro e w' ⟨rfl,hb⟩;exact ⟨_,rfl,_,rfl,rfl,hb⟩
  ·obtain rfl:=o9 ho;cases hdt
 case still =>
  intro j o t act u0 u ho hdt hpu;cases hpu
 case store =>
  intro o act u vs ho hsz hu hfr hin;obtain rfl:=o9 ho;have i7:_=Value.pointer (some ⟨w1.heap.size,0,none⟩):=hfr 7 (by decide);obtain ⟨i17,k17⟩:act.eval (.tmp (17:Nat))=vs 6∧((vs 6)=enV t):=hin 6 17 rfl rfl;rw [k17] at i17;obtain ⟨c0,c1,c2,c3,f0,f1,f2,f3,ltb⟩:=k1.later hu;exact sw9 (by simp only [execOp,i7,i17];simp [go_sem,c0,c1,c2,c3,f0,f1,f2,f3]) ⟨rfl,(k1.later hu).fill _,Bl.set4 (wW1.trans hu) (by have:=(b0.trans h1).size;omega) _ _ _ _⟩
 case fin =>
  intro vs vb u0 u hu hin hps;have a0:=hin 0 11 rfl;have a1:=hin 1 12 rfl;have a2:=hin 2 13 rfl;have a3:=hin 3 14 rfl;have a4:=hin 4 15 rfl;have a5:=hin 5 16 rfl;have a6:=hin 6 17 rfl;simp only [seval] at a0 a1 a2 a3 a4 a5 a6 ⊢;rw [if_pos (by decide)] at hps;simp only [a0,a1,a2,a3,a4,a5,a6];obtain ⟨bt,hbt⟩:=hps;obtain ⟨c0,c1,c2,c3,f0,f1,f2,f3,ltb⟩:=bt;go_wp2_with fail
  refine (SCL.out _ hbt).mono ?_;rintro e w2 ⟨u2,rfl,hs2,h2⟩;have HS2:=hideP hs2;clear hs2 c0 c1 c2 c3 f0 f1 f2 f3;go_wp2_with fail
  refine (vSubN _ _ ws _ _ (HW0.out.later (hbt.trans h2)) HS2.out.q hl (by rw [List.length_map];exact hm)).mono ?_;rintro e w3 ⟨u3,rfl,hs3,h3⟩;have HS3:=hideP hs3;clear hs3;go_wp2;go_ret;exact ⟨_,rfl,by rw [HL.out];exact HS3.out,(hbt.trans h2).trans h3⟩
attribute [local go_sem] Oper.semAt_some
theorem Box.but {w w':World} {b:Nat} {x:En} {S:Nat→Prop} (h:Box w b x) (k:But S w w') (hs:¬ S b):Box w' b x:=by
 obtain ⟨c0,c1,c2,c3,f0,f1,f2,f3,lt⟩:=h;refine ⟨(k.cell _ _ lt hs).trans c0,(k.cell _ _ lt hs).trans c1,(k.cell _ _ lt hs).trans c2,(k.cell _ _ lt hs).trans c3,(k.froz _ _ lt hs).trans f0,(k.froz _ _ lt hs).trans f1,(k.froz _ _ lt hs).trans f2,(k.froz _ _ lt hs).trans f3,Nat.lt_of_lt_of_le lt k.size⟩
theorem Box.setc {w:World} {b g:Nat} {x:En} (h:Box w b x) (hne:b≠g) (vs:List Value) (o:Nat):Box (w.setCells g o vs) b x:=
 h.but (S:=fun i=>i=g) (but_setCells (S:=fun i=>i=g) (b:=g) rfl vs o w w (But.refl _ _)) hne
theorem Tryz.restN (b n cap lo:Nat) (w:World) (h1:lo≤n) (h3:n≤cap) (h4:lo<cap):(Instr.sliceAt 46 (.slice (some ⟨b,0,none⟩) n cap) (some (.int .i64 lo)) none none).run Tryz.prog w=.ok (.slice (some ⟨b,lo*4,none⟩) (n-lo) (cap-lo)) w:=by
 have hu:Tryz.prog.underlying 46=some (.slice (Tryz.prog.elem 46)):=by kernel_rfl
 obtain ⟨i0,hi0,hz0,hz1,hz2⟩:=info_parts Tryz.info_N;have he:Tryz.prog.elem 46=52:=by kernel_rfl
 rw [run_sliceAt_slice (h:=hu),run_slice_l (ht:=hu) (h0:=by omega) (h1:=by omega),he];have hcm:¬ cap=lo:=by omega
 have hcm':¬ cap≤lo:=by omega
 simp [sizeOf,typeInfo,hi0,sliced,Result.andThen,hz1,hcm,hcm',Addr.add];omega
theorem Tryz.info_TN:(Tryz.prog.info? 46).map (fun i=>(i.zero,i.size,i.bytes))=some (some (.slice none 0 0),1,24):=by kernel_rfl
theorem Tryz.rowsN (b n cap lo:Nat) (z:Int) (hz:z=lo) (h1:lo≤n) (h3:n≤cap):∃ p,(∀ w,(Instr.sliceAt 166 (.slice (some ⟨b,0,none⟩) n cap) (some (.int .i64 z)) none none).run Tryz.prog w=.ok (.slice p (n-lo) (cap-lo)) w)∧(lo<n→p=some ⟨b,lo,none⟩):=by
 subst hz;have hu:Tryz.prog.underlying 166=some (.slice (Tryz.prog.elem 166)):=by kernel_rfl
 obtain ⟨i0,hi0,hz0,hz1,hz2⟩:=info_parts Tryz.info_TN;have he:Tryz.prog.elem 166=46:=by kernel_rfl
 by_cases hc:lo<cap
 ·refine ⟨some ⟨b,lo,none⟩,fun w=>?_,fun _=>rfl⟩;rw [run_sliceAt_slice (h:=hu),run_slice_l (ht:=hu) (h0:=by omega) (h1:=by omega),he];have hcm:¬ cap=lo:=by omega
  have hcm':¬ cap≤lo:=by omega
  simp [sizeOf,typeInfo,hi0,sliced,Result.andThen,hz1,hcm,hcm',Addr.add];omega
 ·refine ⟨some ⟨b,0,none⟩,fun w=>?_,fun h=>by omega⟩;rw [run_sliceAt_slice (h:=hu),run_slice_l (ht:=hu) (h0:=by omega) (h1:=by omega),he];have hcm:cap=lo:=by omega
  have hcm':cap≤lo:=by omega
  simp [sizeOf,typeInfo,hi0,sliced,Result.andThen,hz1,hcm,Addr.add]
theorem Tryz.sizeN:(Tryz.prog.info? 52).map (·.size)=some 4:=by kernel_rfl
set_option maxRecDepth 100000 in
set_option maxHeartbeats 4000000 in
theorem hFoldN (H hc:Nat) (B cp:Nat→Nat) (n m k:Nat) (a:Nat→Nat→En) (w:World) (h:Tbl 4 cellsN w H B cp n m a) (hk:k<n) (hnm:n≤m) (hm:m≤1000) (hcap:n≤hc) :
  Calls Tryz.prog 136 #[.slice (some ⟨H,0,none⟩) n hc,.int .i64 k] w fun e w'=>(∃ v,e=.returned v)∧Tbl 4 cellsN w' H B cp n m (foldStep kdN m k (lowN (a k k)) a)∧But (InT B n) w w':=by
 have fm:Tryz.prog.follows .mixedOrders=true:=by kernel_rfl
 have egS:=enters_of Tryz.func208 (by kernel_rfl) rfl;have SZ:=hideP Tryz.sizeN;obtain ⟨i0,hi,hz0,hz1,hz2⟩:=info_parts Tryz.info_N;obtain ⟨j0,hji,jz0,jz1,jz2⟩:=info_parts Tryz.info_I;have hkm:k≤m:=by omega
 have hb:=h.blt k hk;have hdr:=h.hdr k hk;have hck:=h.cap k hk;have XC0:=h.cells k k hk (by omega);have hpart:=h.part (i:=k) (k:=k) hk hkm;obtain ⟨b,hbe⟩:∃ b,b=B k:=⟨_,rfl⟩;obtain ⟨ck,hce⟩:∃ ck,ck=cp k:=⟨_,rfl⟩;rw [←hbe] at hb hdr hpart XC0;rw [←hce] at hdr hck hpart;obtain ⟨l,hl⟩:∃ l,l=m-k:=⟨_,rfl⟩;obtain ⟨cx,hcx⟩:∃ cx,cx=ck-k:=⟨_,rfl⟩;have hl1:0<l:=by omega
 have hl2:l≤1000:=by omega
 have hlc:l≤cx:=by omega
 have sl:=fun u=>Tryz.restN b m ck k u hkm hck (by omega)
 rw [←hl,←hcx] at sl hpart;obtain ⟨pr,spr,hpe⟩:=Tryz.rowsN H n hc (k+1) ((k:Int)+1) (by omega) (by omega) hcap;have HLL:=hideP hl;have HBE:=hideP hbe;obtain ⟨x,hx⟩:∃ x,x=a k k:=⟨_,rfl⟩;obtain ⟨p,hp⟩:∃ p,p=pH kdN m k (lowN (a k k)) a:=⟨_,rfl⟩;obtain ⟨y,hy⟩:∃ y,y=subE x p:=⟨_,rfl⟩;obtain ⟨q,hq⟩:∃ q,q=dotN (tailH m k (vH kdN m k (lowN (a k k)) a)) (tailH m k (vH kdN m k (lowN (a k k)) a)):=⟨_,rfl⟩;have HQ:=hideP hq;have XT:=hideP (tail_consH (a k) (show k<m by omega));have VT:=hideP (show tailH m k (vH kdN m k (lowN (a k k)) a)=y::(List.range (m-k-1)).map fun j=>a k (k+1+j) by
  rw [tail_consH _ (show k<m by omega)]
  congr 1
  ·unfold vH;rw [if_pos rfl,hy,hx,hp];rfl
  ·refine List.map_congr_left fun j _=>?_
   unfold vH;rw [if_neg (by omega)])
 have SUB:=hideP (fun u=>by have:=esub_any x p u;rw [←hy] at this;exact this);have AW:=hideP (show Calls Tryz.prog 154 #[.slice (some ⟨b,k*4,none⟩) l cx] w fun e w'=>e=.returned (enV p)∧Bl w w' from by
  have:=hAwayN (.slice (some ⟨b,k*4,none⟩) l cx) (tailH m k (a k)) (a k k) w hpart (by rw [tail_len];omega) (by rw [tail_get _ (by omega)];rfl);rw [hp];exact this)
 have HP:=hideP hp;have HX:=hideP hx;have XC0':=hideP (show ∀ i u,(cellsN x)[i]?=some u→w.cell? ⟨b,k*4+i,none⟩=some u by rw [hx];exact XC0);have hl0:(tailH m k (a k)).length=l:=by rw [tail_len,hl]
 obtain ⟨cs,hcs⟩:∃ cs,cs=(tailH m k (a k)).flatMap cellsN:=⟨_,rfl⟩;have hcl:cs.length=l*4:=by rw [hcs,flat_len cellsN_len,hl0]
 have one:∀ v∈cs,v.oneCell'=true:=by rw [hcs];exact flat_one oneN_cells _
 have SRC:=hideP (show ∀ (j:Nat) u,cs[j]?=some u→w.cell? ((⟨b,k*4,none⟩:Addr).add j)=some u by
  rw [hcs];rcases hpart with ⟨_,_,_,e,_⟩|⟨b',o',c',e,_,_,hx⟩
  ·rw [e] at hl0;simp at hl0;omega
  ·simp only [Value.slice.injEq,Option.some.injEq,Addr.mk.injEq] at e;obtain ⟨⟨rfl,rfl,_⟩,_,_⟩:=e;exact flat_cells cellsN_len hx)
 have HCS:=hideP hcs;have HH:=hideP h;clear h hl hcx hbe hce hx hp hy hq XC0 hpart hcs hl0
 go_enter Tryz.func136,Tryz.ntmps136;go_wp2_with fail
 refine AW.out.mono ?_;rintro e w1 ⟨rfl,h1⟩;obtain ⟨W1,hW1⟩:∃ W1,W1=w1.alloc (.cells #[.int .i64 p.v,.int .i64 p.l,.int .i64 p.h,.bool p.bad] 52):=⟨_,rfl⟩;have b1:Bl w1 W1:=by rw [hW1];exact (Bl.refl _).alloc _
 have k1:=Box.new w1 p 52;rw [←hW1] at k1;have hs1:W1.heap.size=w1.heap.size+1:=by rw [hW1];simp
 have wW1:Bl w W1:=h1.trans b1;have HW1:=hideP hW1;clear hW1 AW hdr;go_wp2_with (first|(at_make;rw [←HW1.out];refine wpList_make_full _ rfl _ _ 46 rfl W1.heap.size 52 i0 (.agg #[.int .i64 0,.int .i64 0,.int .i64 0,.bool false]) 4 Tryz.underlying46 hi hz0 hz1 .i64 .i64 _ _ l rfl rfl (by simp) (by simp) (by rw [hz2];omega) (by unfold maxLen;omega) (Nat.le_refl _) ?_;intro w2 hown2 hgrow2;obtain ⟨g,hgz⟩:∃ g,g=W1.heap.size:=⟨_,rfl⟩;rw [←hgz] at hown2 ⊢;have HG:=hideP hgz;clear hgz;have h2:Bl W1 w2:=⟨hgrow2.os,hgrow2.tape,hgrow2.output,hgrow2.size,fun k hk=>hgrow2.block k hk nofun⟩;have hg2:=(hown2.lt g rfl).2;have CPY:=hideP (RwZ.copy cellsN_len hown2 (xs:=tailH m k (a k)) (by rw [tail_len,HLL.out]) hl1);rw [←HCS.out] at CPY;clear hown2 hgrow2)|(show wpList _ _ _ (Oper.mk _ (Op.call { callee:=.builtin .copy,args:=_,argTypes:=_ }) _ _ _ _::_) _ _;refine wpList_copy_s rfl _ _ _ _ rfl 52 Tryz.underlying46 4 SZ.out g 0 l l ⟨b,k*4,none⟩ l cx rfl rfl l cs (Nat.min_self _) hcl (fun j u hu=>by have:=SRC.out j u hu;have e:=add_off (⟨b,k*4,none⟩:Addr) j rfl;rw [e] at this ⊢;exact (bl_cell (wW1.trans h2) _ _ hb).trans this) CPY.out.2.1 (fun j _=>CPY.out.2.2 j) one ?_;intro w3 hw3))
 have VR:=hideP (show RwZ 4 cellsN w3 w.heap.size (.slice (some ⟨g,0,none⟩) l l) (tailH m k (a k)) by rw [hw3.out];have:=CPY.out.1;rw [Nat.zero_mul] at this;rw [HG.out] at this ⊢;exact this.base wW1.size);have hgw:w.heap.size≤g:=by rw [HG.out];exact wW1.size
 have w03:=hideP (show Bl w w3 by rw [hw3.out];exact bl_setCells (wW1.trans h2) hgw cs 0);have hg3:g<w3.heap.size:=by rw [hw3.out,setCells_size];exact hg2
 have hb3:b<w3.heap.size:=Nat.lt_of_lt_of_le hb w03.out.size;have kp3:Box w3 w1.heap.size p:=by rw [hw3.out];exact (k1.later h2).setc (by rw [HG.out];omega) _ _
 have XC:=hideP (show ∀ i u,(cellsN x)[i]?=some u→w3.cell? ⟨b,k*4+i,none⟩=some u from fun i u hu=>(bl_cell w03.out _ _ hb).trans (XC0'.out i u hu));have GC:=hideP (show ∀ i u,(cellsN x)[i]?=some u→w3.cell? ⟨g,i,none⟩=some u from fun i u hu=>by
  obtain ⟨g',c',e,_,_,_,_,hx⟩:=VR.out;cases e;have:=hx 0 (a k k) (by rw [tail_get _ (by rw [←HLL.out];exact hl1)];rfl) i u (by rw [←HX.out];exact hu)
  rwa [Nat.zero_mul,Nat.zero_add] at this)
 have GF:=hideP (show ∀ i,w3.frozen? ⟨g,i,none⟩=false from fun i=>by
  obtain ⟨g',c',e,_,_,_,hf,_⟩:=VR.out;cases e;exact hf i)
 have GI:=hideP (show ¬ InT B n g from by
  rintro ⟨i,hi',e⟩;have:=HH.out.blt i hi';omega)
 clear CPY hw3 SRC k1
 refine (wpIn_wide (n:=8)).1 (region_q fm [some 25,some 26,some 27,some 28,some 29,some 30,some 31,some 32,none] (fun _=>false) 8 (by kernel_rfl) (by rfl)
  (fun j v u=>match j with|0=>v=.slice (some ⟨g,0,none⟩) l l|1=>v=.slice (some ⟨b,k*4,none⟩) l cx|2=>v=.pointer (some ⟨b,k*4,none⟩)|3=>v=enV x|4=>v=.iface 52 (enV x)|5=>v=enV p|6=>v=enV y|7=>v=.pointer (some ⟨g,0,none⟩)|_=>False)
  (fun j v u u' _ h=>h) (fun vs u0 u=>u=u0.setCells g 0 (cellsN y)) ?step ?still ?store ?fin)
 case step =>
  intro j o t act u ho hdt hpu hsz hu hfr hin;have hj:j<9:=l9 ho;obtain ⟨c0,c1,c2,c3,f0,f1,f2,f3,ltp⟩:=kp3.later hu;have x0:u.cell? ⟨b,k*4,none⟩=some (.int .i64 x.v):=(bl_cell hu _ _ hb3).trans (XC.out 0 _ rfl);have x1:u.cell? ⟨b,k*4+1,none⟩=some (.int .i64 x.l):=(bl_cell hu _ _ hb3).trans (XC.out 1 _ rfl);have x2:u.cell? ⟨b,k*4+2,none⟩=some (.int .i64 x.h):=(bl_cell hu _ _ hb3).trans (XC.out 2 _ rfl);have x3:u.cell? ⟨b,k*4+3,none⟩=some (.bool x.bad):=(bl_cell hu _ _ hb3).trans (XC.out 3 _ rfl);rcases (by omega:j=0∨j=1∨j=2∨j=3∨j=4∨j=5∨j=6∨j=7∨j=8) with rfl|rfl|rfl|rfl|rfl|rfl|rfl|rfl|rfl
  ·obtain ⟨rfl,rfl⟩:=o7 ho hdt;have i6:_=Value.slice (some ⟨g,0,none⟩) l l:=hfr 6 (by decide);exact pl9 (r:=by simp only [seval,i6];simp [go_sem])
  ·obtain ⟨rfl,rfl⟩:=o7 ho hdt;have i4:_=Value.slice (some ⟨b,k*4,none⟩) l cx:=hfr 4 (by decide);exact pl9 (r:=by simp only [seval,i4];simp [go_sem])
  ·obtain ⟨rfl,rfl⟩:=o7 ho hdt;have i26:_=Value.slice (some ⟨b,k*4,none⟩) l cx:=hin ⟨1,.data⟩ (by simp) rfl 26 rfl;exact pl9 (r:=by simp only [seval,i26];simp [go_sem,c0,c1,c2,c3,x0,x1,x2,x3,hl1])
  ·obtain ⟨rfl,rfl⟩:=o7 ho hdt;have i27:_=Value.pointer (some ⟨b,k*4,none⟩):=hin ⟨2,.data⟩ (by simp) rfl 27 rfl;exact pl9 (r:=by simp only [seval,i27];simp [go_sem,c0,c1,c2,c3,x0,x1,x2,x3,hl1])
  ·obtain ⟨rfl,rfl⟩:=o7 ho hdt;have i28:_=enV x:=hin ⟨3,.data⟩ (by simp) rfl 28 rfl;exact pl9 (r:=by simp only [seval,i28];simp [go_sem,c0,c1,c2,c3,x0,x1,x2,x3,hl1])
  ·obtain ⟨rfl,rfl⟩:=o7 ho hdt;have i5:_=Value.pointer (some ⟨w1.heap.size,0,none⟩):=hfr 5 (by decide);exact pl9 (r:=by simp only [seval,i5];simp [go_sem,c0,c1,c2,c3,x0,x1,x2,x3,hl1])
  ·obtain ⟨rfl,rfl⟩:=o7 ho hdt;have i29:_=Value.iface 52 (enV x):=hin ⟨4,.data⟩ (by simp) rfl 29 rfl;have i30:_=enV p:=hin ⟨5,.data⟩ (by simp) rfl 30 rfl;have iv:=Tryz.mSubN;refine ew9 208 #[enV x,enV p] (by simp only [seval,i29,i30];simp [invoke,iv,egS,Result.andThen,go_sem]) (SUB.out u) ?_;rintro e w' ⟨rfl,hb⟩;exact ⟨_,rfl,_,rfl,rfl,hb⟩
  ·obtain ⟨rfl,rfl⟩:=o7 ho hdt;have i25:_=Value.slice (some ⟨g,0,none⟩) l l:=hin ⟨0,.data⟩ (by simp) rfl 25 rfl;exact pl9 (r:=by simp only [seval,i25];simp [go_sem,c0,c1,c2,c3,x0,x1,x2,x3,hl1])
  ·obtain rfl:=o9 ho;cases hdt
 case still =>
  intro j o t act u0 u ho hdt hpu;cases hpu
 case store =>
  intro o act u vs ho hsz hu hfr hin;obtain rfl:=o9 ho;obtain ⟨i31,k31⟩:act.eval (.tmp (31:Nat))=vs 6∧((vs 6)=enV y):=hin 6 31 rfl rfl;obtain ⟨i32,k32⟩:act.eval (.tmp (32:Nat))=vs 7∧((vs 7)=.pointer (some ⟨g,0,none⟩)):=hin 7 32 rfl rfl;rw [k31] at i31;rw [k32] at i32;have z0:u.cell? ⟨g,0,none⟩=some (.int .i64 x.v):=(bl_cell hu _ _ hg3).trans (GC.out 0 _ rfl);have e0:u.frozen? ⟨g,0,none⟩=false:=(bl_froz hu _ _ hg3).trans (GF.out 0);have z1:u.cell? ⟨g,1,none⟩=some (.int .i64 x.l):=(bl_cell hu _ _ hg3).trans (GC.out 1 _ rfl);have e1:u.frozen? ⟨g,1,none⟩=false:=(bl_froz hu _ _ hg3).trans (GF.out 1);have z2:u.cell? ⟨g,2,none⟩=some (.int .i64 x.h):=(bl_cell hu _ _ hg3).trans (GC.out 2 _ rfl);have e2:u.frozen? ⟨g,2,none⟩=false:=(bl_froz hu _ _ hg3).trans (GF.out 2);have z3:u.cell? ⟨g,3,none⟩=some (.bool x.bad):=(bl_cell hu _ _ hg3).trans (GC.out 3 _ rfl);have e3:u.frozen? ⟨g,3,none⟩=false:=(bl_froz hu _ _ hg3).trans (GF.out 3);exact sw9 (by simp only [execOp,i31,i32];simp [go_sem,z0,e0,z1,e1,z2,e2,z3,e3];rfl) ⟨rfl,rfl⟩
 case fin =>
  intro vs vb u0 u hu hin hps;have a0:=hin 0 25 rfl;have a1:=hin 1 26 rfl;have a2:=hin 2 27 rfl;have a3:=hin 3 28 rfl;have a4:=hin 4 29 rfl;have a5:=hin 5 30 rfl;have a6:=hin 6 31 rfl;have a7:=hin 7 32 rfl;simp only [seval] at a0 a1 a2 a3 a4 a5 a6 a7 ⊢;rw [if_pos (by decide)] at hps;simp only [a0,a1,a2,a3,a4,a5,a6,a7];have hb0u:But (InT B n) w u0:=(But.of_bl (w03.out)).trans (But.of_bl hu);have hgu:=Nat.lt_of_lt_of_le hg3 hu.size;have hu':Bl w u:=by rw [hps];exact bl_setCells (w03.out.trans hu) hgw (cellsN y) 0
  have TB5:=hideP (HH.out.later hu');have kp5:Box u w1.heap.size p:=by rw [hps];exact (kp3.later hu).setc (by have:=HG.out;omega) _ _
  have VR5:=hideP (show RwZ 4 cellsN u w.heap.size (.slice (some ⟨g,0,none⟩) l l) (tailH m k (vH kdN m k (lowN (a k k)) a)) by
   rw [hps,VT.out];have q:=VR.out.later hu;rw [XT.out] at q;exact (RwZ.put0 cellsN_len q).base (Nat.le_refl _))
  clear hps hb0u;have DOT:=hideP (fun w' (hh:Bl u w')=>by have:=vDotN (.slice (some ⟨g,0,none⟩) l l) (.slice (some ⟨g,0,none⟩) l l) _ _ w' (VR5.out.rw.later hh).q (VR5.out.rw.later hh).q (by rw [tail_len];omega) (by rw [tail_len];omega);rw [←HQ.out] at this;exact this);clear XC GC GF VR;go_wp2_with fail
  refine (DOT.out _ (Bl.refl _)).mono ?_;rintro e w6 ⟨rfl,h6⟩;obtain ⟨W6,hW6⟩:∃ W6,W6=w6.alloc (.cells #[.int .i64 q.v,.int .i64 q.l,.int .i64 q.h,.bool q.bad] 52):=⟨_,rfl⟩;have b6:Bl w6 W6:=by rw [hW6];exact (Bl.refl _).alloc _
  have k6:=Box.new w6 q 52;rw [←hW6] at k6;have h6u:Bl u W6:=h6.trans b6;have HW6:=hideP hW6;clear hW6 DOT;have PI:=hideP (show ¬ InT B n w1.heap.size from by
   rintro ⟨i,hi',e⟩;have:=HH.out.blt i hi';have:=h1.size;omega)
  have QI:=hideP (show ¬ InT B n w6.heap.size from by
   rintro ⟨i,hi',e⟩;have:=HH.out.blt i hi';have:=(hu'.trans h6).size;omega)
  have kp6:=kp5.later h6u;have hg6:g<W6.heap.size:=Nat.lt_of_lt_of_le VR5.out.glt h6u.size;have TB6:=hideP (TB5.out.later h6u);have VR6:=hideP (VR5.out.later h6u);have wW6:Bl w W6:=hu'.trans h6u;clear TB5 VR5 kp5;go_wp2_with fail
  rw [←HW6.out]
  go_loopw [41] (fun v wr=>∃ j:Nat,v=.int .i64 j∧j≤n-(k+1)∧Tbl 4 cellsN wr H B cp n m (partH k j (foldStep kdN m k (lowN (a k k)) a) a)∧But (InT B n) W6 wr) (fun v _=>n-(intOf v).toNat)
  case atStart=>exact ⟨0,rfl,Nat.zero_le _,by rw [partH_zero];exact TB6.out,But.refl _ _⟩
  case round =>
   obtain ⟨j,rfl,hj,tb,bt⟩:=hrel;have TB:=hideP tb;clear tb;by_cases hlt:j<n-(k+1)
   ·have hk1:k+1<n:=by omega
    have hin:k+1+j<n:=by omega
    have pe:=hpe hk1;subst pe;obtain ⟨bi,hbi⟩:∃ bi,bi=B (k+1+j):=⟨_,rfl⟩;obtain ⟨ci,hci⟩:∃ ci,ci=cp (k+1+j):=⟨_,rfl⟩;have hdr:=TB.out.hdr (k+1+j) hin;have hcapi:=TB.out.cap (k+1+j) hin;have hpart:=TB.out.part hin hkm;have eqr:partH k j (foldStep kdN m k (lowN (a k k)) a) a (k+1+j)=a (k+1+j):=by
     funext c
     unfold partH;rw [if_neg (by omega)]
    rw [eqr] at hpart;rw [←hbi,←hci] at hdr hpart;rw [←hci] at hcapi;rw [←HLL.out] at hpart;have sl:=fun u=>Tryz.restN bi m ci k u hkm hcapi (by omega)
    rw [←HLL.out] at sl;have LESS:=hideP (hLessN (.slice (some ⟨bi,k*4,none⟩) l (ci-k)) (.slice (some ⟨g,0,none⟩) l l) (tailH m k (a (k+1+j))) (tailH m k (vH kdN m k (lowN (a k k)) a)) q wr hpart (VR6.out.but bt (fun g' hg'=>by cases hg';exact GI.out)).rw (by rw [tail_len];omega) (by rw [tail_len];omega));rw [show lessH kdN (tailH m k (a (k+1+j))) (tailH m k (vH kdN m k (lowN (a k k)) a)) q=tailH m k (foldStep kdN m k (lowN (a k k)) a (k+1+j)) by rw [HQ.out];exact less_get kdN m k _ a _ (by omega)] at LESS;have HBI:=hideP hbi;have HCI:=hideP hci;obtain ⟨d0,d1,d2,d3,g0,g1,g2,g3,ltq⟩:=k6.but bt QI.out;clear hbi hci eqr hpart;go_wp2_with fail
    refine LESS.out.mono ?_;rintro e w7 ⟨u7,rfl,hr7,h7⟩;obtain ⟨p7,c7,rfl,hcc7,_⟩:=hr7.cut;have hl7:(tailH m k (foldStep kdN m k (lowN (a k k)) a (k+1+j))).length=l:=by rw [tail_len,HLL.out]
    rw [hl7] at hr7 hcc7 ⊢;obtain ⟨b7,o7,rfl,hx7⟩:∃ b7 o7,p7=some ⟨b7,o7,none⟩∧∀ t u,((tailH m k (foldStep kdN m k (lowN (a k k)) a (k+1+j))).flatMap cellsN)[t]?=some u→w7.cell? ((⟨b7,o7,none⟩:Addr).add t)=some u:=by
     rcases hr7 with ⟨e1,e2⟩|⟨b7,o7,cap7,e1,_,_,hx⟩
     ·rw [e2] at hl7;simp at hl7;omega
     ·cases e1;exact ⟨b7,o7,rfl,flat_cells cellsN_len hx⟩
    obtain ⟨cs7,hcs7⟩:∃ cs7,cs7=(tailH m k (foldStep kdN m k (lowN (a k k)) a (k+1+j))).flatMap cellsN:=⟨_,rfl⟩;have tb7:=TB.out.later h7
    have put7:=tb7.put cellsN_len (b:=partH k (j+1) (foldStep kdN m k (lowN (a k k)) a) a) (i:=k+1+j) (k:=k) (xs:=tailH m k (foldStep kdN m k (lowN (a k k)) a (k+1+j))) hin (by rw [hl7,HLL.out];omega)
     (fun c hc=>by rw [hl7,HLL.out] at hc;rw [tail_get _ hc];unfold partH;rw [if_pos (by omega)])
     (fun i' c hi' hc hne=>by
      rw [hl7,HLL.out] at hne;unfold partH;by_cases h1:k<i'∧i'≤k+j
      ·rw [if_pos h1,if_pos (by omega)]
      ·rw [if_neg h1];by_cases h2:k<i'∧i'≤k+(j+1)
       ·rw [if_pos h2];have:i'=k+1+j:=by omega
        subst this;unfold foldStep;rw [if_neg (by omega),if_neg (by omega)]
       ·rw [if_neg h2])
    have sm7:=tb7.somes cellsN_len (i:=k+1+j) (k:=k) (xs:=tailH m k (foldStep kdN m k (lowN (a k k)) a (k+1+j))) hin (by rw [hl7,HLL.out];omega);have fz7:=fun o=>tb7.froz (k+1+j) hin o
    have len7:cs7.length=l*4:=by rw [hcs7,flat_len cellsN_len,hl7]
    have one7:∀ v∈cs7,v.oneCell'=true:=by rw [hcs7];exact flat_one oneN_cells _
    rw [←hcs7] at put7 sm7 hx7;rw [←HBI.out] at put7 sm7 fz7;have PUT7:=hideP put7;have SM7:=hideP sm7;have HX7:=hideP hx7;have bt7:But (InT B n) W6 w7:=bt.trans (But.of_bl h7);clear put7 sm7 hx7 hcs7 hr7 LESS tb7 d0 d1 d2 d3 g0 g1 g2 g3 hdr sl;go_wp2_with (show wpList _ _ _ (Oper.mk _ (Op.call { callee:=.builtin .copy,args:=_,argTypes:=_ }) _ _ _ _::_) _ _;refine wpList_copy_s rfl _ _ _ _ rfl 52 Tryz.underlying46 4 SZ.out bi (k*4) l (ci-k) ⟨b7,o7,none⟩ l c7 rfl rfl l cs7 (Nat.min_self _) len7 HX7.out SM7.out (fun j _=>fz7 _) one7 ?_;intro w8 hw8)
    have TB8:=hideP (show Tbl 4 cellsN w8 H B cp n m (partH k (j+1) (foldStep kdN m k (lowN (a k k)) a) a) by rw [hw8.out];exact PUT7.out.1);have bt8:But (InT B n) W6 w8:=bt7.trans (by rw [hw8.out];exact PUT7.out.2);clear hw8 PUT7 SM7 HX7 fz7;go_wp2;go_roundw
    case rel=>exact ⟨j+1,by simp,hlt,TB8.out,bt8⟩
    case measure=>simp [intOf];omega
   ·obtain rfl:j=n-(k+1):=by omega
    have PE:=hideP (fun i c=>show partH k (n-(k+1)) (foldStep kdN m k (lowN (a k k)) a) a i c=if k<i∧i≤k+(n-(k+1)) then foldStep kdN m k (lowN (a k k)) a i c else a i c from rfl);have kpr:=kp6.but bt PI.out;obtain ⟨c0,c1,c2,c3,f0,f1,f2,f3,ltp⟩:=id kpr;go_wp2_with (at_make;refine wpList_make_full _ rfl _ _ 22 rfl wr.heap.size 3 j0 (.int .i64 0) 1 Tryz.underlying22 hji jz0 jz1 .i64 .i64 _ _ l rfl rfl (by simp) (by simp) (by rw [jz2];omega) (by unfold maxLen;omega) (Nat.le_refl _) ?_;intro w9 hown9 hgrow9)
    have h9:Bl wr w9:=⟨hgrow9.os,hgrow9.tape,hgrow9.output,hgrow9.size,fun k hk=>hgrow9.block k hk nofun⟩;have R9:=hideP (show Rw 1 (fun n:Int=>[.int .i64 n]) w9 (.slice (some ⟨wr.heap.size,0,none⟩) l l) (List.replicate l (0:Int)) from Rw.of_own (c:=cellsI) (fun _=>rfl) (xs:=List.replicate l (0:Int)) (by have:=hown9;rw [zeros_made] at this;simpa using this));clear hown9 hgrow9 c0 c1 c2 c3 f0 f1 f2 f3;refine (vWholeN _ (List.replicate l (0:Int)) _ R9.out.q (by simp;omega)).mono ?_;rintro e w10 ⟨u10,rfl,hr10,h10⟩;obtain ⟨p10,c10,rfl,hcc10,_⟩:=hr10.cut;have hl10:((List.replicate l (0:Int)).map wholeN).length=l:=by simp
    rw [hl10] at hr10 hcc10 ⊢;obtain ⟨b10,o10,rfl,hx10⟩:∃ b7 o7,p10=some ⟨b7,o7,none⟩∧∀ j u,(((List.replicate l (0:Int)).map wholeN).flatMap cellsN)[j]?=some u→w10.cell? ((⟨b7,o7,none⟩:Addr).add j)=some u:=by
     rcases hr10 with ⟨e1,e2⟩|⟨b7,o7,cap7,e1,_,_,hx⟩
     ·rw [e2] at hl10;simp at hl10;omega
     ·simp only [Value.slice.injEq] at e1;obtain ⟨rfl,_,_⟩:=e1;exact ⟨b7,o7,rfl,flat_cells cellsN_len hx⟩
    obtain ⟨cs10,hcs10⟩:∃ cs10,cs10=((List.replicate l (0:Int)).map wholeN).flatMap cellsN:=⟨_,rfl⟩;have tb10:=TB.out.later (h9.trans h10)
    have put10:=tb10.put cellsN_len (b:=fun i c=>if i=k then (if c<k then a i c else kdN.z) else foldStep kdN m k (lowN (a k k)) a i c) (i:=k) (k:=k) (xs:=(List.replicate l (0:Int)).map wholeN) hk (by rw [hl10,HLL.out];omega)
     (fun c hc=>by rw [hl10] at hc;rw [if_pos rfl,if_neg (by omega),List.getElem?_map,List.getElem?_replicate,if_pos hc];rfl)
     (fun i' c hi' hc hne=>by
      rw [hl10,HLL.out] at hne;show (if i'=k then (if c<k then a i' c else kdN.z) else foldStep kdN m k (lowN (a k k)) a i' c)=partH k (n-(k+1)) (foldStep kdN m k (lowN (a k k)) a) a i' c;unfold partH;by_cases h1:i'=k
      ·subst h1;rw [if_pos rfl,if_pos (by omega),if_neg (by omega)]
      ·rw [if_neg h1];by_cases h2:k<i'
       ·rw [if_pos (by omega)]
       ·rw [if_neg (by omega)];unfold foldStep;rw [if_neg h1,if_neg (by omega)])
    have sm10:=tb10.somes cellsN_len (i:=k) (k:=k) (xs:=(List.replicate l (0:Int)).map wholeN) hk (by rw [hl10,HLL.out];omega);have fz10:=fun o=>tb10.froz k hk o
    have len10:cs10.length=l*4:=by rw [hcs10,flat_len cellsN_len,hl10]
    have one10:∀ v∈cs10,v.oneCell'=true:=by rw [hcs10];exact flat_one oneN_cells _
    rw [←hcs10] at put10 sm10 hx10;rw [←HBE.out] at put10 sm10 fz10;have PUT10:=hideP put10;have SM10:=hideP sm10;have HX10:=hideP hx10;have bt10:But (InT B n) W6 w10:=bt.trans (But.of_bl (h9.trans h10));have kp10:=kpr.later (h9.trans h10);clear put10 sm10 hx10 hcs10 hr10 tb10 R9 kpr;go_wp2_with (show wpList _ _ _ (Oper.mk _ (Op.call { callee:=.builtin .copy,args:=_,argTypes:=_ }) _ _ _ _::_) _ _;refine wpList_copy_s rfl _ _ _ _ rfl 52 Tryz.underlying46 4 SZ.out b (k*4) l cx ⟨b10,o10,none⟩ l c10 rfl rfl l cs10 (Nat.min_self _) len10 HX10.out SM10.out (fun j _=>fz10 _) one10 ?_;intro w11 hw11;have TB11:=hideP (show Tbl 4 cellsN w11 H B cp n m (fun i c=>if i=k then (if c<k then a i c else kdN.z) else foldStep kdN m k (lowN (a k k)) a i c) by rw [hw11.out];exact PUT10.out.1);have bt11:But (InT B n) W6 w11:=bt10.trans (by rw [hw11.out];exact PUT10.out.2);have kp11:Box w11 w1.heap.size p:=by { rw [hw11.out];exact kp10.setc (by rw [HBE.out];exact fun e=>PI.out ⟨k,hk,e⟩) _ _ };obtain ⟨c0,c1,c2,c3,f0,f1,f2,f3,ltp⟩:=id kp11;obtain ⟨z,hz⟩:∃ z,z=kdN.z:=⟨_,rfl⟩;have ZC:=hideP (show ∀ i u,(cellsN z)[i]?=some u→w11.cell? ⟨b,k*4+i,none⟩=some u by { intro i u hu;have:=TB11.out.cells k k hk (by omega) i u (by rw [if_pos rfl,if_neg (by omega),←hz];exact hu);rw [←HBE.out] at this;exact this });have z0:w11.cell? ⟨b,k*4,none⟩=some (.int .i64 z.v):=ZC.out 0 _ rfl;have e0:w11.frozen? ⟨b,k*4,none⟩=false:=by { have:=TB11.out.froz k hk (k*4);rw [←HBE.out] at this;exact this };have z1:w11.cell? ⟨b,k*4+1,none⟩=some (.int .i64 z.l):=ZC.out 1 _ rfl;have e1:w11.frozen? ⟨b,k*4+1,none⟩=false:=by { have:=TB11.out.froz k hk (k*4+1);rw [←HBE.out] at this;exact this };have z2:w11.cell? ⟨b,k*4+2,none⟩=some (.int .i64 z.h):=ZC.out 2 _ rfl;have e2:w11.frozen? ⟨b,k*4+2,none⟩=false:=by { have:=TB11.out.froz k hk (k*4+2);rw [←HBE.out] at this;exact this };have z3:w11.cell? ⟨b,k*4+3,none⟩=some (.bool z.bad):=ZC.out 3 _ rfl;have e3:w11.frozen? ⟨b,k*4+3,none⟩=false:=by { have:=TB11.out.froz k hk (k*4+3);rw [←HBE.out] at this;exact this };clear hz hw11 PUT10 SM10 HX10 fz10)
    have PUT12:=hideP (TB11.out.put cellsN_len (b:=foldStep kdN m k (lowN (a k k)) a) (i:=k) (k:=k) (xs:=[p]) hk (by simp;omega)
     (fun c hc=>by
      have:c=0:=by simpa using hc
      subst this;rw [Nat.add_zero];unfold foldStep;rw [if_pos rfl,if_pos rfl,HP.out];rfl)
     (fun i' c hi' hc hne=>by
      simp only [List.length_singleton] at hne;show foldStep kdN m k (lowN (a k k)) a i' c=if i'=k then (if c<k then a i' c else kdN.z) else foldStep kdN m k (lowN (a k k)) a i' c
      by_cases h1:i'=k
      ·subst h1;rw [if_pos rfl];unfold foldStep;rw [if_pos rfl];by_cases h2:c<i'
       ·rw [if_pos h2,if_neg (by omega),if_neg (by omega)]
       ·rw [if_neg h2,if_neg (by omega),if_pos (by omega)]
      ·rw [if_neg h1]))
    rw [←HBE.out] at PUT12
    go_end0
    exact ⟨⟨_,rfl⟩,PUT12.out.1,(But.of_bl wW6).trans (bt11.trans PUT12.out.2)⟩
theorem fresh_ownN {w:World} {B b n:Nat} {e:TypeId} {s:Nat} {v:Value} {l:List Value} (h:w.ownsRow B e s v n l) (hb:b≤B):Fresh b v:=fun g hg=>Nat.le_trans hb (h.lt g hg).1
attribute [local go_sem] Oper.semAt_some
set_option maxRecDepth 100000 in
set_option maxHeartbeats 4000000 in
theorem mApplyN' (R M:Nat) (p:Option Addr) (n cap:Nat) (f:Nat→Nat→En) (q:Option Addr) (cap2:Nat) (xs:List En) (w:World) (hx:Mx 4 cellsN w R M p n cap f) (hy:Rq 4 cellsN w (.slice q M cap2) xs) (hl:xs.length=M) :
  Calls Tryz.prog 100 #[mV R M p n cap,.slice q M cap2] w fun e w'=>∃ p' cap',e=.returned (.tuple #[.slice p' R cap',.bool true])∧Rw 4 cellsN w' (.slice p' R cap') ((List.range R).map fun i=>dotN (rowM M f i) xs)∧Fresh w.heap.size (.slice p' R cap')∧Bl w w':=by
 obtain ⟨i0,hi,hz0,hz1,hz2⟩:=info_parts Tryz.info_N;refine (callsIn_wide (n:=8)).1 ?_;have hfx:=hx.fit;have hdR:=hx.1;have hR16:=hdR.r2;have hM16:=hdR.c2;have HXm:=hideP hx;have HYm:=hideP hy;have HL:=hideP hl;clear hx hy hl;obtain ⟨W,hW⟩:∃ W,W=(w.alloc (.cells #[.int .i64 R,.int .i64 M,.slice p n cap] 48)).alloc (.cells #[.slice q M cap2] 46):=⟨_,rfl⟩;have b0:Bl w W:=by rw [hW];exact ((Bl.refl _).alloc _).alloc _
 have mx0:MBox W w.heap.size R M p n cap:=by rw [hW];exact (MBox.new w _ _ _ _ _ _).later ((Bl.refl _).alloc _)
 have my0:Boxed W (w.heap.size+1) 46 (.slice q M cap2):=by rw [hW];have:=Boxed.new (w.alloc (.cells #[.int .i64 R,.int .i64 M,.slice p n cap] 48)) 46 (.slice q M cap2);rw [World.size_alloc] at this;exact this
 have hs0:W.heap.size=w.heap.size+1+1:=by rw [hW];simp
 have HW:=hideP hW;clear hW;refine callsIn_of_wp_marks Tryz.func100 rfl trivial ?_ rfl;simp only [Tryz.ntmps100,List.size_toArray,List.length_cons,List.length_nil,Nat.reduceAdd,Nat.reduceSub,Array.replicate_succ,Array.replicate_zero,List.push_toArray,List.append_toArray,List.nil_append,List.cons_append]
 gi_wp2_with fail
 rw [←HW.out];refine ⟨trivial,?_⟩;refine (callsIn_wide.2 (mRightN _ _ _ _ _ _)).mono ?_;rintro e w5 ⟨rfl,h5⟩;rw [hfx];have mx5:=mx0.later h5;have my5:=boxed_bl my0 h5;have bw5:Bl w w5:=b0.trans h5;obtain ⟨c0,c1,c2,f0,f1,f2,lt⟩:=id mx5;have d0:=my5.cell
 gi_wp2_with (gi_at_make;refine wpListIn_make_own _ rfl _ _ 46 rfl w5.heap.size 52 i0 (.agg #[.int .i64 0,.int .i64 0,.int .i64 0,.bool false]) 4 Tryz.underlying46 hi hz0 hz1 .i64 .i64 _ R rfl rfl (by simp) (by rw [hz2];omega) (by unfold maxLen;omega) (by simp) ?_;intro w6 hown0 hgrow0;have mx6:=mbox_block mx5 (hgrow0.block _ mx5.lt nofun) hgrow0.size;clear c0 c1 c2 f0 f1 f2 d0 lt;obtain ⟨c0,c1,c2,f0,f1,f2,lt⟩:=mx6)
 have h56:Bl w5 w6:=⟨hgrow0.os,hgrow0.tape,hgrow0.output,hgrow0.size,fun k hk=>hgrow0.block k hk nofun⟩;have hs6:w5.heap.size≤w6.heap.size:=hgrow0.size;obtain ⟨w6b,hw6b⟩:∃ w6b,w6b=w6.alloc (.cells #[.slice (some ⟨w5.heap.size,0,none⟩) 0 R] 46):=⟨_,rfl⟩;have h6b:Bl w6 w6b:=by rw [hw6b];exact (Bl.refl _).alloc _
 have hs6b:w6b.heap.size=w6.heap.size+1:=by rw [hw6b];simp
 have bl6:Boxed w6b w6.heap.size 46 (.slice (some ⟨w5.heap.size,0,none⟩) 0 R):=by rw [hw6b];exact Boxed.new w6 _ _
 have hown6:w6b.ownsRow w5.heap.size 52 4 (.slice (some ⟨w5.heap.size,0,none⟩) 0 R) 0 []:=own_blN hown0 h6b;have hlt5:w5.heap.size<w6b.heap.size:=by have:=(hown6.lt w5.heap.size rfl).2;exact this
 have HW6:=hideP hw6b;clear hw6b hown0 hgrow0 c0 c1 c2 f0 f1 f2 lt;rw [←HW6.out];refine ⟨trivial,?_⟩;refine (callsIn_wide.2 (mAllN _ _ _ _ _ f _ (HXm.out.later ((bw5.trans h56).trans h6b)))).mono ?_;rintro e w7 ⟨B2,p2,cap5,rfl,hK7,h7⟩;have HK7:=hideP hK7;clear hK7;have hs7:w6.heap.size+1≤w7.heap.size:=by have:=h7.size;omega
 have b57:Below w5.heap.size w5 w7:=(h56.trans h6b).trans h7;have bl7:=boxed_bl bl6 h7;have own7:=own_blN hown6 h7;clear bl6 hown6
 gi_wp2_with fail
 refine rangeV rfl (by omega) (gf:=108) (lb:=#[.pointer (some ⟨B2,0,none⟩)]) rfl trivial (enters_of Tryz.func108 (by kernel_rfl) rfl)
  (seqMN 7 B2 _ w7.heap.size R M p2 n cap5 f w7 (Nat.le_refl _) HK7.out) (fun x A B h=>h.1) (fun h k=>h.trans k) (span_b (Nat.le_refl _)) (fun _=>rfl)
  (fun (pre:List RowX) U=>(∃ v,Boxed U w6.heap.size 46 v∧U.ownsRow w5.heap.size 52 4 v (pre.map fun x:RowX=>dotN (rowM M f x.1) xs).length ((pre.map fun x:RowX=>dotN (rowM M f x.1) xs).flatMap cellsN)∧(∀ b,v.ownBlock=some b→b<w6b.heap.size∨w7.heap.size≤b))∧(Below w5.heap.size w5 U∧w7.heap.size≤U.heap.size))
  (fun _ _ _=>False)
  (OwnFrom.and (Own.from (holdsRow_own w5.heap.size w6.heap.size 46 52 4 (fun pre:List RowX=>(pre.map fun x:RowX=>dotN (rowM M f x.1) xs).length) (fun pre:List RowX=>(pre.map fun x:RowX=>dotN (rowM M f x.1) xs).flatMap cellsN) (fun _ v=>∀ b,v.ownBlock=some b→b<w6b.heap.size∨w7.heap.size≤b)) _) (OwnFrom.and (ownFrom_below (Nat.le_refl _) b57.size) (own_size _ _)))
  (fun _ _ _ _ _ hs _ _=>hs)
  ⟨⟨_,bl7,own7,fun b hb=>by cases hb;exact .inl hlt5⟩,b57,Nat.le_refl _⟩
  (fun a x a' U=>Rw 4 cellsN U (rowV M x) (rowM M f x.1)∧a'={ tmps:=(((a.tmps.setIfInBounds 24 (.int .i64 x.1)).setIfInBounds 25 (rowV M x)).setIfInBounds 8 (rowV M x)),defers:=[] })
  (fun x a' _ X Y row hs hg hr=>⟨rw_own hs.1 hg (fun r e=>(hr r e).2),hs.2⟩)
  ?assign ?body ?done ?stop
 case assign =>
  rintro l pre x W0 U K' _ ⟨hbU,hxR,hrow,hfr,hcc⟩ hI hK';have HK2:=hideP hK';have HI:=hideP hI;clear hK' hI
  gi_wp2
  exact HK2.out _ _ (KeepsFrom.refl _ _) (Span.refl _ _ _) HI.out ⟨hrow,rfl⟩
 case body =>
  rintro l pre x a' U hl' ⟨r,hr'⟩ ⟨⟨v,hv,hrow,hgv⟩,hbU,hsU⟩ ⟨hrx,rfl⟩ hlt;simp only [List.setIfInBounds_toArray,List.set_cons_zero,List.set_cons_succ]
  gi_wp2_with fail
  have hbv:=boxed_bl (show Boxed w5 _ _ _ from my5) hbU;have hC:=fun u (hu:Bl U u)=>vDotN (rowV M x) (.slice q M cap2) (rowM M f x.1) xs u (hrx.later hu).q (HYm.out.later ((bw5.trans hbU).trans hu)) (by rw [rowM_len];omega) (by rw [HL.out];omega)
  have hlen2:(pre.map fun x:RowX=>dotN (rowM M f x.1) xs).length≤100000:=by rw [List.length_map];omega
  refine dotAppendN (ops:=_) rfl (by kernel_rfl) 26 6 76 (by simp) (by omega) ⟨rfl,rfl,rfl⟩ ⟨rfl,rfl⟩ ⟨rfl,rfl⟩ ⟨rfl,rfl,rfl⟩ ⟨rfl,rfl,rfl⟩ ⟨rfl,rfl,rfl⟩ ⟨rfl,rfl,rfl⟩ ⟨by simp,by simp⟩ (by simp) ⟨by simp,by simp⟩ (by simp)
   (rowV M x) (.slice q M cap2) (fun act u K' hfr hu hk=>move_wp (.tmp 8) rfl (by rw [hfr 8 (by omega)];exact hk))
   (fun act u K' hfr hu hk=>load_wp 46 (.tmp 3) rfl (by rw [hfr 3 (by omega)];exact Tryz.load1N (w.heap.size+1) _ u (boxed_bl hbv hu).cell) hk)
   trivial (fun _=>by omega) (enters_of Tryz.func76 (by kernel_rfl) rfl) (dotN (rowM M f x.1) xs)
   (fun u hu=>CallsIn.inRound l (callsIn_wide.2 (hC u hu)))
   w6.heap.size rfl v hv w5.heap.size (pre.map fun x:RowX=>dotN (rowM M f x.1) xs) hrow hlen2 (by have:=b57.size;omega) ?_
  intro act u0 w8 g' cap' k1 k2 k3 k4;have hvu:=boxed_bl hv k1;have hru:=own_blN hrow k1;have hsu:=k1.size;have hu5:w5.heap.size≤u0.heap.size:=by have:=b57.size;omega
  obtain ⟨hv5,hv6,hr6,hk6,hb6⟩:=boxed_appended hvu (by decide) hru hu5 (by omega) k3 k2;have hg8:=k2.size;refine ⟨(k1.keeps _).trans (hk6.from _),span_appended k1 (by omega) hgv k2 (by omega),⟨_,hv6,?_,?_⟩,?_,?_⟩
  ·rw [List.map_append];simpa [List.flatMap_append] using hr6
  ·intro b hb;have hb':g'=b:=by cases hb;rfl
   subst hb';rcases k4 with h|h
   ·exact hgv _ h.symm
   ·exact .inr (by omega)
  ·exact hbU.trans ((k1.mono (by have:=b57.size;omega)).trans hb6)
  ·simp;omega
 case done =>
  rintro Dm zs U hD hS ⟨⟨v,hv,hrow,_⟩,hb5,hs7'⟩ hKD;have e:(zs.map fun x:RowX=>dotN (rowM M f x.1) xs)=(List.range R).map fun i=>dotN (rowM M f i) xs:=by rw [←hS,List.map_map];rfl
  rw [e] at hrow;have RW:=Rw.of_own cellsN_len (ownsRow_putObj hrow (.deferred none) hKD rfl);obtain ⟨p',cap',hv',_,_⟩:=RW.cut;rw [List.length_map,List.length_range] at hv';subst hv';have hcl:=hv.cell;have hbw:Bl w U:=bw5.trans hb5;have HFR:=hideP (show Fresh w.heap.size (.slice p' R cap') from fun g hg=>by have:=(hrow.lt g hg).1;have:=bw5.size;omega);have HRW:=hideP RW;have HKD:=hideP hKD;clear hrow RW hKD hv
  gi_wp2
  refine ⟨by simp,.inl ⟨_,_,rfl,run_takeDeferred HKD.out,?_⟩⟩;exact ⟨_,results_tmp2 rfl _ _ _,p',cap',rfl,HRW.out,HFR.out,Below.trans hbw (belowK_b (w:=w) (Nat.le_refl _) U Dm _ _ (by have:=bw5.size;have:=b57.size;omega) HKD.out rfl rfl)⟩
 case stop =>
  rintro D' c pre U _ _ h _;exact h.elim
abbrev newsVN (x y:En):Value:=.agg #[.int .i64 x.v,.int .i64 x.l,.int .i64 x.h,.bool x.bad,.int .i64 y.v,.int .i64 y.l,.int .i64 y.h,.bool y.bad]
structure NBoxN (w:World) (b:Nat) (x y:En):Prop where
 c0:w.cell? ⟨b,0,none⟩=some (.int .i64 x.v)
 c1:w.cell? ⟨b,1,none⟩=some (.int .i64 x.l)
 c2:w.cell? ⟨b,2,none⟩=some (.int .i64 x.h)
 c3:w.cell? ⟨b,3,none⟩=some (.bool x.bad)
 c4:w.cell? ⟨b,4,none⟩=some (.int .i64 y.v)
 c5:w.cell? ⟨b,5,none⟩=some (.int .i64 y.l)
 c6:w.cell? ⟨b,6,none⟩=some (.int .i64 y.h)
 c7:w.cell? ⟨b,7,none⟩=some (.bool y.bad)
 f0:w.frozen? ⟨b,0,none⟩=false
 f1:w.frozen? ⟨b,1,none⟩=false
 f2:w.frozen? ⟨b,2,none⟩=false
 f3:w.frozen? ⟨b,3,none⟩=false
 f4:w.frozen? ⟨b,4,none⟩=false
 f5:w.frozen? ⟨b,5,none⟩=false
 f6:w.frozen? ⟨b,6,none⟩=false
 f7:w.frozen? ⟨b,7,none⟩=false
 lt:b<w.heap.size
theorem NBoxN.heap {w w':World} {b:Nat} {x y:En} (h:NBoxN w b x y) (e:w'.heap[b]?=w.heap[b]?) (hs:w.heap.size≤w'.heap.size):NBoxN w' b x y:=
 ⟨(World.cell?_of_block (a:=⟨b,0,none⟩) e).trans h.c0,(World.cell?_of_block (a:=⟨b,1,none⟩) e).trans h.c1,(World.cell?_of_block (a:=⟨b,2,none⟩) e).trans h.c2,(World.cell?_of_block (a:=⟨b,3,none⟩) e).trans h.c3,(World.cell?_of_block (a:=⟨b,4,none⟩) e).trans h.c4,(World.cell?_of_block (a:=⟨b,5,none⟩) e).trans h.c5,(World.cell?_of_block (a:=⟨b,6,none⟩) e).trans h.c6,(World.cell?_of_block (a:=⟨b,7,none⟩) e).trans h.c7,(World.frozen?_of_block (a:=⟨b,0,none⟩) e).trans h.f0,(World.frozen?_of_block (a:=⟨b,1,none⟩) e).trans h.f1,(World.frozen?_of_block (a:=⟨b,2,none⟩) e).trans h.f2,(World.frozen?_of_block (a:=⟨b,3,none⟩) e).trans h.f3,(World.frozen?_of_block (a:=⟨b,4,none⟩) e).trans h.f4,(World.frozen?_of_block (a:=⟨b,5,none⟩) e).trans h.f5,(World.frozen?_of_block (a:=⟨b,6,none⟩) e).trans h.f6,(World.frozen?_of_block (a:=⟨b,7,none⟩) e).trans h.f7,Nat.lt_of_lt_of_le h.lt hs⟩
theorem NBoxN.later {w w':World} {b:Nat} {x y:En} (h:NBoxN w b x y) (k:Bl w w'):NBoxN w' b x y:=h.heap (Below.block k b h.lt) (Below.size k)
theorem NBoxN.new (w:World) (x y:En) (t:TypeId):NBoxN (w.alloc (.cells #[.int .i64 x.v,.int .i64 x.l,.int .i64 x.h,.bool x.bad,.int .i64 y.v,.int .i64 y.l,.int .i64 y.h,.bool y.bad] t)) w.heap.size x y:=by
 refine ⟨?_,?_,?_,?_,?_,?_,?_,?_,?_,?_,?_,?_,?_,?_,?_,?_,by simp⟩<;>simp [go_sem]
theorem NBoxN.fill {u:World} {b:Nat} {x y:En} (h:NBoxN u b x y) (x' y':En):NBoxN ((((((((u.setCell ⟨b,0,none⟩ (.int .i64 x'.v)).setCell ⟨b,1,none⟩ (.int .i64 x'.l)).setCell ⟨b,2,none⟩ (.int .i64 x'.h)).setCell ⟨b,3,none⟩ (.bool x'.bad)).setCell ⟨b,4,none⟩ (.int .i64 y'.v)).setCell ⟨b,5,none⟩ (.int .i64 y'.l)).setCell ⟨b,6,none⟩ (.int .i64 y'.h)).setCell ⟨b,7,none⟩ (.bool y'.bad)) b x' y':=by
 obtain ⟨c0,c1,c2,c3,c4,c5,c6,c7,f0,f1,f2,f3,f4,f5,f6,f7,lt⟩:=h;refine ⟨?_,?_,?_,?_,?_,?_,?_,?_,?_,?_,?_,?_,?_,?_,?_,?_,?_⟩<;>simp [go_sem, *]
theorem scale_linN (p:Option Addr) (n cap:Nat) (x:Nat→En) (b:En) (w:World) (h:Rw 4 cellsN w (.slice p n cap) (linJ n x)) (hl:n≤1000000) :
  Calls Tryz.prog 78 #[.slice p n cap,enV b] w fun e w'=>∃ q c,e=.returned (.slice q n c)∧Rw 4 cellsN w' (.slice q n c) (linJ n fun i=>mulE (x i) b)∧Bl w w':=
 (vScaleN _ _ b w h (by rw [linJ_len];exact hl)).mono fun e w' ⟨u,he,hr,hb⟩=>by
  rw [linJ_map] at hr;obtain ⟨q,c,rfl,_,_⟩:=hr.cut;rw [linJ_len] at hr he;exact ⟨q,c,he,hr,hb⟩
theorem add_linN (p q:Option Addr) (n cap cap2:Nat) (x y:Nat→En) (w:World) (h:Rq 4 cellsN w (.slice p n cap) (linJ n x)) (h2:Rq 4 cellsN w (.slice q n cap2) (linJ n y)) (hl:n≤1000000) :
  Calls Tryz.prog 77 #[.slice p n cap,.slice q n cap2] w fun e w'=>∃ q c,e=.returned (.slice q n c)∧(Rw 4 cellsN w' (.slice q n c) (linJ n fun i=>addE (x i) (y i))∧Fresh w.heap.size (.slice q n c))∧Bl w w':=
 (vAddN' _ _ _ _ w h h2 (by rw [linJ_len];exact hl) (by rw [linJ_len];exact hl)).mono fun e w' ⟨u,he,hr,hf,hb⟩=>by
  rw [linJ_zip] at hr;obtain ⟨q,c,rfl,_,_⟩:=hr.cut;rw [linJ_len] at hr hf he;exact ⟨q,c,he,⟨hr,hf⟩,hb⟩
theorem Tryz.buildNN (x y:En) (u:World):(Instr.build 54 #[(0,enV x),(1,enV y)]).run Tryz.prog u=.ok (newsVN x y) u:=by kernel_rfl
theorem butRN (u:World) (b:Nat) (v0 v1 v2 v3:Value):But (fun i=>i=b) u (((((u.setCell ⟨b,0,none⟩ v0).setCell ⟨b,1,none⟩ v1).setCell ⟨b,2,none⟩ v2).setCell ⟨b,3,none⟩ v3)):=((((but_cell1 (S:=fun i=>i=b) rfl _ _ _).trans (but_cell1 (S:=fun i=>i=b) rfl _ _ _)).trans (but_cell1 (S:=fun i=>i=b) rfl _ _ _)).trans (but_cell1 (S:=fun i=>i=b) rfl _ _ _))
theorem linJ_set9N {n i:Nat} (f:Nat→En) (hi:i<n) (y:En):(linJ n f).set i y=linJ n (fun r=>if r=i then y else f r):=by
 refine List.ext_getElem? fun k=>?_
 rw [List.getElem?_set];by_cases hk:k<n
 ·rw [linJ_get _ hk,linJ_get _ hk];by_cases e:i=k
  ·subst e;simp [linJ_len,hi]
  ·rw [if_neg e,if_neg (fun h=>e h.symm)]
 ·rw [if_neg (by omega)];rw [List.getElem?_eq_none (by rw [linJ_len];omega),List.getElem?_eq_none (by rw [linJ_len];omega)]
set_option maxRecDepth 100000 in
set_option maxHeartbeats 8000000 in
theorem rChangeN (n N g cap ge ce j0 lo:Nat) (t:StO En) (x:En) (w:World) (hd:Dim n n) (hN:N=n*n) (h:RwZ 4 cellsN w lo (.slice (some ⟨g,0,none⟩) N cap) (mk n n t.s)) (he:RwZ 4 cellsN w lo (.slice (some ⟨ge,0,none⟩) n ce) (linJ n t.e)) (hne:g≠ge) (hj0:j0<n) :
  Calls Tryz.prog 119 #[mV n n (some ⟨g,0,none⟩) N cap,.slice (some ⟨ge,0,none⟩) n ce,.int .i64 j0,enV x,enV t.a] w fun e w'=>e=.returned (enV (bO kdN t.a x))∧RwZ 4 cellsN w' lo (.slice (some ⟨g,0,none⟩) N cap) (mk n n (stepO kdN n j0 x t).s)∧RwZ 4 cellsN w' lo (.slice (some ⟨ge,0,none⟩) n ce) (linJ n (stepO kdN n j0 x t).e)∧But (fun b=>b=g∨b=ge) w w':=by
 have fm:Tryz.prog.follows .mixedOrders=true:=by kernel_rfl
 have egT:=enters_of Tryz.func38 (by kernel_rfl) rfl;have egA:=enters_of Tryz.func202 (by kernel_rfl) rfl;have egS:=enters_of Tryz.func208 (by kernel_rfl) rfl;have egM:=enters_of Tryz.func204 (by kernel_rfl) rfl;have egD:=enters_of Tryz.func203 (by kernel_rfl) rfl;have egR:=enters_of Tryz.func206 (by kernel_rfl) rfl;have mvD:=Tryz.mDivN;have mvR:=Tryz.mRootN;have hn16:=hd.r2;have HN:=hideP hN;have HD:=hideP hd;obtain ⟨av,hav⟩:∃ y,y=t.a:=⟨_,rfl⟩;obtain ⟨ww,hww⟩:∃ y,y=mulE x x:=⟨_,rfl⟩;obtain ⟨bb,hbb⟩:∃ y,y=addE av ww:=⟨_,rfl⟩;obtain ⟨q1,hq1⟩:∃ y,y=divE av bb:=⟨_,rfl⟩;obtain ⟨dd,hdd⟩:∃ y,y=rootE q1:=⟨_,rfl⟩;obtain ⟨ab,hab⟩:∃ y,y=mulE av bb:=⟨_,rfl⟩;obtain ⟨rt,hrt⟩:∃ y,y=rootE ab:=⟨_,rfl⟩;obtain ⟨cc,hcc⟩:∃ y,y=divE x rt:=⟨_,rfl⟩;have HWW:=hideP (fun u=>by have:=emul_any x x u;rw [←hww] at this;exact this);have HBB:=hideP (fun u=>by have:=eadd_any av ww u;rw [←hbb] at this;exact this);have HQ1:=hideP (fun u=>by have:=ediv_any av bb u;rw [←hq1] at this;exact this);have HD1:=hideP (fun u=>by have:=eroot_any q1 u;rw [←hdd] at this;exact this);have HAB:=hideP (fun u=>by have:=emul_any av bb u;rw [←hab] at this;exact this);have HRT:=hideP (fun u=>by have:=eroot_any ab u;rw [←hrt] at this;exact this);have HCC:=hideP (fun u=>by have:=ediv_any x rt u;rw [←hcc] at this;exact this);have HAV:=hideP hav;have HBO:=hideP (show bO kdN t.a x=bb from by rw [hbb,hww,hav];rfl);have HDD:=hideP (show dd=dO kdN av x from by rw [hdd,hq1,hbb,hww];rfl);have HCCQ:=hideP (show cc=cO kdN av x from by rw [hcc,hrt,hab,hbb,hww];rfl);rw [HBO.out,←hav];clear hav hww hbb hq1 hdd hab hrt hcc;obtain ⟨W,hW⟩:∃ W,W=(((w.alloc (.cells #[.int .i64 n,.int .i64 n,.slice (some ⟨g,0,none⟩) N cap] 48)).alloc (.cells #[.int .i64 x.v,.int .i64 x.l,.int .i64 x.h,.bool x.bad] 52)).alloc (.cells #[.int .i64 av.v,.int .i64 av.l,.int .i64 av.h,.bool av.bad] 52)).alloc (.cells #[.int .i64 0,.int .i64 0,.int .i64 0,.bool false] 52):=⟨_,rfl⟩;have b0:Bl w W:=by rw [hW];exact ((((Bl.refl _).alloc _).alloc _).alloc _).alloc _
 have m0:MBox W w.heap.size n n (some ⟨g,0,none⟩) N cap:=by rw [hW];exact (MBox.new w _ _ _ _ _ _).later ((((Bl.refl _).alloc _).alloc _).alloc _)
 have kw:Box W (w.heap.size+1) x:=by rw [hW];have:=(Box.new (w.alloc (.cells #[.int .i64 n,.int .i64 n,.slice (some ⟨g,0,none⟩) N cap] 48)) x 52).later (((Bl.refl _).alloc (.cells #[.int .i64 av.v,.int .i64 av.l,.int .i64 av.h,.bool av.bad] 52)).alloc (.cells #[.int .i64 0,.int .i64 0,.int .i64 0,.bool false] 52));simp only [World.size_alloc] at this;exact this
 have ka:Box W (w.heap.size+1+1) av:=by rw [hW];have:=(Box.new ((w.alloc (.cells #[.int .i64 n,.int .i64 n,.slice (some ⟨g,0,none⟩) N cap] 48)).alloc (.cells #[.int .i64 x.v,.int .i64 x.l,.int .i64 x.h,.bool x.bad] 52)) av 52).later ((Bl.refl _).alloc (.cells #[.int .i64 0,.int .i64 0,.int .i64 0,.bool false] 52));simp only [World.size_alloc] at this;exact this
 have kz:Box W (w.heap.size+1+1+1) zeroE:=by rw [hW];have:=(Box.new (((w.alloc (.cells #[.int .i64 n,.int .i64 n,.slice (some ⟨g,0,none⟩) N cap] 48)).alloc (.cells #[.int .i64 x.v,.int .i64 x.l,.int .i64 x.h,.bool x.bad] 52)).alloc (.cells #[.int .i64 av.v,.int .i64 av.l,.int .i64 av.h,.bool av.bad] 52)) zeroE 52);simp only [World.size_alloc] at this;exact this
 have hWs:W.heap.size=w.heap.size+1+1+1+1:=by rw [hW];simp
 have hglt:=h.glt;have hgelt:=he.glt;have H0:=hideP (h.later b0);have E0:=hideP (he.later b0);have HW:=hideP hW;clear hW h he hd hN
 go_enter Tryz.func119,Tryz.ntmps119;go_wp2_with fail
 try simp only [World.size_alloc]
 rw [←HW.out]
 refine (wpIn_wide (n:=8)).1 (region_q fm [some 16,some 17,some 18,some 19,some 20,some 21,some 22,some 11,none] (fun _=>false) 8 (by kernel_rfl) (by rfl)
   (fun j v u=>match j with|0=>v=enV av|1=>v=.iface 52 (enV av)|2=>v=enV x|3=>v=.iface 52 (enV x)|4=>v=enV x|5=>v=enV ww|6=>v=enV bb|7=>∃ b,v=.pointer (some ⟨b,0,none⟩)∧W.heap.size≤b∧Box u b zeroE|_=>False)
   (by
    intro j v u u' hb h;split at h<;>first|exact h|(obtain ⟨b,e,h1,h2⟩:=h;exact ⟨b,e,h1,h2.later hb⟩)|(obtain ⟨q,c,e,h1⟩:=h;exact ⟨q,c,e,h1.later hb⟩)) (fun vs u0 u=>∃ b,vs 7=.pointer (some ⟨b,0,none⟩)∧W.heap.size≤b∧Box u b bb∧Bl W u) ?step ?still ?store ?fin)
 case step =>
  intro j o t act u ho hdt hpu hsz hu hfr hin;have hj:j<9:=l9 ho;rcases (by omega:j=0∨j=1∨j=2∨j=3∨j=4∨j=5∨j=6∨j=7∨j=8) with rfl|rfl|rfl|rfl|rfl|rfl|rfl|rfl|rfl
  ·obtain ⟨rfl,rfl⟩:=o7 ho hdt;have i9:_=Value.pointer (some ⟨w.heap.size+1+1,0,none⟩):=hfr 9 (by decide);obtain ⟨c0,c1,c2,c3,f0,f1,f2,f3,_⟩:=ka.later hu;exact pl9 (r:=by simp only [seval,i9];simp [go_sem,c0,c1,c2,c3])
  ·obtain ⟨rfl,rfl⟩:=o7 ho hdt;have i16:_=enV av:=hin ⟨0,.data⟩ (by simp) rfl 16 rfl;exact pl9 (r:=by simp only [seval,i16];simp [go_sem])
  ·obtain ⟨rfl,rfl⟩:=o7 ho hdt;have i8:_=Value.pointer (some ⟨w.heap.size+1,0,none⟩):=hfr 8 (by decide);obtain ⟨c0,c1,c2,c3,f0,f1,f2,f3,_⟩:=kw.later hu;exact pl9 (r:=by simp only [seval,i8];simp [go_sem,c0,c1,c2,c3])
  ·obtain ⟨rfl,rfl⟩:=o7 ho hdt;have i18:_=enV x:=hin ⟨2,.data⟩ (by simp) rfl 18 rfl;exact pl9 (r:=by simp only [seval,i18];simp [go_sem])
  ·obtain ⟨rfl,rfl⟩:=o7 ho hdt;have i8:_=Value.pointer (some ⟨w.heap.size+1,0,none⟩):=hfr 8 (by decide);obtain ⟨c0,c1,c2,c3,f0,f1,f2,f3,_⟩:=kw.later hu;exact pl9 (r:=by simp only [seval,i8];simp [go_sem,c0,c1,c2,c3])
  ·obtain ⟨rfl,rfl⟩:=o7 ho hdt;have i19:_=Value.iface 52 (enV x):=hin ⟨3,.data⟩ (by simp) rfl 19 rfl;have i20:_=enV x:=hin ⟨4,.data⟩ (by simp) rfl 20 rfl;have iv:=Tryz.mMulN;refine ew9 204 #[enV x,enV x] (by simp only [seval,i19,i20];simp [invoke,iv,egM,Result.andThen,go_sem]) (HWW.out u) ?_;rintro e w' ⟨rfl,hb⟩;exact ⟨_,rfl,_,rfl,rfl,hb⟩
  ·obtain ⟨rfl,rfl⟩:=o7 ho hdt;have i17:_=Value.iface 52 (enV av):=hin ⟨1,.data⟩ (by simp) rfl 17 rfl;have i21:_=enV ww:=hin ⟨5,.data⟩ (by simp) rfl 21 rfl;have iv:=Tryz.mAddN;refine ew9 202 #[enV av,enV ww] (by simp only [seval,i17,i21];simp [invoke,iv,egA,Result.andThen,go_sem]) (HBB.out u) ?_;rintro e w' ⟨rfl,hb⟩;exact ⟨_,rfl,_,rfl,rfl,hb⟩
  ·obtain ⟨rfl,rfl⟩:=o7 ho hdt;exact pw9 (w':=u.alloc (.cells #[.int .i64 0,.int .i64 0,.int .i64 0,.bool false] 52)) (v:=.pointer (some ⟨u.heap.size,0,none⟩)) (by simp only [execOp];simp [go_sem]) ⟨_,rfl,⟨u.heap.size,rfl,hu.size,Box.new u zeroE _⟩,(Bl.refl _).alloc _⟩
  ·obtain rfl:=o9 ho;cases hdt
 case still =>
  intro j o t act u0 u ho hdt hpu;cases hpu
 case store =>
  intro o act u vs ho hsz hu hfr hin;obtain rfl:=o9 ho;obtain ⟨i11,k11⟩:act.eval (.tmp (11:Nat))=vs 7∧(∃ b,(vs 7)=.pointer (some ⟨b,0,none⟩)∧W.heap.size≤b∧Box u b zeroE):=hin 7 11 rfl rfl;obtain ⟨i22,k22⟩:act.eval (.tmp (22:Nat))=vs 6∧((vs 6)=enV bb):=hin 6 22 rfl rfl;obtain ⟨b,e1,hb,bx⟩:=k11;rw [e1] at i11;replace i22:=i22.trans k22;obtain ⟨c0,c1,c2,c3,f0,f1,f2,f3,ltb⟩:=id bx;exact sw9 (by simp only [execOp,i11,i22];simp [go_sem,zeroE,c0,c1,c2,c3,f0,f1,f2,f3]) ⟨rfl,b,e1,hb,bx.fill _,Bl.set4 hu hb _ _ _ _⟩
 case fin =>
  intro vs vb u0 u hu hin hps;have a0:=hin 0 16 rfl;have a1:=hin 1 17 rfl;have a2:=hin 2 18 rfl;have a3:=hin 3 19 rfl;have a4:=hin 4 20 rfl;have a5:=hin 5 21 rfl;have a6:=hin 6 22 rfl;have a7:=hin 7 11 rfl;simp only [seval] at a0 a1 a2 a3 a4 a5 a6 a7 ⊢;rw [if_pos (by decide)] at hps;simp only [a0,a1,a2,a3,a4,a5,a6];obtain ⟨b11,eb,hb11,kb,hbu⟩:=hps;simp only [eb];obtain ⟨w1,rfl⟩:∃ w1,w1=u:=⟨_,rfl⟩;have b1:Bl W w1:=hbu;have lt11:W.heap.size≤b11:=hb11;clear hin hu a0 a1 a2 a3 a4 a5 a6;obtain ⟨c0,c1,c2,c3,f0,f1,f2,f3,_⟩:=ka.later b1;obtain ⟨d0,d1,d2,d3,g0,g1,g2,g3,_⟩:=kb;have kb:Box w1 b11 bb:=⟨d0,d1,d2,d3,g0,g1,g2,g3,by assumption⟩;go_wp2_with fail
  refine (HQ1.out _).mono ?_;rintro e w2 ⟨rfl,h2⟩;clear c0 c1 c2 c3 f0 f1 f2 f3 d0 d1 d2 d3 g0 g1 g2 g3;go_wp2_with fail
  refine (HD1.out _).mono ?_;rintro e w2' ⟨rfl,h2'⟩;obtain ⟨w3,hw3⟩:∃ w3,w3=w2'.alloc (.cells #[.int .i64 dd.v,.int .i64 dd.l,.int .i64 dd.h,.bool dd.bad] 52):=⟨_,rfl⟩;have b2a:Bl w2' w3:=by rw [hw3];exact (Bl.refl _).alloc _
  have kd:Box w3 w2'.heap.size dd:=by rw [hw3];exact Box.new w2' dd _
  have b13:Bl w1 w3:=(h2.trans h2').trans b2a;have b3:Bl W w3:=b1.trans b13;obtain ⟨b12,hb12⟩:∃ b12,b12=w2'.heap.size:=⟨_,rfl⟩;have lt12:W.heap.size≤b12:=by rw [hb12];have:=(b1.trans (h2.trans h2')).size;omega
  have HW3:=hideP hw3;clear hw3;go_wp2_with fail
  rw [←HW3.out,←hb12];rw [←hb12] at kd;clear hb12
  refine (wpIn_wide (n:=8)).1 (region_q fm [some 29,some 30,some 31,some 32,some 33,some 34,some 35,some 36,some 37,some 13,none] (fun _=>false) 10 (by kernel_rfl) (by rfl)
     (fun j v u=>match j with|0=>v=enV x|1=>v=.iface 52 (enV x)|2=>v=enV av|3=>v=.iface 52 (enV av)|4=>v=enV bb|5=>v=enV ab|6=>v=.iface 52 (enV ab)|7=>v=enV rt|8=>v=enV cc|9=>∃ b,v=.pointer (some ⟨b,0,none⟩)∧w3.heap.size≤b∧Box u b zeroE|_=>False)
     (by
      intro j v u u' hb h;split at h<;>first|exact h|(obtain ⟨b,e,h1,h2⟩:=h;exact ⟨b,e,h1,h2.later hb⟩)|(obtain ⟨q,c,e,h1⟩:=h;exact ⟨q,c,e,h1.later hb⟩)) (fun vs u0 u=>∃ b,vs 9=.pointer (some ⟨b,0,none⟩)∧w3.heap.size≤b∧Box u b cc∧Bl w3 u) ?step ?still ?store ?fin)
  case step =>
   intro j o t act u ho hdt hpu hsz hu hfr hin;have hj:j<11:=l9 ho;rcases (by omega:j=0∨j=1∨j=2∨j=3∨j=4∨j=5∨j=6∨j=7∨j=8∨j=9∨j=10) with rfl|rfl|rfl|rfl|rfl|rfl|rfl|rfl|rfl|rfl|rfl
   ·obtain ⟨rfl,rfl⟩:=o7 ho hdt;have i8:_=Value.pointer (some ⟨w.heap.size+1,0,none⟩):=hfr 8 (by decide);obtain ⟨c0,c1,c2,c3,f0,f1,f2,f3,_⟩:=kw.later (b3.trans hu);exact pl9 (r:=by simp only [seval,i8];simp [go_sem,c0,c1,c2,c3])
   ·obtain ⟨rfl,rfl⟩:=o7 ho hdt;have i29:_=enV x:=hin ⟨0,.data⟩ (by simp) rfl 29 rfl;exact pl9 (r:=by simp only [seval,i29];simp [go_sem])
   ·obtain ⟨rfl,rfl⟩:=o7 ho hdt;have i9:_=Value.pointer (some ⟨w.heap.size+1+1,0,none⟩):=hfr 9 (by decide);obtain ⟨c0,c1,c2,c3,f0,f1,f2,f3,_⟩:=ka.later (b3.trans hu);exact pl9 (r:=by simp only [seval,i9];simp [go_sem,c0,c1,c2,c3])
   ·obtain ⟨rfl,rfl⟩:=o7 ho hdt;have i31:_=enV av:=hin ⟨2,.data⟩ (by simp) rfl 31 rfl;exact pl9 (r:=by simp only [seval,i31];simp [go_sem])
   ·obtain ⟨rfl,rfl⟩:=o7 ho hdt;have i11:_=Value.pointer (some ⟨b11,0,none⟩):=hfr 11 (by decide);obtain ⟨c0,c1,c2,c3,f0,f1,f2,f3,_⟩:=kb.later (b13.trans hu);exact pl9 (r:=by simp only [seval,i11];simp [go_sem,c0,c1,c2,c3])
   ·obtain ⟨rfl,rfl⟩:=o7 ho hdt;have i32:_=Value.iface 52 (enV av):=hin ⟨3,.data⟩ (by simp) rfl 32 rfl;have i33:_=enV bb:=hin ⟨4,.data⟩ (by simp) rfl 33 rfl;have iv:=Tryz.mMulN;refine ew9 204 #[enV av,enV bb] (by simp only [seval,i32,i33];simp [invoke,iv,egM,Result.andThen,go_sem]) (HAB.out u) ?_;rintro e w' ⟨rfl,hb⟩;exact ⟨_,rfl,_,rfl,rfl,hb⟩
   ·obtain ⟨rfl,rfl⟩:=o7 ho hdt;have i34:_=enV ab:=hin ⟨5,.data⟩ (by simp) rfl 34 rfl;exact pl9 (r:=by simp only [seval,i34];simp [go_sem])
   ·obtain ⟨rfl,rfl⟩:=o7 ho hdt;have i35:_=Value.iface 52 (enV ab):=hin ⟨6,.data⟩ (by simp) rfl 35 rfl;have iv:=Tryz.mRootN;refine ew9 206 #[enV ab] (by simp only [seval,i35];simp [invoke,iv,egR,Result.andThen,go_sem]) (HRT.out u) ?_;rintro e w' ⟨rfl,hb⟩;exact ⟨_,rfl,_,rfl,rfl,hb⟩
   ·obtain ⟨rfl,rfl⟩:=o7 ho hdt;have i30:_=Value.iface 52 (enV x):=hin ⟨1,.data⟩ (by simp) rfl 30 rfl;have i36:_=enV rt:=hin ⟨7,.data⟩ (by simp) rfl 36 rfl;have iv:=Tryz.mDivN;refine ew9 203 #[enV x,enV rt] (by simp only [seval,i30,i36];simp [invoke,iv,egD,Result.andThen,go_sem]) (HCC.out u) ?_;rintro e w' ⟨rfl,hb⟩;exact ⟨_,rfl,_,rfl,rfl,hb⟩
   ·obtain ⟨rfl,rfl⟩:=o7 ho hdt;exact pw9 (w':=u.alloc (.cells #[.int .i64 0,.int .i64 0,.int .i64 0,.bool false] 52)) (v:=.pointer (some ⟨u.heap.size,0,none⟩)) (by simp only [execOp];simp [go_sem]) ⟨_,rfl,⟨u.heap.size,rfl,hu.size,Box.new u zeroE _⟩,(Bl.refl _).alloc _⟩
   ·obtain rfl:=o9 ho;cases hdt
  case still =>
   intro j o t act u0 u ho hdt hpu;cases hpu
  case store =>
   intro o act u vs ho hsz hu hfr hin;obtain rfl:=o9 ho;obtain ⟨i13,k13⟩:act.eval (.tmp (13:Nat))=vs 9∧(∃ b,(vs 9)=.pointer (some ⟨b,0,none⟩)∧w3.heap.size≤b∧Box u b zeroE):=hin 9 13 rfl rfl;obtain ⟨i37,k37⟩:act.eval (.tmp (37:Nat))=vs 8∧((vs 8)=enV cc):=hin 8 37 rfl rfl;obtain ⟨b,e1,hb,bx⟩:=k13;rw [e1] at i13;replace i37:=i37.trans k37;obtain ⟨c0,c1,c2,c3,f0,f1,f2,f3,ltb⟩:=id bx;exact sw9 (by simp only [execOp,i13,i37];simp [go_sem,zeroE,c0,c1,c2,c3,f0,f1,f2,f3]) ⟨rfl,b,e1,hb,bx.fill _,Bl.set4 hu hb _ _ _ _⟩
  case fin =>
   intro vs vb u0 u hu hin hps;have a0:=hin 0 29 rfl;have a1:=hin 1 30 rfl;have a2:=hin 2 31 rfl;have a3:=hin 3 32 rfl;have a4:=hin 4 33 rfl;have a5:=hin 5 34 rfl;have a6:=hin 6 35 rfl;have a7:=hin 7 36 rfl;have a8:=hin 8 37 rfl;have a9:=hin 9 13 rfl;simp only [seval] at a0 a1 a2 a3 a4 a5 a6 a7 a8 a9 ⊢;rw [if_pos (by decide)] at hps;simp only [a0,a1,a2,a3,a4,a5,a6,a7,a8];obtain ⟨b13',eb,hb13,kc,hbu⟩:=hps;simp only [eb];obtain ⟨w5,rfl⟩:∃ w5,w5=u:=⟨_,rfl⟩;have b35:Bl w3 w5:=hbu;have b5:Bl W w5:=b3.trans hbu;have B5:Bl W w5:=b5;have b05:Bl W W:=Bl.refl _;have b15':Bl w1 w5:=b13.trans hbu;have lt13:w3.heap.size≤b13':=hb13;have lt12:=lt12;clear hin hu a0 a1 a2 a3 a4 a5 a6 a7 a8;go_wp2_with fail
   go_loopw [14] (fun v wr=>∃ i:Nat,v=.int .i64 i∧j0≤i∧i≤n∧RwZ 4 cellsN wr lo (.slice (some ⟨g,0,none⟩) N cap) (mk n n (partS kdN j0 i x t))∧RwZ 4 cellsN wr lo (.slice (some ⟨ge,0,none⟩) n ce) (linJ n (partE kdN j0 i x t))∧But (fun b=>b=g∨b=ge) w5 wr) (fun v _=>n-(intOf v).toNat)
   case atStart=>exact ⟨j0,rfl,Nat.le_refl _,by omega,by rw [partS_zero];exact H0.out.later B5,by rw [partE_zero];exact E0.out.later B5,But.refl _ _⟩
   case round =>
    obtain ⟨i,rfl,hji,hin,hr,he,bt⟩:=hrel;have HR:=hideP hr;have HE:=hideP he;clear hr he;have mb:MBox wr w.heap.size n n (some ⟨g,0,none⟩) N cap:=(m0.later b5).but bt (by have:=hglt;have:=hgelt;omega);by_cases hlt:i<n
    ·obtain ⟨a,q,e1,e2,hq1,hq3,hq5,hq6⟩:=place HD.out hlt hj0;rw [←HN.out] at hq5;have HPQ:=hideP e2;clear e1 e2;obtain ⟨y,hy⟩:∃ y,y=t.s i j0:=⟨_,rfl⟩;obtain ⟨ei,hei⟩:∃ y,y=t.e i:=⟨_,rfl⟩;obtain ⟨yd,hyd⟩:∃ z,z=mulE y dd:=⟨_,rfl⟩;obtain ⟨ec,hec⟩:∃ z,z=mulE ei cc:=⟨_,rfl⟩;obtain ⟨sn,hsn⟩:∃ z,z=subE yd ec:=⟨_,rfl⟩;obtain ⟨yx,hyx⟩:∃ z,z=mulE y x:=⟨_,rfl⟩;obtain ⟨en,hen⟩:∃ z,z=addE ei yx:=⟨_,rfl⟩;have HSNQ:=hideP (show sO kdN t.a x (t.s i j0) (t.e i)=sn from by rw [hsn,hyd,hec,hy,hei,HDD.out,HCCQ.out,HAV.out];rfl);have HENQ:=hideP (show kdN.add (t.e i) (kdN.mul (t.s i j0) x)=en from by rw [hen,hyx,hy,hei];rfl);have HEIQ:=hideP hei;have AT:=hideP (fun u (hu:Bl wr u)=>by have:=mAtN n n (some ⟨g,0,none⟩) N cap (partS kdN j0 i x t) u ⟨HD.out,HN.out,(HR.out.later hu).rw.q⟩ i j0 hlt hj0;rw [partS_at,←hy] at this;exact this);have HYD:=hideP (fun u=>by have:=emul_any y dd u;rw [←hyd] at this;exact this);have HEC:=hideP (fun u=>by have:=emul_any ei cc u;rw [←hec] at this;exact this);have HSN:=hideP (fun u=>by have:=esub_any yd ec u;rw [←hsn] at this;exact this);have HYX:=hideP (fun u=>by have:=emul_any y x u;rw [←hyx] at this;exact this);have HEN:=hideP (fun u=>by have:=eadd_any ei yx u;rw [←hen] at this;exact this);have HYQ:=hideP hy;clear hy hei hyd hec hsn hyx hen;obtain ⟨m0',m1',m2',_,_,_,_⟩:=id mb;go_wp2_with fail
     refine (AT.out _ (Bl.refl _)).mono ?_;rintro e w7 ⟨rfl,h7⟩;clear m0' m1' m2';obtain ⟨W7,hW7⟩:∃ W7,W7=w7.alloc (.cells #[.int .i64 y.v,.int .i64 y.l,.int .i64 y.h,.bool y.bad] 52):=⟨_,rfl⟩;have b7:Bl w7 W7:=by rw [hW7];exact (Bl.refl _).alloc _
     have ky7:Box W7 w7.heap.size y:=by rw [hW7];exact Box.new w7 y _
     have b7r:Bl wr W7:=h7.trans b7;have hgl7:g<w7.heap.size:=Nat.lt_of_lt_of_le HR.out.glt h7.size;have bt7:But (fun b=>b=g∨b=ge) w5 W7:=bt.trans (But.of_bl b7r);have km7:=mb.later b7r;have kw7:Box W7 (w.heap.size+1) x:=((kw.later b5).but bt (by have:=hglt;have:=hgelt;omega)).later b7r;have kd7:Box W7 b12 dd:=((kd.later b35).but bt (by have:=hglt;have:=hgelt;have:=lt12;omega)).later b7r;have kc7:Box W7 b13' cc:=(kc.but bt (by have:=hglt;have:=hgelt;have:=lt13;have:=b3.size;omega)).later b7r;have HR7:=hideP (HR.out.later b7r);have HE7:=hideP (HE.out.later b7r);have hgl:g<W7.heap.size:=HR7.out.glt;have hgel:ge<W7.heap.size:=HE7.out.glt;have bws:w.heap.size+1+1+1+1≤w5.heap.size:=by have:=(b05.trans b5).size;omega
     have CG:=hideP (show ∀ j u,(cellsN y)[j]?=some u→W7.cell? ⟨g,q*4+j,none⟩=some u from fun j u hu=>by
      obtain ⟨g',c',e,_,_,_,_,hc⟩:=HR7.out;cases e;exact hc q y (by rw [HPQ.out,mk_get _ hlt hj0,partS_at,HYQ.out]) j u hu)
     have FG:=hideP (show ∀ j,W7.frozen? ⟨g,j,none⟩=false from fun j=>by
      obtain ⟨g',c',e,_,_,_,hf,_⟩:=HR7.out;cases e;exact hf j)
     have CE:=hideP (show ∀ j u,(cellsN ei)[j]?=some u→W7.cell? ⟨ge,i*4+j,none⟩=some u from fun j u hu=>by
      obtain ⟨g',c',e,_,_,_,_,hc⟩:=HE7.out;simp only [Value.slice.injEq,Option.some.injEq,Addr.mk.injEq] at e;obtain ⟨⟨rfl,_⟩,_,rfl⟩:=e;exact hc i ei (by rw [linJ_get _ hlt,partE_at,HEIQ.out]) j u hu)
     have WA:IntKind.i64.wrap (a:Int)=a:=wrapS7 (by omega) (by have:=HD.out.lt;have:=HN.out;omega);have WQ:IntKind.i64.wrap (q:Int)=q:=wrapS7 (by omega) (by have:=HD.out.lt;have:=HN.out;omega);have HW7:=hideP hW7;clear hW7;go_wp2_with fail
     rw [←HW7.out]
     refine (wpIn_wide (n:=8)).1 (region_q fm [some 49,some 50,some 51,some 52,some 53,some 54,some 55,some 56,some 57,some 58,some 59,some 60,some 61,some 62,some 63,some 64,some 65,some 66,some 67,some 68,some 69,some 70,none] (fun _=>false) 22 (by kernel_rfl) (by rfl)
       (fun j v u=>match j with|0=>v=.pointer (some ⟨w.heap.size,2,none⟩)|1=>v=.slice (some ⟨g,0,none⟩) N cap|2=>v=.int .i64 i|3=>v=.pointer (some ⟨w.heap.size,1,none⟩)|4=>v=.int .i64 n|5=>v=.int .i64 a|6=>v=.int .i64 j0|7=>v=.int .i64 q|8=>v=enV y|9=>v=.iface 52 (enV y)|10=>v=enV dd|11=>v=enV yd|12=>v=.iface 52 (enV yd)|13=>v=.slice (some ⟨ge,0,none⟩) n ce|14=>v=.int .i64 i|15=>v=.pointer (some ⟨ge,i*4,none⟩)|16=>v=enV ei|17=>v=.iface 52 (enV ei)|18=>v=enV cc|19=>v=enV ec|20=>v=enV sn|21=>v=.pointer (some ⟨g,q*4,none⟩)|_=>False)
       (fun j v u u' _ h=>h) (fun vs u0 u=>u=u0.setCells g (q*4) (cellsN sn)) ?step ?still ?store ?fin)
     case step =>
      intro j o t act u ho hdt hpu hsz hu hfr hin;have hj:j<23:=l9 ho;obtain ⟨m0,m1,m2,_,_,_,_⟩:=km7.later hu;have ee0:u.cell? ⟨ge,i*4,none⟩=some (.int .i64 ei.v):=(bl_cell hu _ _ hgel).trans (CE.out 0 _ rfl);have ee1:u.cell? ⟨ge,i*4+1,none⟩=some (.int .i64 ei.l):=(bl_cell hu _ _ hgel).trans (CE.out 1 _ rfl);have ee2:u.cell? ⟨ge,i*4+2,none⟩=some (.int .i64 ei.h):=(bl_cell hu _ _ hgel).trans (CE.out 2 _ rfl);have ee3:u.cell? ⟨ge,i*4+3,none⟩=some (.bool ei.bad):=(bl_cell hu _ _ hgel).trans (CE.out 3 _ rfl);have gg0:u.cell? ⟨g,q*4,none⟩=some (.int .i64 y.v):=(bl_cell hu _ _ hgl).trans (CG.out 0 _ rfl);have fg0:u.frozen? ⟨g,q*4,none⟩=false:=(bl_froz hu _ _ hgl).trans (FG.out _);have gg1:u.cell? ⟨g,q*4+1,none⟩=some (.int .i64 y.l):=(bl_cell hu _ _ hgl).trans (CG.out 1 _ rfl);have fg1:u.frozen? ⟨g,q*4+1,none⟩=false:=(bl_froz hu _ _ hgl).trans (FG.out _);have gg2:u.cell? ⟨g,q*4+2,none⟩=some (.int .i64 y.h):=(bl_cell hu _ _ hgl).trans (CG.out 2 _ rfl);have fg2:u.frozen? ⟨g,q*4+2,none⟩=false:=(bl_froz hu _ _ hgl).trans (FG.out _);have gg3:u.cell? ⟨g,q*4+3,none⟩=some (.bool y.bad):=(bl_cell hu _ _ hgl).trans (CG.out 3 _ rfl);have fg3:u.frozen? ⟨g,q*4+3,none⟩=false:=(bl_froz hu _ _ hgl).trans (FG.out _);rcases (by omega:j=0∨j=1∨j=2∨j=3∨j=4∨j=5∨j=6∨j=7∨j=8∨j=9∨j=10∨j=11∨j=12∨j=13∨j=14∨j=15∨j=16∨j=17∨j=18∨j=19∨j=20∨j=21∨j=22) with rfl|rfl|rfl|rfl|rfl|rfl|rfl|rfl|rfl|rfl|rfl|rfl|rfl|rfl|rfl|rfl|rfl|rfl|rfl|rfl|rfl|rfl|rfl
      ·obtain ⟨rfl,rfl⟩:=o7 ho hdt;have i5:_=Value.pointer (some ⟨w.heap.size,0,none⟩):=hfr 5 (by decide);exact pl9 (r:=by simp only [seval,i5];simp [go_sem,m0,m1,m2])
      ·obtain ⟨rfl,rfl⟩:=o7 ho hdt;have i49:_=Value.pointer (some ⟨w.heap.size,2,none⟩):=hin ⟨0,.data⟩ (by simp) rfl 49 rfl;exact pl9 (r:=by simp only [seval,i49];simp [go_sem,m0,m1,m2])
      ·obtain ⟨rfl,rfl⟩:=o7 ho hdt;have i14:_=Value.int .i64 i:=hfr 14 (by decide);exact pl9 (r:=by simp only [seval,i14];simp [go_sem,m0])
      ·obtain ⟨rfl,rfl⟩:=o7 ho hdt;have i5:_=Value.pointer (some ⟨w.heap.size,0,none⟩):=hfr 5 (by decide);exact pl9 (r:=by simp only [seval,i5];simp [go_sem,m0,m1,m2])
      ·obtain ⟨rfl,rfl⟩:=o7 ho hdt;have i52:_=Value.pointer (some ⟨w.heap.size,1,none⟩):=hin ⟨3,.data⟩ (by simp) rfl 52 rfl;exact pl9 (r:=by simp only [seval,i52];simp [go_sem,m0,m1,m2])
      ·obtain ⟨rfl,rfl⟩:=o7 ho hdt;have i51:_=Value.int .i64 i:=hin ⟨2,.data⟩ (by simp) rfl 51 rfl;have i53:_=Value.int .i64 n:=hin ⟨4,.data⟩ (by simp) rfl 53 rfl;exact pl9 (r:=by simp only [seval,i51,i53];simp [go_sem,hq1,WA])
      ·obtain ⟨rfl,rfl⟩:=o7 ho hdt;have i2:_=Value.int .i64 j0:=hfr 2 (by decide);exact pl9 (r:=by simp only [seval,i2];simp [go_sem,m0])
      ·obtain ⟨rfl,rfl⟩:=o7 ho hdt;have i54:_=Value.int .i64 a:=hin ⟨5,.data⟩ (by simp) rfl 54 rfl;have i55:_=Value.int .i64 j0:=hin ⟨6,.data⟩ (by simp) rfl 55 rfl;exact pl9 (r:=by simp only [seval,i54,i55];simp [go_sem,hq3,WQ])
      ·obtain ⟨rfl,rfl⟩:=o7 ho hdt;have i15:_=Value.pointer (some ⟨w7.heap.size,0,none⟩):=hfr 15 (by decide);obtain ⟨c0,c1,c2,c3,f0,f1,f2,f3,_⟩:=ky7.later hu;exact pl9 (r:=by simp only [seval,i15];simp [go_sem,c0,c1,c2,c3])
      ·obtain ⟨rfl,rfl⟩:=o7 ho hdt;have i57:_=enV y:=hin ⟨8,.data⟩ (by simp) rfl 57 rfl;exact pl9 (r:=by simp only [seval,i57];simp [go_sem])
      ·obtain ⟨rfl,rfl⟩:=o7 ho hdt;have i12:_=Value.pointer (some ⟨b12,0,none⟩):=hfr 12 (by decide);obtain ⟨c0,c1,c2,c3,f0,f1,f2,f3,_⟩:=kd7.later hu;exact pl9 (r:=by simp only [seval,i12];simp [go_sem,c0,c1,c2,c3])
      ·obtain ⟨rfl,rfl⟩:=o7 ho hdt;have i58:_=Value.iface 52 (enV y):=hin ⟨9,.data⟩ (by simp) rfl 58 rfl;have i59:_=enV dd:=hin ⟨10,.data⟩ (by simp) rfl 59 rfl;have iv:=Tryz.mMulN;refine ew9 204 #[enV y,enV dd] (by simp only [seval,i58,i59];simp [invoke,iv,egM,Result.andThen,go_sem]) (HYD.out u) ?_;rintro e w' ⟨rfl,hb⟩;exact ⟨_,rfl,_,rfl,rfl,hb⟩
      ·obtain ⟨rfl,rfl⟩:=o7 ho hdt;have i60:_=enV yd:=hin ⟨11,.data⟩ (by simp) rfl 60 rfl;exact pl9 (r:=by simp only [seval,i60];simp [go_sem])
      ·obtain ⟨rfl,rfl⟩:=o7 ho hdt;have i1:_=Value.slice (some ⟨ge,0,none⟩) n ce:=hfr 1 (by decide);exact pl9 (r:=by simp only [seval,i1];simp [go_sem,m0])
      ·obtain ⟨rfl,rfl⟩:=o7 ho hdt;have i14:_=Value.int .i64 i:=hfr 14 (by decide);exact pl9 (r:=by simp only [seval,i14];simp [go_sem,m0])
      ·obtain ⟨rfl,rfl⟩:=o7 ho hdt;have i62:_=Value.slice (some ⟨ge,0,none⟩) n ce:=hin ⟨13,.data⟩ (by simp) rfl 62 rfl;have i63:_=Value.int .i64 i:=hin ⟨14,.data⟩ (by simp) rfl 63 rfl;exact pl9 (r:=by simp only [seval,i62,i63];simp [go_sem,hlt,ee0,ee1,ee2,ee3])
      ·obtain ⟨rfl,rfl⟩:=o7 ho hdt;have i64:_=Value.pointer (some ⟨ge,i*4,none⟩):=hin ⟨15,.data⟩ (by simp) rfl 64 rfl;exact pl9 (r:=by simp only [seval,i64];simp [go_sem,ee0,ee1,ee2,ee3])
      ·obtain ⟨rfl,rfl⟩:=o7 ho hdt;have i65:_=enV ei:=hin ⟨16,.data⟩ (by simp) rfl 65 rfl;exact pl9 (r:=by simp only [seval,i65];simp [go_sem])
      ·obtain ⟨rfl,rfl⟩:=o7 ho hdt;have i13:_=Value.pointer (some ⟨b13',0,none⟩):=hfr 13 (by decide);obtain ⟨c0,c1,c2,c3,f0,f1,f2,f3,_⟩:=kc7.later hu;exact pl9 (r:=by simp only [seval,i13];simp [go_sem,c0,c1,c2,c3])
      ·obtain ⟨rfl,rfl⟩:=o7 ho hdt;have i66:_=Value.iface 52 (enV ei):=hin ⟨17,.data⟩ (by simp) rfl 66 rfl;have i67:_=enV cc:=hin ⟨18,.data⟩ (by simp) rfl 67 rfl;have iv:=Tryz.mMulN;refine ew9 204 #[enV ei,enV cc] (by simp only [seval,i66,i67];simp [invoke,iv,egM,Result.andThen,go_sem]) (HEC.out u) ?_;rintro e w' ⟨rfl,hb⟩;exact ⟨_,rfl,_,rfl,rfl,hb⟩
      ·obtain ⟨rfl,rfl⟩:=o7 ho hdt;have i61:_=Value.iface 52 (enV yd):=hin ⟨12,.data⟩ (by simp) rfl 61 rfl;have i68:_=enV ec:=hin ⟨19,.data⟩ (by simp) rfl 68 rfl;have iv:=Tryz.mSubN;refine ew9 208 #[enV yd,enV ec] (by simp only [seval,i61,i68];simp [invoke,iv,egS,Result.andThen,go_sem]) (HSN.out u) ?_;rintro e w' ⟨rfl,hb⟩;exact ⟨_,rfl,_,rfl,rfl,hb⟩
      ·obtain ⟨rfl,rfl⟩:=o7 ho hdt;have i50:_=Value.slice (some ⟨g,0,none⟩) N cap:=hin ⟨1,.data⟩ (by simp) rfl 50 rfl;have i56:_=Value.int .i64 q:=hin ⟨7,.data⟩ (by simp) rfl 56 rfl;exact pl9 (r:=by simp only [seval,i50,i56];simp [go_sem,hq5,gg0,fg0,gg1,fg1,gg2,fg2,gg3,fg3])
      ·obtain rfl:=o9 ho;cases hdt
     case still =>
      intro j o t act u0 u ho hdt hpu;cases hpu
     case store =>
      intro o act u vs ho hsz hu hfr hin;obtain rfl:=o9 ho;obtain ⟨i69,k69⟩:act.eval (.tmp (69:Nat))=vs 20∧((vs 20)=enV sn):=hin 20 69 rfl rfl;obtain ⟨i70,k70⟩:act.eval (.tmp (70:Nat))=vs 21∧((vs 21)=.pointer (some ⟨g,q*4,none⟩)):=hin 21 70 rfl rfl;have gg0:u.cell? ⟨g,q*4,none⟩=some (.int .i64 y.v):=(bl_cell hu _ _ hgl).trans (CG.out 0 _ rfl);have fg0:u.frozen? ⟨g,q*4,none⟩=false:=(bl_froz hu _ _ hgl).trans (FG.out _);have gg1:u.cell? ⟨g,q*4+1,none⟩=some (.int .i64 y.l):=(bl_cell hu _ _ hgl).trans (CG.out 1 _ rfl);have fg1:u.frozen? ⟨g,q*4+1,none⟩=false:=(bl_froz hu _ _ hgl).trans (FG.out _);have gg2:u.cell? ⟨g,q*4+2,none⟩=some (.int .i64 y.h):=(bl_cell hu _ _ hgl).trans (CG.out 2 _ rfl);have fg2:u.frozen? ⟨g,q*4+2,none⟩=false:=(bl_froz hu _ _ hgl).trans (FG.out _);have gg3:u.cell? ⟨g,q*4+3,none⟩=some (.bool y.bad):=(bl_cell hu _ _ hgl).trans (CG.out 3 _ rfl);have fg3:u.frozen? ⟨g,q*4+3,none⟩=false:=(bl_froz hu _ _ hgl).trans (FG.out _);replace i70:=i70.trans k70;replace i69:=i69.trans k69;exact sw9 (by simp only [execOp,i70,i69];simp [go_sem,gg0,fg0,gg1,fg1,gg2,fg2,gg3,fg3];rfl) ⟨rfl,rfl⟩
     case fin =>
      intro vs vb u0 u hu hin hps;have a0:=hin 0 49 rfl;have a1:=hin 1 50 rfl;have a2:=hin 2 51 rfl;have a3:=hin 3 52 rfl;have a4:=hin 4 53 rfl;have a5:=hin 5 54 rfl;have a6:=hin 6 55 rfl;have a7:=hin 7 56 rfl;have a8:=hin 8 57 rfl;have a9:=hin 9 58 rfl;have a10:=hin 10 59 rfl;have a11:=hin 11 60 rfl;have a12:=hin 12 61 rfl;have a13:=hin 13 62 rfl;have a14:=hin 14 63 rfl;have a15:=hin 15 64 rfl;have a16:=hin 16 65 rfl;have a17:=hin 17 66 rfl;have a18:=hin 18 67 rfl;have a19:=hin 19 68 rfl;have a20:=hin 20 69 rfl;have a21:=hin 21 70 rfl;simp only [seval] at a0 a1 a2 a3 a4 a5 a6 a7 a8 a9 a10 a11 a12 a13 a14 a15 a16 a17 a18 a19 a20 a21 ⊢;rw [if_pos (by decide)] at hps;simp only [a0,a1,a2,a3,a4,a5,a6,a7,a8,a9,a10,a11,a12,a13,a14,a15,a16,a17,a18,a19,a20,a21];have hq':q<(mk n n (partS kdN j0 i x t)).length:=by rw [mk_len,←HN.out];exact hq5
      have PUT:=hideP ((HR7.out.later hu).putAt cellsN_len hq' sn);rw [HPQ.out,mk_put hlt hj0,←HPQ.out,←hps] at PUT;obtain ⟨w8,hw8⟩:∃ w8,w8=u:=⟨_,rfl⟩;subst hw8;have HS8:=hideP (show RwZ 4 cellsN w8 lo (.slice (some ⟨g,0,none⟩) N cap) (mk n n (partS kdN j0 (i+1) x t)) from by rw [partS_next kdN hji,HSNQ.out];exact PUT.out);have HE8:=hideP (show RwZ 4 cellsN w8 lo (.slice (some ⟨ge,0,none⟩) n ce) (linJ n (partE kdN j0 i x t)) from by rw [hps];exact (HE7.out.later hu).but (S:=fun b=>b=g) (but_setCells (S:=fun b=>b=g) (b:=g) rfl _ _ _ _ (But.refl _ _)) (fun b hb=>by cases hb;exact fun e=>hne e.symm));have bt78:But (fun b=>b=g) W7 w8:=by rw [hps];exact (But.of_bl hu).trans (but_setCells (S:=fun b=>b=g) (b:=g) rfl _ _ _ _ (But.refl _ _))
      have bt8:But (fun b=>b=g∨b=ge) w5 w8:=bt7.trans (bt78.mono fun _ h=>.inl h);have kw8:Box w8 (w.heap.size+1) x:=kw7.but bt78 (by have:=hglt;have:=bws;omega);have ky8:Box w8 w7.heap.size y:=ky7.but bt78 (by have:=hgl7;omega);have CE8:=hideP (show ∀ j u,(cellsN ei)[j]?=some u→w8.cell? ⟨ge,i*4+j,none⟩=some u from fun j u hu=>by
       obtain ⟨g',c',e,_,_,_,_,hc⟩:=HE8.out;simp only [Value.slice.injEq,Option.some.injEq,Addr.mk.injEq] at e;obtain ⟨⟨rfl,_⟩,_,rfl⟩:=e;exact hc i ei (by rw [linJ_get _ hlt,partE_at,HEIQ.out]) j u hu)
      have FE8:=hideP (show ∀ j,w8.frozen? ⟨ge,j,none⟩=false from fun j=>by
       obtain ⟨g',c',e,_,_,_,hf,_⟩:=HE8.out;simp only [Value.slice.injEq,Option.some.injEq,Addr.mk.injEq] at e;obtain ⟨⟨rfl,_⟩,_,rfl⟩:=e;exact hf j)
      have hgel8:ge<w8.heap.size:=HE8.out.glt;clear hps hu PUT CE FG CG km7 kd7 kc7 kw7 ky7;go_wp2_with fail
      refine (wpIn_wide (n:=8)).1 (region_q fm [some 71,some 72,some 73,some 74,some 75,some 76,some 77,some 78,some 79,some 80,some 81,some 82,some 83,none] (fun _=>false) 13 (by kernel_rfl) (by rfl)
           (fun j v u=>match j with|0=>v=.slice (some ⟨ge,0,none⟩) n ce|1=>v=.int .i64 i|2=>v=.slice (some ⟨ge,0,none⟩) n ce|3=>v=.int .i64 i|4=>v=.pointer (some ⟨ge,i*4,none⟩)|5=>v=enV ei|6=>v=.iface 52 (enV ei)|7=>v=enV y|8=>v=.iface 52 (enV y)|9=>v=enV x|10=>v=enV yx|11=>v=enV en|12=>v=.pointer (some ⟨ge,i*4,none⟩)|_=>False)
           (fun j v u u' _ h=>h) (fun vs u0 u=>u=u0.setCells ge (i*4) (cellsN en)) ?step ?still ?store ?fin)
      case step =>
       intro j o t act u ho hdt hpu hsz hu hfr hin;have hj:j<14:=l9 ho;have ee0:u.cell? ⟨ge,i*4,none⟩=some (.int .i64 ei.v):=(bl_cell hu _ _ hgel8).trans (CE8.out 0 _ rfl);have fe0:u.frozen? ⟨ge,i*4,none⟩=false:=(bl_froz hu _ _ hgel8).trans (FE8.out _);have ee1:u.cell? ⟨ge,i*4+1,none⟩=some (.int .i64 ei.l):=(bl_cell hu _ _ hgel8).trans (CE8.out 1 _ rfl);have fe1:u.frozen? ⟨ge,i*4+1,none⟩=false:=(bl_froz hu _ _ hgel8).trans (FE8.out _);have ee2:u.cell? ⟨ge,i*4+2,none⟩=some (.int .i64 ei.h):=(bl_cell hu _ _ hgel8).trans (CE8.out 2 _ rfl);have fe2:u.frozen? ⟨ge,i*4+2,none⟩=false:=(bl_froz hu _ _ hgel8).trans (FE8.out _);have ee3:u.cell? ⟨ge,i*4+3,none⟩=some (.bool ei.bad):=(bl_cell hu _ _ hgel8).trans (CE8.out 3 _ rfl);have fe3:u.frozen? ⟨ge,i*4+3,none⟩=false:=(bl_froz hu _ _ hgel8).trans (FE8.out _);rcases (by omega:j=0∨j=1∨j=2∨j=3∨j=4∨j=5∨j=6∨j=7∨j=8∨j=9∨j=10∨j=11∨j=12∨j=13) with rfl|rfl|rfl|rfl|rfl|rfl|rfl|rfl|rfl|rfl|rfl|rfl|rfl|rfl
       ·obtain ⟨rfl,rfl⟩:=o7 ho hdt;have i1:_=Value.slice (some ⟨ge,0,none⟩) n ce:=hfr 1 (by decide);exact pl9 (r:=by simp only [seval,i1];simp [go_sem,hlt])
       ·obtain ⟨rfl,rfl⟩:=o7 ho hdt;have i14:_=Value.int .i64 i:=hfr 14 (by decide);exact pl9 (r:=by simp only [seval,i14];simp [go_sem,hlt])
       ·obtain ⟨rfl,rfl⟩:=o7 ho hdt;have i1:_=Value.slice (some ⟨ge,0,none⟩) n ce:=hfr 1 (by decide);exact pl9 (r:=by simp only [seval,i1];simp [go_sem,hlt])
       ·obtain ⟨rfl,rfl⟩:=o7 ho hdt;have i14:_=Value.int .i64 i:=hfr 14 (by decide);exact pl9 (r:=by simp only [seval,i14];simp [go_sem,hlt])
       ·obtain ⟨rfl,rfl⟩:=o7 ho hdt;have i73:_=Value.slice (some ⟨ge,0,none⟩) n ce:=hin ⟨2,.data⟩ (by simp) rfl 73 rfl;have i74:_=Value.int .i64 i:=hin ⟨3,.data⟩ (by simp) rfl 74 rfl;exact pl9 (r:=by simp only [seval,i73,i74];simp [go_sem,hlt,ee0,ee1,ee2,ee3])
       ·obtain ⟨rfl,rfl⟩:=o7 ho hdt;have i75:_=Value.pointer (some ⟨ge,i*4,none⟩):=hin ⟨4,.data⟩ (by simp) rfl 75 rfl;exact pl9 (r:=by simp only [seval,i75];simp [go_sem,ee0,ee1,ee2,ee3])
       ·obtain ⟨rfl,rfl⟩:=o7 ho hdt;have i76:_=enV ei:=hin ⟨5,.data⟩ (by simp) rfl 76 rfl;exact pl9 (r:=by simp only [seval,i76];simp [go_sem])
       ·obtain ⟨rfl,rfl⟩:=o7 ho hdt;have i15:_=Value.pointer (some ⟨w7.heap.size,0,none⟩):=hfr 15 (by decide);obtain ⟨c0,c1,c2,c3,f0,f1,f2,f3,_⟩:=ky8.later hu;exact pl9 (r:=by simp only [seval,i15];simp [go_sem,c0,c1,c2,c3])
       ·obtain ⟨rfl,rfl⟩:=o7 ho hdt;have i78:_=enV y:=hin ⟨7,.data⟩ (by simp) rfl 78 rfl;exact pl9 (r:=by simp only [seval,i78];simp [go_sem])
       ·obtain ⟨rfl,rfl⟩:=o7 ho hdt;have i8:_=Value.pointer (some ⟨w.heap.size+1,0,none⟩):=hfr 8 (by decide);obtain ⟨c0,c1,c2,c3,f0,f1,f2,f3,_⟩:=kw8.later hu;exact pl9 (r:=by simp only [seval,i8];simp [go_sem,c0,c1,c2,c3])
       ·obtain ⟨rfl,rfl⟩:=o7 ho hdt;have i79:_=Value.iface 52 (enV y):=hin ⟨8,.data⟩ (by simp) rfl 79 rfl;have i80:_=enV x:=hin ⟨9,.data⟩ (by simp) rfl 80 rfl;have iv:=Tryz.mMulN;refine ew9 204 #[enV y,enV x] (by simp only [seval,i79,i80];simp [invoke,iv,egM,Result.andThen,go_sem]) (HYX.out u) ?_;rintro e w' ⟨rfl,hb⟩;exact ⟨_,rfl,_,rfl,rfl,hb⟩
       ·obtain ⟨rfl,rfl⟩:=o7 ho hdt;have i77:_=Value.iface 52 (enV ei):=hin ⟨6,.data⟩ (by simp) rfl 77 rfl;have i81:_=enV yx:=hin ⟨10,.data⟩ (by simp) rfl 81 rfl;have iv:=Tryz.mAddN;refine ew9 202 #[enV ei,enV yx] (by simp only [seval,i77,i81];simp [invoke,iv,egA,Result.andThen,go_sem]) (HEN.out u) ?_;rintro e w' ⟨rfl,hb⟩;exact ⟨_,rfl,_,rfl,rfl,hb⟩
       ·obtain ⟨rfl,rfl⟩:=o7 ho hdt;have i71:_=Value.slice (some ⟨ge,0,none⟩) n ce:=hin ⟨0,.data⟩ (by simp) rfl 71 rfl;have i72:_=Value.int .i64 i:=hin ⟨1,.data⟩ (by simp) rfl 72 rfl;exact pl9 (r:=by simp only [seval,i71,i72];simp [go_sem,hlt,ee0,ee1,ee2,ee3])
       ·obtain rfl:=o9 ho;cases hdt
      case still =>
       intro j o t act u0 u ho hdt hpu;cases hpu
      case store =>
       intro o act u vs ho hsz hu hfr hin;obtain rfl:=o9 ho;obtain ⟨i82,k82⟩:act.eval (.tmp (82:Nat))=vs 11∧((vs 11)=enV en):=hin 11 82 rfl rfl;obtain ⟨i83,k83⟩:act.eval (.tmp (83:Nat))=vs 12∧((vs 12)=.pointer (some ⟨ge,i*4,none⟩)):=hin 12 83 rfl rfl;have ee0:u.cell? ⟨ge,i*4,none⟩=some (.int .i64 ei.v):=(bl_cell hu _ _ hgel8).trans (CE8.out 0 _ rfl);have fe0:u.frozen? ⟨ge,i*4,none⟩=false:=(bl_froz hu _ _ hgel8).trans (FE8.out _);have ee1:u.cell? ⟨ge,i*4+1,none⟩=some (.int .i64 ei.l):=(bl_cell hu _ _ hgel8).trans (CE8.out 1 _ rfl);have fe1:u.frozen? ⟨ge,i*4+1,none⟩=false:=(bl_froz hu _ _ hgel8).trans (FE8.out _);have ee2:u.cell? ⟨ge,i*4+2,none⟩=some (.int .i64 ei.h):=(bl_cell hu _ _ hgel8).trans (CE8.out 2 _ rfl);have fe2:u.frozen? ⟨ge,i*4+2,none⟩=false:=(bl_froz hu _ _ hgel8).trans (FE8.out _);have ee3:u.cell? ⟨ge,i*4+3,none⟩=some (.bool ei.bad):=(bl_cell hu _ _ hgel8).trans (CE8.out 3 _ rfl);have fe3:u.frozen? ⟨ge,i*4+3,none⟩=false:=(bl_froz hu _ _ hgel8).trans (FE8.out _);replace i83:=i83.trans k83;replace i82:=i82.trans k82;exact sw9 (by simp only [execOp,i83,i82];simp [go_sem,ee0,fe0,ee1,fe1,ee2,fe2,ee3,fe3];rfl) ⟨rfl,rfl⟩
      case fin =>
       intro vs vb u0 u hu hin hps;have a0:=hin 0 71 rfl;have a1:=hin 1 72 rfl;have a2:=hin 2 73 rfl;have a3:=hin 3 74 rfl;have a4:=hin 4 75 rfl;have a5:=hin 5 76 rfl;have a6:=hin 6 77 rfl;have a7:=hin 7 78 rfl;have a8:=hin 8 79 rfl;have a9:=hin 9 80 rfl;have a10:=hin 10 81 rfl;have a11:=hin 11 82 rfl;have a12:=hin 12 83 rfl;simp only [seval] at a0 a1 a2 a3 a4 a5 a6 a7 a8 a9 a10 a11 a12 ⊢;rw [if_pos (by decide)] at hps;simp only [a0,a1,a2,a3,a4,a5,a6,a7,a8,a9,a10,a11,a12];have hie:i<(linJ n (partE kdN j0 i x t)).length:=by rw [linJ_len];exact hlt
       have PUT9:=hideP ((HE8.out.later hu).putAt cellsN_len hie en);rw [linJ_set9N _ hlt,←hps] at PUT9;have HS9:=hideP (show RwZ 4 cellsN u lo (.slice (some ⟨g,0,none⟩) N cap) (mk n n (partS kdN j0 (i+1) x t)) from by rw [hps];exact (HS8.out.later hu).but (S:=fun b=>b=ge) (but_setCells (S:=fun b=>b=ge) (b:=ge) rfl _ _ _ _ (But.refl _ _)) (fun b hb=>by cases hb;exact hne));have bt9:But (fun b=>b=g∨b=ge) w5 u:=by rw [hps];exact bt8.trans ((But.of_bl hu).trans ((but_setCells (S:=fun b=>b=ge) (b:=ge) rfl _ _ _ _ (But.refl _ _)).mono fun _ h=>.inr h))
       clear hps hu;go_wp2;go_roundw
       case rel=>exact ⟨i+1,by simp,by omega,by omega,HS9.out,by rw [show partE kdN j0 (i+1) x t=fun r=>if r=i then en else partE kdN j0 i x t r from by funext r;rw [partE_next kdN hji,HENQ.out]];exact PUT9.out,bt9⟩
       case measure=>simp [intOf];omega
    ·obtain rfl:i=n:=by omega
     obtain ⟨m0',m1',m2',_,_,_,_⟩:=id mb;have kb9:Box wr b11 bb:=(kb.later b15').but bt (by have:=hglt;have:=hgelt;have:=lt11;omega);have kz9:Box wr (w.heap.size+1+1+1) zeroE:=(kz.later b5).but bt (by have:=hglt;have:=hgelt;omega);obtain ⟨c0,c1,c2,c3,f0,f1,f2,f3,_⟩:=id kb9;obtain ⟨d0,d1,d2,d3,g0,g1,g2,g3,_⟩:=id kz9;go_wp2;simp [bodyPost,results,Tryz.results119,go_sem,c0,c1,c2,c3,f0,f1,f2,f3,d0,d1,d2,d3,g0,g1,g2,g3];exact ⟨HR.out.but (butRN _ _ _ _ _ _) (fun b hb=>by cases hb;show ¬ g=w.heap.size+1+1+1;omega),HE.out.but (butRN _ _ _ _ _ _) (fun b hb=>by cases hb;show ¬ ge=w.heap.size+1+1+1;omega),((But.of_bl (b0.trans b5)).trans bt).put (butRN _ _ _ _ _ _) (by omega)⟩
attribute [local go_sem] Oper.semAt_some
structure KeptBN (w:World) (B:Nat) (p:Option Addr) (n cap:Nat) (f:Nat→En):Prop where
 box:w.cell? ⟨B,0,none⟩=some (.slice p n cap)
 row:Rw 4 cellsN w (.slice p n cap) (linJ n f)
def zsBN (n:Nat) (f:Nat→En) (t:Nat):List (Nat×En):=(List.range t).map fun s=>(n-1-s,f (n-1-s))
theorem zsB_nextN (n:Nat) (f:Nat→En) (t:Nat):zsBN n f (t+1)=zsBN n f t++[(n-1-t,f (n-1-t))]:=by
 unfold zsBN;rw [List.range_succ,List.map_append];rfl
theorem rq_atN {w:World} {p:Option Addr} {n cap:Nat} {f:Nat→En} (h:Rq 4 cellsN w (.slice p n cap) (linJ n f)) {i:Nat} (hi:i<n):∃ b o,p=some ⟨b,o,none⟩∧∀ j v,(cellsN (f i))[j]?=some v→w.cell? ⟨b,o+i*4+j,none⟩=some v:=by
 rcases h with ⟨p',cap',e,hx,_⟩|⟨b,o,cap',e,hc,hb,hx⟩
 ·have:=congrArg List.length hx;rw [linJ_len] at this;simp at this;omega
 ·simp only [Value.slice.injEq] at e;exact ⟨b,o,e.1,fun j v hj=>hx i _ (linJ_get _ hi) j v hj⟩
set_option maxRecDepth 100000 in
set_option maxHeartbeats 2000000 in
theorem iterBN (m l B n:Nat) (p:Option Addr) (cap:Nat) (f:Nat→En) (Kp:World→World→Prop) (hKp:∀ {A C:World},KeptBN A B p n cap f→Kp A C→KeptBN C B p n cap f) (J Jx:List (Nat×En)→World→Prop) (W:World) (hn:n≤1000)
  (hY:∀ pre x W0 W1,J pre W0→(W1=W0∧pre=zsBN n f pre.length∧x=(n-1-pre.length,f (n-1-pre.length)))→pre.length<n→YieldAt Fence.wide (m-1) Tryz.prog l #[.int .i64 x.1,enV x.2] W1 fun e W' =>
   (e=.returned (.bool true)∧J (pre++[x]) W'∧Kp W1 W')∨(e=.returned (.bool false)∧Jx (pre++[x]) W'))
  (hP:KeptBN W B p n cap f) (h0:J [] W) :
  CallsIn Fence.wide m Tryz.prog 143 #[.func (.yield l) #[] #[],.pointer (some ⟨B,0,none⟩)] W fun e W'=>(∃ v,e=.returned v) ∧
   ((∃ zs:List (Nat×En),zs=zsBN n f n∧J zs W')∨(∃ pre:List (Nat×En),pre.length≤n∧Jx pre W')):=by
 have HP:=hideP hP;have c0:=hP.box;clear hP;refine callsIn_of_wp Tryz.func143 rfl trivial ?_ rfl;simp only [Tryz.ntmps143,List.size_toArray,List.length_cons,List.length_nil,Nat.reduceAdd,Nat.reduceSub,Array.replicate_succ,Array.replicate_zero,List.push_toArray,List.append_toArray,List.nil_append,List.cons_append];have WN:IntKind.i64.wrap ((n:Int)-1)=(n:Int)-1:=wrapS7 (by omega) (by omega)
 gi_wp2
 clear c0
 gi_loopw [3] (fun i wr=>∃ t:Nat,t≤n∧i=.int .i64 ((n:Int)-1-t)∧J (zsBN n f t) wr∧KeptBN wr B p n cap f) (fun i _=>(intOf i+1).toNat)
 case atStart=>exact ⟨0,Nat.zero_le _,by simp,h0,HP.out⟩
 case round =>
  obtain ⟨t,ht,rfl,hJs,hk⟩:=hrel;have HK:=hideP hk;clear hk;by_cases hlt:t<n
  ·obtain ⟨i,hi⟩:∃ i:Nat,i=n-1-t:=⟨_,rfl⟩;have e1:(n:Int)-1-t=(i:Int):=by omega
   have e2:IntKind.i64.wrap ((i:Int)-1)=(i:Int)-1:=wrapS7 (by omega) (by omega);have hin:i<n:=by omega
   have hge:(i:Int)≥0:=by omega
   rw [e1];obtain ⟨b,o,rfl,CX⟩:=rq_atN HK.out.row.q hin;obtain ⟨y,hy⟩:∃ y,y=f i:=⟨_,rfl⟩;rw [←hy] at CX;have x0:wr.cell? ⟨b,o+i*4,none⟩=some (.int .i64 y.v):=by simpa using CX 0 _ rfl
   have x1:wr.cell? ⟨b,o+i*4+1,none⟩=some (.int .i64 y.l):=by simpa using CX 1 _ rfl
   have x2:wr.cell? ⟨b,o+i*4+2,none⟩=some (.int .i64 y.h):=by simpa using CX 2 _ rfl
   have x3:wr.cell? ⟨b,o+i*4+3,none⟩=some (.bool y.bad):=by simpa using CX 3 _ rfl
   have c0:=HK.out.box;have hlen:(zsBN n f t).length=t:=by simp [zsBN]
   obtain ⟨fn,tmps,assign,body,hyd,hR2⟩:=hY (zsBN n f t) (i,y) wr wr hJs ⟨rfl,by rw [hlen],by rw [hlen,←hi,hy]⟩ (by omega);dsimp only at hyd;have hR3:RoundIn Fence.wide (m-1) Tryz.prog l fn tmps assign body wr fun e W'=>∃ r:Bool,e=.returned (.bool r)∧((r=true∧J (zsBN n f (t+1)) W'∧Kp wr W')∨(r=false∧Jx (zsBN n f (t+1)) W')):=by
    refine hR2.mono ?_;rw [zsB_nextN,←hi,←hy];rintro e W' (⟨rfl,h1,h2⟩|⟨rfl,h1⟩)
    ·exact ⟨true,rfl,.inl ⟨rfl,h1,h2⟩⟩
    ·exact ⟨false,rfl,.inr ⟨rfl,h1⟩⟩
   have HI:=hideP hi;clear CX hR2 hy e1 hi
   gi_wp2_with fail
   refine ⟨fun h=>(by cases h),?_⟩;refine hR3.mono ?_;rintro e W3 ⟨r,rfl,hr⟩;clear c0 x0 x1 x2 x3 hR3 hyd;rcases hr with ⟨rfl,hJ3,hk3⟩|⟨rfl,hJx3⟩
   ·have HK3:=hideP (hKp HK.out hk3)
    gi_wp2
    go_roundw
    case rel=>exact ⟨t+1,by omega,by first|rfl|(congr 1;have:=HI.out;omega),hJ3,HK3.out⟩
    case measure=>simp [intOf]<;>omega
   ·gi_wp2
    refine bodyPost_ret (results_none rfl _ _ _) rfl ?_;exact ⟨⟨_,rfl⟩,.inr ⟨_,by simp [zsBN]<;>omega,hJx3⟩⟩
  ·obtain rfl:t=n:=by omega
   have e1:(t:Int)-1-t=-1:=by omega
   rw [e1];have HJ:=hideP hJs;clear hJs
   gi_wp2
   go_end0
   exact ⟨⟨_,rfl⟩,.inl ⟨_,rfl,HJ.out⟩⟩
theorem seqBN (m B n:Nat) (p:Option Addr) (cap:Nat) (f:Nat→En) (Kp:World→World→Prop) (hKp:∀ {A C:World},KeptBN A B p n cap f→Kp A C→KeptBN C B p n cap f) (w:World) (hn:n≤1000) (hP:∀ W,Bl w W→KeptBN W B p n cap f) :
  SeqV Fence.wide m Tryz.prog 143 #[.pointer (some ⟨B,0,none⟩)] (fun x:Nat×En=>#[.int .i64 x.1,enV x.2]) (fun x W0 W1=>W1=W0∧x.1<n) Kp (fun zs=>zs=zsBN n f n) (fun pre=>pre.length≤n) n w:=
 fun l J Jx W hW hJ _ hY h0=>iterBN m l B n p cap f Kp hKp J Jx W hn (fun pre x W0 W1 h1 h2 h3=>hY pre x W0 W1 h1 ⟨h2.1,by rw [h2.2.2];show n-1-pre.length<n;omega⟩ h3) (hP W hW) h0
theorem backwardN (n:Nat) (p:Option Addr) (cap:Nat) (f:Nat→En) (w:World) (h:Rw 4 cellsN w (.slice p n cap) (linJ n f)) :
  Calls Tryz.prog 118 #[.slice p n cap] w fun e w'=>e=.returned (.func (.func 143) #[] #[.pointer (some ⟨w.heap.size,0,none⟩)])∧KeptBN w' w.heap.size p n cap f∧w'=w.alloc (.cells #[.slice p n cap] 46):=by
 go_enter Tryz.func118,Tryz.ntmps118;go_wp2;go_ret;exact ⟨rfl,⟨by simp [go_sem],h.later ((Bl.refl _).alloc _)⟩,rfl⟩
theorem but4N (u:World) (b:Nat) (v0 v1 v2 v3:Value):But (fun i=>i=b) u ((((u.setCell ⟨b,0,none⟩ v0).setCell ⟨b,1,none⟩ v1).setCell ⟨b,2,none⟩ v2).setCell ⟨b,3,none⟩ v3):=(((but_cell1 (S:=fun i=>i=b) rfl _ _ _).trans (but_cell1 (S:=fun i=>i=b) rfl _ _ _)).trans (but_cell1 (S:=fun i=>i=b) rfl _ _ _)).trans (but_cell1 (S:=fun i=>i=b) rfl _ _ _)
theorem heap4N {g l:Nat} (u:World) (h:l≠g) (v0 v1 v2 v3:Value):((((u.setCell ⟨g,0,none⟩ v0).setCell ⟨g,1,none⟩ v1).setCell ⟨g,2,none⟩ v2).setCell ⟨g,3,none⟩ v3).heap[l]?=u.heap[l]?:=by
 rw [heap1 _ h,heap1 _ h,heap1 _ h,heap1 _ h]
theorem noB_newSN (u:World) (t:TypeId):NoB (u.alloc (.cells #[.slice none 0 0,.int .i64 0,.int .i64 0,.slice none 0 0] t)) u.heap.size:=by
 intro o x;rcases o with _|_|_|_|o<;>simp [go_sem]
theorem mx_ltN {u:World} {R C:Nat} {p:Option Addr} {n cap:Nat} {f:Nat→Nat→En} (h:Mx 4 cellsN u R C p n cap f):∀ g,(Value.slice p n cap).ownBlock=some g→g<u.heap.size:=by
 obtain ⟨b',o,rfl,_,hlt,hcell⟩:=h.cells;intro g hg;cases hg;exact hlt
theorem noB_rwN {u:World} {p:Option Addr} {n cap b:Nat} {x:Nat→En} (h:Rw 4 cellsN u (.slice p n cap) (linJ n x)) (h1:1≤n) (nb:NoB u b):∀ g,(Value.slice p n cap).ownBlock=some g→g≠b:=by
 rcases h with ⟨_,e⟩|⟨g,o,c,e,_,hlt,hx⟩
 ·have:=congrArg List.length e;rw [linJ_len] at this;simp at this;omega
 ·rintro g' hg rfl;obtain ⟨j,y,hj⟩:=boolN (x 0);have:=hx 0 _ (linJ_get x h1) j _ hj;simp only [Value.slice.injEq] at e;obtain ⟨rfl,_⟩:=e;cases hg;exact nb _ _ this
theorem whole_linN (p:Option Addr) (n cap:Nat) (h:Nat→Int) (w:World) (hr:Rq 1 cI w (.slice p n cap) (linJ n h)) (hl:n≤1000000) :
  Calls Tryz.prog 35 #[.slice p n cap] w fun e w'=>∃ q c,e=.returned (.slice q n c)∧Rw 4 cellsN w' (.slice q n c) (linJ n fun i=>wholeN (h i))∧Bl w w':=
 (vWholeN _ _ w hr (by rw [linJ_len];exact hl)).mono fun e w' ⟨u,he,hr,hb⟩=>by
  rw [linJ_map] at hr;obtain ⟨q,c,rfl,_,_⟩:=hr.cut;rw [linJ_len] at hr he;exact ⟨q,c,he,hr,hb⟩
def updN (n N:Nat) (x:Nat→En) (P:Nat→Nat→En) (e a:En):Upd (Option Addr×Nat×Option Addr×Nat) where
 v0 D:=sJ D.1 n D.2.1 n n D.2.2.1 N D.2.2.2
 v1 _:=newsVN e a
 v2 _:=.bool true
 dat D u:=Rw 4 cellsN u (.slice D.1 n D.2.1) (linJ n x)∧Mx 4 cellsN u n n D.2.2.1 N D.2.2.2 P
 off D b:=(∀ g,(Value.slice D.1 n D.2.1).ownBlock=some g→g≠b)∧∀ g,(Value.slice D.2.2.1 N D.2.2.2).ownBlock=some g→g≠b
 za u b:=SBox u b none 0 0 0 0 none 0 0
 zb u b:=NBoxN u b zeroE zeroE
 sa D u b:=SBox u b D.1 n D.2.1 n n D.2.2.1 N D.2.2.2
 sb _ u b:=NBoxN u b e a
theorem s_not_nN {u:World} {b:Nat} {px:Option Addr} {nx cx:Nat} {r c:Int} {p:Option Addr} {m cap:Nat} {x y:En} (h:SBox u b px nx cx r c p m cap) (k:NBoxN u b x y):False:=by
 have:=h.c0.symm.trans k.c0;simp at this
theorem updN_ok (n N:Nat) (x:Nat→En) (P:Nat→Nat→En) (e a:En):UpdOk (updN n N x P e a) where
 dat_bl D u u' h k:=⟨h.1.later k,Mx.later h.2 k⟩
 dat_off D u b h hb:=⟨fun g hg=>by have:=h.1.lt g hg;omega,fun g hg=>by have:=mx_ltN h.2 g hg;omega⟩
 za_heap u u' b h _ e hs:=SBox.heap h e hs
 zb_heap u u' b h _ e hs:=NBoxN.heap h e hs
 sa_heap D u u' b h _ e hs:=SBox.heap h e hs
 sb_heap D u u' b h _ e hs:=NBoxN.heap h e hs
 ne0 u b h k:=s_not_nN h k
 ne1 D u b h k:=s_not_nN h k
 ne2 D u b h k:=s_not_nN h k
theorem butNN (u:World) (b:Nat) (x y:En):But (fun i=>i=b) u ((((((((u.setCell ⟨b,0,none⟩ (.int .i64 x.v)).setCell ⟨b,1,none⟩ (.int .i64 x.l)).setCell ⟨b,2,none⟩ (.int .i64 x.h)).setCell ⟨b,3,none⟩ (.bool x.bad)).setCell ⟨b,4,none⟩ (.int .i64 y.v)).setCell ⟨b,5,none⟩ (.int .i64 y.l)).setCell ⟨b,6,none⟩ (.int .i64 y.h)).setCell ⟨b,7,none⟩ (.bool y.bad)):=(((((((but_cell1 (S:=fun i=>i=b) rfl _ _ _).trans (but_cell1 (S:=fun i=>i=b) rfl _ _ _)).trans (but_cell1 (S:=fun i=>i=b) rfl _ _ _)).trans (but_cell1 (S:=fun i=>i=b) rfl _ _ _)).trans (but_cell1 (S:=fun i=>i=b) rfl _ _ _)).trans (but_cell1 (S:=fun i=>i=b) rfl _ _ _)).trans (but_cell1 (S:=fun i=>i=b) rfl _ _ _)).trans (but_cell1 (S:=fun i=>i=b) rfl _ _ _)
theorem heapNN {l b:Nat} (u:World) (h:l≠b) (x y:En):((((((((u.setCell ⟨b,0,none⟩ (.int .i64 x.v)).setCell ⟨b,1,none⟩ (.int .i64 x.l)).setCell ⟨b,2,none⟩ (.int .i64 x.h)).setCell ⟨b,3,none⟩ (.bool x.bad)).setCell ⟨b,4,none⟩ (.int .i64 y.v)).setCell ⟨b,5,none⟩ (.int .i64 y.l)).setCell ⟨b,6,none⟩ (.int .i64 y.h)).setCell ⟨b,7,none⟩ (.bool y.bad)).heap[l]?=u.heap[l]?:=by
 rw [heap1 _ h,heap1 _ h,heap1 _ h,heap1 _ h,heap1 _ h,heap1 _ h,heap1 _ h,heap1 _ h]
theorem blNN {w u:World} (b:Nat) (h:Bl w u) (hb:w.heap.size≤b) (x y:En):Bl w ((((((((u.setCell ⟨b,0,none⟩ (.int .i64 x.v)).setCell ⟨b,1,none⟩ (.int .i64 x.l)).setCell ⟨b,2,none⟩ (.int .i64 x.h)).setCell ⟨b,3,none⟩ (.bool x.bad)).setCell ⟨b,4,none⟩ (.int .i64 y.v)).setCell ⟨b,5,none⟩ (.int .i64 y.l)).setCell ⟨b,6,none⟩ (.int .i64 y.h)).setCell ⟨b,7,none⟩ (.bool y.bad)):=Bl.set (Bl.set (Bl.set (Bl.set (Bl.set (Bl.set (Bl.set (Bl.set (h) hb _) hb _) hb _) hb _) hb _) hb _) hb _) hb _
attribute [local go_sem] Oper.semAt_some
def RelON (ge lo n:Nat) (xs:List En) (x y:World):Prop:=Bl x y∨(But (fun b=>b=ge) x y∧RwZ 4 cellsN y lo (.slice (some ⟨ge,0,none⟩) n n) xs)
theorem RelON.but {ge lo n:Nat} {xs:List En} {x y:World} (h:RelON ge lo n xs x y):But (fun b=>b=ge) x y:=by
 rcases h with h|h
 ·exact But.of_bl h
 ·exact h.1
theorem RelON.trans {ge lo n:Nat} {xs:List En} {x y z:World} (h:RelON ge lo n xs x y) (k:RelON ge lo n xs y z):RelON ge lo n xs x z:=by
 rcases k with k|k
 ·rcases h with h|h
  ·exact .inl (h.trans k)
  ·exact .inr ⟨h.1.trans (But.of_bl k),h.2.later k⟩
 ·exact .inr ⟨h.but.trans k.1,k.2⟩
theorem RelON.rwz {ge lo n:Nat} {xs:List En} {x y:World} (h:RelON ge lo n xs x y) (k:RwZ 4 cellsN x lo (.slice (some ⟨ge,0,none⟩) n n) xs):RwZ 4 cellsN y lo (.slice (some ⟨ge,0,none⟩) n n) xs:=by
 rcases h with h|h
 ·exact k.later h
 ·exact h.2
theorem rq_butN {α:Type} {s:Nat} {c:α→List Value} {w w':World} {v:Value} {xs:List α} {S:Nat→Prop} (h:Rq s c w v xs) (k:But S w w') (hs:∀ g,v.ownBlock=some g→¬ S g):Rq s c w' v xs:=by
 rcases h with h|⟨b,o,cap,rfl,hc,hb,hx⟩
 ·exact .inl h
 ·exact .inr ⟨b,o,cap,rfl,hc,Nat.lt_of_lt_of_le hb k.size,fun j x hj i u hu=>(k.cell _ _ hb (hs b rfl)).trans (hx j x hj i u hu)⟩
theorem RwZ.againN {w:World} {lo g n cap:Nat} {xs:List En} (h:RwZ 4 cellsN w lo (.slice (some ⟨g,0,none⟩) n cap) xs) :
  (∀ j,j<(xs.flatMap cellsN).length→(w.cell? ⟨g,0+j,none⟩).isSome=true)∧(∀ j,j<(xs.flatMap cellsN).length→w.frozen? ⟨g,0+j,none⟩=false):=by
 obtain ⟨b,cap',e,hc,hlo,hb,hf,hx⟩:=h;simp only [Value.slice.injEq,Option.some.injEq,Addr.mk.injEq] at e;obtain ⟨⟨rfl,_⟩,_,_⟩:=e;refine ⟨fun j hj=>?_,fun j _=>hf _⟩;rw [flat_len cellsN_len] at hj;have h1:j/4<xs.length:=(Nat.div_lt_iff_lt_mul (by decide)).2 hj;have h2:=hx (j/4) _ (List.getElem?_eq_getElem h1) (j % 4) _ (List.getElem?_eq_getElem (by rw [cellsN_len];exact Nat.mod_lt _ (by decide)));rw [show 0+j=j/4*4+j % 4 from by rw [Nat.zero_add,Nat.mul_comm];exact (Nat.div_add_mod j 4).symm,h2];rfl
theorem RwZ.copy2N {w:World} {lo g n cap:Nat} {xs:List En} (h:RwZ 4 cellsN w lo (.slice (some ⟨g,0,none⟩) n cap) xs):RwZ 4 cellsN (w.setCells g 0 (xs.flatMap cellsN)) lo (.slice (some ⟨g,0,none⟩) n cap) xs:=by
 have H:=RwZ.againN h;obtain ⟨b,cap',e,hc,hlo,hb,hf,hx⟩:=h;simp only [Value.slice.injEq,Option.some.injEq,Addr.mk.injEq] at e;obtain ⟨⟨rfl,_⟩,rfl,rfl⟩:=e;refine ⟨g,cap,rfl,hc,hlo,by rw [setCells_size];exact hb,fun o=>?_,fun j x hj k u hu=>?_⟩
 ·rw [World.frozen?_setCells];exact hf o
 ·have hk:k<4:=by have:=(List.getElem?_eq_some_iff.1 hu).1;rwa [cellsN_len] at this
  have hjl:=(List.getElem?_eq_some_iff.1 hj).1;refine cell_set_some (o:=0) (fun j hj=>by have:=H.1 j hj;exact this) (Nat.zero_le _) (by rw [Nat.zero_add,flat_len cellsN_len];have:(j+1)*4≤xs.length*4:=Nat.mul_le_mul_right _ hjl;omega) ?_;rw [Nat.sub_zero,flat_get cellsN_len xs j k x hj hk];exact hu
theorem but_putObj9N {S:Nat→Prop} (W:World) {l:Nat} {o':Obj} (h:S l):But S W (W.putObj l o'):=⟨rfl,rfl,rfl,by simp [World.putObj],fun i _ hs=>World.putObj_heap_other (by rintro rfl;exact hs h)⟩
theorem cell_lt9N {w:World} {b o:Nat} {v:Value} (h:w.cell? ⟨b,o,none⟩=some v):b<w.heap.size:=by
 rcases Nat.lt_or_ge b w.heap.size with h1|h1
 ·exact h1
 ·unfold World.cell? at h;rw [show w.heap[b]?=none from Array.getElem?_eq_none h1] at h;cases h
theorem box_blk9N {w w':World} {b:Nat} {x:En} (h:Box w b x) (e:w'.heap[b]?=w.heap[b]?) (hs:w.heap.size≤w'.heap.size):Box w' b x:=
 ⟨(World.cell?_of_block (a:=⟨b,0,none⟩) e).trans h.c0,(World.cell?_of_block (a:=⟨b,1,none⟩) e).trans h.c1,(World.cell?_of_block (a:=⟨b,2,none⟩) e).trans h.c2,(World.cell?_of_block (a:=⟨b,3,none⟩) e).trans h.c3,(World.frozen?_of_block (a:=⟨b,0,none⟩) e).trans h.f0,(World.frozen?_of_block (a:=⟨b,1,none⟩) e).trans h.f1,(World.frozen?_of_block (a:=⟨b,2,none⟩) e).trans h.f2,(World.frozen?_of_block (a:=⟨b,3,none⟩) e).trans h.f3,Nat.lt_of_lt_of_le h.lt hs⟩
theorem keptB_butN {A C:World} {B:Nat} {p:Option Addr} {n cap:Nat} {f:Nat→En} {S:Nat→Prop} (h:KeptBN A B p n cap f) (k:But S A C) (hB:¬ S B) (hp:∀ b,(Value.slice p n cap).ownBlock=some b→¬ S b):KeptBN C B p n cap f:=
 ⟨(k.cell _ _ (cell_lt9N h.box) hB).trans h.box,h.row.but k hp⟩
theorem own_ne9N {X:World} {row:Option Nat} {b o:Nat} {v:Value} (hc:X.cell? ⟨b,o,none⟩=some v) (hr:∀ r,row=some r→∃ o:Obj,X.heap[r]?=some o∧o.isCells=false):row≠some b:=by
 intro e;obtain ⟨ob,ho,hoc⟩:=hr b e;unfold World.cell? at hc;simp only [ho] at hc;cases ob<;>simp_all [Obj.isCells]
theorem own_blk9N {X Y:World} {row:Option Nat} {b o:Nat} {v:Value} (hc:X.cell? ⟨b,o,none⟩=some v) (hg:X.grownBy Y row) (hr:∀ r,row=some r→∃ o:Obj,X.heap[r]?=some o∧o.isCells=false):Y.heap[b]?=X.heap[b]?:=
 hg.block b (cell_lt9N hc) (fun e=>own_ne9N hc hr e.symm)
structure StIN (w:World) (n N g c1 ge H:Nat) (t:StO En) (U:World):Prop where
 s:RwZ 4 cellsN U w.heap.size (.slice (some ⟨g,0,none⟩) N c1) (mk n n t.s)
 e:RwZ 4 cellsN U w.heap.size (.slice (some ⟨ge,0,none⟩) n n) (linJ n t.e)
 a:Box U (w.heap.size+1+1+1+1) t.a
 m:MBox U (w.heap.size+1+1) n n (some ⟨g,0,none⟩) N c1
 l:U.cell? ⟨w.heap.size+1+1+1,0,none⟩=some (.slice (some ⟨ge,0,none⟩) n n)
 lf:U.frozen? ⟨w.heap.size+1+1+1,0,none⟩=false
 bl:Bl w U
 sz:H≤U.heap.size
theorem sti_ownN {w:World} {n N g c1 ge H:Nat} {t:StO En} {X Y:World} {row:Option Nat} (h:StIN w n N g c1 ge H t X) (n1:1≤n) (hN:N=n*n) (hw:w.heap.size≤H) (hg:X.grownBy Y row) (hr:∀ r,row=some r→H≤r∧∃ o:Obj,X.heap[r]?=some o∧o.isCells=false):StIN w n N g c1 ge H t Y:=by
 have hr2:∀ r,row=some r→∃ o:Obj,X.heap[r]?=some o∧o.isCells=false:=fun r e=>(hr r e).2
 have ne1:mk n n t.s≠[]:=fun e=>by have:=congrArg List.length e;rw [mk_len] at this;have h2:0<n*n:=Nat.mul_pos n1 n1;simp at this;omega
 have ne2:linJ n t.e≠[]:=fun e=>by have:=congrArg List.length e;rw [linJ_len] at this;simp at this;omega
 have e8:=own_blk9N h.a.c0 hg hr2;have e6:=own_blk9N h.m.c0 hg hr2;have e7:=own_blk9N h.l hg hr2;exact ⟨h.s.own cellsN_len (by decide) ne1 hg hr2,h.e.own cellsN_len (by decide) ne2 hg hr2,box_blk9N h.a e8 hg.size,mbox_block h.m e6 hg.size,(World.cell?_of_block (a:=⟨_,0,none⟩) e7).trans h.l,(World.frozen?_of_block (a:=⟨_,0,none⟩) e7).trans h.lf,Below.grown h.bl hg h.bl.size (fun k e=>Nat.le_trans hw (hr k e).1),Nat.le_trans h.sz hg.size⟩
theorem sti_laterN {w:World} {n N g c1 ge H:Nat} {t:StO En} {X Y:World} (h:StIN w n N g c1 ge H t X) (k:Bl X Y):StIN w n N g c1 ge H t Y:=
 ⟨h.s.later k,h.e.later k,h.a.later k,h.m.later k,(bl_cell k _ _ (cell_lt9N h.l)).trans h.l,(bl_froz k _ _ (cell_lt9N h.l)).trans h.lf,h.bl.trans k,Nat.le_trans h.sz k.size⟩
structure GdON (w:World) (n N g c1 ge:Nat) (a:En) (U:World):Prop where
 m:MBox U (w.heap.size+1+1) n n (some ⟨g,0,none⟩) N c1
 l:U.cell? ⟨w.heap.size+1+1+1,0,none⟩=some (.slice (some ⟨ge,0,none⟩) n n)
 lf:U.frozen? ⟨w.heap.size+1+1+1,0,none⟩=false
 a:Box U (w.heap.size+1+1+1+1) a
def RelGN (w:World) (n N g c1 ge:Nat) (a:En) (x y:World):Prop:=But (fun b=>b=w.heap.size+1+1∨b=w.heap.size+1+1+1∨b=w.heap.size+1+1+1+1) x y∧(GdON w n N g c1 ge a x→GdON w n N g c1 ge a y)
theorem RelGN.refl {w:World} {n N g c1 ge:Nat} {a:En} (x:World):RelGN w n N g c1 ge a x x:=⟨But.refl _ _,id⟩
theorem gd_laterN {w:World} {n N g c1 ge:Nat} {a:En} {x y:World} (h:GdON w n N g c1 ge a x) (k:Bl x y):GdON w n N g c1 ge a y:=⟨h.m.later k,(bl_cell k _ _ (cell_lt9N h.l)).trans h.l,(bl_froz k _ _ (cell_lt9N h.l)).trans h.lf,h.a.later k⟩
theorem RelGN.refl0 {w:World} {n N g c1 ge:Nat} {a:En} (x:World):RelGN w n N g c1 ge a x x.drew:=⟨But.of_bl (Bl.refl _).drew,fun h=>gd_laterN h (Bl.refl _).drew⟩
theorem RelGN.trans {w:World} {n N g c1 ge:Nat} {a:En} {x y z:World} (h:RelGN w n N g c1 ge a x y) (k:RelGN w n N g c1 ge a y z):RelGN w n N g c1 ge a x z:=⟨h.1.trans k.1,fun q=>k.2 (h.2 q)⟩
theorem RelGN.m {w:World} {n N g c1 ge:Nat} {a:En} (u:World):RelGN w n N g c1 ge a u (((u.setCell ⟨w.heap.size+1+1,0,none⟩ (.int .i64 n)).setCell ⟨w.heap.size+1+1,1,none⟩ (.int .i64 n)).setCell ⟨w.heap.size+1+1,2,none⟩ (.slice (some ⟨g,0,none⟩) N c1)):=by
 have b:But (fun i=>i=w.heap.size+1+1) u (((u.setCell ⟨w.heap.size+1+1,0,none⟩ (.int .i64 n)).setCell ⟨w.heap.size+1+1,1,none⟩ (.int .i64 n)).setCell ⟨w.heap.size+1+1,2,none⟩ (.slice (some ⟨g,0,none⟩) N c1)):=((but_cell1 (S:=fun i=>i=w.heap.size+1+1) rfl _ _ _).trans (but_cell1 (S:=fun i=>i=w.heap.size+1+1) rfl _ _ _)).trans (but_cell1 (S:=fun i=>i=w.heap.size+1+1) rfl _ _ _);exact ⟨b.mono fun i h=>.inl h,fun h=>⟨h.m.fill _ _ _ _ _,(b.cell _ _ (cell_lt9N h.l) (by show ¬ w.heap.size+1+1+1=w.heap.size+1+1;omega)).trans h.l,(b.froz _ _ (cell_lt9N h.l) (by show ¬ w.heap.size+1+1+1=w.heap.size+1+1;omega)).trans h.lf,h.a.but b (by show ¬ w.heap.size+1+1+1+1=w.heap.size+1+1;omega)⟩⟩
theorem RelGN.l {w:World} {n N g c1 ge:Nat} {a:En} (u:World):RelGN w n N g c1 ge a u (u.setCell ⟨w.heap.size+1+1+1,0,none⟩ (.slice (some ⟨ge,0,none⟩) n n)):=by
 have b:But (fun i=>i=w.heap.size+1+1+1) u (u.setCell ⟨w.heap.size+1+1+1,0,none⟩ (.slice (some ⟨ge,0,none⟩) n n)):=but_cell1 (S:=fun i=>i=w.heap.size+1+1+1) rfl _ _ _;exact ⟨b.mono fun i h=>.inr (.inl h),fun h=>⟨h.m.but b (by show ¬ w.heap.size+1+1=w.heap.size+1+1+1;omega),by have:=h.l;simp [go_sem,this],by have:=h.lf;simp [go_sem,this],h.a.but b (by show ¬ w.heap.size+1+1+1+1=w.heap.size+1+1+1;omega)⟩⟩
theorem RelGN.a {w:World} {n N g c1 ge:Nat} {a:En} (u:World):RelGN w n N g c1 ge a u ((((u.setCell ⟨w.heap.size+1+1+1+1,0,none⟩ (.int .i64 a.v)).setCell ⟨w.heap.size+1+1+1+1,1,none⟩ (.int .i64 a.l)).setCell ⟨w.heap.size+1+1+1+1,2,none⟩ (.int .i64 a.h)).setCell ⟨w.heap.size+1+1+1+1,3,none⟩ (.bool a.bad)):=by
 have b:But (fun i=>i=w.heap.size+1+1+1+1) u ((((u.setCell ⟨w.heap.size+1+1+1+1,0,none⟩ (.int .i64 a.v)).setCell ⟨w.heap.size+1+1+1+1,1,none⟩ (.int .i64 a.l)).setCell ⟨w.heap.size+1+1+1+1,2,none⟩ (.int .i64 a.h)).setCell ⟨w.heap.size+1+1+1+1,3,none⟩ (.bool a.bad)):=butRN _ _ _ _ _ _;exact ⟨b.mono fun i h=>.inr (.inr h),fun h=>⟨h.m.but b (by show ¬ w.heap.size+1+1=w.heap.size+1+1+1+1;omega),(b.cell _ _ (cell_lt9N h.l) (by show ¬ w.heap.size+1+1+1=w.heap.size+1+1+1+1;omega)).trans h.l,(b.froz _ _ (cell_lt9N h.l) (by show ¬ w.heap.size+1+1+1=w.heap.size+1+1+1+1;omega)).trans h.lf,h.a.fill a⟩⟩
theorem oneN (x:En):∀ v∈cellsN x,v.oneCell'=true:=by
 intro v hv;simp [cellsN] at hv;rcases hv with rfl|rfl|rfl|rfl<;>rfl
theorem make_zeroON (n:Nat) (hn:n≤1000) (u:World):∃ u',(Instr.makeSlice 22 (.int .i64 n) (.int .i64 n)).run Tryz.prog u=.ok (.slice (some ⟨u.heap.size,0,none⟩) n n) u'∧Rq 1 cI u' (.slice (some ⟨u.heap.size,0,none⟩) n n) (linJ n fun _=>(0:Int))∧Bl u u':=by
 obtain ⟨i0,hi,hz0,hz1,hz2⟩:=info_parts (show (Tryz.prog.info? 3).map (fun i=>(i.zero,i.size,i.bytes))=some (some (.int .i64 0),1,8) by kernel_rfl);obtain ⟨u',h1,h2,h3⟩:=run_makeSlice_full (P:=Tryz.prog) (w:=u) u.heap.size 22 3 i0 (.int .i64 0) 1 (by kernel_rfl) hi hz0 hz1 .i64 .i64 n (by omega) (by rw [hz2];omega) (by unfold maxLen;omega) (Nat.le_refl _);refine ⟨u',h1,?_,(Bl.refl u).grown h3 (Nat.le_refl _) (fun k e=>by cases e)⟩;have e:(madeCells (Value.cells (.int .i64 0)) (n*1)).toList=(linJ n fun _=>(0:Int)).flatMap cI:=by
  rw [show (linJ n fun _=>(0:Int)).flatMap cI=(linJ n fun _=>(0:Int)).map (fun x=>(.int .i64 x:Value)) from flatI_map _,Nat.mul_one];rw [show (linJ n fun _=>(0:Int))=List.replicate n 0 from by unfold linJ;rw [List.map_const'];simp,List.map_replicate];exact toList_madeCells_one _ _
 rw [e] at h2;have h4:=Rw.of_own (s:=1) (c:=cI) (fun _=>rfl) (xs:=linJ n fun _=>(0:Int)) (by rw [linJ_len];exact h2);exact h4.q
theorem whole_linON (p:Option Addr) (n cap:Nat) (h:Nat→Int) (w:World) (hr:Rq 1 cI w (.slice p n cap) (linJ n h)) (hl:n≤1000000) :
  Calls Tryz.prog 35 #[.slice p n cap] w fun e w'=>∃ q c,e=.returned (.slice q n c)∧Rw 4 cellsN w' (.slice q n c) (linJ n fun i=>wholeN (h i))∧Fresh w.heap.size (.slice q n c)∧Bl w w':=
 (vWholeN' _ _ w hr (by rw [linJ_len];exact hl)).mono fun e w' ⟨u,he,hr,hf,hb⟩=>by
  rw [linJ_map] at hr;obtain ⟨q,c,rfl,_,_⟩:=hr.cut;rw [linJ_len] at hr hf he;exact ⟨q,c,he,hr,hf,hb⟩
theorem rq_cells0N {w:World} {p:Option Addr} {n cap:Nat} {f:Nat→En} (h:Rq 4 cellsN w (.slice p n cap) (linJ n f)) (h1:1≤n):∃ b o,p=some ⟨b,o,none⟩∧∀ j v,((linJ n f).flatMap cellsN)[j]?=some v→w.cell? ((⟨b,o,none⟩:Addr).add j)=some v:=by
 rcases h with ⟨p',cap',e,hx,_⟩|⟨b,o,cap',e,hc,hb,hx⟩
 ·have:=congrArg List.length hx;rw [linJ_len] at this;simp at this;omega
 ·simp only [Value.slice.injEq] at e;refine ⟨b,o,e.1,fun j v hj=>?_⟩;have hjl:j<n*4:=by have:=(List.getElem?_eq_some_iff.1 hj).1;rwa [flat_len cellsN_len,linJ_len] at this
  have h1:j/4<n:=(Nat.div_lt_iff_lt_mul (by decide)).2 hjl;have h3:j % 4<4:=Nat.mod_lt _ (by decide);have e2:j=j/4*4+j % 4:=by rw [Nat.mul_comm];exact (Nat.div_add_mod j 4).symm
  rw [e2,flat_get cellsN_len _ _ _ _ (linJ_get f h1) h3] at hj;rw [add_off _ _ rfl];have:=hx _ _ (linJ_get f h1) _ _ hj;show w.cell? ⟨b,o+j,none⟩=some v;rw [e2,←Nat.add_assoc];exact this
set_option maxRecDepth 100000 in
set_option maxHeartbeats 8000000 in
theorem rTakenN (n N:Nat) (p:Option Addr) (cap:Nat) (s:Nat→Nat→En) (ph:Option Addr) (ch:Nat) (h:Nat→En) (r:En) (w:World) (hS:Mx 4 cellsN w n n p N cap s) (hh:Rq 4 cellsN w (.slice ph n ch) (linJ n h)) :
  Calls Tryz.prog 74 #[mV n n p N cap,.slice ph n ch,enV r] w fun e w'=>∃ g c ge ce,e=.returned (.tuple #[mV n n (some ⟨g,0,none⟩) N c,.slice (some ⟨ge,0,none⟩) n ce,enV (runO kdN n s h r n).a])∧(RwZ 4 cellsN w' w.heap.size (.slice (some ⟨g,0,none⟩) N c) (mk n n (runO kdN n s h r n).s)∧RwZ 4 cellsN w' w.heap.size (.slice (some ⟨ge,0,none⟩) n ce) (linJ n (runO kdN n s h r n).e))∧Bl w w':=by
 have fm:Tryz.prog.follows .mixedOrders=true:=by kernel_rfl
 have egW:=enters_of Tryz.func35 (by kernel_rfl) rfl;obtain ⟨i0,hi,hz0,hz1,hz2⟩:=info_parts Tryz.info_N;refine (callsIn_wide (n:=8)).1 ?_;have hd:=hS.1;have hN:=hS.2.1;have hfit:=hS.fit;have hn16:=hd.r2;have n1:=hd.r1;have HSM:=hideP hS;have HHM:=hideP hh;obtain ⟨W,hW⟩:∃ W,W=((((w.alloc (.cells #[.int .i64 n,.int .i64 n,.slice p N cap] 48)).alloc (.cells #[.int .i64 r.v,.int .i64 r.l,.int .i64 r.h,.bool r.bad] 52)).alloc (.cells #[.int .i64 0,.int .i64 0,.slice none 0 0] 48)).alloc (.cells #[.slice none 0 0] 46)).alloc (.cells #[.int .i64 0,.int .i64 0,.int .i64 0,.bool false] 52):=⟨_,rfl⟩;have b0:Bl w W:=by rw [hW];exact (((((Bl.refl _).alloc _).alloc _).alloc _).alloc _).alloc _
 have hWs:W.heap.size=w.heap.size+1+1+1+1+1:=by rw [hW];simp
 have m0:MBox W w.heap.size n n p N cap:=by rw [hW];exact (MBox.new w _ _ _ _ _ _).later (((((Bl.refl _).alloc _).alloc _).alloc _).alloc _)
 have kr:Box W (w.heap.size+1) r:=by rw [hW];have:=(Box.new (w.alloc (.cells #[.int .i64 n,.int .i64 n,.slice p N cap] 48)) r 52).later ((((Bl.refl _).alloc (.cells #[.int .i64 0,.int .i64 0,.slice none 0 0] 48)).alloc (.cells #[.slice none 0 0] 46)).alloc (.cells #[.int .i64 0,.int .i64 0,.int .i64 0,.bool false] 52));simp only [World.size_alloc] at this;exact this
 have z6:MBox W (w.heap.size+1+1) 0 0 none 0 0:=by rw [hW];have:=(MBox.new ((w.alloc (.cells #[.int .i64 n,.int .i64 n,.slice p N cap] 48)).alloc (.cells #[.int .i64 r.v,.int .i64 r.l,.int .i64 r.h,.bool r.bad] 52)) 0 0 none 0 0 48).later (((Bl.refl _).alloc (.cells #[.slice none 0 0] 46)).alloc (.cells #[.int .i64 0,.int .i64 0,.int .i64 0,.bool false] 52));simp only [World.size_alloc] at this;exact this
 have s7:W.cell? ⟨w.heap.size+1+1+1,0,none⟩=some (.slice none 0 0):=by rw [hW];simp [go_sem]
 have f7:W.frozen? ⟨w.heap.size+1+1+1,0,none⟩=false:=by rw [hW];simp [go_sem]
 have k8:Box W (w.heap.size+1+1+1+1) zeroE:=by rw [hW];have:=(Box.new ((((w.alloc (.cells #[.int .i64 n,.int .i64 n,.slice p N cap] 48)).alloc (.cells #[.int .i64 r.v,.int .i64 r.l,.int .i64 r.h,.bool r.bad] 52)).alloc (.cells #[.int .i64 0,.int .i64 0,.slice none 0 0] 48)).alloc (.cells #[.slice none 0 0] 46)) zeroE 52);simp only [World.size_alloc] at this;exact this
 have NW:=hideP (mNewZN (n:Int) (n:Int) p N cap (mk n n s) W (hS.2.2.later b0) hfit (by rw [mk_len,hN]));have HW:=hideP hW;have HNN:=hideP hN;clear hW hS hh hN;refine callsIn_of_wp_marks Tryz.func74 rfl trivial ?_ rfl;refine wpIn_wide.2 ?_;simp only [Tryz.ntmps74,List.size_toArray,List.length_cons,List.length_nil,Nat.reduceAdd,Nat.reduceSub,Array.replicate_succ,Array.replicate_zero,List.push_toArray,List.append_toArray,List.nil_append,List.cons_append];obtain ⟨c0,c1,c2,_,_,_,_⟩:=id m0;rw [HW.out] at c0 c1 c2;go_wp2_with fail
 try simp only [World.size_alloc]
 rw [←HW.out];refine NW.out.mono ?_;rintro e w1 ⟨p1,c1',rfl,hZ,h1⟩;clear c0 c1 c2 NW;obtain ⟨g,cg,eg,hcg,hlog,hgl,_,_⟩:=id hZ;simp only [Value.slice.injEq] at eg;obtain ⟨rfl,e2,e3⟩:=eg;clear e2 e3 hcg;obtain ⟨W1,hW1⟩:∃ W1,W1=((w1.setCell ⟨w.heap.size+1+1,0,none⟩ (.int .i64 n)).setCell ⟨w.heap.size+1+1,1,none⟩ (.int .i64 n)).setCell ⟨w.heap.size+1+1,2,none⟩ (.slice (some ⟨g,0,none⟩) N c1'):=⟨_,rfl⟩;have bu1:But (fun b=>b=w.heap.size+1+1) w1 W1:=by rw [hW1];exact ((but_cell1 (S:=fun i=>i=w.heap.size+1+1) rfl _ _ _).trans (but_cell1 (S:=fun i=>i=w.heap.size+1+1) rfl _ _ _)).trans (but_cell1 (S:=fun i=>i=w.heap.size+1+1) rfl _ _ _)
 have B1:Bl w W1:=by rw [hW1];exact Bl.put3 (b0.trans h1) (by omega) _ _ _
 have z61:MBox W1 (w.heap.size+1+1) n n (some ⟨g,0,none⟩) N c1':=by rw [hW1];exact (z6.later h1).fill _ _ _ _ _
 have m1:MBox W1 w.heap.size n n p N cap:=(m0.later h1).but bu1 (by omega);have kr1:Box W1 (w.heap.size+1) r:=(kr.later h1).but bu1 (by omega);have k81:Box W1 (w.heap.size+1+1+1+1) zeroE:=(k8.later h1).but bu1 (by omega);have s71:W1.cell? ⟨w.heap.size+1+1+1,0,none⟩=some (.slice none 0 0):=(bu1.cell _ _ (by have:=h1.size;omega) (by omega)).trans ((bl_cell h1 _ _ (by omega)).trans s7);have f71:W1.frozen? ⟨w.heap.size+1+1+1,0,none⟩=false:=(bu1.froz _ _ (by have:=h1.size;omega) (by omega)).trans ((bl_froz h1 _ _ (by omega)).trans f7);have HZ1:=hideP (hZ.but bu1 (fun b hb=>by cases hb;show ¬ g=w.heap.size+1+1;omega));have g1l:g<W1.heap.size:=HZ1.out.glt;have w1s:w.heap.size+1+1+1+1+1≤W1.heap.size:=by have:=h1.size;have:=bu1.size;omega
 obtain ⟨q0,q1,q2,q3,q4,q5,_⟩:=z6.later h1;obtain ⟨c0,c1,c2,_,_,_,_⟩:=id m1;have HW1:=hideP hW1;rw [hW1] at c0 c1 c2;clear hW1 hZ m0 kr z6 s7 f7 k8;go_wp2_with fail
 rw [←HW1.out];refine (mTurnN n n p N cap s W1 (HSM.out.later B1)).mono ?_;rintro e w2 ⟨p2,c2',rfl,⟨hT,_,_⟩,h2⟩;clear q0 q1 q2 q3 q4 q5 c0 c1 c2;go_wp2_with fail
 refine (mApplyN' n n p2 N c2' (fun i k=>s k i) ph ch (linJ n h) w2 hT (HHM.out.later (B1.trans h2)) (linJ_len _ _)).mono ?_;rintro e w3 ⟨pw,cw,rfl,hRw,hFw,h3⟩;have HRW:=hideP (show Rw 4 cellsN w3 (.slice pw n cw) (linJ n (wO kdN n s h)) from hRw);have b13:Bl W1 w3:=h2.trans h3;clear hT hRw;have s73:=(bl_cell b13 _ 0 (by omega)).trans s71;have f73:=(bl_froz b13 _ 0 (by omega)).trans f71;have hse:w.heap.size+1+1+1<w3.heap.size:=by have:=b13.size;omega
 go_wp2_with (at_make;refine wpList_make_full _ rfl _ _ 46 rfl w3.heap.size 52 i0 (.agg #[.int .i64 0,.int .i64 0,.int .i64 0,.bool false]) 4 Tryz.underlying46 hi hz0 hz1 .i64 .i64 _ _ n rfl rfl (by simp) (by simp) (by rw [hz2];omega) (by unfold maxLen;omega) (by simp) ?_;intro w4 hown4 hgrow4;have s74:=(bl_cell ((Bl.refl w3).grown hgrow4 (Nat.le_refl _) (fun k e=>by cases e)) _ 0 hse).trans s73;have f74:=(bl_froz ((Bl.refl w3).grown hgrow4 (Nat.le_refl _) (fun k e=>by cases e)) _ 0 hse).trans f73)
 obtain ⟨ge,hge⟩:∃ ge,ge=w3.heap.size:=⟨_,rfl⟩;have b34:Bl w3 w4:=(Bl.refl w3).grown hgrow4 (Nat.le_refl _) (fun k e=>by cases e);obtain ⟨W4,hW4⟩:∃ W4,W4=w4.setCell ⟨w.heap.size+1+1+1,0,none⟩ (.slice (some ⟨w3.heap.size,0,none⟩) n n):=⟨_,rfl⟩;have bu4:But (fun b=>b=w.heap.size+1+1+1) w4 W4:=by rw [hW4];exact but_cell1 (S:=fun i=>i=w.heap.size+1+1+1) rfl _ _ _
 have own4:=ownsRow_setCell_below hown4 (a:=⟨w.heap.size+1+1+1,0,none⟩) hse (.slice (some ⟨w3.heap.size,0,none⟩) n n);rw [←hW4,←hge] at own4;have s7w:W4.cell? ⟨w.heap.size+1+1+1,0,none⟩=some (.slice (some ⟨ge,0,none⟩) n n):=by rw [hW4,hge];simp [go_sem,s74]
 have HW4:=hideP hW4;have geW:ge<W4.heap.size:=(own4.lt ge rfl).2;have OWN4:=hideP own4;clear hW4 s74 f74 own4 hown4;have w4s:W4.heap.size=w4.heap.size:=by rw [HW4.out];simp
 have bw34:w3.heap.size≤w4.heap.size:=b34.size;have HRW4:=hideP ((HRW.out.later b34).but bu4 (fun b hb=>by have:=hFw b hb;have:=h2.size;show ¬ b=w.heap.size+1+1+1;omega));have gwn:∀ b,(Value.slice pw n cw).ownBlock=some b→b≠ge∧b≠g∧w.heap.size+1+1+1+1<b:=fun b hb=>by
  have h5:=hFw b hb;have h6:=HRW.out.lt b hb;have h7:=h2.size;exact ⟨by omega,by omega,by omega⟩
 have HZ4:=hideP (((HZ1.out.later b13).later b34).but bu4 (fun b hb=>by cases hb;show ¬ g=w.heap.size+1+1+1;omega));have b14:Bl W1 w4:=b13.trans b34;have z64:MBox W4 (w.heap.size+1+1) n n (some ⟨g,0,none⟩) N c1':=(z61.later b14).but bu4 (by omega);have kr4:Box W4 (w.heap.size+1) r:=(kr1.later b14).but bu4 (by omega);have k84:Box W4 (w.heap.size+1+1+1+1) zeroE:=(k81.later b14).but bu4 (by omega);have f7w:W4.frozen? ⟨w.heap.size+1+1+1,0,none⟩=false:=by rw [HW4.out];simp [go_sem];exact (bl_froz b34 _ 0 hse).trans f73
 have B4:Bl w W4:=by rw [HW4.out];exact Bl.set ((B1.trans b14)) (by show w.heap.size≤w.heap.size+1+1+1;omega) _
 have g5:g<ge:=by have:=b13.size;omega
 have ge5:w.heap.size+1+1+1+1+1≤ge:=by have:=b13.size;omega
 have gge:g≠ge:=by omega
 have SEVEN:=fun (u:World) (hu:RelON ge w3.heap.size n (linJ n fun _=>wholeN 0) W4 u)=>(hu.but.cell (w.heap.size+1+1+1) 0 (by omega) (by omega)).trans s7w
 have GEU:=fun (u:World) (hu:RelON ge w3.heap.size n (linJ n fun _=>wholeN 0) W4 u)=>Nat.lt_of_lt_of_le geW hu.but.size
 have FL:((linJ n fun _=>wholeN 0).flatMap cellsN).length=n*4:=by rw [flat_len cellsN_len,linJ_len]
 have ONEC:∀ v∈(linJ n fun _=>wholeN 0).flatMap cellsN,v.oneCell'=true:=fun v hv=>by
  obtain ⟨x,_,hx⟩:=List.mem_flatMap.1 hv;exact oneN x v hx
 have CANZ:∀ u (hu:RelON ge w3.heap.size n (linJ n fun _=>wholeN 0) W4 u),(∀ j,j<((linJ n fun _=>wholeN 0).flatMap cellsN).length→(u.cell? ⟨ge,0+j,none⟩).isSome=true)∧(∀ j,j<((linJ n fun _=>wholeN 0).flatMap cellsN).length→u.frozen? ⟨ge,0+j,none⟩=false)∧RwZ 4 cellsN (u.setCells ge 0 ((linJ n fun _=>wholeN 0).flatMap cellsN)) w3.heap.size (.slice (some ⟨ge,0,none⟩) n n) (linJ n fun _=>wholeN 0):=fun u hu=>by
  rcases hu with hb|⟨_,hz⟩
  ·have H:=RwZ.copy cellsN_len (own_blN OWN4.out hb) (xs:=linJ n fun _=>wholeN 0) (linJ_len _ _) n1;rw [Nat.zero_mul] at H;exact ⟨H.2.1,fun j _=>H.2.2 j,H.1.base (by omega)⟩
  ·have H:=RwZ.againN hz;exact ⟨H.1,H.2,RwZ.copy2N hz⟩
 clear s71 f71 s73 f73 hi hz0 hz1 hz2;rw [←HW4.out,←hge];have HGE:=hideP hge;clear hge
 refine (wpIn_wide (n:=8)).1 (region_r fm (RelON ge w3.heap.size n (linJ n fun _=>wholeN 0)) [some 33,some 34,some 35,some 36,some 37,some 38] (by kernel_rfl) (by rfl) (.inl (Bl.refl _).drew) (fun h k=>h.trans k)
  (fun j v u=>match j with|0=>v=.slice (some ⟨ge,0,none⟩) n n|1=>v=.slice ph n ch|2=>v=.int .i64 n|3=>∃ g',v=.slice (some ⟨g',0,none⟩) n n∧Rq 1 cI u (.slice (some ⟨g',0,none⟩) n n) (linJ n fun _=>(0:Int))∧g'≠ge|4=>∃ q c,v=.slice q n c∧Rw 4 cellsN u (.slice q n c) (linJ n fun _=>wholeN 0)∧∀ g',(Value.slice q n c).ownBlock=some g'→g'≠ge|5=>v=.int .i64 n∧RwZ 4 cellsN u w3.heap.size (.slice (some ⟨ge,0,none⟩) n n) (linJ n fun _=>wholeN 0)|_=>False)
  (by
   intro j v u u' hR0 hb h;split at h<;>first|exact h|(obtain ⟨g',e,h1,h2⟩:=h;exact ⟨g',e,rq_butN h1 hb.but (fun g hg=>by cases hg;exact h2),h2⟩)|(obtain ⟨q,c,e,h1,h2⟩:=h;exact ⟨q,c,e,h1.but hb.but h2,h2⟩)|exact ⟨h.1,hb.rwz h.2⟩) ?step ?fin)
 case step =>
  intro j o act u ho hsz hu hfr hin hnon;have hj:j<6:=l9 ho;have s7':=SEVEN u hu;have hgeu:ge<u.heap.size:=GEU u hu;rcases (by omega:j=0∨j=1∨j=2∨j=3∨j=4∨j=5) with rfl|rfl|rfl|rfl|rfl|rfl
  ·obtain rfl:=o9 ho;have i7:_=Value.pointer (some ⟨w.heap.size+1+1+1,0,none⟩):=hfr 7 (by decide);exact pw9 (by simp only [seval,i7];simp [go_sem,s7']) ⟨_,rfl,rfl,.inl (Bl.refl _)⟩
  ·obtain rfl:=o9 ho;have i1:_=Value.slice ph n ch:=hfr 1 (by decide);exact pw9 (by simp only [seval,i1];simp [go_sem,hn16]) ⟨_,rfl,rfl,.inl (Bl.refl _)⟩
  ·obtain rfl:=o9 ho;have i34:_=Value.slice ph n ch:=hin ⟨1,.data⟩ (by simp) rfl 34 rfl;exact pw9 (by simp only [execOp,resolve,List.map_toArray,List.map_cons,List.map_nil,i34];simp [invoke,builtin,Builtin.len_,Builtin.lenOf,Result.andThen,go_sem]) ⟨_,rfl,rfl,.inl (Bl.refl _)⟩
  ·obtain rfl:=o9 ho;have i35:_=Value.int .i64 n:=hin ⟨2,.data⟩ (by simp) rfl 35 rfl;obtain ⟨u',hr,hq,hb⟩:=make_zeroON n (by omega) u;exact pw9 (w':=u') (v:=.slice (some ⟨u.heap.size,0,none⟩) n n) (by simp only [execOp,i35];rw [Sem.run_bind,hr];rfl) ⟨_,rfl,⟨u.heap.size,rfl,hq,by have:=hgeu;omega⟩,.inl hb⟩
  ·obtain rfl:=o9 ho;have i36:∃ g',(act.eval (.tmp (36:Nat)))=.slice (some ⟨g',0,none⟩) n n∧Rq 1 cI u (.slice (some ⟨g',0,none⟩) n n) (linJ n fun _=>(0:Int))∧g'≠ge:=hin ⟨3,.data⟩ (by simp) rfl 36 rfl;obtain ⟨g0,e0,hg,_⟩:=i36;refine ew9 35 #[.slice (some ⟨g0,0,none⟩) n n] (by simp only [seval,e0];simp [invoke,egW,Result.andThen,go_sem]) (whole_linON _ n n (fun _=>(0:Int)) u hg (by omega)) ?_;rintro e w' ⟨q,c,rfl,hR,hF,hb⟩;exact ⟨_,rfl,_,rfl,⟨q,c,rfl,hR,fun g' e=>by have:=hF g' e;have:=hgeu;omega⟩,.inl hb⟩
  ·obtain rfl:=o9 ho;have i33:_=Value.slice (some ⟨ge,0,none⟩) n n:=hin ⟨0,.data⟩ (by simp) rfl 33 rfl;have i37:∃ q c,(act.eval (.tmp (37:Nat)))=.slice q n c∧Rw 4 cellsN u (.slice q n c) (linJ n fun _=>wholeN 0)∧∀ g',(Value.slice q n c).ownBlock=some g'→g'≠ge:=hin ⟨4,.data⟩ (by simp) rfl 37 rfl;obtain ⟨q0,c0',e0,hq,hqn⟩:=i37;obtain ⟨gq,oq,rfl,CQ⟩:=rq_cells0N hq.q (by omega);obtain ⟨hsm,hfz,hnew⟩:=CANZ u hu;exact pw9 (v:=.int .i64 n) (by simp only [execOp,resolve,List.map_toArray,List.map_cons,List.map_nil,i33,e0];simp [invoke,builtin,goInt,run_copy_s (P:=Tryz.prog) u 46 46 _ 52 4 ge 0 n n ⟨gq,oq,none⟩ n c0' n ((linJ n fun _=>wholeN 0).flatMap cellsN) Tryz.underlying46 Tryz.sizeN (by simp) FL CQ hsm hfz ONEC,Result.andThen]) ⟨_,rfl,⟨rfl,hnew⟩,.inr ⟨but_setCells (S:=fun b=>b=ge) (b:=ge) rfl _ _ _ _ (But.refl _ _),hnew⟩⟩
 case fin =>
  intro vs u hu hin hnon;have a0:=hin 0 33 rfl;have a1:=hin 1 34 rfl;have a2:=hin 2 35 rfl;have a3:=hin 3 36 rfl;have a4:=hin 4 37 rfl;have a5:=hin 5 38 rfl;simp only [seval] at a0 a1 a2 a3 a4 a5 ⊢;simp only [a0,a1,a2,a5];obtain ⟨w5,rfl⟩:∃ w5,w5=u:=⟨_,rfl⟩;have bu45:But (fun b=>b=ge) W4 w5:=hu.but;have HE5:=hideP a5.2;have HZ5:=hideP (HZ4.out.but bu45 (fun b hb=>by cases hb;exact gge));have HRW5:=hideP (HRW4.out.but bu45 (fun b hb=>(gwn b hb).1));have z65:MBox w5 (w.heap.size+1+1) n n (some ⟨g,0,none⟩) N c1':=z64.but bu45 (by show ¬ w.heap.size+1+1=ge;omega);have kr5:Box w5 (w.heap.size+1) r:=kr4.but bu45 (by show ¬ w.heap.size+1=ge;omega);have k85:Box w5 (w.heap.size+1+1+1+1) zeroE:=k84.but bu45 (by show ¬ w.heap.size+1+1+1+1=ge;omega);have s75:w5.cell? ⟨w.heap.size+1+1+1,0,none⟩=some (.slice (some ⟨ge,0,none⟩) n n):=(bu45.cell _ _ (by omega) (by show ¬ w.heap.size+1+1+1=ge;omega)).trans s7w;have f75:w5.frozen? ⟨w.heap.size+1+1+1,0,none⟩=false:=(bu45.froz _ _ (by omega) (by show ¬ w.heap.size+1+1+1=ge;omega)).trans f7w;have B5:Bl w w5:=bu45.bl B4 (fun i hi=>by have:i=ge:=hi;omega);have w5s:W4.heap.size≤w5.heap.size:=bu45.size;clear a0 a1 a2 a3 a4 a5 hin hnon SEVEN GEU CANZ s7w f7w z64 kr4 k84;obtain ⟨W5,hW5⟩:∃ W5,W5=((((w5.setCell ⟨w.heap.size+1+1+1+1,0,none⟩ (.int .i64 r.v)).setCell ⟨w.heap.size+1+1+1+1,1,none⟩ (.int .i64 r.l)).setCell ⟨w.heap.size+1+1+1+1,2,none⟩ (.int .i64 r.h)).setCell ⟨w.heap.size+1+1+1+1,3,none⟩ (.bool r.bad)):=⟨_,rfl⟩;have bu5:But (fun b=>b=w.heap.size+1+1+1+1) w5 W5:=by rw [hW5];exact butRN _ _ _ _ _ _
  have kA:Box W5 (w.heap.size+1+1+1+1) r:=by rw [hW5];exact k85.fill r
  have HZ6:=hideP (HZ5.out.but bu5 (fun b hb=>by cases hb;show ¬ g=w.heap.size+1+1+1+1;omega));have HE6:=hideP (HE5.out.but bu5 (fun b hb=>by cases hb;show ¬ ge=w.heap.size+1+1+1+1;omega));have HRW6:=hideP (HRW5.out.but bu5 (fun b hb=>by have:=(gwn b hb).2.2;show ¬ b=w.heap.size+1+1+1+1;omega));have z66:MBox W5 (w.heap.size+1+1) n n (some ⟨g,0,none⟩) N c1':=z65.but bu5 (by omega);have s76:W5.cell? ⟨w.heap.size+1+1+1,0,none⟩=some (.slice (some ⟨ge,0,none⟩) n n):=(bu5.cell _ _ (by omega) (by omega)).trans s75;have f76:W5.frozen? ⟨w.heap.size+1+1+1,0,none⟩=false:=(bu5.froz _ _ (by omega) (by omega)).trans f75;have B6:Bl w W5:=bu5.bl B5 (fun i hi=>by have:i=w.heap.size+1+1+1+1:=hi;omega);have w6s:w5.heap.size≤W5.heap.size:=bu5.size;obtain ⟨c0,c1,c2,c3,f0,f1,f2,f3,_⟩:=kr5;obtain ⟨d0,d1,d2,d3,g0,g1,g2,g3,_⟩:=k85;have HW5:=hideP hW5;clear hW5 z65 s75 f75;go_wp2_with fail
  rw [←HW5.out];refine (backwardN n pw cw (wO kdN n s h) W5 HRW6.out).mono ?_;rintro e w6 ⟨rfl,hkb,hw6⟩;have b56:Bl W5 w6:=by rw [hw6];exact (Bl.refl _).alloc _
  have h6s:w6.heap.size=W5.heap.size+1:=by rw [hw6];simp
  have HKB:=hideP hkb;clear hw6 hkb c0 c1 c2 c3 f0 f1 f2 f3 d0 d1 d2 d3 g0 g1 g2 g3;have I0:StIN w n N g c1' ge w6.heap.size ⟨s,fun _=>wholeN 0,r⟩ w6:=⟨(HZ6.out.later b56).base (by omega),(HE6.out.later b56).base (by omega),kA.later b56,z66.later b56,(bl_cell b56 _ _ (by omega)).trans s76,(bl_froz b56 _ _ (by omega)).trans f76,B6.trans b56,Nat.le_refl _⟩;go_wp2_with fail
  refine (wpIn_wide (n:=8)).1 (rangeW rfl (by omega) (gf:=143) (lb:=#[.pointer (some ⟨W5.heap.size,0,none⟩)]) rfl trivial (enters_of Tryz.func143 (by kernel_rfl) rfl)
   (seqBN 7 W5.heap.size n pw cw (wO kdN n s h) (But (fun b=>b=g∨b=ge∨b=w.heap.size+1+1+1+1∨w6.heap.size≤b)) (fun {A C} hk hb=>keptB_butN hk hb (by show ¬ (W5.heap.size=g∨W5.heap.size=ge∨W5.heap.size=w.heap.size+1+1+1+1∨w6.heap.size≤W5.heap.size);omega) (fun b hb=>by have:=gwn b hb;have:=HRW6.out.lt b hb;show ¬ (b=g∨b=ge∨b=w.heap.size+1+1+1+1∨w6.heap.size≤b);omega)) w6 (by omega) (fun U hU=>⟨(bl_cell hU _ _ (by omega)).trans HKB.out.box,HKB.out.row.later hU⟩))
   (fun x A B h=>by rw [h.1];exact Bl.refl _) (fun h k=>h.trans k) (fun U l o o' hl _ _ _=>but_putObj9N _ (.inr (.inr (.inr hl)))) (fun _=>rfl)
   (fun pre U=>StIN w n N g c1' ge w6.heap.size (foldO kdN n ⟨s,fun _=>wholeN 0,r⟩ pre) U) (fun _ _ _=>False) (fun pre X Y row hs hg hr=>sti_ownN hs n1 HNN.out (by omega) hg hr) (fun _ _ _ _ _ hs _ _=>hs) I0
   (fun a pre x a' U=>x.1<n∧∃ b,Box U b x.2∧w6.heap.size≤b∧a'={ tmps:=((((a.tmps.setIfInBounds 42 (.int .i64 x.1)).setIfInBounds 43 (enV x.2)).setIfInBounds 11 (.int .i64 x.1)).setIfInBounds 12 (.pointer (some ⟨b,0,none⟩))),defers:=[] })
   (fun pre x a' _ X Y row hs hg hr=>by
    obtain ⟨h1,b,h2,h3,h4⟩:=hs;exact ⟨h1,b,box_blk9N h2 (own_blk9N h2.c0 hg (fun r e=>(hr r e).2)) hg.size,h3,h4⟩)
   ?assign ?body ?done ?stop)
  case assign =>
   rintro l pre x W0 U K' hI0 ⟨rfl,hx⟩ hI hK';have HK3:=hideP hK';have HI:=hideP hI;clear hK' hI hI0;have kB:Bl U (U.alloc (.cells #[.int .i64 x.2.v,.int .i64 x.2.l,.int .i64 x.2.h,.bool x.2.bad] 52)):=(Bl.refl _).alloc _;have hU:=HI.out.sz
   gi_wp2
   refine HK3.out _ _ (kB.keeps _) (But.of_bl kB) (sti_laterN HI.out kB) ⟨hx,U.heap.size,Box.new U x.2 _,hU,?_⟩;simp only [List.setIfInBounds_toArray,List.set_cons_zero,List.set_cons_succ]
  case stop =>
   rintro D' c pre U _ _ h _;exact h.elim
  case body =>
   rintro l pre x a' U hl' ⟨rl,hr'⟩ hI ⟨hx,b,hbx,hbl,rfl⟩ hlt;simp only [List.setIfInBounds_toArray,List.set_cons_zero,List.set_cons_succ];obtain ⟨T,hT⟩:∃ T,T=foldO kdN n ⟨s,fun _=>wholeN 0,r⟩ pre:=⟨_,rfl⟩;rw [←hT] at hI;have HI:=hideP hI;have HT:=hideP hT;obtain ⟨m0,m1,m2,_,_,_,_⟩:=hI.m;have l0:=hI.l;obtain ⟨c0,c1,c2,c3,f0,f1,f2,f3,_⟩:=hbx;obtain ⟨d0,d1,d2,d3,g0,g1,g2,g3,_⟩:=hI.a;obtain ⟨nb,hnb⟩:∃ y,y=bO kdN T.a x.2:=⟨_,rfl⟩;have CH:=hideP (by have:=rChangeN n N g c1' ge n x.1 w.heap.size T x.2 U hd HNN.out hI.s hI.e gge hx;rw [←hnb] at this;exact this);have HNB:=hideP hnb;clear hI hT hnb hr'
   gi_wp2_with fail
   refine ⟨trivial,?_⟩;refine (CallsIn.inRound l (callsIn_wide.2 CH.out)).mono ?_;rintro e w9 ⟨rfl,hs9,he9,bt9⟩;have bt9':But (fun b=>b=g∨b=ge) U w9:=bt9;have hU:=HI.out.sz;have kA9:Box w9 (w.heap.size+1+1+1+1) T.a:=HI.out.a.but bt9 (by show ¬ (w.heap.size+1+1+1+1=g∨w.heap.size+1+1+1+1=ge);omega);have HS9:=hideP hs9;have HE9:=hideP he9;clear m0 m1 m2 l0 c0 c1 c2 c3 f0 f1 f2 f3 d0 d1 d2 d3 g0 g1 g2 g3 hs9 he9 bt9;obtain ⟨d0,d1,d2,d3,g0,g1,g2,g3,_⟩:=id kA9
   gi_wp2
   obtain ⟨W9,hW9⟩:∃ W9,W9=((((w9.setCell ⟨w.heap.size+1+1+1+1,0,none⟩ (.int .i64 nb.v)).setCell ⟨w.heap.size+1+1+1+1,1,none⟩ (.int .i64 nb.l)).setCell ⟨w.heap.size+1+1+1+1,2,none⟩ (.int .i64 nb.h)).setCell ⟨w.heap.size+1+1+1+1,3,none⟩ (.bool nb.bad)):=⟨_,rfl⟩;have bu9:But (fun b=>b=w.heap.size+1+1+1+1) w9 W9:=by rw [hW9];exact butRN _ _ _ _ _ _
   have kf9:Box W9 (w.heap.size+1+1+1+1) nb:=by rw [hW9];exact kA9.fill nb
   have b9:But (fun b=>b=g∨b=ge∨b=w.heap.size+1+1+1+1) U W9:=(bt9'.mono (fun i h=>by rcases h with h|h;exact .inl h;exact .inr (.inl h))).trans (bu9.mono (fun i h=>.inr (.inr h)));rw [←hW9];refine ⟨⟨b9.size,fun k o hB hk _=>(b9.block k (Array.getElem?_eq_some_iff.1 hk).1 (by show ¬ (k=g∨k=ge∨k=w.heap.size+1+1+1+1);omega)).trans hk⟩,b9.mono (fun i h=>by rcases h with h|h|h;exact .inl h;exact .inr (.inl h);exact .inr (.inr (.inl h))),?_⟩;show StIN w n N g c1' ge w6.heap.size (foldO kdN n ⟨s,fun _=>wholeN 0,r⟩ (pre++[x])) W9;rw [foldO_next,←HT.out];refine ⟨HS9.out.but bu9 (fun b hb=>by cases hb;show ¬ g=w.heap.size+1+1+1+1;omega),HE9.out.but bu9 (fun b hb=>by cases hb;show ¬ ge=w.heap.size+1+1+1+1;omega),?_,HI.out.m.but b9 (by show ¬ (w.heap.size+1+1=g∨w.heap.size+1+1=ge∨w.heap.size+1+1=w.heap.size+1+1+1+1);omega),(b9.cell _ _ (cell_lt9N HI.out.l) (by show ¬ (w.heap.size+1+1+1=g∨w.heap.size+1+1+1=ge∨w.heap.size+1+1+1=w.heap.size+1+1+1+1);omega)).trans HI.out.l,(b9.froz _ _ (cell_lt9N HI.out.l) (by show ¬ (w.heap.size+1+1+1=g∨w.heap.size+1+1+1=ge∨w.heap.size+1+1+1=w.heap.size+1+1+1+1);omega)).trans HI.out.lf,b9.bl HI.out.bl (fun i h=>by have h':i=g∨i=ge∨i=w.heap.size+1+1+1+1:=h;omega),Nat.le_trans HI.out.sz b9.size⟩;show Box W9 _ (bO kdN T.a x.2);rw [←HNB.out];exact kf9
  case done =>
   rintro Dm zs U hD hS hI hKD;subst hS;obtain ⟨T,hT⟩:∃ T,T=runO kdN n s h r n:=⟨_,rfl⟩;rw [show foldO kdN n ⟨s,fun _=>wholeN 0,r⟩ (zsBN n (wO kdN n s h) n)=T from by rw [hT];exact foldO_run kdN n s h r n] at hI;have HI:=hideP hI;have HKD:=hideP hKD;have HTR:=hideP hT;obtain ⟨ta,hta⟩:∃ y,y=T.a:=⟨_,rfl⟩;have G0:GdON w n N g c1' ge ta U:=⟨hI.m,hI.l,hI.lf,by rw [hta];exact hI.a⟩;have HTA:=hideP hta;clear hT hta hI hKD;go_wp2_with fail
   refine (wpIn_wide (n:=8)).1 (region_r fm (RelGN w n N g c1' ge ta) [some 50,some 51,some 52,none,none,none] (by kernel_rfl) (by rfl) (RelGN.refl0 _) (fun h k=>h.trans k)
    (fun j v u=>match j with|0=>v=mV n n (some ⟨g,0,none⟩) N c1'|1=>v=.slice (some ⟨ge,0,none⟩) n n|2=>v=enV ta|3=>True|4=>True|5=>True|_=>False)
    (fun j v u u' _ _ h=>h) ?step ?fin)
   case step =>
    intro j o act u ho hsz hu hfr hin hnon;have hj:j<6:=l9 ho;obtain ⟨⟨m0,m1,m2,x0,x1,x2,_⟩,l0,lf0,⟨d0,d1,d2,d3,g0,g1,g2,g3,_⟩⟩:=hu.2 G0;rcases (by omega:j=0∨j=1∨j=2∨j=3∨j=4∨j=5) with rfl|rfl|rfl|rfl|rfl|rfl
    ·obtain rfl:=o9 ho;have i6:_=Value.pointer (some ⟨w.heap.size+1+1,0,none⟩):=hfr 6 (by decide);exact pw9 (by simp only [seval,i6];simp [go_sem,m0,m1,m2]) ⟨_,rfl,rfl,RelGN.refl u⟩
    ·obtain rfl:=o9 ho;have i7:_=Value.pointer (some ⟨w.heap.size+1+1+1,0,none⟩):=hfr 7 (by decide);exact pw9 (by simp only [seval,i7];simp [go_sem,l0]) ⟨_,rfl,rfl,RelGN.refl u⟩
    ·obtain rfl:=o9 ho;have i8:_=Value.pointer (some ⟨w.heap.size+1+1+1+1,0,none⟩):=hfr 8 (by decide);exact pw9 (by simp only [seval,i8];simp [go_sem,d0,d1,d2,d3]) ⟨_,rfl,rfl,RelGN.refl u⟩
    ·obtain rfl:=o9 ho;have i6:_=Value.pointer (some ⟨w.heap.size+1+1,0,none⟩):=hfr 6 (by decide);have i50:_=mV n n (some ⟨g,0,none⟩) N c1':=hin ⟨0,.data⟩ (by simp) rfl 50 rfl;exact sw9 (by simp only [execOp,i6,i50];simp [go_sem,m0,m1,m2,x0,x1,x2]) ⟨_,rfl,trivial,RelGN.m u⟩
    ·obtain rfl:=o9 ho;have i7:_=Value.pointer (some ⟨w.heap.size+1+1+1,0,none⟩):=hfr 7 (by decide);have i51:_=Value.slice (some ⟨ge,0,none⟩) n n:=hin ⟨1,.data⟩ (by simp) rfl 51 rfl;exact sw9 (by simp only [execOp,i7,i51];simp [go_sem,l0,lf0]) ⟨_,rfl,trivial,RelGN.l u⟩
    ·obtain rfl:=o9 ho;have i8:_=Value.pointer (some ⟨w.heap.size+1+1+1+1,0,none⟩):=hfr 8 (by decide);have i52:_=enV ta:=hin ⟨2,.data⟩ (by simp) rfl 52 rfl;exact sw9 (by simp only [execOp,i8,i52];simp [go_sem,d0,d1,d2,d3,g0,g1,g2,g3]) ⟨_,rfl,trivial,RelGN.a u⟩
   case fin =>
    intro vs u hu hin hnon;have a0:=hin 0 50 rfl;have a1:=hin 1 51 rfl;have a2:=hin 2 52 rfl;have a3:=hnon 3 rfl;have a4:=hnon 4 rfl;have a5:=hnon 5 rfl;simp only [seval] at a0 a1 a2 a3 a4 a5 ⊢;simp only [a0,a1,a2];obtain ⟨W9,rfl⟩:∃ W9,W9=u:=⟨_,rfl⟩;have bg:But (fun b=>b=w.heap.size+1+1∨b=w.heap.size+1+1+1∨b=w.heap.size+1+1+1+1) U W9:=hu.1;have G9:=hu.2 G0;have hK9:W9.heap[Dm]?=some (.deferred (some [])):=(bg.block Dm (Array.getElem?_eq_some_iff.1 HKD.out).1 (by show ¬ (Dm=w.heap.size+1+1∨Dm=w.heap.size+1+1+1∨Dm=w.heap.size+1+1+1+1);omega)).trans HKD.out;have HS9:=hideP (HI.out.s.but bg (fun b hb=>by cases hb;show ¬ (g=w.heap.size+1+1∨g=w.heap.size+1+1+1∨g=w.heap.size+1+1+1+1);omega));have HE9:=hideP (HI.out.e.but bg (fun b hb=>by cases hb;show ¬ (ge=w.heap.size+1+1∨ge=w.heap.size+1+1+1∨ge=w.heap.size+1+1+1+1);omega));have B9:Bl w W9:=bg.bl HI.out.bl (fun i h=>by have h':i=w.heap.size+1+1∨i=w.heap.size+1+1+1∨i=w.heap.size+1+1+1+1:=h;omega);clear a0 a1 a2 a3 a4 a5 hin hnon;go_wp2;refine ⟨by simp,.inl ⟨_,_,rfl,run_takeDeferred hK9,?_⟩⟩;have gk:=grownBy_putObj' W9 Dm (.deferred none);have gr:∀ r,some Dm=some r→∃ o:Obj,W9.heap[r]?=some o∧o.isCells=false:=fun r e=>by cases e;exact ⟨_,hK9,rfl⟩
    have ne1:mk n n T.s≠[]:=fun e=>by have:=congrArg List.length e;rw [mk_len] at this;have h2:0<n*n:=Nat.mul_pos n1 n1;simp at this;omega
    have ne2:linJ n T.e≠[]:=fun e=>by have:=congrArg List.length e;rw [linJ_len] at this;simp at this;omega
    have d0:=cell_kept G9.m.c0 gk gr;have d1:=cell_kept G9.m.c1 gk gr;have d2:=cell_kept G9.m.c2 gk gr;have e0:=cell_kept G9.l gk gr;have q0:=cell_kept G9.a.c0 gk gr;have q1:=cell_kept G9.a.c1 gk gr;have q2:=cell_kept G9.a.c2 gk gr;have q3:=cell_kept G9.a.c3 gk gr;refine ⟨.tuple #[mV n n (some ⟨g,0,none⟩) N c1',.slice (some ⟨ge,0,none⟩) n n,enV ta],?_,⟨g,c1',ge,n,by rw [←HTR.out,←HTA.out],⟨?_,?_⟩,?_⟩⟩
    ·simp [results,Tryz.f74,go_sem,d0,d1,d2,e0,q0,q1,q2,q3]
    ·rw [←HTR.out];exact HS9.out.own cellsN_len (by decide) ne1 gk gr
    ·rw [←HTR.out];exact HE9.out.own cellsN_len (by decide) ne2 gk gr
    ·exact Below.trans B9 (belowK_b (w:=w) (Nat.le_refl _) W9 Dm _ _ (by omega) hK9 rfl rfl)
set_option maxHeartbeats 1000000 in
theorem rShares0N (v:Value) (xs:List En) (by_:En) (w:World) (h:Rw 4 cellsN w v xs) (hl:xs.length≤1000000) :
  Calls Tryz.prog 75 #[v,enV by_] w fun e w'=>∃ u,e=.returned u∧Rw 4 cellsN w' u (xs.map fun x=>divE x by_)∧Fresh w.heap.size u∧Bl w w':=by
 have iv:=Tryz.mDivN;obtain ⟨i0,hi,hz0,hz1,hz2⟩:=info_parts Tryz.info_N;have x0:=Box.new w by_ 52;rcases h with ⟨rfl,rfl⟩|⟨b,o,cap,rfl,hc,hb,hx⟩
 ·go_enter Tryz.func75,Tryz.ntmps75;go_wp2_with (at_make;refine wpList_make_own _ rfl _ _ 46 rfl w.heap.size 52 i0 (.agg #[.int .i64 0,.int .i64 0,.int .i64 0,.bool false]) 4 Tryz.underlying46 hi hz0 hz1 .i64 .i64 _ 0 rfl rfl (by simp) (by rw [hz2];omega) (by unfold maxLen;omega) (by simp) ?_;intro w0 hown0 hgrow0)
  rw [World.size_alloc] at hown0;have hB0:Bl w w0:=Below.grown (Below.alloc (Bl.refl w) (Nat.le_refl _) _) hgrow0 (by simp) (fun k e=>by cases e)
  go_loopw [5,13] (fun v i wr=>i=.int .i64 0∧wr.ownsRow w.heap.size 52 4 v 0 []∧Bl w wr) (fun _ _ _=>0)
  case atStart=>exact ⟨rfl,hown0,hB0⟩
  case round =>
   obtain ⟨rfl,hown,hB⟩:=hrel;go_wp2;go_ret;exact ⟨_,rfl,Rw.of_own cellsN_len (xs:=[]) hown,fresh_ownN hown (Nat.le_refl _),hB⟩
 ·have HX:=hideP hx;clear hx
  go_enter Tryz.func75,Tryz.ntmps75;go_wp2_with (at_make;refine wpList_make_own _ rfl _ _ 46 rfl (w.heap.size+1) 52 i0 (.agg #[.int .i64 0,.int .i64 0,.int .i64 0,.bool false]) 4 Tryz.underlying46 hi hz0 hz1 .i64 .i64 _ xs.length rfl rfl (by simp) (by rw [hz2];omega) (by unfold maxLen;omega) (by simp) ?_;intro w0 hown0 hgrow0)
  rw [World.size_alloc] at hown0;have hB1:Bl (w.alloc (.cells #[.int .i64 by_.v,.int .i64 by_.l,.int .i64 by_.h,.bool by_.bad] 52)) w0:=Below.grown (Bl.refl _) hgrow0 (Nat.le_refl _) (fun k e=>by cases e);have hB0:Bl w w0:=((Bl.refl w).alloc _).trans hB1
  go_loopw [5,13] (fun v i wr=>∃ k:Nat,i=.int .i64 k∧k≤xs.length∧Box wr w.heap.size by_∧wr.ownsRow (w.heap.size+1) 52 4 v ((xs.take k).map fun x=>divE x by_).length (((xs.take k).map fun x=>divE x by_).flatMap cellsN)∧Bl w wr) (fun _ i _=>xs.length-(intOf i).toNat)
  case atStart=>exact ⟨0,rfl,Nat.zero_le _,x0.later hB1,hown0,hB0⟩
  case round =>
   obtain ⟨k,rfl,hk,bx,hown,hB⟩:=hrel;by_cases hlt:k<xs.length
   ·obtain ⟨x,hx⟩:∃ x,xs[k]?=some x:=⟨_,List.getElem?_eq_getElem hlt⟩;have CX:∀ j u,(cellsN x)[j]?=some u→wr.cell? ⟨b,o+k*4+j,none⟩=some u:=fun j u hu=>(bl_cell hB _ _ hb).trans (HX.out k x hx j u hu)
    have y0:wr.cell? ⟨b,o+k*4,none⟩=some (.int .i64 x.v):=CX 0 _ rfl;have y1:wr.cell? ⟨b,o+k*4+1,none⟩=some (.int .i64 x.l):=CX 1 _ rfl;have y2:wr.cell? ⟨b,o+k*4+2,none⟩=some (.int .i64 x.h):=CX 2 _ rfl;have y3:wr.cell? ⟨b,o+k*4+3,none⟩=some (.bool x.bad):=CX 3 _ rfl;clear CX;obtain ⟨c0,c1,c2,c3,f0,f1,f2,f3,lt⟩:=id bx;have HT:=hideP (show (xs.take (k+1)).map (fun x=>divE x by_)=(xs.take k).map (fun x=>divE x by_)++[divE x by_] by rw [List.take_add_one,hx];simp);have HK:=hideP (show ((xs.take k).map fun x=>divE x by_).length=k by simp;omega);generalize hys:(xs.take k).map (fun x=>divE x by_)=ys at *;clear hys;go_wp2_with fail
    refine (ediv_any _ _ _).mono ?_;rintro e w2 ⟨rfl,h2⟩;have bl2:Bl wr w2:=((Bl.refl _).alloc _).trans h2;generalize divE x by_=r at *;clear y0 y1 y2 y3 c0 c1 c2 c3;replace hown:=own_blN hown bl2;replace hB:=hB.trans bl2;have bx2:=bx.later bl2;have hkk:=HK.out;go_wp2_with (at_builtin;refine wpList_append_own _ rfl _ _ 46 rfl (w.heap.size+1) 52 i0 (.agg #[.int .i64 0,.int .i64 0,.int .i64 0,.bool false]) 4 32 Tryz.underlying46 hi hz0 hz1 hz2 rfl (by decide) _ _ _ rfl (hown.alloc _) ⟨_,0,none⟩ 1 1 (cellsN r) rfl rfl (newN_cells _ _ _) (oneN_cells _) (by unfold maxLen;omega) (by omega) (by have:=bx2.lt;simp;omega) ?_;intro v' w1 hown' hgrow _)
    have R:=ownN_step' (n₀:=w.heap.size+1) hB (by omega) hown hown' hgrow;have bx3:=bx2.grown ((Bl.refl _).alloc _) hown hgrow (by omega);clear hown hown' hgrow;go_wp2;go_roundw
    case rel=>exact ⟨k+1,by simp,hlt,bx3,by rw [HT.out];exact R.2,R.1⟩
    case measure=>simp [intOf];omega
   ·have hk':k=xs.length:=by omega
    subst hk';rw [List.take_length] at hown;have R:=hideP (Rw.of_own cellsN_len hown);have FR:=hideP (fresh_ownN hown (Nat.le_succ _));clear hown;go_wp2;go_ret;exact ⟨_,rfl,R.out,FR.out,hB⟩
theorem rSharesN (n:Nat) (p:Option Addr) (cap:Nat) (u:Nat→En) (a:En) (w:World) (h:Rw 4 cellsN w (.slice p n cap) (linJ n u)) (hl:n≤1000000) :
  Calls Tryz.prog 75 #[.slice p n cap,enV a] w fun e w'=>∃ q c,e=.returned (.slice q n c)∧(Rw 4 cellsN w' (.slice q n c) (linJ n (fun i=>divE (u i) a))∧Fresh w.heap.size (.slice q n c))∧Bl w w':=
 (rShares0N _ _ a w h (by rw [linJ_len];exact hl)).mono fun e w' ⟨v,he,hr,hf,hb⟩=>by
  rw [linJ_map] at hr;obtain ⟨q,c,rfl,_,_⟩:=hr.cut;rw [linJ_len] at hr hf he;exact ⟨q,c,he,⟨hr,hf⟩,hb⟩
end Go.Proofs.YtljmggemdkfbiaaGreat
