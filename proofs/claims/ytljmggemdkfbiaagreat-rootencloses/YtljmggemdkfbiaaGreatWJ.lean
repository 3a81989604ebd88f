/- RootEncloses' mathematics, of a case. -/
import Derived.Test.YtljmggemdkfbiaaGreatWG
import Derived.Test.YtljmggemdkfbiaaGreatWI
import Derived.Laws.EntriesVeiled
import Derived.Test.YtljmggemdkfbiaaGreatWE
import Derived.Maps.OwnIn
import Derived.Test.YtljmggemdkfbiaaGreatWH
import Derived.Test.YtljmggemdkfbiaaGreatWA
import Derived.Test.YtljmggemdkfbiaaGreatWF
import Derived.Test.YtljmggemdkfbiaaGreatWB
import Derived.Test.YtljmggemdkfbiaaGreatWC
import Derived.Test.YtljmggemdkfbiaaGreatWD
namespace Go.Proofs.YtljmggemdkfbiaaGreat
open Go.RowKit Go.Shelf
set_option linter.unusedSimpArgs false
set_option linter.unusedVariables false
attribute [local go_sem] Oper.semAt_some
set_option maxRecDepth 100000 in
set_option maxHeartbeats 4000000 in
theorem tDiagN (n:Nat) (p:Option Addr) (N cap:Nat) (f:Nat→Nat→En) (w:World) (h:Mx 4 cellsN w n n p N cap f) :
  Calls Tryz.prog 156 #[mV n n p N cap] w fun e w'=>∃ p' cap',e=.returned (.slice p' n cap')∧Rw 4 cellsN w' (.slice p' n cap') ((List.range n).map fun i=>f i i)∧Bl w w':=by
 obtain ⟨i0,hi,hz0,hz1,hz2⟩:=info_parts Tryz.info_N;have fm:Tryz.prog.follows .mixedOrders=true:=by kernel_rfl
 refine (callsIn_wide (n:=8)).1 ?_;have hsq:sqB n n N=true:=by unfold sqB;rw [h.fit];simp
 have hd:=h.1;have hn16:=hd.r2;have HXm:=hideP h;clear h;obtain ⟨W,hW⟩:∃ W,W=w.alloc (.cells #[.int .i64 n,.int .i64 n,.slice p N cap] 48):=⟨_,rfl⟩;have b0:Bl w W:=by rw [hW];exact (Bl.refl _).alloc _
 have mx0:MBox W w.heap.size n n p N cap:=by rw [hW];exact MBox.new w _ _ _ _ _ _
 have HW:=hideP hW;clear hW;refine callsIn_of_wp_marks Tryz.func156 rfl trivial ?_ rfl;simp only [Tryz.ntmps156,List.size_toArray,List.length_cons,List.length_nil,Nat.reduceAdd,Nat.reduceSub,Array.replicate_succ,Array.replicate_zero,List.push_toArray,List.append_toArray,List.nil_append,List.cons_append]
 gi_wp2_with fail
 rw [←HW.out];refine ⟨trivial,?_⟩;refine (callsIn_wide.2 (tSquareN _ _ _ _ _ _)).mono ?_;rintro e w5 ⟨rfl,h5⟩;rw [hsq];have mx5:=mx0.later h5;have bw5:Bl w w5:=b0.trans h5;obtain ⟨c0,c1,c2,f0,f1,f2,lt⟩:=id mx5
 gi_wp2_with (gi_at_make;refine wpListIn_make_own _ rfl _ _ 46 rfl w5.heap.size 52 i0 (.agg #[.int .i64 0,.int .i64 0,.int .i64 0,.bool false]) 4 Tryz.underlying46 hi hz0 hz1 .i64 .i64 _ n rfl rfl (by simp) (by rw [hz2];omega) (by unfold maxLen;omega) (by simp) ?_;intro w6 hown0 hgrow0;have mx6:=mbox_block mx5 (hgrow0.block _ mx5.lt nofun) hgrow0.size;clear c0 c1 c2 f0 f1 f2 lt;obtain ⟨c0,c1,c2,f0,f1,f2,lt⟩:=mx6)
 have h56:Bl w5 w6:=⟨hgrow0.os,hgrow0.tape,hgrow0.output,hgrow0.size,fun k hk=>hgrow0.block k hk nofun⟩;have hs6:w5.heap.size≤w6.heap.size:=hgrow0.size;obtain ⟨w6b,hw6b⟩:∃ w6b,w6b=w6.alloc (.cells #[.slice (some ⟨w5.heap.size,0,none⟩) 0 n] 46):=⟨_,rfl⟩;have h6b:Bl w6 w6b:=by rw [hw6b];exact (Bl.refl _).alloc _
 have hs6b:w6b.heap.size=w6.heap.size+1:=by rw [hw6b];simp
 have bl6:Boxed w6b w6.heap.size 46 (.slice (some ⟨w5.heap.size,0,none⟩) 0 n):=by rw [hw6b];exact Boxed.new w6 _ _
 have hown6:w6b.ownsRow w5.heap.size 52 4 (.slice (some ⟨w5.heap.size,0,none⟩) 0 n) 0 []:=own_blN hown0 h6b;have hlt5:w5.heap.size<w6b.heap.size:=by have:=(hown6.lt w5.heap.size rfl).2;exact this
 have HW6:=hideP hw6b;clear hw6b hown0 hgrow0 c0 c1 c2 f0 f1 f2 lt;rw [←HW6.out];refine ⟨trivial,?_⟩;refine (callsIn_wide.2 (mAllN _ _ _ _ _ f _ (HXm.out.later ((bw5.trans h56).trans h6b)))).mono ?_;rintro e w7 ⟨B2,p2,cap5,rfl,hK7,h7⟩;have HK7:=hideP hK7;clear hK7;have hs7:w6.heap.size+1≤w7.heap.size:=by have:=h7.size;omega
 have b57:Below w5.heap.size w5 w7:=(h56.trans h6b).trans h7;have bl7:=boxed_bl bl6 h7;have own7:=own_blN hown6 h7;clear bl6 hown6
 gi_wp2_with fail
 refine rangeV rfl (by omega) (gf:=108) (lb:=#[.pointer (some ⟨B2,0,none⟩)]) rfl trivial (enters_of Tryz.func108 (by kernel_rfl) rfl)
  (seqMN 7 B2 _ w7.heap.size n n p2 N cap5 f w7 (Nat.le_refl _) HK7.out) (fun x A B h=>h.1) (fun h k=>h.trans k) (span_b (Nat.le_refl _)) (fun _=>rfl)
  (fun (pre:List RowX) U=>(∃ v,Boxed U w6.heap.size 46 v∧U.ownsRow w5.heap.size 52 4 v (pre.map fun x:RowX=>f x.1 x.1).length ((pre.map fun x:RowX=>f x.1 x.1).flatMap cellsN)∧(∀ b,v.ownBlock=some b→b<w6b.heap.size∨w7.heap.size≤b))∧(Below w5.heap.size w5 U∧w7.heap.size≤U.heap.size))
  (fun _ _ _=>False)
  (OwnFrom.and (Own.from (holdsRow_own w5.heap.size w6.heap.size 46 52 4 (fun pre:List RowX=>(pre.map fun x:RowX=>f x.1 x.1).length) (fun pre:List RowX=>(pre.map fun x:RowX=>f x.1 x.1).flatMap cellsN) (fun _ v=>∀ b,v.ownBlock=some b→b<w6b.heap.size∨w7.heap.size≤b)) _) (OwnFrom.and (ownFrom_below (Nat.le_refl _) b57.size) (own_size _ _)))
  (fun _ _ _ _ _ hs _ _=>hs)
  ⟨⟨_,bl7,own7,fun b hb=>by cases hb;exact .inl hlt5⟩,b57,Nat.le_refl _⟩
  (fun a x a' U=>Rw 4 cellsN U (rowV n x) (rowM n f x.1)∧(x.1<n∧a'={ tmps:=((((a.tmps.setIfInBounds 14 (.int .i64 x.1)).setIfInBounds 15 (rowV n x)).setIfInBounds 4 (.int .i64 x.1)).setIfInBounds 5 (rowV n x)),defers:=[] }))
  (fun x a' _ X Y row hs hg hr=>⟨rw_own hs.1 hg (fun r e=>(hr r e).2),hs.2⟩)
  ?assign ?body ?done ?stop
 case assign =>
  rintro l pre x W0 U K' _ ⟨hbU,hxR,hrow,hfr,hcc⟩ hI hK';have HK2:=hideP hK';have HI:=hideP hI;clear hK' hI
  gi_wp2
  exact HK2.out _ _ (KeepsFrom.refl _ _) (Span.refl _ _ _) HI.out ⟨hrow,hxR,rfl⟩
 case body =>
  rintro l pre x a' U hl' ⟨r,hr'⟩ ⟨⟨v0,hv0,hrow,hgv⟩,hbU,hsU⟩ ⟨hrx,hxn,rfl⟩ hlt;simp only [List.setIfInBounds_toArray,List.set_cons_zero,List.set_cons_succ]
  gi_wp2_with fail
  have hlen2:(pre.map fun x:RowX=>f x.1 x.1).length≤100000:=by rw [List.length_map];omega
  have hne0:some w6.heap.size≠v0.ownBlock:=hv0.not_row (by decide) hrow;obtain ⟨rb,ro,hp1,hrl,hrc⟩:=rw_cells7 hrx (show 0<n by omega);have hb5:=b57.size;have y0:∀ u,Bl U u→u.cell? ⟨rb,ro+x.1*4,none⟩=some (.int .i64 (f x.1 x.1).v):=fun u hu=>(bl_cell hu _ _ hrl).trans (hrc x.1 _ (rowM_get f x.1 hxn) 0 _ rfl)
  have y1:∀ u,Bl U u→u.cell? ⟨rb,ro+x.1*4+1,none⟩=some (.int .i64 (f x.1 x.1).l):=fun u hu=>(bl_cell hu _ _ hrl).trans (hrc x.1 _ (rowM_get f x.1 hxn) 1 _ rfl)
  have y2:∀ u,Bl U u→u.cell? ⟨rb,ro+x.1*4+2,none⟩=some (.int .i64 (f x.1 x.1).h):=fun u hu=>(bl_cell hu _ _ hrl).trans (hrc x.1 _ (rowM_get f x.1 hxn) 2 _ rfl)
  have y3:∀ u,Bl U u→u.cell? ⟨rb,ro+x.1*4+3,none⟩=some (.bool (f x.1 x.1).bad):=fun u hu=>(bl_cell hu _ _ hrl).trans (hrc x.1 _ (rowM_get f x.1 hxn) 3 _ rfl)
  refine (region_qa fm [some 16,some 17,some 18,some 19,some 20,some 21,some 22,none] 6 (by kernel_rfl) (by rfl)
   (fun j v u=>match j with|0=>v=v0|1=>v=rowV n x|2=>v=.int .i64 x.1|3=>v=.pointer (some ⟨rb,ro+x.1*4,none⟩)|4=>v=enV (f x.1 x.1)|5=>∃ gz,v=.slice (some ⟨gz,0,none⟩) 1 1∧Box u gz (f x.1 x.1)|_=>False)
   (by
    intro j v u u' hb h;split at h<;>first|exact h|(obtain ⟨b,e,h1⟩:=h;exact ⟨b,e,h1.later hb⟩)) (fun vs v u0 u=>∃ g' cap',v=.slice (some ⟨g',0,none⟩) ((pre.map fun x:RowX=>f x.1 x.1).length+1) cap'∧u0.grownBy u v0.ownBlock∧u.ownsRow w5.heap.size 52 4 (.slice (some ⟨g',0,none⟩) ((pre.map fun x:RowX=>f x.1 x.1).length+1) cap') ((pre.map fun x:RowX=>f x.1 x.1).length+1) ((pre.map fun x:RowX=>f x.1 x.1).flatMap cellsN++cellsN (f x.1 x.1))∧(some g'=v0.ownBlock∨g'=u0.heap.size)) (fun vs v u0 u=>∃ wz g' cap',u=wz.setCell ⟨w6.heap.size,0,none⟩ (.slice (some ⟨g',0,none⟩) ((pre.map fun x:RowX=>f x.1 x.1).length+1) cap')∧u0.grownBy wz v0.ownBlock∧wz.ownsRow w5.heap.size 52 4 (.slice (some ⟨g',0,none⟩) ((pre.map fun x:RowX=>f x.1 x.1).length+1) cap') ((pre.map fun x:RowX=>f x.1 x.1).length+1) ((pre.map fun x:RowX=>f x.1 x.1).flatMap cellsN++cellsN (f x.1 x.1))∧(some g'=v0.ownBlock∨g'=u0.heap.size)) ?step ?app ?store ?fin)
  case step =>
   intro j o t act u ho hdt hjs hsz hu hfr hin;have e0:=y0 u hu;have e1:=y1 u hu;have e2:=y2 u hu;have e3:=y3 u hu;rcases (by omega:j=0∨j=1∨j=2∨j=3∨j=4∨j=5) with rfl|rfl|rfl|rfl|rfl|rfl
   ·obtain ⟨rfl,rfl⟩:=o7 ho hdt;have i3:_=Value.pointer (some ⟨w6.heap.size,0,none⟩):=hfr 3 (by decide);exact load_wp _ _ rfl (by rw [i3];exact Tryz.load1N w6.heap.size _ u (boxed_bl hv0 hu).cell) ⟨_,rfl,rfl,Bl.refl _⟩
   ·obtain ⟨rfl,rfl⟩:=o7 ho hdt;have i5:_=rowV n x:=hfr 5 (by decide);exact pl9 (r:=by simp only [seval,i5];simp [go_sem])
   ·obtain ⟨rfl,rfl⟩:=o7 ho hdt;have i4:_=Value.int .i64 x.1:=hfr 4 (by decide);exact pl9 (r:=by simp only [seval,i4];simp [go_sem])
   ·obtain ⟨rfl,rfl⟩:=o7 ho hdt;have i17:_=rowV n x:=hin ⟨1,.data⟩ (by simp) rfl 17 rfl;have i18:_=Value.int .i64 x.1:=hin ⟨2,.data⟩ (by simp) rfl 18 rfl;exact pl9 (r:=by simp only [execOp,i17,i18,rowV,hp1];simp [go_sem,hxn])
   ·obtain ⟨rfl,rfl⟩:=o7 ho hdt;have i19:_=Value.pointer (some ⟨rb,ro+x.1*4,none⟩):=hin ⟨3,.data⟩ (by simp) rfl 19 rfl;exact pl9 (r:=by simp only [execOp,i19];simp [go_sem,e0,e1,e2,e3])
   ·obtain ⟨rfl,rfl⟩:=o7 ho hdt;have i20:_=enV (f x.1 x.1):=hin ⟨4,.data⟩ (by simp) rfl 20 rfl;refine build_wp _ _ rfl (by rw [i20];exact Tryz.build1N _ u) ?_;exact ⟨_,rfl,⟨u.heap.size,rfl,Box.new u _ _⟩,(Bl.refl _).alloc _⟩
  case app =>
   intro o t act u vs ho hdt hsz hu hfr hin;obtain ⟨rfl,rfl⟩:=o7 ho hdt;obtain ⟨i16,k16⟩:act.eval (.tmp (16:Nat))=vs 0∧((vs 0)=v0):=hin 0 16 (by omega) rfl;obtain ⟨i21,k21⟩:act.eval (.tmp (21:Nat))=vs 5∧(∃ gz,(vs 5)=.slice (some ⟨gz,0,none⟩) 1 1∧Box u gz (f x.1 x.1)):=hin 5 21 (by omega) rfl;obtain ⟨gz,eg,bz⟩:=k21;rw [eg] at i21;rw [k16] at i16;refine stepIn_append (.tmp (16:Nat)) (.tmp (21:Nat)) 46 rfl w5.heap.size 52 i0 (.agg #[.int .i64 0,.int .i64 0,.int .i64 0,.bool false]) 4 32 Tryz.underlying46 hi hz0 hz1 hz2 rfl (by decide) v0 (pre.map fun x:RowX=>f x.1 x.1).length ((pre.map fun x:RowX=>f x.1 x.1).flatMap cellsN) i16 (own_blN hrow hu) ⟨gz,0,none⟩ 1 1 (cellsN (f x.1 x.1)) i21 rfl bz.cells (oneN_cells _) (by unfold maxLen;omega) (by omega) (by have:=hu.size;omega) ?_;intro v' w5 hown' hgrow hat;obtain ⟨g',cap',rfl⟩:=ownsRow_succ hown';refine ⟨_,rfl,g',cap',rfl,hgrow,hown',?_⟩;rcases hat with h|h
   ·exact .inl h
   ·exact .inr (by simpa [Value.ownBlock] using h)
  case store =>
   intro o act u0 u vs v ho hsz hu hfr hin hv hpa;obtain rfl:=o9 ho;have i3:_=Value.pointer (some ⟨w6.heap.size,0,none⟩):=hfr 3 (by decide);have i22:act.eval (.tmp (22:Nat))=v:=hv 22 rfl;obtain ⟨g',cap',rfl,hgrow,hown',hat⟩:=hpa;have hbu:=(boxed_bl hv0 hu).kept hgrow hne0;exact sw9 (by simp only [execOp,i3,i22];simp [go_sem,hbu.cell,hbu.frozen]) ⟨rfl,u,g',cap',rfl,hgrow,hown',hat⟩
  case fin =>
   intro vs v u0 u hu hin hpb;obtain ⟨w8,g',cap',rfl,k2,k3,k4⟩:=hpb;have k1:=hu;clear hin;have hvu:=boxed_bl hv0 k1;have hru:=own_blN hrow k1;have hsu:=k1.size;have hu5:w5.heap.size≤u0.heap.size:=by omega
   obtain ⟨hv5,hv6,hr6,hk6,hb6⟩:=boxed_appended hvu (by decide) hru hu5 (by omega) k3 k2;have hg8:=k2.size;refine ⟨(k1.keeps _).trans (hk6.from _),span_appended k1 (by omega) hgv k2 (by omega),⟨_,hv6,?_,?_⟩,?_,?_⟩
   ·rw [List.map_append];simpa [List.flatMap_append] using hr6
   ·intro b hb;have hb':g'=b:=by cases hb;rfl
    subst hb';rcases k4 with h|h
    ·exact hgv _ h.symm
    ·exact .inr (by omega)
   ·exact hbU.trans ((k1.mono (by omega)).trans hb6)
   ·simp;omega
 case done =>
  rintro Dm zs U hD hS ⟨⟨v,hv,hrow,_⟩,hb5,hs7'⟩ hKD;have e:(zs.map fun x:RowX=>f x.1 x.1)=(List.range n).map fun i=>f i i:=by rw [←hS,List.map_map];rfl
  rw [e] at hrow;have RW:=Rw.of_own cellsN_len (ownsRow_putObj hrow (.deferred none) hKD rfl);obtain ⟨p',cap',hv',_,_⟩:=RW.cut;rw [List.length_map,List.length_range] at hv';subst hv';have hcl:=hv.cell;have hbw:Bl w U:=bw5.trans hb5;have HRW:=hideP RW;have HKD:=hideP hKD;clear hrow RW hKD hv
  gi_wp2
  refine ⟨by simp,.inl ⟨_,_,rfl,run_takeDeferred HKD.out,?_⟩⟩;exact ⟨_,results_tmp rfl _ _ _,p',cap',rfl,HRW.out,Below.trans hbw (belowK_b (w:=w) (Nat.le_refl _) U Dm _ _ (by have:=bw5.size;have:=b57.size;omega) HKD.out rfl rfl)⟩
 case stop =>
  rintro D' c pre U _ _ h _;exact h.elim
attribute [local go_sem] Oper.semAt_some
set_option maxRecDepth 100000 in
set_option maxHeartbeats 4000000 in
theorem hSignsN (n:Nat) (p:Option Addr) (N cap:Nat) (f:Nat→Nat→En) (w:World) (h:Mx 4 cellsN w n n p N cap f) :
  Calls Tryz.prog 137 #[mV n n p N cap] w fun e w'=>∃ p' cap',e=.returned (.tuple #[mV n n p' N cap',.bool true])∧(Mx 4 cellsN w' n n p' N cap' (signsH kdN (fun j=>lowN (f j j)) f)∧Fresh w.heap.size (.slice p' N cap'))∧Bl w w':=by
 have fm:Tryz.prog.follows .mixedOrders=true:=by kernel_rfl
 have ms:=Tryz.hSignN;have hd:=h.1;have hn16:=hd.r2;have hn1:=hd.r1;have HN:=hideP h.2.1;have HD:=hideP hd;have hfit:=h.fit;obtain ⟨W,hW⟩:∃ W,W=(w.alloc (.cells #[.int .i64 n,.int .i64 n,.slice p N cap] 48)).alloc (.cells #[.int .i64 0,.int .i64 0,.slice none 0 0] 48):=⟨_,rfl⟩;have b0:Bl w W:=by rw [hW];exact ((Bl.refl _).alloc _).alloc _
 have m0:MBox W w.heap.size n n p N cap:=by rw [hW];exact (MBox.new w _ _ _ _ _ _).later ((Bl.refl _).alloc _)
 have x0:MBox W (w.heap.size+1) 0 0 none 0 0:=by rw [hW];have:=MBox.new (w.alloc (.cells #[.int .i64 n,.int .i64 n,.slice p N cap] 48)) 0 0 none 0 0 48;rw [World.size_alloc] at this;exact this
 have hs0:W.heap.size=w.heap.size+1+1:=by rw [hW];simp
 have DG:=hideP (tDiagN n p N cap f W (h.later b0));have NW:=hideP (fun u (hu:Bl w u)=>mNewZN n n p N cap (mk n n f) u (h.2.2.later hu) hfit (by rw [mk_len,HN.out]));have HW:=hideP hW;clear hW h hd
 go_enter Tryz.func137,Tryz.ntmps137;go_wp2_with fail
 rw [←HW.out];refine DG.out.mono ?_;rintro e w1 ⟨p1,c1,rfl,hr1,h1⟩;obtain ⟨b1,o1,rfl,hb1,DC⟩:∃ b1 o1,p1=some ⟨b1,o1,none⟩∧b1<w1.heap.size∧∀ j,j<n→∀ k u,(cellsN (f j j))[k]?=some u→w1.cell? ⟨b1,o1+j*4+k,none⟩=some u:=by
  rcases hr1 with ⟨_,e0⟩|⟨b1,o1,c,e,_,hb,hx⟩
  ·have:=congrArg List.length e0;simp at this;omega
  ·simp only [Value.slice.injEq] at e;obtain ⟨rfl,_,_⟩:=e;exact ⟨b1,o1,rfl,hb,fun j hj k u hu=>hx j (f j j) (by simp [hj]) k u hu⟩
 have HDC:=hideP DC;have en:((n:Int)==0)=false:=by simp;omega
 have bw1:Bl w w1:=b0.trans h1;have x1:=x0.later h1;obtain ⟨c0,c1',c2,f0,f1,f2,lt⟩:=m0.later h1;clear hr1 DC DG;go_wp2_with fail
 refine (NW.out _ bw1).mono ?_;rintro e w2 ⟨p2,c2',rfl,hz2,h2⟩;obtain ⟨g,hp2,hg1,hg2⟩:∃ g,p2=some ⟨g,0,none⟩∧w1.heap.size≤g∧g<w2.heap.size:=by
  obtain ⟨g,c,e,_,h1,h2,_⟩:=hz2;simp only [Value.slice.injEq] at e;exact ⟨g,e.1,h1,h2⟩
 subst hp2;have HZ:=hideP hz2;obtain ⟨W2,hW2⟩:∃ W2,W2=w2.alloc (.cells #[.int .i64 n,.int .i64 n,.slice (some ⟨g,0,none⟩) N c2'] 48):=⟨_,rfl⟩;have b2:Bl w2 W2:=by rw [hW2];exact (Bl.refl _).alloc _
 have k2:MBox W2 w2.heap.size n n (some ⟨g,0,none⟩) N c2':=by rw [hW2];exact MBox.new w2 _ _ _ _ _ _
 have h12:Bl w1 W2:=h2.trans b2;have x2:=x1.later h12;have hs1:=bw1.size;have hs1':=h1.size;have hs2:=h2.size;have HGW:=hideP (show w.heap.size+2≤g by omega);have HW2:=hideP hW2;clear hW2 hz2 NW c0 c1' c2 f0 f1 f2 lt;go_wp2_with fail
 rw [←HW2.out]
 go_loopw [27] (fun v wr=>∃ j:Nat,v=.int .i64 j∧j≤n∧RwZ 4 cellsN wr w1.heap.size (.slice (some ⟨g,0,none⟩) N c2') (mk n n (sgTo negE lowN j f))∧But (fun b=>b=g) W2 wr) (fun v _=>n-(intOf v).toNat)
 case atStart=>exact ⟨0,rfl,Nat.zero_le _,by rw [mk_congr (fun i j _ _=>show sgTo negE lowN 0 f i j=f i j from if_neg (by omega))];exact HZ.out.later b2,But.refl _ _⟩
 case round =>
  obtain ⟨j,rfl,hj,hr,bt⟩:=hrel;have HR:=hideP hr;clear hr;have kb:=mbox_block k2 (bt.block _ k2.lt (by show ¬ w2.heap.size=g;omega)) bt.size;by_cases hlt:j<n
  ·obtain ⟨x,hx⟩:∃ x,x=f j j:=⟨_,rfl⟩;have DX:=hideP (show ∀ k u,(cellsN x)[k]?=some u→wr.cell? ⟨b1,o1+j*4+k,none⟩=some u from fun k u hu=>((bt.cell b1 _ (Nat.lt_of_lt_of_le hb1 h12.size) (by show ¬ b1=g;omega)).trans (bl_cell h12 _ _ hb1)).trans (HDC.out j hlt k u (by rw [←hx];exact hu)));have x0:wr.cell? ⟨b1,o1+j*4,none⟩=some (.int .i64 x.v):=DX.out 0 _ rfl;have x1:wr.cell? ⟨b1,o1+j*4+1,none⟩=some (.int .i64 x.l):=DX.out 1 _ rfl;have x2:wr.cell? ⟨b1,o1+j*4+2,none⟩=some (.int .i64 x.h):=DX.out 2 _ rfl;have x3:wr.cell? ⟨b1,o1+j*4+3,none⟩=some (.bool x.bad):=DX.out 3 _ rfl;have hb1r:b1<wr.heap.size:=Nat.lt_of_lt_of_le (Nat.lt_of_lt_of_le hb1 h12.size) bt.size;have HX:=hideP hx;have SG:=hideP (show lowN x=decide (signE x<0) from rfl);have SGC:=hideP (fun u=>signE_any x u);obtain ⟨lo,hlo⟩:∃ lo,lo=lowN x:=⟨_,rfl⟩;rw [←hlo] at SG;have HLO:=hideP hlo;clear hx hlo;generalize signE x=sg at *;obtain ⟨W3,hW3⟩:∃ W3,W3=wr.alloc (.cells #[.int .i64 x.v,.int .i64 x.l,.int .i64 x.h,.bool x.bad] 52):=⟨_,rfl⟩;have b3:Bl wr W3:=by rw [hW3];exact (Bl.refl _).alloc _
   have HW3:=hideP hW3;clear hW3;go_wp2_with fail
   rw [←HW3.out];refine (SGC.out _).mono ?_;rintro e w3 ⟨rfl,h3⟩;have h3':Bl wr w3:=b3.trans h3;have bt3:But (fun b=>b=g) W2 w3:=bt.trans (But.of_bl h3');clear x0 x1 x2 x3;by_cases hs:sg<0
   ·have hlo:lo=true:=by rw [SG.out];exact decide_eq_true hs
    obtain ⟨c0,c1',c2,f0,f1,f2,lt⟩:=kb.later h3';have NG:=hideP (hNegateN n g N c2' (sgTo negE lowN j f) w3 w1.heap.size HD.out HN.out (HR.out.later h3') j hlt);rw [mk_congr (fun i c hi hc=>show negTo negE j n (sgTo negE lowN j f) i c=sgTo negE lowN (j+1) f i c from sgTo_yes negE lowN (by rw [←HX.out,←HLO.out];exact hlo) hi)] at NG;go_wp2_with fail
    refine NG.out.mono ?_;rintro e w4 ⟨⟨v4,rfl⟩,hz4,bt4⟩;have HZ4:=hideP hz4;have bt4':But (fun b=>b=g) W2 w4:=bt3.trans bt4;clear hz4 NG c0 c1' c2 f0 f1 f2 lt;go_wp2;go_roundw
    case rel=>exact ⟨j+1,by simp,hlt,HZ4.out,bt4'⟩
    case measure=>simp [intOf];omega
   ·have hlo:lo=false:=by rw [SG.out];exact decide_eq_false hs
    have HZ3:=hideP (HR.out.later h3');rw [mk_congr (fun i c hi hc=>show sgTo negE lowN j f i c=sgTo negE lowN (j+1) f i c from (sgTo_no negE lowN (by rw [←HX.out,←HLO.out];exact hlo)).symm)] at HZ3;go_wp2;go_roundw
    case rel=>exact ⟨j+1,by simp,hlt,HZ3.out,bt3⟩
    case measure=>simp [intOf];omega
  ·obtain rfl:j=n:=by omega
   obtain ⟨d0,d1,d2,g0,g1,g2,lt'⟩:=kb;obtain ⟨c0,c1',c2,f0,f1,f2,lt⟩:=mbox_block x2 (bt.block _ x2.lt (by show ¬ w.heap.size+1=g;omega)) bt.size;have RES:=hideP (show Mx 4 cellsN wr j j (some ⟨g,0,none⟩) N c2' (signsH kdN (fun i=>lowN (f i i)) f) from ⟨HD.out,HN.out,by
    rw [mk_congr (fun i c hi hc=>show signsH kdN (fun i=>lowN (f i i)) f i c=sgTo negE lowN j f i c from (sgTo_all negE lowN hc).symm)];exact HR.out.rw.q⟩)
   have BR:Bl w wr:=bt.bl (bw1.trans h12) (fun i e=>by show w.heap.size≤i;have:i=g:=e;omega);clear HR;go_wp2;simp [bodyPost,results,Tryz.results137,go_sem,c0,c1',c2];exact ⟨_,_,⟨rfl,rfl⟩,⟨mx_ne7 RES.out (fun b hb=>by have e:g=b:=Option.some.inj hb;have:=HGW.out;omega) _ _ _,fun b hb=>by have e:g=b:=Option.some.inj hb;have:=HGW.out;omega⟩,Bl.put3 BR (Nat.le_succ _) _ _ _⟩
attribute [local go_sem] Oper.semAt_some
def foldN (R C:Nat) (f:Nat→Nat→En):Nat→Nat→En:=signsH kdN (fun j=>lowN (foldL kdN lowN C f R j j)) (foldL kdN lowN C f R)
theorem Tryz.frontN (b n cap hi:Nat) (w:World) (h1:hi≤cap) (h2:0<cap):(Instr.sliceAt 46 (.slice (some ⟨b,0,none⟩) n cap) none (some (.int .i64 hi)) none).run Tryz.prog w=.ok (.slice (some ⟨b,0,none⟩) hi cap) w:=by
 have hu:Tryz.prog.underlying 46=some (.slice (Tryz.prog.elem 46)):=by kernel_rfl
 obtain ⟨i0,hi0,hz0,hz1,hz2⟩:=info_parts Tryz.info_N;have he:Tryz.prog.elem 46=52:=by kernel_rfl
 rw [run_sliceAt_slice (h:=hu),run_slice_h (ht:=hu) (h0:=by omega) (h2:=by omega),he];have hcm:¬ cap=0:=by omega
 simp [sizeOf,typeInfo,hi0,sliced,Result.andThen,hz1,hcm,Addr.add]
set_option maxRecDepth 100000 in
set_option maxHeartbeats 4000000 in
theorem hFoldAllN (R C:Nat) (p:Option Addr) (N cap:Nat) (f:Nat→Nat→En) (w:World) (h:Mx 4 cellsN w R C p N cap f) (hRC:R≤C) :
  Calls Tryz.prog 103 #[mV R C p N cap] w fun e w'=>∃ p' cap',e=.returned (.tuple #[mV R R p' (R*R:Nat) cap',.bool true])∧Mx 4 cellsN w' R R p' (R*R) cap' (foldN R C f)∧Bl w w':=by
 obtain ⟨i0,hi,hz0,hz1,hz2⟩:=info_parts Tryz.info_TN;obtain ⟨j0,hji,jz0,jz1,jz2⟩:=info_parts Tryz.info_N;refine (callsIn_wide (n:=8)).1 ?_;have hd:=h.1;have hfit:=h.fit;have hR16:=hd.r2;have hR1:=hd.r1;have hC16:=hd.c2;have HM:=hideP h;obtain ⟨W,hW⟩:∃ W,W=(w.alloc (.cells #[.int .i64 R,.int .i64 C,.slice p N cap] 48)).alloc (.cells #[.int .i64 0,.int .i64 0,.slice none 0 0] 48):=⟨_,rfl⟩;have b0:Bl w W:=by rw [hW];exact ((Bl.refl _).alloc _).alloc _
 have m0:MBox W w.heap.size R C p N cap:=by rw [hW];exact (MBox.new w _ _ _ _ _ _).later ((Bl.refl _).alloc _)
 have x0:MBox W (w.heap.size+1) 0 0 none 0 0:=by rw [hW];have:=MBox.new (w.alloc (.cells #[.int .i64 R,.int .i64 C,.slice p N cap] 48)) 0 0 none 0 0 48;rw [World.size_alloc] at this;exact this
 have hs0:W.heap.size=w.heap.size+1+1:=by rw [hW];simp
 have HW:=hideP hW;clear hW h hd;refine callsIn_of_wp_marks Tryz.func103 rfl trivial ?_ rfl;refine wpIn_wide.2 ?_;simp only [Tryz.ntmps103,List.size_toArray,List.length_cons,List.length_nil,Nat.reduceAdd,Nat.reduceSub,Array.replicate_succ,Array.replicate_zero,List.push_toArray,List.append_toArray,List.nil_append,List.cons_append];go_wp2_with fail
 rw [←HW.out];refine (mRightN _ _ _ _ _ _).mono ?_;rintro e w1 ⟨rfl,h1⟩;rw [hfit];have m1:=m0.later h1;have x1:=x0.later h1;obtain ⟨c0,c1,c2,f0,f1,f2,lt⟩:=id m1;obtain ⟨W1,hW1⟩:∃ W1,W1=w1.alloc (.cells #[.slice none 0 0] 166):=⟨_,rfl⟩;have b1:Bl w1 W1:=by rw [hW1];exact (Bl.refl _).alloc _
 have bx1:Boxed W1 w1.heap.size 166 (.slice none 0 0):=by rw [hW1];exact Boxed.new w1 _ _
 have hs1:W1.heap.size=w1.heap.size+1:=by rw [hW1];simp
 have HW1:=hideP hW1;clear hW1;go_wp2_with fail
 rw [←HW1.out];have bw1:Bl w w1:=b0.trans h1;refine (mAllN R C p N cap f W1 (HM.out.later (bw1.trans b1))).mono ?_;rintro e w2 ⟨B2,p2,cap2,rfl,hK2,h2⟩;have HK2:=hideP hK2;have b12:Bl w1 w2:=b1.trans h2;have hs2:w1.heap.size+1≤w2.heap.size:=by have:=h2.size;omega
 have bx2:=boxed_bl bx1 h2;clear hK2 c0 c1 c2 f0 f1 f2 lt;go_wp2_with fail
 refine (wpIn_wide (n:=8)).1 (rangeW rfl (by omega) (gf:=108) (lb:=#[.pointer (some ⟨B2,0,none⟩)]) rfl trivial (enters_of Tryz.func108 (by kernel_rfl) rfl)
  (seqMZN 7 B2 _ w2.heap.size R C p2 N cap2 f w2 (Nat.le_refl _) HK2.out) (fun x A B h=>h.1) (fun h k=>h.trans k) (span_b (Nat.le_refl _)) (fun _=>rfl)
  (fun (pre:List RowX) U=>(∃ v,Boxed U w1.heap.size 166 v∧U.ownsRow w1.heap.size 46 1 v pre.length (pre.flatMap (hdC C))∧((∀ b,v.ownBlock=some b→w2.heap.size≤b)∧∀ y∈pre,v.ownBlock≠(rowV C y).ownBlock))∧(RowsZ 4 cellsN w2.heap.size R C f pre U∧(Below w1.heap.size w1 U∧w2.heap.size≤U.heap.size)))
  (fun _ _ _=>False)
  (OwnFrom.and (Own.from (holdsRow_own w1.heap.size w1.heap.size 166 46 1 (fun pre:List RowX=>pre.length) (fun pre:List RowX=>pre.flatMap (hdC C)) (fun pre v=>(∀ b,v.ownBlock=some b→w2.heap.size≤b)∧∀ y∈pre,v.ownBlock≠(rowV C y).ownBlock)) _) (OwnFrom.and (rowsZ_own cellsN_len (by omega) _ _ _ _ HM.out.1.c1 f) (OwnFrom.and (ownFrom_below (Nat.le_refl _) b12.size) (own_size _ _))))
  (fun _ _ _ _ _ hs _ _=>hs)
  ⟨⟨_,bx2,⟨rfl,.inl ⟨rfl,rfl⟩⟩,nofun,nofun⟩,⟨nofun,List.Pairwise.nil⟩,b12,Nat.le_refl _⟩
  (fun a pre x a' U=>RwZ 4 cellsN U w2.heap.size (rowV C x) (rowM C f x.1)∧(∃ v,Boxed U w1.heap.size 166 v∧v.ownBlock≠(rowV C x).ownBlock)∧(x.1<R∧(∀ y∈pre,(rowV C y).ownBlock≠(rowV C x).ownBlock)∧a'={ tmps:=(((a.tmps.setIfInBounds 24 (.int .i64 x.1)).setIfInBounds 25 (rowV C x)).setIfInBounds 6 (rowV C x)),defers:=[] }))
  (fun pre x a' _ X Y row hs hg hr=>⟨hs.1.own cellsN_len (by omega) (by intro e;have:=congrArg List.length e;rw [rowM_len] at this;simp at this;have:=HM.out.1.c1;omega) hg (fun r e=>(hr r e).2),(by
   obtain ⟨v,hv,hne⟩:=hs.2.1;refine ⟨v,hv.kept hg (fun e=>?_),hne⟩;obtain ⟨_,o,ho,hc⟩:=hr _ e.symm;rw [show X.heap[w1.heap.size]?=_ from hv] at ho;cases ho;cases hc),hs.2.2⟩)
  ?assign ?body ?done ?stop)
 case assign =>
  rintro l pre x W0 U K' ⟨⟨v0,hv0,hrow0,hG0⟩,hrows0,hb0,hsz0⟩ ⟨hbU,hxR,hrz,hcc⟩ hI hK';have HK3:=hideP hK';have HI:=hideP hI;obtain ⟨bx,capx,ex,_,hlo,_⟩:=id hrz;have HRZ:=hideP (hrz.base hsz0);have own:(rowV C x).ownBlock=some bx:=by rw [ex];rfl
  have HV:=hideP (show ∃ v,Boxed U w1.heap.size 166 v∧v.ownBlock≠(rowV C x).ownBlock from ⟨v0,boxed_bl hv0 hbU,by
   rw [own];intro e;have:=(hrow0.lt bx e).2;omega⟩)
  have HN:=hideP (show ∀ y∈pre,(rowV C y).ownBlock≠(rowV C x).ownBlock from fun y hy e=>by
   obtain ⟨b,c,e2,_,_,hb,_⟩:=(hrows0.1 y hy).1;rw [own,e2] at e;have:b=bx:=by cases e;rfl
   omega)
  clear hK' hI hrz hv0 hrow0 hG0 hrows0 hb0 own ex
  gi_wp2
  refine HK3.out _ _ (KeepsFrom.refl _ _) (Span.refl _ _ _) HI.out ⟨HRZ.out,HV.out,hxR,HN.out,?_⟩;simp only [List.setIfInBounds_toArray,List.set_cons_zero,List.set_cons_succ]
 case body =>
  rintro l pre x a' U hl' ⟨r,hr'⟩ ⟨⟨v0,hv0,hrow,hG1,hG2⟩,hrows,hbU,hsU⟩ ⟨hrz,⟨v1,hv1,hne1⟩,hxR,hdis,rfl⟩ hlt;simp only [List.setIfInBounds_toArray,List.set_cons_zero,List.set_cons_succ];have hv01:v1=v0:=by
   have e1:=hv1.cell;rw [hv0.cell] at e1;exact (Option.some.inj e1).symm
  subst hv01;have hne0:some w1.heap.size≠v1.ownBlock:=hv0.not_row (by decide) hrow;have HRS:=hideP hrows;have HRZ:=hideP hrz;have HD:=hideP hdis;have HG1:=hideP hG1;have HG2:=hideP hG2;have cb:=hv0.cell;have kU:Bl U (U.alloc (.cells #[rowV C x] 46)):=(Bl.refl _).alloc _;have hvu:=boxed_bl hv0 kU;have hrowu:=hrow.alloc (.cells #[rowV C x] 46);clear hrows hrz hdis hG1 hG2
  gi_wp2_with (gi_at_builtin;refine wpListIn_append_own_at _ rfl _ _ 166 rfl w1.heap.size 46 i0 (.slice none 0 0) 1 24 Tryz.underlying166 hi hz0 hz1 hz2 rfl (by decide) v1 pre.length (pre.flatMap (hdC C)) rfl hrowu ⟨U.heap.size,0,none⟩ 1 1 [rowV C x] rfl rfl (cell_one_new _ _ _) (by intro u hu;simp at hu;subst hu;rfl) (by unfold maxLen;omega) (by omega) (by simp;omega) ?_;intro v3 w3 hown3 hgrow3 hnil3 hat3;obtain ⟨g3,c3,rfl⟩:=own_slice8 hown3 (Nat.succ_pos _);have hv3:=hvu.kept hgrow3 hne0;have e3:=hv3.cell;have f3:=hv3.frozen)
  obtain ⟨hv5,hv6,hr6,hk6,hb6⟩:=boxed_appended hvu (by decide) hrowu (by simp;omega) (Nat.le_refl _) hown3 hgrow3;have hg3:=hgrow3.size;have e1:pre++[x]=pre++[x]:=rfl;refine ⟨(kU.keeps _).trans (hk6.from _),span_appended kU hsU (fun g hg=>.inr (HG1.out g hg)) hgrow3 (by omega),⟨_,hv6,?_,?_,?_⟩,⟨?_,?_⟩,?_,?_⟩
  ·rw [List.length_append,List.flatMap_append];simpa using hr6
  ·intro b hb;rcases hat3 with e|e
   ·exact HG1.out b (by rw [←e];exact hb)
   ·rw [e] at hb;cases hb;simp;omega
  ·intro y hy e;rcases hat3 with e2|e2
   ·rw [e2] at e;rcases List.mem_append.1 hy with h|h
    ·exact HG2.out y h e
    ·have:y=x:=by simpa using h
     subst this;exact hne1 e
   ·rw [e2] at e;rcases List.mem_append.1 hy with h|h
    ·obtain ⟨b,c,e4,_,_,hb,_⟩:=(HRS.out.1 y h).1;rw [e4] at e;have:(U.alloc (.cells #[rowV C x] 46)).heap.size=b:=by cases e;rfl
     simp at this;omega
    ·have:y=x:=by simpa using h
     subst this;obtain ⟨b,c,e4,_,_,hb,_⟩:=HRZ.out;rw [e4] at e;have:(U.alloc (.cells #[.slice (some ⟨b,0,none⟩) (rowM C f y.1).length c] 46)).heap.size=b:=Option.some.inj e;simp at this;omega
  ·intro y hy;rcases List.mem_append.1 hy with h|h
   ·refine ⟨((HRS.out.1 y h).1.later kU).beside hgrow3 (fun g hg=>⟨fun e=>HG2.out y h (e.trans hg.symm),fun e=>?_⟩),(HRS.out.1 y h).2⟩;obtain ⟨b,c,e4,_,hlo,hb,_⟩:=(HRS.out.1 y h).1;rw [e4] at hg;have:b=g:=by cases hg;rfl
    omega
   ·have:y=x:=by simpa using h
    subst this;refine ⟨(HRZ.out.later kU).beside hgrow3 (fun g hg=>⟨fun e=>hne1 (e.trans hg.symm),fun e=>?_⟩),hxR⟩;obtain ⟨b,c,e4,_,hlo,hb,_⟩:=HRZ.out;rw [e4] at hg;have:b=g:=by cases hg;rfl
    omega
  ·refine List.pairwise_append.2 ⟨HRS.out.2,List.pairwise_singleton _ _,fun y hy z hz=>?_⟩;have:z=x:=by simpa using hz
   subst this;exact HD.out y hy
  ·exact hbU.trans ((kU.mono (by have:=hbU.size;omega)).trans hb6)
  ·simp;have:=kU.size;omega
 case stop =>
  rintro D' c pre U _ _ h _;exact h.elim
 case done =>
  rintro Dm zs U hD hS ⟨⟨v,hv,hrow,hG1,hG2⟩,hrows,hbU,hsU⟩ hKD;obtain ⟨H,hc,B,cp,rfl,hRc,hH,tb,hBlo⟩:=Tbl.of hS hR1 hrow hrows hG2;have HH2:=hG1 H rfl;have hDw:w1.heap.size≤Dm:=by omega
  have HDB:=hideP (show ¬ InT B R Dm from by
   rintro ⟨i,hi',e⟩;have hc0:=tb.cells i 0 hi' HM.out.1.c1 0 _ rfl;unfold World.cell? at hc0;simp only at hc0;rw [←e,hKD] at hc0;cases hc0)
  have HHB:=hideP (show ¬ InT B R w1.heap.size from by
   rintro ⟨i,hi',e⟩;have:=hBlo i hi';omega)
  have HMB:=hideP (show ¬ InT B R w.heap.size from by
   rintro ⟨i,hi',e⟩;have:=hBlo i hi';have:=bw1.size;omega)
  have HXB:=hideP (show ¬ InT B R (w.heap.size+1) from by
   rintro ⟨i,hi',e⟩;have:=hBlo i hi';have:=h1.size;omega)
  have HBL:=hideP (show ∀ g,InT B R g→w.heap.size≤g from by
   rintro g ⟨i,hi',e⟩;have:=hBlo i hi';have:=bw1.size;omega)
  have bU:Bl w1 U:=hbU;have mU:=m1.later bU;have xU:=x1.later bU;have HT0:=hideP tb;have hdl:Dm<U.heap.size:=(Array.getElem?_eq_some_iff.1 hKD).1;have HKD:=hideP hKD;have HHV:=hideP hv;have cbU:=hv.cell;have hw1U:w1.heap.size<U.heap.size:=hv.lt;clear tb hKD hv hrow hrows hS hG1 hG2 hbU;go_wp2_with fail
  go_loopw [32] (fun v wr=>∃ j:Nat,v=.int .i64 j∧j≤R∧Tbl 4 cellsN wr H B cp R C (foldL kdN lowN C f j)∧But (InT B R) U wr) (fun v _=>R-(intOf v).toNat)
  case atStart=>exact ⟨0,rfl,Nat.zero_le _,HT0.out,But.refl _ _⟩
  case round =>
   obtain ⟨j,rfl,hj,tbj,bt⟩:=hrel;have HT:=hideP tbj;clear tbj;have bxr:Boxed wr w1.heap.size 166 (.slice (some ⟨H,0,none⟩) R hc):=(bt.block _ hw1U HHB.out).trans HHV.out;have cbr:=bxr.cell;by_cases hlt:j<R
   ·go_wp2_with fail
    refine (hFoldN H hc B cp R C j (foldL kdN lowN C f j) wr HT.out hlt hRC (by omega) hRc).mono ?_;rintro e w5 ⟨⟨v5,rfl⟩,tb5,bt5⟩;have HT5:=hideP tb5;have bt5':=bt.trans bt5;clear tb5 cbr;go_wp2;go_roundw
    case rel=>exact ⟨j+1,by simp,hlt,HT5.out,bt5'⟩
    case measure=>simp [intOf];omega
   ·obtain rfl:j=R:=by omega
    obtain ⟨wq,hwq⟩:∃ wq:World,wq=wr:=⟨_,rfl⟩;subst hwq;obtain ⟨F,hF⟩:∃ F,F=foldL kdN lowN C f j:=⟨_,rfl⟩;rw [←hF] at HT;have HF:=hideP hF;obtain ⟨rr,hrr⟩:∃ rr,rr=j*j:=⟨_,rfl⟩;have hrr256:rr≤256:=by rw [hrr];exact Nat.mul_le_mul hR16 hR16
    have hRR:(j:Int)*(j:Int)=(rr:Int):=by rw [hrr,Int.natCast_mul]
    have HRR:=hideP hrr;have mr:MBox wq w.heap.size j C p N cap:=mbox_block mU (bt.block _ mU.lt HMB.out) bt.size;have xr:MBox wq (w.heap.size+1) 0 0 none 0 0:=mbox_block xU (bt.block _ xU.lt HXB.out) bt.size;have HDr:=hideP ((bt.block _ hdl HDB.out).trans HKD.out);have BWr:Bl w wq:=bt.bl (bw1.trans bU) HBL.out;obtain ⟨c0,c1,c2,f0,f1,f2,lt⟩:=id mr;clear hF hrr;go_wp2_with (at_make;refine wpList_make_own _ rfl _ _ 46 rfl wq.heap.size 52 j0 (.agg #[.int .i64 0,.int .i64 0,.int .i64 0,.bool false]) 4 Tryz.underlying46 hji jz0 jz1 .i64 .i64 _ rr rfl rfl (by simp) (by rw [jz2];omega) (by unfold maxLen;omega) (Nat.le_refl _) ?_;intro w6 hown6 hgrow6;have h6:Bl wq w6:=⟨hgrow6.os,hgrow6.tape,hgrow6.output,hgrow6.size,fun k hk=>hgrow6.block k hk nofun⟩;have bx6:=boxed_bl bxr h6;have cb6:=bx6.cell;have HO6:=hideP hown6;clear hown6 hgrow6 c0 c1 c2 f0 f1 f2 lt cbr)
    clear cb6
    go_loopw [47,8] (fun va vb wr=>∃ i:Nat,va=.int .i64 i∧i≤j∧wr.ownsRow wq.heap.size 52 4 vb (mk i j F).length ((mk i j F).flatMap cellsN)∧Bl wq wr) (fun va _ _=>j-(intOf va).toNat)
    case atStart=>exact ⟨0,rfl,Nat.zero_le _,HO6.out,h6⟩
    case round =>
     obtain ⟨i,rfl,hi',hown,b8⟩:=hrel;have HO:=hideP hown;clear hown;have m8:=mr.later b8;by_cases hil:i<j
     ·have hd8:=(bl_cell b8 _ _ HT.out.hlt).trans (HT.out.hdr i hil);have hcap8:=HT.out.cap i hil;have RF:=(HT.out.later b8).first (q:=j) hil hRC
      obtain ⟨bi,hbi⟩:∃ bi,bi=B i:=⟨_,rfl⟩;obtain ⟨ci,hci⟩:∃ ci,ci=cp i:=⟨_,rfl⟩;rw [←hbi,←hci] at hd8 RF;rw [←hci] at hcap8;have SRC:=hideP (show ∀ t u,((rowM j F i).flatMap cellsN)[t]?=some u→wr.cell? ((⟨bi,0,none⟩:Addr).add t)=some u from by
       rcases RF with ⟨_,_,_,e0,_⟩|⟨b9,o9,cap9,e9,_,_,hx⟩
       ·have:=congrArg List.length e0;rw [rowM_len] at this;simp at this;omega
       ·simp only [Value.slice.injEq,Option.some.injEq,Addr.mk.injEq] at e9;obtain ⟨⟨rfl,rfl,_⟩,_,_⟩:=e9;exact flat_cells cellsN_len hx)
      have sl:=fun u=>Tryz.frontN bi C ci j u (by omega) (by omega)
      have hlen:(mk i j F).length≤256:=by
       rw [mk_len];exact Nat.mul_le_mul (show i≤16 by omega) hR16
      obtain ⟨c0,c1,c2,f0,f1,f2,lt⟩:=id m8;clear hbi hci RF;go_wp2_with (at_builtin;refine wpList_append_own _ rfl _ _ 46 rfl wq.heap.size 52 j0 (.agg #[.int .i64 0,.int .i64 0,.int .i64 0,.bool false]) 4 32 Tryz.underlying46 hji jz0 jz1 jz2 rfl (by decide) _ _ _ rfl HO.out ⟨bi,0,none⟩ j ci ((rowM j F i).flatMap cellsN) rfl (by rw [flat_len cellsN_len,rowM_len]) SRC.out (flat_one oneN_cells _) (by unfold maxLen;omega) (by omega) b8.size ?_;intro v9 w9 hown9 hgrow9 _)
      have HO9:=hideP (show w9.ownsRow wq.heap.size 52 4 v9 (mk (i+1) j F).length ((mk (i+1) j F).flatMap cellsN) by
       rw [mk_succ,List.length_append,List.flatMap_append,rowM_len];exact hown9)
      have b9:Bl wq w9:=Below.grown b8 hgrow9 b8.size (fun k hk=>(HO.out.lt k hk).1);clear hown9 hgrow9 SRC sl hd8 c0 c1 c2 f0 f1 f2 lt;go_wp2;go_roundw
      case rel=>exact ⟨i+1,by simp,hil,HO9.out,b9⟩
      case measure=>simp [intOf];omega
     ·obtain rfl:i=j:=by omega
      have RW8:=Rw.of_own cellsN_len HO.out;obtain ⟨p8,c8,ev8,_,_⟩:=RW8.cut;rw [mk_len,←HRR.out] at ev8;subst ev8;have HMX:=hideP (show Mx 4 cellsN wr i i p8 rr c8 F from ⟨⟨hR1,hR16,hR1,hR16⟩,HRR.out,RW8.q⟩);obtain ⟨c0,c1,c2,f0,f1,f2,lt⟩:=id m8;have BW8:Bl w wr:=BWr.trans b8;have hD8:=(Below.block b8 Dm (Array.getElem?_eq_some_iff.1 HDr.out).1).trans HDr.out;have HD8:=hideP hD8;clear RW8 hD8;go_wp2_with fail
      refine (hSignsN i p8 rr c8 F wr HMX.out).mono ?_;rintro e w9 ⟨p9,c9,rfl,⟨hm9,hf9⟩,h9⟩;have HM9:=hideP hm9;have HF9:=hideP hf9;have x9:=(xr.later b8).later h9;have BW9:Bl w w9:=BW8.trans h9;have hD9:=(Below.block h9 Dm (Array.getElem?_eq_some_iff.1 HD8.out).1).trans HD8.out;have HD9:=hideP hD9;clear hm9 hf9 hD9 c0 c1 c2 f0 f1 f2 lt;obtain ⟨c0,c1,c2,f0,f1,f2,lt⟩:=id x9;go_wp2;obtain ⟨W9,hW9⟩:∃ W9,W9=((w9.setCell ⟨w.heap.size+1,0,none⟩ (.int .i64 i)).setCell ⟨w.heap.size+1,1,none⟩ (.int .i64 i)).setCell ⟨w.heap.size+1,2,none⟩ (.slice p9 rr c9):=⟨_,rfl⟩;have fl:=x9.fill i i p9 rr c9;have hK9:W9.heap[Dm]?=some (.deferred (some [])):=by
       rw [hW9];exact (KeepsOthers.setCell _ _ _).same Dm _ ((KeepsOthers.setCell _ _ _).same Dm _ ((KeepsOthers.setCell _ _ _).same Dm _ HD9.out rfl) rfl) rfl
      have hm9:Mx 4 cellsN W9 i i p9 rr c9 (signsH kdN (fun j=>lowN (F j j)) F):=by
       rw [hW9];exact mx_ne7 HM9.out (fun b hb=>by have:=HF9.out b hb;have:=(xr.later b8).lt;omega) _ _ _
      have B9:Bl w W9:=by rw [hW9];exact Bl.put3 BW9 (Nat.le_succ _) _ _ _
      rw [←hW9] at fl;refine ⟨by simp,.inl ⟨_,_,rfl,run_takeDeferred (by rw [←hW9];exact hK9),?_⟩⟩;rw [←hW9];have gk:=grownBy_putObj' W9 Dm (.deferred none);have gr:∀ r,some Dm=some r→∃ o:Obj,W9.heap[r]?=some o∧o.isCells=false:=fun r e=>by cases e;exact ⟨_,hK9,rfl⟩
      have d0:=cell_kept fl.c0 gk gr;have d1:=cell_kept fl.c1 gk gr;have d2:=cell_kept fl.c2 gk gr;refine ⟨.tuple #[mV i i p9 rr c9,.bool true],?_,⟨p9,c9,by rw [HRR.out],?_,?_⟩⟩
      ·simp [results,Tryz.f103,go_sem,d0,d1,d2]
      ·rw [←HRR.out];unfold foldN;rw [←HF.out];exact mx_own8 hm9 gk gr
      ·exact Below.trans B9 (belowK_b (w:=w) (Nat.le_refl _) W9 Dm _ _ (by have:=bw1.size;omega) hK9 rfl rfl)
def predO (n:Nat) (f s g:Nat→Nat→En):Nat→Nat→En:=foldN n (n+n) (besideM n (mulMN n f s) g)
set_option maxRecDepth 100000 in
set_option maxHeartbeats 4000000 in
theorem rPredictN (n N:Nat) (px:Option Addr) (cx:Nat) (x:Nat→En) (p:Option Addr) (cap:Nat) (S:Nat→Nat→En) (pf:Option Addr) (cf:Nat) (f:Nat→Nat→En) (pg:Option Addr) (cg:Nat) (g:Nat→Nat→En) (w:World)
  (hx:Rq 4 cellsN w (.slice px n cx) (linJ n x)) (hP:Mx 4 cellsN w n n p N cap S) (hf:Mx 4 cellsN w n n pf N cf f) (hg:Mx 4 cellsN w n n pg N cg g) (h4:n≤4) :
  Calls Tryz.prog 57 #[sJ px n cx n n p N cap,mV n n pf N cf,mV n n pg N cg] w fun e w'=>∃ q c p' c',e=.returned (.tuple #[sJ q n c n n p' N c',.bool true])∧(Rw 4 cellsN w' (.slice q n c) (linJ n (appJ kdN n f x))∧Mx 4 cellsN w' n n p' N c' (predO n f S g))∧Bl w w':=by
 have hfit:=fitJ_dim hP.1 hP.2.1 h4;have hn1:1≤n:=hP.1.r1;have hNn:=hideP hP.2.1;obtain ⟨E,hE⟩:∃ E,E=n+n:=⟨_,rfl⟩;obtain ⟨N2,hN2⟩:∃ N2,N2=n*E:=⟨_,rfl⟩;obtain ⟨W,hW⟩:∃ W,W=(((w.alloc (.cells #[.slice px n cx,.int .i64 n,.int .i64 n,.slice p N cap] 50)).alloc (.cells #[.int .i64 n,.int .i64 n,.slice pf N cf] 48)).alloc (.cells #[.int .i64 n,.int .i64 n,.slice pg N cg] 48)).alloc (.cells #[.slice none 0 0,.int .i64 0,.int .i64 0,.slice none 0 0] 50):=⟨_,rfl⟩;have b0:Bl w W:=by rw [hW];exact ((((Bl.refl _).alloc _).alloc _).alloc _).alloc _
 have s0:SBox W w.heap.size px n cx n n p N cap:=by rw [hW];exact (SBox.new w _ _ _ _ _ _ _ _ _).later ((((Bl.refl _).alloc _).alloc _).alloc _)
 have mf0:MBox W (w.heap.size+1) n n pf N cf:=by rw [hW];have:=MBox.new (w.alloc (.cells #[.slice px n cx,.int .i64 n,.int .i64 n,.slice p N cap] 50)) n n pf N cf 48;rw [World.size_alloc] at this;exact this.later (((Bl.refl _).alloc _).alloc _)
 have mg0:MBox W (w.heap.size+1+1) n n pg N cg:=by rw [hW];have:=MBox.new ((w.alloc (.cells #[.slice px n cx,.int .i64 n,.int .i64 n,.slice p N cap] 50)).alloc (.cells #[.int .i64 n,.int .i64 n,.slice pf N cf] 48)) n n pg N cg 48;rw [World.size_alloc,World.size_alloc] at this;exact this.later ((Bl.refl _).alloc _)
 have z0:SBox W (w.heap.size+1+1+1) none 0 0 0 0 none 0 0:=by rw [hW];have:=SBox.new (((w.alloc (.cells #[.slice px n cx,.int .i64 n,.int .i64 n,.slice p N cap] 50)).alloc (.cells #[.int .i64 n,.int .i64 n,.slice pf N cf] 48)).alloc (.cells #[.int .i64 n,.int .i64 n,.slice pg N cg] 48)) none 0 0 0 0 none 0 0 50;rw [World.size_alloc,World.size_alloc,World.size_alloc] at this;exact this
 have nz0:NoB W (w.heap.size+1+1+1):=by rw [hW];have:=noB_newSN (((w.alloc (.cells #[.slice px n cx,.int .i64 n,.int .i64 n,.slice p N cap] 50)).alloc (.cells #[.int .i64 n,.int .i64 n,.slice pf N cf] 48)).alloc (.cells #[.int .i64 n,.int .i64 n,.slice pg N cg] 48)) 50;rw [World.size_alloc,World.size_alloc,World.size_alloc] at this;exact this
 have hs:W.heap.size=w.heap.size+1+1+1+1:=by rw [hW];simp
 have HX:=hideP hx;have HP:=hideP hP;have HFX:=hideP hf;have HGX:=hideP hg;have HE:=hideP hE;have HN2:=hideP hN2;have HW:=hideP hW;clear hW hx hP hf hg hE hN2
 go_enter Tryz.func57,Tryz.ntmps57;go_wp2_with fail
 rw [←HW.out];refine (rRightN _ _ _ _ _ _ _ _ _).mono ?_;rintro e w1 ⟨rfl,h1⟩;rw [hfit];obtain ⟨c0,c1,c2,_,_,_,_⟩:=mf0.later h1;obtain ⟨d0,d1,d2,d3,_,_,_,_,_⟩:=s0.later h1;go_wp2_with fail
 refine (rFitsN _ _ _ _ _ _ _ _ _).mono ?_;rintro e w2 ⟨rfl,h2⟩;rw [hfit];clear c0 c1 c2 d0 d1 d2 d3;obtain ⟨c0,c1,c2,_,_,_,_⟩:=mg0.later (h1.trans h2);obtain ⟨d0,d1,d2,d3,_,_,_,_,_⟩:=s0.later (h1.trans h2);go_wp2_with fail
 refine (rFitsN _ _ _ _ _ _ _ _ _).mono ?_;rintro e w3 ⟨rfl,h3⟩;rw [hfit];clear c0 c1 c2 d0 d1 d2 d3;have b3:Bl W w3:=h1.trans (h2.trans h3);obtain ⟨c0,c1,c2,_,_,_,_⟩:=mf0.later b3;obtain ⟨d0,d1,d2,d3,_,_,_,_,_⟩:=s0.later b3;go_wp2_with fail
 refine (mApplyN' n n pf N cf f px cx (linJ n x) w3 (HFX.out.later (b0.trans b3)) (HX.out.later (b0.trans b3)) (linJ_len _ _)).mono ?_;rintro e w4 ⟨q,c,rfl,hR,hFr,h4'⟩;have HR:=hideP (show Rw 4 cellsN w4 (.slice q n c) (linJ n (appJ kdN n f x)) from hR);have b4:Bl W w4:=b3.trans h4';clear c0 c1 c2 d0 d1 d2 d3 hR hFr;obtain ⟨c0,c1,c2,_,_,_,_⟩:=mf0.later b4;obtain ⟨d0,d1,d2,d3,_,_,_,_,_⟩:=s0.later b4;go_wp2_with fail
 refine (mMulN n n n pf N cf f p N cap S N w4 (HFX.out.later (b0.trans b4)) (HP.out.later (b0.trans b4)) hNn.out).mono ?_;rintro e w5 ⟨p5,c5,rfl,⟨h5x,_,_⟩,h5⟩;obtain ⟨W5,hW5⟩:∃ W5,W5=w5.alloc (.cells #[.int .i64 n,.int .i64 n,.slice p5 N c5] 48):=⟨_,rfl⟩;have b5':Bl w5 W5:=by rw [hW5];exact (Bl.refl _).alloc _
 have k5:MBox W5 w5.heap.size n n p5 N c5:=by rw [hW5];exact MBox.new w5 _ _ _ _ _ _
 have n5:NoB W5 w5.heap.size:=by
  rw [hW5];intro o y;have h:(w5.alloc (.cells #[.int .i64 n,.int .i64 n,.slice p5 N c5] 48)).cell? ⟨w5.heap.size,o,none⟩≠some (.bool y):=by
   rcases o with _|_|_|o<;>simp [go_sem]
  exact h
 have b5:Bl W W5:=b4.trans (h5.trans b5');have H5:=hideP (Mx.later h5x b5');clear c0 c1 c2 d0 d1 d2 d3 h5x;obtain ⟨c0,c1,c2,_,_,_,_⟩:=mg0.later b5;have HW5:=hideP hW5;rw [hW5] at c0 c1 c2;clear hW5;go_wp2_with fail
 rw [←HW5.out];refine (mBesideN n n n p5 N c5 (mulMN n f S) pg N cg g E N2 W5 H5.out (HGX.out.later (b0.trans b5)) HE.out (by have:=HE.out;omega) HN2.out).mono ?_;rintro e w6 ⟨p6,c6,rfl,h6x,h6⟩;have k6:=k5.later h6;have n6:=n5.later h6 k5.lt;obtain ⟨W6,hW6⟩:∃ W6,W6=((w6.setCell ⟨w5.heap.size,0,none⟩ (.int .i64 n)).setCell ⟨w5.heap.size,1,none⟩ (.int .i64 E)).setCell ⟨w5.heap.size,2,none⟩ (.slice p6 N2 c6):=⟨_,rfl⟩;have hs5:=(b4.trans h5).size;have b6:Bl W W6:=by rw [hW6];exact Bl.put3 (b5.trans h6) hs5 _ _ _
 have b46:Bl w4 W6:=by rw [hW6];exact Bl.put3 ((h5.trans b5').trans h6) h5.size _ _ _
 have k6':MBox W6 w5.heap.size n E p6 N2 c6:=by rw [hW6];exact k6.fill _ _ _ _ _
 have H6:=hideP (show Mx 4 cellsN W6 n E p6 N2 c6 (besideM n (mulMN n f S) g) from by rw [hW6];exact mx_ne7 h6x (noB_mx boolN h6x n6) _ _ _);clear c0 c1 c2 h6x H5;obtain ⟨c0,c1,c2,f0,f1,f2,_⟩:=id k6;have HW6:=hideP hW6;clear hW6;go_wp2_with fail
 rw [←HW6.out];refine (hFoldAllN n E p6 N2 c6 (besideM n (mulMN n f S) g) W6 H6.out (by have:=HE.out;omega)).mono ?_;rintro e w7 ⟨p7,c7,rfl,h7x,h7⟩;rw [show (n*n:Nat)=N from hNn.out.symm] at h7x ⊢;obtain ⟨W7,hW7⟩:∃ W7,W7=w7.alloc (.cells #[.int .i64 n,.int .i64 n,.slice p7 N c7] 48):=⟨_,rfl⟩;have b7':Bl w7 W7:=by rw [hW7];exact (Bl.refl _).alloc _
 have k7:MBox W7 w7.heap.size n n p7 N c7:=by rw [hW7];exact MBox.new w7 _ _ _ _ _ _
 have b7:Bl W W7:=b6.trans (h7.trans b7');have H7:=hideP (show Mx 4 cellsN W7 n n p7 N c7 (predO n f S g) from by unfold predO;rw [←HE.out];exact Mx.later h7x b7');have HR7:=hideP (HR.out.later (b46.trans (h7.trans b7')));clear c0 c1 c2 f0 f1 f2 h7x H6;obtain ⟨c0,c1,c2,c3,f0,f1,f2,f3,lt⟩:=z0.later b7;obtain ⟨e0,e1,e2,_,_,_,_⟩:=id k7;have n7:=nz0.later b7 z0.lt;have BS:=Tryz.buildRN q n c n n p7 N c7 W7;have HW7:=hideP hW7;rw [hW7] at c0 c1 c2 c3 f0 f1 f2 f3 e0 e1 e2 BS;clear hW7;go_wp2;simp [bodyPost,results,Tryz.results57,go_sem,c0,c1,c2,c3];rw [←HW7.out];exact ⟨q,c,p7,c7,by simp,⟨HR7.out.but (but4N _ _ _ _ _ _) (fun g hg=>noB_rwN HR7.out hn1 n7 g hg),Mx.but H7.out (but4N _ _ _ _ _ _) (fun g hg=>Ne.symm (noB_mx boolN H7.out n7 g hg))⟩,Bl.put4 (b0.trans b7) (by omega) _ _ _ _⟩
theorem whole8N_call (R C:Nat) (p:Option Addr) (n cap:Nat) (ns:List Int) (w:World) (hr:Rq 1 cI w (.slice p n cap) ns) (hd:Dim R C) (hn:n=R*C) (hl:ns.length=n) :
  Calls Tryz.prog 33 #[.int .i64 R,.int .i64 C,.slice p n cap] w fun e w'=>∃ p' cap',e=.returned (.tuple #[mV R C p' n cap',.bool true])∧Mx 4 cellsN w' R C p' n cap' (fun i k=>wholeN (ofL C ns i k))∧Bl w w':=by
 refine (mWholeN R C p n cap ns w hr (fitB_dim hd hn) hl).mono ?_;rintro e w' ⟨p',cap',rfl,hR,hb⟩;refine ⟨p',cap',rfl,⟨hd,hn,?_⟩,hb⟩;have e:=ofL_mk (R:=R) (M:=C) (ns:=ns) (by rw [hl,hn]);rw [e,mk_map] at hR;exact hR.q
def laneX (m:Nat) (Fm X:List Int):Nat→En:=appJ kdN m (fun i k=>wholeN (ofL m Fm i k)) (fun i=>wholeN (X.getD i 0))
def laneS (m:Nat) (Ro Fm Gm:List Int):Nat→Nat→En:=predO m (fun i k=>wholeN (ofL m Fm i k)) (clrN (fun i k=>wholeN (ofL m Ro i k))) (fun i k=>wholeN (ofL m Gm i k))
def laneR (m:Nat) (Ro Fm Gm H:List Int) (r:En):StO En:=runO kdN m (laneS m Ro Fm Gm) (fun i=>wholeN (H.getD i 0)) r m
def laneE (m:Nat) (X Fm H:List Int) (z:En):En:=surpJ kdN m (laneX m Fm X) (fun i=>wholeN (H.getD i 0)) z
def laneUX (m:Nat) (X Ro Fm Gm H:List Int) (r z:En) (i:Nat):En:=addE (laneX m Fm X i) (mulE (divE ((laneR m Ro Fm Gm H r).e i) (laneR m Ro Fm Gm H r).a) (laneE m X Fm H z))
def updL (lo n N:Nat) (x:Nat→En) (P:Nat→Nat→En) (e a:En):Upd (Option Addr×Nat×Option Addr×Nat) where
 v0 D:=sJ D.1 n D.2.1 n n D.2.2.1 N D.2.2.2
 v1 _:=newsVN e a
 v2 _:=.bool true
 dat D u:=Rw 4 cellsN u (.slice D.1 n D.2.1) (linJ n x)∧Mx 4 cellsN u n n D.2.2.1 N D.2.2.2 P∧Fresh lo (.slice D.1 n D.2.1)∧Fresh lo (.slice D.2.2.1 N D.2.2.2)
 off D b:=(∀ g,(Value.slice D.1 n D.2.1).ownBlock=some g→g≠b)∧∀ g,(Value.slice D.2.2.1 N D.2.2.2).ownBlock=some g→g≠b
 za u b:=SBox u b none 0 0 0 0 none 0 0
 zb u b:=NBoxN u b zeroE zeroE
 sa D u b:=SBox u b D.1 n D.2.1 n n D.2.2.1 N D.2.2.2
 sb _ u b:=NBoxN u b e a
theorem updL_ok (lo n N:Nat) (x:Nat→En) (P:Nat→Nat→En) (e a:En):UpdOk (updL lo n N x P e a) where
 dat_bl D u u' h k:=⟨h.1.later k,Mx.later h.2.1 k,h.2.2⟩
 dat_off D u b h hb:=⟨fun g hg=>by have:=h.1.lt g hg;omega,fun g hg=>by have:=mx_ltN h.2.1 g hg;omega⟩
 za_heap u u' b h _ e hs:=SBox.heap h e hs
 zb_heap u u' b h _ e hs:=NBoxN.heap h e hs
 sa_heap D u u' b h _ e hs:=SBox.heap h e hs
 sb_heap D u u' b h _ e hs:=NBoxN.heap h e hs
 ne0 u b h k:=s_not_nN h k
 ne1 D u b h k:=s_not_nN h k
 ne2 D u b h k:=s_not_nN h k
set_option maxRecDepth 100000 in
set_option maxHeartbeats 8000000 in
theorem lanes10_any (m N:Nat) (r z:Int) (px pr pf pg ph:Option Addr) (cx cr cf cg ch:Nat) (X Ro Fm Gm H:List Int) (w:World) (hX:Rq 1 cI w (.slice px m cx) X) (hR:Rq 1 cI w (.slice pr N cr) Ro) (hF:Rq 1 cI w (.slice pf N cf) Fm) (hG:Rq 1 cI w (.slice pg N cg) Gm) (hH:Rq 1 cI w (.slice ph m ch) H)
  (lX:X.length=m) (lR:Ro.length=N) (lF:Fm.length=N) (lG:Gm.length=N) (lH:H.length=m) (m1:1≤m) (m3:m≤3) (hN:N=m*m) (Rr Zz:En) (hRr:ptE (foN r) (foB r)=Rr) (hZz:ptE (foN z) (foB z)=Zz) :
  Calls Tryz.prog 18 #[.agg #[.int .i64 m,.slice px m cx,.slice pr N cr,.slice pf N cf,.slice pg N cg,.slice ph m ch,.int .i64 r,.int .i64 z]] w fun e w'=>∃ q c p' c',e=.returned (.tuple #[sJ q m c m m p' N c',newsVN (laneE m X Fm H Zz) ((laneR m Ro Fm Gm H Rr).a),.bool true])∧(Rw 4 cellsN w' (.slice q m c) (linJ m (laneUX m X Ro Fm Gm H Rr Zz))∧Mx 4 cellsN w' m m p' N c' ((laneR m Ro Fm Gm H Rr).s))∧Bl w w':=by
 have fm:Tryz.prog.follows .mixedOrders=true:=by kernel_rfl
 have egW:=enters_of Tryz.func35 (by kernel_rfl) rfl;have egN:=enters_of Tryz.func34 (by kernel_rfl) rfl;have egU:=enters_of Tryz.func36 (by kernel_rfl) rfl;have egO:=enters_of Tryz.func37 (by kernel_rfl) rfl;obtain ⟨one,hone⟩:∃ x:En,x=ptE 0 (frB 0):=⟨_,rfl⟩;have hm4:m≤4:=by omega
 obtain ⟨W,hW⟩:∃ W,W=((w.alloc (.cells #[.int .i64 m,.slice px m cx,.slice pr N cr,.slice pf N cf,.slice pg N cg,.slice ph m ch,.int .i64 r,.int .i64 z] 24)).alloc (.cells #[.slice none 0 0,.int .i64 0,.int .i64 0,.slice none 0 0] 50)).alloc (.cells #[.int .i64 0,.int .i64 0,.int .i64 0,.bool false,.int .i64 0,.int .i64 0,.int .i64 0,.bool false] 54):=⟨_,rfl⟩;have b0:Bl w W:=by rw [hW];exact (((Bl.refl _).alloc _).alloc _).alloc _
 have lt0:w.heap.size<W.heap.size:=by rw [hW];simp;omega
 have sz0:SBox W (w.heap.size+1) none 0 0 0 0 none 0 0:=by rw [hW];have:=SBox.new (w.alloc (.cells #[.int .i64 m,.slice px m cx,.slice pr N cr,.slice pf N cf,.slice pg N cg,.slice ph m ch,.int .i64 r,.int .i64 z] 24)) none 0 0 0 0 none 0 0 50;rw [World.size_alloc] at this;exact this.later ((Bl.refl _).alloc _)
 have nz0:NBoxN W (w.heap.size+1+1) zeroE zeroE:=by rw [hW];have:=NBoxN.new ((w.alloc (.cells #[.int .i64 m,.slice px m cx,.slice pr N cr,.slice pf N cf,.slice pg N cg,.slice ph m ch,.int .i64 r,.int .i64 z] 24)).alloc (.cells #[.slice none 0 0,.int .i64 0,.int .i64 0,.slice none 0 0] 50)) zeroE zeroE 54;rw [World.size_alloc,World.size_alloc] at this;exact this
 have HC:=hideP (show ∀ u,Bl W u→u.cell? ⟨w.heap.size,0,none⟩=some (.int .i64 m)∧u.cell? ⟨w.heap.size,1,none⟩=some (.slice px m cx)∧u.cell? ⟨w.heap.size,2,none⟩=some (.slice pr N cr)∧u.cell? ⟨w.heap.size,3,none⟩=some (.slice pf N cf)∧u.cell? ⟨w.heap.size,4,none⟩=some (.slice pg N cg)∧u.cell? ⟨w.heap.size,5,none⟩=some (.slice ph m ch)∧u.cell? ⟨w.heap.size,6,none⟩=some (.int .i64 r)∧u.cell? ⟨w.heap.size,7,none⟩=some (.int .i64 z) from fun u hu=>by
  refine ⟨?_,?_,?_,?_,?_,?_,?_,?_⟩<;>(rw [bl_cell hu _ _ lt0,hW];simp [go_sem]))
 have hs0:W.heap.size=w.heap.size+1+1+1:=by rw [hW];simp
 have HW:=hideP hW;have HON:=hideP hone;have HRr:=hideP hRr;have HZz:=hideP hZz;have HRR:=hideP hR;have HFR:=hideP hF;have HGR:=hideP hG;have HLR:=hideP lR;have HLF:=hideP lF;have HLG:=hideP lG;have HNN:=hideP hN;have HD:=hideP (dim_le4 m1 hm4);have HXR:=hideP (show Rq 1 cI w (.slice px m cx) (linJ m fun i=>X.getD i 0) from by rw [←linJ_of (n:=m) 0 X lX];exact hX);have HHR:=hideP (show Rq 1 cI w (.slice ph m ch) (linJ m fun i=>H.getD i 0) from by rw [←linJ_of (n:=m) 0 H lH];exact hH);clear hW hone hX hR hF hG hH lX lR lF lG lH hRr hZz hN
 go_enter Tryz.func18,Tryz.ntmps18;have n3:¬ ((m:Int)<1):=by omega
 go_wp2_with fail
 try simp only [World.size_alloc]
 rw [←HW.out];refine (pointE_any 0 W).mono ?_;rintro e w1 ⟨rfl,h1⟩;rw [←HON.out];obtain ⟨W1,hW1⟩:∃ W1,W1=w1.alloc (.cells #[.int .i64 one.v,.int .i64 one.l,.int .i64 one.h,.bool one.bad] 52):=⟨_,rfl⟩;have b1:Bl w1 W1:=by rw [hW1];exact (Bl.refl _).alloc _
 have ko:Box W1 w1.heap.size one:=by rw [hW1];exact Box.new w1 one _
 have b1w:Bl W W1:=h1.trans b1;have HW1:=hideP hW1;clear hW1;obtain ⟨c0,c1,c2,c3,c4,c5,c6,c7⟩:=HC.out W1 (b1w);rw [HW1.out] at c0 c1 c2 c3 c4 c5 c6 c7;have WH:=hideP (whole8N_call m m pr N cr Ro W1 (HRR.out.later (b0.trans b1w)) HD.out HNN.out HLR.out);go_wp2_with fail
 rw [←HW1.out];refine WH.out.mono ?_;rintro e w2 ⟨p2,c2',rfl,hx,h2⟩;clear c0 c1 c2 c3 c4 c5 c6 c7;obtain ⟨W2,hW2⟩:∃ W2,W2=w2.alloc (.cells #[.int .i64 m,.int .i64 m,.slice p2 N c2'] 48):=⟨_,rfl⟩;have b2:Bl w2 W2:=by rw [hW2];exact (Bl.refl _).alloc _
 have k2:MBox W2 w2.heap.size m m p2 N c2':=by rw [hW2];exact MBox.new w2 _ _ _ _ _ _
 have HX2:=hideP (Mx.later hx b2);have b12:Bl W1 W2:=h2.trans b2;have b2w:Bl W W2:=b1w.trans b12;have HW2:=hideP hW2;clear hW2 hx WH;obtain ⟨c0,c1,c2,c3,c4,c5,c6,c7⟩:=HC.out W2 (b2w);rw [HW2.out] at c0 c1 c2 c3 c4 c5 c6 c7;have WH:=hideP (whole8N_call m m pf N cf Fm W2 (HFR.out.later (b0.trans b2w)) HD.out HNN.out HLF.out);go_wp2_with fail
 rw [←HW2.out];refine WH.out.mono ?_;rintro e w3 ⟨p3,c3',rfl,hx,h3⟩;clear c0 c1 c2 c3 c4 c5 c6 c7;obtain ⟨W3,hW3⟩:∃ W3,W3=w3.alloc (.cells #[.int .i64 m,.int .i64 m,.slice p3 N c3'] 48):=⟨_,rfl⟩;have b3:Bl w3 W3:=by rw [hW3];exact (Bl.refl _).alloc _
 have k3:MBox W3 w3.heap.size m m p3 N c3':=by rw [hW3];exact MBox.new w3 _ _ _ _ _ _
 have HX3:=hideP (Mx.later hx b3);have b23:Bl W2 W3:=h3.trans b3;have b3w:Bl W W3:=b2w.trans b23;have HW3:=hideP hW3;clear hW3 hx WH;obtain ⟨c0,c1,c2,c3,c4,c5,c6,c7⟩:=HC.out W3 (b3w);rw [HW3.out] at c0 c1 c2 c3 c4 c5 c6 c7;have WH:=hideP (whole8N_call m m pg N cg Gm W3 (HGR.out.later (b0.trans b3w)) HD.out HNN.out HLG.out);go_wp2_with fail
 rw [←HW3.out];refine WH.out.mono ?_;rintro e w4 ⟨p4,c4',rfl,hx,h4⟩;clear c0 c1 c2 c3 c4 c5 c6 c7;obtain ⟨W4,hW4⟩:∃ W4,W4=w4.alloc (.cells #[.int .i64 m,.int .i64 m,.slice p4 N c4'] 48):=⟨_,rfl⟩;have b4:Bl w4 W4:=by rw [hW4];exact (Bl.refl _).alloc _
 have k4:MBox W4 w4.heap.size m m p4 N c4':=by rw [hW4];exact MBox.new w4 _ _ _ _ _ _
 have HX4:=hideP (Mx.later hx b4);have b34:Bl W3 W4:=h4.trans b4;have b4w:Bl W W4:=b3w.trans b34;have HW4:=hideP hW4;clear hW4 hx WH;have b24:Bl W2 W4:=b23.trans b34;have b14:Bl W1 W4:=b12.trans b24;go_wp2_with fail
 rw [←HW4.out]
 refine (wpIn_wide (n:=8)).1 (region_q fm [some 51,some 52,some 53,some 54,some 55,some 50,some 56,some 57,some 12,none,some 13] (fun j=>j==7||j==10) 9 (by kernel_rfl) (by rfl)
    (fun j v u=>match j with|0=>v=.pointer (some ⟨w.heap.size,1,none⟩)|1=>v=.slice px m cx|2=>∃ q c,v=.slice q m c∧Rw 4 cellsN u (.slice q m c) (linJ m (fun i=>wholeN (X.getD i 0)))|3=>v=mV m m p2 N c2'|4=>∃ q c p' c',v=.tuple #[sJ q (m) c (m:Nat) (m:Nat) p' (N) c',.bool true]∧Rw 4 cellsN u (.slice q (m) c) (linJ (m) (fun i=>wholeN (X.getD i 0)))∧Mx 4 cellsN u (m) (m) p' (N) c' (clrN (fun i k=>wholeN (ofL m Ro i k)))|5=>∃ q c p' c',v=.tuple #[sJ q (m) c (m:Nat) (m:Nat) p' (N) c',.bool true]∧Rw 4 cellsN u (.slice q (m) c) (linJ (m) (fun i=>wholeN (X.getD i 0)))∧Mx 4 cellsN u (m) (m) p' (N) c' (clrN (fun i k=>wholeN (ofL m Ro i k)))|6=>∃ q c p' c',v=sJ q (m) c (m:Nat) (m:Nat) p' (N) c'∧Rw 4 cellsN u (.slice q (m) c) (linJ (m) (fun i=>wholeN (X.getD i 0)))∧Mx 4 cellsN u (m) (m) p' (N) c' (clrN (fun i k=>wholeN (ofL m Ro i k)))|7=>v=.bool true|8=>∃ b,v=.pointer (some ⟨b,0,none⟩)∧W4.heap.size≤b∧SBox u b none 0 0 0 0 none 0 0∧NoB u b|10=>v=.bool true|_=>False)
    (by
     intro j v u u' hb h;split at h<;>first|exact h|(obtain ⟨b,e,h1,h2,h3⟩:=h;exact ⟨b,e,h1,h2.later hb,h3.later hb h2.lt⟩)|(obtain ⟨q,c,p',c',e,h1,h2⟩:=h;exact ⟨q,c,p',c',e,h1.later hb,Mx.later h2 hb⟩)|(obtain ⟨q,c,e,h1⟩:=h;exact ⟨q,c,e,h1.later hb⟩)|(obtain ⟨g,e,h1⟩:=h;exact ⟨g,e,h1.later hb⟩)) (fun vs u0 u=>∃ b q c p' c',vs 8=.pointer (some ⟨b,0,none⟩)∧W4.heap.size≤b∧SBox u b q (m) c (m:Nat) (m:Nat) p' (N) c'∧Rw 4 cellsN u (.slice q (m) c) (linJ (m) (fun i=>wholeN (X.getD i 0)))∧Mx 4 cellsN u (m) (m) p' (N) c' (clrN (fun i k=>wholeN (ofL m Ro i k)))∧Bl W4 u) ?step ?still ?store ?fin)
 case step =>
  intro j o t act u ho hdt hpu hsz hu hfr hin;have hj:j<11:=l9 ho;obtain ⟨c0,c1,c2,c3,c4,c5,c6,c7⟩:=HC.out _ (b4w.trans hu);obtain ⟨y0,y1,y2,_,_,_,_⟩:=k2.later (b24.trans hu);rcases (by omega:j=0∨j=1∨j=2∨j=3∨j=4∨j=5∨j=6∨j=7∨j=8∨j=9∨j=10) with rfl|rfl|rfl|rfl|rfl|rfl|rfl|rfl|rfl|rfl|rfl
  ·obtain ⟨rfl,rfl⟩:=o7 ho hdt;have i1:_=Value.pointer (some ⟨w.heap.size,0,none⟩):=hfr 1 (by decide);exact pl9 (r:=by simp only [seval,i1];simp [go_sem,c1])
  ·obtain ⟨rfl,rfl⟩:=o7 ho hdt;have i51:_=Value.pointer (some ⟨w.heap.size,1,none⟩):=hin ⟨0,.data⟩ (by simp) rfl 51 rfl;exact pl9 (r:=by simp only [seval,i51];simp [go_sem,c1])
  ·obtain ⟨rfl,rfl⟩:=o7 ho hdt;have i52:_=Value.slice px m cx:=hin ⟨1,.data⟩ (by simp) rfl 52 rfl;refine ew9 35 #[.slice px m cx] (by simp only [seval,i52];simp [invoke,egW,Result.andThen,go_sem]) (whole_linON px m cx (fun i=>X.getD i 0) u (HXR.out.later (b0.trans (b4w.trans hu))) (by omega)) ?_;rintro e w' ⟨q,c,rfl,hR,_,hb⟩;exact ⟨_,rfl,_,rfl,⟨q,c,rfl,hR⟩,hb⟩
  ·obtain ⟨rfl,rfl⟩:=o7 ho hdt;have i6:_=Value.pointer (some ⟨w2.heap.size,0,none⟩):=hfr 6 (by decide);exact pl9 (r:=by simp only [seval,i6];simp [go_sem,y0,y1,y2])
  ·obtain ⟨rfl,rfl⟩:=o7 ho hdt;have i53:∃ q c,(act.eval (.tmp (53:Nat)))=.slice q m c∧Rw 4 cellsN u (.slice q m c) (linJ m (fun i=>wholeN (X.getD i 0))):=hin ⟨2,.data⟩ (by simp) rfl 53 rfl;have i54:_=mV m m p2 N c2':=hin ⟨3,.data⟩ (by simp) rfl 54 rfl;obtain ⟨q0,cc0,e0,hq⟩:=i53;refine ew9 34 #[.slice q0 m cc0,mV m m p2 N c2'] (by simp only [seval,e0,i54];simp [invoke,egN,Result.andThen,go_sem]) (rNewN m q0 cc0 (fun i=>wholeN (X.getD i 0)) p2 N c2' (fun i k=>wholeN (ofL m Ro i k)) u hq.q (HX2.out.later (b24.trans hu)) hm4) ?_;rintro e w' ⟨q,c,p',c',rfl,⟨hR,hM⟩,hb⟩;exact ⟨_,rfl,_,rfl,⟨q,c,p',c',rfl,hR,hM⟩,hb⟩
  ·obtain ⟨rfl,rfl⟩:=o7 ho hdt;have i55:∃ q c p' c',(act.eval (.tmp (55:Nat)))=.tuple #[sJ q (m) c (m:Nat) (m:Nat) p' (N) c',.bool true]∧Rw 4 cellsN u (.slice q (m) c) (linJ (m) (fun i=>wholeN (X.getD i 0)))∧Mx 4 cellsN u (m) (m) p' (N) c' (clrN (fun i k=>wholeN (ofL m Ro i k))):=hin ⟨4,.data⟩ (by simp) rfl 55 rfl;obtain ⟨q0,c0',p0,c0,e1,hq1,hq2⟩:=i55;exact pw9 (by simp only [execOp,e1];simp [go_sem]) ⟨_,rfl,⟨q0,c0',p0,c0,rfl,hq1,hq2⟩,Bl.refl _⟩
  ·obtain ⟨rfl,rfl⟩:=o7 ho hdt;have i50:∃ q c p' c',(act.eval (.tmp (50:Nat)))=.tuple #[sJ q (m) c (m:Nat) (m:Nat) p' (N) c',.bool true]∧Rw 4 cellsN u (.slice q (m) c) (linJ (m) (fun i=>wholeN (X.getD i 0)))∧Mx 4 cellsN u (m) (m) p' (N) c' (clrN (fun i k=>wholeN (ofL m Ro i k))):=hin ⟨5,.data⟩ (by simp) rfl 50 rfl;obtain ⟨q0,c0',p0,c0,e1,hq1,hq2⟩:=i50;exact pw9 (by simp only [execOp,e1];simp [go_sem]) ⟨_,rfl,⟨q0,c0',p0,c0,rfl,hq1,hq2⟩,Bl.refl _⟩
  ·cases hpu
  ·obtain ⟨rfl,rfl⟩:=o7 ho hdt;exact pw9 (w':=u.alloc (.cells #[.slice none 0 0,.int .i64 0,.int .i64 0,.slice none 0 0] 50)) (v:=.pointer (some ⟨u.heap.size,0,none⟩)) (by simp only [execOp];simp [go_sem]) ⟨_,rfl,⟨u.heap.size,rfl,hu.size,SBox.new u _ _ _ _ _ _ _ _ _,noB_newSN u _⟩,(Bl.refl _).alloc _⟩
  ·obtain rfl:=o9 ho;cases hdt
  ·cases hpu
 case still =>
  intro j o t act u0 u ho hdt hpu hsz hu hfr hin;have hj:j<11:=l9 ho;obtain ⟨c0,c1,c2,c3,c4,c5,c6,c7⟩:=HC.out _ (b4w.trans hu);obtain ⟨y0,y1,y2,_,_,_,_⟩:=k2.later (b24.trans hu);rcases (by omega:j=0∨j=1∨j=2∨j=3∨j=4∨j=5∨j=6∨j=7∨j=8∨j=9∨j=10) with rfl|rfl|rfl|rfl|rfl|rfl|rfl|rfl|rfl|rfl|rfl
  ·cases hpu
  ·cases hpu
  ·cases hpu
  ·cases hpu
  ·cases hpu
  ·cases hpu
  ·cases hpu
  ·obtain ⟨rfl,rfl⟩:=o7 ho hdt;have i50:∃ q c p' c',(act.eval (.tmp (50:Nat)))=.tuple #[sJ q (m) c (m:Nat) (m:Nat) p' (N) c',.bool true]∧Rw 4 cellsN u0 (.slice q (m) c) (linJ (m) (fun i=>wholeN (X.getD i 0)))∧Mx 4 cellsN u0 (m) (m) p' (N) c' (clrN (fun i k=>wholeN (ofL m Ro i k))):=hin ⟨5,.data⟩ (by simp) rfl 50 rfl;obtain ⟨q0,c0',p0,c0,e1,hq1,hq2⟩:=i50;exact pw9 (by simp only [execOp,e1];simp [go_sem]) ⟨_,rfl,rfl,rfl⟩
  ·cases hpu
  ·cases hpu
  ·obtain ⟨rfl,rfl⟩:=o7 ho hdt;have i57:_=Value.bool true:=hin ⟨7,.data⟩ (by simp) rfl 57 rfl;exact pw9 (by simp only [seval,i57];simp [go_sem]) ⟨_,rfl,rfl,rfl⟩
 case store =>
  intro o act u vs ho hsz hu hfr hin;obtain rfl:=o9 ho;obtain ⟨i12,k12⟩:act.eval (.tmp (12:Nat))=vs 8∧(∃ b,(vs 8)=.pointer (some ⟨b,0,none⟩)∧W4.heap.size≤b∧SBox u b none 0 0 0 0 none 0 0∧NoB u b):=hin 8 12 rfl rfl;obtain ⟨i56,k56⟩:act.eval (.tmp (56:Nat))=vs 6∧(∃ q c p' c',(vs 6)=sJ q (m) c (m:Nat) (m:Nat) p' (N) c'∧Rw 4 cellsN u (.slice q (m) c) (linJ (m) (fun i=>wholeN (X.getD i 0)))∧Mx 4 cellsN u (m) (m) p' (N) c' (clrN (fun i k=>wholeN (ofL m Ro i k)))):=hin 6 56 rfl rfl;obtain ⟨b,e1,hb,bx,nb⟩:=k12;obtain ⟨q0,c0',p0,c0,e2,hq1,hq2⟩:=k56;rw [e1] at i12;rw [e2] at i56;obtain ⟨d0,d1,d2,d3,g0,g1,g2,g3,ltb⟩:=id bx;exact sw9 (by simp only [execOp,i12,i56];simp [go_sem,d0,d1,d2,d3,g0,g1,g2,g3]) ⟨rfl,b,q0,c0',p0,c0,e1,hb,bx.fill _ _ _ _ _ _ _ _,hq1.but (but4N _ _ _ _ _ _) (fun g hg=>noB_rwN hq1 (m1) nb g hg),Mx.but hq2 (but4N _ _ _ _ _ _) (fun g hg=>Ne.symm (noB_mx boolN hq2 nb g hg)),Bl.put4 hu hb _ _ _ _⟩
 case fin =>
  intro vs vb u0 u hu hin hps;have a0:=hin 0 51 rfl;have a1:=hin 1 52 rfl;have a2:=hin 2 53 rfl;have a3:=hin 3 54 rfl;have a4:=hin 4 55 rfl;have a5:=hin 5 50 rfl;have a6:=hin 6 56 rfl;have a7:=hin 7 57 rfl;have a8:=hin 8 12 rfl;have a10:=hin 10 13 rfl;simp only [seval] at a0 a1 a2 a3 a4 a5 a6 a7 a8 a10 ⊢;rw [if_pos (by decide)] at hps;simp only [a0,a1,a3,a7,a10];obtain ⟨b5,q5,cq5,p5,cc5,eb,hb,k5,hR,hM,hbu⟩:=hps;simp only [eb];obtain ⟨w5,rfl⟩:∃ w5,w5=u:=⟨_,rfl⟩;have HR5:=hideP hR;have HM5:=hideP hM;have b45:Bl W4 w5:=hbu;have b5w:Bl W w5:=b4w.trans b45;clear a2 a4 a5 a6 a8 hu hin hR hM;have PR:=hideP (rPredictN m N q5 cq5 (fun i=>wholeN (X.getD i 0)) p5 cc5 (clrN (fun i k=>wholeN (ofL m Ro i k))) p3 c3' (fun i k=>wholeN (ofL m Fm i k)) p4 c4' (fun i k=>wholeN (ofL m Gm i k)) w5 HR5.out.q HM5.out (HX3.out.later (b34.trans b45)) (HX4.out.later b45) hm4);obtain ⟨s0,s1,s2,s3,_,_,_,_,_⟩:=id k5;obtain ⟨y0,y1,y2,_,_,_,_⟩:=k3.later (b34.trans b45);obtain ⟨z0,z1,z2,_,_,_,_⟩:=k4.later b45;go_wp2_with fail
  refine PR.out.mono ?_;rintro e w6 ⟨q6,cq6,p6,c6',rfl,⟨hR6,hM6⟩,h6⟩;clear s0 s1 s2 s3 y0 y1 y2 z0 z1 z2 PR;obtain ⟨W6,hW6⟩:∃ W6,W6=w6.alloc (.cells #[.slice q6 m cq6,.int .i64 m,.int .i64 m,.slice p6 N c6'] 50):=⟨_,rfl⟩;have b6:Bl w6 W6:=by rw [hW6];exact (Bl.refl _).alloc _
  have k6:SBox W6 w6.heap.size q6 m cq6 m m p6 N c6':=by rw [hW6];exact SBox.new w6 _ _ _ _ _ _ _ _ _
  have HR6:=hideP (show Rw 4 cellsN W6 (.slice q6 m cq6) (linJ m (laneX m Fm X)) from hR6.later b6);have HM6:=hideP (show Mx 4 cellsN W6 m m p6 N c6' (laneS m Ro Fm Gm) from Mx.later hM6 b6);have b56:Bl w5 W6:=h6.trans b6;have b6w:Bl W W6:=b5w.trans b56;have b16:Bl W1 W6:=b14.trans (b45.trans b56);have HW6:=hideP hW6;clear hW6 hR6 hM6;go_wp2_with fail
  rw [←HW6.out]
  refine (wpIn_wide (n:=8)).1 (region_u (updL_ok W6.heap.size (m) (N) (laneUX m X Ro Fm Gm H Rr Zz) ((laneR m Ro Fm Gm H Rr).s) (laneE m X Fm H Zz) ((laneR m Ro Fm Gm H Rr).a)) fm [some 66,some 67,some 68,some 69,some 70,some 71,some 72,some 73,some 74,some 75,some 76,some 77,some 78,some 65,some 79,some 80,some 81,some 16,some 17,none,none,some 18] 12 (by kernel_rfl) (by rfl) 78 65 79 80 81 16 17 18 rfl
     (fun j v u=>match j with|0=>v=sJ q6 m cq6 m m p6 N c6'|1=>v=.pointer (some ⟨w.heap.size,5,none⟩)|2=>v=.slice ph m ch|3=>∃ q c,v=.slice q m c∧Rw 4 cellsN u (.slice q m c) (linJ m (fun i=>wholeN (H.getD i 0)))|4=>v=enV one|5=>v=.pointer (some ⟨w.heap.size,6,none⟩)|6=>v=.int .i64 r|7=>v=enV Rr|8=>v=enV one|9=>v=.pointer (some ⟨w.heap.size,7,none⟩)|10=>v=.int .i64 z|11=>v=enV Zz|_=>False)
     (by
      intro j v u u' hb h;split at h<;>first|exact h|(obtain ⟨q,c,e,h1⟩:=h;exact ⟨q,c,e,h1.later hb⟩)|(obtain ⟨g,e,h1⟩:=h;exact ⟨g,e,h1.later hb⟩)) ?step ?call ?mv ?x0 ?x1 ?x2 ?la ?lb ?sa ?sb ?asg ?fin)
  case step =>
   intro j o t act u hjk ho hdt hsz hu hfr hin;obtain ⟨c0,c1,c2,c3,c4,c5,c6,c7⟩:=HC.out _ (b6w.trans hu);obtain ⟨s0,s1,s2,s3,_,_,_,_,_⟩:=k6.later hu;obtain ⟨o0,o1,o2,o3,_,_,_,_,_⟩:=ko.later (b16.trans hu);rcases (by omega:j=0∨j=1∨j=2∨j=3∨j=4∨j=5∨j=6∨j=7∨j=8∨j=9∨j=10∨j=11) with rfl|rfl|rfl|rfl|rfl|rfl|rfl|rfl|rfl|rfl|rfl|rfl
   ·obtain ⟨rfl,rfl⟩:=o7 ho hdt;have i14:_=Value.pointer (some ⟨w6.heap.size,0,none⟩):=hfr 14 (by decide);exact pl9 (r:=by simp only [seval,i14];simp [go_sem,s0,s1,s2,s3])
   ·obtain ⟨rfl,rfl⟩:=o7 ho hdt;have i1:_=Value.pointer (some ⟨w.heap.size,0,none⟩):=hfr 1 (by decide);exact pl9 (r:=by simp only [seval,i1];simp [go_sem,c5])
   ·obtain ⟨rfl,rfl⟩:=o7 ho hdt;have i67:_=Value.pointer (some ⟨w.heap.size,5,none⟩):=hin ⟨1,.data⟩ (by simp) rfl 67 rfl;exact pl9 (r:=by simp only [seval,i67];simp [go_sem,c5])
   ·obtain ⟨rfl,rfl⟩:=o7 ho hdt;have i68:_=Value.slice ph m ch:=hin ⟨2,.data⟩ (by simp) rfl 68 rfl;refine ew9 35 #[.slice ph m ch] (by simp only [seval,i68];simp [invoke,egW,Result.andThen,go_sem]) (whole_linON ph m ch (fun i=>H.getD i 0) u (HHR.out.later (b0.trans (b6w.trans hu))) (by omega)) ?_;rintro e w' ⟨q,c,rfl,hR,_,hb⟩;exact ⟨_,rfl,_,rfl,⟨q,c,rfl,hR⟩,hb⟩
   ·obtain ⟨rfl,rfl⟩:=o7 ho hdt;have i5:_=Value.pointer (some ⟨w1.heap.size,0,none⟩):=hfr 5 (by decide);exact pl9 (r:=by simp only [seval,i5];simp [go_sem,o0,o1,o2,o3])
   ·obtain ⟨rfl,rfl⟩:=o7 ho hdt;have i1:_=Value.pointer (some ⟨w.heap.size,0,none⟩):=hfr 1 (by decide);exact pl9 (r:=by simp only [seval,i1];simp [go_sem,c6])
   ·obtain ⟨rfl,rfl⟩:=o7 ho hdt;have i71:_=Value.pointer (some ⟨w.heap.size,6,none⟩):=hin ⟨5,.data⟩ (by simp) rfl 71 rfl;exact pl9 (r:=by simp only [seval,i71];simp [go_sem,c6])
   ·obtain ⟨rfl,rfl⟩:=o7 ho hdt;have i70:_=enV one:=hin ⟨4,.data⟩ (by simp) rfl 70 rfl;have i72:_=Value.int .i64 r:=hin ⟨6,.data⟩ (by simp) rfl 72 rfl;refine ew9 37 #[enV one,.int .i64 r] (by simp only [seval,i70,i72];simp [invoke,egO,Result.andThen,go_sem]) (ofE_any one r u) ?_;rintro e w' ⟨rfl,hb⟩;exact ⟨_,rfl,_,rfl,show enV (ptE (foN r) (foB r))=enV Rr from by rw [HRr.out],hb⟩
   ·obtain ⟨rfl,rfl⟩:=o7 ho hdt;have i5:_=Value.pointer (some ⟨w1.heap.size,0,none⟩):=hfr 5 (by decide);exact pl9 (r:=by simp only [seval,i5];simp [go_sem,o0,o1,o2,o3])
   ·obtain ⟨rfl,rfl⟩:=o7 ho hdt;have i1:_=Value.pointer (some ⟨w.heap.size,0,none⟩):=hfr 1 (by decide);exact pl9 (r:=by simp only [seval,i1];simp [go_sem,c7])
   ·obtain ⟨rfl,rfl⟩:=o7 ho hdt;have i75:_=Value.pointer (some ⟨w.heap.size,7,none⟩):=hin ⟨9,.data⟩ (by simp) rfl 75 rfl;exact pl9 (r:=by simp only [seval,i75];simp [go_sem,c7])
   ·obtain ⟨rfl,rfl⟩:=o7 ho hdt;have i74:_=enV one:=hin ⟨8,.data⟩ (by simp) rfl 74 rfl;have i76:_=Value.int .i64 z:=hin ⟨10,.data⟩ (by simp) rfl 76 rfl;refine ew9 37 #[enV one,.int .i64 z] (by simp only [seval,i74,i76];simp [invoke,egO,Result.andThen,go_sem]) (ofE_any one z u) ?_;rintro e w' ⟨rfl,hb⟩;exact ⟨_,rfl,_,rfl,show enV (ptE (foN z) (foB z))=enV Zz from by rw [HZz.out],hb⟩
  case call =>
   intro o act u ho hsz hu hfr hin;obtain ⟨c0,c1,c2,c3,c4,c5,c6,c7⟩:=HC.out _ (b6w.trans hu);obtain ⟨s0,s1,s2,s3,_,_,_,_,_⟩:=k6.later hu;obtain ⟨o0,o1,o2,o3,_,_,_,_,_⟩:=ko.later (b16.trans hu);obtain rfl:=o9 ho;have i66:_=sJ q6 m cq6 m m p6 N c6':=hin ⟨0,.data⟩ (by simp) rfl 66 rfl;have i69:∃ q c,(act.eval (.tmp (69:Nat)))=.slice q m c∧Rw 4 cellsN u (.slice q m c) (linJ m (fun i=>wholeN (H.getD i 0))):=hin ⟨3,.data⟩ (by simp) rfl 69 rfl;have i73:_=enV Rr:=hin ⟨7,.data⟩ (by simp) rfl 73 rfl;have i77:_=enV Zz:=hin ⟨11,.data⟩ (by simp) rfl 77 rfl;obtain ⟨q0,cc0,e0,hq⟩:=i69;refine ew9 36 #[sJ q6 m cq6 m m p6 N c6',.slice q0 m cc0,enV Rr,enV Zz] (by simp only [seval,i66,e0,i73,i77];simp [invoke,egU,Result.andThen,go_sem]) (rUpdateN m N q6 cq6 (laneX m Fm X) p6 c6' (laneS m Ro Fm Gm) q0 cc0 (fun i=>wholeN (H.getD i 0)) Rr Zz u (HR6.out.later hu).q (HM6.out.later hu) hq.q hm4) ?_;rintro e w' ⟨q,c,p',c',rfl,⟨hR,hM,hF1,hF2⟩,hb⟩;exact ⟨_,rfl,(q,c,p',c'),rfl,⟨hR,hM,fresh_le hF1 hu.size,fresh_le hF2 hu.size⟩,hb,fun b hb' _=>⟨fun g hg=>by have:=hF1 g hg;omega,fun g hg=>by have:=hF2 g hg;omega⟩⟩
  case mv =>
   intro o act u x ho hx;obtain rfl:=o9 ho;exact pw9 (by simp only [execOp,hx];simp [go_sem]) ⟨rfl,rfl⟩
  case x0 =>
   intro o act u x y z ho hx;obtain rfl:=o9 ho;exact pw9 (by simp only [execOp,hx];simp [go_sem]) ⟨rfl,rfl⟩
  case x1 =>
   intro o act u x y z ho hx;obtain rfl:=o9 ho;exact pw9 (by simp only [execOp,hx];simp [go_sem]) ⟨rfl,rfl⟩
  case x2 =>
   intro o act u x y z ho hx;obtain rfl:=o9 ho;exact pw9 (by simp only [execOp,hx];simp [go_sem]) ⟨rfl,rfl⟩
  case la =>
   intro o act u ho;obtain rfl:=o9 ho;exact pw9 (w':=u.alloc (.cells #[.slice none 0 0,.int .i64 0,.int .i64 0,.slice none 0 0] 50)) (v:=.pointer (some ⟨u.heap.size,0,none⟩)) (by simp only [execOp];simp [go_sem]) ⟨rfl,SBox.new u _ _ _ _ _ _ _ _ _,(Bl.refl _).alloc _,by simp⟩
  case lb =>
   intro o act u ho;obtain rfl:=o9 ho;exact pw9 (w':=u.alloc (.cells #[.int .i64 0,.int .i64 0,.int .i64 0,.bool false,.int .i64 0,.int .i64 0,.int .i64 0,.bool false] 54)) (v:=.pointer (some ⟨u.heap.size,0,none⟩)) (by simp only [execOp];simp [go_sem]) ⟨rfl,NBoxN.new u zeroE zeroE _,(Bl.refl _).alloc _,by simp⟩
  case sa =>
   intro o act u D b ho hA h0 hz hdat hoff hbl hb;obtain rfl:=o9 ho;obtain ⟨q0,c0,p0,c1⟩:=D;replace h0:act.eval (.tmp 79)=sJ q0 (m) c0 (m) (m) p0 (N) c1:=h0;obtain ⟨d0,d1,d2,d3,g0,g1,g2,g3,lt⟩:=(show SBox u b none 0 0 0 0 none 0 0 from hz);exact sw9 (by simp only [execOp,hA,h0];simp [go_sem,d0,d1,d2,d3,g0,g1,g2,g3]) ⟨rfl,SBox.fill (show SBox u b none 0 0 0 0 none 0 0 from hz) _ _ _ _ _ _ _ _,⟨hdat.1.but (but4N _ _ _ _ _ _) (fun g hg=>hoff.1 g hg),Mx.but hdat.2.1 (but4N _ _ _ _ _ _) (fun g hg=>hoff.2 g hg),hdat.2.2⟩,Bl.put4 hbl hb _ _ _ _,fun b' h'=>heap4N _ h' _ _ _ _,by simp⟩
  case sb =>
   intro o act u D b ho hA h0 hz hdat hoff hbl hb;obtain rfl:=o9 ho;obtain ⟨q0,c0,p0,c1⟩:=D;replace h0:act.eval (.tmp 80)=newsVN (laneE m X Fm H Zz) ((laneR m Ro Fm Gm H Rr).a):=h0;obtain ⟨d0,d1,d2,d3,d4,d5,d6,d7,g0,g1,g2,g3,g4,g5,g6,g7,lt⟩:=(show NBoxN u b zeroE zeroE from hz);exact sw9 (by simp only [execOp,hA,h0];simp [go_sem,d0,d1,d2,d3,d4,d5,d6,d7,g0,g1,g2,g3,g4,g5,g6,g7]) ⟨rfl,NBoxN.fill (show NBoxN u b zeroE zeroE from hz) _ _,⟨hdat.1.but (butNN _ _ _ _) (fun g hg=>hoff.1 g hg),Mx.but hdat.2.1 (butNN _ _ _ _) (fun g hg=>hoff.2 g hg),hdat.2.2⟩,blNN b hbl hb _ _,fun b' h'=>heapNN _ h' _ _,by simp⟩
  case asg =>
   intro o act u x ho hx;obtain rfl:=o9 ho;exact pw9 (by simp only [execOp,hx];simp [go_sem]) ⟨rfl,rfl⟩
  case fin =>
   intro vs u D b7 bn7 hu e9' e5' e6' hb1 hb2 hsa hsb hdat;simp only [seval] at e9' e5' e6' ⊢;replace e9':=Eq.trans e9' (show _=Value.bool true from rfl);simp only [e9',e5',e6'];obtain ⟨q7,cq7,p7,c7'⟩:=D;obtain ⟨w7,rfl⟩:∃ w7,w7=u:=⟨_,rfl⟩;have k7:SBox w7 b7 q7 m cq7 m m p7 N c7':=hsa;have n7:NBoxN w7 bn7 (laneE m X Fm H Zz) ((laneR m Ro Fm Gm H Rr).a):=hsb;have HD7:Rw 4 cellsN w7 (.slice q7 m cq7) (linJ m (laneUX m X Ro Fm Gm H Rr Zz))∧Mx 4 cellsN w7 m m p7 N c7' ((laneR m Ro Fm Gm H Rr).s)∧Fresh W6.heap.size (.slice q7 m cq7)∧Fresh W6.heap.size (.slice p7 N c7'):=hdat;have HR7:=hideP HD7.1;have HM7:=hideP HD7.2.1;have HF1:=hideP HD7.2.2.1;have HF2:=hideP HD7.2.2.2;have b67:Bl W6 w7:=hu;have B7:Bl w w7:=b0.trans (b6w.trans b67);have SZ0:=hideP (sz0.later (b6w.trans b67));have NZ0:=hideP (nz0.later (b6w.trans b67));have hsW:=b6w.size;have hs7:=b67.size;have hl1:=SZ0.out.lt;have hl2:=NZ0.out.lt;clear hsa hsb hdat HD7;go_wp2_with fail
   refine (wpIn_wide (n:=8)).1 (region_g fm (TwoJ (w.heap.size+1) (w.heap.size+1+1) (fun y=>SBox y (w.heap.size+1) q7 m cq7 m m p7 N c7') (fun y=>NBoxN y (w.heap.size+1+1) (laneE m X Fm H Zz) ((laneR m Ro Fm Gm H Rr).a))) [some 82,some 83,some 84,some 85,some 86,some 87,some 88,some 89,some 90,none,none,some 4] (by kernel_rfl) (by rfl) (TwoJ.bl ((Bl.refl _).drew) (by omega) (by omega)) (fun h k=>TwoJ.trans (fun x y t b e=>t.heap e b.size) (fun x y t b e=>t.heap e b.size) h k)
      (fun j v u=>match j with|0=>v=sJ q7 m cq7 m m p7 N c7'|1=>v=newsVN (laneE m X Fm H Zz) ((laneR m Ro Fm Gm H Rr).a)|2=>v=.bool true|3=>v=.bool true|4=>v=.bool true|5=>v=.bool true|6=>v=.bool true|7=>v=.bool true|8=>v=.bool true|9=>SBox u (w.heap.size+1) q7 m cq7 m m p7 N c7'|10=>NBoxN u (w.heap.size+1+1) (laneE m X Fm H Zz) ((laneR m Ro Fm Gm H Rr).a)|11=>v=.bool true|_=>False)
      (by
       intro j v u u' hb hr h;split at h
       ·exact h
       ·exact h
       ·exact h
       ·exact h
       ·exact h
       ·exact h
       ·exact h
       ·exact h
       ·exact h
       ·rcases hr.g8 with e|t
        ·exact h.heap e hr.but.size
        ·exact t
       ·rcases hr.l9 with e|t
        ·exact h.heap e hr.but.size
        ·exact t
       ·exact h
       ·exact h)
      (by
        intro j o g b v u ho hg hf;have hj:j<12:=l9 ho;rcases (by omega:j=0∨j=1∨j=2∨j=3∨j=4∨j=5∨j=6∨j=7∨j=8∨j=9∨j=10∨j=11) with rfl|rfl|rfl|rfl|rfl|rfl|rfl|rfl|rfl|rfl|rfl|rfl
        ·obtain rfl:=o9 ho;cases hg
        ·obtain rfl:=o9 ho;cases hg
        ·obtain rfl:=o9 ho;cases hg
        ·obtain rfl:=o9 ho;cases hg
        ·obtain rfl:=o9 ho;cases hg;exact hf
        ·obtain rfl:=o9 ho;cases hg
        ·obtain rfl:=o9 ho;cases hg
        ·obtain rfl:=o9 ho;cases hg;exact hf
        ·obtain rfl:=o9 ho;cases hg
        ·obtain rfl:=o9 ho;cases hg
        ·obtain rfl:=o9 ho;cases hg
        ·obtain rfl:=o9 ho;cases hg
        ) ?step ?fin)
   case step =>
    intro j o act u ho hsz hu hfr hin hnon;have hj:j<12:=l9 ho;have hub:=hu.but.size;have KS:=k7.heap (hu.but.block _ k7.lt (by show ¬ (_=_∨_=_);omega)) hu.but.size;have KN:=n7.heap (hu.but.block _ n7.lt (by show ¬ (_=_∨_=_);omega)) hu.but.size;obtain ⟨s0,s1,s2,s3,_,_,_,_,_⟩:=KS;obtain ⟨n0',n1',n2',n3',n4',n5',n6',n7',_,_,_,_,_,_,_,_,_⟩:=KN;rcases (by omega:j=0∨j=1∨j=2∨j=3∨j=4∨j=5∨j=6∨j=7∨j=8∨j=9∨j=10∨j=11) with rfl|rfl|rfl|rfl|rfl|rfl|rfl|rfl|rfl|rfl|rfl|rfl
    ·obtain rfl:=o9 ho;have i16:_=Value.pointer (some ⟨b7,0,none⟩):=hfr 16 (by decide);exact pw9 (by simp only [seval,i16];simp [go_sem,s0,s1,s2,s3]) ⟨_,rfl,rfl,TwoJ.bl (Bl.refl _) (by have:=hu.but.size;omega) (by have:=hu.but.size;omega)⟩
    ·obtain rfl:=o9 ho;have i17:_=Value.pointer (some ⟨bn7,0,none⟩):=hfr 17 (by decide);exact pw9 (by simp only [seval,i17];simp [go_sem,n0',n1',n2',n3',n4',n5',n6',n7']) ⟨_,rfl,rfl,TwoJ.bl (Bl.refl _) (by have:=hu.but.size;omega) (by have:=hu.but.size;omega)⟩
    ·obtain rfl:=o9 ho;have i13:_=Value.bool true:=hfr 13 (by decide);exact pw9 (by simp only [seval,i13];simp [go_sem]) ⟨_,rfl,rfl,TwoJ.bl (Bl.refl _) (by have:=hu.but.size;omega) (by have:=hu.but.size;omega)⟩
    ·obtain rfl:=o9 ho;have i84:_=Value.bool true:=hin ⟨2,.data⟩ (by simp) rfl 84 rfl;exact pw9 (by simp only [seval,i84];simp [go_sem]) ⟨_,rfl,rfl,TwoJ.bl (Bl.refl _) (by have:=hu.but.size;omega) (by have:=hu.but.size;omega)⟩
    ·obtain rfl:=o9 ho;have i15:_=Value.bool true:=hfr 15 (by decide);exact pw9 (by simp only [seval,i15];simp [go_sem]) ⟨_,rfl,rfl,TwoJ.bl (Bl.refl _) (by have:=hu.but.size;omega) (by have:=hu.but.size;omega)⟩
    ·obtain rfl:=o9 ho;have i85:_=Value.bool true:=hin ⟨3,.data⟩ (by simp) rfl 85 rfl;have i86:_=Value.bool true:=hin ⟨4,.data⟩ (by simp) rfl 86 rfl;exact pw9 (by simp only [seval,i85,i86];simp [go_sem]) ⟨_,rfl,rfl,TwoJ.bl (Bl.refl _) (by have:=hu.but.size;omega) (by have:=hu.but.size;omega)⟩
    ·obtain rfl:=o9 ho;have i87:_=Value.bool true:=hin ⟨5,.data⟩ (by simp) rfl 87 rfl;exact pw9 (by simp only [seval,i87];simp [go_sem]) ⟨_,rfl,rfl,TwoJ.bl (Bl.refl _) (by have:=hu.but.size;omega) (by have:=hu.but.size;omega)⟩
    ·obtain rfl:=o9 ho;have i18:_=Value.bool true:=hfr 18 (by decide);exact pw9 (by simp only [seval,i18];simp [go_sem]) ⟨_,rfl,rfl,TwoJ.bl (Bl.refl _) (by have:=hu.but.size;omega) (by have:=hu.but.size;omega)⟩
    ·obtain rfl:=o9 ho;have i88:_=Value.bool true:=hin ⟨6,.data⟩ (by simp) rfl 88 rfl;have i89:_=Value.bool true:=hin ⟨7,.data⟩ (by simp) rfl 89 rfl;exact pw9 (by simp only [seval,i88,i89];simp [go_sem]) ⟨_,rfl,rfl,TwoJ.bl (Bl.refl _) (by have:=hu.but.size;omega) (by have:=hu.but.size;omega)⟩
    ·obtain rfl:=o9 ho;have i2:_=Value.pointer (some ⟨w.heap.size+1,0,none⟩):=hfr 2 (by decide);have i82:_=sJ q7 m cq7 m m p7 N c7':=hin ⟨0,.data⟩ (by simp) rfl 82 rfl;obtain ⟨qa,qb,qc,qd,qe,qf,qg,qh,sx⟩:∃ px nx cx r c p n cap,SBox u (w.heap.size+1) px nx cx r c p n cap:=by
      rcases hu.g8 with e|t
      ·exact ⟨_,_,_,_,_,_,_,_,SZ0.out.heap e hu.but.size⟩
      ·exact ⟨_,_,_,_,_,_,_,_,t⟩
     have SX:=hideP sx;obtain ⟨d0,d1,d2,d3,x0,x1,x2,x3,ltd⟩:=id sx;exact sw9 (by simp only [execOp,i2,i82];simp [go_sem,d0,d1,d2,d3,x0,x1,x2,x3]) ⟨undef,rfl,SX.out.fill _ _ _ _ _ _ _ _,⟨(((but_cell1 (.inl rfl) _ _ _).trans (but_cell1 (.inl rfl) _ _ _)).trans (but_cell1 (.inl rfl) _ _ _)).trans (but_cell1 (.inl rfl) _ _ _),.inr (SX.out.fill _ _ _ _ _ _ _ _),.inl (by rw [heap1 _ (by omega),heap1 _ (by omega),heap1 _ (by omega),heap1 _ (by omega)])⟩⟩
    ·obtain rfl:=o9 ho;have i3:_=Value.pointer (some ⟨w.heap.size+1+1,0,none⟩):=hfr 3 (by decide);have i83:_=newsVN (laneE m X Fm H Zz) ((laneR m Ro Fm Gm H Rr).a):=hin ⟨1,.data⟩ (by simp) rfl 83 rfl;obtain ⟨x',y',nx⟩:∃ x y,NBoxN u (w.heap.size+1+1) x y:=by
      rcases hu.l9 with e|t
      ·exact ⟨_,_,NZ0.out.heap e hu.but.size⟩
      ·exact ⟨_,_,t⟩
     have NX:=hideP nx;obtain ⟨d0,d1,d2,d3,d4,d5,d6,d7,x0,x1,x2,x3,x4,x5,x6,x7,ltd⟩:=id nx;exact sw9 (by simp only [execOp,i3,i83];simp [go_sem,d0,d1,d2,d3,d4,d5,d6,d7,x0,x1,x2,x3,x4,x5,x6,x7]) ⟨undef,rfl,NX.out.fill _ _,⟨(((((((but_cell1 (.inr rfl) _ _ _).trans (but_cell1 (.inr rfl) _ _ _)).trans (but_cell1 (.inr rfl) _ _ _)).trans (but_cell1 (.inr rfl) _ _ _)).trans (but_cell1 (.inr rfl) _ _ _)).trans (but_cell1 (.inr rfl) _ _ _)).trans (but_cell1 (.inr rfl) _ _ _)).trans (but_cell1 (.inr rfl) _ _ _),.inl (by rw [heap1 _ (by omega),heap1 _ (by omega),heap1 _ (by omega),heap1 _ (by omega),heap1 _ (by omega),heap1 _ (by omega),heap1 _ (by omega),heap1 _ (by omega)]),.inr (NX.out.fill _ _)⟩⟩
    ·obtain rfl:=o9 ho;have i90:_=Value.bool true:=hin ⟨8,.data⟩ (by simp) rfl 90 rfl;exact pw9 (by simp only [seval,i90];simp [go_sem]) ⟨_,rfl,rfl,TwoJ.bl (Bl.refl _) (by have:=hu.but.size;omega) (by have:=hu.but.size;omega)⟩
   case fin =>
    intro vs u hu hin hnon;have a0:=hin 0 82 rfl;have a1:=hin 1 83 rfl;have a2:=hin 2 84 rfl;have a3:=hin 3 85 rfl;have a4:=hin 4 86 rfl;have a5:=hin 5 87 rfl;have a6:=hin 6 88 rfl;have a7:=hin 7 89 rfl;have a8:=hin 8 90 rfl;have a9:=hnon 9 rfl;have a10:=hnon 10 rfl;have a11:=hin 11 4 rfl;simp only [seval] at a0 a1 a2 a3 a4 a5 a6 a7 a8 a9 a10 a11 ⊢;simp only [a0,a1,a2,a3,a4,a5,a6,a7,a8,a11];obtain ⟨d0,d1,d2,d3,_,_,_,_,_⟩:=a9;obtain ⟨e0,e1,e2,e3,e4,e5,e6,e7,_,_,_,_,_,_,_,_,_⟩:=a10;have HMF:=hideP (Mx.but HM7.out hu.but (fun b hb=>by have:=HF2.out b hb;show ¬ (_=_∨_=_);omega));have HRW:=hideP (HR7.out.but hu.but (fun b hb=>by have:=HF1.out b hb;show ¬ (_=_∨_=_);omega));clear hin hnon;go_wp2;simp [bodyPost,results,Tryz.results18,go_sem,d0,d1,d2,d3,e0,e1,e2,e3,e4,e5,e6,e7];exact ⟨q7,cq7,p7,c7',by simp,⟨HRW.out,HMF.out⟩,hu.but.bl B7 (fun i hi=>by rcases hi with h|h<;>omega)⟩
theorem ofQ_badV (q:Rat):fineR (ofQ q) = !(ofQ q).bad:=by
 cases h:okR q
 ·rw [ofQ_no h];rfl
 ·rw [ofQ_fine,h,ofQ_ok h];rfl
theorem add_badV (a b:Fr):fineR (addR a b) = !(addR a b).bad:=by
 unfold addR;split
 ·exact ofQ_badV _
 ·rfl
theorem sub_badV (a b:Fr):fineR (subR a b) = !(subR a b).bad:=by
 unfold subR;split
 ·exact ofQ_badV _
 ·rfl
theorem encl_enqV {a:En} {n d:Int} (h:Enq a n d) (hn:Wh n) (hd:1≤d∧d≤1073741824) (hb:a.bad=false):enclB a n d=true:=by
 rcases h with rfl|⟨hf,h1,h2⟩
 ·cases hb
 ·have r1:rightB n=true:=by unfold rightB;simp;have:=hn.1;have:=hn.2;omega
  have r2:rightB d=true:=by unfold rightB;simp;omega
  unfold enclB withinB;rw [hf,r1,r2];simp [h1,h2,hd.1]
theorem enc_lin9 {n:Nat} {x:Nat→En} {y:Nat→Fr} (h:∀ i,i<n→EncF (x i) (y i)):EncL (linJ n x) (linJ n y):=encL_of (by rw [linJ_len,linJ_len]) fun k e f he hf=>by
 have hk:k<n:=by have:=(List.getElem?_eq_some_iff.1 he).1;rwa [linJ_len] at this
 rw [linJ_get _ hk] at he hf;cases he;cases hf;exact h k hk
theorem enc_row9 {n:Nat} {f:Nat→Nat→En} {g:Nat→Nat→Fr} (i:Nat) (h:∀ k,k<n→EncF (f i k) (g i k)):EncL (rowM n f i) (rowM n g i):=by
 rw [linJ_row,linJ_row];exact enc_lin9 h
theorem enc_app9 {n:Nat} {f:Nat→Nat→En} {f':Nat→Nat→Fr} {x:Nat→En} {x':Nat→Fr} {i:Nat} (hi:i<n) (hf:∀ i k,i<n→k<n→EncF (f i k) (f' i k)) (hx:∀ i,i<n→EncF (x i) (x' i)):EncF (appJ kdN n f x i) (appJ kdF n f' x' i):=
 encF_dot (enc_row9 i fun k hk=>hf i k hi hk) (enc_lin9 hx)
def With9 (e:En) (f:Fr):Prop:=f.bad=false→e.bad=false→enclB e f.n f.d=true
theorem with9_of {e:En} {f:Fr} (h:EncF e f) (ht:fineR f = !f.bad):With9 e f:=fun hf he=>by
 have hfi:fineR f=true:=by rw [ht,hf];rfl
 have k:=fineR_iff.1 hfi;exact encl_enqV (h hfi) ⟨by omega,by omega⟩ ⟨by omega,by omega⟩ he
theorem rq_get9 {α:Type} {s:Nat} {c:α→List Value} {w:World} {p:Option Addr} {n cap:Nat} {xs:List α} (h:Rq s c w (.slice p n cap) xs) (h1:xs≠[]):∃ b o,p=some ⟨b,o,none⟩∧∀ u,Bl w u→∀ k x,xs[k]?=some x→∀ j v,(c x)[j]?=some v→u.cell? ⟨b,o+k*s+j,none⟩=some v:=by
 rcases h with ⟨p',cap',e,hx,_⟩|⟨b,o,cap',e,hc,hb,hx⟩
 ·exact absurd hx h1
 ·simp only [Value.slice.injEq] at e;exact ⟨b,o,e.1,fun u hu k x hk j v hj=>(bl_cell hu _ _ hb).trans (hx k x hk j v hj)⟩
theorem idx9e {R j:Nat} (h:j<R*R):∃ i k,i<R∧k<R∧j=i*R+k:=by
 have h0:0<R:=by
  rcases Nat.eq_zero_or_pos R with e|e
  ·subst e;simp at h
  ·exact e
 exact ⟨j/R,j % R,(Nat.div_lt_iff_lt_mul h0).2 h,Nat.mod_lt _ h0,by rw [Nat.mul_comm];exact (Nat.div_add_mod j R).symm⟩
theorem within_lin9 {n:Nat} {x:Nat→En} {y:Nat→Fr} (h:∀ i,i<n→With9 (x i) (y i)) (k:Nat) (a:En) (b:Fr) (ha:(linJ n x)[k]?=some a) (hb:(linJ n y)[k]?=some b):With9 a b:=by
 have hk:k<n:=by have:=(List.getElem?_eq_some_iff.1 ha).1;rwa [linJ_len] at this
 rw [linJ_get _ hk] at ha hb;cases ha;cases hb;exact h k hk
theorem within_mk9 {n:Nat} {f:Nat→Nat→En} {g:Nat→Nat→Fr} (h:∀ i k,i<n→k<n→With9 (f i k) (g i k)) (j:Nat) (a:En) (b:Fr) (ha:(mk n n f)[j]?=some a) (hb:(mk n n g)[j]?=some b):With9 a b:=by
 have hj:j<n*n:=by have:=(List.getElem?_eq_some_iff.1 ha).1;rwa [mk_len] at this
 obtain ⟨i,k,hi,hk,rfl⟩:=idx9e hj;rw [mk_get _ hi hk] at ha hb;cases ha;cases hb;exact h i k hi hk
theorem within_two9 {a b:En} {c d:Fr} (h1:With9 a c) (h2:With9 b d) (k:Nat) (x:En) (y:Fr) (hx:([a,b]:List En)[k]?=some x) (hy:([c,d]:List Fr)[k]?=some y):With9 x y:=by
 rcases k with _|_|k
 ·cases hx;cases hy;exact h1
 ·cases hx;cases hy;exact h2
 ·simp at hx
theorem dot_lin {n:Nat} {x y:Nat→Fr} (h:fineR (dotF (linJ n x) (linJ n y))=true):(∀ c,c<n→fineR (x c)=true∧fineR (y c)=true)∧toQ (dotF (linJ n x) (linJ n y))=sumH n fun c=>toQ (x c)*toQ (y c):=by
 have e:∀ f:Nat→Fr,linJ n f=tailH n 0 f:=fun f=>by simp [tailH,linJ]
 rw [e,e] at h ⊢;obtain ⟨h1,h2⟩:=dot_tail h;refine ⟨fun c hc=>h1 c (Nat.zero_le _) hc,h2.trans ?_⟩;unfold dT;rw [Nat.sub_zero];exact sumH_congr _ fun j _=>by rw [Nat.zero_add]
theorem mulK_q {M:Nat} {f g:Nat→Nat→Fr} {i k:Nat} (h:fineR (mulK kdF M f g i k)=true):(∀ c,c<M→fineR (f i c)=true∧fineR (g c k)=true)∧toQ (mulK kdF M f g i k)=sumH M fun c=>toQ (f i c)*toQ (g c k):=
 dot_lin (x:=f i) (y:=fun c=>g c k) h
theorem outer_q {c r:Nat→Fr} {i k:Nat} (h:fineR (outerJ kdF c r i k)=true):fineR (c i)=true∧fineR (r k)=true∧toQ (outerJ kdF c r i k)=toQ (c i)*toQ (r k):=by
 obtain ⟨h1,h2⟩:=mulK_q h;refine ⟨(h1 0 (by decide)).1,(h1 0 (by decide)).2,h2.trans ?_⟩;show (0:Rat)+toQ (c i)*toQ (r k)=_;rw [Rat.zero_add]
theorem sumH_mulr (f:Nat→Rat) (s:Rat):∀ n,sumH n (fun j=>f j*s)=sumH n f*s
 |0=>by show (0:Rat)=0*s;rw [Rat.zero_mul]
 |n+1=>by show sumH n (fun j=>f j*s)+f n*s=(sumH n f+f n)*s;rw [sumH_mulr f s n,Rat.add_mul]
theorem sumH_delta (f:Nat→Rat) (i:Nat):∀ n,sumH n (fun l=>(if i=l then (1:Rat) else 0)*f l)=if i<n then f i else 0
 |0=>by rw [if_neg (by omega)];rfl
 |n+1=>by
  show sumH n (fun l=>(if i=l then (1:Rat) else 0)*f l)+(if i=n then (1:Rat) else 0)*f n=_;rw [sumH_delta f i n];by_cases h:i=n
  ·subst h;rw [if_neg (by omega),if_pos rfl,if_pos (by omega),Rat.zero_add,Rat.one_mul]
  ·rw [if_neg h,Rat.zero_mul,Rat.add_zero];by_cases h2:i<n
   ·rw [if_pos h2,if_pos (by omega)]
   ·rw [if_neg h2,if_neg (by omega)]
theorem around_sum {n:Nat} {P:Nat→Nat→Rat} {H U:Nat→Rat} {A R:Rat} {i k:Nat} (hi:i<n) (hk:k<n) (hP:∀ a b,a<n→b<n→P a b=P b a) (hU:∀ c,c<n→U c=sumH n fun j=>P c j*H j)
  (hA:A=(sumH n fun j=>H j*U j)+R) (h0:A≠0) (Ki Kk:Rat) (hKi:Ki=U i/A) (hKk:Kk=U k/A) :
  (sumH n fun j=>(sumH n fun l=>((if i=l then (1:Rat) else 0)-Ki*H l)*P l j)*((if k=j then (1:Rat) else 0)-Kk*H j))+Ki*R*Kk=P i k-U i*U k/A:=by
 have inner:∀ j,j<n→(sumH n fun l=>((if i=l then (1:Rat) else 0)-Ki*H l)*P l j)=P i j-U j*Ki:=fun j hj=>by
  have e:=sumH_lin (fun l=>(if i=l then (1:Rat) else 0)*P l j) (fun l=>P j l*H l) Ki n;rw [sumH_delta (fun l=>P l j) i n,if_pos hi,←hU j hj] at e;rw [←e];exact sumH_congr _ fun l hl=>by rw [hP j l hj hl];grind
 have outer:(sumH n fun j=>(sumH n fun l=>((if i=l then (1:Rat) else 0)-Ki*H l)*P l j)*((if k=j then (1:Rat) else 0)-Kk*H j))=(P i k-U k*Ki)-(U i-(A-R)*Ki)*Kk:=by
  have e1:(sumH n fun j=>(P i j-U j*Ki)*H j)=U i-(A-R)*Ki:=by
   have e:=sumH_lin (fun j=>P i j*H j) (fun j=>H j*U j) Ki n;rw [←hU i hi] at e;have e2:(sumH n fun j=>H j*U j)=A-R:=by rw [hA];grind
   rw [e2] at e;rw [←e];exact sumH_congr _ fun j _=>by grind
  have e:=sumH_lin (fun j=>(if k=j then (1:Rat) else 0)*(P i j-U j*Ki)) (fun j=>(P i j-U j*Ki)*H j) Kk n;rw [sumH_delta (fun j=>P i j-U j*Ki) k n,if_pos hk,e1] at e;rw [←e];exact sumH_congr _ fun j hj=>by rw [inner j hj];grind
 rw [outer,hKi,hKk];grind
theorem around_q {n:Nat} {m p:Nat→Nat→Fr} {i k:Nat} (h:fineR (aroundJ kdF n m p i k)=true) :
  (∀ c,c<n→fineR (m i c)=true)∧(∀ c,c<n→fineR (m k c)=true)∧(∀ a b,a<n→b<n→fineR (p a b)=true) ∧
  toQ (aroundJ kdF n m p i k)=sumH n fun j=>(sumH n fun l=>toQ (m i l)*toQ (p l j))*toQ (m k j):=by
 obtain ⟨h1,h2⟩:=mulK_q h;have hm:∀ c,c<n→fineR (m i c)=true:=fun c hc=>((mulK_q (h1 c hc).1).1 c hc).1
 refine ⟨hm,fun c hc=>(h1 c hc).2,fun a b ha hb=>((mulK_q (h1 b hb).1).1 a ha).2,h2.trans ?_⟩;exact sumH_congr _ fun j hj=>by rw [(mulK_q (h1 j hj).1).2]
structure UpQ (n:Nat) (p:Nat→Nat→Fr) (h:Nat→Fr) (r:Fr) (i k:Nat) (z:Fr):Prop where
 fp:∀ a b,a<n→b<n→fineR (p a b)=true
 fh:∀ c,c<n→fineR (h c)=true
 ne:toQ (spreadJ kdF n p h r)≠0
 fu:∀ c,c<n→fineR (appJ kdF n p h c)=true∧toQ (appJ kdF n p h c)=sumH n fun j=>toQ (p c j)*toQ (h j)
 ea:toQ (spreadJ kdF n p h r)=(sumH n fun j=>toQ (h j)*toQ (appJ kdF n p h j))+toQ r
 ez:toQ z=toQ (p i k)-toQ (appJ kdF n p h i)*toQ (appJ kdF n p h k)/toQ (spreadJ kdF n p h r)
theorem up_q0 {n:Nat} {one p:Nat→Nat→Fr} {h:Nat→Fr} {r:Fr} {i k:Nat} (hi:i<n) (hk:k<n) (hone:∀ i j,toQ (one i j)=if i=j then 1 else 0) (hp:∀ a b,a<n→b<n→toQ (p a b)=toQ (p b a))
  (hf:fineR (addR (aroundJ kdF n (restJ kdF one (gainJ kdF n p h r) h) p i k) (outerJ kdF (fun i=>mulR (gainJ kdF n p h r i) r) (gainJ kdF n p h r) i k))=true) :
  UpQ n p h r i k (addR (aroundJ kdF n (restJ kdF one (gainJ kdF n p h r) h) p i k) (outerJ kdF (fun i=>mulR (gainJ kdF n p h r i) r) (gainJ kdF n p h r) i k)):=by
 obtain ⟨f1,f2,e0⟩:=add_q hf;obtain ⟨m1,m2,fp,e1⟩:=around_q f1;obtain ⟨kr,fk,e2⟩:=outer_q f2;obtain ⟨fi,fr,e3⟩:=mul_q kr;obtain ⟨fui,fa,ne,ei⟩:=div_q (show fineR (divR (appJ kdF n p h i) (spreadJ kdF n p h r))=true from fi);obtain ⟨fuk,_,_,ek⟩:=div_q (show fineR (divR (appJ kdF n p h k) (spreadJ kdF n p h r))=true from fk);obtain ⟨fd,_,ea⟩:=add_q (show fineR (addR (dotF (linJ n h) (linJ n (appJ kdF n p h))) r)=true from fa);obtain ⟨fc,ed⟩:=dot_lin fd;have hu:∀ c,c<n→fineR (appJ kdF n p h c)=true∧toQ (appJ kdF n p h c)=sumH n fun j=>toQ (p c j)*toQ (h j):=fun c hc=>⟨(fc c hc).2,(dot_lin (x:=p c) (y:=h) (fc c hc).2).2⟩
 have ha:toQ (spreadJ kdF n p h r)=(sumH n fun j=>toQ (h j)*toQ (appJ kdF n p h j))+toQ r:=by rw [←ed];exact ea
 have rq:∀ a c,c<n→fineR (restJ kdF one (gainJ kdF n p h r) h a c)=true→toQ (restJ kdF one (gainJ kdF n p h r) h a c)=(if a=c then 1 else 0)-toQ (gainJ kdF n p h r a)*toQ (h c):=fun a c hc hr=>by
  obtain ⟨_,o1,o2⟩:=sub_q (show fineR (subR (one a c) (outerJ kdF (gainJ kdF n p h r) h a c))=true from hr);rw [hone,(outer_q o1).2.2] at o2;exact o2
 refine ⟨fp,fun c hc=>(fc c hc).1,ne,hu,ha,?_⟩;have S:=around_sum (P:=fun a b=>toQ (p a b)) (H:=fun c=>toQ (h c)) (U:=fun c=>toQ (appJ kdF n p h c)) (A:=toQ (spreadJ kdF n p h r)) (R:=toQ r) hi hk hp (fun c hc=>(hu c hc).2) ha ne (toQ (gainJ kdF n p h r i)) (toQ (gainJ kdF n p h r k)) ei ek;rw [e0,e1,e2,e3,←S]
 congr 1
 exact sumH_congr _ fun j hj=>by
  rw [rq k j hj (m2 j hj)]
  congr 1
  exact sumH_congr _ fun l hl=>by rw [rq i l hl (m1 l hl)]
theorem up_q {n:Nat} {one p:Nat→Nat→Fr} {h:Nat→Fr} {r:Fr} {i k:Nat} (hi:i<n) (hk:k<n) (hone:∀ i j,toQ (one i j)=if i=j then 1 else 0) (hp:∀ a b,a<n→b<n→toQ (p a b)=toQ (p b a))
  (hf:fineR (upPJ kdF one n p h r i k)=true):UpQ n p h r i k (upPJ kdF one n p h r i k):=by
 have hm:max i k<n:=by omega
 have hM:min i k<n:=by omega
 have U:=up_q0 hm hM hone hp hf;refine ⟨U.fp,U.fh,U.ne,U.fu,U.ea,U.ez.trans ?_⟩;by_cases hik:k≤i
 ·rw [Nat.max_eq_left hik,Nat.min_eq_right hik]
 ·rw [Nat.max_eq_right (by omega),Nat.min_eq_left (by omega),hp k i hk hi,Rat.mul_comm (toQ (appJ kdF n p h k))]
theorem one9 (i j:Nat):toQ (wholeF (unitI i j))=if i=j then 1 else 0:=by
 unfold unitI;by_cases e:i=j
 ·rw [if_pos e,if_pos e,whole_it ⟨by decide,by decide⟩];exact toQ_whole 1
 ·rw [if_neg e,if_neg e,whole_it ⟨by decide,by decide⟩];exact toQ_whole 0
def clrI (f:Nat→Nat→Int) (i k:Nat):Int:=if k≤i then f i k else 0
theorem ofL_mk7 {R C:Nat} (f:Nat→Nat→Int) {i k:Nat} (hi:i<R) (hk:k<C):ofL C (mk R C f) i k=f i k:=by
 have h:=ofL_get (R:=R) (M:=C) (ns:=mk R C f) (by rw [mk_len]) hi hk;rw [mk_get f hi hk] at h;exact (Option.some.inj h).symm
attribute [local go_sem] Oper.semAt_some
attribute [local go_sem] Oper.semAt_some
theorem encQ_f {e:En} {f:Fr} (h:EncF e f) (hf:fineR f=true):EncQ e (toQ f):=encQ_of (by have:=fineR_iff.1 hf;omega) (by unfold toQ;rfl) (h hf)
theorem with9_q {e:En} {f:Fr} (h:e.bad=false→fineR f=true→EncQ e (toQ f)) (ht:fineR f = !f.bad):With9 e f:=fun hf he=>by
 have hfi:fineR f=true:=by rw [ht,hf];rfl
 have k:=fineR_iff.1 hfi;have q:Enq e (toQ f).num (toQ f).den:=h he hfi;have e1:Rat.divInt (toQ f).num (toQ f).den=Rat.divInt f.n f.d:=(rat_self _).trans (by unfold toQ;rfl);have hd:=den_pos (toQ f);have e2:=(Rat.divInt_eq_divInt_iff (by omega) (by omega)).1 e1;exact encl_enqV (Enq.same q hd (by omega) e2) ⟨by omega,by omega⟩ ⟨by omega,by omega⟩ he
theorem sp_q {n:Nat} {p:Nat→Nat→Fr} {h:Nat→Fr} {r:Fr} (hf:fineR (spreadJ kdF n p h r)=true):(∀ a b,a<n→b<n→fineR (p a b)=true)∧(∀ c,c<n→toQ (appJ kdF n p h c)=sumH n fun j=>toQ (p c j)*toQ (h j))∧toQ (spreadJ kdF n p h r)=(sumH n fun j=>toQ (h j)*toQ (appJ kdF n p h j))+toQ r:=by
 obtain ⟨fd,_,ea⟩:=add_q (show fineR (addR (dotF (linJ n h) (linJ n (appJ kdF n p h))) r)=true from hf);obtain ⟨fc,ed⟩:=dot_lin fd;have hu:∀ c,c<n→_:=fun c hc=>dot_lin (x:=p c) (y:=h) (fc c hc).2
 exact ⟨fun a b ha hb=>((hu a ha).1 b hb).1,fun c hc=>(hu c hc).2,by rw [←ed];exact ea⟩
def grQ (n:Nat) (F R G:Nat→Nat→Rat) (a b:Nat):Rat:=(sumH n fun c=>(sumH n fun l=>F a l*R l c)*(sumH n fun l=>F b l*R l c))+sumH n fun c=>G a c*G b c
theorem grQ_sym (n:Nat) (F R G:Nat→Nat→Rat) (a b:Nat):grQ n F R G a b=grQ n F R G b a:=by
 unfold grQ;rw [sumH_congr n (f:=fun c=>(sumH n fun l=>F a l*R l c)*(sumH n fun l=>F b l*R l c)) (g:=fun c=>(sumH n fun l=>F b l*R l c)*(sumH n fun l=>F a l*R l c)) fun c _=>Rat.mul_comm _ _,sumH_congr n (f:=fun c=>G a c*G b c) (g:=fun c=>G b c*G a c) fun c _=>Rat.mul_comm _ _]
theorem ar_alg {n:Nat} (n3:n≤3) (F R:Nat→Nat→Rat) (a b:Nat):(sumH n fun j=>(sumH n fun l=>F a l*(sumH n fun c=>R l c*R j c))*F b j)=sumH n fun c=>(sumH n fun l=>F a l*R l c)*(sumH n fun l=>F b l*R l c):=by
 rcases (by omega:n=0∨n=1∨n=2∨n=3) with rfl|rfl|rfl|rfl<;>simp only [sumH]<;>grind
theorem square_q {n:Nat} {s:Nat→Nat→Fr} {a b:Nat} (hf:fineR (squareJ kdF n s a b)=true):toQ (squareJ kdF n s a b)=sumH n fun c=>toQ (s a c)*toQ (s b c):=by
 have e:=(mulK_q (show fineR (mulK kdF n s (fun i k=>s k i) (max a b) (min a b))=true from hf)).2;refine (show toQ (squareJ kdF n s a b)=_ from e).trans ?_;by_cases h:b≤a
 ·rw [Nat.max_eq_left h,Nat.min_eq_right h]
 ·rw [Nat.max_eq_right (by omega),Nat.min_eq_left (by omega)];exact sumH_congr _ fun c _=>Rat.mul_comm _ _
theorem pred_q {n:Nat} (n3:n≤3) {f s g:Nat→Nat→Fr} {a b:Nat} (ha:a<n) (hb:b<n) (hf:fineR (predJ kdF n f (squareJ kdF n s) g a b)=true) :
  toQ (predJ kdF n f (squareJ kdF n s) g a b)=grQ n (fun i k=>toQ (f i k)) (fun i k=>toQ (s i k)) (fun i k=>toQ (g i k)) a b:=by
 have main:∀ M m,M<n→m<n→fineR (addR (aroundJ kdF n f (squareJ kdF n s) M m) (squareJ kdF n g M m))=true→toQ (addR (aroundJ kdF n f (squareJ kdF n s) M m) (squareJ kdF n g M m))=grQ n (fun i k=>toQ (f i k)) (fun i k=>toQ (s i k)) (fun i k=>toQ (g i k)) M m:=fun M m hM hm h=>by
  obtain ⟨f1,f2,e⟩:=add_q h;obtain ⟨_,_,fp,e1⟩:=around_q f1;rw [e,e1,square_q f2];unfold grQ;rw [←ar_alg n3 (fun i k=>toQ (f i k)) (fun i k=>toQ (s i k)) M m]
  congr 1
  exact sumH_congr _ fun j hj=>by
   congr 1
   exact sumH_congr _ fun l hl=>by rw [square_q (fp l j hl hj)]
 have e:=main (max a b) (min a b) (by omega) (by omega) hf;refine (show toQ (predJ kdF n f (squareJ kdF n s) g a b)=_ from e).trans ?_;by_cases h:b≤a
 ·rw [Nat.max_eq_left h,Nat.min_eq_right h]
 ·rw [Nat.max_eq_right (by omega),Nat.min_eq_left (by omega),grQ_sym]
theorem toQ_wh {x:Int} (h:Wh x):toQ (wholeF x)=(x:Rat):=by rw [whole_it h];exact toQ_whole x
theorem ab_int {x A:Int} (h:-A≤x∧x≤A):Ab (x:Rat) (A:Rat):=by
 refine ⟨?_,by exact_mod_cast h.2⟩;have:=Rat.intCast_le_intCast.2 h.1;rw [Rat.intCast_neg] at this;exact this
theorem fold_foldH {R C:Nat} {f:Nat→Nat→En} {i k:Nat} (hi:i<R):foldN R C f i k=foldH kdN R C (fun k=>lowN (foldL kdN lowN C f k k k)) (fun j=>lowN (foldL kdN lowN C f R j j)) f i k:=by
 unfold foldN foldH;by_cases h:i<k
 ·rw [if_pos h];unfold signsH;rw [if_neg (by omega),foldL_to];exact foldTo_zero kdN C _ f hi h
 ·rw [if_neg h];unfold signsH;rw [←foldL_to]
theorem ab_cast5 {x:Int} (h:-5≤x∧x≤5):Ab (x:Rat) 5:=by
 have:=ab_int (A:=5) h;exact this
theorem lane_tri {m:Nat} {Ro Fm Gm:List Int} (hz:∀ i k,i<k→k<m→ofL m Ro i k=0) {η:Rat} (hη:0<η) (t:∀ i j,i<m→j<m→(laneS m Ro Fm Gm i j).bad=false) :
  ∃ T:Nat→Nat→Rat,(∀ i c,i<m→c<m→EncQ (laneS m Ro Fm Gm i c) (T i c))∧(∀ i c,i<c→T i c=0)∧∀ i k,i<m→k<m→Ab ((sumH m fun c=>T i c*T k c)-grQ m (fun i k=>(ofL m Fm i k:Rat)) (fun i k=>(ofL m Ro i k:Rat)) (fun i k=>(ofL m Gm i k:Rat)) i k) (η*67108864):=by
 obtain ⟨B,hB⟩:∃ B:Nat→Nat→Rat,B=fun i c=>if c<m then sumH m fun d=>(ofL m Fm i d:Rat)*(ofL m Ro d c:Rat) else (ofL m Gm i (c-m):Rat):=⟨_,rfl⟩
 obtain ⟨a,ha⟩:∃ a,a=besideM m (mulMN m (fun i k=>wholeN (ofL m Fm i k)) (clrN (fun i k=>wholeN (ofL m Ro i k)))) (fun i k=>wholeN (ofL m Gm i k)):=⟨_,rfl⟩;have aB:∀ i j,i<m→j<m+m→EncQ (a i j) (B i j):=fun i j hi hj=>by
  rw [ha,hB];show EncQ (if j<m then dotN (linJ m fun d=>wholeN (ofL m Fm i d)) (linJ m fun d=>clrN (fun i k=>wholeN (ofL m Ro i k)) d j) else wholeN (ofL m Gm i (j-m))) (if j<m then sumH m fun d=>(ofL m Fm i d:Rat)*(ofL m Ro d j:Rat) else (ofL m Gm i (j-m):Rat));by_cases h:j<m
  ·rw [if_pos h,if_pos h];refine dot_encN (fun d _=>encQ_whole _) fun d hd=>?_
   unfold clrN;by_cases h2:j≤d
   ·rw [if_pos h2];exact encQ_whole _
   ·rw [if_neg h2,hz d j (by omega) h];exact encQ_whole 0
  ·rw [if_neg h,if_neg h];exact encQ_whole _
 have eS:∀ i c,i<m→laneS m Ro Fm Gm i c=foldH kdN m (m+m) (fun k=>lowN (foldL kdN lowN (m+m) a k k k)) (fun j=>lowN (foldL kdN lowN (m+m) a m j j)) a i c:=fun i c hi=>by
  unfold laneS predO;rw [←ha];exact fold_foldH hi
 obtain ⟨T,t1,t2,t3⟩:=fold_eps hη (show m≤m+m by omega) (fun k=>lowN (foldL kdN lowN (m+m) a k k k)) (fun j=>lowN (foldL kdN lowN (m+m) a m j j)) a B aB (fun i j hi hj=>by rw [←eS i j hi];exact t i j hi (by omega));have gB:∀ i k,(sumH (m+m) fun c=>B i c*B k c)=grQ m (fun i k=>(ofL m Fm i k:Rat)) (fun i k=>(ofL m Ro i k:Rat)) (fun i k=>(ofL m Gm i k:Rat)) i k:=fun i k=>by
  rw [sumH_split];unfold grQ;have p1:(sumH m fun c=>B i c*B k c)=sumH m fun c=>(sumH m fun l=>(ofL m Fm i l:Rat)*(ofL m Ro l c:Rat))*(sumH m fun l=>(ofL m Fm k l:Rat)*(ofL m Ro l c:Rat)):=sumH_congr m fun c hc=>by
   rw [hB];show (if c<m then _ else _)*(if c<m then _ else _)=_;rw [if_pos hc,if_pos hc]
  have p2:(sumH m fun j=>B i (m+j)*B k (m+j))=sumH m fun c=>(ofL m Gm i c:Rat)*(ofL m Gm k c:Rat):=sumH_congr m fun c hc=>by
   rw [hB];show (if m+c<m then _ else _)*(if m+c<m then _ else _)=_;rw [if_neg (by omega),if_neg (by omega),show m+c-m=c by omega]
  rw [p1,p2]
 refine ⟨T,fun i c hi hc=>by rw [eS i c hi];exact t1 i c hi hc,t2,fun i k hi hk=>?_⟩;by_cases hik:i≤k
 ·have:=t3 i k hik hk;rw [gB] at this;exact ⟨by have:=this.2;grind,this.1⟩
 ·have:=t3 k i (by omega) hi;rw [gB,grQ_sym] at this;rw [sumH_congr m (f:=fun c=>T i c*T k c) (g:=fun c=>T k c*T i c) fun c _=>Rat.mul_comm _ _];exact ⟨by have:=this.2;grind,this.1⟩
theorem gr_bound {m:Nat} (m3:m≤3) {F R G:Nat→Nat→Rat} (hF:∀ i k,i<m→k<m→Ab (F i k) 5) (hR:∀ i k,i<m→k<m→Ab (R i k) 5) (hG:∀ i k,i<m→k<m→Ab (G i k) 5) {i k:Nat} (hi:i<m) (hk:k<m):Ab (grQ m F R G i k) 33554432:=by
 have fr:∀ a c,a<m→c<m→Ab (sumH m fun l=>F a l*R l c) 75:=fun a c ha hc=>((ab_sum1 m fun l hl=>(hF a l ha hl).mul (hR l c hl hc)).mono (sum3 m3 (by grind))).mono (by grind)
 have p1:=(ab_sum1 m fun c hc=>(fr i c hi hc).mul (fr k c hk hc)).mono (sum3 m3 (by grind));have p2:=(ab_sum1 m fun c hc=>(hG i c hi hc).mul (hG k c hk hc)).mono (sum3 m3 (by grind));exact (p1.add p2).mono (by grind)
structure Enc10 (m:Nat) (X Ro Fm Gm H:List Int) (r z:Int):Prop where
 x:∀ i,i<m→With9 (laneUX m X Ro Fm Gm H (ptE (foN r) (foB r)) (ptE (foN z) (foB z)) i) (upXJ kdF m (appJ kdF m (fun i k=>wholeF (ofL m Fm i k)) (fun i=>wholeF (X.getD i 0))) (predJ kdF m (fun i k=>wholeF (ofL m Fm i k)) (squareJ kdF m (fun i k=>wholeF (ofL m Ro i k))) (fun i k=>wholeF (ofL m Gm i k))) (fun i=>wholeF (H.getD i 0)) (newR r 1) (newR z 1) i)
 p:∀ i k,i<m→k<m→With9 (squareJ kdN m (laneR m Ro Fm Gm H (ptE (foN r) (foB r))).s i k) (upPJ kdF (fun i j=>wholeF (unitI i j)) m (predJ kdF m (fun i k=>wholeF (ofL m Fm i k)) (squareJ kdF m (fun i k=>wholeF (ofL m Ro i k))) (fun i k=>wholeF (ofL m Gm i k))) (fun i=>wholeF (H.getD i 0)) (newR r 1) i k)
 e:With9 (laneE m X Fm H (ptE (foN z) (foB z))) (surpJ kdF m (appJ kdF m (fun i k=>wholeF (ofL m Fm i k)) (fun i=>wholeF (X.getD i 0))) (fun i=>wholeF (H.getD i 0)) (newR z 1))
 a:With9 (laneR m Ro Fm Gm H (ptE (foN r) (foB r))).a (spreadJ kdF m (predJ kdF m (fun i k=>wholeF (ofL m Fm i k)) (squareJ kdF m (fun i k=>wholeF (ofL m Ro i k))) (fun i k=>wholeF (ofL m Gm i k))) (fun i=>wholeF (H.getD i 0)) (newR r 1))
theorem enc10 {m:Nat} (m1:1≤m) (m3:m≤3) {X Ro Fm Gm H:List Int} {r z:Int} (hz:∀ i k,i<k→k<m→ofL m Ro i k=0) (bR:∀ i k,i<m→k<m→-5≤ofL m Ro i k∧ofL m Ro i k≤5) (bF:∀ i k,i<m→k<m→-5≤ofL m Fm i k∧ofL m Fm i k≤5) (bG:∀ i k,i<m→k<m→-5≤ofL m Gm i k∧ofL m Gm i k≤5) (bH:∀ k,k<m→-5≤H.getD k 0∧H.getD k 0≤5) (r1:1≤r) (r5:r≤5):Enc10 m X Ro Fm Gm H r z:=by
 obtain ⟨F',hF'⟩:∃ f:Nat→Nat→Fr,f=fun i k=>wholeF (ofL m Fm i k):=⟨_,rfl⟩
 obtain ⟨R',hR'⟩:∃ f:Nat→Nat→Fr,f=fun i k=>wholeF (ofL m Ro i k):=⟨_,rfl⟩
 obtain ⟨G',hG'⟩:∃ f:Nat→Nat→Fr,f=fun i k=>wholeF (ofL m Gm i k):=⟨_,rfl⟩
 obtain ⟨h',hh'⟩:∃ f:Nat→Fr,f=fun i=>wholeF (H.getD i 0):=⟨_,rfl⟩
 obtain ⟨x',hx'⟩:∃ f:Nat→Fr,f=appJ kdF m F' (fun i=>wholeF (X.getD i 0)):=⟨_,rfl⟩;obtain ⟨P,hP⟩:∃ f:Nat→Nat→Fr,f=predJ kdF m F' (squareJ kdF m R') G':=⟨_,rfl⟩;obtain ⟨g,hg⟩:∃ g:Nat→Nat→Rat,g=grQ m (fun i k=>(ofL m Fm i k:Rat)) (fun i k=>(ofL m Ro i k:Rat)) (fun i k=>(ofL m Gm i k:Rat)):=⟨_,rfl⟩;obtain ⟨h,hh⟩:∃ h:Nat→Rat,h=fun i=>(H.getD i 0:Rat):=⟨_,rfl⟩
 have L:LawE m (laneS m Ro Fm Gm) (fun i=>wholeN (H.getD i 0)) (ptE (foN r) (foB r)) g h (r:Rat):={
  n3:=m3
  hH:=fun k hk=>by rw [hh];exact encQ_whole _
  hb:=fun k hk=>by rw [hh];exact ab_cast5 (bH k hk)
  hR:=encQ_whole r
  r1:=by exact_mod_cast r1
  gb:=fun i k hi hk=>by rw [hg];exact gr_bound m3 (fun i k hi hk=>ab_cast5 (bF i k hi hk)) (fun i k hi hk=>ab_cast5 (bR i k hi hk)) (fun i k hi hk=>ab_cast5 (bG i k hi hk)) hi hk
  T:=fun t η hη=>by rw [hg];exact lane_tri hz hη t }
 have wq:∀ {x:Int},-5≤x∧x≤5→toQ (wholeF x)=(x:Rat):=fun hx=>toQ_wh (by unfold Wh;omega)
 have pq:∀ a b,a<m→b<m→fineR (P a b)=true→toQ (P a b)=g a b:=fun a b ha hb hf=>by
  rw [hP] at hf ⊢;rw [pred_q m3 ha hb hf,hg,hF',hR',hG'];unfold grQ
  congr 1
  ·exact sumH_congr m fun c hc=>by
    congr 1<;>exact sumH_congr m fun l hl=>by
     show toQ (wholeF _)*toQ (wholeF _)=_;rw [wq (by first|exact bF a l ha hl|exact bF b l hb hl),wq (bR l c hl hc)]
  ·exact sumH_congr m fun c hc=>by
    show toQ (wholeF _)*toQ (wholeF _)=_;rw [wq (bG a c ha hc),wq (bG b c hb hc)]
 have hq:∀ k,k<m→toQ (h' k)=h k:=fun k hk=>by rw [hh',hh];exact wq (bH k hk)
 have rq:toQ (newR r 1)=(r:Rat):=wq (by omega);have sp:fineR (spreadJ kdF m P h' (newR r 1))=true→(∀ c,c<m→toQ (appJ kdF m P h' c)=eG m g h c)∧toQ (spreadJ kdF m P h' (newR r 1))=aG m g h r:=fun hf=>by
  obtain ⟨s1,s2,s3⟩:=sp_q hf;have u:∀ c,c<m→toQ (appJ kdF m P h' c)=eG m g h c:=fun c hc=>by
   rw [s2 c hc];exact sumH_congr m fun j hj=>by rw [pq c j hc hj (s1 c j hc hj),hq j hj]
  refine ⟨u,?_⟩;rw [s3,rq];unfold aG
  congr 1
  exact sumH_congr m fun j hj=>by rw [hq j hj,u j hj]
 have psym:∀ a b,a<m→b<m→toQ (P a b)=toQ (P b a):=fun a b _ _=>by
  rw [hP];show toQ (mirrJ kdF _ _ a b)=toQ (mirrJ kdF _ _ b a);unfold mirrJ mirM;rw [Nat.max_comm,Nat.min_comm]
 have ex:∀ i,i<m→EncF (laneX m Fm X i) (x' i):=fun i hi=>by rw [hx',hF'];exact enc_app9 hi (fun _ _ _ _=>encF_whole _) (fun _ _=>encF_whole _)
 have es:EncF (laneE m X Fm H (ptE (foN z) (foB z))) (surpJ kdF m x' h' (newR z 1)):=by
  rw [hh'];exact encF_sub (encF_whole z) (encF_dot (enc_lin9 fun _ _=>encF_whole _) (enc_lin9 ex))
 refine ⟨fun i hi=>?_,fun i k hi hk=>?_,?_,?_⟩
 ·rw [←hF',←hR',←hG',←hh',←hx',←hP];refine with9_q (fun he hf=>?_) (add_badV _ _);obtain ⟨f1,f2,e1⟩:=add_q (show fineR (addR (x' i) (mulR (gainJ kdF m P h' (newR r 1) i) (surpJ kdF m x' h' (newR z 1))))=true from hf);obtain ⟨f3,f4,e2⟩:=mul_q f2;obtain ⟨_,f5,_,e3⟩:=div_q (show fineR (divR (appJ kdF m P h' i) (spreadJ kdF m P h' (newR r 1)))=true from f3);obtain ⟨s1,s2⟩:=sp f5;have ta:(laneR m Ro Fm Gm H (ptE (foN r) (foB r))).a.bad=false:=by
   have h1:=(add_told (show (addE (laneX m Fm X i) (mulE (divE ((laneR m Ro Fm Gm H (ptE (foN r) (foB r))).e i) (laneR m Ro Fm Gm H (ptE (foN r) (foB r))).a) (laneE m X Fm H (ptE (foN z) (foB z))))).bad=false from he)).2;exact fine_nb (div_nz (mul_told h1).1).2.2
  have K:=encQ_add (encQ_f (ex i hi) f1) (encQ_mul (L.gain ta hi) (encQ_f es f4));have e:toQ (upXJ kdF m x' P h' (newR r 1) (newR z 1) i)=toQ (x' i)+eG m g h i/aG m g h r*toQ (surpJ kdF m x' h' (newR z 1)):=by
   refine (show toQ (upXJ kdF m x' P h' (newR r 1) (newR z 1) i)=_ from e1).trans ?_;rw [e2]
   congr 1
   congr 1
   refine (show toQ (gainJ kdF m P h' (newR r 1) i)=_ from e3).trans ?_;rw [s1 i hi,s2]
  rw [e];exact K
 ·rw [←hF',←hR',←hG',←hh',←hP];refine with9_q (fun he hf=>?_) (add_badV _ _);have U:=up_q hi hk one9 psym hf;have fa:fineR (spreadJ kdF m P h' (newR r 1))=true:=by
   have f1:=(add_q (show fineR (addR (aroundJ kdF m (restJ kdF (fun i j=>wholeF (unitI i j)) (gainJ kdF m P h' (newR r 1)) h') P (max i k) (min i k)) (outerJ kdF (fun i=>mulR (gainJ kdF m P h' (newR r 1) i) (newR r 1)) (gainJ kdF m P h' (newR r 1)) (max i k) (min i k)))=true from hf)).2.1;obtain ⟨_,fk,_⟩:=outer_q f1;exact (div_q (show fineR (divR (appJ kdF m P h' (min i k)) (spreadJ kdF m P h' (newR r 1)))=true from fk)).2.1
  obtain ⟨s1,s2⟩:=sp fa;have e0:∀ a b,a<m→b<m→dotN (rowM m (laneR m Ro Fm Gm H (ptE (foN r) (foB r))).s a) (colM m (fun i k=>(laneR m Ro Fm Gm H (ptE (foN r) (foB r))).s k i) b)=dotN (linJ m (finN m (laneS m Ro Fm Gm) (fun i=>wholeN (H.getD i 0)) (ptE (foN r) (foB r)) a)) (linJ m (finN m (laneS m Ro Fm Gm) (fun i=>wholeN (H.getD i 0)) (ptE (foN r) (foB r)) b)):=fun a b ha hb=>by
   show dotN (linJ m ((laneR m Ro Fm Gm H (ptE (foN r) (foB r))).s a)) (linJ m ((laneR m Ro Fm Gm H (ptE (foN r) (foB r))).s b))=_;have c:∀ a,a<m→linJ m ((laneR m Ro Fm Gm H (ptE (foN r) (foB r))).s a)=linJ m (finN m (laneS m Ro Fm Gm) (fun i=>wholeN (H.getD i 0)) (ptE (foN r) (foB r)) a):=fun a ha=>linJ_congr fun c hc=>by
    unfold laneR;rw [run_fin m (laneS m Ro Fm Gm) (fun i=>wholeN (H.getD i 0)) (ptE (foN r) (foB r)) m (Nat.le_refl _) a c ha hc,if_pos (by omega)]
   rw [c a ha,c b hb]
  have sq:∀ a b,squareJ kdN m (laneR m Ro Fm Gm H (ptE (foN r) (foB r))).s a b=dotN (rowM m (laneR m Ro Fm Gm H (ptE (foN r) (foB r))).s (max a b)) (colM m (fun i k=>(laneR m Ro Fm Gm H (ptE (foN r) (foB r))).s k i) (min a b)):=fun _ _=>rfl
  rw [sq,e0 _ _ (by omega) (by omega)] at he ⊢;have C:=L.cov (show max i k<m by omega) (show min i k<m by omega) he;have ez:toQ (upPJ kdF (fun i j=>wholeF (unitI i j)) m P h' (newR r 1) i k)=g (max i k) (min i k)-eG m g h (max i k)*eG m g h (min i k)/aG m g h r:=by
   rw [U.ez,s1 i hi,s1 k hk,s2,pq i k hi hk (U.fp i k hi hk)];by_cases hik:k≤i
   ·rw [Nat.max_eq_left hik,Nat.min_eq_right hik]
   ·rw [Nat.max_eq_right (by omega),Nat.min_eq_left (by omega),Rat.mul_comm (eG m g h k),hg,grQ_sym]
  rw [ez];exact C
 ·rw [←hF',←hh',←hx'];exact with9_of es (sub_badV _ _)
 ·rw [←hF',←hR',←hG',←hh',←hP];refine with9_q (fun he hf=>?_) (add_badV _ _);rw [(sp hf).2];exact L.spread he
end Go.Proofs.YtljmggemdkfbiaaGreat
