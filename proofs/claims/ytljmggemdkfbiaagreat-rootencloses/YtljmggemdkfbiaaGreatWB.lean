/- Contracts of mat's At, Row, of fractions (layer 6). Written by genMa.py. -/
import Derived.Test.YtljmggemdkfbiaaGreatWA
namespace Go.Proofs.YtljmggemdkfbiaaGreat
open Go.RowKit Go.Shelf
set_option linter.unusedSimpArgs false
set_option linter.unusedVariables false
attribute [local go_sem] Oper.semAt_some
theorem FBox.own {X Y:World} {b:Nat} {x:Fr} {row:Option Nat} (h:FBox X b x) (hg:X.grownBy Y row) (hr:∀ r,row=some r→∃ o:Obj,X.heap[r]?=some o∧o.isCells=false):FBox Y b x:=
 ⟨cell_kept h.c0 hg hr,cell_kept h.c1 hg hr,cell_kept h.c2 hg hr,(frozen_kept h.c0 hg hr).trans h.f0,(frozen_kept h.c1 hg hr).trans h.f1,(frozen_kept h.c2 hg hr).trans h.f2,by have:=h.lt;have:=hg.size;omega⟩
theorem FBox.cells {w:World} {b:Nat} {x:Fr} (h:FBox w b x):∀ j u,(cellsF x)[j]?=some u→w.cell? ((⟨b,0,none⟩:Addr).add j)=some u:=by
 intro j u hu;have hadd:(⟨b,0,none⟩:Addr).add j=⟨b,j,none⟩:=by unfold Addr.add;split<;>simp_all
 rw [hadd];unfold cellsF at hu;rcases j with _|_|_|j
 ·simp at hu;rw [←hu];exact h.c0
 ·simp at hu;rw [←hu];exact h.c1
 ·simp at hu;rw [←hu];exact h.c2
 ·simp at hu
def eachActF (t0 t1 t2 t6 t10 t11 t12 t13 t14 t15 t16 t17 t18 t19 t20:Value) (D R X Y:Nat) (v21 v22 v23 v24 v25 v26:Value):Act:=
 { tmps:=#[t0,t1,t2,undef,undef,.pointer (some ⟨D,0,none⟩),t6,.pointer (some ⟨R,0,none⟩),.pointer (some ⟨X,0,none⟩),.pointer (some ⟨Y,0,none⟩),t10,t11,t12,t13,t14,t15,t16,t17,t18,t19,t20,v21,v22,v23,v24,v25,v26,undef,undef],defers:=[] }
def EachIF (A:Value→Value→Value→Value→Value→Value→Act) (v f:Value) (x y z:Fr) (W:World) (k:Nat) (l:Array Bool) (act:Act) (u:World):Prop:=
 ∃ (l0 l1 l2 l3 l4 l5:Bool) (v21 v22 v23 v24 v25 v26:Value) (g:Nat),l=#[l0,l1,l2,l3,l4,l5,false,false]∧k=one' l0+one' l1+one' l2+one' l3+one' l4+one' l5∧act=A v21 v22 v23 v24 v25 v26
  ∧ (l0=true→v21=v)∧(l1=true→v22=f)∧(l2=true→v23=frV x)∧(l3=true→v24=frV y)∧(l4=true→v25=frV z)∧(l5=true→v26=.slice (some ⟨g,0,none⟩) 1 1∧FBox u g z)
  ∧ (l4=true→l1=true∧l2=true∧l3=true)∧(l5=true→l4=true)∧Bl W u
set_option maxRecDepth 100000 in
set_option maxHeartbeats 2000000 in
theorem eachF' (K:Nat) (op:Fr→Fr→Fr) (hK:∀ a b w,Calls Tryz.prog K #[frV a,frV b] w fun e w'=>e=.returned (frV (op a b))∧Bl w w') (eg:∀ args w,(callFunc K args).run Tryz.prog w=.ok (.enter K args) w)
  (va vb:Value) (xs ys:List Fr) (w:World) (ha:Rq 3 cellsF w va xs) (hb:Rq 3 cellsF w vb ys) (hl:xs.length≤1000000) (hm:ys.length≤1000000) :
  Calls Tryz.prog 93 #[va,vb,.func (.func K) #[] #[]] w fun e w'=>∃ u,e=.returned u∧Rw 3 cellsF w' u (List.zipWith op xs ys)∧Fresh w.heap.size u∧Bl w w':=by
 obtain ⟨i0,hi,hz0,hz1,hz2⟩:=info_parts Tryz.info_F;refine (callsIn_wide (n:=6)).1 ?_;obtain ⟨p,cap,rfl,hc,_⟩:=ha.cut;obtain ⟨q,dap,rfl,hd,_⟩:=hb.cut;have HA:=hideP ha;have HB:=hideP hb;clear ha hb;have HK:=hideP hK;clear hK;obtain ⟨m,hmin⟩:∃ m,m=min xs.length ys.length:=⟨_,rfl⟩;have hm0:min (xs.length:Int) (ys.length:Int)=(m:Int):=by omega
 have hm1:(if ys.length<xs.length then (ys.length:Int) else (xs.length:Int))=(m:Int):=by split<;>omega
 have hml:m≤1000000:=by omega
 have HM:=hideP hmin;clear hmin;refine callsIn_of_wp_marks Tryz.func93 rfl trivial ?_ rfl;simp only [Tryz.ntmps93,List.size_toArray,List.length_cons,List.length_nil,Nat.reduceAdd,Nat.reduceSub,Array.replicate_succ,Array.replicate_zero,List.push_toArray,List.append_toArray,List.nil_append,List.cons_append]
 gi_wp2_with (first
  |(gi_at_make;refine wpListIn_make_own _ rfl _ _ 28 rfl w.heap.size 34 i0 (.agg #[.int .i64 0,.int .i64 0,.bool false]) 3 Tryz.underlying28 hi hz0 hz1 .i64 .i64 _ m rfl rfl (by simp) (by rw [hz2];omega) (by unfold maxLen;omega) (by simp) ?_;intro w0 hown0 hgrow0;have hB0:Bl w w0:=((Bl.refl w).alloc _).grown hgrow0 (by simp) (fun k e=>by cases e))
  |(refine ⟨trivial,?_⟩;refine (callsIn_wide.2 (vPairsF _ _ xs ys _ (HA.out.later (hB0.alloc _)) (HB.out.later (hB0.alloc _)) hl hm)).mono ?_;rintro e w3 ⟨rfl,hP,hB3⟩))
 simp only [World.size_alloc] at hP hown0;have hszl:w0.heap.size+1≤w3.heap.size:=by have:=hB3.size;simpa using this
 have hsz0:w.heap.size+1≤w0.heap.size:=by have:=hgrow0.size;simpa using this
 have hB:Bl w w3:=(hB0.alloc _).trans hB3;have bD:Boxed w3 w.heap.size 126 (.func (.func K) #[] #[]):=boxed_bl (((Boxed.new w 126 (.func (.func K) #[] #[])).kept hgrow0 (by simp)).alloc _) hB3;have bR:Boxed w3 w0.heap.size 28 (.slice (some ⟨w.heap.size+1,0,none⟩) 0 m):=boxed_bl (Boxed.new w0 28 _) hB3;have hrow:w3.ownsRow w.heap.size 34 3 (.slice (some ⟨w.heap.size+1,0,none⟩) 0 m) 0 []:=own_blF (hown0.alloc _) hB3;clear hown0;have HP:=hideP hP;clear hP
 refine wpIn_rangeFunc_ownH rfl (by omega) (gf:=152) (lb:=#[.pointer (some ⟨w0.heap.size+1,0,none⟩),.pointer (some ⟨w0.heap.size+1+1,0,none⟩)]) rfl trivial (enters_of Tryz.func152 (by kernel_rfl) rfl)
  (seqF 5 _ _ _ w3.heap.size _ _ (by simp;omega) w3 (Nat.le_refl _) HP.out) (fun h k=>h.trans k) (span_b (Nat.le_refl _)) (Below.refl _ _) (fun _=>rfl)
  (fun pre W=>(∃ v,Boxed W w0.heap.size 28 v∧W.ownsRow w.heap.size 34 3 v (opL op pre).length ((opL op pre).flatMap cellsF)∧(∀ g,v.ownBlock=some g→g<w0.heap.size+1∨w3.heap.size≤g))∧(Boxed W w.heap.size 126 (.func (.func K) #[] #[])∧(Below w.heap.size w W∧w3.heap.size≤W.heap.size)))
  (fun _ _ _=>False)
  (OwnFrom.and (Own.from (holdsRow_own w.heap.size w0.heap.size 28 34 3 (fun pre=>(opL op pre).length) (fun pre=>(opL op pre).flatMap cellsF) (fun pre v=>∀ g,v.ownBlock=some g→g<w0.heap.size+1∨w3.heap.size≤g)) _) (OwnFrom.and (Own.from (boxed_own _ _ _) _) (OwnFrom.and (ownFrom_below (Nat.le_refl _) hB.size) (fun _ _ _ _ h hg _=>Nat.le_trans h hg.size))))
  (fun _ _ _ _ _ hs _ _=>hs)
  ⟨⟨_,bR,hrow,fun g hg=>by cases hg;exact .inl (by show w.heap.size+1<_;omega)⟩,bD,hB,Nat.le_refl _⟩
  (fun x a' W=>∃ Bx,w3.heap.size≤Bx∧FBox W Bx x.1∧FBox W (Bx+1) x.2∧a'=eachActF (.slice p xs.length cap) (.slice q ys.length dap) (.func (.func K) #[] #[]) (.slice none 0 0) (.slice p xs.length cap) (.int .i64 xs.length) (.slice q ys.length dap) (.int .i64 ys.length) (.int .i64 m) (.slice (some ⟨w.heap.size+1,0,none⟩) 0 m) (.slice p xs.length cap) (.slice q ys.length dap) (.func (.func 152) #[] #[.pointer (some ⟨w0.heap.size+1,0,none⟩),.pointer (some ⟨w0.heap.size+1+1,0,none⟩)]) (frV x.1) (frV x.2) w.heap.size w0.heap.size Bx (Bx+1) undef undef undef undef undef undef)
  (fun x a' _ X Y row hs hg hr=>by obtain ⟨Bx,h0,h1,h2,h3⟩:=hs;exact ⟨Bx,h0,h1.own hg (fun r e=>(hr r e).2),h2.own hg (fun r e=>(hr r e).2),h3⟩)
  ?assign ?body ?done ?stop
 case assign =>
  rintro l pre x W K' ⟨⟨v,hv,hr,hg⟩,hd,hBW,hsW⟩ hK';have HK2:=hideP hK';clear hK'
  gi_wp2
  have hb2:Bl W ((W.alloc (.cells #[.int .i64 x.1.n,.int .i64 x.1.d,.bool x.1.bad] 34)).alloc (.cells #[.int .i64 x.2.n,.int .i64 x.2.d,.bool x.2.bad] 34)):=((Bl.refl W).alloc _).alloc _
  exact HK2.out _ _ (hb2.keeps _) (hb2.span hsW) ⟨⟨v,(hv.alloc _).alloc _,(hr.alloc _).alloc _,hg⟩,(hd.alloc _).alloc _,hBW.trans (hb2.mono hBW.size),by have:=hb2.size;omega⟩
   ⟨W.heap.size,hsW,(FBox.new W x.1 _).later ((Bl.refl _).alloc _),by have:=FBox.new (W.alloc (.cells #[.int .i64 x.1.n,.int .i64 x.1.d,.bool x.1.bad] 34)) x.2 34;simpa using this,rfl⟩
 case body =>
  rintro l pre ⟨x,y⟩ a' W hl' ⟨r,hr'⟩ ⟨⟨v,hv,hrow,hg⟩,hd,hBW,hsW⟩ ⟨Bx,hBx,b1,b2,rfl⟩ hlt;have fm:Tryz.prog.follows .mixedOrders=true:=by kernel_rfl
  have HV:=hideP hv;have HD:=hideP hd;have HR:=hideP hrow;have B1:=hideP b1;have B2:=hideP b2;have HG:=hideP hg;have HBW:=hideP hBW;clear hv hd hrow b1 b2 hg hBW;obtain ⟨z,hz⟩:∃ z,z=op x y:=⟨_,rfl⟩;have HK3:=hideP (fun u=>HK.out x y u);rw [←hz] at HK3;have HZ:=hideP hz;clear hz;have hpl:(opL op pre).length=pre.length:=by simp [opL]
  have hlt':pre.length≤1000000:=by simp at hlt;omega
  obtain ⟨A,hA⟩:∃ A,A=eachActF (.slice p xs.length cap) (.slice q ys.length dap) (.func (.func K) #[] #[]) (.slice none 0 0) (.slice p xs.length cap) (.int .i64 xs.length) (.slice q ys.length dap) (.int .i64 ys.length) (.int .i64 m) (.slice (some ⟨w.heap.size+1,0,none⟩) 0 m) (.slice p xs.length cap) (.slice q ys.length dap) (.func (.func 152) #[] #[.pointer (some ⟨w0.heap.size+1,0,none⟩),.pointer (some ⟨w0.heap.size+1+1,0,none⟩)]) (frV x) (frV y) w.heap.size w0.heap.size Bx (Bx+1):=⟨_,rfl⟩;show Code.wpIn _ _ _ _ _ (eachActF _ _ _ _ _ _ _ _ _ _ _ _ _ (frV x) (frV y) _ _ _ _ _ _ _ _ _ _) W;rw [←hA];have HAct:=hideP hA;clear hA
  gi_wp2
  refine wpIn_region_any fm ?_;change wpAnyIn _ _ _ _ _ _ _ _ _ (World.drew _);refine wpAnyIn_phase (fuel:=2) (EachIF A v (.func (.func K) #[] #[]) x y z W) ?fin ?live ?step 6 _ _ _ ⟨false,false,false,false,false,false,undef,undef,undef,undef,undef,undef,0,rfl,rfl,rfl,nofun,nofun,nofun,nofun,nofun,nofun,nofun,nofun,(Bl.refl _).drew⟩
  case live =>
   intro k l act u h h0;obtain ⟨l0,l1,l2,l3,l4,l5,v21,v22,v23,v24,v25,v26,g,rfl,hk,rfl,e0,e1,e2,e3,e4,e5,c4,c5,hB⟩:=h;rw [List.eq_nil_iff_forall_not_mem] at h0;cases l0
   ·exact h0 0 (mem_ready.2 ⟨rfl,_,rfl,fun e he=>by simp at he⟩)
   cases l1
   ·exact h0 1 (mem_ready.2 ⟨rfl,_,rfl,fun e he=>by simp at he⟩)
   cases l2
   ·exact h0 2 (mem_ready.2 ⟨rfl,_,rfl,fun e he=>by simp at he⟩)
   cases l3
   ·exact h0 3 (mem_ready.2 ⟨rfl,_,rfl,fun e he=>by simp at he⟩)
   cases l4
   ·exact h0 4 (mem_ready.2 ⟨rfl,_,rfl,fun e he hb=>by simp at he;rcases he with rfl|rfl|rfl<;>rfl⟩)
   cases l5
   ·exact h0 5 (mem_ready.2 ⟨rfl,_,rfl,fun e he hb=>by simp at he;rcases he with rfl;rfl⟩)
   simp [one'] at hk
  case step =>
   intro k l act u i h hi' hall;obtain ⟨l0,l1,l2,l3,l4,l5,v21,v22,v23,v24,v25,v26,g,rfl,hk,rfl,e0,e1,e2,e3,e4,e5,c4,c5,hB⟩:=h;have hlt2:=getD_lt' hi';simp only [List.size_toArray,List.length_cons,List.length_nil] at hlt2;have cR:u.cell? ⟨w0.heap.size,0,none⟩=some v:=(boxed_bl HV.out hB).cell;have cD:u.cell? ⟨w.heap.size,0,none⟩=some (.func (.func K) #[] #[]):=(boxed_bl HD.out hB).cell;obtain ⟨c0,c1,c2,f0,f1,f2,lt1⟩:=B1.out.later hB;obtain ⟨d0,d1,d2,g0,g1,g2,lt2⟩:=B2.out.later hB;rcases (by omega:i=0∨i=1∨i=2∨i=3∨i=4∨i=5∨i=6∨i=7) with rfl|rfl|rfl|rfl|rfl|rfl|rfl|rfl
   ·skip
    have hl0:l0=false:=hi';subst hl0;have E0:=hideP e0;have E1:=hideP e1;have E2:=hideP e2;have E3:=hideP e3;have E4:=hideP e4;have E5:=hideP e5;have C4:=hideP c4;have C5:=hideP c5;have HKk:=hideP hk;have HBu:=hideP hB;clear e0 e1 e2 e3 e4 e5 c4 c5 hk hB hi' hall;refine wpOpIn_step (o:=_) rfl (fun K' hK0=>?_);have hK':=hideP hK0;clear hK0;rw [HAct.out];unfold eachActF
    try simp only [List.getElem_toArray,List.getElem_cons_zero,List.getElem_cons_succ]
    go_simp
    exact hK'.out _ _ ⟨true,l1,l2,l3,l4,l5,(v),v22,v23,v24,v25,v26,g,rfl,by have:=HKk.out;simp [one'] at this ⊢;omega,by rw [HAct.out];rfl,fun _=>rfl,E1.out,E2.out,E3.out,E4.out,E5.out,C4.out,C5.out,HBu.out⟩
   ·skip
    have hl0:l1=false:=hi';subst hl0;have E0:=hideP e0;have E1:=hideP e1;have E2:=hideP e2;have E3:=hideP e3;have E4:=hideP e4;have E5:=hideP e5;have C4:=hideP c4;have C5:=hideP c5;have HKk:=hideP hk;have HBu:=hideP hB;clear e0 e1 e2 e3 e4 e5 c4 c5 hk hB hi' hall;refine wpOpIn_step (o:=_) rfl (fun K' hK0=>?_);have hK':=hideP hK0;clear hK0;rw [HAct.out];unfold eachActF
    try simp only [List.getElem_toArray,List.getElem_cons_zero,List.getElem_cons_succ]
    go_simp
    exact hK'.out _ _ ⟨l0,true,l2,l3,l4,l5,v21,(.func (.func K) #[] #[]),v23,v24,v25,v26,g,rfl,by have:=HKk.out;simp [one'] at this ⊢;omega,by rw [HAct.out];rfl,E0.out,fun _=>rfl,E2.out,E3.out,E4.out,E5.out,fun h=>⟨rfl,(C4.out h).2.1,(C4.out h).2.2⟩,C5.out,HBu.out⟩
   ·skip
    have hl0:l2=false:=hi';subst hl0;have E0:=hideP e0;have E1:=hideP e1;have E2:=hideP e2;have E3:=hideP e3;have E4:=hideP e4;have E5:=hideP e5;have C4:=hideP c4;have C5:=hideP c5;have HKk:=hideP hk;have HBu:=hideP hB;clear e0 e1 e2 e3 e4 e5 c4 c5 hk hB hi' hall;refine wpOpIn_step (o:=_) rfl (fun K' hK0=>?_);have hK':=hideP hK0;clear hK0;rw [HAct.out];unfold eachActF
    try simp only [List.getElem_toArray,List.getElem_cons_zero,List.getElem_cons_succ]
    go_simp
    exact hK'.out _ _ ⟨l0,l1,true,l3,l4,l5,v21,v22,(frV x),v24,v25,v26,g,rfl,by have:=HKk.out;simp [one'] at this ⊢;omega,by rw [HAct.out];rfl,E0.out,E1.out,fun _=>rfl,E3.out,E4.out,E5.out,fun h=>⟨(C4.out h).1,rfl,(C4.out h).2.2⟩,C5.out,HBu.out⟩
   ·skip
    have hl0:l3=false:=hi';subst hl0;have E0:=hideP e0;have E1:=hideP e1;have E2:=hideP e2;have E3:=hideP e3;have E4:=hideP e4;have E5:=hideP e5;have C4:=hideP c4;have C5:=hideP c5;have HKk:=hideP hk;have HBu:=hideP hB;clear e0 e1 e2 e3 e4 e5 c4 c5 hk hB hi' hall;refine wpOpIn_step (o:=_) rfl (fun K' hK0=>?_);have hK':=hideP hK0;clear hK0;rw [HAct.out];unfold eachActF
    try simp only [List.getElem_toArray,List.getElem_cons_zero,List.getElem_cons_succ]
    go_simp
    exact hK'.out _ _ ⟨l0,l1,l2,true,l4,l5,v21,v22,v23,(frV y),v25,v26,g,rfl,by have:=HKk.out;simp [one'] at this ⊢;omega,by rw [HAct.out];rfl,E0.out,E1.out,E2.out,fun _=>rfl,E4.out,E5.out,fun h=>⟨(C4.out h).1,(C4.out h).2.1,rfl⟩,C5.out,HBu.out⟩
   ·skip
    have hl0:l4=false:=hi';subst hl0;have h1:l1=true:=hall ⟨1,.data⟩ ⟨_,rfl,by simp⟩ rfl;have h2:l2=true:=hall ⟨2,.data⟩ ⟨_,rfl,by simp⟩ rfl;have h3:l3=true:=hall ⟨3,.data⟩ ⟨_,rfl,by simp⟩ rfl;obtain rfl:=e1 h1;obtain rfl:=e2 h2;obtain rfl:=e3 h3;have E0:=hideP e0;have E1:=hideP e1;have E2:=hideP e2;have E3:=hideP e3;have E4:=hideP e4;have E5:=hideP e5;have C4:=hideP c4;have C5:=hideP c5;have HKk:=hideP hk;have HBu:=hideP hB;have H1:=hideP h1;have H2:=hideP h2;have H3:=hideP h3;clear h1 h2 h3;clear e0 e1 e2 e3 e4 e5 c4 c5 hk hB hi' hall;refine wpOpIn_step (o:=_) rfl (fun K' hK0=>?_);have hK':=hideP hK0;clear hK0;rw [HAct.out];unfold eachActF
    try simp only [List.getElem_toArray,List.getElem_cons_zero,List.getElem_cons_succ]
    go_simp
    refine ⟨trivial,?_⟩;refine (CallsIn.inRound l (callsIn_wide.2 (HK3.out _))).mono ?_;rintro e w4 ⟨rfl,h4⟩
    try gi_wp2
    exact hK'.out _ _ ⟨l0,l1,l2,l3,true,l5,v21,(.func (.func K) #[] #[]),(frV x),(frV y),(frV z),v26,g,rfl,by have:=HKk.out;simp [one'] at this ⊢;omega,by rw [HAct.out];rfl,E0.out,fun _=>rfl,fun _=>rfl,fun _=>rfl,fun _=>rfl,fun h=>absurd (C5.out h) (by simp),fun _=>⟨H1.out,H2.out,H3.out⟩,fun _=>rfl,HBu.out.trans h4⟩
   ·skip
    have hl0:l5=false:=hi';subst hl0;have h4:l4=true:=hall ⟨4,.data⟩ ⟨_,rfl,by simp⟩ rfl;obtain rfl:=e4 h4;have E0:=hideP e0;have E1:=hideP e1;have E2:=hideP e2;have E3:=hideP e3;have E4:=hideP e4;have E5:=hideP e5;have C4:=hideP c4;have C5:=hideP c5;have HKk:=hideP hk;have HBu:=hideP hB;have H4:=hideP h4;clear h4;clear e0 e1 e2 e3 e4 e5 c4 c5 hk hB hi' hall;refine wpOpIn_step (o:=_) rfl (fun K' hK0=>?_);have hK':=hideP hK0;clear hK0;rw [HAct.out];unfold eachActF
    try simp only [List.getElem_toArray,List.getElem_cons_zero,List.getElem_cons_succ]
    go_simp
    exact hK'.out _ _ ⟨l0,l1,l2,l3,l4,true,v21,v22,v23,v24,(frV z),(.slice (some ⟨u.heap.size,0,none⟩) 1 1),u.heap.size,rfl,by have:=HKk.out;simp [one'] at this ⊢;omega,by rw [HAct.out];rfl,E0.out,E1.out,E2.out,E3.out,fun _=>rfl,fun _=>⟨rfl,FBox.new u z _⟩,C4.out,fun _=>H4.out,HBu.out.alloc _⟩
   ·exfalso;have h0:l0=true:=hall ⟨0,.data⟩ ⟨_,rfl,by simp⟩ rfl;have h4:l4=true:=hall ⟨4,.chain⟩ ⟨_,rfl,by simp⟩ rfl;have h5:l5=true:=hall ⟨5,.data⟩ ⟨_,rfl,by simp⟩ rfl;obtain ⟨h1,h2,h3⟩:=c4 h4;rw [h0,h1,h2,h3,h4,h5] at hk;simp [one'] at hk
   ·exact Bool.noConfusion (show false=true from hall ⟨6,.data⟩ ⟨_,rfl,by simp⟩ rfl)
  case fin =>
   intro l act u h;obtain ⟨l0,l1,l2,l3,l4,l5,v21,v22,v23,v24,v25,v26,g,rfl,hk,rfl,e0,e1,e2,e3,e4,e5,c4,c5,hB⟩:=h;obtain ⟨rfl,rfl,rfl,rfl,rfl,rfl⟩:l0=true∧l1=true∧l2=true∧l3=true∧l4=true∧l5=true:=by
    cases l0<;>cases l1<;>cases l2<;>cases l3<;>cases l4<;>cases l5<;>first|exact ⟨rfl,rfl,rfl,rfl,rfl,rfl⟩|(simp [one'] at hk)
   obtain rfl:=e0 rfl;obtain rfl:=e1 rfl;obtain rfl:=e2 rfl;obtain rfl:=e3 rfl;obtain rfl:=e4 rfl;obtain ⟨rfl,bz⟩:=e5 rfl;clear e0 e1 e2 e3 e4 e5 c4 c5 hk;have hvu:=boxed_bl HV.out hB;have hru:=own_blF HR.out hB;have hus:w.heap.size≤u.heap.size:=by have:=HBW.out.size;have:=hB.size;omega
   refine wpAnyIn_ready (rs:=[6]) (by kernel_rfl) (by simp) ?_;refine AllReadyIn.cons (i:=6) (o:=_) rfl (fun K' hK'=>?_) AllReadyIn.nil;rw [if_pos (by rfl)];refine stepIn_append (Operand.tmp 21) (Operand.tmp 26) 28 rfl w.heap.size 34 i0 (.agg #[.int .i64 0,.int .i64 0,.bool false]) 3 24 Tryz.underlying28 hi hz0 hz1 hz2 rfl (by decide) v21 _ _ (by rw [HAct.out];rfl) hru ⟨g,0,none⟩ 1 1 (cellsF z) (by rw [HAct.out];rfl) rfl bz.cells (oneF_cells _) (by unfold maxLen;omega) (by omega) hus ?_;intro v' w5 hown' hgrow hat;refine hK' _ _ ?_;clear hK' K';obtain ⟨g',cap',rfl⟩:=ownsRow_succ hown';obtain ⟨hv5,hv6,hr6,hk6,hb6⟩:=boxed_appended hvu (by decide) hru hus (by omega) hown' hgrow;have cv5:=hv5.cell;have fv5:=hv5.frozen;have HV6:=hideP hv6;have HR6:=hideP hr6;have HSP:=hideP (span_appended (R:=w0.heap.size) (v':=.slice (some ⟨g',0,none⟩) ((opL op pre).length+1) cap') hB hsW HG.out hgrow (Nat.lt_succ_self _));have HG':=hideP (show ∀ b,(Value.slice (some ⟨g',0,none⟩) ((opL op pre).length+1) cap').ownBlock=some b→b<w0.heap.size+1∨w3.heap.size≤b by
    intro b hb;rcases hat with h|h
    ·exact HG.out b (h.symm.trans hb)
    ·rw [h] at hb;cases hb;exact .inr (by have:=hB.size;omega))
   clear hv5 hv6 hr6 hown' hvu hru hat hpl;rw [HAct.out];unfold eachActF;refine wpAnyIn_ready (rs:=[7]) (by kernel_rfl) (by simp) ?_;refine AllReadyIn.cons (i:=7) (o:=_) rfl (fun K' hK'=>?_) AllReadyIn.nil;have HK4:=hideP hK';clear hK'
   try simp only [List.getElem_toArray,List.getElem_cons_zero,List.getElem_cons_succ]
   go_simp
   refine HK4.out _ _ ?_;refine wpAnyIn_done (by kernel_rfl) ?_ _
   gi_wp2
   have hBf:=hB.keeps w3.heap.size;refine ⟨hBf.trans (hk6.from _),HSP.out,⟨_,HV6.out,?_,HG'.out⟩,?_,HBW.out.trans ((hB.mono HBW.out.size).trans hb6),?_⟩
   ·have:=HR6.out;rw [opL_snoc,←HZ.out];simpa [List.flatMap_append] using this
   ·exact ((boxed_bl HD.out hB).kept hgrow ((boxed_bl HD.out hB).not_row (by decide) (own_blF HR.out hB))).other (by omega) _
   ·have:=hB.size;have:=hgrow.size;simp;omega
 case done =>
  rintro D zs W hD rfl ⟨⟨v,hv,hrow,_⟩,_,hBW,hsW⟩ hKD;have hc:=hv.cell
  gi_wp2
  refine ⟨by simp,.inl ⟨_,_,rfl,run_takeDeferred hKD,?_⟩⟩;refine ⟨_,results_tmp rfl _ _ _,v,rfl,?_,fun g hg=>(hrow.lt g hg).1,hBW.trans (belowK_b (w:=w) (Nat.le_refl _) W D _ _ (by omega) hKD rfl rfl)⟩;have:=ownsRow_putObj hrow (.deferred none) hKD rfl;rw [←HM.out,opL_zip op xs ys m HM.out] at this;exact Rw.of_own cellsF_len this
 case stop =>
  rintro D c pre W _ _ h _;exact h.elim
theorem eachF (K:Nat) (op:Fr→Fr→Fr) (hK:∀ a b w,Calls Tryz.prog K #[frV a,frV b] w fun e w'=>e=.returned (frV (op a b))∧Bl w w') (eg:∀ args w,(callFunc K args).run Tryz.prog w=.ok (.enter K args) w)
  (va vb:Value) (xs ys:List Fr) (w:World) (ha:Rq 3 cellsF w va xs) (hb:Rq 3 cellsF w vb ys) (hl:xs.length≤1000000) (hm:ys.length≤1000000) :
  Calls Tryz.prog 93 #[va,vb,.func (.func K) #[] #[]] w fun e w'=>∃ u,e=.returned u∧Rw 3 cellsF w' u (List.zipWith op xs ys)∧Bl w w':=
 (eachF' K op hK eg va vb xs ys w ha hb hl hm).mono fun _ _ ⟨u,h1,h2,_,h3⟩=>⟨u,h1,h2,h3⟩
theorem vAddF' (va vb:Value) (xs ys:List Fr) (w:World) (ha:Rq 3 cellsF w va xs) (hb:Rq 3 cellsF w vb ys) (hl:xs.length≤1000000) (hm:ys.length≤1000000) :
  Calls Tryz.prog 49 #[va,vb] w fun e w'=>∃ u,e=.returned u∧Rw 3 cellsF w' u (List.zipWith addR xs ys)∧Fresh w.heap.size u∧Bl w w':=by
 have E:=hideP (eachF' 95 addR dAddF (enters_of Tryz.func95 (by kernel_rfl) rfl) va vb xs ys w ha hb hl hm);clear ha hb
 go_enter Tryz.func49,Tryz.ntmps49;go_wp2_with fail
 refine E.out.mono ?_;rintro e w1 ⟨u,rfl,hr,hf,h1⟩;go_wp2;go_ret;exact ⟨_,rfl,hr,hf,h1⟩
theorem vSubF' (va vb:Value) (xs ys:List Fr) (w:World) (ha:Rq 3 cellsF w va xs) (hb:Rq 3 cellsF w vb ys) (hl:xs.length≤1000000) (hm:ys.length≤1000000) :
  Calls Tryz.prog 135 #[va,vb] w fun e w'=>∃ u,e=.returned u∧Rw 3 cellsF w' u (List.zipWith subR xs ys)∧Fresh w.heap.size u∧Bl w w':=by
 have E:=hideP (eachF' 153 subR dSubF (enters_of Tryz.func153 (by kernel_rfl) rfl) va vb xs ys w ha hb hl hm);clear ha hb
 go_enter Tryz.func135,Tryz.ntmps135;go_wp2_with fail
 refine E.out.mono ?_;rintro e w1 ⟨u,rfl,hr,hf,h1⟩;go_wp2;go_ret;exact ⟨_,rfl,hr,hf,h1⟩
def dotF (xs ys:List Fr):Fr:=sumF (List.zipWith mulR xs ys)
theorem vDotF (va vb:Value) (xs ys:List Fr) (w:World) (ha:Rq 3 cellsF w va xs) (hb:Rq 3 cellsF w vb ys) (hl:xs.length≤1000000) (hm:ys.length≤1000000) :
  Calls Tryz.prog 47 #[va,vb] w fun e w'=>e=.returned (frV (dotF xs ys))∧Bl w w':=by
 obtain ⟨W,hW⟩:∃ W,W=w.alloc (.cells #[.int .i64 0,.int .i64 0,.bool false] 34):=⟨_,rfl⟩;have b0:Bl w W:=by rw [hW];exact (Bl.refl _).alloc _
 have x0:FBox W w.heap.size zeroR:=by rw [hW];exact FBox.new w zeroR _
 have E:=hideP (eachF 94 mulR dMulF (enters_of Tryz.func94 (by kernel_rfl) rfl) va vb xs ys W (ha.later b0) (hb.later b0) hl hm);have HL:=hideP (show (List.zipWith mulR xs ys).length≤1000000 by simp;omega);generalize hr0:dotF xs ys=r;have HR0:=hideP hr0;clear hr0;have HW:=hideP hW;clear ha hb hW
 go_enter Tryz.func47,Tryz.ntmps47;go_wp2_with fail
 rw [←HW.out];refine E.out.mono ?_;rintro e w1 ⟨u,rfl,hr,h1⟩;have S0:=vsumF u _ w1 hr.q HL.out;rw [show sumF (List.zipWith mulR xs ys)=r from HR0.out] at S0;have S:=hideP S0;clear hr S0;go_wp2_with fail
 refine S.out.mono ?_;rintro e w2 ⟨rfl,h2⟩;obtain ⟨c0,c1,c2,f0,f1,f2,lt⟩:=x0.later (h1.trans h2);go_wp2;simp [bodyPost,results,Tryz.results47,go_sem,c0,c1,c2];exact Bl.set3 (b0.trans (h1.trans h2)) (Nat.le_refl _) _ _ _
def itF (n:Int):Fr:=⟨n,1,false⟩
def Wh (n:Int):Prop:=-1073741824≤n∧n≤1073741824
theorem low_it {n:Int} (h:Wh n):lowR n 1=itF n:=by
 rw [lowR_pos n 1 (by decide) 1 (by simp)];have h1:smB n=true:=smB_iff.2 h;have e1:n.tdiv 1=n:=Int.tdiv_one n;rw [e1,h1];rfl
theorem new_it {n:Int} (h:Wh n):newR n 1=itF n:=by
 have h1:gvB n=true:=gvB_iff.2 (by have:=h;unfold Wh at this;omega);unfold newR;rw [h1,low_it h];rfl
theorem whole_it {n:Int} (h:Wh n):wholeF n=itF n:=new_it h
def Sml (B:Int) (ns:List Int):Prop:=∀ x∈ns,-B≤x∧x≤B
theorem ofQ_q {q:Rat} (h:fineR (ofQ q)=true):toQ (ofQ q)=q:=toQ_ofQ (by rw [←ofQ_fine];exact h)
theorem add_q {a b:Fr} (h:fineR (addR a b)=true):fineR a=true∧fineR b=true∧toQ (addR a b)=toQ a+toQ b:=by
 cases ha:fineR a
 ·unfold addR at h;rw [ha] at h;cases h
 cases hb:fineR b
 ·unfold addR at h;rw [ha,hb] at h;cases h
 rw [addR_fine ha hb] at h ⊢;exact ⟨rfl,rfl,ofQ_q h⟩
theorem sub_q {a b:Fr} (h:fineR (subR a b)=true):fineR a=true∧fineR b=true∧toQ (subR a b)=toQ a-toQ b:=by
 cases ha:fineR a
 ·unfold subR at h;rw [ha] at h;cases h
 cases hb:fineR b
 ·unfold subR at h;rw [ha,hb] at h;cases h
 rw [subR_fine ha hb] at h ⊢;exact ⟨rfl,rfl,ofQ_q h⟩
theorem mul_q {a b:Fr} (h:fineR (mulR a b)=true):fineR a=true∧fineR b=true∧toQ (mulR a b)=toQ a*toQ b:=by
 cases ha:fineR a
 ·unfold mulR at h;rw [ha] at h;cases h
 cases hb:fineR b
 ·unfold mulR at h;rw [ha,hb] at h;cases h
 rw [mulR_fine ha hb] at h ⊢;exact ⟨rfl,rfl,ofQ_q h⟩
theorem div_q {a b:Fr} (h:fineR (divR a b)=true):fineR a=true∧fineR b=true∧toQ b≠0∧toQ (divR a b)=toQ a/toQ b:=by
 cases ha:fineR a
 ·unfold divR at h;rw [ha] at h;cases h
 cases hb:fineR b
 ·unfold divR at h;rw [ha,hb] at h;cases h
 by_cases h0:b.n=0
 ·unfold divR at h;rw [ha,hb,show decide (b.n≠0)=false by simp [h0]] at h;cases h
 rw [divR_fine ha hb h0] at h ⊢;exact ⟨rfl,rfl,toQ_ne hb h0,ofQ_q h⟩
def sumQ:List Rat→Rat
 |[]=>0
 |x::xs=>x+sumQ xs
theorem sumQ_append:∀ (xs ys:List Rat),sumQ (xs++ys)=sumQ xs+sumQ ys
 |[],ys=>by simp [sumQ,Rat.zero_add]
 |x::xs,ys=>by simp only [List.cons_append,sumQ];rw [sumQ_append xs ys,Rat.add_assoc]
theorem fold_q:∀ (xs:List Fr) (a:Fr),fineR (xs.foldl addR a)=true→fineR a=true∧(∀ x∈xs,fineR x=true)∧toQ (xs.foldl addR a)=toQ a+sumQ (xs.map toQ)
 |[],a,h=>⟨h,fun x hx=>by simp at hx,by simp [sumQ,Rat.add_zero]⟩
 |y::xs,a,h=>by
  simp only [List.foldl_cons] at h ⊢;obtain ⟨h1,h2,h3⟩:=fold_q xs (addR a y) h;obtain ⟨g1,g2,g3⟩:=add_q h1;refine ⟨g1,fun x hx=>?_,?_⟩
  ·rcases List.mem_cons.1 hx with rfl|hx
   ·exact g2
   ·exact h2 x hx
  ·rw [h3,g3,List.map_cons,sumQ,Rat.add_assoc]
theorem new0_q:toQ (newR 0 1)=0:=by
 rw [new_it (n:=0) ⟨by omega,by omega⟩];exact Rat.zero_divInt _
theorem sum_q {xs:List Fr} (h:fineR (sumF xs)=true):(∀ x∈xs,fineR x=true)∧toQ (sumF xs)=sumQ (xs.map toQ):=by
 obtain ⟨_,h2,h3⟩:=fold_q xs _ h;refine ⟨h2,?_⟩;rw [show sumF xs=xs.foldl addR (newR 0 1) from rfl,h3,new0_q,Rat.zero_add]
def dotQ (xs ys:List Rat):Rat:=sumQ (List.zipWith (· * ·) xs ys)
theorem muls_q:∀ {xs ys:List Fr},(∀ z∈List.zipWith mulR xs ys,fineR z=true)→(List.zipWith mulR xs ys).map toQ=List.zipWith (· * ·) (xs.map toQ) (ys.map toQ)
 |[],_,_=>by simp
 |_::_,[],_=>by simp
 |x::xs,y::ys,h=>by
  simp only [List.zipWith_cons_cons,List.map_cons];rw [(mul_q (h (mulR x y) (by simp))).2.2,muls_q fun z hz=>h z (by simp only [List.zipWith_cons_cons];exact List.mem_cons_of_mem _ hz)]
theorem dot_q {xs ys:List Fr} (h:fineR (dotF xs ys)=true):(∀ z∈List.zipWith mulR xs ys,fineR z=true)∧toQ (dotF xs ys)=dotQ (xs.map toQ) (ys.map toQ):=by
 obtain ⟨h1,h2⟩:=sum_q h;refine ⟨h1,?_⟩;rw [show dotF xs ys=sumF (List.zipWith mulR xs ys) from rfl,h2,muls_q h1];rfl
theorem dotQ_snoc {xs ys:List Rat} (h:xs.length=ys.length) (x y:Rat):dotQ (xs++[x]) (ys++[y])=dotQ xs ys+x*y:=by
 unfold dotQ;rw [List.zipWith_append h,sumQ_append];simp [sumQ,Rat.add_zero]
theorem toQ_whole (n:Int):toQ ⟨n,1,false⟩=(n:Rat):=by
 unfold toQ
 first|exact (Rat.intCast_eq_divInt n).symm|simp [Rat.divInt,Rat.mkRat_one]|exact (Rat.mkRat_one n)
structure Kd (α:Type) where
 z:α
 add:α→α→α
 sub:α→α→α
 mul:α→α→α
 div:α→α→α
 root:α→α
 neg:α→α
 dot:List α→List α→α
def tailH {α:Type} (m k:Nat) (f:Nat→α):List α:=(List.range (m-k)).map fun j=>f (k+j)
def pH {α:Type} (K:Kd α) (m k:Nat) (b:Bool) (a:Nat→Nat→α):α:=
 if b=true then K.root (K.dot (tailH m k (a k)) (tailH m k (a k))) else K.neg (K.root (K.dot (tailH m k (a k)) (tailH m k (a k))))
def vH {α:Type} (K:Kd α) (m k:Nat) (b:Bool) (a:Nat→Nat→α) (j:Nat):α:=if j=k then K.sub (a k k) (pH K m k b a) else a k j
def tH {α:Type} (K:Kd α) (m k:Nat) (b:Bool) (a:Nat→Nat→α) (i:Nat):α:=
 K.div (K.add (K.dot (tailH m k (a i)) (tailH m k (vH K m k b a))) (K.dot (tailH m k (a i)) (tailH m k (vH K m k b a)))) (K.dot (tailH m k (vH K m k b a)) (tailH m k (vH K m k b a)))
def foldStep {α:Type} (K:Kd α) (m k:Nat) (b:Bool) (a:Nat→Nat→α) (i j:Nat):α:=
 if i=k then (if j=k then pH K m k b a else if k<j then K.z else a i j)
 else if k<i∧k≤j then K.sub (a i j) (K.mul (vH K m k b a j) (tH K m k b a i)) else a i j
def foldTo {α:Type} (K:Kd α) (m:Nat) (σ:Nat→Bool) (a:Nat→Nat→α):Nat→Nat→Nat→α
 |0=>a
 |k+1=>foldStep K m k (σ k) (foldTo K m σ a k)
def foldL {α:Type} (K:Kd α) (low:α→Bool) (m:Nat) (a:Nat→Nat→α):Nat→Nat→Nat→α
 |0=>a
 |k+1=>foldStep K m k (low (foldL K low m a k k k)) (foldL K low m a k)
theorem foldL_to {α:Type} (K:Kd α) (low:α→Bool) (m:Nat) (a:Nat→Nat→α):∀ k,foldL K low m a k=foldTo K m (fun k=>low (foldL K low m a k k k)) a k
 |0=>rfl
 |k+1=>by
  show foldStep K m k (low (foldL K low m a k k k)) (foldL K low m a k)=foldStep K m k (low (foldL K low m a k k k)) (foldTo K m (fun k=>low (foldL K low m a k k k)) a k);rw [←foldL_to K low m a k]
def signsH {α:Type} (K:Kd α) (τ:Nat→Bool) (a:Nat→Nat→α) (i j:Nat):α:=if j≤i∧τ j=true then K.neg (a i j) else a i j
def foldH {α:Type} (K:Kd α) (n m:Nat) (σ τ:Nat→Bool) (a:Nat→Nat→α) (i j:Nat):α:=if i<j then K.z else signsH K τ (foldTo K m σ a n) i j
theorem foldTo_stays {α:Type} (K:Kd α) (m:Nat) (σ:Nat→Bool) (a:Nat→Nat→α) {i j k:Nat} (h:i<k∨(j<k∧j<i)):∀ d,foldTo K m σ a (k+d) i j=foldTo K m σ a k i j
 |0=>rfl
 |d+1=>by
  show foldStep K m (k+d) (σ (k+d)) (foldTo K m σ a (k+d)) i j=_;have ih:=foldTo_stays K m σ a h d;unfold foldStep;rcases h with h|⟨h,h2⟩
  ·rw [if_neg (by omega),if_neg (by omega),ih]
  ·by_cases hi:i=k+d
   ·rw [if_pos hi,if_neg (by omega),if_neg (by omega),ih]
   ·rw [if_neg hi,if_neg (by omega),ih]
theorem foldTo_zero {α:Type} (K:Kd α) (m:Nat) (σ:Nat→Bool) (a:Nat→Nat→α) {i j k:Nat} (h:i<k) (hj:i<j):foldTo K m σ a k i j=K.z:=by
 obtain ⟨d,rfl⟩:=Nat.exists_eq_add_of_le h;rw [foldTo_stays K m σ a (.inl (Nat.lt_succ_self i)) d];show foldStep K m i (σ i) (foldTo K m σ a i) i j=_;unfold foldStep;rw [if_pos rfl,if_neg (by omega),if_pos hj]
def sumH:Nat→(Nat→Rat)→Rat
 |0,_=>0
 |n+1,f=>sumH n f+f n
theorem sumH_congr {f g:Nat→Rat}:∀ n,(∀ j,j<n→f j=g j)→sumH n f=sumH n g
 |0,_=>rfl
 |n+1,h=>by show sumH n f+f n=sumH n g+g n;rw [sumH_congr n fun j hj=>h j (by omega),h n (by omega)]
theorem sumH_zero {f:Nat→Rat}:∀ n,(∀ j,j<n→f j=0)→sumH n f=0
 |0,_=>rfl
 |n+1,h=>by show sumH n f+f n=0;rw [sumH_zero n fun j hj=>h j (by omega),h n (by omega),Rat.add_zero]
theorem sumH_split (f:Nat→Rat) (k:Nat):∀ d,sumH (k+d) f=sumH k f+sumH d fun j=>f (k+j)
 |0=>by show sumH k f=sumH k f+0;rw [Rat.add_zero]
 |d+1=>by show sumH (k+d) f+f (k+d)=sumH k f+(sumH d (fun j=>f (k+j))+f (k+d));rw [sumH_split f k d,Rat.add_assoc]
theorem sumH_lin (f g:Nat→Rat) (s:Rat):∀ n,sumH n (fun j=>f j-g j*s)=sumH n f-sumH n g*s
 |0=>by show (0:Rat)=0-0*s;grind
 |n+1=>by show sumH n (fun j=>f j-g j*s)+(f n-g n*s)=sumH n f+f n-(sumH n g+g n)*s;rw [sumH_lin f g s n];grind
theorem dotQ_sumH (f g:Nat→Rat):∀ n,dotQ ((List.range n).map f) ((List.range n).map g)=sumH n fun j=>f j*g j
 |0=>rfl
 |n+1=>by
  rw [List.range_succ,List.map_append,List.map_append,List.map_singleton,List.map_singleton,dotQ_snoc (by simp),dotQ_sumH f g n];rfl
def dT (m k:Nat) (f g:Nat→Rat):Rat:=sumH (m-k) fun j=>f (k+j)*g (k+j)
theorem dT_comm (m k:Nat) (f g:Nat→Rat):dT m k f g=dT m k g f:=sumH_congr _ fun j _=>Rat.mul_comm _ _
theorem dT_subl (m k:Nat) (f v g:Nat→Rat) (t:Rat):dT m k (fun j=>f j-v j*t) g=dT m k f g-dT m k v g*t:=by
 unfold dT;rw [←sumH_lin];exact sumH_congr _ fun j _=>by grind
theorem dT_subr (m k:Nat) (f v g:Nat→Rat) (t:Rat):dT m k g (fun j=>f j-v j*t)=dT m k g f-dT m k g v*t:=by
 rw [dT_comm,dT_subl,dT_comm m k f g,dT_comm m k v g]
theorem dT_fold {m k:Nat} {f g v:Nat→Rat} {t s:Rat} (hv:dT m k v v≠0) (ht:t*dT m k v v=dT m k f v+dT m k f v) (hs:s*dT m k v v=dT m k g v+dT m k g v) :
  dT m k (fun j=>f j-v j*t) (fun j=>g j-v j*s)=dT m k f g:=by
 rw [dT_subl,dT_subr,dT_subr,dT_comm m k v g];grind
theorem Bl.grown0 {w w':World} (h:Bl w w'):w.grownBy w' none:=⟨h.os,h.tape,h.output,h.size,fun k hk _=>h.block k hk⟩
theorem own_later {β:Type} {B:Nat} {I:β→World→Prop} (h:OwnFrom B I) {s:β} {w w':World} (k:Bl w w') (hs:I s w):I s w':=h s w w' none hs k.grown0 nofun
def SeqV {α:Type} (F:Fence) (n:Nat) (P:Program) (g:Nat) (lb:Array Value) (encs:α→Array Value) (V:α→World→World→Prop) (Kp:World→World→Prop) (S Sp:List α→Prop) (N:Nat) (w:World):Prop:=
 ∀ (l:Nat) (J Jx:List α→World→Prop) (W:World),Bl w W→AbidesFrom W.heap.size J→AbidesFrom W.heap.size Jx →
  (∀ pre x W0 W1,J pre W0→V x W0 W1→pre.length<N→YieldAt F (n-1) P l (encs x) W1 fun e W' =>
   (e=.returned (.bool true)∧J (pre++[x]) W'∧Kp W1 W')∨(e=.returned (.bool false)∧Jx (pre++[x]) W')) →
  J [] W→CallsIn F n P g (#[.func (.yield l) #[] #[]]++lb) W fun e W'=>(∃ v,e=.returned v)∧((∃ xs,S xs∧J xs W')∨∃ pre,Sp pre∧Jx pre W')
theorem SeqV.inRound {α:Type} {F:Fence} {n:Nat} {P:Program} {g:Nat} {lb:Array Value} {encs:α→Array Value} {V:α→World→World→Prop} {Kp:World→World→Prop} {S Sp:List α→Prop} {N:Nat} {w:World} (l:Nat)
  (h:SeqV F n P g lb encs V Kp S Sp N w):SeqV (F.inRound l) n P g lb encs V Kp S Sp N w:=h
def recOf (r:Loop) (j:Option Code):Loop:={ r with state:=if j.isNone then .ready else .done,pending:=j }
theorem recOf_none {r:Loop} (h1:r.state=.ready) (h2:r.pending=none):recOf r none=r:=by
 obtain ⟨st,pe,_,_,_,_,_,_⟩:=r;simp only at h1 h2;subst h1 h2;rfl
def leftBy {α:Type} (B:Nat) (Kp:World→World→Prop) (I:List α→World→Prop) (Ix:Code→List α→World→Prop) (xs:List α) (W W':World):Option Code→Prop
 |none=>I xs W'∧Kp W W'
 |some c=>Ix c xs W'
theorem rv_round {α:Type} {F:Fence} {m:Nat} {P:Program} {l B:Nat} (hB:B≤l) {r:Loop} (hst:r.state=.ready) (hfn:F.fn r.fn) {args:Array Value} (hps:args.size=r.params.size)
  {Kp:World→World→Prop} (hKt:∀ {A B C:World},Kp A B→Kp B C→Kp A C) (hKb:∀ (W:World) (l:Nat) (o o':Obj),B≤l→W.heap[l]?=some o→o.isCells=false→o.isWalk=false→Kp W (W.putObj l o'))
  {I:List α→World→Prop} {Ix:Code→List α→World→Prop} (hI:OwnFrom B I) (hIx:∀ c,OwnFrom B (Ix c)) {Ax:Act→World→Prop} (hAx:∀ a',OwnFrom B (fun (_:Unit) W=>Ax a' W))
  {pre ys:List α} {W:World} (hl:W.heap[l]?=some (.loop r))
  (hassign:∀ K:Act→World→Prop,(∀ a' W',KeepsFrom B W W'→Kp W W'→I pre W'→Ax a' W'→K a' W') →
   r.assign.wpIn (F.inRound l) m P (Exit.then K (fun _ _ _=>False)) { tmps:=(r.params.zip args).foldl (fun t (p,v)=>t.setIfInBounds p v) r.tmps,defers:=[] } W)
  (hbody:∀ a' W',(∃ r',W'.heap[l]?=some (.loop r'))→I pre W'→Ax a' W'→r.body.wpIn (F.inRound l) m P (ownPostG B Kp I Ix ys W') a' W') :
  YieldAt F m P l args W fun e W'=>∃ j:Option Code,e=.returned (.bool j.isNone)∧W'.heap[l]?=some (.loop (recOf r j))∧(∀ k o,B≤k→k≠l→W.heap[k]?=some o→o.isCells=false→W'.heap[k]?=some o)∧leftBy B Kp I Ix ys W W' j:=by
 refine ⟨_,_,_,_,run_yield hl hps,roundIn_of_wpIn hfn (hassign _ fun a' Wa kf kp hi ha=>?_)⟩;have hla:=kf.same l _ hB hl rfl;have hlt:=(Array.getElem?_eq_some_iff.1 hla).1;refine ⟨_,run_beginRound hla hst,?_⟩;generalize hWb:Wa.putObj l (.loop { r with state:=.busy })=Wb;have hlb:Wb.heap[l]?=some (.loop { r with state:=.busy }):=by rw [←hWb];exact World.putObj_heap_same hlt
 have kb:Kp W Wb:=by rw [←hWb];exact hKt kp (hKb _ _ _ _ hB hla rfl rfl)
 have hib:I pre Wb:=by rw [←hWb];exact hI.putObj _ hi hB hla rfl
 have hab:Ax a' Wb:=by rw [←hWb];exact (hAx a').putObj (s:=()) _ ha hB hla rfl
 have hoth:∀ k o,B≤k→k≠l→W.heap[k]?=some o→o.isCells=false→Wb.heap[k]?=some o:=fun k o h1 h2 h3 h4=>by
  rw [←hWb];exact (World.putObj_heap_other h2).trans (kf.same k o h1 h3 h4)
 clear kf kp hi ha hl hla hlt hWb
 have close:∀ (j:Option Code) (W3:World),KeepsFrom B Wb W3→(∀ W4,Kp W3 W4→W4=W3.putObj l (.loop (recOf r j))→leftBy B Kp I Ix ys W W4 j) →
   ∃ v w',(Instr.endRound l j).run P W3=.ok v w'∧∃ i:Option Code,Ending.returned v=.returned (.bool i.isNone)∧w'.heap[l]?=some (.loop (recOf r i))∧(∀ k o,B≤k→k≠l→W.heap[k]?=some o→o.isCells=false→w'.heap[k]?=some o)∧leftBy B Kp I Ix ys W w' i:=by
  intro j W3 k3 hleft;have hl3:=k3.same l _ hB hlb rfl;have hr:=run_endRound (P:=P) j hl3;refine ⟨_,_,hr,j,rfl,World.putObj_heap_same (Array.getElem?_eq_some_iff.1 hl3).1,fun k o h1 h2 h3 h4=>(World.putObj_heap_other h2).trans (k3.same k o h1 (hoth k o h1 h2 h3 h4) h4),hleft _ (hKb _ _ _ _ hB hl3 rfl rfl) rfl⟩
 refine wpIn_mono (hbody a' Wb ⟨_,hlb⟩ hib hab) ?_;intro e a3 W3 h;have put:∀ (c:Code),KeepsFrom B Wb W3→Ix c ys W3→∀ W4,Kp W3 W4→W4=W3.putObj l (.loop (recOf r (some c)))→leftBy B Kp I Ix ys W W4 (some c):=by
  rintro c k3 hx W4 _ rfl;exact (hIx c).putObj _ hx hB (k3.same l _ hB hlb rfl) rfl
 cases e with
 |normal =>
  obtain ⟨k3,p3,i3⟩:=h;exact close none W3 k3 (by rintro W4 h4 rfl;exact ⟨hI.putObj _ i3 hB (k3.same l _ hB hlb rfl) rfl,hKt (hKt kb p3) h4⟩)
 |ret=>exact close (some .ret) W3 h.1 (put _ h.1 h.2)
 |exit id=>exact close (some (.exit id)) W3 h.1 (put _ h.1 h.2)
 |goto t=>exact close (some (.goto t)) W3 h.1 (put _ h.1 h.2)
 |panic _=>exact h.elim
 |outgrown=>exact h.elim
theorem rv_run {α:Type} {F:Fence} {n:Nat} {P:Program} {l B:Nat} {w W1:World} (hB:B≤l) (hb:Bl w W1) (hlt1:B≤W1.heap.size) {r:Loop} (hst:r.state=.ready) (hpe:r.pending=none) (hfn:F.fn r.fn)
  {gf:Nat} {lb:Array Value} {encs:α→Array Value} {V:α→World→World→Prop} {Kp:World→World→Prop} {S Sp:List α→Prop} {N:Nat} (hseq:SeqV F n P gf lb encs V Kp S Sp N w) (hV:∀ x A B,V x A B→Bl A B)
  (hps:∀ x,(encs x).size=r.params.size)
  (hKt:∀ {A B C:World},Kp A B→Kp B C→Kp A C) (hKb:∀ (W:World) (l:Nat) (o o':Obj),B≤l→W.heap[l]?=some o→o.isCells=false→o.isWalk=false→Kp W (W.putObj l o'))
  {I:List α→World→Prop} {Ix:Code→List α→World→Prop} (hI:OwnFrom B I) (hIx:∀ c,OwnFrom B (Ix c)) {Ax:α→Act→World→Prop} (hAx:∀ x a',OwnFrom B (fun (_:Unit) W=>Ax x a' W))
  (hl:W1.heap[l]?=some (.loop r)) (h0:I [] W1) (D:Nat) (od:Obj) (hD:B≤D) (hDl:D≠l) (hod:W1.heap[D]?=some od∨W1.heap.size≤D) (hoc:od.isCells=false) (how:od.isWalk=false)
  (hassign:∀ (pre:List α) (x:α) (W0 W:World) (K:Act→World→Prop),I pre W0→V x W0 W→I pre W→(∀ a' W',KeepsFrom B W W'→Kp W W'→I pre W'→Ax x a' W'→K a' W') →
   r.assign.wpIn (F.inRound l) (n-1) P (Exit.then K (fun _ _ _=>False)) { tmps:=(r.params.zip (encs x)).foldl (fun t (p,v)=>t.setIfInBounds p v) r.tmps,defers:=[] } W)
  (hbody:∀ (pre:List α) (x:α) (a':Act) (W:World),(∃ r',W.heap[l]?=some (.loop r'))→I pre W→Ax x a' W→pre.length<N→r.body.wpIn (F.inRound l) (n-1) P (ownPostG B Kp I Ix (pre++[x]) W) a' W) :
  CallsIn F n P gf (#[.func (.yield l) #[] #[]]++lb) W1 fun e W'=>(∃ v,e=.returned v)∧((∃ xs,S xs∧I xs W'∧W'.heap[l]?=some (.loop r)∧(W1.heap[D]?=some od→W'.heap[D]?=some od))∨∃ pre c,Sp pre∧Ix c pre W'∧W'.heap[l]?=some (.loop (recOf r (some c)))∧(W1.heap[D]?=some od→W'.heap[D]?=some od)):=by
 have keep:∀ {A C:World} {row:Option Nat},A.grownBy C row→(∀ q,row=some q→W1.heap.size≤q∧∃ o:Obj,A.heap[q]?=some o∧o.isWalk=true)→∀ (k:Nat) (o:Obj),A.heap[k]?=some o→o.isWalk=false→C.heap[k]?=some o:=by
  intro A C row hg hr k o hk ho;refine (hg.block k (Array.getElem?_eq_some_iff.1 hk).1 (fun e=>?_)).trans hk;obtain ⟨_,o',ho',hw⟩:=hr k e.symm;rw [hk] at ho';cases ho';rw [ho] at hw;cases hw
 have own:∀ {A:World} {row:Option Nat},(∀ q,row=some q→W1.heap.size≤q∧∃ o:Obj,A.heap[q]?=some o∧o.isWalk=true)→∀ q,row=some q→B≤q∧∃ o:Obj,A.heap[q]?=some o∧o.isCells=false:=by
  intro A row hr q e;obtain ⟨h1,o,ho,hw⟩:=hr q e;exact ⟨Nat.le_trans hlt1 h1,o,ho,Obj.not_cells_of_walk hw⟩
 refine (hseq l (fun pre W=>I pre W∧W.heap[l]?=some (.loop r)∧(W1.heap[D]?=some od→W.heap[D]?=some od)) (fun pre W=>∃ c,Ix c pre W∧W.heap[l]?=some (.loop (recOf r (some c)))∧(W1.heap[D]?=some od→W.heap[D]?=some od)) W1 hb
  (fun s A C row hs hg hr=>⟨hI s A C row hs.1 hg (own hr),keep hg hr _ _ hs.2.1 rfl,fun h=>keep hg hr _ _ (hs.2.2 h) how⟩)
  (fun s A C row hs hg hr=>by obtain ⟨c,h1,h2,h3⟩:=hs;exact ⟨c,hIx c s A C row h1 hg (own hr),keep hg hr _ _ h2 rfl,fun h=>keep hg hr _ _ (h3 h) how⟩) ?_ ⟨h0,hl,id⟩).mono ?_
 ·rintro pre x W0 W ⟨i0,l0,d0⟩ hv hlen;have hbv:=hV x W0 W hv;have hlW:=(Below.block hbv l (Array.getElem?_eq_some_iff.1 l0).1).trans l0;refine ((rv_round (Kp:=Kp) (ys:=pre++[x]) hB hst hfn (hps x) hKt hKb hI hIx (hAx x) hlW (fun K hK=>hassign pre x W0 W K i0 hv (own_later hI hbv i0) hK) (fun a' W' hr hi ha=>hbody pre x a' W' hr hi ha hlen)):YieldAt F (n-1) P l (encs x) W _).mono ?_;rintro e W' ⟨j,rfl,hl',ho,hj⟩;have hd':W1.heap[D]?=some od→W'.heap[D]?=some od:=fun h=>ho D od hD hDl ((Below.block hbv D (Array.getElem?_eq_some_iff.1 (d0 h)).1).trans (d0 h)) hoc
  cases j with
  |none=>exact .inl ⟨rfl,⟨hj.1,by rw [recOf_none hst hpe] at hl';exact hl',hd'⟩,hj.2⟩
  |some c=>exact .inr ⟨rfl,c,hj,hl',hd'⟩
 ·rintro e W' ⟨he,(⟨xs,h1,h2,h3,h4⟩|⟨pre,h1,c,h2,h3,h4⟩)⟩
  ·exact ⟨he,.inl ⟨xs,h1,h2,h3,h4⟩⟩
  ·exact ⟨he,.inr ⟨pre,c,h1,h2,h3,h4⟩⟩
theorem rangeV {α:Type} {F:Fence} {n:Nat} {P:Program} {g:Operand} {ps:Array Tmp} {assign body:Code} {Q:Exit→Act→World→Prop} {a:Act} {w:World}
  (hro:F.round=none) (h1:1≤n) {gf:Nat} {lb:Array Value} (hg:a.eval g=.func (.func gf) #[] lb) (hFg:F.fn gf) (eg:∀ args w,(callFunc gf args).run P w=.ok (.enter gf args) w)
  {encs:α→Array Value} {V:α→World→World→Prop} {Kp:World→World→Prop} {S Sp:List α→Prop} {N:Nat} (hseq:SeqV F (n-1) P gf lb encs V Kp S Sp N w) (hV:∀ x A B,V x A B→Bl A B)
  (hKt:∀ {A B C:World},Kp A B→Kp B C→Kp A C) (hKb:∀ (W:World) (l:Nat) (o o':Obj),w.heap.size≤l→W.heap[l]?=some o→o.isCells=false→o.isWalk=false→Kp W (W.putObj l o')) (hps:∀ x,(encs x).size=ps.size)
  (I:List α→World→Prop) (Ix:Code→List α→World→Prop) (hI:OwnFrom w.heap.size I) (hIx:∀ c,OwnFrom w.heap.size (Ix c)) (h0:I [] w) (Ax:Act→α→Act→World→Prop) (hAx:∀ x a',OwnFrom w.heap.size (fun (_:Unit) W=>Ax a x a' W))
  (hassign:∀ (l:Nat) (pre:List α) (x:α) (W0 W:World) (K:Act→World→Prop),I pre W0→V x W0 W→I pre W→(∀ a' W',KeepsFrom w.heap.size W W'→Kp W W'→I pre W'→Ax a x a' W'→K a' W') →
   assign.wpIn (F.inRound l) (n-1-1) P (Exit.then K (fun _ _ _=>False)) { tmps:=(ps.zip (encs x)).foldl (fun t (p,v)=>t.setIfInBounds p v) a.tmps,defers:=[] } W)
  (hbody:∀ (l:Nat) (pre:List α) (x:α) (a':Act) (W:World),w.heap.size≤l→(∃ r,W.heap[l]?=some (.loop r))→I pre W→Ax a x a' W→pre.length<N→body.wpIn (F.inRound l) (n-1-1) P (ownPostG w.heap.size Kp I Ix (pre++[x]) W) a' W)
  (hdone:∀ (D:Nat) (xs:List α) (W:World),w.heap.size≤D→S xs→I xs W→W.heap[D]?=some (.deferred (some []))→Q .normal { a with defers:={ target:=.collected D,args:=#[] }::a.defers } W)
  (hstop:∀ (D:Nat) (c:Code) (pre:List α) (W:World),w.heap.size≤D→Sp pre→Ix c pre W→W.heap[D]?=some (.deferred (some []))→c.wpIn F n P Q { a with defers:={ target:=.collected D,args:=#[] }::a.defers } W) :
  (Code.rangeFunc g ps assign body).wpIn F n P Q a w:=by
 refine wpIn_rangeFunc fun fn hfn=>?_
 rw [hro];have he:=run_enterLoop_outer (P:=P) (w:=w) fn a.tmps ps assign body;generalize hr:({ state:=.ready,pending:=none,fn,tmps:=a.tmps,params:=ps,assign,body,defers:=w.heap.size }:Loop)=r at he;obtain ⟨e1,e2,e3,e4,e5,e6,e7⟩:r.state=.ready∧r.pending=none∧r.fn=fn∧r.tmps=a.tmps∧r.params=ps∧r.assign=assign∧r.body=body:=by rw [←hr];exact ⟨rfl,rfl,rfl,rfl,rfl,rfl,rfl⟩
 clear hr;generalize hW:(w.alloc (.deferred (some []))).alloc (.loop r)=W1 at he;have hb:Bl w W1:=by rw [←hW];exact ((Bl.refl w).alloc _).alloc _
 have hl:W1.heap[w.heap.size+1]?=some (.loop r):=by
  rw [←hW];have:=World.alloc_heap_new (w.alloc (.deferred (some []))) (.loop r);rwa [World.size_alloc] at this
 have hd:W1.heap[w.heap.size]?=some (.deferred (some [])):=by rw [←hW];exact (Below.heap_alloc _ _ _ (by simp)).trans (World.alloc_heap_new w _)
 refine ⟨_,_,_,{ target:=.fn (.func gf) lb,args:=#[.func (.yield (w.heap.size+1)) #[] #[]] },W1,gf,#[.func (.yield (w.heap.size+1)) #[] #[]]++lb,W1,he,?_,?_,?_,fun _=>h1,?_⟩
 ·simp only [resolve,hg];simp [go_sem]
 ·intro f' hf';simp [Target.leads] at hf';subst hf';exact hFg
 ·simp [invoke,go_sem,eg]
 ·refine (rv_run (Kp:=Kp) (Ax:=Ax a) (Nat.le_succ _) hb hb.size e1 e2 (e3▸hfn) hseq hV (by rw [e5];exact hps) hKt hKb hI hIx hAx hl (own_later hI hb h0) w.heap.size (.deferred (some [])) (Nat.le_refl _) (by omega) (.inl hd) rfl rfl
   (by rw [e4,e5,e6];exact fun pre x W0 W K=>hassign _ pre x W0 W K) (by rw [e7];exact fun pre x a' W h=>hbody _ pre x a' W (Nat.le_succ _) h)).mono ?_
  rintro e W' ⟨⟨v,rfl⟩,(⟨xs,h1,h2,h3,h4⟩|⟨pre,c,h1,h2,h3,h4⟩)⟩
  ·have hq:=run_endLoop (P:=P) h3 (by rw [e1];decide);rw [e2] at hq;exact ⟨none,_,hq,hdone _ xs _ (Nat.le_refl _) h1 (hI.putObj _ h2 (Nat.le_succ _) h3 rfl) ((World.putObj_heap_other (by omega)).trans (h4 hd))⟩
  ·have hq:=run_endLoop (P:=P) h3 (by simp [recOf]);exact ⟨some c,_,hq,hstop _ c pre _ (Nat.le_refl _) h1 ((hIx c).putObj _ h2 (Nat.le_succ _) h3 rfl) ((World.putObj_heap_other (by omega)).trans (h4 hd))⟩
theorem rangeVin {α:Type} {F:Fence} {n:Nat} {P:Program} {l₀:Nat} {r₀:Loop} {g:Operand} {ps:Array Tmp} {assign body:Code} {Q:Exit→Act→World→Prop} {a:Act} {w:World}
  (hro:F.round=some l₀) (hl₀:w.heap[l₀]?=some (.loop r₀)) (h1:1≤n) {gf:Nat} {lb:Array Value} (hg:a.eval g=.func (.func gf) #[] lb) (hFg:F.fn gf) (eg:∀ args w,(callFunc gf args).run P w=.ok (.enter gf args) w)
  {encs:α→Array Value} {V:α→World→World→Prop} {Kp:World→World→Prop} {S Sp:List α→Prop} {N:Nat} (hseq:SeqV F (n-1) P gf lb encs V Kp S Sp N w) (hV:∀ x A B,V x A B→Bl A B)
  (hKt:∀ {A B C:World},Kp A B→Kp B C→Kp A C) (hKb:∀ (W:World) (l:Nat) (o o':Obj),w.heap.size≤l→W.heap[l]?=some o→o.isCells=false→o.isWalk=false→Kp W (W.putObj l o')) (hps:∀ x,(encs x).size=ps.size)
  (I:List α→World→Prop) (Ix:Code→List α→World→Prop) (hI:OwnFrom w.heap.size I) (hIx:∀ c,OwnFrom w.heap.size (Ix c)) (h0:I [] w) (Ax:Act→α→Act→World→Prop) (hAx:∀ x a',OwnFrom w.heap.size (fun (_:Unit) W=>Ax a x a' W))
  (hassign:∀ (l:Nat) (pre:List α) (x:α) (W0 W:World) (K:Act→World→Prop),I pre W0→V x W0 W→I pre W→(∀ a' W',KeepsFrom w.heap.size W W'→Kp W W'→I pre W'→Ax a x a' W'→K a' W') →
   assign.wpIn (F.inRound l) (n-1-1) P (Exit.then K (fun _ _ _=>False)) { tmps:=(ps.zip (encs x)).foldl (fun t (p,v)=>t.setIfInBounds p v) a.tmps,defers:=[] } W)
  (hbody:∀ (l:Nat) (pre:List α) (x:α) (a':Act) (W:World),w.heap.size≤l→(∃ r,W.heap[l]?=some (.loop r))→I pre W→Ax a x a' W→pre.length<N→body.wpIn (F.inRound l) (n-1-1) P (ownPostG w.heap.size Kp I Ix (pre++[x]) W) a' W)
  (hdone:∀ (xs:List α) (W:World),S xs→I xs W→Q .normal a W)
  (hstop:∀ (c:Code) (pre:List α) (W:World),Sp pre→Ix c pre W→c.wpIn F n P Q a W) :
  (Code.rangeFunc g ps assign body).wpIn F n P Q a w:=by
 refine wpIn_rangeFunc fun fn hfn=>?_
 rw [hro];have he:=run_enterLoop_inner (P:=P) hl₀ fn a.tmps ps assign body;generalize hr:({ state:=.ready,pending:=none,fn,tmps:=a.tmps,params:=ps,assign,body,defers:=r₀.defers }:Loop)=r at he;obtain ⟨e1,e2,e3,e4,e5,e6,e7⟩:r.state=.ready∧r.pending=none∧r.fn=fn∧r.tmps=a.tmps∧r.params=ps∧r.assign=assign∧r.body=body:=by rw [←hr];exact ⟨rfl,rfl,rfl,rfl,rfl,rfl,rfl⟩
 clear hr;generalize hW:w.alloc (.loop r)=W1 at he;have hb:Bl w W1:=by rw [←hW];exact (Bl.refl w).alloc _
 have hl:W1.heap[w.heap.size]?=some (.loop r):=by rw [←hW];exact World.alloc_heap_new w _
 have hs1:W1.heap.size=w.heap.size+1:=by rw [←hW];simp
 refine ⟨_,_,_,{ target:=.fn (.func gf) lb,args:=#[.func (.yield w.heap.size) #[] #[]] },W1,gf,#[.func (.yield w.heap.size) #[] #[]]++lb,W1,he,?_,?_,?_,fun _=>h1,?_⟩
 ·simp only [resolve,hg];simp [go_sem]
 ·intro f' hf';simp [Target.leads] at hf';subst hf';exact hFg
 ·simp [invoke,go_sem,eg]
 ·refine (rv_run (Kp:=Kp) (Ax:=Ax a) (Nat.le_refl _) hb hb.size e1 e2 (e3▸hfn) hseq hV (by rw [e5];exact hps) hKt hKb hI hIx hAx hl (own_later hI hb h0) (w.heap.size+1) (.deferred (some [])) (Nat.le_succ _) (by omega) (.inr (by omega)) rfl rfl
   (by rw [e4,e5,e6];exact fun pre x W0 W K=>hassign _ pre x W0 W K) (by rw [e7];exact fun pre x a' W h=>hbody _ pre x a' W (Nat.le_refl _) h)).mono ?_
  rintro e W' ⟨⟨v,rfl⟩,(⟨xs,h1,h2,h3,_⟩|⟨pre,c,h1,h2,h3,_⟩)⟩
  ·have hq:=run_endLoop (P:=P) h3 (by rw [e1];decide);rw [e2] at hq;exact ⟨none,_,hq,hdone xs _ h1 (hI.putObj _ h2 (Nat.le_refl _) h3 rfl)⟩
  ·have hq:=run_endLoop (P:=P) h3 (by simp [recOf]);exact ⟨some c,_,hq,hstop c pre _ h1 ((hIx c).putObj _ h2 (Nat.le_refl _) h3 rfl)⟩
theorem rw_own {α:Type} {s:Nat} {c:α→List Value} {X Y:World} {v:Value} {xs:List α} {row:Option Nat} (h:Rw s c X v xs) (hg:X.grownBy Y row) (hr:∀ r,row=some r→∃ o:Obj,X.heap[r]?=some o∧o.isCells=false):Rw s c Y v xs:=by
 rcases h with h|⟨b,o,cap,rfl,hc,hb,hx⟩
 ·exact .inl h
 ·exact .inr ⟨b,o,cap,rfl,hc,Nat.lt_of_lt_of_le hb hg.size,fun j x hj k u hu=>cell_kept (hx j x hj k u hu) hg hr⟩
theorem Rw.beside {α:Type} {s:Nat} {c:α→List Value} {u w5:World} {B:Nat} {v v':Value} {xs:List α} {row:Option Nat} (h:Rw s c u v xs) (hg:u.grownBy w5 row) (hne:∀ g,v.ownBlock=some g→row≠some g∧g≠B):Rw s c (w5.setCell ⟨B,0,none⟩ v') v xs:=by
 rcases h with h|⟨b,o,cap,rfl,hc,hb,hx⟩
 ·exact .inl h
 ·have h1:=hne b rfl;have hk:(w5.setCell ⟨B,0,none⟩ v').heap[b]?=u.heap[b]?:=(Below.heap_setCell _ _ _ b (by show b≠B;exact h1.2)).trans (hg.block b hb (fun e=>h1.1 e.symm));exact .inr ⟨b,o,cap,rfl,hc,by have:=hg.size;simp;omega,fun j x hj k v hv=>(World.cell?_of_block (a:=⟨b,o+j*s+k,none⟩) hk).trans (hx j x hj k v hv)⟩
theorem own_span {β:Type} {B lo hi:Nat} {w₀:World} (hh:hi≤B) (hB:B≤w₀.heap.size):OwnFrom B (fun (_:β) W=>Span lo hi w₀ W):=by
 intro _ X Y row hs hg hr;refine ⟨Nat.le_trans hs.size hg.size,fun k h1 h2=>(hg.block k (by have:=hs.size;omega) (fun e=>?_)).trans (hs.block k h1 h2)⟩;have:=(hr k e.symm).1;omega
theorem own_size {β:Type} (B n:Nat):OwnFrom B (fun (_:β) (W:World)=>n≤W.heap.size):=fun _ _ _ _ h hg _=>Nat.le_trans h hg.size
theorem own_rw {α β:Type} (B s:Nat) (c:α→List Value) (v:Value) (xs:List α):OwnFrom B (fun (_:β) W=>Rw s c W v xs):=fun _ _ _ _ h hg hr=>rw_own h hg (fun r e=>(hr r e).2)
def rowM {α:Type} (C:Nat) (f:Nat→Nat→α) (i:Nat):List α:=(List.range C).map (f i)
def colM {α:Type} (R:Nat) (f:Nat→Nat→α) (k:Nat):List α:=(List.range R).map (fun i=>f i k)
def mk {α:Type} (R C:Nat) (f:Nat→Nat→α):List α:=(List.range R).flatMap (rowM C f)
theorem rowM_len {α:Type} (C:Nat) (f:Nat→Nat→α) (i:Nat):(rowM C f i).length=C:=by simp [rowM]
theorem colM_len {α:Type} (R:Nat) (f:Nat→Nat→α) (i:Nat):(colM R f i).length=R:=by simp [colM]
theorem mk_succ {α:Type} (R C:Nat) (f:Nat→Nat→α):mk (R+1) C f=mk R C f++rowM C f R:=by simp [mk,List.range_succ]
theorem mk_zero {α:Type} (C:Nat) (f:Nat→Nat→α):mk 0 C f=[]:=rfl
theorem mk_len {α:Type} (R C:Nat) (f:Nat→Nat→α):(mk R C f).length=R*C:=by
 induction R with
 |zero=>simp [mk]
 |succ R ih=>rw [mk_succ,List.length_append,ih,rowM_len,Nat.succ_mul]
theorem rowM_succ {α:Type} (C:Nat) (f:Nat→Nat→α) (i:Nat):rowM (C+1) f i=rowM C f i++[f i C]:=by simp [rowM,List.range_succ]
theorem rowM_get {α:Type} {C:Nat} (f:Nat→Nat→α) (i:Nat) {k:Nat} (h:k<C):(rowM C f i)[k]?=some (f i k):=by simp [rowM,h]
theorem mk_get {α:Type} {R C:Nat} (f:Nat→Nat→α) {i k:Nat} (hi:i<R) (hk:k<C):(mk R C f)[i*C+k]?=some (f i k):=by
 induction R with
 |zero=>omega
 |succ R ih =>
  rw [mk_succ];by_cases h:i<R
  ·rw [List.getElem?_append_left (by rw [mk_len];calc i*C+k<i*C+C:=by omega
    _=(i+1)*C:=by rw [Nat.succ_mul]
    _≤R*C:=Nat.mul_le_mul_right _ h)]
   exact ih h
  ·obtain rfl:i=R:=by omega
   rw [List.getElem?_append_right (by rw [mk_len];omega),mk_len,Nat.add_sub_cancel_left];exact rowM_get f i hk
theorem mk_idx {R C i k:Nat} (hi:i<R) (hk:k<C):i*C+k<R*C:=by
 calc i*C+k<i*C+C:=by omega
  _=(i+1)*C:=by rw [Nat.succ_mul]
  _≤R*C:=Nat.mul_le_mul_right _ hi
theorem mk_row {α:Type} {R C:Nat} (f:Nat→Nat→α) {i:Nat} (hi:i<R):((mk R C f).drop (i*C)).take C=rowM C f i:=by
 refine List.ext_getElem? fun k=>?_
 rw [List.getElem?_take];by_cases hk:k<C
 ·rw [if_pos hk,List.getElem?_drop,mk_get f hi hk,rowM_get f i hk]
 ·rw [if_neg hk];have:(rowM C f i)[k]?=none:=by rw [List.getElem?_eq_none_iff,rowM_len];omega
  rw [this]
theorem mk_ext {α:Type} {R C:Nat} (f:Nat→Nat→α) (xs:List α) (hl:xs.length=R*C) (h:∀ i k,i<R→k<C→xs[i*C+k]?=some (f i k)):xs=mk R C f:=by
 refine List.ext_getElem? fun j=>?_
 by_cases hj:j<R*C
 ·have hC : 0 < C := by rcases Nat.eq_zero_or_pos C with h0 | h0; · subst h0; simp at hj
                        · exact h0
  have hi:j/C<R:=(Nat.div_lt_iff_lt_mul hC).2 hj;have hk:j % C<C:=Nat.mod_lt _ hC;have e:j/C*C+j % C=j:=by rw [Nat.mul_comm];exact Nat.div_add_mod j C
  have h1:=h _ _ hi hk;have h2:=mk_get f hi hk;rw [e] at h1 h2;rw [h1,h2]
 ·rw [List.getElem?_eq_none_iff.2 (by omega),List.getElem?_eq_none_iff.2 (by rw [mk_len];omega)]
theorem mk_of {α:Type} {R C:Nat} (d:α) (xs:List α) (hl:xs.length=R*C):xs=mk R C (fun i k=>xs.getD (i*C+k) d):=
 mk_ext _ xs hl fun i k hi hk=>by
  have:=mk_idx hi hk;simp [List.getElem?_eq_getElem (show i*C+k<xs.length by omega)]
theorem mk_congr {α:Type} {R C:Nat} {f g:Nat→Nat→α} (h:∀ i k,i<R→k<C→f i k=g i k):mk R C f=mk R C g:=
 mk_ext _ _ (mk_len R C f) fun i k hi hk=>by rw [mk_get f hi hk,h i k hi hk]
theorem mk_map {α β:Type} {R C:Nat} (f:Nat→Nat→α) (g:α→β):(mk R C f).map g=mk R C (fun i k=>g (f i k)):=
 mk_ext _ _ (by rw [List.length_map,mk_len]) fun i k hi hk=>by rw [List.getElem?_map,mk_get f hi hk];rfl
theorem mk_zip {α β γ:Type} {R C:Nat} (op:α→β→γ) (f:Nat→Nat→α) (g:Nat→Nat→β):List.zipWith op (mk R C f) (mk R C g)=mk R C (fun i k=>op (f i k) (g i k)):=
 mk_ext _ _ (by rw [List.length_zipWith,mk_len,mk_len,Nat.min_self]) fun i k hi hk=>by rw [List.getElem?_zipWith,mk_get f hi hk,mk_get g hi hk]
def besideM {α:Type} (C:Nat) (f g:Nat→Nat→α) (i k:Nat):α:=if k<C then f i k else g i (k-C)
theorem rowM_beside {α:Type} (C D:Nat) (f g:Nat→Nat→α) (i:Nat):rowM (C+D) (besideM C f g) i=rowM C f i++rowM D g i:=by
 refine List.ext_getElem? fun k=>?_
 by_cases h:k<C
 ·rw [rowM_get _ _ (by omega),List.getElem?_append_left (by rw [rowM_len];exact h),rowM_get _ _ h];simp [besideM,h]
 ·rw [List.getElem?_append_right (by rw [rowM_len];omega),rowM_len];by_cases h2:k<C+D
  ·rw [rowM_get _ _ h2,rowM_get _ _ (by omega)];simp [besideM,h]
  ·rw [List.getElem?_eq_none_iff.2 (by rw [rowM_len];omega),List.getElem?_eq_none_iff.2 (by rw [rowM_len];omega)]
structure Dim (R C:Nat):Prop where
 r1:1≤R
 r2:R≤16
 c1:1≤C
 c2:C≤16
theorem Dim.turn {R C:Nat} (h:Dim R C):Dim C R:=⟨h.c1,h.c2,h.r1,h.r2⟩
theorem Dim.lt {R C:Nat} (h:Dim R C):R*C≤256:=Nat.mul_le_mul h.r2 h.c2
def fitB (r c n:Int):Bool:=decide (1≤r∧r≤16∧1≤c∧c≤16∧n=r*c)
theorem fitB_nat {r c:Int} {n:Nat} (h:fitB r c n=true):∃ R C:Nat,r=R∧c=C∧Dim R C∧n=R*C:=by
 obtain ⟨h1,h2,h3,h4,h5⟩:=of_decide_eq_true h;refine ⟨r.toNat,c.toNat,by omega,by omega,⟨by omega,by omega,by omega,by omega⟩,?_⟩;have e1:(r.toNat:Int)=r:=by omega
 have e2:(c.toNat:Int)=c:=by omega
 rw [←e1,←e2,←Int.natCast_mul] at h5;exact Int.ofNat.inj h5
theorem fitB_dim {R C n:Nat} (h:Dim R C) (hn:n=R*C):fitB R C n=true:=by
 obtain ⟨h1,h2,h3,h4⟩:=h;subst hn;exact decide_eq_true ⟨by omega,by omega,by omega,by omega,Int.natCast_mul R C⟩
def mirM {α:Type} (f:Nat→Nat→α) (i k:Nat):α:=f (max i k) (min i k)
def sideB (n:Int):Bool:=decide (1≤n∧n≤16)
theorem side_any (n:Int) (w:World):Calls Tryz.prog 84 #[.int .i64 n] w fun e w'=>e=.returned (.bool (sideB n))∧w'=w:=by
 by_cases h:1≤n
 ·by_cases h2:n≤16
  ·go_enter Tryz.func84,Tryz.ntmps84;go_wp2;go_ret;exact ⟨by simp [sideB,h,h2],rfl⟩
  ·go_enter Tryz.func84,Tryz.ntmps84;go_wp2;go_ret;exact ⟨by simp [sideB,h,h2],rfl⟩
 ·go_enter Tryz.func84,Tryz.ntmps84;go_wp2;go_ret;exact ⟨by simp [sideB];omega,rfl⟩
def amongB (i n:Int):Bool:=decide (0≤i∧i<n)
theorem among_any (i n:Int) (w:World):Calls Tryz.prog 81 #[.int .i64 i,.int .i64 n] w fun e w'=>e=.returned (.bool (amongB i n))∧w'=w:=by
 by_cases h:0≤i
 ·by_cases h2:i<n
  ·go_enter Tryz.func81,Tryz.ntmps81;go_wp2;go_ret;exact ⟨by simp [amongB,h,h2],rfl⟩
  ·go_enter Tryz.func81,Tryz.ntmps81;go_wp2;go_ret;exact ⟨by simp [amongB,h,h2],rfl⟩
 ·go_enter Tryz.func81,Tryz.ntmps81;go_wp2;go_ret;exact ⟨by simp [amongB];omega,rfl⟩
theorem mul_16 {r c:Int} (h1:1≤r) (h2:r≤16) (h3:1≤c) (h4:c≤16):0≤r*c∧r*c≤256:=
 ⟨Int.mul_nonneg (by omega) (by omega),Int.mul_le_mul h2 h4 (by omega) (by omega)⟩
theorem fits_any (r c n:Int) (w:World):Calls Tryz.prog 40 #[.int .i64 r,.int .i64 c,.int .i64 n] w fun e w'=>e=.returned (.bool (fitB r c n))∧w'=w:=by
 by_cases h:1≤r∧r≤16
 ·have hs:sideB r=true:=decide_eq_true h;by_cases h2:1≤c∧c≤16
  ·have hs2:sideB c=true:=decide_eq_true h2;have hm:=mul_16 h.1 h.2 h2.1 h2.2;have hf:fitB r c n=decide (n=r*c):=by simp [fitB,h,h2]
   rw [hf];generalize hq:r*c=q at *;have hw:wrap64 q=q:=by unfold wrap64;omega
   clear hf
   go_enter Tryz.func40,Tryz.ntmps40;go_wp2_with fail
   refine (side_any _ _).mono ?_;rintro e w1 ⟨rfl,rfl⟩;rw [hs];go_wp2_with fail
   refine (side_any _ _).mono ?_;rintro e w1 ⟨rfl,rfl⟩;rw [hs2];go_wp2;go_ret;exact ⟨by simp only [hq,hw];rw [show (n==q)=decide (n=q) from rfl];rfl,rfl⟩
  ·have hs2:sideB c=false:=decide_eq_false h2;have hf:fitB r c n=false:=by simp [fitB];omega
   rw [hf]
   go_enter Tryz.func40,Tryz.ntmps40;go_wp2_with fail
   refine (side_any _ _).mono ?_;rintro e w1 ⟨rfl,rfl⟩;rw [hs];go_wp2_with fail
   refine (side_any _ _).mono ?_;rintro e w1 ⟨rfl,rfl⟩;rw [hs2];go_wp2;go_ret;exact ⟨rfl,rfl⟩
 ·have hs:sideB r=false:=decide_eq_false h;have hf:fitB r c n=false:=by simp [fitB];omega
  rw [hf]
  go_enter Tryz.func40,Tryz.ntmps40;go_wp2_with fail
  refine (side_any _ _).mono ?_;rintro e w1 ⟨rfl,rfl⟩;rw [hs];go_wp2;go_ret;exact ⟨rfl,rfl⟩
abbrev mV (r c:Int) (p:Option Addr) (n cap:Nat):Value:=.agg #[.int .i64 r,.int .i64 c,.slice p n cap]
structure MBox (w:World) (b:Nat) (r c:Int) (p:Option Addr) (n cap:Nat):Prop where
 c0:w.cell? ⟨b,0,none⟩=some (.int .i64 r)
 c1:w.cell? ⟨b,1,none⟩=some (.int .i64 c)
 c2:w.cell? ⟨b,2,none⟩=some (.slice p n cap)
 f0:w.frozen? ⟨b,0,none⟩=false
 f1:w.frozen? ⟨b,1,none⟩=false
 f2:w.frozen? ⟨b,2,none⟩=false
 lt:b<w.heap.size
theorem MBox.later {w w':World} {b:Nat} {r c:Int} {p:Option Addr} {n cap:Nat} (h:MBox w b r c p n cap) (k:Bl w w'):MBox w' b r c p n cap:=by
 have:=h.lt;refine ⟨?_,?_,?_,?_,?_,?_,by have:=Below.size k;omega⟩
 ·rw [bl_cell k _ _ this];exact h.c0
 ·rw [bl_cell k _ _ this];exact h.c1
 ·rw [bl_cell k _ _ this];exact h.c2
 ·rw [bl_froz k _ _ this];exact h.f0
 ·rw [bl_froz k _ _ this];exact h.f1
 ·rw [bl_froz k _ _ this];exact h.f2
theorem MBox.new (w:World) (r c:Int) (p:Option Addr) (n cap:Nat) (t:TypeId):MBox (w.alloc (.cells #[.int .i64 r,.int .i64 c,.slice p n cap] t)) w.heap.size r c p n cap:=by
 refine ⟨?_,?_,?_,?_,?_,?_,by simp⟩<;>simp [go_sem]
theorem Bl.put3 {a b:World} (h:Bl a b) {n:Nat} (hn:a.heap.size≤n) (v0 v1 v2:Value):Bl a (((b.setCell ⟨n,0,none⟩ v0).setCell ⟨n,1,none⟩ v1).setCell ⟨n,2,none⟩ v2):=
 Bl.set (Bl.set (Bl.set h hn _) hn _) hn _
theorem MBox.fill {u:World} {b:Nat} {r c:Int} {p:Option Addr} {n cap:Nat} (h:MBox u b r c p n cap) (r' c':Int) (p':Option Addr) (n' cap':Nat) :
  MBox (((u.setCell ⟨b,0,none⟩ (.int .i64 r')).setCell ⟨b,1,none⟩ (.int .i64 c')).setCell ⟨b,2,none⟩ (.slice p' n' cap')) b r' c' p' n' cap':=by
 obtain ⟨c0,c1,c2,f0,f1,f2,lt⟩:=h;refine ⟨?_,?_,?_,?_,?_,?_,?_⟩<;>simp [go_sem, *]
theorem MBox.span {w w':World} {b lo hi:Nat} {r c:Int} {p:Option Addr} {n cap:Nat} (h:MBox w b r c p n cap) (k:Span lo hi w w') (h1:lo≤b) (h2:b<hi):MBox w' b r c p n cap:=
 ⟨(k.cell _ _ h1 h2).trans h.c0,(k.cell _ _ h1 h2).trans h.c1,(k.cell _ _ h1 h2).trans h.c2,
  (World.frozen?_of_block (a:=⟨b,0,none⟩) (k.block b h1 h2)).trans h.f0,(World.frozen?_of_block (a:=⟨b,1,none⟩) (k.block b h1 h2)).trans h.f1,(World.frozen?_of_block (a:=⟨b,2,none⟩) (k.block b h1 h2)).trans h.f2,by have:=h.lt;have:=k.size;omega⟩
theorem Rq.part {α:Type} {s:Nat} {c:α→List Value} {w:World} {b o n cap lo m:Nat} {xs:List α} (h:Rq s c w (.slice (some ⟨b,o,none⟩) n cap) xs) (hn:xs.length=n) (hlo:lo+m≤n) (hm:0<m) (cap':Nat) (hc':m≤cap') :
  Rq s c w (.slice (some ⟨b,o+lo*s,none⟩) m cap') ((xs.drop lo).take m):=by
 rcases h with ⟨p,cap0,e,rfl,_⟩|⟨b0,o0,cap0,e,hc,hb,hx⟩
 ·simp at hn;omega
 ·cases e;refine .inr ⟨b,o+lo*s,cap',by simp;omega,by simp;omega,hb,fun j x hj k u hu=>?_⟩;rw [List.getElem?_take] at hj;split at hj
  ·rw [List.getElem?_drop] at hj;have:=hx _ x hj k u hu;rw [show o+lo*s+j*s+k=o+(lo+j)*s+k by rw [Nat.add_mul];omega];exact this
  ·cases hj
def Mx {α:Type} (s:Nat) (c:α→List Value) (w:World) (R C:Nat) (p:Option Addr) (n cap:Nat) (f:Nat→Nat→α):Prop:=Dim R C∧n=R*C∧Rq s c w (.slice p n cap) (mk R C f)
theorem Mx.later {α:Type} {s:Nat} {c:α→List Value} {w w':World} {R C:Nat} {p:Option Addr} {n cap:Nat} {f:Nat→Nat→α} (h:Mx s c w R C p n cap f) (k:Bl w w'):Mx s c w' R C p n cap f:=⟨h.1,h.2.1,h.2.2.later k⟩
theorem Mx.fit {α:Type} {s:Nat} {c:α→List Value} {w:World} {R C:Nat} {p:Option Addr} {n cap:Nat} {f:Nat→Nat→α} (h:Mx s c w R C p n cap f):fitB R C n=true:=fitB_dim h.1 h.2.1
theorem Mx.pos {R C n:Nat} (h:Dim R C) (hn:n=R*C):0<n:=by subst hn;exact Nat.mul_pos h.r1 h.c1
theorem Mx.cells {α:Type} {s:Nat} {c:α→List Value} {w:World} {R C:Nat} {p:Option Addr} {n cap:Nat} {f:Nat→Nat→α} (h:Mx s c w R C p n cap f) :
  ∃ b o,p=some ⟨b,o,none⟩∧n≤cap∧b<w.heap.size∧∀ i k,i<R→k<C→∀ j u,(c (f i k))[j]?=some u→w.cell? ⟨b,o+(i*C+k)*s+j,none⟩=some u:=by
 obtain ⟨hd,hn,h⟩:=h;have h0:=Mx.pos hd hn;rcases h with ⟨p',cap',e,e2,_⟩|⟨b,o,cap',e,hc,hb,hx⟩
 ·have:=mk_len R C f;rw [e2] at this;simp at this;omega
 ·cases e;refine ⟨b,o,rfl,by rw [mk_len] at hc;omega,hb,fun i k hi hk j u hu=>hx _ _ (mk_get f hi hk) j u hu⟩
theorem amongB_t {i n:Nat} (h:i<n):amongB i n=true:=decide_eq_true ⟨by omega,by omega⟩
theorem place {R C i k:Nat} (h:Dim R C) (hi:i<R) (hk:k<C):∃ a q:Nat,a=i*C∧q=i*C+k∧(i:Int)*(C:Int)=a∧(a:Int)+(k:Int)=q∧q<R*C∧a≤256:=
 ⟨i*C,i*C+k,rfl,rfl,by simp,by simp,mk_idx hi hk,by have:=mk_idx hi hk;have:=h.lt;omega⟩
theorem places {R C i:Nat} (h:Dim R C) (hi:i<R):∃ a e:Nat,a=i*C∧e=a+C∧(i:Int)*(C:Int)=a∧((i:Int)+1)*(C:Int)=e∧e≤R*C∧a≤256∧e≤256:=by
 have h1:(i+1)*C≤R*C:=Nat.mul_le_mul_right _ hi;have h2:=h.lt;rw [Nat.succ_mul] at h1;exact ⟨i*C,i*C+C,rfl,rfl,by simp,by rw [Int.add_mul];simp,h1,by omega,by omega⟩
theorem mbox_block {w w':World} {b:Nat} {r c:Int} {p:Option Addr} {n cap:Nat} (h:MBox w b r c p n cap) (hk:w'.heap[b]?=w.heap[b]?) (hs:w.heap.size≤w'.heap.size):MBox w' b r c p n cap:=
 ⟨(World.cell?_of_block (a:=⟨b,0,none⟩) hk).trans h.c0,(World.cell?_of_block (a:=⟨b,1,none⟩) hk).trans h.c1,(World.cell?_of_block (a:=⟨b,2,none⟩) hk).trans h.c2,(World.frozen?_of_block (a:=⟨b,0,none⟩) hk).trans h.f0,(World.frozen?_of_block (a:=⟨b,1,none⟩) hk).trans h.f1,(World.frozen?_of_block (a:=⟨b,2,none⟩) hk).trans h.f2,by have:=h.lt;omega⟩
theorem MBox.grown {n₀ m b s:Nat} {e:TypeId} {w w1:World} {v:Value} {l:List Value} {r c:Int} {p:Option Addr} {n cap:Nat} (h:MBox w b r c p n cap) (hown:w.ownsRow n₀ e s v m l) (hg:w.grownBy w1 v.ownBlock) (hb:b<n₀):MBox w1 b r c p n cap:=
 mbox_block h (hg.block b h.lt (fun e=>by have:=(hown.lt b e.symm).1;omega)) hg.size
theorem own_more {α:Type} {s n₀:Nat} {t:TypeId} {c:α→List Value} {w wr w1:World} {v v':Value} {xs ys:List α} {m:Nat} (hb:Bl w wr) (hn:w.heap.size≤n₀) (hown:wr.ownsRow n₀ t s v xs.length (xs.flatMap c))
  (hown':w1.ownsRow n₀ t s v' (xs.length+m) (xs.flatMap c++ys.flatMap c)) (hm:ys.length=m) (hg:wr.grownBy w1 v.ownBlock) :
  Bl w w1∧w1.ownsRow n₀ t s v' (xs++ys).length ((xs++ys).flatMap c):=by
 refine ⟨Below.grown hb hg hb.size (fun k hk=>by have:=(hown.lt k hk).1;omega),?_⟩;subst hm;simpa [List.flatMap_append] using hown'
structure KeptIn {α:Type} (s:Nat) (c:α→List Value) (w:World) (lo hi B R C:Nat) (p:Option Addr) (n cap:Nat) (f:Nat→Nat→α):Prop where
 hd:Dim R C
 hn:n=R*C
 box:MBox w B R C p n cap
 h1:lo≤B
 h2:B<hi
 row:Rw s c w (.slice p n cap) (mk R C f)
 own:∀ g,(Value.slice p n cap).ownBlock=some g→lo≤g∧g<hi
theorem KeptIn.later {α:Type} {s:Nat} {c:α→List Value} {w w':World} {lo hi B R C:Nat} {p:Option Addr} {n cap:Nat} {f:Nat→Nat→α} (h:KeptIn s c w lo hi B R C p n cap f) (k:Span lo hi w w'):KeptIn s c w' lo hi B R C p n cap f:=
 ⟨h.hd,h.hn,h.box.span k h.h1 h.h2,h.h1,h.h2,h.row.span h.own k,h.own⟩
theorem KeptIn.mx {α:Type} {s:Nat} {c:α→List Value} {w:World} {lo hi B R C:Nat} {p:Option Addr} {n cap:Nat} {f:Nat→Nat→α} (h:KeptIn s c w lo hi B R C p n cap f):Mx s c w R C p n cap f:=⟨h.hd,h.hn,h.row.q⟩
abbrev RowX:=Nat×Option Addr×Nat
abbrev rowV (C:Nat) (x:RowX):Value:=.slice x.2.1 C x.2.2
def RowOk {α:Type} (s:Nat) (c:α→List Value) (R C:Nat) (f:Nat→Nat→α) (x:RowX) (W0 W:World):Prop:=
 Bl W0 W∧x.1<R∧Rw s c W (rowV C x) (rowM C f x.1)∧Fresh W0.heap.size (rowV C x)∧C≤x.2.2
theorem range_pre {k R:Nat} (h:k≤R):List.range k <+: List.range R:=by
 obtain ⟨d,rfl⟩:=Nat.exists_eq_add_of_le h;rw [List.range_add];exact List.prefix_append _ _
def rowsL {α:Type} (D:Nat) (h:Nat→Nat→α) (pre:List RowX):List α:=pre.flatMap fun x=>rowM D h x.1
theorem rowsL_snoc {α:Type} (D:Nat) (h:Nat→Nat→α) (pre:List RowX) (x:RowX):rowsL D h (pre++[x])=rowsL D h pre++rowM D h x.1:=by simp [rowsL]
theorem rowsL_all {α:Type} {R:Nat} (D:Nat) (h:Nat→Nat→α) (zs:List RowX) (e:zs.map (·.1)=List.range R):rowsL D h zs=mk R D h:=by
 unfold rowsL mk;rw [←e,List.flatMap_map]
theorem rowsL_len {α:Type} (D:Nat) (h:Nat→Nat→α) (pre:List RowX):(rowsL D h pre).length=pre.length*D:=by
 induction pre with
 |nil=>simp [rowsL]
 |cons x pre ih=>unfold rowsL at ih ⊢;rw [List.flatMap_cons,List.length_append,ih,rowM_len,List.length_cons,Nat.succ_mul];omega
theorem cols_all {α:Type} {D:Nat} (h:Nat→Nat→α) (i:Nat) (zs:List RowX) (e:zs.map (·.1)=List.range D):zs.map (fun y=>h i y.1)=rowM D h i:=by
 unfold rowM;rw [←e,List.map_map];rfl
def partL {α:Type} (D:Nat) (h:Nat→Nat→α) (pre:List RowX) (i:Nat) (pre2:List RowX):List α:=rowsL D h pre++pre2.map (fun y=>h i y.1)
theorem partL_nil {α:Type} (D:Nat) (h:Nat→Nat→α) (pre:List RowX) (i:Nat):partL D h pre i []=rowsL D h pre:=by simp [partL]
theorem partL_snoc {α:Type} (D:Nat) (h:Nat→Nat→α) (pre:List RowX) (i:Nat) (pre2:List RowX) (y:RowX):partL D h pre i (pre2++[y])=partL D h pre i pre2++[h i y.1]:=by simp [partL]
theorem partL_all {α:Type} (D:Nat) (h:Nat→Nat→α) (pre:List RowX) (x:RowX) (zs:List RowX) (e:zs.map (·.1)=List.range D):partL D h pre x.1 zs=rowsL D h (pre++[x]):=by
 rw [rowsL_snoc,partL,cols_all h x.1 zs e]
theorem partL_len {α:Type} (D:Nat) (h:Nat→Nat→α) (pre:List RowX) (i:Nat) (pre2:List RowX):(partL D h pre i pre2).length=pre.length*D+pre2.length:=by
 rw [partL,List.length_append,rowsL_len,List.length_map]
abbrev cI:Int→List Value:=fun n=>[.int .i64 n]
theorem cellI {w wr:World} {b o:Nat} {ns:List Int} (HX:∀ j x,ns[j]?=some x→∀ k u,(cI x)[k]?=some u→w.cell? ⟨b,o+j*1+k,none⟩=some u) {k:Nat} {x:Int} (hx:ns[k]?=some x):w.cell? ⟨b,o+k,none⟩=some (.int .i64 x):=by
 have:=HX k x hx 0 _ rfl;simpa using this
theorem eqR_self (r:Fr):eqR r r=true:=eqR_iff.2 rfl
theorem eql_selfV (r:Fr) (w:World):(binOp .eql 34 (frV r) (frV r)).run Tryz.prog w=.ok (.bool true) w:=by rw [eql_fr,eqR_self]
theorem Tryz.info_I:(Tryz.prog.info? 3).map (fun i=>(i.zero,i.size,i.bytes))=some (some (.int .i64 0),1,8):=by kernel_rfl
def cellsI (x:Int):List Value:=[.int .i64 x]
theorem cellsI_len (x:Int):(cellsI x).length=1:=rfl
theorem oneI_cells (x:Int):∀ u∈cellsI x,u.oneCell'=true:=by
 intro u hu;unfold cellsI at hu;simp only [List.mem_cons,List.not_mem_nil,or_false] at hu;rcases hu with rfl;rfl
def ofL (M:Nat) (ns:List Int) (i k:Nat):Int:=ns.getD (i*M+k) 0
theorem ofL_get {R M:Nat} {ns:List Int} (h:ns.length=R*M) {i k:Nat} (hi:i<R) (hk:k<M):ns[i*M+k]?=some (ofL M ns i k):=by
 have:=mk_idx hi hk;simp [ofL,List.getElem?_eq_getElem (show i*M+k<ns.length by omega)]
theorem ofL_mk {R M:Nat} {ns:List Int} (h:ns.length=R*M):ns=mk R M (ofL M ns):=mk_of 0 ns h
theorem ofL_sml {A:Int} {R M:Nat} {ns:List Int} (h:ns.length=R*M) (hs:Sml A ns):∀ i k,i<R→k<M→-A≤ofL M ns i k∧ofL M ns i k≤A:=fun i k hi hk=>hs _ (List.mem_of_getElem? (ofL_get h hi hk))
theorem newI_cells (w:World) (x:Int) (t:TypeId):∀ j u,(cellsI x)[j]?=some u→(w.alloc (.cells #[.int .i64 x] t)).cell? ((⟨w.heap.size,0,none⟩:Addr).add j)=some u:=by
 intro j u hu;unfold cellsI at hu;rcases j with _|j
 ·simp at hu;subst hu;simp [go_sem,Addr.add]
 ·simp at hu
def unitI (i k:Nat):Int:=if i=k then 1 else 0
def unitTo (j i k:Nat):Int:=if i=k∧i<j then 1 else 0
theorem flatI_map (xs:List Int):xs.flatMap cellsI=xs.map (fun x=>(.int .i64 x:Value)):=by
 induction xs with
 |nil=>rfl
 |cons x xs ih=>rw [List.flatMap_cons,ih];rfl
theorem idx_inj {m i k i' k':Nat} (hk:k<m) (hk':k'<m) (e:i*m+k=i'*m+k'):i=i'∧k=k':=by
 have h1:(i*m+k)/m=i:=by rw [Nat.mul_comm,Nat.mul_add_div (by omega),Nat.div_eq_of_lt hk];omega
 have h2:(i'*m+k')/m=i':=by rw [Nat.mul_comm,Nat.mul_add_div (by omega),Nat.div_eq_of_lt hk'];omega
 have h3:i=i':=by rw [←h1,←h2,e]
 subst h3;exact ⟨rfl,by omega⟩
theorem unitTo_zero (m:Nat):mk m m (unitTo 0)=List.replicate (m*m) 0:=
 (mk_ext _ _ (by simp) fun i k hi hk=>by simp [List.getElem?_replicate,mk_idx hi hk,unitTo]).symm
theorem unitTo_set {m j:Nat} (h:j<m):(mk m m (unitTo j)).set (j*m+j) 1=mk m m (unitTo (j+1)):=
 mk_ext _ _ (by rw [List.length_set,mk_len]) fun i k hi hk=>by
  rw [List.getElem?_set];by_cases e:j*m+j=i*m+k
  ·obtain ⟨rfl,rfl⟩:=idx_inj h hk e;have:=mk_idx h h;rw [if_pos e,if_pos (by rw [mk_len];exact this)];simp [unitTo]
  ·rw [if_neg e,mk_get _ hi hk];have:¬ (i=k∧i=j):=fun ⟨h1,h2⟩=>e (by subst h1;rw [h2])
   unfold unitTo;by_cases h1:i=k
   ·have h2:i≠j:=fun h=>this ⟨h1,h⟩
    by_cases h3:i<j
    ·rw [if_pos ⟨h1,h3⟩,if_pos ⟨h1,by omega⟩]
    ·rw [if_neg (fun h=>h3 h.2),if_neg (fun h=>by omega)]
   ·rw [if_neg (fun h=>h1 h.1),if_neg (fun h=>h1 h.1)]
theorem unitTo_all (m:Nat):mk m m (unitTo m)=mk m m unitI:=mk_congr fun i k hi hk=>by simp [unitTo,unitI,hi]
theorem unitTo_cells (m j:Nat) (h:j<m):((mk m m (unitTo j)).flatMap cellsI).set (j*m+j) (.int .i64 1)=(mk m m (unitTo (j+1))).flatMap cellsI:=by
 rw [flatI_map,flatI_map,←unitTo_set h,List.map_set]
theorem unit_made (m n:Nat) (hn:n=m*m):(madeCells (Value.cells (.int .i64 0)) (n*1)).toList=(mk m m (unitTo 0)).flatMap cellsI:=by
 rw [unitTo_zero,flatI_map,Nat.mul_one,List.map_replicate,←hn];exact toList_madeCells_one _ _
def linJ {α:Type} (n:Nat) (x:Nat→α):List α:=(List.range n).map x
theorem linJ_len {α:Type} (n:Nat) (x:Nat→α):(linJ n x).length=n:=by simp [linJ]
theorem linJ_get {α:Type} {n:Nat} (x:Nat→α) {k:Nat} (h:k<n):(linJ n x)[k]?=some (x k):=by simp [linJ,h]
theorem linJ_row {α:Type} (n:Nat) (f:Nat→Nat→α) (i:Nat):rowM n f i=linJ n (f i):=rfl
theorem linJ_congr {α:Type} {n:Nat} {x y:Nat→α} (h:∀ k,k<n→x k=y k):linJ n x=linJ n y:=
 List.map_congr_left fun k hk=>h k (List.mem_range.1 hk)
theorem linJ_map {α β:Type} (n:Nat) (x:Nat→α) (g:α→β):(linJ n x).map g=linJ n (fun k=>g (x k)):=by simp [linJ,Function.comp_def]
theorem linJ_zip {α β γ:Type} (n:Nat) (op:α→β→γ) (x:Nat→α) (y:Nat→β):List.zipWith op (linJ n x) (linJ n y)=linJ n (fun k=>op (x k) (y k)):=by
 unfold linJ;rw [List.zipWith_map,List.zipWith_self]
theorem linJ_of {α:Type} {n:Nat} (d:α) (xs:List α) (hl:xs.length=n):xs=linJ n (fun k=>xs.getD k d):=by
 apply List.ext_getElem?;intro k;by_cases h:k<n
 ·rw [linJ_get _ h,List.getD_eq_getElem?_getD,List.getElem?_eq_getElem (by omega)];rfl
 ·rw [List.getElem?_eq_none (by omega),List.getElem?_eq_none (by rw [linJ_len];omega)]
theorem linJ_col {α:Type} (n:Nat) (x:Nat→α):linJ n x=mk n 1 (fun i _=>x i):=by
 apply List.ext_getElem?;intro k;by_cases h:k<n
 ·have:=mk_get (R:=n) (C:=1) (fun i _=>x i) h (show 0<1 by decide);rw [Nat.mul_one,Nat.add_zero] at this;rw [linJ_get _ h,this]
 ·rw [List.getElem?_eq_none (by rw [linJ_len];omega),List.getElem?_eq_none (by rw [mk_len];omega)]
theorem linJ_one {α:Type} (n:Nat) (x:Nat→α):linJ n x=mk 1 n (fun _ k=>x k):=by
 rw [mk_succ,mk_zero];rfl
def mulK {α:Type} (K:Kd α) (M:Nat) (f g:Nat→Nat→α) (i k:Nat):α:=K.dot (rowM M f i) (colM M g k)
def aroundJ {α:Type} (K:Kd α) (n:Nat) (m p:Nat→Nat→α):Nat→Nat→α:=mulK K n (mulK K n m p) (fun i k=>m k i)
def squareJ {α:Type} (K:Kd α) (n:Nat) (g:Nat→Nat→α):Nat→Nat→α:=mirM (mulK K n g (fun i k=>g k i))
def mirrJ {α:Type} (K:Kd α) (a b:Nat→Nat→α):Nat→Nat→α:=mirM (fun i k=>K.add (a i k) (b i k))
def appJ {α:Type} (K:Kd α) (n:Nat) (f:Nat→Nat→α) (x:Nat→α) (i:Nat):α:=K.dot (rowM n f i) (linJ n x)
def predJ {α:Type} (K:Kd α) (n:Nat) (f p g:Nat→Nat→α):Nat→Nat→α:=mirrJ K (aroundJ K n f p) (squareJ K n g)
def spreadJ {α:Type} (K:Kd α) (n:Nat) (p:Nat→Nat→α) (h:Nat→α) (r:α):α:=K.add (K.dot (linJ n h) (linJ n (appJ K n p h))) r
def gainJ {α:Type} (K:Kd α) (n:Nat) (p:Nat→Nat→α) (h:Nat→α) (r:α) (i:Nat):α:=K.div (appJ K n p h i) (spreadJ K n p h r)
def surpJ {α:Type} (K:Kd α) (n:Nat) (x h:Nat→α) (z:α):α:=K.sub z (K.dot (linJ n h) (linJ n x))
def upXJ {α:Type} (K:Kd α) (n:Nat) (x:Nat→α) (p:Nat→Nat→α) (h:Nat→α) (r z:α) (i:Nat):α:=K.add (x i) (K.mul (gainJ K n p h r i) (surpJ K n x h z))
def outerJ {α:Type} (K:Kd α) (c r:Nat→α):Nat→Nat→α:=mulK K 1 (fun i _=>c i) (fun _ k=>r k)
def restJ {α:Type} (K:Kd α) (one:Nat→Nat→α) (k h:Nat→α) (i j:Nat):α:=K.sub (one i j) (outerJ K k h i j)
def upPJ {α:Type} (K:Kd α) (one:Nat→Nat→α) (n:Nat) (p:Nat→Nat→α) (h:Nat→α) (r:α):Nat→Nat→α:=
 mirrJ K (aroundJ K n (restJ K one (gainJ K n p h r) h) p) (outerJ K (fun i=>K.mul (gainJ K n p h r i) r) (gainJ K n p h r))
theorem eval_put_same {a:Act} {d:Nat} {v:Value} (h:d<a.tmps.size):(a.put (some d) v).eval (.tmp d)=v:=by
 simp [Act.put,Act.eval,Array.getD,h]
theorem eval_put_other {a:Act} {d s:Nat} {v:Value} (h:s≠d):(a.put (some d) v).eval (.tmp s)=a.eval (.tmp s):=by
 simp only [Act.put,Act.eval,Array.getD_eq_getD_getElem?];rw [Array.getElem?_setIfInBounds_ne (Ne.symm h)]
theorem size_put {a:Act} {d:Option Nat} {v:Value}:(a.put d v).tmps.size=a.tmps.size:=by cases d<;>simp [Act.put]
theorem defers_put {a:Act} {d:Option Nat} {v:Value}:(a.put d v).defers=a.defers:=by cases d<;>simp [Act.put]
def leftN (l:List Bool):Nat:=(l.filter (· == false)).length
theorem leftN_set:∀ (l:List Bool) (i:Nat),l[i]?=some false→leftN l=leftN (l.set i true)+1
 |[],i,h=>by simp at h
 |b::l,0,h=>by simp at h;subst h;simp [leftN]
 |b::l,i+1,h=>by
  have:=leftN_set l i (by simpa using h);cases b<;>simp [leftN] at this ⊢<;>omega
theorem leftN_zero:∀ (l:List Bool),leftN l=0→∀ i,i<l.length→l[i]?=some true
 |[],_,i,h=>by simp at h
 |b::l,h0,i,h=>by
  cases b with
  |false=>simp [leftN] at h0
  |true =>
   cases i with
   |zero=>simp
   |succ i =>
    have h':leftN l=0:=by simpa [leftN] using h0
    have:=leftN_zero l h' i (by simpa using h);simpa using this
theorem leftN_pos:∀ (l:List Bool),0<leftN l→∃ i:Nat,l[i]?=some false∧∀ j:Nat,j<i→l[j]?=some true
 |[],h=>by simp [leftN] at h
 |b::l,h=>by
  cases b with
  |false=>exact ⟨0,by simp,fun j hj=>by omega⟩
  |true =>
   obtain ⟨i,h1,h2⟩:=leftN_pos l (by simpa [leftN] using h);exact ⟨i+1,by simpa using h1,fun j hj=>by
    cases j with
    |zero=>simp
    |succ j=>simpa using h2 j (by omega)⟩
theorem leftN_rep (n:Nat):leftN (List.replicate n false)=n:=by simp [leftN]
theorem region_facts {F:Fence} {n:Nat} {P:Program} {ops:Array Oper} {Q:Exit→Act→World→Prop} {a:Act} {w:World} {id:Nat} (hm:P.follows .mixedOrders=true)
  (hlow:∀ (i:Nat) (o:Oper),ops[i]?=some o→∀ e∈o.after,e.on<i) (I:(Nat→Bool)→Act→World→Prop) (h0:I (fun _=>false) a w.drew)
  (step:∀ (L:Nat→Bool) (act:Act) (u:World) (i:Nat) (o:Oper),I L act u→ops[i]?=some o→L i=false→(∀ e∈o.after,Region.binds .any e=true→L e.on=true)→wpOpIn F n P ops Q i (I fun j=>L j||(j==i)) act u)
  (fin:∀ L act u,I L act u→(∀ j,j<ops.size→L j=true)→Q .normal act u):(Code.region id ops true).wpIn F n P Q a w:=by
 refine wpIn_region_any hm ?_
 have main:=wpAnyIn_phase (F:=F) (n:=n) (P:=P) (md:=.any) (ops:=ops) (Q:=Q) (fuel:=0)
  (fun k l act u=>l.size=ops.size∧k=leftN l.toList∧I (fun j=>l.getD j false) act u) ?fin ?live ?step ops.size (Array.replicate ops.size false) a w.drew ⟨by simp,by simp [leftN_rep],?start⟩
 case start =>
  have:(fun j=>(Array.replicate ops.size false).getD j false)=(fun _:Nat=>false):=by
   funext j;simp [Array.getD]
  rw [this];exact h0
 case fin =>
  rintro l act u ⟨hs,hk,hI⟩;have hall:=leftN_zero l.toList hk.symm;have hl:∀ j,j<ops.size→l.getD j false=true:=fun j hj=>by
   have:=hall j (by simpa [hs] using hj);have h2:l[j]?=some true:=by simpa using this
   rw [Array.getD_eq_getD_getElem?,h2];rfl
  refine wpAnyIn_done ?_ (fin _ act u hI hl) 0;rw [List.eq_nil_iff_forall_not_mem];intro i hi;obtain ⟨h1,o,ho,_⟩:=mem_ready.1 hi;have hlt:=(Array.getElem?_eq_some_iff.1 ho).1;have:=hl i hlt;rw [Array.getD_eq_getD_getElem?] at this h1;cases e:l[i]?<;>simp_all
 case live =>
  rintro k l act u ⟨hs,hk,hI⟩ hr;obtain ⟨i,h1,h2⟩:=leftN_pos l.toList (by omega);have hi:i<l.size:=by have:=(List.getElem?_eq_some_iff.1 h1).1;simpa using this
  rw [List.eq_nil_iff_forall_not_mem] at hr;refine hr i (mem_ready.2 ⟨?_,ops[i]'(by omega),Array.getElem?_eq_getElem _,fun e he _=>?_⟩)
  ·have h3:l[i]?=some false:=by simpa using h1
   rw [Array.getD_eq_getD_getElem?,h3];rfl
  ·have h4:=hlow i _ (Array.getElem?_eq_getElem (by omega)) e he;have h3:l[e.on]?=some true:=by simpa using h2 _ h4
   rw [Array.getD_eq_getD_getElem?,h3];rfl
 case step =>
  rintro k l act u i ⟨hs,hk,hI⟩ hi hall;have hlt:=getD_lt' hi;have hli:l[i]?=some false:=by
   rw [Array.getD_eq_getD_getElem?] at hi;rw [Array.getElem?_eq_getElem hlt] at hi ⊢;simpa using hi
  have hw:=step _ act u i (ops[i]'(by omega)) hI (Array.getElem?_eq_getElem _) (by show l.getD i false=false;rw [Array.getD_eq_getD_getElem?,hli];rfl) (fun e he hb=>hall e ⟨_,Array.getElem?_eq_getElem _,he⟩ hb);refine wpOpIn_mono (fun a' w' h'=>⟨by simp [hs],?_,?_⟩) hw
  ·have:=leftN_set l.toList i (by simpa using hli);rw [Array.toList_setIfInBounds];omega
  ·have:(fun j=>(l.setIfInBounds i true).getD j false)=(fun j=>l.getD j false||(j==i)):=by
    funext j
    by_cases hj:j=i
    ·subst hj;simp [Array.getD,hlt]
    ·rw [Array.getD_eq_getD_getElem?,Array.getElem?_setIfInBounds_ne (fun e=>hj e.symm),←Array.getD_eq_getD_getElem?];simp [hj]
   rw [this];exact h'
 rw [Nat.zero_add] at main;exact main
def lowB (ops:Array Oper):Bool:=(List.range ops.size).all fun i=>match ops[i]? with
 |some o=>o.after.all fun e=>decide (e.on<i)
 |none=>true
theorem lowB_low {ops:Array Oper} (h:lowB ops=true):∀ (i:Nat) (o:Oper),ops[i]?=some o→∀ e∈o.after,e.on<i:=by
 intro i o ho e he;have h1:=List.all_eq_true.1 h i (by simpa using (Array.getElem?_eq_some_iff.1 ho).1);rw [ho] at h1;simp only [Array.all_eq_true_iff_forall_mem] at h1;exact of_decide_eq_true (h1 e he)
theorem step_wp {F:Fence} {n:Nat} {P:Program} {ops:Array Oper} {Q:Exit→Act→World→Prop} {i:Nat} {o:Oper} {K:Act→World→Prop} {a:Act} {w:World} (ho:ops[i]?=some o) (hg:o.guard=none) (h:Oper.wpIn F n P o a w K Q):wpOpIn F n P ops Q i K a w:=by
 unfold wpOpIn;rw [ho];show if _ then _ else _
 rw [if_pos (by simp [Region.wanted,hg])];exact h
theorem plain_wp {F:Fence} {n:Nat} {P:Program} {o:Oper} {a:Act} {w w':World} {K:Act→World→Prop} {Q:Exit→Act→World→Prop} {v:Value} (hd:∀ c,o.op≠.defer c) (ha:∀ f,o.about P w a.eval=some f→F.fn f)
  (hr:(execOp a.eval o).run P w=.ok (.value v) w') (hK:K (a.put o.dst v) w'):Oper.wpIn F n P o a w K Q:=by
 unfold Oper.wpIn;refine ⟨ha,?_⟩;rw [Oper.semAt_plain F _ _ hd,hr];exact hK
theorem skip_wp {F:Fence} {n:Nat} {P:Program} {o:Oper} {a:Act} {w w':World} {K:Act→World→Prop} {Q:Exit→Act→World→Prop} (hd:∀ c,o.op≠.defer c) (ha:∀ f,o.about P w a.eval=some f→F.fn f)
  (hr:(execOp a.eval o).run P w=.ok .skip w') (hK:K (a.put o.dst undef) w'):Oper.wpIn F n P o a w K Q:=by
 unfold Oper.wpIn;refine ⟨ha,?_⟩;rw [Oper.semAt_plain F _ _ hd,hr];exact hK
theorem move_wp {F:Fence} {n:Nat} {P:Program} {o:Oper} {a:Act} {w:World} {K:Act→World→Prop} {Q:Exit→Act→World→Prop} (x:Operand) (ho:o.op=.move x) (hK:K (a.put o.dst (a.eval x)) w):Oper.wpIn F n P o a w K Q:=
 plain_wp (by rw [ho];intro c h;cases h) (by simp [Oper.about,ho]) (by simp [execOp,ho]) hK
theorem load_wp {F:Fence} {n:Nat} {P:Program} {o:Oper} {a:Act} {w:World} {K:Act→World→Prop} {Q:Exit→Act→World→Prop} (t:TypeId) (x:Operand) (ho:o.op=.load t x) {v:Value} (hr:(Instr.loadAt t (a.eval x)).run P w=.ok v w) (hK:K (a.put o.dst v) w):Oper.wpIn F n P o a w K Q:=
 plain_wp (by rw [ho];intro c h;cases h) (by simp [Oper.about,ho]) (by simp [execOp,ho,hr,Result.andThen]) hK
theorem store_wp {F:Fence} {n:Nat} {P:Program} {o:Oper} {a:Act} {w w':World} {K:Act→World→Prop} {Q:Exit→Act→World→Prop} (t:TypeId) (x y:Operand) (ho:o.op=.store t x y) (hr:(Instr.storeAt t (a.eval x) (a.eval y)).run P w=.ok () w') (hK:K (a.put o.dst undef) w'):Oper.wpIn F n P o a w K Q:=
 skip_wp (by rw [ho];intro c h;cases h) (by simp [Oper.about,ho]) (by simp [execOp,ho,hr,Result.andThen]) hK
theorem build_wp {F:Fence} {n:Nat} {P:Program} {o:Oper} {a:Act} {w w':World} {K:Act→World→Prop} {Q:Exit→Act→World→Prop} (t:TypeId) (x:Operand) (ho:o.op=.buildSlice t 1 #[(0,x)]) {v:Value} (hr:(Instr.buildSlice t 1 #[(0,a.eval x)]).run P w=.ok v w') (hK:K (a.put o.dst v) w'):Oper.wpIn F n P o a w K Q:=
 plain_wp (by rw [ho];intro c h;cases h) (by simp [Oper.about,ho]) (by simp [execOp,ho,hr,Result.andThen]) hK
theorem call2_wp {F:Fence} {n:Nat} {P:Program} {o:Oper} {a:Act} {w:World} {K:Act→World→Prop} {Q:Exit→Act→World→Prop} (f:Nat) (x y:Operand) (ts:Array TypeId) (ho:o.op=.call { callee:=.value (.func f),args:=#[x,y],argTypes:=ts }) (hF:F.fn f) (h1:F.depth.isSome=true→1≤n)
  (eg:∀ args w,(callFunc f args).run P w=.ok (.enter f args) w) {R:Ending→World→Prop} (hc:CallsIn F (n-1) P f #[a.eval x,a.eval y] w R) (hK:∀ e w',R e w'→∃ v,e=.returned v∧K (a.put o.dst v) w'):Oper.wpIn F n P o a w K Q:=by
 have hr:∀ ρ:Operand→Value,ρ (.func f)=.func (.func f) #[] #[]→(execOp ρ o).run P w=.ok (.enter f #[ρ x,ρ y]) w∧∀ g,o.about P w ρ=some g→f=g:=by
  intro ρ e;refine ⟨by simp [execOp,ho,resolve,invoke,e,eg,Result.andThen,go_sem],fun g hg=>?_⟩;simp [Oper.about,ho,resolve,e,Target.leads,go_sem] at hg;exact hg
 unfold Oper.wpIn;refine ⟨fun g hg=>(hr a.eval rfl).2 g hg▸hF,?_⟩;rw [Oper.semAt_plain F _ _ (by rw [ho];intro c h;cases h),(hr a.eval rfl).1,Oper.uponIn_enter];refine ⟨h1,hc.mono ?_⟩;intro e w' h;obtain ⟨v,rfl,h2⟩:=hK e w' h;exact h2
theorem evalC (a:Act) (v:Value):a.eval (.const v)=v:=rfl
theorem evalF (a:Act) (f:Nat):a.eval (.func f)=.func (.func f) #[] #[]:=rfl
theorem evalG (a:Act) (g:Nat):a.eval (.global g)=.pointer (some ⟨g,0,none⟩):=rfl
def putL:List (Option Nat)→(Nat→Value)→Nat→Act→Act
 |[],_,_,a=>a
 |d::ds,vs,k,a=>putL ds vs (k+1) (a.put d (vs k))
theorem putL_size (ds:List (Option Nat)) (vs:Nat→Value):∀ k a,(putL ds vs k a).tmps.size=a.tmps.size:=by
 induction ds with
 |nil=>intro k a;rfl
 |cons d ds ih=>intro k a;rw [putL,ih,size_put]
theorem putL_defers (ds:List (Option Nat)) (vs:Nat→Value):∀ k a,(putL ds vs k a).defers=a.defers:=by
 induction ds with
 |nil=>intro k a;rfl
 |cons d ds ih=>intro k a;rw [putL,ih,defers_put]
theorem eval_put_ne {a:Act} {d:Option Nat} {s:Nat} {v:Value} (h:d≠some s):(a.put d v).eval (.tmp s)=a.eval (.tmp s):=by
 cases d with
 |none=>rfl
 |some d=>exact eval_put_other (fun e=>h (by rw [e]))
theorem putL_other (ds:List (Option Nat)) (vs:Nat→Value) (t:Nat):∀ k a,(∀ d∈ds,d≠some t)→(putL ds vs k a).eval (.tmp t)=a.eval (.tmp t):=by
 induction ds with
 |nil=>intro k a _;rfl
 |cons d ds ih=>intro k a h;rw [putL,ih _ _ (fun d hd=>h d (List.mem_cons_of_mem _ hd)),eval_put_ne (h d List.mem_cons_self)]
def onceB:List (Option Nat)→Bool
 |[]=>true
 |d::ds=>(d.isNone||ds.all (· != d))&&onceB ds
theorem putL_at (ds:List (Option Nat)) (vs:Nat→Value) (t:Nat):∀ (j:Nat) k a,onceB ds=true→ds[j]?=some (some t)→t<a.tmps.size→(putL ds vs k a).eval (.tmp t)=vs (k+j):=by
 induction ds with
 |nil=>intro j k a _ h;simp at h
 |cons d ds ih =>
  intro j k a ho h ht;simp only [onceB,Bool.and_eq_true] at ho;cases j with
  |zero =>
   simp at h;subst h;rw [putL,putL_other,Nat.add_zero]
   ·exact eval_put_same ht
   ·intro d hd e;subst e;have:=ho.1;simp at this;exact this _ hd rfl
  |succ j =>
   rw [putL,ih j (k+1) _ ho.2 (by simpa using h) (by rw [size_put];exact ht)]
   congr 1
   omega
theorem act_ext {a b:Act} (h1:a.tmps.size=b.tmps.size) (h2:a.defers=b.defers) (h3:∀ t,t<a.tmps.size→a.eval (.tmp t)=b.eval (.tmp t)):a=b:=by
 obtain ⟨ta,da⟩:=a;obtain ⟨tb,db⟩:=b;simp only at h1 h2;subst h2
 congr 1
 refine Array.ext h1 fun t ha hb=>?_
 have:=h3 t ha;simpa [Act.eval,Array.getD,ha,hb] using this
theorem region_facts2 {F:Fence} {n:Nat} {P:Program} {ops:Array Oper} {Q:Exit→Act→World→Prop} {a:Act} {w:World} {id:Nat} (hm:P.follows .mixedOrders=true)
  (hlow:∀ (i:Nat) (o:Oper),ops[i]?=some o→∀ e∈o.after,Region.binds .any e=true→e.on<i) (I:(Nat→Bool)→Act→World→Prop) (h0:I (fun _=>false) a w.drew)
  (step:∀ (L:Nat→Bool) (act:Act) (u:World) (i:Nat) (o:Oper),I L act u→ops[i]?=some o→L i=false→(∀ e∈o.after,Region.binds .any e=true→L e.on=true)→wpOpIn F n P ops Q i (I fun j=>L j||(j==i)) act u)
  (fin:∀ L act u,I L act u→(∀ j,j<ops.size→L j=true)→Q .normal act u):(Code.region id ops true).wpIn F n P Q a w:=by
 refine wpIn_region_any hm ?_
 have main:=wpAnyIn_phase (F:=F) (n:=n) (P:=P) (md:=.any) (ops:=ops) (Q:=Q) (fuel:=0)
  (fun k l act u=>l.size=ops.size∧k=leftN l.toList∧I (fun j=>l.getD j false) act u) ?fin ?live ?step ops.size (Array.replicate ops.size false) a w.drew ⟨by simp,by simp [leftN_rep],?start⟩
 case start =>
  have:(fun j=>(Array.replicate ops.size false).getD j false)=(fun _:Nat=>false):=by
   funext j;simp [Array.getD]
  rw [this];exact h0
 case fin =>
  rintro l act u ⟨hs,hk,hI⟩;have hall:=leftN_zero l.toList hk.symm;have hl:∀ j,j<ops.size→l.getD j false=true:=fun j hj=>by
   have:=hall j (by simpa [hs] using hj);have h2:l[j]?=some true:=by simpa using this
   rw [Array.getD_eq_getD_getElem?,h2];rfl
  refine wpAnyIn_done ?_ (fin _ act u hI hl) 0;rw [List.eq_nil_iff_forall_not_mem];intro i hi;obtain ⟨h1,o,ho,_⟩:=mem_ready.1 hi;have hlt:=(Array.getElem?_eq_some_iff.1 ho).1;have:=hl i hlt;rw [Array.getD_eq_getD_getElem?] at this h1;cases e:l[i]?<;>simp_all
 case live =>
  rintro k l act u ⟨hs,hk,hI⟩ hr;obtain ⟨i,h1,h2⟩:=leftN_pos l.toList (by omega);have hi:i<l.size:=by have:=(List.getElem?_eq_some_iff.1 h1).1;simpa using this
  rw [List.eq_nil_iff_forall_not_mem] at hr;refine hr i (mem_ready.2 ⟨?_,ops[i]'(by omega),Array.getElem?_eq_getElem _,fun e he hbe=>?_⟩)
  ·have h3:l[i]?=some false:=by simpa using h1
   rw [Array.getD_eq_getD_getElem?,h3];rfl
  ·have h4:=hlow i _ (Array.getElem?_eq_getElem (by omega)) e he hbe;have h3:l[e.on]?=some true:=by simpa using h2 _ h4
   rw [Array.getD_eq_getD_getElem?,h3];rfl
 case step =>
  rintro k l act u i ⟨hs,hk,hI⟩ hi hall;have hlt:=getD_lt' hi;have hli:l[i]?=some false:=by
   rw [Array.getD_eq_getD_getElem?] at hi;rw [Array.getElem?_eq_getElem hlt] at hi ⊢;simpa using hi
  have hw:=step _ act u i (ops[i]'(by omega)) hI (Array.getElem?_eq_getElem _) (by show l.getD i false=false;rw [Array.getD_eq_getD_getElem?,hli];rfl) (fun e he hb=>hall e ⟨_,Array.getElem?_eq_getElem _,he⟩ hb);refine wpOpIn_mono (fun a' w' h'=>⟨by simp [hs],?_,?_⟩) hw
  ·have:=leftN_set l.toList i (by simpa using hli);rw [Array.toList_setIfInBounds];omega
  ·have:(fun j=>(l.setIfInBounds i true).getD j false)=(fun j=>l.getD j false||(j==i)):=by
    funext j
    by_cases hj:j=i
    ·subst hj;simp [Array.getD,hlt]
    ·rw [Array.getD_eq_getD_getElem?,Array.getElem?_setIfInBounds_ne (fun e=>hj e.symm),←Array.getD_eq_getD_getElem?];simp [hj]
   rw [this];exact h'
 rw [Nat.zero_add] at main;exact main
def lowB2 (ops:Array Oper):Bool:=(List.range ops.size).all fun i=>match ops[i]? with
 |some o=>o.after.all fun e => !Region.binds .any e||decide (e.on<i)
 |none=>true
theorem lowB2_low {ops:Array Oper} (h:lowB2 ops=true):∀ (i:Nat) (o:Oper),ops[i]?=some o→∀ e∈o.after,Region.binds .any e=true→e.on<i:=by
 intro i o ho e he hb;have h1:=List.all_eq_true.1 h i (by simpa using (Array.getElem?_eq_some_iff.1 ho).1);rw [ho] at h1;simp only [Array.all_eq_true_iff_forall_mem] at h1;have:=h1 e he;rw [hb] at this;simpa using this
def wellB (ops:Array Oper) (ds:List (Option Nat)) (pure:Nat→Bool) (s:Nat):Bool:=
 lowB2 ops&&onceB ds&&(ds.length==ops.size)&&(List.range ops.size).all fun j=>match ops[j]? with
  |none=>true
  |some o=>o.guard.isNone&&(ds[j]?==some o.dst)&&(if j==s then o.dst.isNone && !pure j else o.dst.isSome)&&(if j<s then pure j||decide (ops.size≤s)||(List.range (s+1)).any (fun i=>decide (j<i) && !(pure i)&&match ops[i]? with
   |some o'=>o'.after.any fun e=>(e.on==j)&&Region.binds .any e
   |none=>false) else if s<j then pure j else true)
structure Well (ops:Array Oper) (ds:List (Option Nat)) (pure:Nat→Bool) (s:Nat):Prop where
 low:lowB2 ops=true
 once:onceB ds=true
 guard:∀ (j:Nat) (o:Oper),ops[j]?=some o→o.guard=none
 dst:∀ (j:Nat) (o:Oper),ops[j]?=some o→ds[j]?=some o.dst
 got:∀ (j:Nat) (o:Oper),ops[j]?=some o→j≠s→∃ t,o.dst=some t
 len:ds.length=ops.size
 stor:∀ (o:Oper),ops[s]?=some o→o.dst=none∧pure s=false
 used:∀ j,j<s→s<ops.size→pure j=false→∃ (i:Nat) (o':Oper) (e:Edge),j<i∧i≤s∧pure i=false∧ops[i]?=some o'∧e∈o'.after∧e.on=j∧Region.binds .any e=true
 late:∀ (j:Nat) (o:Oper),ops[j]?=some o→s<j→pure j=true
theorem wellB_well {ops:Array Oper} {ds:List (Option Nat)} {pure:Nat→Bool} {s:Nat} (h:wellB ops ds pure s=true):Well ops ds pure s:=by
 simp only [wellB,Bool.and_eq_true] at h;obtain ⟨⟨⟨h1,h2⟩,h2'⟩,h3⟩:=h;have key:∀ (j:Nat) (o:Oper),ops[j]?=some o→_:=fun j o ho=>by
  have:=List.all_eq_true.1 h3 j (by simpa using (Array.getElem?_eq_some_iff.1 ho).1);rw [ho] at this;simp only [Bool.and_eq_true] at this;exact this
 refine ⟨h1,h2,fun j o ho=>by simpa using (key j o ho).1.1.1,fun j o ho=>by simpa using (key j o ho).1.1.2,fun j o ho hj=>?_,by simpa using h2',fun o ho=>?_,fun j hj hs hp=>?_,fun j o ho hj=>?_⟩
 ·have:=(key j o ho).1.2;rw [if_neg (by simpa using hj)] at this;exact Option.isSome_iff_exists.1 this
 ·have:=(key s o ho).1.2;rw [if_pos (by simp)] at this;simpa using this
 ·have hjl:j<ops.size:=by omega
  have:=(key j _ (Array.getElem?_eq_getElem hjl)).2;rw [if_pos hj] at this;simp only [hp,Bool.false_or,Bool.or_eq_true,decide_eq_true_eq,List.any_eq_true,Bool.and_eq_true] at this;rcases this with h|⟨i,hi,⟨⟨hji,hpi⟩,hm⟩⟩
  ·omega
  ·have hi':i<s+1:=by simpa using hi
   have his:i<ops.size:=by omega
   rw [Array.getElem?_eq_getElem his] at hm;simp only [Array.any_eq_true'] at hm;obtain ⟨e,he,hb⟩:=hm;simp only [Bool.and_eq_true,beq_iff_eq] at hb;exact ⟨i,_,e,hji,by omega,by simpa using hpi,Array.getElem?_eq_getElem his,he,hb.1,hb.2⟩
 ·have:=(key j o ho).2;rw [if_neg (by omega),if_pos hj] at this;exact this
structure RQ (W:World) (a:Act) (ops:Array Oper) (ds:List (Option Nat)) (pure:Nat→Bool) (s:Nat) (facts:Nat→Value→World→Prop) (PS:(Nat→Value)→World→World→Prop) (L:Nat→Bool) (act:Act) (u:World):Prop where
 size:act.tmps.size=a.tmps.size
 defers:act.defers=a.defers
 frame:∀ t,(∀ j,L j=true→ds[j]?≠some (some t))→act.eval (.tmp t)=a.eval (.tmp t)
 inb:∀ j,L j=true→j<ops.size
 shut:∀ (j:Nat) (o:Oper),ops[j]?=some o→L j=true→∀ e∈o.after,Region.binds .any e=true→L e.on=true
 have0:L s=false→Bl W u∧∀ (j t:Nat),ds[j]?=some (some t)→L j=true→facts j (act.eval (.tmp t)) u
 have1:L s=true→∃ u0 vs,Bl W u0∧(∀ (j t:Nat),ds[j]?=some (some t)→L j=true→facts j (act.eval (.tmp t)) u0)∧(∀ (j t:Nat),ds[j]?=some (some t)→pure j=false→act.eval (.tmp t)=vs j)∧PS vs u0 u
theorem region_q {F:Fence} {n:Nat} {P:Program} {ops:Array Oper} {Q:Exit→Act→World→Prop} {a:Act} {W:World} {id:Nat} (hm:P.follows .mixedOrders=true) (ds:List (Option Nat)) (pure:Nat→Bool) (s:Nat) (hw:wellB ops ds pure s=true)
  (hsz0:ds.all (fun d=>match d with|some t=>Nat.blt t a.tmps.size|none=>true)=true) (facts:Nat→Value→World→Prop) (mono:∀ j v u u',Bl u u'→facts j v u→facts j v u') (PS:(Nat→Value)→World→World→Prop)
  (step:∀ (j:Nat) (o:Oper) (t:Nat) (act:Act) (u:World),ops[j]?=some o→o.dst=some t→pure j=false→act.tmps.size=a.tmps.size→Bl W u→(∀ t,some t ∉ ds→act.eval (.tmp t)=a.eval (.tmp t))→(∀ e∈o.after,Region.binds .any e=true→∀ t,ds[e.on]?=some (some t)→facts e.on (act.eval (.tmp t)) u) →
   Oper.wpIn F n P o act u (fun act' u'=>∃ v,act'=act.put (some t) v∧facts j v u'∧Bl u u') Q)
  (still:∀ (j:Nat) (o:Oper) (t:Nat) (act:Act) (u0 u:World),ops[j]?=some o→o.dst=some t→pure j=true→act.tmps.size=a.tmps.size→Bl W u0→(∀ t,some t ∉ ds→act.eval (.tmp t)=a.eval (.tmp t))→(∀ e∈o.after,Region.binds .any e=true→∀ t,ds[e.on]?=some (some t)→facts e.on (act.eval (.tmp t)) u0) →
   Oper.wpIn F n P o act u (fun act' u'=>∃ v,act'=act.put (some t) v∧facts j v u0∧u'=u) Q)
  (store:∀ (o:Oper) (act:Act) (u:World) (vs:Nat→Value),ops[s]?=some o→act.tmps.size=a.tmps.size→Bl W u→(∀ t,some t ∉ ds→act.eval (.tmp t)=a.eval (.tmp t))→(∀ (j t:Nat),ds[j]?=some (some t)→pure j=false→act.eval (.tmp t)=vs j∧facts j (vs j) u) →
   Oper.wpIn F n P o act u (fun act' u'=>act'=act∧PS vs u u') Q)
  (fin:∀ (vs vb:Nat→Value) (u0 u:World),Bl W u0→(∀ (j:Nat) (t:Nat),ds[j]?=some (some t)→facts j (if pure j then vb j else vs j) u0)→(if s<ops.size then PS vs u0 u else u=u0)→Q .normal (putL ds (fun j=>if pure j then vb j else vs j) 0 a) u) :
  (Code.region id ops true).wpIn F n P Q a W:=by
 have H:=wellB_well hw;have hsz:∀ t,some t∈ds→t<a.tmps.size:=fun t ht=>by have:=List.all_eq_true.1 hsz0 _ ht;rw [Nat.blt_eq] at this;exact this
 have hlt:∀ (j t:Nat),ds[j]?=some (some t)→j<ops.size:=fun j t h=>by have:=(List.getElem?_eq_some_iff.1 h).1;rw [H.len] at this;exact this
 have hds:∀ (j:Nat) (o:Oper) (t:Nat),ops[j]?=some o→ds[j]?=some (some t)→o.dst=some t:=fun j o t ho h=>by
  rw [H.dst j o ho] at h;simpa using h
 have hne:∀ (i j t t':Nat),ds[i]?=some (some t)→ds[j]?=some (some t')→i≠j→t≠t':=by
  have:∀ (ds:List (Option Nat)),onceB ds=true→∀ (i j t t':Nat),ds[i]?=some (some t)→ds[j]?=some (some t')→i<j→t≠t':=by
   intro ds
   induction ds with
   |nil=>intro _ i j t t' h;simp at h
   |cons d ds ih =>
    intro ho i j t t' h1 h2 hij;simp only [onceB,Bool.and_eq_true] at ho;cases j with
    |zero=>omega
    |succ j =>
     cases i with
     |zero =>
      simp at h1 h2;subst h1;have:=ho.1;simp at this;exact fun e=>this _ (List.mem_of_getElem? h2) (by rw [e])
     |succ i=>exact ih ho.2 i j t t' (by simpa using h1) (by simpa using h2) (by omega)
  intro i j t t' h1 h2 hij;rcases Nat.lt_or_gt_of_ne hij with h|h
  ·exact this ds H.once i j t t' h1 h2 h
  ·exact (this ds H.once j i t' t h2 h1 h).symm
 refine region_facts2 hm (lowB2_low H.low) (RQ W a ops ds pure s facts PS) ?_ ?_ ?_
 ·exact ⟨rfl,rfl,fun _ _=>rfl,(by intro _ h;cases h),(by intro _ _ _ h;cases h),fun _=>⟨(Bl.refl _).drew,(by intro _ _ _ h;cases h)⟩,(by intro h;cases h)⟩
 ·intro L act u i o hI ho hLi hall;have hil:i<ops.size:=(Array.getElem?_eq_some_iff.1 ho).1;refine step_wp ho (H.guard i o ho) ?_;have hfr:∀ t,some t ∉ ds→act.eval (.tmp t)=a.eval (.tmp t):=fun t ht=>hI.frame t (fun j _ e=>ht (List.mem_of_getElem? e))
  have shut':∀ (j:Nat) (o':Oper),ops[j]?=some o'→(L j||(j==i))=true→∀ e∈o'.after,Region.binds .any e=true→(L e.on||(e.on==i))=true:=fun j o' ho' hj e he hb=>by
   rw [Bool.or_eq_true] at hj;rcases hj with hj|hj
   ·rw [hI.shut j o' ho' hj e he hb];rfl
   ·obtain rfl:j=i:=by simpa using hj
    rw [ho] at ho';cases ho';rw [hall e he hb];rfl
  have inb':∀ j,(L j||(j==i))=true→j<ops.size:=fun j hj=>by
   rw [Bool.or_eq_true] at hj;rcases hj with hj|hj
   ·exact hI.inb j hj
   ·obtain rfl:j=i:=by simpa using hj
    exact hil
  by_cases his:i=s
  ·subst his;obtain ⟨hd,hps⟩:=H.stor o ho;obtain ⟨hb,hf⟩:=hI.have0 hLi;have done:∀ m,∀ j,i-j≤m→j<i→pure j=false→L j=true:=by
    intro m
    induction m with
    |zero=>intro j h1 h2;omega
    |succ m ih =>
     intro j h1 h2 hp;obtain ⟨k,o',e,hjk,hki,hpk,ho',he,hej,hbe⟩:=H.used j h2 hil hp;subst hej;by_cases hk:k=i
     ·subst hk;rw [ho] at ho';cases ho';exact hall e he hbe
     ·exact hI.shut k o' ho' (ih k (by omega) (by omega) hpk) e he hbe
   have all:∀ (j t:Nat),ds[j]?=some (some t)→pure j=false→L j=true:=fun j t h hp=>by
    have h2:=hlt j t h;rcases Nat.lt_trichotomy j i with h1|h1|h1
    ·exact done (i-j) j (Nat.le_refl _) h1 hp
    ·subst h1;rw [H.dst j o ho,hd] at h;cases h
    ·rw [H.late j _ (Array.getElem?_eq_getElem h2) h1] at hp;cases hp
   have vals:∀ (j t:Nat),ds[j]?=some (some t)→act.eval (.tmp t)=(fun j=>act.eval (.tmp ((ds[j]?.getD none).getD 0))) j:=fun j t h=>by simp [h]
   refine Oper.wpIn_mono ?_ (store o act u (fun j=>act.eval (.tmp ((ds[j]?.getD none).getD 0))) ho hI.size hb hfr (fun j t h hp=>⟨vals j t h,by have:=hf j t h (all j t h hp);rw [vals j t h] at this;exact this⟩));rintro act' u' ⟨rfl,hP⟩;refine ⟨hI.size,hI.defers,fun t ht=>hI.frame t (fun j hj=>ht j (by rw [hj];rfl)),inb',shut',fun h=>by simp at h,fun _=>⟨u,_,hb,fun j t h hj=>?_,fun j t h hp=>vals j t h,hP⟩⟩;rw [Bool.or_eq_true] at hj;rcases hj with hj|hj
   ·exact hf j t h hj
   ·obtain rfl:j=i:=by simpa using hj
    rw [H.dst j o ho,hd] at h;cases h
  ·obtain ⟨t,hdt⟩:=H.got i o ho his;have hdi:ds[i]?=some (some t):=by rw [H.dst i o ho,hdt]
   have htl:t<act.tmps.size:=by rw [hI.size];exact hsz t (List.mem_of_getElem? hdi)
   have hLs:(L s||(s==i))=L s:=by
    have:(s==i)=false:=by simpa using fun e=>his e.symm
    rw [this,Bool.or_false]
   have oth:∀ (v:Value) (j t':Nat),ds[j]?=some (some t')→j≠i→(act.put (some t) v).eval (.tmp t')=act.eval (.tmp t'):=fun v j t' h hj=>eval_put_other (hne j i t' t h hdi hj)
   have frame':∀ v,∀ t',(∀ j,(L j||(j==i))=true→ds[j]?≠some (some t'))→(act.put (some t) v).eval (.tmp t')=a.eval (.tmp t'):=fun v t' h=>by
    have h1:t'≠t:=fun e=>h i (by simp) (by rw [e];exact hdi)
    rw [eval_put_other h1];exact hI.frame t' (fun j hj=>h j (by rw [hj];rfl))
   cases hp:pure i with
   |false =>
    have hLs0:L s=false:=by
     cases hh:L s with
     |false=>rfl
     |true =>
      obtain ⟨u0,vs,hb,hf,hv,hP⟩:=hI.have1 hh;rcases Nat.lt_trichotomy i s with h1|h1|h1
      ·have hsl:s<ops.size:=hI.inb s hh;have done:∀ m,∀ j,s-j≤m→j<s→pure j=false→L j=true:=by
        intro m
        induction m with
        |zero=>intro j h1 h2;omega
        |succ m ih =>
         intro j h1 h2 hp;obtain ⟨k,o',e,hjk,hki,hpk,ho',he,hej,hbe⟩:=H.used j h2 hsl hp;subst hej;by_cases hk:k=s
         ·subst hk;exact hI.shut k o' ho' hh e he hbe
         ·exact hI.shut k o' ho' (ih k (by omega) (by omega) hpk) e he hbe
       rw [done (s-i) i (Nat.le_refl _) h1 hp] at hLi;cases hLi
      ·exact absurd h1 his
      ·rw [H.late i o ho h1] at hp;cases hp
    obtain ⟨hb,hf⟩:=hI.have0 hLs0;refine Oper.wpIn_mono ?_ (step i o t act u ho hdt hp hI.size hb hfr (fun e he hbe t' ht'=>hf e.on t' ht' (hall e he hbe)));rintro act' u' ⟨v,rfl,hv,hb'⟩;refine ⟨by rw [size_put];exact hI.size,by rw [defers_put];exact hI.defers,frame' v,inb',shut',fun _=>⟨hb.trans hb',fun j t' h hj=>?_⟩,fun h=>by rw [hLs,hLs0] at h;cases h⟩;by_cases hji:j=i
    ·subst hji;rw [hdi] at h;cases h;rw [eval_put_same htl];exact hv
    ·rw [oth v j t' h hji];exact mono _ _ _ _ hb' (hf j t' h (by rw [Bool.or_eq_true] at hj;exact hj.resolve_right (by simpa using hji)))
   |true =>
    cases hh:L s with
    |false =>
     obtain ⟨hb,hf⟩:=hI.have0 hh;refine Oper.wpIn_mono ?_ (still i o t act u u ho hdt hp hI.size hb hfr (fun e he hbe t' ht'=>hf e.on t' ht' (hall e he hbe)));rintro act' u' ⟨v,rfl,hv,rfl⟩;refine ⟨by rw [size_put];exact hI.size,by rw [defers_put];exact hI.defers,frame' v,inb',shut',fun _=>⟨hb,fun j t' h hj=>?_⟩,fun h=>by rw [hLs,hh] at h;cases h⟩;by_cases hji:j=i
     ·subst hji;rw [hdi] at h;cases h;rw [eval_put_same htl];exact hv
     ·rw [oth v j t' h hji];exact hf j t' h (by rw [Bool.or_eq_true] at hj;exact hj.resolve_right (by simpa using hji))
    |true =>
     obtain ⟨u0,vs,hb,hf,hvs,hP⟩:=hI.have1 hh;refine Oper.wpIn_mono ?_ (still i o t act u0 u ho hdt hp hI.size hb hfr (fun e he hbe t' ht'=>hf e.on t' ht' (hall e he hbe)));rintro act' u' ⟨v,rfl,hv,rfl⟩;refine ⟨by rw [size_put];exact hI.size,by rw [defers_put];exact hI.defers,frame' v,inb',shut',(by intro h;rw [hLs,hh] at h;cases h),fun _=>⟨u0,vs,hb,fun j t' h hj=>?_,fun j t' h hp'=>?_,hP⟩⟩
     ·by_cases hji:j=i
      ·subst hji;rw [hdi] at h;cases h;rw [eval_put_same htl];exact hv
      ·rw [oth v j t' h hji];exact hf j t' h (by rw [Bool.or_eq_true] at hj;exact hj.resolve_right (by simpa using hji))
     ·rw [oth v j t' h (fun e=>by subst e;rw [hp] at hp';cases hp')];exact hvs j t' h hp'
 ·intro L act u hI hall;have fill:∀ (vs vb:Nat→Value),(∀ (j t:Nat),ds[j]?=some (some t)→act.eval (.tmp t)=if pure j then vb j else vs j)→act=putL ds (fun j=>if pure j then vb j else vs j) 0 a:=fun vs vb h=>by
   refine act_ext (by rw [putL_size];exact hI.size) (by rw [putL_defers];exact hI.defers) fun t ht=>?_
   by_cases hm:some t∈ds
   ·obtain ⟨j,hj⟩:=List.getElem?_of_mem hm;rw [h j t hj,putL_at ds _ t j 0 a H.once hj (hsz t hm),Nat.zero_add]
   ·rw [putL_other ds _ t 0 a (fun d hd e=>hm (e▸hd))];exact hI.frame t (fun j _ e=>hm (List.mem_of_getElem? e))
  by_cases hs:s<ops.size
  ·obtain ⟨u0,vs,hb,hf,hv,hP⟩:=hI.have1 (hall s hs);have ev:∀ (j t:Nat),ds[j]?=some (some t)→act.eval (.tmp t)=if pure j then (fun j=>act.eval (.tmp ((ds[j]?.getD none).getD 0))) j else vs j:=fun j t h=>by
    cases hp:pure j with
    |true=>simp [h]
    |false=>simpa using hv j t h hp
   rw [fill vs _ ev];refine fin vs _ u0 u hb (fun j t h=>?_) (by rw [if_pos hs];exact hP);rw [←ev j t h];exact hf j t h (hall j (hlt j t h))
  ·have hLs:L s=false∨L s=true:=by cases L s<;>simp
   rcases hLs with hLs|hLs
   ·obtain ⟨hb,hf⟩:=hI.have0 hLs;have ev:∀ (j t:Nat),ds[j]?=some (some t)→act.eval (.tmp t)=if pure j then (fun j=>act.eval (.tmp ((ds[j]?.getD none).getD 0))) j else (fun j=>act.eval (.tmp ((ds[j]?.getD none).getD 0))) j:=fun j t h=>by simp [h]
    rw [fill _ _ ev];refine fin _ _ u u hb (fun j t h=>?_) (by rw [if_neg hs]);rw [←ev j t h];exact hf j t h (hall j (hlt j t h))
   ·exact absurd (hI.inb s hLs) hs
def putM {α:Type} (g:Nat→Nat→α) (i k:Nat) (x:α):Nat→Nat→α:=fun a b=>if a=i∧b=k then x else g a b
theorem idx_inj7 {C i k a b:Nat} (hk:k<C) (hb:b<C) (h:i*C+k=a*C+b):i=a∧k=b:=by
 have hC:0<C:=by omega
 have h1:(i*C+k)/C=i:=by rw [Nat.add_comm,Nat.add_mul_div_right _ _ hC,Nat.div_eq_of_lt hk,Nat.zero_add]
 have h2:(a*C+b)/C=a:=by rw [Nat.add_comm,Nat.add_mul_div_right _ _ hC,Nat.div_eq_of_lt hb,Nat.zero_add]
 rw [h,h2] at h1;subst h1;exact ⟨rfl,by omega⟩
theorem mk_put {α:Type} {R C i k:Nat} (hi:i<R) (hk:k<C) (f:Nat→Nat→α) (x:α):(mk R C f).set (i*C+k) x=mk R C (putM f i k x):=
 mk_ext _ _ (by rw [List.length_set,mk_len]) fun a b ha hb=>by
  rw [List.getElem?_set];by_cases h:i*C+k=a*C+b
  ·obtain ⟨rfl,rfl⟩:=idx_inj7 hk hb h;rw [if_pos rfl,if_pos (by rw [mk_len];exact mk_idx ha hb)];simp [putM]
  ·rw [if_neg h,mk_get f ha hb];unfold putM;rw [if_neg];rintro ⟨rfl,rfl⟩;exact h rfl
def colT {α:Type} (val:(Nat→Nat→α)→Nat→Nat→α) (k:Nat) (g:Nat→Nat→α):Nat→Nat→Nat→α
 |0=>g
 |m+1=>putM (colT val k g m) (k+m) k (val (colT val k g m) (k+m) k)
def triT {α:Type} (val:(Nat→Nat→α)→Nat→Nat→α) (z:α) (n:Nat):Nat→Nat→Nat→α
 |0=>fun _ _=>z
 |k+1=>colT val k (triT val z n k) (n-k)
theorem triT_const {α:Type} (f:Nat→Nat→α) (z:α) (n:Nat):∀ k,k≤n→∀ a b,a<n→triT (fun _ i k=>f i k) z n k a b=if b≤a∧b<k then f a b else z
 |0,_,a,b,_=>by rw [if_neg (by omega)];rfl
 |k+1,hk,a,b,ha=>by
  have ih:=triT_const f z n k (by omega) a b ha;have col:∀ m,colT (fun _ i k=>f i k) k (triT (fun _ i k=>f i k) z n k) m a b=if b=k∧k≤a∧a<k+m then f a b else triT (fun _ i k=>f i k) z n k a b:=by
   intro m
   induction m with
   |zero=>rw [if_neg (by omega)];rfl
   |succ m ih =>
    show putM _ _ _ _ a b=_;unfold putM;by_cases h:a=k+m∧b=k
    ·rw [if_pos h,if_pos (by omega)];obtain ⟨rfl,rfl⟩:=h;rfl
    ·rw [if_neg h,ih];by_cases h2:b=k∧k≤a∧a<k+m
     ·rw [if_pos h2,if_pos (by omega)]
     ·rw [if_neg h2,if_neg (by omega)]
  show colT _ _ _ (n-k) a b=_;rw [col,ih];by_cases h:b=k∧k≤a∧a<k+(n-k)
  ·rw [if_pos h,if_pos (by omega)]
  ·rw [if_neg h];by_cases h2:b≤a∧b<k
   ·rw [if_pos h2,if_pos (by omega)]
   ·rw [if_neg h2,if_neg (by omega)]
def setRow:List Value→Nat→List Value→List Value
 |l,_,[]=>l
 |l,q,u::us=>setRow (l.set q u) (q+1) us
theorem setRow_left:∀ (us l1 pre l2:List Value),l1.length=us.length→setRow (pre++l1++l2) pre.length us=pre++us++l2
 |[],l1,pre,l2,h=>by
  have:l1=[]:=List.eq_nil_of_length_eq_zero h;subst this;rfl
 |u::us,[],pre,l2,h=>by simp at h
 |u::us,v::l1,pre,l2,h=>by
  have e:(pre++v::l1++l2).set pre.length u=(pre++[u])++l1++l2:=by simp
  have ih:=setRow_left us l1 (pre++[u]) l2 (by simpa using h);show setRow ((pre++v::l1++l2).set pre.length u) (pre.length+1) us=_;rw [e];simpa using ih
theorem setRow_right:∀ (us l r:List Value) (q:Nat),setRow (l++r) (l.length+q) us=l++setRow r q us
 |[],l,r,q=>rfl
 |u::us,l,r,q=>by
  show setRow ((l++r).set (l.length+q) u) (l.length+q+1) us=l++setRow (r.set q u) (q+1) us;rw [List.set_append_right _ _ (by omega),Nat.add_sub_cancel_left,Nat.add_assoc,setRow_right us l _ (q+1)]
theorem flat_set {α:Type} {s:Nat} {c:α→List Value} (hs:∀ x,(c x).length=s):∀ (xs:List α) (q:Nat) (x:α),q<xs.length→setRow (xs.flatMap c) (q*s) (c x)=(xs.set q x).flatMap c
 |[],q,x,h=>by simp at h
 |y::ys,0,x,h=>by
  have:=setRow_left (c x) (c y) [] (ys.flatMap c) (by rw [hs,hs]);simpa using this
 |y::ys,q+1,x,h=>by
  have:=setRow_right (c x) (c y) (ys.flatMap c) (q*s);rw [hs] at this;rw [List.flatMap_cons,show (q+1)*s=s+q*s by rw [Nat.add_mul];omega,this,flat_set hs ys q x (by simpa using h)];simp
theorem flatI7 (xs:List Int):xs.flatMap cellsI=xs.map (fun x=>(.int .i64 x:Value)):=by
 induction xs with
 |nil=>rfl
 |cons x xs ih=>rw [List.flatMap_cons,ih];rfl
theorem zeros_made (n:Nat):(madeCells (Value.cells (.int .i64 0)) (n*1)).toList=(List.replicate n (0:Int)).flatMap cellsI:=by
 rw [flatI7,Nat.mul_one,List.map_replicate];exact toList_madeCells_one _ _
theorem zeros_map {α:Type} (n:Nat) (f:Int→α):(List.replicate (n*n) (0:Int)).map f=mk n n (fun _ _=>f 0):=
 mk_ext _ _ (by simp) fun i k hi hk=>by simp [List.getElem?_replicate,mk_idx hi hk]
theorem own_base {w:World} {base base':Nat} {e:TypeId} {s:Nat} {v:Value} {n:Nat} {xs:List Value} (h:w.ownsRow base e s v n xs) (hb:base'≤base):w.ownsRow base' e s v n xs:=by
 refine ⟨h.1,?_⟩;rcases h.2 with h|⟨g,cap,cur,e1,h1,r⟩
 ·exact .inl h
 ·exact .inr ⟨g,cap,cur,e1,Nat.le_trans hb h1,r⟩
def putX (w:World) (b:Nat):Nat→List Value→World
 |_,[]=>w
 |q,u::us=>putX (w.setCell ⟨b,q,none⟩ u) b (q+1) us
theorem mbox_putX {b' b:Nat} {r c:Int} {p:Option Addr} {n cap:Nat}:∀ {w:World},MBox w b r c p n cap→b≠b'→∀ (q:Nat) (us:List Value),MBox (putX w b' q us) b r c p n cap:=by
 intro w h hne q us
 induction us generalizing w q with
 |nil=>exact h
 |cons u us ih=>exact ih (mbox_block h (Below.heap_setCell _ _ _ b (by show b≠b';exact hne)) (by simp)) (q+1)
theorem bl_putX {a:World} {b':Nat}:∀ {w:World},Bl a w→a.heap.size≤b'→∀ (q:Nat) (us:List Value),Bl a (putX w b' q us):=by
 intro w h hne q us
 induction us generalizing w q with
 |nil=>exact h
 |cons u us ih=>exact ih (Bl.set h hne _) (q+1)
theorem wrapS7 {x:Int} (h1:-1000000≤x) (h2:x≤1000000):IntKind.i64.wrap x=x:=by
 rw [IntKind.wrap_i64];omega
theorem Mx.congr7 {α:Type} {s:Nat} {c:α→List Value} {w:World} {R C:Nat} {p:Option Addr} {n cap:Nat} {f g:Nat→Nat→α} (h:Mx s c w R C p n cap f) (e:∀ i k,i<R→k<C→f i k=g i k):Mx s c w R C p n cap g:=
 ⟨h.1,h.2.1,by rw [←mk_congr e];exact h.2.2⟩
theorem rq_set7 {α:Type} {s:Nat} {c:α→List Value} {w:World} {v:Value} {xs:List α} (h:Rq s c w v xs) {p:Addr} (u:Value) (hf:Fresh (p.block+1) v):Rq s c (w.setCell p u) v xs:=by
 rcases h with h|⟨b,o,cap,rfl,hc,hb,hx⟩
 ·exact .inl h
 ·have hne:p.block+1≤b:=hf b rfl;have hk:(w.setCell p u).heap[b]?=w.heap[b]?:=Below.heap_setCell _ _ _ b (by omega);exact .inr ⟨b,o,cap,rfl,hc,by simpa using hb,fun j x hj k v hv=>(World.cell?_of_block (a:=⟨b,o+j*s+k,none⟩) hk).trans (hx j x hj k v hv)⟩
theorem mx_put7 {α:Type} {s:Nat} {c:α→List Value} {w:World} {R C:Nat} {p:Option Addr} {n cap b:Nat} {f:Nat→Nat→α} (h:Mx s c w R C p n cap f) (hf:Fresh (b+1) (.slice p n cap)) (v0 v1 v2:Value):Mx s c (((w.setCell ⟨b,0,none⟩ v0).setCell ⟨b,1,none⟩ v1).setCell ⟨b,2,none⟩ v2) R C p n cap f:=
 ⟨h.1,h.2.1,rq_set7 (rq_set7 (rq_set7 h.2.2 (p:=⟨b,0,none⟩) v0 hf) (p:=⟨b,1,none⟩) v1 hf) (p:=⟨b,2,none⟩) v2 hf⟩
def sqB (r c:Int) (n:Nat):Bool:=fitB r c n&&decide (r=c)
def NoB (u:World) (b:Nat):Prop:=∀ o x,u.cell? ⟨b,o,none⟩≠some (.bool x)
theorem NoB.later {u u':World} {b:Nat} (h:NoB u b) (k:Bl u u') (hb:b<u.heap.size):NoB u' b:=fun o x e=>h o x ((bl_cell k _ _ hb).symm.trans e)
theorem noB_new (u:World) (t:TypeId):NoB (u.alloc (.cells #[.int .i64 0,.int .i64 0,.slice none 0 0] t)) u.heap.size:=by
 intro o x;rcases o with _|_|_|o
 ·simp [go_sem]
 ·simp [go_sem]
 ·simp [go_sem]
 ·simp [go_sem]
theorem noB_mx {α:Type} {s:Nat} {c:α→List Value} (hc:∀ x,∃ (j:Nat) (y:Bool),(c x)[j]?=some (Value.bool y)) {u:World} {R C:Nat} {p:Option Addr} {n cap:Nat} {f:Nat→Nat→α} (h:Mx s c u R C p n cap f) {b:Nat} (nb:NoB u b):∀ g,(Value.slice p n cap).ownBlock=some g→b≠g:=by
 obtain ⟨b',o,rfl,_,_,hcell⟩:=h.cells;obtain ⟨j,y,hj⟩:=hc (f 0 0);have:=hcell 0 0 h.1.r1 h.1.c1 j _ hj;rintro g hg rfl;cases hg;exact nb _ _ this
theorem mx_ne7 {α:Type} {s:Nat} {c:α→List Value} {w:World} {R C:Nat} {p:Option Addr} {n cap b:Nat} {f:Nat→Nat→α} (h:Mx s c w R C p n cap f) (hf:∀ g,(Value.slice p n cap).ownBlock=some g→b≠g) (v0 v1 v2:Value):Mx s c (((w.setCell ⟨b,0,none⟩ v0).setCell ⟨b,1,none⟩ v1).setCell ⟨b,2,none⟩ v2) R C p n cap f:=by
 have one:∀ (w:World) (a:Addr) (v:Value),a.block=b→Rq s c w (.slice p n cap) (mk R C f)→Rq s c (w.setCell a v) (.slice p n cap) (mk R C f):=by
  intro w a v ha h;rcases h with h|⟨b',o,cap',e,hc,hb,hx⟩
  ·exact .inl h
  ·cases e;have hne:=hf b' rfl;have hk:(w.setCell a v).heap[b']?=w.heap[b']?:=Below.heap_setCell _ _ _ b' (by omega);exact .inr ⟨b',o,cap,rfl,hc,by simpa using hb,fun j x hj k v hv=>(World.cell?_of_block (a:=⟨b',o+j*s+k,none⟩) hk).trans (hx j x hj k v hv)⟩
 exact ⟨h.1,h.2.1,one _ _ _ rfl (one _ _ _ rfl (one _ _ _ rfl h.2.2))⟩
theorem mbox_set7 {w:World} {b b':Nat} {r c:Int} {p:Option Addr} {n cap:Nat} (h:MBox w b r c p n cap) (hne:b≠b') (o:Nat) (v:Value):MBox (w.setCell ⟨b',o,none⟩ v) b r c p n cap:=
 mbox_block h (Below.heap_setCell _ _ _ b (by show b≠b';exact hne)) (by simp)
theorem rw_cells7 {α:Type} {s:Nat} {c:α→List Value} {w:World} {x:RowX} {C:Nat} {xs:List α} (h:Rw s c w (rowV C x) xs) (h0:0<C):∃ b o,x.2.1=some ⟨b,o,none⟩∧b<w.heap.size∧∀ (j:Nat) y,xs[j]?=some y→∀ k u,(c y)[k]?=some u→w.cell? ⟨b,o+j*s+k,none⟩=some u:=by
 rcases h with ⟨e,_⟩|⟨b,o,cap,e,_,hb,hx⟩
 ·simp only [rowV,Value.slice.injEq] at e;omega
 ·simp only [rowV,Value.slice.injEq] at e;exact ⟨b,o,e.1,hb,hx⟩
theorem enter_wp {F:Fence} {n:Nat} {P:Program} {o:Oper} {a:Act} {w:World} {K:Act→World→Prop} {Q:Exit→Act→World→Prop} (f:Nat) (args:Array Value) (hd:∀ c,o.op≠.defer c) (ha:∀ g,o.about P w a.eval=some g→F.fn g)
  (hr:(execOp a.eval o).run P w=.ok (.enter f args) w) (h1:F.depth.isSome=true→1≤n) {R:Ending→World→Prop} (hc:CallsIn F (n-1) P f args w R) (hK:∀ e w',R e w'→∃ v,e=.returned v∧K (a.put o.dst v) w'):Oper.wpIn F n P o a w K Q:=by
 unfold Oper.wpIn;refine ⟨ha,?_⟩;rw [Oper.semAt_plain F _ _ hd,hr,Oper.uponIn_enter];refine ⟨h1,hc.mono ?_⟩;intro e w' h;obtain ⟨v,rfl,h2⟩:=hK e w' h;exact h2
abbrev sJ (px:Option Addr) (nx cx:Nat) (r c:Int) (p:Option Addr) (n cap:Nat):Value:=.agg #[.slice px nx cx,.int .i64 r,.int .i64 c,.slice p n cap]
structure SBox (w:World) (b:Nat) (px:Option Addr) (nx cx:Nat) (r c:Int) (p:Option Addr) (n cap:Nat):Prop where
 c0:w.cell? ⟨b,0,none⟩=some (.slice px nx cx)
 c1:w.cell? ⟨b,1,none⟩=some (.int .i64 r)
 c2:w.cell? ⟨b,2,none⟩=some (.int .i64 c)
 c3:w.cell? ⟨b,3,none⟩=some (.slice p n cap)
 f0:w.frozen? ⟨b,0,none⟩=false
 f1:w.frozen? ⟨b,1,none⟩=false
 f2:w.frozen? ⟨b,2,none⟩=false
 f3:w.frozen? ⟨b,3,none⟩=false
 lt:b<w.heap.size
theorem SBox.later {w w':World} {b:Nat} {px:Option Addr} {nx cx:Nat} {r c:Int} {p:Option Addr} {n cap:Nat} (h:SBox w b px nx cx r c p n cap) (k:Bl w w'):SBox w' b px nx cx r c p n cap:=by
 have:=h.lt;refine ⟨?_,?_,?_,?_,?_,?_,?_,?_,by have:=Below.size k;omega⟩
 ·rw [bl_cell k _ _ this];exact h.c0
 ·rw [bl_cell k _ _ this];exact h.c1
 ·rw [bl_cell k _ _ this];exact h.c2
 ·rw [bl_cell k _ _ this];exact h.c3
 ·rw [bl_froz k _ _ this];exact h.f0
 ·rw [bl_froz k _ _ this];exact h.f1
 ·rw [bl_froz k _ _ this];exact h.f2
 ·rw [bl_froz k _ _ this];exact h.f3
theorem SBox.new (w:World) (px:Option Addr) (nx cx:Nat) (r c:Int) (p:Option Addr) (n cap:Nat) (t:TypeId):SBox (w.alloc (.cells #[.slice px nx cx,.int .i64 r,.int .i64 c,.slice p n cap] t)) w.heap.size px nx cx r c p n cap:=by
 refine ⟨?_,?_,?_,?_,?_,?_,?_,?_,by simp⟩<;>simp [go_sem]
theorem Bl.put4 {a b:World} (h:Bl a b) {n:Nat} (hn:a.heap.size≤n) (v0 v1 v2 v3:Value):Bl a ((((b.setCell ⟨n,0,none⟩ v0).setCell ⟨n,1,none⟩ v1).setCell ⟨n,2,none⟩ v2).setCell ⟨n,3,none⟩ v3):=
 Bl.set (Bl.set (Bl.set (Bl.set h hn _) hn _) hn _) hn _
theorem SBox.fill {u:World} {b:Nat} {px:Option Addr} {nx cx:Nat} {r c:Int} {p:Option Addr} {n cap:Nat} (h:SBox u b px nx cx r c p n cap) (px':Option Addr) (nx' cx':Nat) (r' c':Int) (p':Option Addr) (n' cap':Nat) :
  SBox ((((u.setCell ⟨b,0,none⟩ (.slice px' nx' cx')).setCell ⟨b,1,none⟩ (.int .i64 r')).setCell ⟨b,2,none⟩ (.int .i64 c')).setCell ⟨b,3,none⟩ (.slice p' n' cap')) b px' nx' cx' r' c' p' n' cap':=by
 obtain ⟨c0,c1,c2,c3,f0,f1,f2,f3,lt⟩:=h;refine ⟨?_,?_,?_,?_,?_,?_,?_,?_,?_⟩<;>simp [go_sem, *]
theorem rq_put4 {α:Type} {s:Nat} {c:α→List Value} {w:World} {v:Value} {xs:List α} {b:Nat} (h:Rq s c w v xs) (hf:Fresh (b+1) v) (v0 v1 v2 v3:Value):Rq s c ((((w.setCell ⟨b,0,none⟩ v0).setCell ⟨b,1,none⟩ v1).setCell ⟨b,2,none⟩ v2).setCell ⟨b,3,none⟩ v3) v xs:=
 rq_set7 (rq_set7 (rq_set7 (rq_set7 h (p:=⟨b,0,none⟩) v0 hf) (p:=⟨b,1,none⟩) v1 hf) (p:=⟨b,2,none⟩) v2 hf) (p:=⟨b,3,none⟩) v3 hf
theorem mx_put4 {α:Type} {s:Nat} {c:α→List Value} {w:World} {R C:Nat} {p:Option Addr} {n cap b:Nat} {f:Nat→Nat→α} (h:Mx s c w R C p n cap f) (hf:Fresh (b+1) (.slice p n cap)) (v0 v1 v2 v3:Value) :
  Mx s c ((((w.setCell ⟨b,0,none⟩ v0).setCell ⟨b,1,none⟩ v1).setCell ⟨b,2,none⟩ v2).setCell ⟨b,3,none⟩ v3) R C p n cap f:=
 ⟨h.1,h.2.1,rq_put4 h.2.2 hf v0 v1 v2 v3⟩
theorem fresh_le {a b:Nat} {v:Value} (h:Fresh a v) (k:b≤a):Fresh b v:=fun g hg=>by have:=h g hg;omega
def fitJ (r c:Int) (n:Nat) (k:Int):Bool:=decide (k≤4)&&(fitB r c n&&(r==k&&c==k))
theorem fitJ_dim {n N:Nat} (hd:Dim n n) (hn:N=n*n) (h4:n≤4):fitJ n n N n=true:=by
 unfold fitJ;rw [fitB_dim hd hn];simp;omega
theorem dim_le4 {n:Nat} (h1:1≤n) (h4:n≤4):Dim n n:=⟨h1,by omega,h1,by omega⟩
theorem mRightF (r c:Int) (p:Option Addr) (n cap:Nat) (w:World) :
  Calls Tryz.prog 85 #[mV r c p n cap] w fun e w'=>e=.returned (.bool (fitB r c n))∧Bl w w':=by
 go_enter Tryz.func85,Tryz.ntmps85;go_wp2_with fail
 refine (fits_any _ _ _ _).mono ?_;rintro e w1 ⟨rfl,rfl⟩;go_wp2;go_ret;exact ⟨rfl,(Bl.refl _).alloc _⟩
theorem mNewF (r c:Int) (p:Option Addr) (n cap:Nat) (xs:List Fr) (w:World) (hr:Rq 3 cellsF w (.slice p n cap) xs) (h:fitB r c n=true) (hn:xs.length=n) :
  Calls Tryz.prog 98 #[.int .i64 r,.int .i64 c,.slice p n cap] w fun e w'=>∃ p' cap',e=.returned (.tuple #[mV r c p' n cap',.bool true])∧(Rw 3 cellsF w' (.slice p' n cap') xs∧Fresh w.heap.size (.slice p' n cap'))∧Bl w w':=by
 have hl:n≤1000000:=by obtain ⟨R,C,_,_,hd,rfl⟩:=fitB_nat h;have:=hd.lt;omega
 obtain ⟨W,hW⟩:∃ W,W=w.alloc (.cells #[.int .i64 0,.int .i64 0,.slice none 0 0] 30):=⟨_,rfl⟩;have b0:Bl w W:=by rw [hW];exact (Bl.refl _).alloc _
 have x0:MBox W w.heap.size 0 0 none 0 0:=by rw [hW];exact MBox.new w 0 0 none 0 0 _
 have hsz:W.heap.size=w.heap.size+1:=by rw [hW];simp
 have CL:=hideP (vCloneF (.slice p n cap) xs W (hr.later b0) (by omega));have HW:=hideP hW;clear hW hr
 go_enter Tryz.func98,Tryz.ntmps98;go_wp2_with fail
 rw [←HW.out];refine (fits_any _ _ _ _).mono ?_;rintro e w1 ⟨rfl,rfl⟩;rw [h];go_wp2_with fail
 refine CL.out.mono ?_;rintro e w2 ⟨u,rfl,hR,hF,h2⟩;obtain ⟨p',cap',rfl,_,_⟩:=hR.cut;rw [hn] at hR hF ⊢;have HR:=hideP hR;have HF:=hideP hF;obtain ⟨c0,c1,c2,f0,f1,f2,lt⟩:=x0.later h2;clear hR hF CL;go_wp2;simp [bodyPost,results,Tryz.results98,go_sem,c0,c1,c2];refine ⟨p',cap',⟨rfl,rfl⟩,⟨((HR.out.set _ ?_).set _ ?_).set _ ?_,fun g hg=>?_⟩,Bl.put3 (b0.trans h2) (Nat.le_refl _) _ _ _⟩
 ·exact fun g hg=>by have:=HF.out g hg;show w.heap.size+1≤g;omega
 ·exact fun g hg=>by have:=HF.out g hg;show w.heap.size+1≤g;omega
 ·exact fun g hg=>by have:=HF.out g hg;show w.heap.size+1≤g;omega
 ·have:=HF.out g hg;omega
theorem mWholeF (r c:Int) (p:Option Addr) (n cap:Nat) (ns:List Int) (w:World) (hr:Rq 1 (fun n=>[.int .i64 n]) w (.slice p n cap) ns) (h:fitB r c n=true) (hn:ns.length=n) :
  Calls Tryz.prog 12 #[.int .i64 r,.int .i64 c,.slice p n cap] w fun e w'=>∃ p' cap',e=.returned (.tuple #[mV r c p' n cap',.bool true])∧Rw 3 cellsF w' (.slice p' n cap') (ns.map wholeF)∧Bl w w':=by
 have hl:n≤1000000:=by obtain ⟨R,C,_,_,hd,rfl⟩:=fitB_nat h;have:=hd.lt;omega
 obtain ⟨W,hW⟩:∃ W,W=w.alloc (.cells #[.int .i64 0,.int .i64 0,.slice none 0 0] 30):=⟨_,rfl⟩;have b0:Bl w W:=by rw [hW];exact (Bl.refl _).alloc _
 have x0:MBox W w.heap.size 0 0 none 0 0:=by rw [hW];exact MBox.new w 0 0 none 0 0 _
 have hsz:W.heap.size=w.heap.size+1:=by rw [hW];simp
 have CL:=hideP (vWholeF' (.slice p n cap) ns W (hr.later b0) (by omega));have HW:=hideP hW;clear hW hr
 go_enter Tryz.func12,Tryz.ntmps12;go_wp2_with fail
 rw [←HW.out];refine (fits_any _ _ _ _).mono ?_;rintro e w1 ⟨rfl,rfl⟩;rw [h];go_wp2_with fail
 refine CL.out.mono ?_;rintro e w2 ⟨u,rfl,hR,hF,h2⟩;obtain ⟨p',cap',rfl,_,_⟩:=hR.cut;rw [List.length_map,hn] at hR hF ⊢;have HR:=hideP hR;have HF:=hideP hF;obtain ⟨c0,c1,c2,f0,f1,f2,lt⟩:=x0.later h2;clear hR hF CL;go_wp2;simp [bodyPost,results,Tryz.results12,go_sem,c0,c1,c2];refine ⟨p',cap',⟨rfl,rfl⟩,((HR.out.set _ ?_).set _ ?_).set _ ?_,Bl.put3 (b0.trans h2) (Nat.le_refl _) _ _ _⟩
 ·exact fun g hg=>by have:=HF.out g hg;show w.heap.size+1≤g;omega
 ·exact fun g hg=>by have:=HF.out g hg;show w.heap.size+1≤g;omega
 ·exact fun g hg=>by have:=HF.out g hg;show w.heap.size+1≤g;omega
set_option maxHeartbeats 1000000 in
theorem jFitsF (r c:Int) (p:Option Addr) (n cap:Nat) (k:Int) (w:World) :
  Calls Tryz.prog 42 #[mV r c p n cap,.int .i64 k] w fun e w'=>e=.returned (.bool (fitJ r c n k))∧Bl w w':=by
 obtain ⟨W,hW⟩:∃ W,W=w.alloc (.cells #[.int .i64 r,.int .i64 c,.slice p n cap] 30):=⟨_,rfl⟩;have b0:Bl w W:=by rw [hW];exact (Bl.refl _).alloc _
 have mx0:MBox W w.heap.size r c p n cap:=by rw [hW];exact MBox.new w _ _ _ _ _ _
 have HW:=hideP hW;by_cases h4:k≤4
 ·obtain ⟨c0,c1,c2,f0,f1,f2,lt⟩:=id mx0;rw [hW] at c0 c1 c2;clear hW
  go_enter Tryz.func42,Tryz.ntmps42;go_wp2_with fail
  rw [←HW.out];refine (mRightF _ _ _ _ _ _).mono ?_;rintro e w1 ⟨rfl,h1⟩;clear c0 c1 c2 f0 f1 f2 lt;obtain ⟨c0,c1,c2,f0,f1,f2,lt⟩:=mx0.later h1;cases hf:fitB r c n with
  |false =>
   go_wp2;go_ret;exact ⟨by unfold fitJ;rw [hf];simp,b0.trans h1⟩
  |true =>
   by_cases e1:r=k
   ·subst e1;by_cases e2:c=r
    ·subst e2;go_wp2;go_ret;exact ⟨by unfold fitJ;rw [hf];simp [h4],b0.trans h1⟩
    ·have e2':(c==r)=false:=by simp;omega
     go_wp2;go_ret;exact ⟨by unfold fitJ;rw [hf,e2'];simp,b0.trans h1⟩
   ·have e1':(r==k)=false:=by simp;omega
    go_wp2;go_ret;exact ⟨by unfold fitJ;rw [hf,e1'];simp,b0.trans h1⟩
 ·have h4':¬ k≤4:=h4;clear hW
  go_enter Tryz.func42,Tryz.ntmps42;go_wp2;go_ret;rw [←HW.out];exact ⟨by unfold fitJ;rw [decide_eq_false (by omega)];rfl,b0⟩
set_option maxHeartbeats 1000000 in
theorem jRightF (px:Option Addr) (nx cx:Nat) (r c:Int) (p:Option Addr) (n cap:Nat) (w:World) :
  Calls Tryz.prog 41 #[sJ px nx cx r c p n cap] w fun e w'=>e=.returned (.bool (fitJ r c n nx))∧Bl w w':=by
 obtain ⟨W,hW⟩:∃ W,W=w.alloc (.cells #[.slice px nx cx,.int .i64 r,.int .i64 c,.slice p n cap] 36):=⟨_,rfl⟩;have b0:Bl w W:=by rw [hW];exact (Bl.refl _).alloc _
 have HW:=hideP hW;clear hW
 go_enter Tryz.func41,Tryz.ntmps41;go_wp2_with fail
 rw [←HW.out];refine (jFitsF _ _ _ _ _ _ _).mono ?_;rintro e w1 ⟨rfl,h1⟩;go_wp2;go_ret;exact ⟨rfl,b0.trans h1⟩
theorem pw9 {F:Fence} {n:Nat} {P:Program} {o:Oper} {a:Act} {w w':World} {K:Act→World→Prop} {Q:Exit→Act→World→Prop} {v:Value} (hr:(execOp a.eval o).run P w=.ok (.value v) w') (hK:K (a.put o.dst v) w') (hd:∀ c,o.op≠.defer c:=by intro c h;cases h) (ha:∀ f,o.about P w a.eval=some f→F.fn f:=by exact fun _ _=>trivial) :
  Oper.wpIn F n P o a w K Q:=plain_wp hd ha hr hK
theorem pl9 {F:Fence} {n:Nat} {P:Program} {o:Oper} {a:Act} {w w':World} {K:Act→World→Prop} {Q:Exit→Act→World→Prop} {v:Value} (hK:K (a.put o.dst v) w':=by exact ⟨_,rfl,rfl,Bl.refl _⟩) (r:(execOp a.eval o).run P w=.ok (.value v) w') (hd:∀ c,o.op≠.defer c:=by intro c h;cases h) (ha:∀ f,o.about P w a.eval=some f→F.fn f:=by exact fun _ _=>trivial) :
  Oper.wpIn F n P o a w K Q:=plain_wp hd ha r hK
theorem sw9 {F:Fence} {n:Nat} {P:Program} {o:Oper} {a:Act} {w w':World} {K:Act→World→Prop} {Q:Exit→Act→World→Prop} (hr:(execOp a.eval o).run P w=.ok .skip w') (hK:K (a.put o.dst undef) w') (hd:∀ c,o.op≠.defer c:=by intro c h;cases h) (ha:∀ f,o.about P w a.eval=some f→F.fn f:=by exact fun _ _=>trivial) :
  Oper.wpIn F n P o a w K Q:=skip_wp hd ha hr hK
theorem ew9 {P:Program} {n:Nat} {o:Oper} {a:Act} {w:World} {K:Act→World→Prop} {Q:Exit→Act→World→Prop} (f:Nat) (args:Array Value) (hr:(execOp a.eval o).run P w=.ok (.enter f args) w) {R:Ending→World→Prop} (hc:Calls P f args w R) (hK:∀ e w',R e w'→∃ v,e=.returned v∧K (a.put o.dst v) w')
  (hd:∀ c,o.op≠.defer c:=by intro c h;cases h):Oper.wpIn Fence.wide n P o a w K Q:=by
 unfold Oper.wpIn;refine ⟨fun _ _=>trivial,?_⟩;rw [Oper.semAt_plain Fence.wide _ _ hd,hr,Oper.uponIn_enter];refine ⟨(fun h=>by cases h),(callsIn_wide.2 hc).mono ?_⟩;intro e w' h;obtain ⟨v,rfl,h2⟩:=hK e w' h;exact h2
theorem o9 {α:Type} {l:List α} {k:Nat} {o x:α} (h:l.toArray[k]?=some o) (e:l[k]?=some x:=by exact rfl):x=o:=by
 rw [List.getElem?_toArray] at h;exact Option.some.inj (e.symm.trans h)
theorem l9 {α:Type} {l:List α} {k m:Nat} {o:α} (h:l.toArray[k]?=some o) (e:l.length=m:=by exact rfl):k<m:=by
 have:=(Array.getElem?_eq_some_iff.1 h).1;rw [List.size_toArray,e] at this;exact this
theorem o7 {l:List Oper} {k:Nat} {o x:Oper} {t s:Nat} (h:l.toArray[k]?=some o) (g:o.dst=some t) (e:l[k]?=some x:=by exact rfl) (d:x.dst=some s:=by exact rfl):x=o∧s=t:=by
 rw [List.getElem?_toArray] at h;have:=Option.some.inj (e.symm.trans h);subst this;exact ⟨rfl,Option.some.inj (d.symm.trans g)⟩
attribute [seval] execOp evalC evalF evalG resolve List.map_toArray List.map_cons List.map_nil putL Act.put List.setIfInBounds_toArray List.set_cons_zero List.set_cons_succ Nat.zero_add Bool.or_false Bool.or_true Bool.false_or Bool.true_or Bool.false_eq_true if_false if_true beq_self_eq_true Bool.or_self
theorem mAtF (R C:Nat) (p:Option Addr) (n cap:Nat) (f:Nat→Nat→Fr) (w:World) (h:Mx 3 cellsF w R C p n cap f) (i k:Nat) (hi:i<R) (hk:k<C) :
  Calls Tryz.prog 113 #[mV R C p n cap,.int .i64 i,.int .i64 k] w fun e w'=>e=.returned (frV (f i k))∧Bl w w':=by
 have hfit:=h.fit;obtain ⟨b,o,rfl,hc,hb,HC⟩:=h.cells;obtain ⟨hd,hn,-⟩:=h;have CX:=HC i k hi hk;clear HC;have ha1:=amongB_t hi;have ha2:=amongB_t hk;obtain ⟨a,q,e1,e2,hq1,hq3,hq5,hq6⟩:=place hd hi hk;rw [←e2] at CX;rw [←hn] at hq5;clear e1 e2;generalize hx:f i k=x at *;have y0:∀ u,Bl w u→u.cell? ⟨b,o+q*3,none⟩=some (.int .i64 x.n):=fun u hu=>(bl_cell hu _ _ hb).trans (CX 0 _ rfl)
 have y1:∀ u,Bl w u→u.cell? ⟨b,o+q*3+1,none⟩=some (.int .i64 x.d):=fun u hu=>(bl_cell hu _ _ hb).trans (CX 1 _ rfl)
 have y2:∀ u,Bl w u→u.cell? ⟨b,o+q*3+2,none⟩=some (.bool x.bad):=fun u hu=>(bl_cell hu _ _ hb).trans (CX 2 _ rfl)
 clear CX hx;have h16:=hd.lt;rw [←hn] at h16;clear hn;obtain ⟨W,hW⟩:∃ W,W=(w.alloc (.cells #[.int .i64 R,.int .i64 C,.slice (some ⟨b,o,none⟩) n cap] 30)).alloc (.cells #[.int .i64 0,.int .i64 0,.bool false] 34):=⟨_,rfl⟩;have b0:Bl w W:=by rw [hW];exact ((Bl.refl _).alloc _).alloc _
 have m0:MBox W w.heap.size R C (some ⟨b,o,none⟩) n cap:=by rw [hW];exact (MBox.new w _ _ _ _ _ _).later ((Bl.refl _).alloc _)
 have x0:FBox W (w.heap.size+1) zeroR:=by rw [hW];have:=FBox.new (w.alloc (.cells #[.int .i64 R,.int .i64 C,.slice (some ⟨b,o,none⟩) n cap] 30)) zeroR 34;rw [World.size_alloc] at this;exact this
 have HW:=hideP hW;clear hW
 go_enter Tryz.func113,Tryz.ntmps113;go_wp2_with fail
 rw [←HW.out];refine (mRightF _ _ _ _ _ _).mono ?_;rintro e w1 ⟨rfl,h1⟩;rw [hfit];obtain ⟨c0,c1,c2,f0,f1,f2,lt⟩:=m0.later h1;go_wp2_with fail
 refine (among_any _ _ _).mono ?_;rintro e w2 ⟨rfl,rfl⟩;rw [ha1];go_wp2_with fail
 refine (among_any _ _ _).mono ?_;rintro e w3 ⟨rfl,rfl⟩;rw [ha2];have z0:=y0 _ (b0.trans h1);have z1:=y1 _ (b0.trans h1);have z2:=y2 _ (b0.trans h1);obtain ⟨d0,d1,d2,g0,g1,g2,lt2⟩:=x0.later h1;clear y0 y1 y2;go_wp2;simp [bodyPost,results,Tryz.results113,go_sem,d0,d1,d2];exact Bl.set3 (b0.trans h1) (Nat.le_succ _) _ _ _
theorem Tryz.partF (b o n cap lo hi:Nat) (w:World) (h1:lo≤hi) (h2:hi≤n) (h3:n≤cap) (h4:lo<cap):(Instr.sliceAt 28 (.slice (some ⟨b,o,none⟩) n cap) (some (.int .i64 lo)) (some (.int .i64 hi)) none).run Tryz.prog w=.ok (.slice (some ⟨b,o+lo*3,none⟩) (hi-lo) (cap-lo)) w:=by
 have hu:Tryz.prog.underlying 28=some (.slice (Tryz.prog.elem 28)):=by kernel_rfl
 obtain ⟨i0,hi0,hz0,hz1,hz2⟩:=info_parts Tryz.info_F;have he:Tryz.prog.elem 28=34:=by kernel_rfl
 rw [run_sliceAt_slice (h:=hu),run_slice_lh (ht:=hu) (h0:=by omega) (h1:=by omega) (h2:=by omega),he];have hcm:¬ cap=lo:=by omega
 have hcm':¬ cap≤lo:=by omega
 simp [sizeOf,typeInfo,hi0,sliced,Result.andThen,hz1,hcm,hcm',Addr.add]
theorem mRowF (R C:Nat) (p:Option Addr) (n cap:Nat) (f:Nat→Nat→Fr) (w:World) (h:Mx 3 cellsF w R C p n cap f) (i:Nat) (hi:i<R) :
  Calls Tryz.prog 129 #[mV R C p n cap,.int .i64 i] w fun e w'=>∃ p' cap',e=.returned (.slice p' C cap')∧(Rw 3 cellsF w' (.slice p' C cap') (rowM C f i)∧Fresh w.heap.size (.slice p' C cap')∧C≤cap')∧Bl w w':=by
 have hfit:=h.fit;obtain ⟨b,o,rfl,hc,hb,-⟩:=h.cells;obtain ⟨hd,hn,hR⟩:=h;have ha1:=amongB_t hi;have h16:=hd.lt;have hi16:i<16:=Nat.lt_of_lt_of_le hi hd.r2;have hC16:=hd.c2;have hC1:=hd.c1;obtain ⟨a,e,e1,e2,hq1,hq3,hq5,hq6,hq7⟩:=places hd hi;have hpt:Rq 3 cellsF w (.slice (some ⟨b,o+a*3,none⟩) C (cap-a)) (rowM C f i):=by
  have:=hR.part (lo:=a) (m:=C) (by rw [mk_len,hn]) (by omega) (by omega) (cap-a) (by omega);rw [e1,mk_row f hi] at this;rw [e1];exact this
 have sl:=fun u=>Tryz.partF b o n cap a e u (by omega) (by omega) hc (by omega)
 rw [show e-a=C by omega] at sl;have HP:=hideP hpt;rw [←hn] at h16 hq5;clear hR hpt e1 e2 hn;obtain ⟨W,hW⟩:∃ W,W=(w.alloc (.cells #[.int .i64 R,.int .i64 C,.slice (some ⟨b,o,none⟩) n cap] 30)):=⟨_,rfl⟩;have b0:Bl w W:=by rw [hW];exact (Bl.refl _).alloc _
 have m0:MBox W w.heap.size R C (some ⟨b,o,none⟩) n cap:=by rw [hW];exact MBox.new w _ _ _ _ _ _
 have HW:=hideP hW;clear hW
 go_enter Tryz.func129,Tryz.ntmps129;go_wp2_with fail
 rw [←HW.out];refine (mRightF _ _ _ _ _ _).mono ?_;rintro e w1 ⟨rfl,h1⟩;rw [hfit];obtain ⟨c0,c1,c2,f0,f1,f2,lt⟩:=m0.later h1;go_wp2_with fail
 refine (among_any _ _ _).mono ?_;rintro e w2 ⟨rfl,rfl⟩;rw [ha1];go_wp2_with fail
 refine (vCloneF _ (rowM C f i) _ (HP.out.later (b0.trans h1)) (by rw [rowM_len];omega)).mono ?_;rintro e w3 ⟨u,rfl,hR,hF,h3⟩;obtain ⟨p',cap',rfl,hcl,_⟩:=hR.cut;rw [rowM_len] at hR hF hcl ⊢;have HR:=hideP hR;have HF:=hideP hF;clear hR hF;go_wp2;go_ret;exact ⟨p',cap',rfl,⟨HR.out,fun g hg=>by have:=HF.out g hg;have:=(b0.trans h1).size;omega,hcl⟩,(b0.trans h1).trans h3⟩
end Go.Proofs.YtljmggemdkfbiaaGreat
