/- Contract of house's fold, of fractions (layer 8). Written by genHu.py. -/
import Derived.Test.YtljmggemdkfbiaaGreatWC
import Derived.Laws.EntriesVeiled
import Derived.Test.YtljmggemdkfbiaaGreatWB
import Derived.Test.YtljmggemdkfbiaaGreatWA
namespace Go.Proofs.YtljmggemdkfbiaaGreat
open Go.RowKit Go.Shelf
set_option linter.unusedSimpArgs false
set_option linter.unusedVariables false
attribute [local go_sem] Oper.semAt_some
set_option maxRecDepth 100000 in
set_option maxHeartbeats 4000000 in
theorem mApplyF' (R M:Nat) (p:Option Addr) (n cap:Nat) (f:Nat→Nat→Fr) (q:Option Addr) (cap2:Nat) (xs:List Fr) (w:World) (hx:Mx 3 cellsF w R M p n cap f) (hy:Rq 3 cellsF w (.slice q M cap2) xs) (hl:xs.length=M) :
  Calls Tryz.prog 43 #[mV R M p n cap,.slice q M cap2] w fun e w'=>∃ p' cap',e=.returned (.tuple #[.slice p' R cap',.bool true])∧Rw 3 cellsF w' (.slice p' R cap') ((List.range R).map fun i=>dotF (rowM M f i) xs)∧Fresh w.heap.size (.slice p' R cap')∧Bl w w':=by
 obtain ⟨i0,hi,hz0,hz1,hz2⟩:=info_parts Tryz.info_F;refine (callsIn_wide (n:=8)).1 ?_;have hfx:=hx.fit;have hdR:=hx.1;have hR16:=hdR.r2;have hM16:=hdR.c2;have HXm:=hideP hx;have HYm:=hideP hy;have HL:=hideP hl;clear hx hy hl;obtain ⟨W,hW⟩:∃ W,W=(w.alloc (.cells #[.int .i64 R,.int .i64 M,.slice p n cap] 30)).alloc (.cells #[.slice q M cap2] 28):=⟨_,rfl⟩;have b0:Bl w W:=by rw [hW];exact ((Bl.refl _).alloc _).alloc _
 have mx0:MBox W w.heap.size R M p n cap:=by rw [hW];exact (MBox.new w _ _ _ _ _ _).later ((Bl.refl _).alloc _)
 have my0:Boxed W (w.heap.size+1) 28 (.slice q M cap2):=by rw [hW];have:=Boxed.new (w.alloc (.cells #[.int .i64 R,.int .i64 M,.slice p n cap] 30)) 28 (.slice q M cap2);rw [World.size_alloc] at this;exact this
 have hs0:W.heap.size=w.heap.size+1+1:=by rw [hW];simp
 have HW:=hideP hW;clear hW;refine callsIn_of_wp_marks Tryz.func43 rfl trivial ?_ rfl;simp only [Tryz.ntmps43,List.size_toArray,List.length_cons,List.length_nil,Nat.reduceAdd,Nat.reduceSub,Array.replicate_succ,Array.replicate_zero,List.push_toArray,List.append_toArray,List.nil_append,List.cons_append]
 gi_wp2_with fail
 rw [←HW.out];refine ⟨trivial,?_⟩;refine (callsIn_wide.2 (mRightF _ _ _ _ _ _)).mono ?_;rintro e w5 ⟨rfl,h5⟩;rw [hfx];have mx5:=mx0.later h5;have my5:=boxed_bl my0 h5;have bw5:Bl w w5:=b0.trans h5;obtain ⟨c0,c1,c2,f0,f1,f2,lt⟩:=id mx5;have d0:=my5.cell
 gi_wp2_with (gi_at_make;refine wpListIn_make_own _ rfl _ _ 28 rfl w5.heap.size 34 i0 (.agg #[.int .i64 0,.int .i64 0,.bool false]) 3 Tryz.underlying28 hi hz0 hz1 .i64 .i64 _ R rfl rfl (by simp) (by rw [hz2];omega) (by unfold maxLen;omega) (by simp) ?_;intro w6 hown0 hgrow0;have mx6:=mbox_block mx5 (hgrow0.block _ mx5.lt nofun) hgrow0.size;clear c0 c1 c2 f0 f1 f2 d0 lt;obtain ⟨c0,c1,c2,f0,f1,f2,lt⟩:=mx6)
 have h56:Bl w5 w6:=⟨hgrow0.os,hgrow0.tape,hgrow0.output,hgrow0.size,fun k hk=>hgrow0.block k hk nofun⟩;have hs6:w5.heap.size≤w6.heap.size:=hgrow0.size;obtain ⟨w6b,hw6b⟩:∃ w6b,w6b=w6.alloc (.cells #[.slice (some ⟨w5.heap.size,0,none⟩) 0 R] 28):=⟨_,rfl⟩;have h6b:Bl w6 w6b:=by rw [hw6b];exact (Bl.refl _).alloc _
 have hs6b:w6b.heap.size=w6.heap.size+1:=by rw [hw6b];simp
 have bl6:Boxed w6b w6.heap.size 28 (.slice (some ⟨w5.heap.size,0,none⟩) 0 R):=by rw [hw6b];exact Boxed.new w6 _ _
 have hown6:w6b.ownsRow w5.heap.size 34 3 (.slice (some ⟨w5.heap.size,0,none⟩) 0 R) 0 []:=own_blF hown0 h6b;have hlt5:w5.heap.size<w6b.heap.size:=by have:=(hown6.lt w5.heap.size rfl).2;exact this
 have HW6:=hideP hw6b;clear hw6b hown0 hgrow0 c0 c1 c2 f0 f1 f2 lt;rw [←HW6.out];refine ⟨trivial,?_⟩;refine (callsIn_wide.2 (mAllF _ _ _ _ _ f _ (HXm.out.later ((bw5.trans h56).trans h6b)))).mono ?_;rintro e w7 ⟨B2,p2,cap5,rfl,hK7,h7⟩;have HK7:=hideP hK7;clear hK7;have hs7:w6.heap.size+1≤w7.heap.size:=by have:=h7.size;omega
 have b57:Below w5.heap.size w5 w7:=(h56.trans h6b).trans h7;have bl7:=boxed_bl bl6 h7;have own7:=own_blF hown6 h7;clear bl6 hown6
 gi_wp2_with fail
 refine rangeV rfl (by omega) (gf:=128) (lb:=#[.pointer (some ⟨B2,0,none⟩)]) rfl trivial (enters_of Tryz.func128 (by kernel_rfl) rfl)
  (seqMF 7 B2 _ w7.heap.size R M p2 n cap5 f w7 (Nat.le_refl _) HK7.out) (fun x A B h=>h.1) (fun h k=>h.trans k) (span_b (Nat.le_refl _)) (fun _=>rfl)
  (fun (pre:List RowX) U=>(∃ v,Boxed U w6.heap.size 28 v∧U.ownsRow w5.heap.size 34 3 v (pre.map fun x:RowX=>dotF (rowM M f x.1) xs).length ((pre.map fun x:RowX=>dotF (rowM M f x.1) xs).flatMap cellsF)∧(∀ b,v.ownBlock=some b→b<w6b.heap.size∨w7.heap.size≤b))∧(Below w5.heap.size w5 U∧w7.heap.size≤U.heap.size))
  (fun _ _ _=>False)
  (OwnFrom.and (Own.from (holdsRow_own w5.heap.size w6.heap.size 28 34 3 (fun pre:List RowX=>(pre.map fun x:RowX=>dotF (rowM M f x.1) xs).length) (fun pre:List RowX=>(pre.map fun x:RowX=>dotF (rowM M f x.1) xs).flatMap cellsF) (fun _ v=>∀ b,v.ownBlock=some b→b<w6b.heap.size∨w7.heap.size≤b)) _) (OwnFrom.and (ownFrom_below (Nat.le_refl _) b57.size) (own_size _ _)))
  (fun _ _ _ _ _ hs _ _=>hs)
  ⟨⟨_,bl7,own7,fun b hb=>by cases hb;exact .inl hlt5⟩,b57,Nat.le_refl _⟩
  (fun a x a' U=>Rw 3 cellsF U (rowV M x) (rowM M f x.1)∧a'={ tmps:=(((a.tmps.setIfInBounds 24 (.int .i64 x.1)).setIfInBounds 25 (rowV M x)).setIfInBounds 8 (rowV M x)),defers:=[] })
  (fun x a' _ X Y row hs hg hr=>⟨rw_own hs.1 hg (fun r e=>(hr r e).2),hs.2⟩)
  ?assign ?body ?done ?stop
 case assign =>
  rintro l pre x W0 U K' _ ⟨hbU,hxR,hrow,hfr,hcc⟩ hI hK';have HK2:=hideP hK';have HI:=hideP hI;clear hK' hI
  gi_wp2
  exact HK2.out _ _ (KeepsFrom.refl _ _) (Span.refl _ _ _) HI.out ⟨hrow,rfl⟩
 case body =>
  rintro l pre x a' U hl' ⟨r,hr'⟩ ⟨⟨v,hv,hrow,hgv⟩,hbU,hsU⟩ ⟨hrx,rfl⟩ hlt;simp only [List.setIfInBounds_toArray,List.set_cons_zero,List.set_cons_succ]
  gi_wp2_with fail
  have hbv:=boxed_bl (show Boxed w5 _ _ _ from my5) hbU;have hC:=fun u (hu:Bl U u)=>vDotF (rowV M x) (.slice q M cap2) (rowM M f x.1) xs u (hrx.later hu).q (HYm.out.later ((bw5.trans hbU).trans hu)) (by rw [rowM_len];omega) (by rw [HL.out];omega)
  have hlen2:(pre.map fun x:RowX=>dotF (rowM M f x.1) xs).length≤100000:=by rw [List.length_map];omega
  refine dotAppendF (ops:=_) rfl (by kernel_rfl) 26 6 47 (by simp) (by omega) ⟨rfl,rfl,rfl⟩ ⟨rfl,rfl⟩ ⟨rfl,rfl⟩ ⟨rfl,rfl,rfl⟩ ⟨rfl,rfl,rfl⟩ ⟨rfl,rfl,rfl⟩ ⟨rfl,rfl,rfl⟩ ⟨by simp,by simp⟩ (by simp) ⟨by simp,by simp⟩ (by simp)
   (rowV M x) (.slice q M cap2) (fun act u K' hfr hu hk=>move_wp (.tmp 8) rfl (by rw [hfr 8 (by omega)];exact hk))
   (fun act u K' hfr hu hk=>load_wp 28 (.tmp 3) rfl (by rw [hfr 3 (by omega)];exact Tryz.load1F (w.heap.size+1) _ u (boxed_bl hbv hu).cell) hk)
   trivial (fun _=>by omega) (enters_of Tryz.func47 (by kernel_rfl) rfl) (dotF (rowM M f x.1) xs)
   (fun u hu=>CallsIn.inRound l (callsIn_wide.2 (hC u hu)))
   w6.heap.size rfl v hv w5.heap.size (pre.map fun x:RowX=>dotF (rowM M f x.1) xs) hrow hlen2 (by have:=b57.size;omega) ?_
  intro act u0 w8 g' cap' k1 k2 k3 k4;have hvu:=boxed_bl hv k1;have hru:=own_blF hrow k1;have hsu:=k1.size;have hu5:w5.heap.size≤u0.heap.size:=by have:=b57.size;omega
  obtain ⟨hv5,hv6,hr6,hk6,hb6⟩:=boxed_appended hvu (by decide) hru hu5 (by omega) k3 k2;have hg8:=k2.size;refine ⟨(k1.keeps _).trans (hk6.from _),span_appended k1 (by omega) hgv k2 (by omega),⟨_,hv6,?_,?_⟩,?_,?_⟩
  ·rw [List.map_append];simpa [List.flatMap_append] using hr6
  ·intro b hb;have hb':g'=b:=by cases hb;rfl
   subst hb';rcases k4 with h|h
   ·exact hgv _ h.symm
   ·exact .inr (by omega)
  ·exact hbU.trans ((k1.mono (by have:=b57.size;omega)).trans hb6)
  ·simp;omega
 case done =>
  rintro Dm zs U hD hS ⟨⟨v,hv,hrow,_⟩,hb5,hs7'⟩ hKD;have e:(zs.map fun x:RowX=>dotF (rowM M f x.1) xs)=(List.range R).map fun i=>dotF (rowM M f i) xs:=by rw [←hS,List.map_map];rfl
  rw [e] at hrow;have RW:=Rw.of_own cellsF_len (ownsRow_putObj hrow (.deferred none) hKD rfl);obtain ⟨p',cap',hv',_,_⟩:=RW.cut;rw [List.length_map,List.length_range] at hv';subst hv';have hcl:=hv.cell;have hbw:Bl w U:=bw5.trans hb5;have HFR:=hideP (show Fresh w.heap.size (.slice p' R cap') from fun g hg=>by have:=(hrow.lt g hg).1;have:=bw5.size;omega);have HRW:=hideP RW;have HKD:=hideP hKD;clear hrow RW hKD hv
  gi_wp2
  refine ⟨by simp,.inl ⟨_,_,rfl,run_takeDeferred HKD.out,?_⟩⟩;exact ⟨_,results_tmp2 rfl _ _ _,p',cap',rfl,HRW.out,HFR.out,Below.trans hbw (belowK_b (w:=w) (Nat.le_refl _) U Dm _ _ (by have:=bw5.size;have:=b57.size;omega) HKD.out rfl rfl)⟩
 case stop =>
  rintro D' c pre U _ _ h _;exact h.elim
abbrev newsVF (x y:Fr):Value:=.agg #[.int .i64 x.n,.int .i64 x.d,.bool x.bad,.int .i64 y.n,.int .i64 y.d,.bool y.bad]
structure NBoxF (w:World) (b:Nat) (x y:Fr):Prop where
 c0:w.cell? ⟨b,0,none⟩=some (.int .i64 x.n)
 c1:w.cell? ⟨b,1,none⟩=some (.int .i64 x.d)
 c2:w.cell? ⟨b,2,none⟩=some (.bool x.bad)
 c3:w.cell? ⟨b,3,none⟩=some (.int .i64 y.n)
 c4:w.cell? ⟨b,4,none⟩=some (.int .i64 y.d)
 c5:w.cell? ⟨b,5,none⟩=some (.bool y.bad)
 f0:w.frozen? ⟨b,0,none⟩=false
 f1:w.frozen? ⟨b,1,none⟩=false
 f2:w.frozen? ⟨b,2,none⟩=false
 f3:w.frozen? ⟨b,3,none⟩=false
 f4:w.frozen? ⟨b,4,none⟩=false
 f5:w.frozen? ⟨b,5,none⟩=false
 lt:b<w.heap.size
theorem NBoxF.heap {w w':World} {b:Nat} {x y:Fr} (h:NBoxF w b x y) (e:w'.heap[b]?=w.heap[b]?) (hs:w.heap.size≤w'.heap.size):NBoxF w' b x y:=
 ⟨(World.cell?_of_block (a:=⟨b,0,none⟩) e).trans h.c0,(World.cell?_of_block (a:=⟨b,1,none⟩) e).trans h.c1,(World.cell?_of_block (a:=⟨b,2,none⟩) e).trans h.c2,(World.cell?_of_block (a:=⟨b,3,none⟩) e).trans h.c3,(World.cell?_of_block (a:=⟨b,4,none⟩) e).trans h.c4,(World.cell?_of_block (a:=⟨b,5,none⟩) e).trans h.c5,(World.frozen?_of_block (a:=⟨b,0,none⟩) e).trans h.f0,(World.frozen?_of_block (a:=⟨b,1,none⟩) e).trans h.f1,(World.frozen?_of_block (a:=⟨b,2,none⟩) e).trans h.f2,(World.frozen?_of_block (a:=⟨b,3,none⟩) e).trans h.f3,(World.frozen?_of_block (a:=⟨b,4,none⟩) e).trans h.f4,(World.frozen?_of_block (a:=⟨b,5,none⟩) e).trans h.f5,Nat.lt_of_lt_of_le h.lt hs⟩
theorem NBoxF.later {w w':World} {b:Nat} {x y:Fr} (h:NBoxF w b x y) (k:Bl w w'):NBoxF w' b x y:=h.heap (Below.block k b h.lt) (Below.size k)
theorem NBoxF.new (w:World) (x y:Fr) (t:TypeId):NBoxF (w.alloc (.cells #[.int .i64 x.n,.int .i64 x.d,.bool x.bad,.int .i64 y.n,.int .i64 y.d,.bool y.bad] t)) w.heap.size x y:=by
 refine ⟨?_,?_,?_,?_,?_,?_,?_,?_,?_,?_,?_,?_,by simp⟩<;>simp [go_sem]
theorem NBoxF.fill {u:World} {b:Nat} {x y:Fr} (h:NBoxF u b x y) (x' y':Fr):NBoxF ((((((u.setCell ⟨b,0,none⟩ (.int .i64 x'.n)).setCell ⟨b,1,none⟩ (.int .i64 x'.d)).setCell ⟨b,2,none⟩ (.bool x'.bad)).setCell ⟨b,3,none⟩ (.int .i64 y'.n)).setCell ⟨b,4,none⟩ (.int .i64 y'.d)).setCell ⟨b,5,none⟩ (.bool y'.bad)) b x' y':=by
 obtain ⟨c0,c1,c2,c3,c4,c5,f0,f1,f2,f3,f4,f5,lt⟩:=h;refine ⟨?_,?_,?_,?_,?_,?_,?_,?_,?_,?_,?_,?_,?_⟩<;>simp [go_sem, *]
theorem scale_linF (p:Option Addr) (n cap:Nat) (x:Nat→Fr) (b:Fr) (w:World) (h:Rw 3 cellsF w (.slice p n cap) (linJ n x)) (hl:n≤1000000) :
  Calls Tryz.prog 50 #[.slice p n cap,frV b] w fun e w'=>∃ q c,e=.returned (.slice q n c)∧Rw 3 cellsF w' (.slice q n c) (linJ n fun i=>mulR (x i) b)∧Bl w w':=
 (vScaleF _ _ b w h (by rw [linJ_len];exact hl)).mono fun e w' ⟨u,he,hr,hb⟩=>by
  rw [linJ_map] at hr;obtain ⟨q,c,rfl,_,_⟩:=hr.cut;rw [linJ_len] at hr he;exact ⟨q,c,he,hr,hb⟩
theorem add_linF (p q:Option Addr) (n cap cap2:Nat) (x y:Nat→Fr) (w:World) (h:Rq 3 cellsF w (.slice p n cap) (linJ n x)) (h2:Rq 3 cellsF w (.slice q n cap2) (linJ n y)) (hl:n≤1000000) :
  Calls Tryz.prog 49 #[.slice p n cap,.slice q n cap2] w fun e w'=>∃ q c,e=.returned (.slice q n c)∧(Rw 3 cellsF w' (.slice q n c) (linJ n fun i=>addR (x i) (y i))∧Fresh w.heap.size (.slice q n c))∧Bl w w':=
 (vAddF' _ _ _ _ w h h2 (by rw [linJ_len];exact hl) (by rw [linJ_len];exact hl)).mono fun e w' ⟨u,he,hr,hf,hb⟩=>by
  rw [linJ_zip] at hr;obtain ⟨q,c,rfl,_,_⟩:=hr.cut;rw [linJ_len] at hr hf he;exact ⟨q,c,he,⟨hr,hf⟩,hb⟩
theorem Tryz.buildNF (x y:Fr) (u:World):(Instr.build 41 #[(0,frV x),(1,frV y)]).run Tryz.prog u=.ok (newsVF x y) u:=by kernel_rfl
set_option maxRecDepth 100000 in
set_option maxHeartbeats 8000000 in
theorem jUpdateF (n N:Nat) (px:Option Addr) (cx:Nat) (x:Nat→Fr) (p:Option Addr) (cap:Nat) (P:Nat→Nat→Fr) (ph:Option Addr) (ch:Nat) (h:Nat→Fr) (r z:Fr) (w:World)
  (hx:Rq 3 cellsF w (.slice px n cx) (linJ n x)) (hP:Mx 3 cellsF w n n p N cap P) (hh:Rq 3 cellsF w (.slice ph n ch) (linJ n h)) (h4:n≤4) :
  Calls Tryz.prog 15 #[sJ px n cx n n p N cap,.slice ph n ch,frV r,frV z] w fun e w'=>∃ q c p' c',e=.returned (.tuple #[sJ q n c n n p' N c',newsVF (surpJ kdF n x h z) (spreadJ kdF n P h r),.bool true])∧(Rw 3 cellsF w' (.slice q n c) (linJ n (upXJ kdF n x P h r z))∧Mx 3 cellsF w' n n p' N c' (upPJ kdF (fun i j=>wholeF (unitI i j)) n P h r)∧Fresh w.heap.size (.slice q n c)∧Fresh w.heap.size (.slice p' N c'))∧Bl w w':=by
 have fm:Tryz.prog.follows .mixedOrders=true:=by kernel_rfl
 have egD:=enters_of Tryz.func47 (by kernel_rfl) rfl;have egA:=enters_of Tryz.func184 (by kernel_rfl) rfl;have egS:=enters_of Tryz.func192 (by kernel_rfl) rfl;have egC:=enters_of Tryz.func50 (by kernel_rfl) rfl;have egV:=enters_of Tryz.func49 (by kernel_rfl) rfl;have egR:=enters_of Tryz.func51 (by kernel_rfl) rfl;have egO:=enters_of Tryz.func44 (by kernel_rfl) rfl;have egM:=enters_of Tryz.func46 (by kernel_rfl) rfl;have hfit:=fitJ_dim hP.1 hP.2.1 h4;have hn6:n≤1000000:=by omega
 have hn1:1≤n:=hP.1.r1;obtain ⟨uu,huu⟩:∃ uu,uu=appJ kdF n P h:=⟨_,rfl⟩;obtain ⟨d,hd⟩:∃ d,d=dotF (linJ n h) (linJ n uu):=⟨_,rfl⟩;obtain ⟨a,hae⟩:∃ a,a=addR d r:=⟨_,rfl⟩;have hspr:a=spreadJ kdF n P h r:=by rw [hae,hd,huu];rfl
 obtain ⟨dx,hdx⟩:∃ dx,dx=dotF (linJ n h) (linJ n x):=⟨_,rfl⟩;obtain ⟨e9,he9⟩:∃ e9,e9=subR z dx:=⟨_,rfl⟩;have hsur:e9=surpJ kdF n x h z:=by rw [he9,hdx];rfl
 obtain ⟨kk,hkk⟩:∃ kk,kk=fun i=>divR (uu i) a:=⟨_,rfl⟩
 have hgain:kk=gainJ kdF n P h r:=by rw [hkk,hspr,huu];rfl
 obtain ⟨mm,hmm⟩:∃ mm,mm=restJ kdF (fun i j=>wholeF (unitI i j)) kk h:=⟨_,rfl⟩;obtain ⟨PP,hPP⟩:∃ PP,PP=mirrJ kdF (aroundJ kdF n mm P) (outerJ kdF (fun i=>mulR (kk i) r) kk):=⟨_,rfl⟩;have hupP:upPJ kdF (fun i j=>wholeF (unitI i j)) n P h r=PP:=by rw [hPP,hmm,hgain];rfl
 have HUX:=hideP (show upXJ kdF n x P h r z=fun i=>addR (x i) (mulR (kk i) e9) by rw [hgain,hsur];rfl);rw [←hspr,←hsur,hupP];have HKK:=hideP (show linJ n kk=linJ n (fun i=>divR (uu i) a) by rw [hkk]);have HAE:=hideP (show True from trivial);have HPP:=hideP hPP;have HMM:=hideP hmm;have HE9:=hideP he9;have HDX:=hideP hdx;have HDD:=hideP hd;have HADD:=hideP hae;have HUU:=hideP huu;clear hae hspr he9 hsur hgain hmm hPP hupP hdx hd hkk huu;obtain ⟨W,hW⟩:∃ W,W=((((w.alloc (.cells #[.slice px n cx,.int .i64 n,.int .i64 n,.slice p N cap] 36)).alloc (.cells #[.int .i64 r.n,.int .i64 r.d,.bool r.bad] 34)).alloc (.cells #[.int .i64 z.n,.int .i64 z.d,.bool z.bad] 34)).alloc (.cells #[.slice none 0 0,.int .i64 0,.int .i64 0,.slice none 0 0] 36)).alloc (.cells #[.int .i64 0,.int .i64 0,.bool false,.int .i64 0,.int .i64 0,.bool false] 41):=⟨_,rfl⟩;have b0:Bl w W:=by rw [hW];exact (((((Bl.refl _).alloc _).alloc _).alloc _).alloc _).alloc _
 have s0:SBox W w.heap.size px n cx n n p N cap:=by rw [hW];exact (SBox.new w _ _ _ _ _ _ _ _ _).later (((((Bl.refl _).alloc _).alloc _).alloc _).alloc _)
 have r0:FBox W (w.heap.size+1) r:=by rw [hW];have:=FBox.new (w.alloc (.cells #[.slice px n cx,.int .i64 n,.int .i64 n,.slice p N cap] 36)) r 34;rw [World.size_alloc] at this;exact this.later ((((Bl.refl _).alloc _).alloc _).alloc _)
 have z0:FBox W (w.heap.size+1+1) z:=by rw [hW];have:=FBox.new ((w.alloc (.cells #[.slice px n cx,.int .i64 n,.int .i64 n,.slice p N cap] 36)).alloc (.cells #[.int .i64 r.n,.int .i64 r.d,.bool r.bad] 34)) z 34;rw [World.size_alloc,World.size_alloc] at this;exact this.later (((Bl.refl _).alloc _).alloc _)
 have sz0:SBox W (w.heap.size+1+1+1) none 0 0 0 0 none 0 0:=by rw [hW];have:=SBox.new (((w.alloc (.cells #[.slice px n cx,.int .i64 n,.int .i64 n,.slice p N cap] 36)).alloc (.cells #[.int .i64 r.n,.int .i64 r.d,.bool r.bad] 34)).alloc (.cells #[.int .i64 z.n,.int .i64 z.d,.bool z.bad] 34)) none 0 0 0 0 none 0 0 36;rw [World.size_alloc,World.size_alloc,World.size_alloc] at this;exact this.later ((Bl.refl _).alloc _)
 have nz0:NBoxF W (w.heap.size+1+1+1+1) zeroR zeroR:=by rw [hW];have:=NBoxF.new ((((w.alloc (.cells #[.slice px n cx,.int .i64 n,.int .i64 n,.slice p N cap] 36)).alloc (.cells #[.int .i64 r.n,.int .i64 r.d,.bool r.bad] 34)).alloc (.cells #[.int .i64 z.n,.int .i64 z.d,.bool z.bad] 34)).alloc (.cells #[.slice none 0 0,.int .i64 0,.int .i64 0,.slice none 0 0] 36)) zeroR zeroR 41;rw [World.size_alloc,World.size_alloc,World.size_alloc,World.size_alloc] at this;exact this
 have hs:W.heap.size=w.heap.size+1+1+1+1+1:=by rw [hW];simp
 have HX:=hideP hx;have HD:=hideP hP.1;have HN:=hideP hP.2.1;have HP:=hideP hP;have HH:=hideP hh;have HW:=hideP hW;clear hW hx hP hh
 go_enter Tryz.func15,Tryz.ntmps15;go_wp2_with fail
 rw [←HW.out];refine (jRightF _ _ _ _ _ _ _ _ _).mono ?_;rintro e w1 ⟨rfl,h1⟩;rw [hfit];obtain ⟨d0,d1,d2,d3,_,_,_,_,_⟩:=s0.later h1;go_wp2_with fail
 refine (mApplyF' n n p N cap P ph ch (linJ n h) w1 (HP.out.later (b0.trans h1)) (HH.out.later (b0.trans h1)) (linJ_len _ _)).mono ?_;rintro e w3 ⟨pu,cu,rfl,hRu,_,h3⟩;have HU:=hideP (show Rw 3 cellsF w3 (.slice pu n cu) (linJ n uu) from by rw [HUU.out];exact hRu);have b3:Bl W w3:=h1.trans h3;have B3:Bl w w3:=b0.trans b3;have kr:=r0.later b3;have hs3:w.heap.size+1+1+1+1+1≤w3.heap.size:=by have:=b3.size;omega
 have DOT:=hideP (fun u (hu:Bl w3 u)=>by have:=vDotF (.slice ph n ch) (.slice pu n cu) (linJ n h) (linJ n uu) u (HH.out.later (B3.trans hu)) (HU.out.later hu).q (by rw [linJ_len];exact hn6) (by rw [linJ_len];exact hn6);rw [←HDD.out] at this;exact this);have ADD:=hideP (fun u=>by have:=radd_any d r u;rw [←HADD.out] at this;exact this);clear d0 d1 d2 d3 hRu;go_wp2_with fail
 refine (wpIn_wide (n:=8)).1 (region_q fm [some 39,some 40,some 41,some 42,some 43,some 44,some 13,none] (fun _=>false) 7 (by kernel_rfl) (by rfl)
   (fun j v u=>match j with|0=>v=.slice ph n ch|1=>v=.slice pu n cu|2=>v=frV d|3=>v=.iface 34 (frV d)|4=>v=frV r|5=>v=frV a|6=>∃ bb,v=.pointer (some ⟨bb,0,none⟩)∧w3.heap.size≤bb∧FBox u bb zeroR|_=>False)
   (by
    intro j v u u' hb h;split at h<;>first|exact h|(obtain ⟨bb,e,h1,h2⟩:=h;exact ⟨bb,e,h1,h2.later hb⟩)) (fun vs u0 u=>∃ bb,vs 6=.pointer (some ⟨bb,0,none⟩)∧w3.heap.size≤bb∧FBox u bb a∧Bl w3 u) ?step ?still ?store ?fin)
 case step =>
  intro j o t act u ho hdt hpu hsz hu hfr hin;have hj:j<8:=l9 ho;obtain ⟨c0,c1,c2,f0,f1,f2,ltr⟩:=kr.later hu;rcases (by omega:j=0∨j=1∨j=2∨j=3∨j=4∨j=5∨j=6∨j=7) with rfl|rfl|rfl|rfl|rfl|rfl|rfl|rfl
  ·obtain ⟨rfl,rfl⟩:=o7 ho hdt;have i1:_=Value.slice ph n ch:=hfr 1 (by decide);exact pl9 (r:=by simp only [seval,i1];simp [go_sem])
  ·obtain ⟨rfl,rfl⟩:=o7 ho hdt;have i11:_=Value.slice pu n cu:=hfr 11 (by decide);exact pl9 (r:=by simp only [seval,i11];simp [go_sem])
  ·obtain ⟨rfl,rfl⟩:=o7 ho hdt;have i39:_=Value.slice ph n ch:=hin ⟨0,.data⟩ (by simp) rfl 39 rfl;have i40:_=Value.slice pu n cu:=hin ⟨1,.data⟩ (by simp) rfl 40 rfl;refine ew9 47 #[.slice ph n ch,.slice pu n cu] (by simp only [seval,i39,i40];simp [invoke,egD,Result.andThen,go_sem]) (DOT.out u hu) ?_;rintro e w' ⟨rfl,hb⟩;exact ⟨_,rfl,_,rfl,rfl,hb⟩
  ·obtain ⟨rfl,rfl⟩:=o7 ho hdt;have i41:_=frV d:=hin ⟨2,.data⟩ (by simp) rfl 41 rfl;exact pl9 (r:=by simp only [seval,i41];simp [go_sem,c0,c1,c2])
  ·obtain ⟨rfl,rfl⟩:=o7 ho hdt;have i6:_=Value.pointer (some ⟨w.heap.size+1,0,none⟩):=hfr 6 (by decide);exact pl9 (r:=by simp only [seval,i6];simp [go_sem,c0,c1,c2])
  ·obtain ⟨rfl,rfl⟩:=o7 ho hdt;have i42:_=Value.iface 34 (frV d):=hin ⟨3,.data⟩ (by simp) rfl 42 rfl;have i43:_=frV r:=hin ⟨4,.data⟩ (by simp) rfl 43 rfl;have iv:=Tryz.mAddF;refine ew9 184 #[frV d,frV r] (by simp only [seval,i42,i43];simp [invoke,iv,egA,Result.andThen,go_sem]) (ADD.out u) ?_;rintro e w' ⟨rfl,hb⟩;exact ⟨_,rfl,_,rfl,rfl,hb⟩
  ·obtain ⟨rfl,rfl⟩:=o7 ho hdt;exact pw9 (w':=u.alloc (.cells #[.int .i64 0,.int .i64 0,.bool false] 34)) (v:=.pointer (some ⟨u.heap.size,0,none⟩)) (by simp only [execOp];simp [go_sem]) ⟨_,rfl,⟨u.heap.size,rfl,hu.size,FBox.new u zeroR _⟩,(Bl.refl _).alloc _⟩
  ·obtain rfl:=o9 ho;cases hdt
 case still =>
  intro j o t act u0 u ho hdt hpu;cases hpu
 case store =>
  intro o act u vs ho hsz hu hfr hin;obtain rfl:=o9 ho;obtain ⟨i13,k13⟩:act.eval (.tmp (13:Nat))=vs 6∧(∃ bb,(vs 6)=.pointer (some ⟨bb,0,none⟩)∧w3.heap.size≤bb∧FBox u bb zeroR):=hin 6 13 rfl rfl;obtain ⟨i44,k44⟩:act.eval (.tmp (44:Nat))=vs 5∧((vs 5)=frV a):=hin 5 44 rfl rfl;obtain ⟨bb,e1,hbb,bx⟩:=k13;rw [e1] at i13;rw [k44] at i44;obtain ⟨c0,c1,c2,f0,f1,f2,ltb⟩:=id bx;exact sw9 (by simp only [execOp,i13,i44];simp [go_sem,c0,c1,c2,f0,f1,f2]) ⟨rfl,bb,e1,hbb,bx.fill a,Bl.set3 hu hbb _ _ _⟩
 case fin =>
  intro vs vb u0 u hu hin hps;have a0:=hin 0 39 rfl;have a1:=hin 1 40 rfl;have a2:=hin 2 41 rfl;have a3:=hin 3 42 rfl;have a4:=hin 4 43 rfl;have a5:=hin 5 44 rfl;have a6:=hin 6 13 rfl;simp only [seval] at a0 a1 a2 a3 a4 a5 a6 ⊢;rw [if_pos (by decide)] at hps;simp only [a0,a1,a2,a3,a4,a5];obtain ⟨b13,e13,hb13,ka,hbu⟩:=hps;simp only [e13];obtain ⟨w4,rfl⟩:∃ w4,w4=u:=⟨_,rfl⟩;clear a2 a3 a5 a6 hu hin;have B4:=B3.trans hbu;obtain ⟨c0,c1,c2,f0,f1,f2,lta⟩:=id ka;have SH:=hideP (jSharesF n pu cu uu a w4 (HU.out.later hbu) hn6);go_wp2_with fail
  refine SH.out.mono ?_;rintro e w5 ⟨pk,ck,rfl,⟨hRk,_⟩,h5⟩;have HK5:=hideP (show Rw 3 cellsF w5 (.slice pk n ck) (linJ n kk) from by rw [HKK.out];exact hRk);have B5:=B4.trans h5;have b35:Bl w3 w5:=hbu.trans h5;have kz:=z0.later (b3.trans b35);have ks:=s0.later (b3.trans b35);have hs5:=b35.size;have ka5:=ka.later h5;have DOX:=hideP (fun u (hu:Bl w5 u)=>by have:=vDotF (.slice ph n ch) (.slice px n cx) (linJ n h) (linJ n x) u (HH.out.later (B5.trans hu)) (HX.out.later (B5.trans hu)) (by rw [linJ_len];exact hn6) (by rw [linJ_len];exact hn6);rw [←HDX.out] at this;exact this);have SUB:=hideP (fun u=>by have:=rsub_any z dx u;rw [←HE9.out] at this;exact this);clear c0 c1 c2 f0 f1 f2 lta hRk SH DOT ADD kr;go_wp2_with fail
  refine (wpIn_wide (n:=8)).1 (region_q fm [some 48,some 49,some 50,some 51,some 52,some 53,some 54,some 15,none] (fun _=>false) 8 (by kernel_rfl) (by rfl)
     (fun j v u=>match j with|0=>v=frV z|1=>v=.iface 34 (frV z)|2=>v=.slice ph n ch|3=>v=.pointer (some ⟨w.heap.size,0,none⟩)|4=>v=.slice px n cx|5=>v=frV dx|6=>v=frV e9|7=>∃ bb,v=.pointer (some ⟨bb,0,none⟩)∧w5.heap.size≤bb∧FBox u bb zeroR|_=>False)
     (by
      intro j v u u' hb h;split at h<;>first|exact h|(obtain ⟨bb,e,h1,h2⟩:=h;exact ⟨bb,e,h1,h2.later hb⟩)) (fun vs u0 u=>∃ bb,vs 7=.pointer (some ⟨bb,0,none⟩)∧w5.heap.size≤bb∧FBox u bb e9∧Bl w5 u) ?step ?still ?store ?fin)
  case step =>
   intro j o t act u ho hdt hpu hsz hu hfr hin;have hj:j<9:=l9 ho;obtain ⟨c0,c1,c2,f0,f1,f2,ltr⟩:=kz.later hu;obtain ⟨y0,y1,y2,y3,_,_,_,_,_⟩:=ks.later hu;rcases (by omega:j=0∨j=1∨j=2∨j=3∨j=4∨j=5∨j=6∨j=7∨j=8) with rfl|rfl|rfl|rfl|rfl|rfl|rfl|rfl|rfl
   ·obtain ⟨rfl,rfl⟩:=o7 ho hdt;have i7:_=Value.pointer (some ⟨w.heap.size+1+1,0,none⟩):=hfr 7 (by decide);exact pl9 (r:=by simp only [seval,i7];simp [go_sem,c0,c1,c2])
   ·obtain ⟨rfl,rfl⟩:=o7 ho hdt;have i48:_=frV z:=hin ⟨0,.data⟩ (by simp) rfl 48 rfl;exact pl9 (r:=by simp only [seval,i48];simp [go_sem,c0,c1,c2])
   ·obtain ⟨rfl,rfl⟩:=o7 ho hdt;have i1:_=Value.slice ph n ch:=hfr 1 (by decide);exact pl9 (r:=by simp only [seval,i1];simp [go_sem])
   ·obtain ⟨rfl,rfl⟩:=o7 ho hdt;have i4:_=Value.pointer (some ⟨w.heap.size,0,none⟩):=hfr 4 (by decide);exact pl9 (r:=by simp only [seval,i4];simp [go_sem,y0,y1,y2,y3])
   ·obtain ⟨rfl,rfl⟩:=o7 ho hdt;have i51:_=Value.pointer (some ⟨w.heap.size,0,none⟩):=hin ⟨3,.data⟩ (by simp) rfl 51 rfl;exact pl9 (r:=by simp only [seval,i51];simp [go_sem,y0,y1,y2,y3])
   ·obtain ⟨rfl,rfl⟩:=o7 ho hdt;have i50:_=Value.slice ph n ch:=hin ⟨2,.data⟩ (by simp) rfl 50 rfl;have i52:_=Value.slice px n cx:=hin ⟨4,.data⟩ (by simp) rfl 52 rfl;refine ew9 47 #[.slice ph n ch,.slice px n cx] (by simp only [seval,i50,i52];simp [invoke,egD,Result.andThen,go_sem]) (DOX.out u hu) ?_;rintro e w' ⟨rfl,hb⟩;exact ⟨_,rfl,_,rfl,rfl,hb⟩
   ·obtain ⟨rfl,rfl⟩:=o7 ho hdt;have i49:_=Value.iface 34 (frV z):=hin ⟨1,.data⟩ (by simp) rfl 49 rfl;have i53:_=frV dx:=hin ⟨5,.data⟩ (by simp) rfl 53 rfl;have iv:=Tryz.mSubF;refine ew9 192 #[frV z,frV dx] (by simp only [seval,i49,i53];simp [invoke,iv,egS,Result.andThen,go_sem]) (SUB.out u) ?_;rintro e w' ⟨rfl,hb⟩;exact ⟨_,rfl,_,rfl,rfl,hb⟩
   ·obtain ⟨rfl,rfl⟩:=o7 ho hdt;exact pw9 (w':=u.alloc (.cells #[.int .i64 0,.int .i64 0,.bool false] 34)) (v:=.pointer (some ⟨u.heap.size,0,none⟩)) (by simp only [execOp];simp [go_sem]) ⟨_,rfl,⟨u.heap.size,rfl,hu.size,FBox.new u zeroR _⟩,(Bl.refl _).alloc _⟩
   ·obtain rfl:=o9 ho;cases hdt
  case still =>
   intro j o t act u0 u ho hdt hpu;cases hpu
  case store =>
   intro o act u vs ho hsz hu hfr hin;obtain rfl:=o9 ho;obtain ⟨i15,k15⟩:act.eval (.tmp (15:Nat))=vs 7∧(∃ bb,(vs 7)=.pointer (some ⟨bb,0,none⟩)∧w5.heap.size≤bb∧FBox u bb zeroR):=hin 7 15 rfl rfl;obtain ⟨i54,k54⟩:act.eval (.tmp (54:Nat))=vs 6∧((vs 6)=frV e9):=hin 6 54 rfl rfl;obtain ⟨bb,e1,hbb,bx⟩:=k15;rw [e1] at i15;rw [k54] at i54;obtain ⟨c0,c1,c2,f0,f1,f2,ltb⟩:=id bx;exact sw9 (by simp only [execOp,i15,i54];simp [go_sem,c0,c1,c2,f0,f1,f2]) ⟨rfl,bb,e1,hbb,bx.fill e9,Bl.set3 hu hbb _ _ _⟩
  case fin =>
   intro vs vb u0 u hu hin hps;have a0:=hin 0 48 rfl;have a1:=hin 1 49 rfl;have a2:=hin 2 50 rfl;have a3:=hin 3 51 rfl;have a4:=hin 4 52 rfl;have a5:=hin 5 53 rfl;have a6:=hin 6 54 rfl;have a7:=hin 7 15 rfl;simp only [seval] at a0 a1 a2 a3 a4 a5 a6 a7 ⊢;rw [if_pos (by decide)] at hps;simp only [a0,a1,a2,a3,a4,a5,a6];obtain ⟨b15,e15,hb15,ke,hbu⟩:=hps;simp only [e15];obtain ⟨w6,rfl⟩:∃ w6,w6=u:=⟨_,rfl⟩;clear a5 a6 a7 hu hin a1;have B6:=B5.trans hbu;have ks6:=ks.later hbu;have HK:=hideP (HK5.out.later hbu);have hs6:=hbu.size;have ka6:=ka5.later hbu;have b36:=b35.trans hbu;clear DOX SUB kz ks;go_wp2_with fail
   refine (wpIn_wide (n:=8)).1 (region_q fm [some 55,some 56,some 57,some 58,some 59,some 60,some 16] (fun _=>false) 7 (by kernel_rfl) (by rfl)
      (fun j v u=>match j with|0=>v=.pointer (some ⟨w.heap.size,0,none⟩)|1=>v=.slice px n cx|2=>v=.slice pk n ck|3=>v=frV e9|4=>∃ q c,v=.slice q n c∧Rw 3 cellsF u (.slice q n c) (linJ n fun i=>mulR (kk i) e9)|5=>∃ q c,v=.slice q n c∧Rw 3 cellsF u (.slice q n c) (linJ n fun i=>addR (x i) (mulR (kk i) e9))∧Fresh w6.heap.size (.slice q n c)|6=>∃ q c,v=.slice q n c∧Rw 3 cellsF u (.slice q n c) (linJ n fun i=>addR (x i) (mulR (kk i) e9))∧Fresh w6.heap.size (.slice q n c)|_=>False)
      (by
       intro j v u u' hb h;split at h<;>first|exact h|(obtain ⟨q,c,e,h1,h2⟩:=h;exact ⟨q,c,e,h1.later hb,h2⟩)|(obtain ⟨q,c,e,h1⟩:=h;exact ⟨q,c,e,h1.later hb⟩)) (fun vs u0 u=>u=u0) ?step ?still ?store ?fin)
   case step =>
    intro j o t act u ho hdt hpu hsz hu hfr hin;have hj:j<7:=l9 ho;obtain ⟨c0,c1,c2,f0,f1,f2,ltr⟩:=ke.later hu;obtain ⟨y0,y1,y2,y3,_,_,_,_,_⟩:=ks6.later hu;rcases (by omega:j=0∨j=1∨j=2∨j=3∨j=4∨j=5∨j=6) with rfl|rfl|rfl|rfl|rfl|rfl|rfl
    ·obtain ⟨rfl,rfl⟩:=o7 ho hdt;have i4:_=Value.pointer (some ⟨w.heap.size,0,none⟩):=hfr 4 (by decide);exact pl9 (r:=by simp only [seval,i4];simp [go_sem,y0,y1,y2,y3])
    ·obtain ⟨rfl,rfl⟩:=o7 ho hdt;have i55:_=Value.pointer (some ⟨w.heap.size,0,none⟩):=hin ⟨0,.data⟩ (by simp) rfl 55 rfl;exact pl9 (r:=by simp only [seval,i55];simp [go_sem,y0,y1,y2,y3])
    ·obtain ⟨rfl,rfl⟩:=o7 ho hdt;have i14:_=Value.slice pk n ck:=hfr 14 (by decide);exact pl9 (r:=by simp only [seval,i14];simp [go_sem])
    ·obtain ⟨rfl,rfl⟩:=o7 ho hdt;have i15:_=Value.pointer (some ⟨b15,0,none⟩):=hfr 15 (by decide);exact pl9 (r:=by simp only [seval,i15];simp [go_sem,c0,c1,c2])
    ·obtain ⟨rfl,rfl⟩:=o7 ho hdt;have i57:_=Value.slice pk n ck:=hin ⟨2,.data⟩ (by simp) rfl 57 rfl;have i58:_=frV e9:=hin ⟨3,.data⟩ (by simp) rfl 58 rfl;refine ew9 50 #[.slice pk n ck,frV e9] (by simp only [seval,i57,i58];simp [invoke,egC,Result.andThen,go_sem]) (scale_linF pk n ck kk e9 u (HK.out.later hu) hn6) ?_;rintro e w' ⟨q,c,rfl,hR,hb⟩;exact ⟨_,rfl,_,rfl,⟨q,c,rfl,hR⟩,hb⟩
    ·obtain ⟨rfl,rfl⟩:=o7 ho hdt;have i56:_=Value.slice px n cx:=hin ⟨1,.data⟩ (by simp) rfl 56 rfl;have i59:∃ q c,(act.eval (.tmp (59:Nat)))=.slice q n c∧Rw 3 cellsF u (.slice q n c) (linJ n fun i=>mulR (kk i) e9):=hin ⟨4,.data⟩ (by simp) rfl 59 rfl;obtain ⟨q0,c0',e1,hq⟩:=i59;refine ew9 49 #[.slice px n cx,.slice q0 n c0'] (by simp only [seval,i56,e1];simp [invoke,egV,Result.andThen,go_sem]) (add_linF px q0 n cx c0' x _ u (HX.out.later (B6.trans hu)) hq.q hn6) ?_;rintro e w' ⟨q,c,rfl,⟨hR,hF⟩,hb⟩;exact ⟨_,rfl,_,rfl,⟨q,c,rfl,hR,fresh_le hF hu.size⟩,hb⟩
    ·obtain ⟨rfl,rfl⟩:=o7 ho hdt;have i60:∃ q c,(act.eval (.tmp (60:Nat)))=.slice q n c∧Rw 3 cellsF u (.slice q n c) (linJ n fun i=>addR (x i) (mulR (kk i) e9))∧Fresh w6.heap.size (.slice q n c):=hin ⟨5,.data⟩ (by simp) rfl 60 rfl;obtain ⟨q0,c0',e1,hq⟩:=i60;exact pw9 (by simp only [seval,e1];simp [go_sem]) ⟨_,rfl,⟨q0,c0',rfl,hq⟩,Bl.refl _⟩
   case still =>
    intro j o t act u0 u ho hdt hpu;cases hpu
   case store =>
    intro o act u vs ho;cases ho
   case fin =>
    intro vs vb u0 u hu hin hps;have a0:=hin 0 55 rfl;have a1:=hin 1 56 rfl;have a2:=hin 2 57 rfl;have a3:=hin 3 58 rfl;have a4:=hin 4 59 rfl;have a5:=hin 5 60 rfl;have a6:=hin 6 16 rfl;simp only [seval] at a0 a1 a2 a3 a4 a5 a6 ⊢;rw [if_neg (by decide)] at hps;simp only [a0,a1,a2,a3];subst hps;obtain ⟨px',cx',e6,hRx,hFx⟩:=a6;simp only [e6];obtain ⟨w7,rfl⟩:∃ w7,w7=u:=⟨_,rfl⟩;have HRX:=hideP hRx;have HFX:=hideP hFx;clear a4 a5 hRx hFx hin;have h67:Bl w6 w7:=hu;have B7:=B6.trans hu;have ks7:=ks6.later hu;have ke7:=ke.later hu;have ka7:=ka6.later hu;have hs7:=hu.size;have b37:=b36.trans hu;have RST:=hideP (fun u (hu:Bl w7 u)=>by have:=jRestF n N pk ck kk ph ch h u ((HK.out.later (h67.trans hu)).q) (HH.out.later (B7.trans hu)) HD.out HN.out;rw [←HMM.out] at this;exact this);clear hu ks6;go_wp2_with fail
    refine (wpIn_wide (n:=8)).1 (region_q fm [some 61,some 62,some 63,some 64,some 65,some 66,some 17,none] (fun _=>false) 7 (by kernel_rfl) (by rfl)
       (fun j v u=>match j with|0=>v=.slice pk n ck|1=>v=.slice ph n ch|2=>∃ q c,v=mV n n q N c∧Mx 3 cellsF u n n q N c mm|3=>v=.pointer (some ⟨w.heap.size,1,none⟩)|4=>v=mV n n p N cap|5=>∃ q c,v=mV n n q N c∧Mx 3 cellsF u n n q N c (aroundJ kdF n mm P)∧Fresh w7.heap.size (.slice q N c)|6=>∃ b,v=.pointer (some ⟨b,0,none⟩)∧w7.heap.size≤b∧MBox u b 0 0 none 0 0∧NoB u b|_=>False)
       (by
        intro j v u u' hb h;split at h
        ·exact h
        ·exact h
        ·obtain ⟨q,c,e,h1⟩:=h;exact ⟨q,c,e,Mx.later h1 hb⟩
        ·exact h
        ·exact h
        ·obtain ⟨q,c,e,h1,h2⟩:=h;exact ⟨q,c,e,Mx.later h1 hb,h2⟩
        ·obtain ⟨b,e,h1,h2,h3⟩:=h;exact ⟨b,e,h1,h2.later hb,h3.later hb h2.lt⟩
        ·exact h) (fun vs u0 u=>∃ b q c,vs 6=.pointer (some ⟨b,0,none⟩)∧w7.heap.size≤b∧MBox u b n n q N c∧Mx 3 cellsF u n n q N c (aroundJ kdF n mm P)∧Fresh w7.heap.size (.slice q N c)∧Bl w7 u) ?step ?still ?store ?fin)
    case step =>
     intro j o t act u ho hdt hpu hsz hu hfr hin;have hj:j<8:=l9 ho;obtain ⟨y0,y1,y2,y3,_,_,_,_,_⟩:=ks7.later hu;rcases (by omega:j=0∨j=1∨j=2∨j=3∨j=4∨j=5∨j=6∨j=7) with rfl|rfl|rfl|rfl|rfl|rfl|rfl|rfl
     ·obtain ⟨rfl,rfl⟩:=o7 ho hdt;have i14:_=Value.slice pk n ck:=hfr 14 (by decide);exact pl9 (r:=by simp only [seval,i14];simp [go_sem])
     ·obtain ⟨rfl,rfl⟩:=o7 ho hdt;have i1:_=Value.slice ph n ch:=hfr 1 (by decide);exact pl9 (r:=by simp only [seval,i1];simp [go_sem])
     ·obtain ⟨rfl,rfl⟩:=o7 ho hdt;have i61:_=Value.slice pk n ck:=hin ⟨0,.data⟩ (by simp) rfl 61 rfl;have i62:_=Value.slice ph n ch:=hin ⟨1,.data⟩ (by simp) rfl 62 rfl;refine ew9 51 #[.slice pk n ck,.slice ph n ch] (by simp only [seval,i61,i62];simp [invoke,egR,Result.andThen,go_sem]) (RST.out u hu) ?_;rintro e w' ⟨q,c,rfl,⟨hM,_⟩,hb⟩;exact ⟨_,rfl,_,rfl,⟨q,c,rfl,hM⟩,hb⟩
     ·obtain ⟨rfl,rfl⟩:=o7 ho hdt;have i4:_=Value.pointer (some ⟨w.heap.size,0,none⟩):=hfr 4 (by decide);exact pl9 (r:=by simp only [seval,i4];simp [go_sem,y0,y1,y2,y3])
     ·obtain ⟨rfl,rfl⟩:=o7 ho hdt;have i64:_=Value.pointer (some ⟨w.heap.size,1,none⟩):=hin ⟨3,.data⟩ (by simp) rfl 64 rfl;exact pl9 (r:=by simp only [seval,i64];simp [go_sem,y0,y1,y2,y3])
     ·obtain ⟨rfl,rfl⟩:=o7 ho hdt;have i63:∃ q c,(act.eval (.tmp (63:Nat)))=mV n n q N c∧Mx 3 cellsF u n n q N c mm:=hin ⟨2,.data⟩ (by simp) rfl 63 rfl;have i65:_=mV n n p N cap:=hin ⟨4,.data⟩ (by simp) rfl 65 rfl;obtain ⟨q0,c0',e1,hq⟩:=i63;refine ew9 44 #[mV n n q0 N c0',mV n n p N cap] (by simp only [seval,e1,i65];simp [invoke,egO,Result.andThen,go_sem]) (jAroundF n N q0 c0' mm p cap P u hq (HP.out.later (B7.trans hu))) ?_;rintro e w' ⟨q,c,rfl,⟨hM,hF⟩,hb⟩;exact ⟨_,rfl,_,rfl,⟨q,c,rfl,hM,fresh_le hF hu.size⟩,hb⟩
     ·obtain ⟨rfl,rfl⟩:=o7 ho hdt;exact pw9 (w':=u.alloc (.cells #[.int .i64 0,.int .i64 0,.slice none 0 0] 30)) (v:=.pointer (some ⟨u.heap.size,0,none⟩)) (by simp only [execOp];simp [go_sem]) ⟨_,rfl,⟨u.heap.size,rfl,hu.size,MBox.new u 0 0 none 0 0 _,noB_new u _⟩,(Bl.refl _).alloc _⟩
     ·obtain rfl:=o9 ho;cases hdt
    case still =>
     intro j o t act u0 u ho hdt hpu;cases hpu
    case store =>
     intro o act u vs ho hsz hu hfr hin;obtain rfl:=o9 ho;obtain ⟨i17,k17⟩:act.eval (.tmp (17:Nat))=vs 6∧(∃ b,(vs 6)=.pointer (some ⟨b,0,none⟩)∧w7.heap.size≤b∧MBox u b 0 0 none 0 0∧NoB u b):=hin 6 17 rfl rfl;obtain ⟨i66,k66⟩:act.eval (.tmp (66:Nat))=vs 5∧(∃ q c,(vs 5)=mV n n q N c∧Mx 3 cellsF u n n q N c (aroundJ kdF n mm P)∧Fresh w7.heap.size (.slice q N c)):=hin 5 66 rfl rfl;obtain ⟨b,e1,hb,bx,nb⟩:=k17;obtain ⟨q0,c0',e2,hq,hf⟩:=k66;rw [e1] at i17;rw [e2] at i66;obtain ⟨d0,d1,d2,g0,g1,g2,ltb⟩:=id bx;exact sw9 (by simp only [execOp,i17,i66];simp [go_sem,d0,d1,d2,g0,g1,g2]) ⟨rfl,b,q0,c0',e1,hb,bx.fill _ _ _ _ _,mx_ne7 hq (noB_mx boolF hq nb) _ _ _,hf,Bl.put3 hu hb _ _ _⟩
    case fin =>
     intro vs vb u0 u hu hin hps;have a0:=hin 0 61 rfl;have a1:=hin 1 62 rfl;have a2:=hin 2 63 rfl;have a3:=hin 3 64 rfl;have a4:=hin 4 65 rfl;have a5:=hin 5 66 rfl;have a6:=hin 6 17 rfl;simp only [seval] at a0 a1 a2 a3 a4 a5 a6 ⊢;rw [if_pos (by decide)] at hps;simp only [a0,a1,a3,a4];obtain ⟨b17,p8,c8,e6,hb17,k17,hM8,hF8,hbu⟩:=hps;simp only [e6];obtain ⟨wv,rfl⟩:∃ wv,wv=u:=⟨_,rfl⟩;have HM8:=hideP hM8;have HF8:=hideP hF8;clear a2 a5 a6 hM8 hF8 hu hin RST;have bv:=b37.trans hbu;obtain ⟨c0,c1,c2,f0,f1,f2,ltr⟩:=r0.later (b3.trans bv);have SC:=hideP (scale_linF pk n ck kk r wv (HK.out.later (h67.trans hbu)) hn6);go_wp2_with fail
     refine SC.out.mono ?_;rintro e wa ⟨pr,cr,rfl,hRr,ha⟩;have HRR:=hideP hRr;clear hRr c0 c1 c2 f0 f1 f2 ltr SC;have OU:=hideP (jOuterF n n N pr cr (fun i=>mulR (kk i) r) pk ck kk wa HRR.out.q (HK.out.later (h67.trans (hbu.trans ha))).q HD.out HN.out);go_wp2_with fail
     refine OU.out.mono ?_;rintro e w8 ⟨p9,c9,rfl,⟨h9x,hF9⟩,h8⟩;obtain ⟨W9,hW9⟩:∃ W9,W9=w8.alloc (.cells #[.int .i64 n,.int .i64 n,.slice p9 N c9] 30):=⟨_,rfl⟩;have b9:Bl w8 W9:=by rw [hW9];exact (Bl.refl _).alloc _
     have k18:=MBox.new w8 n n p9 N c9 30;rw [←hW9] at k18;have b79:Bl w7 W9:=hbu.trans (ha.trans (h8.trans b9));have B9:=B7.trans b79;have hs9:=b79.size;have hsv:=hbu.size;have hsa:=(hbu.trans ha).size;replace k17:=k17.later (ha.trans (h8.trans b9));have ke9:=ke7.later b79;have ka9:=ka7.later b79;have hlt17:=k17.lt;have hlt18:=k18.lt;have hltE:=ke9.lt;have hltA:=ka9.lt;have SZ0:=hideP (sz0.later (b3.trans (b37.trans b79)));have NZ0:=hideP (nz0.later (b3.trans (b37.trans b79)));have h8lo:w7.heap.size≤w8.heap.size:=by have:=(ha.trans h8).size;omega
     have MIR:=hideP (fun u (hu:(TwoJ (w.heap.size+1+1+1) (w.heap.size+1+1+1+1) (fun y=>∃ q c,SBox y (w.heap.size+1+1+1) px' n cx' n n q N c∧Mx 3 cellsF y n n q N c PP∧Fresh W9.heap.size (.slice q N c)) (fun y=>NBoxF y (w.heap.size+1+1+1+1) e9 a)) W9 u)=>by
      have:=jMirroredF n N p8 c8 (aroundJ kdF n mm P) p9 c9 (outerJ kdF (fun i=>mulR (kk i) r) kk) u ((Mx.later HM8.out (ha.trans (h8.trans b9))).but hu.but (fun g hg=>by have:=HF8.out g hg;show ¬ (_=_∨_=_);omega)) ((Mx.later h9x b9).but hu.but (fun g hg=>by have:=hF9 g hg;show ¬ (_=_∨_=_);omega));rw [←HPP.out] at this;exact this)
     have HW9:=hideP hW9;clear hW9 OU h9x hF9;go_wp2_with fail
     rw [←HW9.out]
     refine (wpIn_wide (n:=8)).1 (region_r fm (TwoJ (w.heap.size+1+1+1) (w.heap.size+1+1+1+1) (fun y=>∃ q c,SBox y (w.heap.size+1+1+1) px' n cx' n n q N c∧Mx 3 cellsF y n n q N c PP∧Fresh W9.heap.size (.slice q N c)) (fun y=>NBoxF y (w.heap.size+1+1+1+1) e9 a)) [some 72,some 73,some 74,some 75,some 76,some 77,some 78,some 79,none,none,some 10] (by kernel_rfl) (by rfl) (TwoJ.bl ((Bl.refl _).drew) (by omega) (by omega)) (fun h k=>TwoJ.trans (fun x y t b e=>by obtain ⟨q,c,t1,t2,t3⟩:=t;exact ⟨q,c,t1.heap e b.size,t2.but b (fun g hg=>by have:=t3 g hg;show ¬ (_=_∨_=_);omega),t3⟩) (fun x y t b e=>t.heap e b.size) h k)
        (fun j v u=>match j with|0=>v=.slice px' n cx'|1=>v=mV n n p8 N c8|2=>v=mV n n p9 N c9|3=>∃ q c,v=mV n n q N c∧Mx 3 cellsF u n n q N c PP∧Fresh W9.heap.size (.slice q N c)|4=>∃ q c,v=sJ px' n cx' n n q N c∧Mx 3 cellsF u n n q N c PP∧Fresh W9.heap.size (.slice q N c)|5=>v=frV e9|6=>v=frV a|7=>v=newsVF e9 a|8=>∃ q c,SBox u (w.heap.size+1+1+1) px' n cx' n n q N c∧Mx 3 cellsF u n n q N c PP∧Fresh W9.heap.size (.slice q N c)|9=>NBoxF u (w.heap.size+1+1+1+1) e9 a|10=>v=.bool true|_=>False)
        (by
         intro j v u u' hb hr h;split at h
         ·exact h
         ·exact h
         ·exact h
         ·obtain ⟨q,c,e,h1,h2⟩:=h;exact ⟨q,c,e,Mx.but h1 hr.but (fun g hg=>by have:=h2 g hg;show ¬ (_=_∨_=_);omega),h2⟩
         ·obtain ⟨q,c,e,h1,h2⟩:=h;exact ⟨q,c,e,Mx.but h1 hr.but (fun g hg=>by have:=h2 g hg;show ¬ (_=_∨_=_);omega),h2⟩
         ·exact h
         ·exact h
         ·exact h
         ·rcases hr.g8 with e|t
          ·obtain ⟨q,c,h0,h1,h2⟩:=h;exact ⟨q,c,h0.heap e hr.but.size,Mx.but h1 hr.but (fun g hg=>by have:=h2 g hg;show ¬ (_=_∨_=_);omega),h2⟩
          ·exact t
         ·rcases hr.l9 with e|t
          ·exact h.heap e hr.but.size
          ·exact t
         ·exact h
         ·exact h) ?step ?fin)
     case step =>
      intro j o act u ho hsz hu hfr hin hnon;have hj:j<11:=l9 ho;obtain ⟨x0,x1,x2,_,_,_,_⟩:=k17.but hu.but (by show ¬ (_=_∨_=_);omega);obtain ⟨y0,y1,y2,_,_,_,_⟩:=k18.but hu.but (by show ¬ (_=_∨_=_);omega);have cE0:u.cell? ⟨b15,0,none⟩=some (.int .i64 e9.n):=(hu.but.cell _ _ (by omega) (by show ¬ (_=_∨_=_);omega)).trans ke9.c0;have cE1:u.cell? ⟨b15,1,none⟩=some (.int .i64 e9.d):=(hu.but.cell _ _ (by omega) (by show ¬ (_=_∨_=_);omega)).trans ke9.c1;have cE2:u.cell? ⟨b15,2,none⟩=some (.bool e9.bad):=(hu.but.cell _ _ (by omega) (by show ¬ (_=_∨_=_);omega)).trans ke9.c2;have cA0:u.cell? ⟨b13,0,none⟩=some (.int .i64 a.n):=(hu.but.cell _ _ (by omega) (by show ¬ (_=_∨_=_);omega)).trans ka9.c0;have cA1:u.cell? ⟨b13,1,none⟩=some (.int .i64 a.d):=(hu.but.cell _ _ (by omega) (by show ¬ (_=_∨_=_);omega)).trans ka9.c1;have cA2:u.cell? ⟨b13,2,none⟩=some (.bool a.bad):=(hu.but.cell _ _ (by omega) (by show ¬ (_=_∨_=_);omega)).trans ka9.c2;rcases (by omega:j=0∨j=1∨j=2∨j=3∨j=4∨j=5∨j=6∨j=7∨j=8∨j=9∨j=10) with rfl|rfl|rfl|rfl|rfl|rfl|rfl|rfl|rfl|rfl|rfl
      ·obtain rfl:=o9 ho;have i16:_=Value.slice px' n cx':=hfr 16 (by decide);exact pw9 (by simp only [seval,i16];simp [go_sem]) ⟨_,rfl,rfl,TwoJ.bl (Bl.refl _) (by have:=hu.but.size;omega) (by have:=hu.but.size;omega)⟩
      ·obtain rfl:=o9 ho;have i17:_=Value.pointer (some ⟨b17,0,none⟩):=hfr 17 (by decide);exact pw9 (by simp only [seval,i17];simp [go_sem,x0,x1,x2]) ⟨_,rfl,rfl,TwoJ.bl (Bl.refl _) (by have:=hu.but.size;omega) (by have:=hu.but.size;omega)⟩
      ·obtain rfl:=o9 ho;have i18:_=Value.pointer (some ⟨w8.heap.size,0,none⟩):=hfr 18 (by decide);exact pw9 (by simp only [seval,i18];simp [go_sem,y0,y1,y2]) ⟨_,rfl,rfl,TwoJ.bl (Bl.refl _) (by have:=hu.but.size;omega) (by have:=hu.but.size;omega)⟩
      ·obtain rfl:=o9 ho;have i73:_=mV n n p8 N c8:=hin ⟨1,.data⟩ (by simp) rfl 73 rfl;have i74:_=mV n n p9 N c9:=hin ⟨2,.data⟩ (by simp) rfl 74 rfl;refine ew9 46 #[mV n n p8 N c8,mV n n p9 N c9] (by simp only [seval,i73,i74];simp [invoke,egM,Result.andThen,go_sem]) (MIR.out u hu) ?_;rintro e w' ⟨q,c,rfl,⟨hM,hF⟩,hb⟩;exact ⟨_,rfl,_,rfl,⟨q,c,rfl,hM,fresh_le hF hu.but.size⟩,TwoJ.bl hb (by have:=hu.but.size;omega) (by have:=hu.but.size;omega)⟩
      ·obtain rfl:=o9 ho;have i72:_=Value.slice px' n cx':=hin ⟨0,.data⟩ (by simp) rfl 72 rfl;have i75:∃ q c,(act.eval (.tmp (75:Nat)))=mV n n q N c∧Mx 3 cellsF u n n q N c PP∧Fresh W9.heap.size (.slice q N c):=hin ⟨3,.data⟩ (by simp) rfl 75 rfl;obtain ⟨q0,c0',e1,hq⟩:=i75;exact pw9 (by simp only [execOp,List.map_toArray,List.map_cons,List.map_nil,e1,i72];simp [Tryz.buildSF,Result.andThen,go_sem]) ⟨_,rfl,⟨q0,c0',rfl,hq⟩,TwoJ.bl (Bl.refl _) (by have:=hu.but.size;omega) (by have:=hu.but.size;omega)⟩
      ·obtain rfl:=o9 ho;have i15:_=Value.pointer (some ⟨b15,0,none⟩):=hfr 15 (by decide);exact pw9 (by simp only [seval,i15];simp [go_sem,cE0,cE1,cE2]) ⟨_,rfl,rfl,TwoJ.bl (Bl.refl _) (by have:=hu.but.size;omega) (by have:=hu.but.size;omega)⟩
      ·obtain rfl:=o9 ho;have i13:_=Value.pointer (some ⟨b13,0,none⟩):=hfr 13 (by decide);exact pw9 (by simp only [seval,i13];simp [go_sem,cA0,cA1,cA2]) ⟨_,rfl,rfl,TwoJ.bl (Bl.refl _) (by have:=hu.but.size;omega) (by have:=hu.but.size;omega)⟩
      ·obtain rfl:=o9 ho;have i77:_=frV e9:=hin ⟨5,.data⟩ (by simp) rfl 77 rfl;have i78:_=frV a:=hin ⟨6,.data⟩ (by simp) rfl 78 rfl;exact pw9 (by simp only [execOp,List.map_toArray,List.map_cons,List.map_nil,i77,i78];simp [Tryz.buildNF,Result.andThen,go_sem]) ⟨_,rfl,rfl,TwoJ.bl (Bl.refl _) (by have:=hu.but.size;omega) (by have:=hu.but.size;omega)⟩
      ·obtain rfl:=o9 ho;have i8:_=Value.pointer (some ⟨w.heap.size+1+1+1,0,none⟩):=hfr 8 (by decide);have i76:∃ q c,(act.eval (.tmp (76:Nat)))=sJ px' n cx' n n q N c∧Mx 3 cellsF u n n q N c PP∧Fresh W9.heap.size (.slice q N c):=hin ⟨4,.data⟩ (by simp) rfl 76 rfl;obtain ⟨q0,c0',e1,hq,hf⟩:=i76;obtain ⟨qa,qb,qc,qd,qe,qf,qg,qh,sx⟩:∃ px nx cx r c p n cap,SBox u (w.heap.size+1+1+1) px nx cx r c p n cap:=by
        rcases hu.g8 with e|⟨_,_,s,_⟩
        ·exact ⟨_,_,_,_,_,_,_,_,SZ0.out.heap e hu.but.size⟩
        ·exact ⟨_,_,_,_,_,_,_,_,s⟩
       have HQ:=hideP hq;have SX:=hideP sx;obtain ⟨d0,d1,d2,d3,g0,g1,g2,g3,ltd⟩:=id sx;have F8:=fun (X:World) (hX:X=((((u.setCell ⟨w.heap.size+1+1+1,0,none⟩ (.slice px' n cx')).setCell ⟨w.heap.size+1+1+1,1,none⟩ (.int .i64 n)).setCell ⟨w.heap.size+1+1+1,2,none⟩ (.int .i64 n)).setCell ⟨w.heap.size+1+1+1,3,none⟩ (.slice q0 N c0')))=>(show ∃ q c,SBox X (w.heap.size+1+1+1) px' n cx' n n q N c∧Mx 3 cellsF X n n q N c PP∧Fresh W9.heap.size (.slice q N c) from by rw [hX];exact ⟨q0,c0',SX.out.fill _ _ _ _ _ _ _ _,mx_put4 HQ.out (fresh_le hf (by omega)) _ _ _ _,hf⟩)
       exact sw9 (by simp only [execOp,i8,e1];simp [go_sem,d0,d1,d2,d3,g0,g1,g2,g3]) ⟨undef,rfl,F8 _ rfl,⟨(((but_cell1 (.inl rfl) _ _ _).trans (but_cell1 (.inl rfl) _ _ _)).trans (but_cell1 (.inl rfl) _ _ _)).trans (but_cell1 (.inl rfl) _ _ _),.inr (F8 _ rfl),.inl (by rw [heap1 _ (by omega),heap1 _ (by omega),heap1 _ (by omega),heap1 _ (by omega)])⟩⟩
      ·obtain rfl:=o9 ho;have i9:_=Value.pointer (some ⟨w.heap.size+1+1+1+1,0,none⟩):=hfr 9 (by decide);have i79:_=newsVF e9 a:=hin ⟨7,.data⟩ (by simp) rfl 79 rfl;obtain ⟨x',y',nx⟩:∃ x y,NBoxF u (w.heap.size+1+1+1+1) x y:=by
        rcases hu.l9 with e|t
        ·exact ⟨_,_,NZ0.out.heap e hu.but.size⟩
        ·exact ⟨_,_,t⟩
       have NX:=hideP nx;obtain ⟨d0,d1,d2,d3,d4,d5,g0,g1,g2,g3,g4,g5,ltd⟩:=id nx;exact sw9 (by simp only [execOp,i9,i79];simp [go_sem,d0,d1,d2,d3,d4,d5,g0,g1,g2,g3,g4,g5]) ⟨undef,rfl,NX.out.fill e9 a,⟨(((((but_cell1 (.inr rfl) _ _ _).trans (but_cell1 (.inr rfl) _ _ _)).trans (but_cell1 (.inr rfl) _ _ _)).trans (but_cell1 (.inr rfl) _ _ _)).trans (but_cell1 (.inr rfl) _ _ _)).trans (but_cell1 (.inr rfl) _ _ _),.inl (by rw [heap1 _ (by omega),heap1 _ (by omega),heap1 _ (by omega),heap1 _ (by omega),heap1 _ (by omega),heap1 _ (by omega)]),.inr (NX.out.fill e9 a)⟩⟩
      ·obtain rfl:=o9 ho;exact pw9 (by simp only [seval];simp [go_sem]) ⟨_,rfl,rfl,TwoJ.bl (Bl.refl _) (by have:=hu.but.size;omega) (by have:=hu.but.size;omega)⟩
     case fin =>
      intro vs u hu hin hnon;have a0:=hin 0 72 rfl;have a1:=hin 1 73 rfl;have a2:=hin 2 74 rfl;have a3:=hin 3 75 rfl;have a4:=hin 4 76 rfl;have a5:=hin 5 77 rfl;have a6:=hin 6 78 rfl;have a7:=hin 7 79 rfl;have a8:=hnon 8 rfl;have a9:=hnon 9 rfl;have a10:=hin 10 10 rfl;simp only [seval] at a0 a1 a2 a3 a4 a5 a6 a7 a8 a9 a10 ⊢;simp only [a0,a1,a2,a5,a6,a7,a10];obtain ⟨q,c,sx,hM,hF⟩:=a8;obtain ⟨d0,d1,d2,d3,_,_,_,_,_⟩:=sx;obtain ⟨n0,n1,n2,n3,n4,n5,_,_,_,_,_,_,_⟩:=a9;have HM:=hideP hM;have HRW:=hideP ((HRX.out.later b79).but hu.but (fun g hg=>by have:=HFX.out g hg;show ¬ (_=_∨_=_);omega));have HFN:=hideP hF;clear a3 a4 hM hF hin hnon;go_wp2;simp [bodyPost,results,Tryz.results15,go_sem,d0,d1,d2,d3,n0,n1,n2,n3,n4,n5];refine ⟨px',cx',q,c,by simp,⟨?_,HM.out,fresh_le HFX.out (by omega),fresh_le HFN.out (by omega)⟩,hu.but.bl B9 (fun i hi=>by rcases hi with h|h<;>omega)⟩;rw [HUX.out];exact HRW.out
set_option maxRecDepth 100000 in
set_option maxHeartbeats 4000000 in
theorem jPredictF (n N:Nat) (px:Option Addr) (cx:Nat) (x:Nat→Fr) (p:Option Addr) (cap:Nat) (P:Nat→Nat→Fr) (pf:Option Addr) (cf:Nat) (f:Nat→Nat→Fr) (pg:Option Addr) (cg:Nat) (g:Nat→Nat→Fr) (w:World)
  (hx:Rq 3 cellsF w (.slice px n cx) (linJ n x)) (hP:Mx 3 cellsF w n n p N cap P) (hf:Mx 3 cellsF w n n pf N cf f) (hg:Mx 3 cellsF w n n pg N cg g) (h4:n≤4) :
  Calls Tryz.prog 13 #[sJ px n cx n n p N cap,mV n n pf N cf,mV n n pg N cg] w fun e w'=>∃ q c p' c',e=.returned (.tuple #[sJ q n c n n p' N c',.bool true])∧(Rw 3 cellsF w' (.slice q n c) (linJ n (appJ kdF n f x))∧Mx 3 cellsF w' n n p' N c' (predJ kdF n f P g))∧Bl w w':=by
 have hfit:=fitJ_dim hP.1 hP.2.1 h4;obtain ⟨W,hW⟩:∃ W,W=(((w.alloc (.cells #[.slice px n cx,.int .i64 n,.int .i64 n,.slice p N cap] 36)).alloc (.cells #[.int .i64 n,.int .i64 n,.slice pf N cf] 30)).alloc (.cells #[.int .i64 n,.int .i64 n,.slice pg N cg] 30)).alloc (.cells #[.slice none 0 0,.int .i64 0,.int .i64 0,.slice none 0 0] 36):=⟨_,rfl⟩;have b0:Bl w W:=by rw [hW];exact ((((Bl.refl _).alloc _).alloc _).alloc _).alloc _
 have s0:SBox W w.heap.size px n cx n n p N cap:=by rw [hW];exact (SBox.new w _ _ _ _ _ _ _ _ _).later ((((Bl.refl _).alloc _).alloc _).alloc _)
 have mf0:MBox W (w.heap.size+1) n n pf N cf:=by rw [hW];have:=MBox.new (w.alloc (.cells #[.slice px n cx,.int .i64 n,.int .i64 n,.slice p N cap] 36)) n n pf N cf 30;rw [World.size_alloc] at this;exact this.later (((Bl.refl _).alloc _).alloc _)
 have mg0:MBox W (w.heap.size+1+1) n n pg N cg:=by rw [hW];have:=MBox.new ((w.alloc (.cells #[.slice px n cx,.int .i64 n,.int .i64 n,.slice p N cap] 36)).alloc (.cells #[.int .i64 n,.int .i64 n,.slice pf N cf] 30)) n n pg N cg 30;rw [World.size_alloc,World.size_alloc] at this;exact this.later ((Bl.refl _).alloc _)
 have z0:SBox W (w.heap.size+1+1+1) none 0 0 0 0 none 0 0:=by rw [hW];have:=SBox.new (((w.alloc (.cells #[.slice px n cx,.int .i64 n,.int .i64 n,.slice p N cap] 36)).alloc (.cells #[.int .i64 n,.int .i64 n,.slice pf N cf] 30)).alloc (.cells #[.int .i64 n,.int .i64 n,.slice pg N cg] 30)) none 0 0 0 0 none 0 0 36;rw [World.size_alloc,World.size_alloc,World.size_alloc] at this;exact this
 have hs:W.heap.size=w.heap.size+1+1+1+1:=by rw [hW];simp
 have HX:=hideP hx;have HP:=hideP hP;have HFX:=hideP hf;have HGX:=hideP hg;have HW:=hideP hW;clear hW hx hP hf hg
 go_enter Tryz.func13,Tryz.ntmps13;go_wp2_with fail
 rw [←HW.out];refine (jRightF _ _ _ _ _ _ _ _ _).mono ?_;rintro e w1 ⟨rfl,h1⟩;rw [hfit];obtain ⟨c0,c1,c2,_,_,_,_⟩:=mf0.later h1;go_wp2_with fail
 refine (jFitsF _ _ _ _ _ _ _).mono ?_;rintro e w2 ⟨rfl,h2⟩;rw [hfit];clear c0 c1 c2;obtain ⟨c0,c1,c2,_,_,_,_⟩:=mg0.later (h1.trans h2);go_wp2_with fail
 refine (jFitsF _ _ _ _ _ _ _).mono ?_;rintro e w3 ⟨rfl,h3⟩;rw [hfit];clear c0 c1 c2;have b3:Bl W w3:=h1.trans (h2.trans h3);obtain ⟨c0,c1,c2,_,_,_,_⟩:=mf0.later b3;obtain ⟨d0,d1,d2,d3,_,_,_,_,_⟩:=s0.later b3;go_wp2_with fail
 refine (mApplyF' n n pf N cf f px cx (linJ n x) w3 (HFX.out.later (b0.trans b3)) (HX.out.later (b0.trans b3)) (linJ_len _ _)).mono ?_;rintro e w4 ⟨q,c,rfl,hR,hFr,h4'⟩;have HR:=hideP (show Rw 3 cellsF w4 (.slice q n c) (linJ n (appJ kdF n f x)) from hR);have b4:Bl W w4:=b3.trans h4';have HF:=hideP (show Fresh (w.heap.size+1+1+1+1) (.slice q n c) from fresh_le hFr (by have:=b3.size;omega));clear c0 c1 c2 d0 d1 d2 d3 hR hFr;obtain ⟨c0,c1,c2,_,_,_,_⟩:=mf0.later b4;obtain ⟨d0,d1,d2,d3,_,_,_,_,_⟩:=s0.later b4;go_wp2_with fail
 refine (jAroundF n N pf cf f p cap P w4 (HFX.out.later (b0.trans b4)) (HP.out.later (b0.trans b4))).mono ?_;rintro e w5 ⟨p5,c5,rfl,⟨h5x,_⟩,h5⟩;have k5:=MBox.new w5 n n p5 N c5 30;obtain ⟨W5,hW5⟩:∃ W5,W5=w5.alloc (.cells #[.int .i64 n,.int .i64 n,.slice p5 N c5] 30):=⟨_,rfl⟩;have b5':Bl w5 W5:=by rw [hW5];exact (Bl.refl _).alloc _
 rw [←hW5] at k5;have b5:Bl W W5:=b4.trans (h5.trans b5');have H5:=hideP (Mx.later h5x b5');clear c0 c1 c2 d0 d1 d2 d3 h5x;obtain ⟨c0,c1,c2,_,_,_,_⟩:=mg0.later b5;have HW5:=hideP hW5;rw [hW5] at c0 c1 c2;clear hW5;go_wp2_with fail
 rw [←HW5.out];refine (tSqF n pg N cg g W5 (HGX.out.later (b0.trans b5))).mono ?_;rintro e w6 ⟨p6,c6,rfl,⟨h6x,_⟩,h6⟩;have k6:=MBox.new w6 n n p6 N c6 30;obtain ⟨W6,hW6⟩:∃ W6,W6=w6.alloc (.cells #[.int .i64 n,.int .i64 n,.slice p6 N c6] 30):=⟨_,rfl⟩;have b6':Bl w6 W6:=by rw [hW6];exact (Bl.refl _).alloc _
 rw [←hW6] at k6;have b6:Bl W W6:=b5.trans (h6.trans b6');have H6:=hideP (show Mx 3 cellsF W6 n n p6 N c6 (squareJ kdF n g) from Mx.later h6x b6');clear c0 c1 c2 h6x;have k56:=k5.later (h6.trans b6');obtain ⟨c0,c1,c2,_,_,_,_⟩:=k6;obtain ⟨d0,d1,d2,_,_,_,_⟩:=k56;have HW6:=hideP hW6;rw [hW6] at c0 c1 c2 d0 d1 d2;clear hW6;go_wp2_with fail
 rw [←HW6.out];refine (jMirroredF n N p5 c5 _ p6 c6 _ W6 (H5.out.later (h6.trans b6')) H6.out).mono ?_;rintro e w7 ⟨p7,c7,rfl,⟨h7x,hF7⟩,h7⟩;have b7:Bl W w7:=b6.trans h7;have H7:=hideP (show Mx 3 cellsF w7 n n p7 N c7 (predJ kdF n f P g) from h7x);have HF7:=hideP (show Fresh (w.heap.size+1+1+1+1) (.slice p7 N c7) from fresh_le hF7 (by have:=b6.size;omega));clear c0 c1 c2 d0 d1 d2 h7x hF7 H5 H6;obtain ⟨c0,c1,c2,c3,f0,f1,f2,f3,lt⟩:=z0.later b7;have b47:Bl w4 w7:=(h5.trans b5').trans ((h6.trans b6').trans h7);have BS:=Tryz.buildSF q n c n n p7 N c7 w7;go_wp2;simp [bodyPost,results,Tryz.results13,go_sem,c0,c1,c2,c3];exact ⟨q,c,p7,c7,by simp,⟨rw_put4F (HR.out.later b47) HF.out _ _ _ _,mx_put4 H7.out HF7.out _ _ _ _⟩,Bl.put4 (b0.trans b7) (by omega) _ _ _ _⟩
def edgeB (ops:Array Oper) (i j:Nat):Bool:=match ops[i]? with
 |none=>false
 |some o=>o.after.any fun e=>(e.on==j)&&Region.binds .any e
theorem edge_of {ops:Array Oper} {i j:Nat} (h:edgeB ops i j=true):∃ (o:Oper) (e:Edge),ops[i]?=some o∧e∈o.after∧e.on=j∧Region.binds .any e=true:=by
 unfold edgeB at h;cases ho:ops[i]? with
 |none=>rw [ho] at h;cases h
 |some o =>
  rw [ho] at h;simp only [Array.any_eq_true'] at h;obtain ⟨e,he,hb⟩:=h;simp only [Bool.and_eq_true,beq_iff_eq] at hb;exact ⟨o,e,rfl,he,hb.1,hb.2⟩
def wellU (ops:Array Oper) (ds:List (Option Nat)) (k:Nat):Bool:=
 lowB2 ops&&onceB ds&&(ds.length==ops.size)&&(ops.size==k+10)&&((List.range ops.size).all fun j=>match ops[j]? with
  |none=>true
  |some o=>o.guard.isNone&&(ds[j]?==some o.dst))&&((List.range k).all fun j=>(List.range (k+1)).any fun i=>decide (j<i)&&edgeB ops i j)
  && ((List.range k).all fun j=>match ds[j]? with
   |some (some _)=>true
   |_=>false)&&edgeB ops (k+1) k&&edgeB ops (k+2) (k+1)&&edgeB ops (k+3) (k+1)&&edgeB ops (k+4) (k+1)&&edgeB ops (k+7) (k+5)&&edgeB ops (k+7) (k+2)&&edgeB ops (k+8) (k+6)&&edgeB ops (k+8) (k+3)&&edgeB ops (k+8) (k+7)&&edgeB ops (k+9) (k+4)
structure Upd (δ:Type) where
 v0:δ→Value
 v1:δ→Value
 v2:δ→Value
 dat:δ→World→Prop
 off:δ→Nat→Prop
 za:World→Nat→Prop
 zb:World→Nat→Prop
 sa:δ→World→Nat→Prop
 sb:δ→World→Nat→Prop
structure UpdOk {δ:Type} (U:Upd δ):Prop where
 dat_bl:∀ D u u',U.dat D u→Bl u u'→U.dat D u'
 dat_off:∀ D u b,U.dat D u→u.heap.size≤b→U.off D b
 za_heap:∀ u u' b,U.za u b→b<u.heap.size→u'.heap[b]?=u.heap[b]?→u.heap.size≤u'.heap.size→U.za u' b
 zb_heap:∀ u u' b,U.zb u b→b<u.heap.size→u'.heap[b]?=u.heap[b]?→u.heap.size≤u'.heap.size→U.zb u' b
 sa_heap:∀ D u u' b,U.sa D u b→b<u.heap.size→u'.heap[b]?=u.heap[b]?→u.heap.size≤u'.heap.size→U.sa D u' b
 sb_heap:∀ D u u' b,U.sb D u b→b<u.heap.size→u'.heap[b]?=u.heap[b]?→u.heap.size≤u'.heap.size→U.sb D u' b
 ne0:∀ u b,U.za u b→U.zb u b→False
 ne1:∀ D u b,U.za u b→U.sb D u b→False
 ne2:∀ D u b,U.sa D u b→U.zb u b→False
structure IU {δ:Type} (U:Upd δ) (W:World) (a:Act) (ops:Array Oper) (ds:List (Option Nat)) (k t0 tm d0 d1 d2 dA dB dC:Nat) (facts:Nat→Value→World→Prop) (L:Nat→Bool) (act:Act) (u:World):Prop where
 size:act.tmps.size=a.tmps.size
 defers:act.defers=a.defers
 frame:∀ t,(∀ j,L j=true→ds[j]?≠some (some t))→act.eval (.tmp t)=a.eval (.tmp t)
 shut:∀ (j:Nat) (o:Oper),ops[j]?=some o→L j=true→∀ e∈o.after,Region.binds .any e=true→L e.on=true
 bl:Bl W u
 pre:L k=false→∀ j t,j<k→L j=true→ds[j]?=some (some t)→facts j (act.eval (.tmp t)) u
 A:L (k+5)=true→∃ b,act.eval (.tmp dA)=.pointer (some ⟨b,0,none⟩)∧W.heap.size≤b∧b<u.heap.size∧(L (k+7)=false→U.za u b)
 B:L (k+6)=true→∃ b,act.eval (.tmp dB)=.pointer (some ⟨b,0,none⟩)∧W.heap.size≤b∧b<u.heap.size∧(L (k+8)=false→U.zb u b)
 post:L k=true→∃ D,act.eval (.tmp t0)=.tuple #[U.v0 D,U.v1 D,U.v2 D]∧U.dat D u∧(L (k+1)=true→act.eval (.tmp tm)=.tuple #[U.v0 D,U.v1 D,U.v2 D])
  ∧ (L (k+2)=true→act.eval (.tmp d0)=U.v0 D)∧(L (k+3)=true→act.eval (.tmp d1)=U.v1 D)∧(L (k+4)=true→act.eval (.tmp d2)=U.v2 D)∧(L (k+9)=true→act.eval (.tmp dC)=U.v2 D)
  ∧ (L (k+5)=true→∀ b,act.eval (.tmp dA)=.pointer (some ⟨b,0,none⟩)→U.off D b∧(L (k+7)=true→U.sa D u b))
  ∧ (L (k+6)=true→∀ b,act.eval (.tmp dB)=.pointer (some ⟨b,0,none⟩)→U.off D b∧(L (k+8)=true→U.sb D u b))
theorem put_other {ds:List (Option Nat)} (ho:onceB ds=true) {i j t t':Nat} (hi:ds[i]?=some (some t)) (hj:ds[j]?=some (some t')) (hne:j≠i) (v:Value) (act:Act):(act.put (some t) v).eval (.tmp t')=act.eval (.tmp t'):=
 eval_put_ne (fun e=>once_ne ho j i t' t hj hi hne (Option.some.inj e).symm)
set_option maxHeartbeats 4000000 in
theorem region_u {δ:Type} {U:Upd δ} (ok:UpdOk U) {F:Fence} {n:Nat} {P:Program} {ops:Array Oper} {Q:Exit→Act→World→Prop} {a:Act} {W:World} {id:Nat} (hm:P.follows .mixedOrders=true) (ds:List (Option Nat)) (k:Nat) (hw:wellU ops ds k=true)
  (hsz0:ds.all (fun d=>match d with|some t=>Nat.blt t a.tmps.size|none=>true)=true) (t0 tm d0 d1 d2 dA dB dC:Nat) (hds:ds.drop k=[some t0,some tm,some d0,some d1,some d2,some dA,some dB,none,none,some dC])
  (facts:Nat→Value→World→Prop) (mono:∀ j v u u',Bl u u'→facts j v u→facts j v u')
  (step:∀ (j:Nat) (o:Oper) (t:Nat) (act:Act) (u:World),j<k→ops[j]?=some o→o.dst=some t→act.tmps.size=a.tmps.size→Bl W u→(∀ t,some t ∉ ds→act.eval (.tmp t)=a.eval (.tmp t))→(∀ e∈o.after,Region.binds .any e=true→∀ t,ds[e.on]?=some (some t)→facts e.on (act.eval (.tmp t)) u) →
   Oper.wpIn F n P o act u (fun act' u'=>∃ v,act'=act.put (some t) v∧facts j v u'∧Bl u u') Q)
  (call:∀ (o:Oper) (act:Act) (u:World),ops[k]?=some o→act.tmps.size=a.tmps.size→Bl W u→(∀ t,some t ∉ ds→act.eval (.tmp t)=a.eval (.tmp t))→(∀ e∈o.after,Region.binds .any e=true→∀ t,ds[e.on]?=some (some t)→facts e.on (act.eval (.tmp t)) u) →
   Oper.wpIn F n P o act u (fun act' u'=>∃ D,act'=act.put (some t0) (.tuple #[U.v0 D,U.v1 D,U.v2 D])∧U.dat D u'∧Bl u u'∧∀ b,b<u.heap.size→W.heap.size≤b→U.off D b) Q)
  (mv:∀ (o:Oper) (act:Act) (u:World) (x:Value),ops[k+1]?=some o→act.eval (.tmp t0)=x→Oper.wpIn F n P o act u (fun act' u'=>act'=act.put (some tm) x∧u'=u) Q)
  (x0:∀ (o:Oper) (act:Act) (u:World) (x y z:Value),ops[k+2]?=some o→act.eval (.tmp tm)=.tuple #[x,y,z]→Oper.wpIn F n P o act u (fun act' u'=>act'=act.put (some d0) x∧u'=u) Q)
  (x1:∀ (o:Oper) (act:Act) (u:World) (x y z:Value),ops[k+3]?=some o→act.eval (.tmp tm)=.tuple #[x,y,z]→Oper.wpIn F n P o act u (fun act' u'=>act'=act.put (some d1) y∧u'=u) Q)
  (x2:∀ (o:Oper) (act:Act) (u:World) (x y z:Value),ops[k+4]?=some o→act.eval (.tmp tm)=.tuple #[x,y,z]→Oper.wpIn F n P o act u (fun act' u'=>act'=act.put (some d2) z∧u'=u) Q)
  (la:∀ (o:Oper) (act:Act) (u:World),ops[k+5]?=some o→Oper.wpIn F n P o act u (fun act' u'=>act'=act.put (some dA) (.pointer (some ⟨u.heap.size,0,none⟩))∧U.za u' u.heap.size∧Bl u u'∧u.heap.size<u'.heap.size) Q)
  (lb:∀ (o:Oper) (act:Act) (u:World),ops[k+6]?=some o→Oper.wpIn F n P o act u (fun act' u'=>act'=act.put (some dB) (.pointer (some ⟨u.heap.size,0,none⟩))∧U.zb u' u.heap.size∧Bl u u'∧u.heap.size<u'.heap.size) Q)
  (sa:∀ (o:Oper) (act:Act) (u:World) (D:δ) (b:Nat),ops[k+7]?=some o→act.eval (.tmp dA)=.pointer (some ⟨b,0,none⟩)→act.eval (.tmp d0)=U.v0 D→U.za u b→U.dat D u→U.off D b→Bl W u→W.heap.size≤b →
   Oper.wpIn F n P o act u (fun act' u'=>act'=act∧U.sa D u' b∧U.dat D u'∧Bl W u'∧(∀ b',b'≠b→u'.heap[b']?=u.heap[b']?)∧u.heap.size≤u'.heap.size) Q)
  (sb:∀ (o:Oper) (act:Act) (u:World) (D:δ) (b:Nat),ops[k+8]?=some o→act.eval (.tmp dB)=.pointer (some ⟨b,0,none⟩)→act.eval (.tmp d1)=U.v1 D→U.zb u b→U.dat D u→U.off D b→Bl W u→W.heap.size≤b →
   Oper.wpIn F n P o act u (fun act' u'=>act'=act∧U.sb D u' b∧U.dat D u'∧Bl W u'∧(∀ b',b'≠b→u'.heap[b']?=u.heap[b']?)∧u.heap.size≤u'.heap.size) Q)
  (asg:∀ (o:Oper) (act:Act) (u:World) (x:Value),ops[k+9]?=some o→act.eval (.tmp d2)=x→Oper.wpIn F n P o act u (fun act' u'=>act'=act.put (some dC) x∧u'=u) Q)
  (fin:∀ (vs:Nat→Value) (u:World) (D:δ) (b1 b2:Nat),Bl W u→vs (k+9)=U.v2 D→vs (k+5)=.pointer (some ⟨b1,0,none⟩)→vs (k+6)=.pointer (some ⟨b2,0,none⟩)→W.heap.size≤b1→W.heap.size≤b2→U.sa D u b1→U.sb D u b2→U.dat D u→Q .normal (putL ds vs 0 a) u) :
  (Code.region id ops true).wpIn F n P Q a W:=by
 simp only [wellU,Bool.and_eq_true] at hw;obtain ⟨⟨⟨⟨⟨⟨⟨⟨⟨⟨⟨⟨⟨⟨⟨⟨hlow,honce⟩,hlen⟩,hos⟩,hall'⟩,hused⟩,hsome⟩,e10⟩,e21⟩,e31⟩,e41⟩,e75⟩,e72⟩,e86⟩,e83⟩,e87⟩,e94⟩:=hw;have hos':ops.size=k+10:=by simpa using hos
 have hlen':ds.length=ops.size:=by simpa using hlen
 have key:∀ (j:Nat) (o:Oper),ops[j]?=some o→o.guard=none∧ds[j]?=some o.dst:=fun j o ho=>by
  have:=List.all_eq_true.1 hall' j (by simpa using (Array.getElem?_eq_some_iff.1 ho).1);rw [ho] at this;simpa using this
 have hsz:∀ t,some t∈ds→t<a.tmps.size:=fun t ht=>by have:=List.all_eq_true.1 hsz0 _ ht;rw [Nat.blt_eq] at this;exact this
 have dk:∀ i,ds[k+i]?=([some t0,some tm,some d0,some d1,some d2,some dA,some dB,none,none,some dC]:List (Option Nat))[i]?:=fun i=>by rw [←hds,List.getElem?_drop]
 have k0:ds[k]?=some (some t0):=dk 0;have k1:ds[k+1]?=some (some tm):=dk 1;have k2:ds[k+2]?=some (some d0):=dk 2;have k3:ds[k+3]?=some (some d1):=dk 3;have k4:ds[k+4]?=some (some d2):=dk 4;have k5:ds[k+5]?=some (some dA):=dk 5;have k6:ds[k+6]?=some (some dB):=dk 6;have k7:ds[k+7]?=some none:=dk 7;have k8:ds[k+8]?=some none:=dk 8;have k9:ds[k+9]?=some (some dC):=dk 9;refine region_facts2 hm (lowB2_low hlow) (IU U W a ops ds k t0 tm d0 d1 d2 dA dB dC facts) ?_ ?_ ?_
 ·exact ⟨rfl,rfl,fun _ _=>rfl,(by intro _ _ _ h;cases h),(Bl.refl _).drew,(by intro _ _ _ _ h;cases h),(by intro h;cases h),(by intro h;cases h),(by intro h;cases h)⟩
 ·intro L act u i o hI ho hLi hall;have hil:i<k+10:=by have:=(Array.getElem?_eq_some_iff.1 ho).1;omega
  refine step_wp ho (key i o ho).1 ?_;have hdi:=(key i o ho).2;have hfr:∀ t,some t ∉ ds→act.eval (.tmp t)=a.eval (.tmp t):=fun t ht=>hI.frame t (fun j _ e=>ht (List.mem_of_getElem? e))
  have shut':∀ (j:Nat) (o':Oper),ops[j]?=some o'→(L j||(j==i))=true→∀ e∈o'.after,Region.binds .any e=true→(L e.on||(e.on==i))=true:=fun j o' ho' hj e he hb=>by
   rw [Bool.or_eq_true] at hj;rcases hj with hj|hj
   ·rw [hI.shut j o' ho' hj e he hb];rfl
   ·obtain rfl:j=i:=by simpa using hj
    rw [ho] at ho';cases ho';rw [hall e he hb];rfl
  have frame':∀ (t:Nat) v,o.dst=some t→∀ t',(∀ j,(L j||(j==i))=true→ds[j]?≠some (some t'))→(act.put (some t) v).eval (.tmp t')=a.eval (.tmp t'):=fun t v hd t' h=>by
   rw [eval_put_ne (fun e=>h i (by simp) (by rw [hdi,hd,e]))];exact hI.frame t' (fun j hj=>h j (by rw [hj];rfl))
  have frame0:∀ t',(∀ j,(L j||(j==i))=true→ds[j]?≠some (some t'))→act.eval (.tmp t')=a.eval (.tmp t'):=fun t' h=>hI.frame t' (fun j hj=>h j (by rw [hj];rfl))
  have waits:∀ j,edgeB ops i j=true→L j=true:=fun j h=>by
   obtain ⟨o',e,ho',he,hej,hb⟩:=edge_of h;rw [ho] at ho';cases ho';rw [←hej];exact hall e he hb
  have done:∀ x y,edgeB ops x y=true→L x=true→L y=true:=fun x y h hx=>by
   obtain ⟨o',e,ho',he,hej,hb⟩:=edge_of h;rw [←hej];exact hI.shut x o' ho' hx e he hb
  have ohter:∀ (t:Nat) (v:Value) (j t':Nat),ds[i]?=some (some t)→ds[j]?=some (some t')→j≠i→(act.put (some t) v).eval (.tmp t')=act.eval (.tmp t'):=fun t v j t' h1 h2 h3=>put_other honce h1 h2 h3 v act
  have same:∀ (t:Nat) (v:Value),ds[i]?=some (some t)→(act.put (some t) v).eval (.tmp t)=v:=fun t v h=>eval_put_same (by rw [hI.size];exact hsz t (List.mem_of_getElem? h))
  have lt':∀ x,x≠i→(L x||(x==i))=L x:=fun x hx=>by rw [show (x==i)=false by simpa using hx,Bool.or_false]
  have ii:(L i||(i==i))=true:=by simp
  rcases Nat.lt_or_ge i k with hik|hik
  ·-- before the call
   have hk0:L k=false:=by
    cases hh:L k with
    |false=>rfl
    |true =>
     have clos:∀ m j,k-j≤m→j<k→L j=true:=by
      intro m
      induction m with
      |zero=>intro j h1 h2;omega
      |succ m ih =>
       intro j h1 h2;have h3:=List.all_eq_true.1 hused j (by simpa using h2);simp only [List.any_eq_true,Bool.and_eq_true,decide_eq_true_eq,List.mem_range] at h3;obtain ⟨x,hx,hjx,he⟩:=h3;refine done x j he ?_;by_cases e:x=k
       ·rw [e];exact hh
       ·exact ih x (by omega) (by omega)
     rw [clos (k-i) i (Nat.le_refl _) hik] at hLi;cases hLi
   have hd:∃ t,o.dst=some t:=by
    have h3:=List.all_eq_true.1 hsome i (by simpa using hik);rw [hdi] at h3;cases hd:o.dst with
    |some t=>exact ⟨t,rfl⟩
    |none=>rw [hd] at h3;cases h3
   obtain ⟨t,hd⟩:=hd;have hdt:ds[i]?=some (some t):=by rw [hdi,hd]
   refine Oper.wpIn_mono ?_ (step i o t act u hik ho hd hI.size hI.bl hfr (fun e he hb t' ht'=>hI.pre hk0 e.on t' (by have:=lowB2_low hlow i o ho e he hb;omega) (hall e he hb) ht'));rintro act' u' ⟨v,rfl,hf,hb⟩;refine ⟨by rw [size_put];exact hI.size,by rw [defers_put];exact hI.defers,frame' t v hd,shut',hI.bl.trans hb,fun _ j t' hj hL hdj=>?_,fun h=>?_,fun h=>?_,fun h=>?_⟩
   ·by_cases e:j=i
    ·subst e;rw [hdt] at hdj;cases hdj;rw [same t v hdt];exact hf
    ·rw [ohter t v j t' hdt hdj e];rw [lt' j e] at hL;exact mono j _ u u' hb (hI.pre hk0 j t' hj hL hdj)
   ·rw [lt' _ (by omega)] at h;obtain ⟨b,h1,h2,h3,h4⟩:=hI.A h;refine ⟨b,by rw [ohter t v _ _ hdt k5 (by omega)];exact h1,h2,Nat.lt_of_lt_of_le h3 hb.size,fun h5=>?_⟩;rw [lt' _ (by omega)] at h5;exact ok.za_heap u u' b (h4 h5) h3 (Below.block hb b h3) hb.size
   ·rw [lt' _ (by omega)] at h;obtain ⟨b,h1,h2,h3,h4⟩:=hI.B h;refine ⟨b,by rw [ohter t v _ _ hdt k6 (by omega)];exact h1,h2,Nat.lt_of_lt_of_le h3 hb.size,fun h5=>?_⟩;rw [lt' _ (by omega)] at h5;exact ok.zb_heap u u' b (h4 h5) h3 (Below.block hb b h3) hb.size
   ·rw [lt' _ (by omega),hk0] at h;cases h
  ·skip
   have hcase:i=k∨i=k+1∨i=k+2∨i=k+3∨i=k+4∨i=k+5∨i=k+6∨i=k+7∨i=k+8∨i=k+9:=by omega
   have fls:∀ x,(L x=true→False)→L x=false:=fun x h=>by cases hh:L x with|false=>rfl|true=>exact (h hh).elim
   have no:∀ x,L i=true→x:=fun x h=>by rw [h] at hLi;cases hLi
   have to0:L (k+1)=true→L k=true:=done _ _ e10;have to21:L (k+2)=true→L k=true:=fun h=>to0 (done _ _ e21 h)
   have to31:L (k+3)=true→L k=true:=fun h=>to0 (done _ _ e31 h)
   have to41:L (k+4)=true→L k=true:=fun h=>to0 (done _ _ e41 h)
   rcases hcase with rfl|rfl|rfl|rfl|rfl|rfl|rfl|rfl|rfl|rfl
   ·-- the call
    have n1:L (i+1)=false:=fls _ fun h=>no _ (to0 h)
    have n2:L (i+2)=false:=fls _ fun h=>no _ (to21 h)
    have n3:L (i+3)=false:=fls _ fun h=>no _ (to31 h)
    have n4:L (i+4)=false:=fls _ fun h=>no _ (to41 h)
    have n7:L (i+7)=false:=fls _ fun h=>no _ (to21 (done _ _ e72 h))
    have n8:L (i+8)=false:=fls _ fun h=>no _ (to31 (done _ _ e83 h))
    have n9:L (i+9)=false:=fls _ fun h=>no _ (to41 (done _ _ e94 h))
    have hd:o.dst=some t0:=by rw [hdi] at k0;exact Option.some.inj k0
    refine Oper.wpIn_mono ?_ (call o act u ho hI.size hI.bl hfr (fun e he hb t' ht'=>hI.pre hLi e.on t' (lowB2_low hlow i o ho e he hb) (hall e he hb) ht'));rintro act' u' ⟨D,rfl,hdat,hb,hoff⟩;refine ⟨by rw [size_put];exact hI.size,by rw [defers_put];exact hI.defers,frame' t0 _ hd,shut',hI.bl.trans hb,fun h=>(by rw [ii] at h;cases h),fun h=>?_,fun h=>?_,fun _=>⟨D,same _ _ k0,hdat,fun h=>?_,fun h=>?_,fun h=>?_,fun h=>?_,fun h=>?_,fun h b hb1=>?_,fun h b hb1=>?_⟩⟩
    ·rw [lt' _ (by omega)] at h;obtain ⟨b,h1,h2,h3,h4⟩:=hI.A h;exact ⟨b,by rw [ohter _ _ _ _ k0 k5 (by omega)];exact h1,h2,Nat.lt_of_lt_of_le h3 hb.size,fun _=>ok.za_heap u u' b (h4 n7) h3 (Below.block hb b h3) hb.size⟩
    ·rw [lt' _ (by omega)] at h;obtain ⟨b,h1,h2,h3,h4⟩:=hI.B h;exact ⟨b,by rw [ohter _ _ _ _ k0 k6 (by omega)];exact h1,h2,Nat.lt_of_lt_of_le h3 hb.size,fun _=>ok.zb_heap u u' b (h4 n8) h3 (Below.block hb b h3) hb.size⟩
    ·rw [lt' _ (by omega),n1] at h;cases h
    ·rw [lt' _ (by omega),n2] at h;cases h
    ·rw [lt' _ (by omega),n3] at h;cases h
    ·rw [lt' _ (by omega),n4] at h;cases h
    ·rw [lt' _ (by omega),n9] at h;cases h
    ·rw [lt' _ (by omega)] at h;obtain ⟨b',h1,h2,h3,h4⟩:=hI.A h;rw [ohter _ _ _ _ k0 k5 (by omega),h1] at hb1;cases hb1;exact ⟨hoff b h3 h2,fun h7=>by rw [lt' _ (by omega),n7] at h7;cases h7⟩
    ·rw [lt' _ (by omega)] at h;obtain ⟨b',h1,h2,h3,h4⟩:=hI.B h;rw [ohter _ _ _ _ k0 k6 (by omega),h1] at hb1;cases hb1;exact ⟨hoff b h3 h2,fun h7=>by rw [lt' _ (by omega),n8] at h7;cases h7⟩
   ·have hLk:L k=true:=waits _ e10;obtain ⟨D,p0,pd,p1,p2,p3,p4,p9,pA,pB⟩:=hI.post hLk;have hx:=p0;have hd:o.dst=some tm:=by rw [hdi] at k1;exact Option.some.inj k1
    refine Oper.wpIn_mono ?_ (mv o act u _ ho hx);rintro act' u' ⟨rfl,rfl⟩;refine ⟨by rw [size_put];exact hI.size,by rw [defers_put];exact hI.defers,frame' tm _ hd,shut',hI.bl,fun h=>(by rw [lt' _ (by omega),hLk] at h;cases h),fun h=>?_,fun h=>?_,fun _=>⟨D,by rw [ohter _ _ _ _ k1 k0 (by omega)];exact p0,pd,fun h=>?_,fun h=>?_,fun h=>?_,fun h=>?_,fun h=>?_,fun h b hb1=>?_,fun h b hb1=>?_⟩⟩
    ·rw [lt' _ (by omega)] at h;obtain ⟨b,h1,h2,h3,h4⟩:=hI.A h;exact ⟨b,by rw [ohter _ _ _ _ k1 k5 (by omega)];exact h1,h2,h3,fun h5=>h4 (by rw [lt' _ (by omega)] at h5;exact h5)⟩
    ·rw [lt' _ (by omega)] at h;obtain ⟨b,h1,h2,h3,h4⟩:=hI.B h;exact ⟨b,by rw [ohter _ _ _ _ k1 k6 (by omega)];exact h1,h2,h3,fun h5=>h4 (by rw [lt' _ (by omega)] at h5;exact h5)⟩
    ·exact same _ _ k1
    ·rw [lt' _ (by omega)] at h;rw [ohter _ _ _ _ k1 k2 (by omega)];exact p2 h
    ·rw [lt' _ (by omega)] at h;rw [ohter _ _ _ _ k1 k3 (by omega)];exact p3 h
    ·rw [lt' _ (by omega)] at h;rw [ohter _ _ _ _ k1 k4 (by omega)];exact p4 h
    ·rw [lt' _ (by omega)] at h;rw [ohter _ _ _ _ k1 k9 (by omega)];exact p9 h
    ·rw [lt' _ (by omega)] at h;rw [ohter _ _ _ _ k1 k5 (by omega)] at hb1;obtain ⟨q1,q2⟩:=pA h b hb1;exact ⟨q1,fun h7=>q2 (by rw [lt' _ (by omega)] at h7;exact h7)⟩
    ·rw [lt' _ (by omega)] at h;rw [ohter _ _ _ _ k1 k6 (by omega)] at hb1;obtain ⟨q1,q2⟩:=pB h b hb1;exact ⟨q1,fun h7=>q2 (by rw [lt' _ (by omega)] at h7;exact h7)⟩
   ·have hLk:L k=true:=to0 (waits _ e21);obtain ⟨D,p0,pd,p1,p2,p3,p4,p9,pA,pB⟩:=hI.post hLk;have hx:=p1 (waits _ e21);have hd:o.dst=some d0:=by rw [hdi] at k2;exact Option.some.inj k2
    refine Oper.wpIn_mono ?_ (x0 o act u _ _ _ ho hx);rintro act' u' ⟨rfl,rfl⟩;refine ⟨by rw [size_put];exact hI.size,by rw [defers_put];exact hI.defers,frame' d0 _ hd,shut',hI.bl,fun h=>(by rw [lt' _ (by omega),hLk] at h;cases h),fun h=>?_,fun h=>?_,fun _=>⟨D,by rw [ohter _ _ _ _ k2 k0 (by omega)];exact p0,pd,fun h=>?_,fun h=>?_,fun h=>?_,fun h=>?_,fun h=>?_,fun h b hb1=>?_,fun h b hb1=>?_⟩⟩
    ·rw [lt' _ (by omega)] at h;obtain ⟨b,h1,h2,h3,h4⟩:=hI.A h;exact ⟨b,by rw [ohter _ _ _ _ k2 k5 (by omega)];exact h1,h2,h3,fun h5=>h4 (by rw [lt' _ (by omega)] at h5;exact h5)⟩
    ·rw [lt' _ (by omega)] at h;obtain ⟨b,h1,h2,h3,h4⟩:=hI.B h;exact ⟨b,by rw [ohter _ _ _ _ k2 k6 (by omega)];exact h1,h2,h3,fun h5=>h4 (by rw [lt' _ (by omega)] at h5;exact h5)⟩
    ·rw [lt' _ (by omega)] at h;rw [ohter _ _ _ _ k2 k1 (by omega)];exact p1 h
    ·exact same _ _ k2
    ·rw [lt' _ (by omega)] at h;rw [ohter _ _ _ _ k2 k3 (by omega)];exact p3 h
    ·rw [lt' _ (by omega)] at h;rw [ohter _ _ _ _ k2 k4 (by omega)];exact p4 h
    ·rw [lt' _ (by omega)] at h;rw [ohter _ _ _ _ k2 k9 (by omega)];exact p9 h
    ·rw [lt' _ (by omega)] at h;rw [ohter _ _ _ _ k2 k5 (by omega)] at hb1;obtain ⟨q1,q2⟩:=pA h b hb1;exact ⟨q1,fun h7=>q2 (by rw [lt' _ (by omega)] at h7;exact h7)⟩
    ·rw [lt' _ (by omega)] at h;rw [ohter _ _ _ _ k2 k6 (by omega)] at hb1;obtain ⟨q1,q2⟩:=pB h b hb1;exact ⟨q1,fun h7=>q2 (by rw [lt' _ (by omega)] at h7;exact h7)⟩
   ·have hLk:L k=true:=to0 (waits _ e31);obtain ⟨D,p0,pd,p1,p2,p3,p4,p9,pA,pB⟩:=hI.post hLk;have hx:=p1 (waits _ e31);have hd:o.dst=some d1:=by rw [hdi] at k3;exact Option.some.inj k3
    refine Oper.wpIn_mono ?_ (x1 o act u _ _ _ ho hx);rintro act' u' ⟨rfl,rfl⟩;refine ⟨by rw [size_put];exact hI.size,by rw [defers_put];exact hI.defers,frame' d1 _ hd,shut',hI.bl,fun h=>(by rw [lt' _ (by omega),hLk] at h;cases h),fun h=>?_,fun h=>?_,fun _=>⟨D,by rw [ohter _ _ _ _ k3 k0 (by omega)];exact p0,pd,fun h=>?_,fun h=>?_,fun h=>?_,fun h=>?_,fun h=>?_,fun h b hb1=>?_,fun h b hb1=>?_⟩⟩
    ·rw [lt' _ (by omega)] at h;obtain ⟨b,h1,h2,h3,h4⟩:=hI.A h;exact ⟨b,by rw [ohter _ _ _ _ k3 k5 (by omega)];exact h1,h2,h3,fun h5=>h4 (by rw [lt' _ (by omega)] at h5;exact h5)⟩
    ·rw [lt' _ (by omega)] at h;obtain ⟨b,h1,h2,h3,h4⟩:=hI.B h;exact ⟨b,by rw [ohter _ _ _ _ k3 k6 (by omega)];exact h1,h2,h3,fun h5=>h4 (by rw [lt' _ (by omega)] at h5;exact h5)⟩
    ·rw [lt' _ (by omega)] at h;rw [ohter _ _ _ _ k3 k1 (by omega)];exact p1 h
    ·rw [lt' _ (by omega)] at h;rw [ohter _ _ _ _ k3 k2 (by omega)];exact p2 h
    ·exact same _ _ k3
    ·rw [lt' _ (by omega)] at h;rw [ohter _ _ _ _ k3 k4 (by omega)];exact p4 h
    ·rw [lt' _ (by omega)] at h;rw [ohter _ _ _ _ k3 k9 (by omega)];exact p9 h
    ·rw [lt' _ (by omega)] at h;rw [ohter _ _ _ _ k3 k5 (by omega)] at hb1;obtain ⟨q1,q2⟩:=pA h b hb1;exact ⟨q1,fun h7=>q2 (by rw [lt' _ (by omega)] at h7;exact h7)⟩
    ·rw [lt' _ (by omega)] at h;rw [ohter _ _ _ _ k3 k6 (by omega)] at hb1;obtain ⟨q1,q2⟩:=pB h b hb1;exact ⟨q1,fun h7=>q2 (by rw [lt' _ (by omega)] at h7;exact h7)⟩
   ·have hLk:L k=true:=to0 (waits _ e41);obtain ⟨D,p0,pd,p1,p2,p3,p4,p9,pA,pB⟩:=hI.post hLk;have hx:=p1 (waits _ e41);have hd:o.dst=some d2:=by rw [hdi] at k4;exact Option.some.inj k4
    refine Oper.wpIn_mono ?_ (x2 o act u _ _ _ ho hx);rintro act' u' ⟨rfl,rfl⟩;refine ⟨by rw [size_put];exact hI.size,by rw [defers_put];exact hI.defers,frame' d2 _ hd,shut',hI.bl,fun h=>(by rw [lt' _ (by omega),hLk] at h;cases h),fun h=>?_,fun h=>?_,fun _=>⟨D,by rw [ohter _ _ _ _ k4 k0 (by omega)];exact p0,pd,fun h=>?_,fun h=>?_,fun h=>?_,fun h=>?_,fun h=>?_,fun h b hb1=>?_,fun h b hb1=>?_⟩⟩
    ·rw [lt' _ (by omega)] at h;obtain ⟨b,h1,h2,h3,h4⟩:=hI.A h;exact ⟨b,by rw [ohter _ _ _ _ k4 k5 (by omega)];exact h1,h2,h3,fun h5=>h4 (by rw [lt' _ (by omega)] at h5;exact h5)⟩
    ·rw [lt' _ (by omega)] at h;obtain ⟨b,h1,h2,h3,h4⟩:=hI.B h;exact ⟨b,by rw [ohter _ _ _ _ k4 k6 (by omega)];exact h1,h2,h3,fun h5=>h4 (by rw [lt' _ (by omega)] at h5;exact h5)⟩
    ·rw [lt' _ (by omega)] at h;rw [ohter _ _ _ _ k4 k1 (by omega)];exact p1 h
    ·rw [lt' _ (by omega)] at h;rw [ohter _ _ _ _ k4 k2 (by omega)];exact p2 h
    ·rw [lt' _ (by omega)] at h;rw [ohter _ _ _ _ k4 k3 (by omega)];exact p3 h
    ·exact same _ _ k4
    ·rw [lt' _ (by omega)] at h;rw [ohter _ _ _ _ k4 k9 (by omega)];exact p9 h
    ·rw [lt' _ (by omega)] at h;rw [ohter _ _ _ _ k4 k5 (by omega)] at hb1;obtain ⟨q1,q2⟩:=pA h b hb1;exact ⟨q1,fun h7=>q2 (by rw [lt' _ (by omega)] at h7;exact h7)⟩
    ·rw [lt' _ (by omega)] at h;rw [ohter _ _ _ _ k4 k6 (by omega)] at hb1;obtain ⟨q1,q2⟩:=pB h b hb1;exact ⟨q1,fun h7=>q2 (by rw [lt' _ (by omega)] at h7;exact h7)⟩
   ·have nS:L (k+7)=false:=fls _ fun h=>no _ (done _ _ e75 h)
    have hd:o.dst=some dA:=by rw [hdi] at k5;exact Option.some.inj k5
    refine Oper.wpIn_mono ?_ (la o act u ho);rintro act' u' ⟨rfl,hz,hb,hlt⟩;refine ⟨by rw [size_put];exact hI.size,by rw [defers_put];exact hI.defers,frame' dA _ hd,shut',hI.bl.trans hb,fun h j t' hj hL hdj=>?_,fun _=>⟨u.heap.size,same _ _ k5,hI.bl.size,hlt,fun _=>hz⟩,fun h=>?_,fun h=>?_⟩
    ·rw [lt' _ (by omega)] at h;rw [lt' _ (by omega)] at hL;rw [ohter _ _ _ _ k5 hdj (by omega)];exact mono j _ u u' hb (hI.pre h j t' hj hL hdj)
    ·rw [lt' _ (by omega)] at h;obtain ⟨b,h1,h2,h3,h4⟩:=hI.B h;refine ⟨b,by rw [ohter _ _ _ _ k5 k6 (by omega)];exact h1,h2,Nat.lt_of_lt_of_le h3 hb.size,fun h5=>?_⟩;rw [lt' _ (by omega)] at h5;exact ok.zb_heap u u' b (h4 h5) h3 (Below.block hb b h3) hb.size
    ·rw [lt' _ (by omega)] at h;obtain ⟨D,p0,pd,p1,p2,p3,p4,p9,pA,pB⟩:=hI.post h;refine ⟨D,by rw [ohter _ _ _ _ k5 k0 (by omega)];exact p0,ok.dat_bl D u u' pd hb,fun h=>?_,fun h=>?_,fun h=>?_,fun h=>?_,fun h=>?_,fun h b hb1=>?_,fun h b hb1=>?_⟩
     ·rw [lt' _ (by omega)] at h;rw [ohter _ _ _ _ k5 k1 (by omega)];exact p1 h
     ·rw [lt' _ (by omega)] at h;rw [ohter _ _ _ _ k5 k2 (by omega)];exact p2 h
     ·rw [lt' _ (by omega)] at h;rw [ohter _ _ _ _ k5 k3 (by omega)];exact p3 h
     ·rw [lt' _ (by omega)] at h;rw [ohter _ _ _ _ k5 k4 (by omega)];exact p4 h
     ·rw [lt' _ (by omega)] at h;rw [ohter _ _ _ _ k5 k9 (by omega)];exact p9 h
     ·rw [same _ _ k5] at hb1;cases hb1;exact ⟨ok.dat_off D u _ pd (Nat.le_refl _),fun h7=>by rw [lt' _ (by omega),nS] at h7;cases h7⟩
     ·rw [lt' _ (by omega)] at h;rw [ohter _ _ _ _ k5 k6 (by omega)] at hb1;obtain ⟨q1,q2⟩:=pB h b hb1;obtain ⟨b',h1,h2,h3,h4⟩:=hI.B h;rw [h1] at hb1;cases hb1;exact ⟨q1,fun h7=>ok.sb_heap D u u' b (q2 (by rw [lt' _ (by omega)] at h7;exact h7)) h3 (Below.block hb b h3) hb.size⟩
   ·have nS:L (k+8)=false:=fls _ fun h=>no _ (done _ _ e86 h)
    have hd:o.dst=some dB:=by rw [hdi] at k6;exact Option.some.inj k6
    refine Oper.wpIn_mono ?_ (lb o act u ho);rintro act' u' ⟨rfl,hz,hb,hlt⟩;refine ⟨by rw [size_put];exact hI.size,by rw [defers_put];exact hI.defers,frame' dB _ hd,shut',hI.bl.trans hb,fun h j t' hj hL hdj=>?_,fun h=>?_,fun _=>⟨u.heap.size,same _ _ k6,hI.bl.size,hlt,fun _=>hz⟩,fun h=>?_⟩
    ·rw [lt' _ (by omega)] at h;rw [lt' _ (by omega)] at hL;rw [ohter _ _ _ _ k6 hdj (by omega)];exact mono j _ u u' hb (hI.pre h j t' hj hL hdj)
    ·rw [lt' _ (by omega)] at h;obtain ⟨b,h1,h2,h3,h4⟩:=hI.A h;refine ⟨b,by rw [ohter _ _ _ _ k6 k5 (by omega)];exact h1,h2,Nat.lt_of_lt_of_le h3 hb.size,fun h5=>?_⟩;rw [lt' _ (by omega)] at h5;exact ok.za_heap u u' b (h4 h5) h3 (Below.block hb b h3) hb.size
    ·rw [lt' _ (by omega)] at h;obtain ⟨D,p0,pd,p1,p2,p3,p4,p9,pA,pB⟩:=hI.post h;refine ⟨D,by rw [ohter _ _ _ _ k6 k0 (by omega)];exact p0,ok.dat_bl D u u' pd hb,fun h=>?_,fun h=>?_,fun h=>?_,fun h=>?_,fun h=>?_,fun h b hb1=>?_,fun h b hb1=>?_⟩
     ·rw [lt' _ (by omega)] at h;rw [ohter _ _ _ _ k6 k1 (by omega)];exact p1 h
     ·rw [lt' _ (by omega)] at h;rw [ohter _ _ _ _ k6 k2 (by omega)];exact p2 h
     ·rw [lt' _ (by omega)] at h;rw [ohter _ _ _ _ k6 k3 (by omega)];exact p3 h
     ·rw [lt' _ (by omega)] at h;rw [ohter _ _ _ _ k6 k4 (by omega)];exact p4 h
     ·rw [lt' _ (by omega)] at h;rw [ohter _ _ _ _ k6 k9 (by omega)];exact p9 h
     ·rw [lt' _ (by omega)] at h;rw [ohter _ _ _ _ k6 k5 (by omega)] at hb1;obtain ⟨q1,q2⟩:=pA h b hb1;obtain ⟨b',h1,h2,h3,h4⟩:=hI.A h;rw [h1] at hb1;cases hb1;exact ⟨q1,fun h7=>ok.sa_heap D u u' b (q2 (by rw [lt' _ (by omega)] at h7;exact h7)) h3 (Below.block hb b h3) hb.size⟩
     ·rw [same _ _ k6] at hb1;cases hb1;exact ⟨ok.dat_off D u _ pd (Nat.le_refl _),fun h7=>by rw [lt' _ (by omega),nS] at h7;cases h7⟩
   ·-- the first store
    have hLk:L k=true:=to21 (waits _ e72);have h5:L (k+5)=true:=waits _ e75;have n8:L (k+8)=false:=fls _ fun h=>no _ (done _ _ e87 h)
    obtain ⟨D,p0,pd,p1,p2,p3,p4,p9,pA,pB⟩:=hI.post hLk;obtain ⟨b,h1,h2,h3,h4⟩:=hI.A h5;have hoff:=(pA h5 b h1).1;have hz:=h4 hLi;refine Oper.wpIn_mono ?_ (sa o act u D b ho h1 (p2 (waits _ e72)) hz pd hoff hI.bl h2);rintro act' u' ⟨rfl,hs,hdat,hbl,hne,hsz'⟩;refine ⟨hI.size,hI.defers,frame0,shut',hbl,fun h=>(by rw [lt' _ (by omega),hLk] at h;cases h),fun _=>⟨b,h1,h2,Nat.lt_of_lt_of_le h3 hsz',fun h=>by rw [ii] at h;cases h⟩,fun h=>?_,fun _=>⟨D,p0,hdat,fun h=>p1 (by rw [lt' _ (by omega)] at h;exact h),fun h=>p2 (by rw [lt' _ (by omega)] at h;exact h),fun h=>p3 (by rw [lt' _ (by omega)] at h;exact h),fun h=>p4 (by rw [lt' _ (by omega)] at h;exact h),fun h=>p9 (by rw [lt' _ (by omega)] at h;exact h),fun h b' hb'=>?_,fun h b' hb'=>?_⟩⟩
    ·rw [lt' _ (by omega)] at h;obtain ⟨b2,g1,g2,g3,g4⟩:=hI.B h;exact ⟨b2,g1,g2,Nat.lt_of_lt_of_le g3 hsz',fun _=>ok.zb_heap u u' b2 (g4 n8) g3 (hne b2 (fun e=>ok.ne0 u b hz (by rw [←e];exact g4 n8))) hsz'⟩
    ·rw [h1] at hb';cases hb';exact ⟨hoff,fun _=>hs⟩
    ·rw [lt' _ (by omega)] at h;exact ⟨(pB h b' hb').1,fun h8=>by rw [lt' _ (by omega),n8] at h8;cases h8⟩
   ·-- the second store
    have hLk:L k=true:=to31 (waits _ e83);have h6:L (k+6)=true:=waits _ e86;have h7:L (k+7)=true:=waits _ e87;have h5:L (k+5)=true:=done _ _ e75 h7;obtain ⟨D,p0,pd,p1,p2,p3,p4,p9,pA,pB⟩:=hI.post hLk;obtain ⟨b,h1,h2,h3,h4⟩:=hI.B h6;obtain ⟨b1,g1,g2,g3,g4⟩:=hI.A h5;have hoff:=(pB h6 b h1).1;have hz:=h4 hLi;obtain ⟨hoff1,hsa⟩:=pA h5 b1 g1;refine Oper.wpIn_mono ?_ (sb o act u D b ho h1 (p3 (waits _ e83)) hz pd hoff hI.bl h2);rintro act' u' ⟨rfl,hs,hdat,hbl,hne,hsz'⟩;have hb1:b1≠b:=fun e=>ok.ne2 D u b (by rw [←e];exact hsa h7) hz
    refine ⟨hI.size,hI.defers,frame0,shut',hbl,fun h=>(by rw [lt' _ (by omega),hLk] at h;cases h),fun _=>⟨b1,g1,g2,Nat.lt_of_lt_of_le g3 hsz',fun h=>by rw [lt' _ (by omega),h7] at h;cases h⟩,fun _=>⟨b,h1,h2,Nat.lt_of_lt_of_le h3 hsz',fun h=>by rw [ii] at h;cases h⟩,fun _=>⟨D,p0,hdat,fun h=>p1 (by rw [lt' _ (by omega)] at h;exact h),fun h=>p2 (by rw [lt' _ (by omega)] at h;exact h),fun h=>p3 (by rw [lt' _ (by omega)] at h;exact h),fun h=>p4 (by rw [lt' _ (by omega)] at h;exact h),fun h=>p9 (by rw [lt' _ (by omega)] at h;exact h),fun h b' hb'=>?_,fun h b' hb'=>?_⟩⟩
    ·rw [g1] at hb';cases hb';exact ⟨hoff1,fun _=>ok.sa_heap D u u' b1 (hsa h7) g3 (hne b1 hb1) hsz'⟩
    ·rw [h1] at hb';cases hb';exact ⟨hoff,fun _=>hs⟩
   ·have hLk:L k=true:=to41 (waits _ e94);obtain ⟨D,p0,pd,p1,p2,p3,p4,p9,pA,pB⟩:=hI.post hLk;have hx:=p4 (waits _ e94);have hd:o.dst=some dC:=by rw [hdi] at k9;exact Option.some.inj k9
    refine Oper.wpIn_mono ?_ (asg o act u _ ho hx);rintro act' u' ⟨rfl,rfl⟩;refine ⟨by rw [size_put];exact hI.size,by rw [defers_put];exact hI.defers,frame' dC _ hd,shut',hI.bl,fun h=>(by rw [lt' _ (by omega),hLk] at h;cases h),fun h=>?_,fun h=>?_,fun _=>⟨D,by rw [ohter _ _ _ _ k9 k0 (by omega)];exact p0,pd,fun h=>?_,fun h=>?_,fun h=>?_,fun h=>?_,fun h=>?_,fun h b hb1=>?_,fun h b hb1=>?_⟩⟩
    ·rw [lt' _ (by omega)] at h;obtain ⟨b,h1,h2,h3,h4⟩:=hI.A h;exact ⟨b,by rw [ohter _ _ _ _ k9 k5 (by omega)];exact h1,h2,h3,fun h5=>h4 (by rw [lt' _ (by omega)] at h5;exact h5)⟩
    ·rw [lt' _ (by omega)] at h;obtain ⟨b,h1,h2,h3,h4⟩:=hI.B h;exact ⟨b,by rw [ohter _ _ _ _ k9 k6 (by omega)];exact h1,h2,h3,fun h5=>h4 (by rw [lt' _ (by omega)] at h5;exact h5)⟩
    ·rw [lt' _ (by omega)] at h;rw [ohter _ _ _ _ k9 k1 (by omega)];exact p1 h
    ·rw [lt' _ (by omega)] at h;rw [ohter _ _ _ _ k9 k2 (by omega)];exact p2 h
    ·rw [lt' _ (by omega)] at h;rw [ohter _ _ _ _ k9 k3 (by omega)];exact p3 h
    ·rw [lt' _ (by omega)] at h;rw [ohter _ _ _ _ k9 k4 (by omega)];exact p4 h
    ·exact same _ _ k9
    ·rw [lt' _ (by omega)] at h;rw [ohter _ _ _ _ k9 k5 (by omega)] at hb1;obtain ⟨q1,q2⟩:=pA h b hb1;exact ⟨q1,fun h7=>q2 (by rw [lt' _ (by omega)] at h7;exact h7)⟩
    ·rw [lt' _ (by omega)] at h;rw [ohter _ _ _ _ k9 k6 (by omega)] at hb1;obtain ⟨q1,q2⟩:=pB h b hb1;exact ⟨q1,fun h7=>q2 (by rw [lt' _ (by omega)] at h7;exact h7)⟩
 ·intro L act u hI hall;have hL:∀ j,j<k+10→L j=true:=fun j h=>hall j (by omega)
  have e:act=putL ds (fun j=>act.eval (.tmp ((ds[j]?.getD none).getD 0))) 0 a:=by
   refine act_ext (by rw [putL_size];exact hI.size) (by rw [putL_defers];exact hI.defers) fun t ht=>?_
   by_cases hm':some t∈ds
   ·obtain ⟨j,hj⟩:=List.getElem?_of_mem hm';rw [putL_at ds _ t j 0 a honce hj (by rw [←hI.size];exact ht),Nat.zero_add,hj];rfl
   ·rw [putL_other ds _ t 0 a (fun d hd e=>hm' (by rw [←e];exact hd))];exact hI.frame t (fun j _ e=>hm' (List.mem_of_getElem? e))
  obtain ⟨D,p0,pd,p1,p2,p3,p4,p9,pA,pB⟩:=hI.post (hL k (by omega));obtain ⟨b1,h1,h2,h3,_⟩:=hI.A (hL _ (by omega));obtain ⟨b2,g1,g2,g3,_⟩:=hI.B (hL _ (by omega));rw [e];exact fin _ u D b1 b2 hI.bl (by simp only [k9];exact p9 (hL _ (by omega))) (by simp only [k5];exact h1) (by simp only [k6];exact g1) h2 g2 ((pA (hL _ (by omega)) b1 h1).2 (hL _ (by omega))) ((pB (hL _ (by omega)) b2 g1).2 (hL _ (by omega))) pd
theorem but4F (u:World) (b:Nat) (v0 v1 v2 v3:Value):But (fun i=>i=b) u ((((u.setCell ⟨b,0,none⟩ v0).setCell ⟨b,1,none⟩ v1).setCell ⟨b,2,none⟩ v2).setCell ⟨b,3,none⟩ v3):=(((but_cell1 (S:=fun i=>i=b) rfl _ _ _).trans (but_cell1 (S:=fun i=>i=b) rfl _ _ _)).trans (but_cell1 (S:=fun i=>i=b) rfl _ _ _)).trans (but_cell1 (S:=fun i=>i=b) rfl _ _ _)
theorem heap4F {g l:Nat} (u:World) (h:l≠g) (v0 v1 v2 v3:Value):((((u.setCell ⟨g,0,none⟩ v0).setCell ⟨g,1,none⟩ v1).setCell ⟨g,2,none⟩ v2).setCell ⟨g,3,none⟩ v3).heap[l]?=u.heap[l]?:=by
 rw [heap1 _ h,heap1 _ h,heap1 _ h,heap1 _ h]
theorem noB_newSF (u:World) (t:TypeId):NoB (u.alloc (.cells #[.slice none 0 0,.int .i64 0,.int .i64 0,.slice none 0 0] t)) u.heap.size:=by
 intro o x;rcases o with _|_|_|_|o<;>simp [go_sem]
theorem mx_ltF {u:World} {R C:Nat} {p:Option Addr} {n cap:Nat} {f:Nat→Nat→Fr} (h:Mx 3 cellsF u R C p n cap f):∀ g,(Value.slice p n cap).ownBlock=some g→g<u.heap.size:=by
 obtain ⟨b',o,rfl,_,hlt,hcell⟩:=h.cells;intro g hg;cases hg;exact hlt
theorem noB_rwF {u:World} {p:Option Addr} {n cap b:Nat} {x:Nat→Fr} (h:Rw 3 cellsF u (.slice p n cap) (linJ n x)) (h1:1≤n) (nb:NoB u b):∀ g,(Value.slice p n cap).ownBlock=some g→g≠b:=by
 rcases h with ⟨_,e⟩|⟨g,o,c,e,_,hlt,hx⟩
 ·have:=congrArg List.length e;rw [linJ_len] at this;simp at this;omega
 ·rintro g' hg rfl;obtain ⟨j,y,hj⟩:=boolF (x 0);have:=hx 0 _ (linJ_get x h1) j _ hj;simp only [Value.slice.injEq] at e;obtain ⟨rfl,_⟩:=e;cases hg;exact nb _ _ this
theorem whole_linF (p:Option Addr) (n cap:Nat) (h:Nat→Int) (w:World) (hr:Rq 1 cI w (.slice p n cap) (linJ n h)) (hl:n≤1000000) :
  Calls Tryz.prog 16 #[.slice p n cap] w fun e w'=>∃ q c,e=.returned (.slice q n c)∧Rw 3 cellsF w' (.slice q n c) (linJ n fun i=>wholeF (h i))∧Bl w w':=
 (vWholeF _ _ w hr (by rw [linJ_len];exact hl)).mono fun e w' ⟨u,he,hr,hb⟩=>by
  rw [linJ_map] at hr;obtain ⟨q,c,rfl,_,_⟩:=hr.cut;rw [linJ_len] at hr he;exact ⟨q,c,he,hr,hb⟩
def updF (n N:Nat) (x:Nat→Fr) (P:Nat→Nat→Fr) (e a:Fr):Upd (Option Addr×Nat×Option Addr×Nat) where
 v0 D:=sJ D.1 n D.2.1 n n D.2.2.1 N D.2.2.2
 v1 _:=newsVF e a
 v2 _:=.bool true
 dat D u:=Rw 3 cellsF u (.slice D.1 n D.2.1) (linJ n x)∧Mx 3 cellsF u n n D.2.2.1 N D.2.2.2 P
 off D b:=(∀ g,(Value.slice D.1 n D.2.1).ownBlock=some g→g≠b)∧∀ g,(Value.slice D.2.2.1 N D.2.2.2).ownBlock=some g→g≠b
 za u b:=SBox u b none 0 0 0 0 none 0 0
 zb u b:=NBoxF u b zeroR zeroR
 sa D u b:=SBox u b D.1 n D.2.1 n n D.2.2.1 N D.2.2.2
 sb _ u b:=NBoxF u b e a
theorem s_not_nF {u:World} {b:Nat} {px:Option Addr} {nx cx:Nat} {r c:Int} {p:Option Addr} {m cap:Nat} {x y:Fr} (h:SBox u b px nx cx r c p m cap) (k:NBoxF u b x y):False:=by
 have:=h.c0.symm.trans k.c0;simp at this
theorem updF_ok (n N:Nat) (x:Nat→Fr) (P:Nat→Nat→Fr) (e a:Fr):UpdOk (updF n N x P e a) where
 dat_bl D u u' h k:=⟨h.1.later k,Mx.later h.2 k⟩
 dat_off D u b h hb:=⟨fun g hg=>by have:=h.1.lt g hg;omega,fun g hg=>by have:=mx_ltF h.2 g hg;omega⟩
 za_heap u u' b h _ e hs:=SBox.heap h e hs
 zb_heap u u' b h _ e hs:=NBoxF.heap h e hs
 sa_heap D u u' b h _ e hs:=SBox.heap h e hs
 sb_heap D u u' b h _ e hs:=NBoxF.heap h e hs
 ne0 u b h k:=s_not_nF h k
 ne1 D u b h k:=s_not_nF h k
 ne2 D u b h k:=s_not_nF h k
theorem butNF (u:World) (b:Nat) (x y:Fr):But (fun i=>i=b) u ((((((u.setCell ⟨b,0,none⟩ (.int .i64 x.n)).setCell ⟨b,1,none⟩ (.int .i64 x.d)).setCell ⟨b,2,none⟩ (.bool x.bad)).setCell ⟨b,3,none⟩ (.int .i64 y.n)).setCell ⟨b,4,none⟩ (.int .i64 y.d)).setCell ⟨b,5,none⟩ (.bool y.bad)):=(((((but_cell1 (S:=fun i=>i=b) rfl _ _ _).trans (but_cell1 (S:=fun i=>i=b) rfl _ _ _)).trans (but_cell1 (S:=fun i=>i=b) rfl _ _ _)).trans (but_cell1 (S:=fun i=>i=b) rfl _ _ _)).trans (but_cell1 (S:=fun i=>i=b) rfl _ _ _)).trans (but_cell1 (S:=fun i=>i=b) rfl _ _ _)
theorem heapNF {l b:Nat} (u:World) (h:l≠b) (x y:Fr):((((((u.setCell ⟨b,0,none⟩ (.int .i64 x.n)).setCell ⟨b,1,none⟩ (.int .i64 x.d)).setCell ⟨b,2,none⟩ (.bool x.bad)).setCell ⟨b,3,none⟩ (.int .i64 y.n)).setCell ⟨b,4,none⟩ (.int .i64 y.d)).setCell ⟨b,5,none⟩ (.bool y.bad)).heap[l]?=u.heap[l]?:=by
 rw [heap1 _ h,heap1 _ h,heap1 _ h,heap1 _ h,heap1 _ h,heap1 _ h]
theorem blNF {w u:World} (b:Nat) (h:Bl w u) (hb:w.heap.size≤b) (x y:Fr):Bl w ((((((u.setCell ⟨b,0,none⟩ (.int .i64 x.n)).setCell ⟨b,1,none⟩ (.int .i64 x.d)).setCell ⟨b,2,none⟩ (.bool x.bad)).setCell ⟨b,3,none⟩ (.int .i64 y.n)).setCell ⟨b,4,none⟩ (.int .i64 y.d)).setCell ⟨b,5,none⟩ (.bool y.bad)):=Bl.set (Bl.set (Bl.set (Bl.set (Bl.set (Bl.set (h) hb _) hb _) hb _) hb _) hb _) hb _
theorem rq_one9 (u:World) (x:Int) (t:TypeId):Rq 1 cI (u.alloc (.cells #[.int .i64 x] t)) (.slice (some ⟨u.heap.size,0,none⟩) 1 1) (linJ 1 fun _=>x):=by
 refine .inr ⟨u.heap.size,0,1,rfl,Nat.le_refl _,by simp,fun j v hj k s hu=>?_⟩;rcases j with _|j
 ·simp [linJ] at hj;subst hj;rcases k with _|k
  ·simp at hu;subst hu;simp [go_sem]
  ·simp at hu
 ·simp [linJ] at hj
theorem whole11 (w:World) (t:TypeId) (b0:Nat) (hb0:b0=w.heap.size):Calls Tryz.prog 12 #[.int .i64 1,.int .i64 1,.slice (some ⟨b0,0,none⟩) 1 1] (w.alloc (.cells #[.int .i64 1] t))
  fun e w'=>∃ p' cap',e=.returned (.tuple #[mV 1 1 p' 1 cap',.bool true])∧Mx 3 cellsF w' 1 1 p' 1 cap' (fun _ _=>itF 1)∧Bl (w.alloc (.cells #[.int .i64 1] t)) w':=by
 subst hb0;refine (mWholeF 1 1 _ 1 1 [1] _ (rq_one9 w 1 t) (by decide) rfl).mono ?_;rintro e w' ⟨p',cap',rfl,hr,hb⟩;exact ⟨p',cap',rfl,⟨⟨by omega,by omega,by omega,by omega⟩,rfl,hr.q⟩,hb⟩
theorem rw_cells9F {w:World} {p:Option Addr} {n cap:Nat} {x:Nat→Fr} (h:Rw 3 cellsF w (.slice p n cap) (linJ n x)) (h1:1≤n):∃ g o,p=some ⟨g,o,none⟩∧∀ u,Bl w u→∀ k,k<n→u.cell? ⟨g,o+k*3,none⟩=some (.int .i64 (x k).n)∧u.cell? ⟨g,o+k*3+1,none⟩=some (.int .i64 (x k).d)∧u.cell? ⟨g,o+k*3+2,none⟩=some (.bool (x k).bad):=by
 rcases h with ⟨_,e⟩|⟨g,o,c,e,_,hlt,hx⟩
 ·have:=congrArg List.length e;rw [linJ_len] at this;simp at this;omega
 ·simp only [Value.slice.injEq] at e;refine ⟨g,o,e.1,fun u hu k hk=>?_⟩;have H:=fun i v (hi:(cellsF (x k))[i]?=some v)=>(bl_cell hu _ _ hlt).trans (hx k _ (linJ_get x hk) i v hi)
  exact ⟨H 0 _ rfl,H 1 _ rfl,H 2 _ rfl⟩
structure StO (α:Type) where
 s:Nat→Nat→α
 e:Nat→α
 a:α
def bO {α:Type} (K:Kd α) (a w:α):α:=K.add a (K.mul w w)
def dO {α:Type} (K:Kd α) (a w:α):α:=K.root (K.div a (bO K a w))
def cO {α:Type} (K:Kd α) (a w:α):α:=K.div w (K.root (K.mul a (bO K a w)))
def sO {α:Type} (K:Kd α) (a w x e:α):α:=K.sub (K.mul x (dO K a w)) (K.mul e (cO K a w))
def partS {α:Type} (K:Kd α) (j i:Nat) (w:α) (t:StO α) (r k:Nat):α:=if k=j∧j≤r∧r<i then sO K t.a w (t.s r j) (t.e r) else t.s r k
def partE {α:Type} (K:Kd α) (j i:Nat) (w:α) (t:StO α) (r:Nat):α:=if j≤r∧r<i then K.add (t.e r) (K.mul (t.s r j) w) else t.e r
def stepO {α:Type} (K:Kd α) (n j:Nat) (w:α) (t:StO α):StO α:=⟨partS K j n w t,partE K j n w t,bO K t.a w⟩
def wO {α:Type} (K:Kd α) (n:Nat) (s:Nat→Nat→α) (h:Nat→α) (j:Nat):α:=appJ K n (fun i k=>s k i) h j
def runO {α:Type} (K:Kd α) (n:Nat) (s:Nat→Nat→α) (h:Nat→α) (r:α):Nat→StO α
 |0=>⟨s,fun _=>K.z,r⟩
 |t+1=>stepO K n (n-1-t) (wO K n s h (n-1-t)) (runO K n s h r t)
theorem partS_zero {α:Type} (K:Kd α) (j:Nat) (w:α) (t:StO α):partS K j j w t=t.s:=by
 funext r k
 unfold partS;rw [if_neg (by omega)]
theorem partE_zero {α:Type} (K:Kd α) (j:Nat) (w:α) (t:StO α):partE K j j w t=t.e:=by
 funext r
 unfold partE;rw [if_neg (by omega)]
theorem partS_next {α:Type} (K:Kd α) {j i:Nat} (hi:j≤i) (w:α) (t:StO α):partS K j (i+1) w t=putM (partS K j i w t) i j (sO K t.a w (t.s i j) (t.e i)):=by
 funext r k
 unfold putM partS;by_cases h:r=i∧k=j
 ·obtain ⟨rfl,rfl⟩:=h;rw [if_pos ⟨rfl,hi,by omega⟩,if_pos ⟨rfl,rfl⟩]
 ·rw [if_neg h];by_cases h2:k=j∧j≤r∧r<i
  ·rw [if_pos h2,if_pos ⟨h2.1,h2.2.1,by omega⟩]
  ·rw [if_neg h2,if_neg (by omega)]
theorem partE_next {α:Type} (K:Kd α) {j i:Nat} (hi:j≤i) (w:α) (t:StO α) (r:Nat):partE K j (i+1) w t r=if r=i then K.add (t.e i) (K.mul (t.s i j) w) else partE K j i w t r:=by
 unfold partE;by_cases h:r=i
 ·subst h;rw [if_pos rfl,if_pos ⟨hi,by omega⟩]
 ·rw [if_neg h];by_cases h2:j≤r∧r<i
  ·rw [if_pos h2,if_pos ⟨h2.1,by omega⟩]
  ·rw [if_neg h2,if_neg (by omega)]
theorem partS_at {α:Type} (K:Kd α) (j i:Nat) (w:α) (t:StO α):partS K j i w t i j=t.s i j:=by
 unfold partS;rw [if_neg (by omega)]
theorem partE_at {α:Type} (K:Kd α) (j i:Nat) (w:α) (t:StO α):partE K j i w t i=t.e i:=by
 unfold partE;rw [if_neg (by omega)]
theorem But.put {S:Nat→Prop} {w b c:World} {r:Nat} (h:But S w b) (k:But (fun i=>i=r) b c) (hr:w.heap.size≤r):But S w c:=
 have q:But (fun i=>S i∨i=r) w c:=(h.mono fun _=>.inl).trans (k.mono fun _=>.inr)
 ⟨q.os,q.tape,q.output,q.size,fun i hi hs=>q.block i hi (by rintro (h|h);exact hs h;omega)⟩
def foldO {α:Type} (K:Kd α) (n:Nat) (t:StO α) (l:List (Nat×α)):StO α:=l.foldl (fun t x=>stepO K n x.1 x.2 t) t
theorem foldO_next {α:Type} (K:Kd α) (n:Nat) (t:StO α) (l:List (Nat×α)) (x:Nat×α):foldO K n t (l++[x])=stepO K n x.1 x.2 (foldO K n t l):=by simp [foldO]
theorem foldO_run {α:Type} (K:Kd α) (n:Nat) (s:Nat→Nat→α) (h:Nat→α) (r:α):∀ t,foldO K n ⟨s,fun _=>K.z,r⟩ ((List.range t).map fun i=>(n-1-i,wO K n s h (n-1-i)))=runO K n s h r t:=by
 intro t
 induction t with
 |zero=>rfl
 |succ t ih=>rw [List.range_succ,List.map_append,show List.map (fun i=>(n-1-i,wO K n s h (n-1-i))) [t]=[(n-1-t,wO K n s h (n-1-t))] from rfl,foldO_next,ih];rfl
set_option maxHeartbeats 1000000 in
theorem rFitsF (px:Option Addr) (nx cx:Nat) (r c:Int) (p:Option Addr) (n cap:Nat) (w:World) :
  Calls Tryz.prog 64 #[.slice px nx cx,mV r c p n cap] w fun e w'=>e=.returned (.bool (fitJ r c n nx))∧Bl w w':=by
 obtain ⟨W,hW⟩:∃ W,W=w.alloc (.cells #[.int .i64 r,.int .i64 c,.slice p n cap] 30):=⟨_,rfl⟩;have b0:Bl w W:=by rw [hW];exact (Bl.refl _).alloc _
 have m0:MBox W w.heap.size r c p n cap:=by rw [hW];exact MBox.new w _ _ _ _ _ _
 have HW:=hideP hW;obtain ⟨c0,c1,c2,f0,f1,f2,lt⟩:=id m0;rw [hW] at c0 c1 c2;have SB:=fun u:World=>(by kernel_rfl:(Instr.build 36 #[(0,.slice px nx cx),(1,mV r c p n cap)]).run Tryz.prog u=.ok (sJ px nx cx r c p n cap) u)
 clear hW
 go_enter Tryz.func64,Tryz.ntmps64;go_wp2_with fail
 rw [←HW.out];refine (jRightF px nx cx r c p n cap W).mono ?_;rintro e w1 ⟨rfl,h1⟩;go_wp2;go_ret;exact ⟨rfl,b0.trans h1⟩
set_option maxHeartbeats 1000000 in
theorem rRightF (px:Option Addr) (nx cx:Nat) (r c:Int) (p:Option Addr) (n cap:Nat) (w:World) :
  Calls Tryz.prog 30 #[sJ px nx cx r c p n cap] w fun e w'=>e=.returned (.bool (fitJ r c n nx))∧Bl w w':=by
 obtain ⟨W,hW⟩:∃ W,W=w.alloc (.cells #[.slice px nx cx,.int .i64 r,.int .i64 c,.slice p n cap] 63):=⟨_,rfl⟩;have b0:Bl w W:=by rw [hW];exact (Bl.refl _).alloc _
 have s0:SBox W w.heap.size px nx cx r c p n cap:=by rw [hW];exact SBox.new w _ _ _ _ _ _ _ _ _
 have HW:=hideP hW;obtain ⟨c0,c1,c2,c3,_,_,_,_,_⟩:=id s0;rw [hW] at c0 c1 c2 c3;clear hW
 go_enter Tryz.func30,Tryz.ntmps30;go_wp2_with fail
 rw [←HW.out];refine (rFitsF px nx cx r c p n cap W).mono ?_;rintro e w1 ⟨rfl,h1⟩;go_wp2;go_ret;exact ⟨rfl,b0.trans h1⟩
theorem Tryz.buildRF (q:Option Addr) (n c:Nat) (r d:Int) (p:Option Addr) (N cap:Nat) (u:World):(Instr.build 63 #[(0,.slice q n c),(1,mV r d p N cap)]).run Tryz.prog u=.ok (sJ q n c r d p N cap) u:=by kernel_rfl
set_option maxRecDepth 100000 in
set_option maxHeartbeats 2000000 in
theorem rNewF (n:Nat) (px:Option Addr) (cx:Nat) (x:Nat→Fr) (p:Option Addr) (N cap:Nat) (f:Nat→Nat→Fr) (w:World) (hx:Rq 3 cellsF w (.slice px n cx) (linJ n x)) (h:Mx 3 cellsF w n n p N cap f) (h4:n≤4) :
  Calls Tryz.prog 25 #[.slice px n cx,mV n n p N cap] w fun e w'=>∃ q c p' c',e=.returned (.tuple #[sJ q n c n n p' N c',.bool true])∧(Rw 3 cellsF w' (.slice q n c) (linJ n x)∧Mx 3 cellsF w' n n p' N c' (clrF f))∧Bl w w':=by
 have fm:Tryz.prog.follows .mixedOrders=true:=by kernel_rfl
 have egC:=enters_of Tryz.func66 (by kernel_rfl) rfl;have hfit:=fitJ_dim h.1 h.2.1 h4;obtain ⟨W,hW⟩:∃ W,W=(w.alloc (.cells #[.int .i64 n,.int .i64 n,.slice p N cap] 30)).alloc (.cells #[.slice none 0 0,.int .i64 0,.int .i64 0,.slice none 0 0] 63):=⟨_,rfl⟩;have b0:Bl w W:=by rw [hW];exact ((Bl.refl _).alloc _).alloc _
 have m0:MBox W w.heap.size n n p N cap:=by rw [hW];exact (MBox.new w _ _ _ _ _ _).later ((Bl.refl _).alloc _)
 have s0:SBox W (w.heap.size+1) none 0 0 0 0 none 0 0:=by rw [hW];have:=SBox.new (w.alloc (.cells #[.int .i64 n,.int .i64 n,.slice p N cap] 30)) none 0 0 0 0 none 0 0 63;rw [World.size_alloc] at this;exact this
 have hs:W.heap.size=w.heap.size+1+1:=by rw [hW];simp
 have HX:=hideP hx;have HMX:=hideP h;have HW:=hideP hW;clear hW hx h
 go_enter Tryz.func25,Tryz.ntmps25;go_wp2_with fail
 rw [←HW.out];refine (rFitsF _ _ _ _ _ _ _ _ _).mono ?_;rintro e w1 ⟨rfl,h1⟩;rw [hfit];obtain ⟨c0,c1,cm,f0,f1,f2,lt⟩:=m0.later h1;have b01:=b0.trans h1;go_wp2_with fail
 refine (tClearF n p N cap f w1 (HMX.out.later b01)).mono ?_;rintro e w2 ⟨p2,c2,rfl,⟨hP,hF⟩,h2⟩;have k2:=MBox.new w2 n n p2 N c2 30;obtain ⟨W2,hW2⟩:∃ W2,W2=w2.alloc (.cells #[.int .i64 n,.int .i64 n,.slice p2 N c2] 30):=⟨_,rfl⟩;have b2:Bl w2 W2:=by rw [hW2];exact (Bl.refl _).alloc _
 rw [←hW2] at k2;have HW2:=hideP hW2;have B2:Bl w W2:=b01.trans (h2.trans b2);have s2:=s0.later (h1.trans (h2.trans b2));have hsz:w.heap.size+1+1≤W2.heap.size:=by have:=(h1.trans (h2.trans b2)).size;omega
 have HP:=hideP (show Mx 3 cellsF W2 n n p2 N c2 (clrF f) from Mx.later hP b2);have HF:=hideP (show Fresh (w.heap.size+1+1) (.slice p2 N c2) from fresh_le hF (by have:=h1.size;omega));have CL:=hideP (fun u (hu:Bl W2 u)=>clone_linF px n cx x u (HX.out.later (B2.trans hu)) (by have:=h4;omega));clear hW2 hP hF c0 c1 cm f0 f1 f2 lt;go_wp2_with fail
 rw [←HW2.out]
 refine (wpIn_wide (n:=8)).1 (region_q fm [some 18,some 19,some 20,some 21,none,some 5] (fun j=>j==5) 4 (by kernel_rfl) (by rfl)
  (fun j v u=>match j with|0=>v=.slice px n cx|1=>∃ q c,v=.slice q n c∧Rw 3 cellsF u (.slice q n c) (linJ n x)∧Fresh W2.heap.size (.slice q n c)|2=>v=mV n n p2 N c2|3=>∃ q c,v=sJ q n c n n p2 N c2∧Rw 3 cellsF u (.slice q n c) (linJ n x)∧Fresh W2.heap.size (.slice q n c)|5=>v=.bool true|_=>False)
  (by
    intro j v u u' hb h;split at h<;>first|exact h|(obtain ⟨q,c,e,h1,h2⟩:=h;exact ⟨q,c,e,h1.later hb,h2⟩)) (fun vs u0 u=>∃ q c,SBox u (w.heap.size+1) q n c n n p2 N c2∧Rw 3 cellsF u (.slice q n c) (linJ n x)∧Mx 3 cellsF u n n p2 N c2 (clrF f)∧Bl w u) ?step ?still ?store ?fin)
 case step =>
  intro j o t act u ho hdt hpu hsz hu hfr hin;have hj:j<6:=l9 ho;obtain ⟨y0,y1,y2,_,_,_,_⟩:=k2.later hu;rcases (by omega:j=0∨j=1∨j=2∨j=3∨j=4∨j=5) with rfl|rfl|rfl|rfl|rfl|rfl
  ·obtain ⟨rfl,rfl⟩:=o7 ho hdt;have i0:_=Value.slice px n cx:=hfr 0 (by decide);exact pl9 (r:=by simp only [seval,i0];simp [go_sem])
  ·obtain ⟨rfl,rfl⟩:=o7 ho hdt;have i18:_=Value.slice px n cx:=hin ⟨0,.data⟩ (by simp) rfl 18 rfl;refine ew9 66 #[.slice px n cx] (by simp only [seval,i18];simp [invoke,egC,Result.andThen,go_sem]) (CL.out u hu) ?_;rintro e w' ⟨q,c,rfl,⟨hR,hF⟩,hb⟩;exact ⟨_,rfl,_,rfl,⟨q,c,rfl,hR,fresh_le hF hu.size⟩,hb⟩
  ·obtain ⟨rfl,rfl⟩:=o7 ho hdt;have i6:_=Value.pointer (some ⟨w2.heap.size,0,none⟩):=hfr 6 (by decide);exact pl9 (r:=by simp only [seval,i6];simp [go_sem,y0,y1,y2])
  ·obtain ⟨rfl,rfl⟩:=o7 ho hdt;have i19:∃ q c,(act.eval (.tmp (19:Nat)))=.slice q n c∧Rw 3 cellsF u (.slice q n c) (linJ n x)∧Fresh W2.heap.size (.slice q n c):=hin ⟨1,.data⟩ (by simp) rfl 19 rfl;have i20:_=mV n n p2 N c2:=hin ⟨2,.data⟩ (by simp) rfl 20 rfl;obtain ⟨q0,c0',e1,hq,hf⟩:=i19;exact pw9 (by simp only [execOp,List.map_toArray,List.map_cons,List.map_nil,e1,i20];simp [Tryz.buildRF,Result.andThen,go_sem]) ⟨_,rfl,⟨q0,c0',rfl,hq,hf⟩,Bl.refl _⟩
  ·obtain rfl:=o9 ho;cases hdt
  ·cases hpu
 case still =>
  intro j o t act u0 u ho hdt hpu hsz hu hfr hin;have hj:j<6:=l9 ho;obtain ⟨y0,y1,y2,_,_,_,_⟩:=k2.later hu;rcases (by omega:j=0∨j=1∨j=2∨j=3∨j=4∨j=5) with rfl|rfl|rfl|rfl|rfl|rfl
  ·cases hpu
  ·cases hpu
  ·cases hpu
  ·cases hpu
  ·cases hpu
  ·obtain ⟨rfl,rfl⟩:=o7 ho hdt;exact pw9 (by simp only [seval];simp [go_sem]) ⟨_,rfl,rfl,rfl⟩
 case store =>
  intro o act u vs ho hsz hu hfr hin;obtain rfl:=o9 ho;have i4:_=Value.pointer (some ⟨w.heap.size+1,0,none⟩):=hfr 4 (by decide);obtain ⟨i21,k21⟩:act.eval (.tmp (21:Nat))=vs 3∧(∃ q c,(vs 3)=sJ q n c n n p2 N c2∧Rw 3 cellsF u (.slice q n c) (linJ n x)∧Fresh W2.heap.size (.slice q n c)):=hin 3 21 rfl rfl;obtain ⟨q0,c0',e1,hq,hf⟩:=k21;rw [e1] at i21;obtain ⟨c0,c1,c2',c3,f0,f1,f2,f3,lt⟩:=id (s2.later hu);exact sw9 (by simp only [execOp,i4,i21];simp [go_sem,c0,c1,c2',c3,f0,f1,f2,f3]) ⟨rfl,q0,c0',(s2.later hu).fill _ _ _ _ _ _ _ _,rw_put4F hq (fresh_le hf (by omega)) _ _ _ _,mx_put4 (HP.out.later hu) HF.out _ _ _ _,Bl.put4 (B2.trans hu) (Nat.le_succ _) _ _ _ _⟩
 case fin =>
  intro vs vb u0 u hu hin hps;have a0:=hin 0 18 rfl;have a1:=hin 1 19 rfl;have a2:=hin 2 20 rfl;have a3:=hin 3 21 rfl;have a5:=hin 5 5 rfl;simp only [seval] at a0 a1 a2 a3 a5 ⊢;rw [if_pos (by decide)] at hps;simp only [a0,a2,a5];obtain ⟨q,c,sx,hR,hM,hbw⟩:=hps;clear a1 a3;have HR:=hideP hR;have HM:=hideP hM;clear hR hM;obtain ⟨c0,c1,c2',c3,f0,f1,f2,f3,lt⟩:=sx;go_wp2;simp [bodyPost,results,Tryz.results25,go_sem,c0,c1,c2',c3];exact ⟨q,c,p2,c2,by simp,⟨HR.out,HM.out⟩,hbw⟩
attribute [local go_sem] Oper.semAt_some
set_option maxHeartbeats 1000000 in
theorem vCloneZF (v:Value) (xs:List Fr) (w:World) (h:Rq 3 cellsF w v xs) (hl:xs.length≤1000000) (hne:xs≠[]) :
  Calls Tryz.prog 66 #[v] w fun e w'=>∃ u,e=.returned u∧RwZ 3 cellsF w' w.heap.size u xs∧Bl w w':=by
 have n0:=Tryz.nil0F;have n1:=Tryz.nil1F;obtain ⟨i0,hi,hz0,hz1,hz2⟩:=info_parts Tryz.info_F;rcases h with ⟨p,cap,rfl,rfl,hpn⟩|⟨b,o,cap,rfl,hc,hb,hx⟩
 ·exact absurd rfl hne
 ·have HX:=hideP hx;clear hx n0
  go_enter Tryz.func66,Tryz.ntmps66;go_wp2_with (at_builtin;refine wpList_append_own _ rfl _ _ 28 rfl w.heap.size 34 i0 (.agg #[.int .i64 0,.int .i64 0,.bool false]) 3 24 Tryz.underlying28 hi hz0 hz1 hz2 rfl (by decide) _ 0 [] rfl (World.ownsRow_made w #[] 0 (Nat.le_refl _) (by decide) rfl) ⟨b,o,none⟩ xs.length cap (xs.flatMap cellsF) rfl (flat_len cellsF_len xs) (flat_cells cellsF_len ((Rw_cells_later HX.out hb ((Bl.refl _).alloc _)))) (flat_one oneF_cells xs) (by unfold maxLen;omega) (by omega) (by simp) ?_;intro v' w1 hown' hgrow _)
  have R:=hideP (RwZ.of_own (xs:=xs) cellsF_len (by simpa using hown') hne);have hB:Bl w w1:=Below.grown (Below.alloc (Bl.refl w) (Nat.le_refl _) _) hgrow (by simp) (fun k e=>by cases e;exact Nat.le_refl _);clear hown' hgrow;go_wp2;go_ret;exact ⟨_,rfl,R.out,hB⟩
theorem RwZ.base {α:Type} {s:Nat} {c:α→List Value} {w:World} {lo lo':Nat} {v:Value} {xs:List α} (h:RwZ s c w lo v xs) (k:lo'≤lo):RwZ s c w lo' v xs:=by
 obtain ⟨b,cap,e,hc,hlo,r⟩:=h;exact ⟨b,cap,e,hc,Nat.le_trans k hlo,r⟩
def RowOkZ {α:Type} (s:Nat) (c:α→List Value) (R C:Nat) (f:Nat→Nat→α) (x:RowX) (W0 W:World):Prop:=
 Bl W0 W∧x.1<R∧RwZ s c W W0.heap.size (rowV C x) (rowM C f x.1)∧C≤x.2.2
theorem RwZ.set {α:Type} {s:Nat} {c:α→List Value} {w:World} {lo:Nat} {v:Value} {xs:List α} (h:RwZ s c w lo v xs) {p:Addr} (u:Value) (hf:p.block<lo):RwZ s c (w.setCell p u) lo v xs:=by
 obtain ⟨b,cap,rfl,hc,hlo,hb,hz,hx⟩:=h;have hk:(w.setCell p u).heap[b]?=w.heap[b]?:=Below.heap_setCell _ _ _ b (by omega);exact ⟨b,cap,rfl,hc,hlo,by simpa using hb,fun o=>(World.frozen?_of_block (a:=⟨b,o,none⟩) hk).trans (hz o),fun j x hj k v hv=>(World.cell?_of_block (a:=⟨b,j*s+k,none⟩) hk).trans (hx j x hj k v hv)⟩
theorem mNewZF (r c:Int) (p:Option Addr) (n cap:Nat) (xs:List Fr) (w:World) (hr:Rq 3 cellsF w (.slice p n cap) xs) (h:fitB r c n=true) (hn:xs.length=n) :
  Calls Tryz.prog 98 #[.int .i64 r,.int .i64 c,.slice p n cap] w fun e w'=>∃ p' cap',e=.returned (.tuple #[mV r c p' n cap',.bool true])∧RwZ 3 cellsF w' w.heap.size (.slice p' n cap') xs∧Bl w w':=by
 have hl:n≤1000000:=by obtain ⟨R,C,_,_,hd,rfl⟩:=fitB_nat h;have:=hd.lt;omega
 obtain ⟨W,hW⟩:∃ W,W=w.alloc (.cells #[.int .i64 0,.int .i64 0,.slice none 0 0] 30):=⟨_,rfl⟩;have b0:Bl w W:=by rw [hW];exact (Bl.refl _).alloc _
 have x0:MBox W w.heap.size 0 0 none 0 0:=by rw [hW];exact MBox.new w 0 0 none 0 0 _
 have hsz:W.heap.size=w.heap.size+1:=by rw [hW];simp
 have hne:xs≠[]:=by
  obtain ⟨R,C,_,_,hd,e⟩:=fitB_nat h;have:=Mx.pos hd e;intro e2;rw [e2] at hn;simp at hn;omega
 have CL:=hideP (vCloneZF (.slice p n cap) xs W (hr.later b0) (by omega) hne);have HW:=hideP hW;clear hW hr
 go_enter Tryz.func98,Tryz.ntmps98;go_wp2_with fail
 rw [←HW.out];refine (fits_any _ _ _ _).mono ?_;rintro e w1 ⟨rfl,rfl⟩;rw [h];go_wp2_with fail
 refine CL.out.mono ?_;rintro e w2 ⟨u,rfl,hR,h2⟩;obtain ⟨p',cap',rfl,_,_⟩:=hR.rw.cut;rw [hn] at hR ⊢;have HR:=hideP (hR.base (lo':=w.heap.size+1) (by omega));obtain ⟨c0,c1,c2,f0,f1,f2,lt⟩:=x0.later h2;clear hR CL;go_wp2;simp [bodyPost,results,Tryz.results98,go_sem,c0,c1,c2];exact ⟨p',cap',⟨rfl,rfl⟩,(((HR.out.set _ (Nat.lt_succ_self _)).set _ (Nat.lt_succ_self _)).set _ (Nat.lt_succ_self _)).base (by omega),Bl.put3 (b0.trans h2) (Nat.le_refl _) _ _ _⟩
theorem tailH_q (m k:Nat) (f:Nat→Fr):(tailH m k f).map toQ=(List.range (m-k)).map fun j=>toQ (f (k+j)):=by unfold tailH;rw [List.map_map];rfl
theorem dot_tail {m k:Nat} {f g:Nat→Fr} (h:fineR (dotF (tailH m k f) (tailH m k g))=true):(∀ c,k≤c→c<m→fineR (f c)=true∧fineR (g c)=true)∧toQ (dotF (tailH m k f) (tailH m k g))=dT m k (fun c=>toQ (f c)) (fun c=>toQ (g c)):=by
 obtain ⟨h1,h2⟩:=dot_q h;refine ⟨fun c h3 h4=>?_,?_⟩
 ·have hm:mulR (f c) (g c)∈List.zipWith mulR (tailH m k f) (tailH m k g):=by
   refine List.mem_of_getElem? (i:=c-k) ?_;unfold tailH;rw [List.getElem?_zipWith,List.getElem?_map,List.getElem?_map,List.getElem?_range (by omega)];simp [show k+(c-k)=c by omega]
  have:=mul_q (h1 _ hm);exact ⟨this.1,this.2.1⟩
 ·rw [h2,tailH_q,tailH_q,dotQ_sumH];rfl
theorem dT_one {m k:Nat} {f g:Nat→Rat} (hk:k<m) (h:∀ c,k<c→c<m→f c=0):dT m k f g=f k*g k:=by
 unfold dT;obtain ⟨d,hd⟩:∃ d,m-k=1+d:=⟨m-k-1,by omega⟩;rw [hd,sumH_split];rw [sumH_zero d (fun j hj=>by rw [h (k+(1+j)) (by omega) (by omega),Rat.zero_mul])];show (0:Rat)+f (k+0)*g (k+0)+0=_;rw [Nat.add_zero,Rat.zero_add,Rat.add_zero]
theorem dT_zero {m k:Nat} {f g:Nat→Rat} (h:∀ c,k≤c→c<m→f c=0):dT m k f g=0:=
 sumH_zero _ fun j hj=>by rw [h (k+j) (by omega) (by omega),Rat.zero_mul]
theorem dT_congr {m k:Nat} {f g f' g':Nat→Rat} (h:∀ c,k≤c→c<m→f c=f' c) (h2:∀ c,k≤c→c<m→g c=g' c):dT m k f g=dT m k f' g':=
 sumH_congr _ fun j hj=>by rw [h (k+j) (by omega) (by omega),h2 (k+j) (by omega) (by omega)]
attribute [local go_sem] Oper.semAt_some
attribute [local go_sem] Oper.semAt_some
attribute [local go_sem] Oper.semAt_some
theorem FBox.but {w w':World} {b:Nat} {x:Fr} {S:Nat→Prop} (h:FBox w b x) (k:But S w w') (hs:¬ S b):FBox w' b x:=by
 obtain ⟨c0,c1,c2,f0,f1,f2,lt⟩:=h;refine ⟨(k.cell _ _ lt hs).trans c0,(k.cell _ _ lt hs).trans c1,(k.cell _ _ lt hs).trans c2,(k.froz _ _ lt hs).trans f0,(k.froz _ _ lt hs).trans f1,(k.froz _ _ lt hs).trans f2,Nat.lt_of_lt_of_le lt k.size⟩
theorem Tryz.sizeF:(Tryz.prog.info? 34).map (·.size)=some 3:=by kernel_rfl
end Go.Proofs.YtljmggemdkfbiaaGreat
