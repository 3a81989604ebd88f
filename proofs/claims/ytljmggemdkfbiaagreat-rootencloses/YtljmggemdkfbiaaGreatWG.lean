/- A fold of enclosed numbers whose triangle is fine: the triangle's square encloses the square of what was folded, though roots are no fractions (layer 8, HouseSquares). Mathematics alone. -/
import Derived.Test.YtljmggemdkfbiaaGreatWF
import Derived.RangeFuncNested
import Derived.RangeFuncBound
import Derived.RangeFuncCalls
import Derived.RangeFuncLeaves
import Derived.Shelf.Abstract
import Derived.Shelf.RegionOpen
import Derived.OwnWalkIn
import Derived.TacticsInMore
import Derived.LoopNIn
import Derived.LoopIn
import Derived.Test.YtljmggemdkfbiaaGreatWB
import Derived.Laws.EntriesVeiled
import Derived.Test.YtljmggemdkfbiaaGreatWC
import Derived.Test.YtljmggemdkfbiaaGreatWD
import Derived.Test.YtljmggemdkfbiaaGreatWA
namespace Go.Proofs.YtljmggemdkfbiaaGreat
open Go.RowKit
set_option linter.unusedSimpArgs false
set_option linter.unusedVariables false
set_option maxHeartbeats 1000000 in
theorem mFilledN (G mb:Nat) (eg:∀ (args:Array Value) (w:World),(callFunc G args).run Tryz.prog w=.ok (.enter G args) w) (f:Nat→Nat→En) (R C n:Nat) (hd:Dim R C) (hn:n=R*C) (w:World)
  (hG:∀ i k u,i<R→k<C→Bl w u→Calls Tryz.prog G #[.int .i64 i,.int .i64 k,.pointer (some ⟨mb,0,none⟩)] u fun e w'=>e=.returned (enV (f i k))∧Bl u w') :
  Calls Tryz.prog 138 #[.int .i64 R,.int .i64 C,.func (.func G) #[] #[.pointer (some ⟨mb,0,none⟩)]] w fun e w'=>∃ p' cap',e=.returned (mV R C p' n cap')∧(Rw 4 cellsN w' (.slice p' n cap') (mk R C f)∧Fresh w.heap.size (.slice p' n cap'))∧Bl w w':=by
 obtain ⟨i0,hi,hz0,hz1,hz2⟩:=info_parts Tryz.info_N;have hRC:(R:Int)*(C:Int)=n:=by rw [hn];simp
 have hn256:n≤256:=by rw [hn];exact hd.lt
 have hR16:=hd.r2;have hC16:=hd.c2;have HG:=hideP hG;have HN:=hideP hn;clear hG hn;have z0:=MBox.new w 0 0 none 0 0 48
 go_enter Tryz.func138,Tryz.ntmps138;go_wp2_with (at_make;refine wpList_make_own _ rfl _ _ 46 rfl (w.heap.size+1) 52 i0 (.agg #[.int .i64 0,.int .i64 0,.int .i64 0,.bool false]) 4 Tryz.underlying46 hi hz0 hz1 .i64 .i64 _ n rfl rfl (by simp) (by rw [hz2];omega) (by unfold maxLen;omega) (by simp) ?_;intro w0 hown0 hgrow0)
 have hB0:Bl w w0:=((Bl.refl w).alloc _).grown hgrow0 (by simp) (fun k e=>by cases e);have hz:MBox w0 w.heap.size 0 0 none 0 0:=mbox_block z0 (hgrow0.block _ z0.lt nofun) hgrow0.size;clear hgrow0 z0
 go_loopw [7,15] (fun v i wr=>∃ j:Nat,i=.int .i64 j∧j≤R∧wr.ownsRow (w.heap.size+1) 52 4 v (mk j C f).length ((mk j C f).flatMap cellsN)∧MBox wr w.heap.size 0 0 none 0 0∧Bl w wr) (fun _ i _=>R-(intOf i).toNat)
 case atStart=>exact ⟨0,rfl,Nat.zero_le _,by rw [World.size_alloc] at hown0;exact hown0,hz,hB0⟩
 case round =>
  clear hown0 hz hB0;obtain ⟨j,rfl,hj,hown,hz,hB⟩:=hrel;by_cases hlt:j<R
  ·go_wp2_with fail
   go_loopw [7,19] (fun v i wr=>∃ k:Nat,i=.int .i64 k∧k≤C∧wr.ownsRow (w.heap.size+1) 52 4 v (mk j C f++rowM k f j).length ((mk j C f++rowM k f j).flatMap cellsN)∧MBox wr w.heap.size 0 0 none 0 0∧Bl w wr) (fun _ i _=>C-(intOf i).toNat)
   case atStart=>exact ⟨0,rfl,Nat.zero_le _,by simpa [rowM] using hown,hz,hB⟩
   case round =>
    clear hown hz hB;obtain ⟨k,rfl,hk,hown,hz,hB⟩:=hrel;by_cases hlt2:k<C
    ·have HT:=hideP (show mk j C f++rowM (k+1) f j=(mk j C f++rowM k f j)++[f j k] by rw [rowM_succ,List.append_assoc]);have hlen:(mk j C f++rowM k f j).length≤256:=by
      have h1:j*C+k<R*C:=mk_idx hlt hlt2;have:=HN.out;rw [List.length_append,mk_len,rowM_len];omega
     have G1:=hideP (HG.out j k _ hlt hlt2 hB);generalize mk j C f++rowM k f j=ys at *;generalize f j k=x at *;go_wp2_with fail
     refine G1.out.mono ?_;rintro e w2 ⟨rfl,h2⟩;replace hown:=own_blN hown h2;replace hz:=hz.later h2;replace hB:=hB.trans h2;have hys:=hlen;clear G1;go_wp2_with (at_builtin;refine wpList_append_own _ rfl _ _ 46 rfl (w.heap.size+1) 52 i0 (.agg #[.int .i64 0,.int .i64 0,.int .i64 0,.bool false]) 4 32 Tryz.underlying46 hi hz0 hz1 hz2 rfl (by decide) _ _ _ rfl (hown.alloc _) ⟨_,0,none⟩ 1 1 (cellsN x) rfl rfl (newN_cells _ _ _) (oneN_cells _) (by unfold maxLen;omega) (by omega) (by have:=hB.size;have:=hz.lt;simp;omega) ?_;intro v' w1 hown' hgrow _)
     have R1:=own_more (ys:=[x]) (hB.alloc _) (Nat.le_succ _) (hown.alloc _) (by simpa using hown') rfl hgrow;have Z1:=(hz.later ((Bl.refl _).alloc _)).grown (hown.alloc _) hgrow (Nat.lt_succ_self _);clear hown hown' hgrow hz;go_wp2;go_roundw
     case rel=>exact ⟨k+1,by simp,hlt2,by rw [HT.out];exact R1.2,Z1,R1.1⟩
     case measure=>simp [intOf];omega
    ·obtain rfl:k=C:=by omega
     have HT:=hideP (mk_succ j k f);go_wp2_with fail
     go_roundw
     case rel=>exact ⟨j+1,by simp,hlt,by rw [HT.out];exact hown,hz,hB⟩
     case measure=>simp [intOf];omega
  ·obtain rfl:j=R:=by omega
   have RW:=hideP (Rw.of_own cellsN_len hown);have FR:=hideP (show Fresh (w.heap.size+1) _ from fun g hg=>(hown.lt g hg).1);obtain ⟨p',cap',hv,hcc,_⟩:=RW.out.cut;rw [mk_len,←HN.out] at hv;have HV:=hideP hv;clear hv;obtain ⟨c0,c1,c2,f0,f1,f2,lt⟩:=hz;clear hown
   rename_i v
   obtain rfl:=HV.out;go_wp2;simp [bodyPost,results,Tryz.results138,go_sem,c0,c1,c2];refine ⟨p',cap',⟨rfl,rfl⟩,⟨((RW.out.set _ FR.out).set _ FR.out).set _ FR.out,fun g hg=>by have:=FR.out g hg;omega⟩,Bl.put3 hB (Nat.le_refl _) _ _ _⟩
theorem mTurn1N (R C:Nat) (p:Option Addr) (n cap:Nat) (f:Nat→Nat→En) (w:World) (h:Mx 4 cellsN w R C p n cap f) (mb:Nat) (hm:MBox w mb R C p n cap) (i k:Nat) (hi:i<C) (hk:k<R) :
  Calls Tryz.prog 139 #[.int .i64 i,.int .i64 k,.pointer (some ⟨mb,0,none⟩)] w fun e w'=>e=.returned (enV (f k i))∧Bl w w':=by
 have A:=hideP (fun u (hu:Bl w u)=>mAtN R C p n cap f u (h.later hu) k i hk hi);obtain ⟨W,hW⟩:∃ W,W=w.alloc (.cells #[.int .i64 0,.int .i64 0,.int .i64 0,.bool false] 52):=⟨_,rfl⟩;have b0:Bl w W:=by rw [hW];exact (Bl.refl _).alloc _
 have x0:Box W w.heap.size zeroE:=by rw [hW];exact Box.new w zeroE 52
 obtain ⟨c0,c1,c2,f0,f1,f2,lt⟩:=hm;have HW:=hideP hW;clear hW h;generalize f k i=x at *
 go_enter Tryz.func139,Tryz.ntmps139;go_wp2_with fail
 rw [←HW.out];refine (A.out _ b0).mono ?_;rintro e w1 ⟨rfl,h1⟩;clear c0 c1 c2 f0 f1 f2 A;obtain ⟨d0,d1,d2,d3,g0,g1,g2,g3,lt2⟩:=x0.later h1;go_wp2;simp [bodyPost,results,Tryz.results139,go_sem,d0,d1,d2,d3];exact Bl.set4 (b0.trans h1) (Nat.le_refl _) _ _ _ _
theorem mTurnN (R C:Nat) (p:Option Addr) (n cap:Nat) (f:Nat→Nat→En) (w:World) (h:Mx 4 cellsN w R C p n cap f) :
  Calls Tryz.prog 104 #[mV R C p n cap] w fun e w'=>∃ p' cap',e=.returned (mV C R p' n cap')∧(Mx 4 cellsN w' C R p' n cap' (fun i k=>f k i)∧Rw 4 cellsN w' (.slice p' n cap') (mk C R (fun i k=>f k i))∧Fresh w.heap.size (.slice p' n cap'))∧Bl w w':=by
 have hfit:=h.fit;obtain ⟨W,hW⟩:∃ W,W=(w.alloc (.cells #[.int .i64 R,.int .i64 C,.slice p n cap] 48)).alloc (.cells #[.int .i64 0,.int .i64 0,.slice none 0 0] 48):=⟨_,rfl⟩;have b0:Bl w W:=by rw [hW];exact ((Bl.refl _).alloc _).alloc _
 have m0:MBox W w.heap.size R C p n cap:=by rw [hW];exact (MBox.new w _ _ _ _ _ _).later ((Bl.refl _).alloc _)
 have x0:MBox W (w.heap.size+1) 0 0 none 0 0:=by rw [hW];have:=MBox.new (w.alloc (.cells #[.int .i64 R,.int .i64 C,.slice p n cap] 48)) 0 0 none 0 0 48;rw [World.size_alloc] at this;exact this
 have hs:W.heap.size=w.heap.size+1+1:=by rw [hW];simp
 have FI:=hideP (fun u (hu:Bl W u)=>mFilledN 139 w.heap.size (enters_of Tryz.func139 (by kernel_rfl) rfl) (fun i k=>f k i) C R n h.1.turn (by rw [h.2.1,Nat.mul_comm]) u
  (fun i k v hi hk hv=>mTurn1N R C p n cap f v (h.later (b0.trans (hu.trans hv))) _ (m0.later (hu.trans hv)) i k hi hk))
 have HD:=hideP h;have HW:=hideP hW;clear hW h
 go_enter Tryz.func104,Tryz.ntmps104;go_wp2_with fail
 rw [←HW.out];refine (mRightN _ _ _ _ _ _).mono ?_;rintro e w1 ⟨rfl,h1⟩;rw [hfit];obtain ⟨c0,c1,c2,f0,f1,f2,lt⟩:=m0.later h1;go_wp2_with fail
 refine (FI.out _ h1).mono ?_;rintro e w2 ⟨p',cap',rfl,⟨hR,hF⟩,h2⟩;have HR:=hideP hR;have HF:=hideP (show Fresh (w.heap.size+1+1) (.slice p' n cap') from fun g hg=>by have:=hF g hg;have:=h1.size;omega);clear hR hF FI c0 c1 c2 f0 f1 f2;obtain ⟨c0,c1,c2,f0,f1,f2,lt2⟩:=x0.later (h1.trans h2);go_wp2;simp [bodyPost,results,Tryz.results104,go_sem,c0,c1,c2];have q:=((HR.out.set (p:=⟨w.heap.size+1,0,none⟩) (.int .i64 C) HF.out).set (p:=⟨w.heap.size+1,1,none⟩) (.int .i64 R) HF.out).set (p:=⟨w.heap.size+1,2,none⟩) (.slice p' n cap') HF.out;refine ⟨p',cap',⟨rfl,rfl⟩,⟨⟨HD.out.1.turn,by rw [HD.out.2.1,Nat.mul_comm],q.q⟩,q,fun g hg=>by have:=HF.out g hg;omega⟩,Bl.put3 ((b0.trans h1).trans h2) (Nat.le_succ _) _ _ _⟩
open Go.Shelf
attribute [local go_sem] Oper.semAt_some
theorem mAllN (R C:Nat) (p:Option Addr) (n cap:Nat) (f:Nat→Nat→En) (w:World) (h:Mx 4 cellsN w R C p n cap f) :
  Calls Tryz.prog 61 #[mV R C p n cap] w fun e w'=>∃ B p' cap',e=.returned (.func (.func 108) #[] #[.pointer (some ⟨B,0,none⟩)])∧KeptIn 4 cellsN w' w.heap.size w'.heap.size B R C p' n cap' f∧Bl w w':=by
 have hfit:=h.fit;obtain ⟨W,hW⟩:∃ W,W=(w.alloc (.cells #[.int .i64 R,.int .i64 C,.slice p n cap] 48)):=⟨_,rfl⟩;have b0:Bl w W:=by rw [hW];exact (Bl.refl _).alloc _
 have m0:MBox W w.heap.size R C p n cap:=by rw [hW];exact MBox.new w _ _ _ _ _ _
 have NW:=hideP (mNewN R C p n cap (mk R C f) W (h.2.2.later b0) hfit (by rw [mk_len,h.2.1]));have HD:=hideP h;obtain ⟨c0,c1,c2,f0,f1,f2,lt⟩:=m0;have HW:=hideP hW;clear hW h
 go_enter Tryz.func61,Tryz.ntmps61;go_wp2_with fail
 rw [←HW.out];refine NW.out.mono ?_;rintro e w1 ⟨p',cap',rfl,⟨hR,hF⟩,h1⟩;have HR:=hideP hR;have HF:=hideP hF;clear hR hF NW c0 c1 c2 f0 f1 f2;go_wp2;go_ret;have hb:Bl w w1:=b0.trans h1;refine ⟨w1.heap.size,p',cap',rfl,?_,hb.alloc _⟩;exact ⟨HD.out.1,HD.out.2.1,MBox.new w1 _ _ _ _ _ _,hb.size,by simp,HR.out.later ((Bl.refl _).alloc _),fun g hg=>⟨by have:=HF.out g hg;have:=b0.size;omega,by have:=HR.out.lt g hg;simp;omega⟩⟩
theorem Tryz.yieldMN (l:Nat) (w:World):(binOp .eql 136 (.func (.yield l) #[] #[]) .nilFunc).run Tryz.prog w=.ok (.bool false) w:=by kernel_rfl
set_option maxRecDepth 100000 in
set_option maxHeartbeats 2000000 in
theorem iterMN (m l B lo hi R C:Nat) (p:Option Addr) (n cap:Nat) (f:Nat→Nat→En) (J Jx:List RowX→World→Prop) (W:World) (hJ:AbidesFrom W.heap.size J) (hh:hi≤W.heap.size)
  (hY:∀ pre x W0 W1,J pre W0→RowOk 4 cellsN R C f x W0 W1→pre.length<R→YieldAt Fence.wide (m-1) Tryz.prog l #[.int .i64 x.1,rowV C x] W1 fun e W' =>
   (e=.returned (.bool true)∧J (pre++[x]) W'∧Span lo hi W1 W')∨(e=.returned (.bool false)∧Jx (pre++[x]) W'))
  (hP:KeptIn 4 cellsN W lo hi B R C p n cap f) (h0:J [] W) :
  CallsIn Fence.wide m Tryz.prog 108 #[.func (.yield l) #[] #[],.pointer (some ⟨B,0,none⟩)] W fun e W'=>(∃ v,e=.returned v) ∧
   ((∃ zs:List RowX,zs.map (·.1)=List.range R∧J zs W')∨(∃ pre:List RowX,pre.map (·.1) <+: List.range R∧Jx pre W')):=by
 have yn:=Tryz.yieldMN l;have HP:=hideP hP;have hR16:=hP.hd.r2;obtain ⟨c0,c1,c2,f0,f1,f2,lt⟩:=hP.box;clear hP;refine callsIn_of_wp Tryz.func108 rfl trivial ?_ rfl;simp only [Tryz.ntmps108,List.size_toArray,List.length_cons,List.length_nil,Nat.reduceAdd,Nat.reduceSub,Array.replicate_succ,Array.replicate_zero,List.push_toArray,List.append_toArray,List.nil_append,List.cons_append]
 gi_wp2
 clear c0 c1 c2 f0 f1 f2
 gi_loopw [8] (fun i wr=>∃ (k:Nat) (pre:List RowX),k≤R∧i=.int .i64 k∧pre.map (·.1)=List.range k∧J pre wr∧Span lo hi W wr) (fun i _=>R-(intOf i).toNat)
 case atStart=>exact ⟨0,[],Nat.zero_le _,rfl,rfl,h0,Span.refl _ _ _⟩
 case round =>
  obtain ⟨k,pre,hk,rfl,hpre,hJs,hsp⟩:=hrel;have hlen:pre.length=k:=by have:=congrArg List.length hpre;simpa using this
  have HPR:=hideP hpre;clear hpre;by_cases hlt:k<R
  ·have HKK:=hideP (HP.out.later hsp);obtain ⟨c0,c1,c2,f0,f1,f2,lt⟩:=HKK.out.box
   gi_wp2_with fail
   refine ⟨trivial,fun h=>(by cases h),?_⟩;refine (callsIn_wide.2 (mRowN R C p n cap f _ HKK.out.mx k hlt)).mono ?_;rintro e w1 ⟨p',cap',rfl,⟨hR,hF,hcc⟩,h1⟩;obtain ⟨fn,tmps,assign,body,hyd,hR2⟩:=hY pre (k,p',cap') _ w1 hJs ⟨h1,hlt,hR,hF,hcc⟩ (by omega);dsimp only at hyd;clear c0 c1 c2 f0 f1 f2 hR hF;have hR3:RoundIn Fence.wide (m-1) Tryz.prog l fn tmps assign body w1 fun e W'=>∃ r:Bool,e=.returned (.bool r)∧((r=true∧J (pre++[(k,p',cap')]) W'∧Span lo hi w1 W')∨(r=false∧Jx (pre++[(k,p',cap')]) W')):=by
    refine hR2.mono ?_;rintro e W' (⟨rfl,h1,h2⟩|⟨rfl,h1⟩)
    ·exact ⟨true,rfl,.inl ⟨rfl,h1,h2⟩⟩
    ·exact ⟨false,rfl,.inr ⟨rfl,h1⟩⟩
   gi_wp2_with fail
   refine ⟨fun h=>(by cases h),?_⟩;refine hR3.mono ?_;rintro e W3 ⟨r,rfl,hr⟩;have sp1:Span lo hi W w1:=hsp.trans (h1.span (by have:=hsp.size;omega));have HT:=hideP (show (pre++[((k,p',cap'):RowX)]).map (·.1)=List.range (k+1) by rw [List.map_append,HPR.out,List.range_succ];rfl);rcases hr with ⟨rfl,hJ3,hk3⟩|⟨rfl,hJx3⟩
   ·gi_wp2
    go_roundw
    case rel=>exact ⟨k+1,_,by omega,by simp,HT.out,hJ3,sp1.trans hk3⟩
    case measure=>simp [intOf];omega
   ·gi_wp2
    refine bodyPost_ret (results_none rfl _ _ _) rfl ?_;exact ⟨⟨_,rfl⟩,.inr ⟨_,by rw [HT.out];exact range_pre hlt,hJx3⟩⟩
  ·obtain rfl:k=R:=by omega
   have HJ:=hideP hJs;clear hJs
   gi_wp2
   go_end0
   exact ⟨⟨_,rfl⟩,.inl ⟨pre,HPR.out,HJ.out⟩⟩
theorem seqMN (m B lo hi R C:Nat) (p:Option Addr) (n cap:Nat) (f:Nat→Nat→En) (w:World) (hh:hi≤w.heap.size) (hP:KeptIn 4 cellsN w lo hi B R C p n cap f) :
  SeqV Fence.wide m Tryz.prog 108 #[.pointer (some ⟨B,0,none⟩)] (fun x:RowX=>#[.int .i64 x.1,rowV C x]) (RowOk 4 cellsN R C f) (Span lo hi) (fun zs=>zs.map (·.1)=List.range R) (fun pre=>pre.map (·.1) <+: List.range R) R w:=
 fun l J Jx W hW hJ _ hY h0=>iterMN m l B lo hi R C p n cap f J Jx W hJ (Nat.le_trans hh hW.size) hY (hP.later (Bl.span hW hh)) h0
theorem Tryz.mDivN (x:Value) (w:World):(method 327 52 x "Div").run Tryz.prog w=.ok (203,x) w:=by kernel_rfl
theorem Tryz.mRootN (x:Value) (w:World):(method 327 52 x "Root").run Tryz.prog w=.ok (206,x) w:=by kernel_rfl
theorem tClear1N (n:Nat) (p0:Option Addr) (N cap0:Nat) (P:Nat→Nat→En) (p:Option Addr) (cap:Nat) (w:World) (hP:Mx 4 cellsN w n n p0 N cap0 P) (pb:Nat) (hm:MBox w pb n n p0 N cap0) (i k:Nat) (hi:i<n) (hk:k<n) :
  Calls Tryz.prog 117 #[mV n n p N cap,.int .i64 i,.int .i64 k,.pointer (some ⟨pb,0,none⟩)] w fun e w'=>e=.returned (enV (P i k))∧Bl w w':=by
 have A:=hideP (fun u (hu:Bl w u)=>mAtN n n p0 N cap0 P u (hP.later hu) i k hi hk);obtain ⟨W,hW⟩:∃ W,W=(w.alloc (.cells #[.int .i64 n,.int .i64 n,.slice p N cap] 48)).alloc (.cells #[.int .i64 0,.int .i64 0,.int .i64 0,.bool false] 52):=⟨_,rfl⟩;have b0:Bl w W:=by rw [hW];exact ((Bl.refl _).alloc _).alloc _
 have x0:Box W (w.heap.size+1) zeroE:=by rw [hW];have:=Box.new (w.alloc (.cells #[.int .i64 n,.int .i64 n,.slice p N cap] 48)) zeroE 52;rw [World.size_alloc] at this;exact this
 obtain ⟨c0,c1,c2,f0,f1,f2,lt⟩:=hm;have HW:=hideP hW;clear hW hP;generalize P i k=x at *
 go_enter Tryz.func117,Tryz.ntmps117;go_wp2_with fail
 rw [←HW.out];refine (A.out _ b0).mono ?_;rintro e w1 ⟨rfl,h1⟩;clear c0 c1 c2 f0 f1 f2 A;obtain ⟨d0,d1,d2,d3,g0,g1,g2,g3,lt2⟩:=x0.later h1;go_wp2;simp [bodyPost,results,Tryz.results117,go_sem,d0,d1,d2,d3];exact Bl.set4 (b0.trans h1) (Nat.le_succ _) _ _ _ _
def clrN (f:Nat→Nat→En) (i k:Nat):En:=if k≤i then f i k else wholeN 0
theorem tClearN (n:Nat) (p:Option Addr) (N cap:Nat) (f:Nat→Nat→En) (w:World) (h:Mx 4 cellsN w n n p N cap f) :
  Calls Tryz.prog 71 #[mV n n p N cap] w fun e w'=>∃ p' cap',e=.returned (.tuple #[mV n n p' N cap',.bool true])∧(Mx 4 cellsN w' n n p' N cap' (clrN f)∧Fresh w.heap.size (.slice p' N cap'))∧Bl w w':=by
 have hsq:sqB n n N=true:=by unfold sqB;rw [h.fit];simp
 obtain ⟨W,hW⟩:∃ W,W=(w.alloc (.cells #[.int .i64 n,.int .i64 n,.slice p N cap] 48)).alloc (.cells #[.int .i64 0,.int .i64 0,.slice none 0 0] 48):=⟨_,rfl⟩;have b0:Bl w W:=by rw [hW];exact ((Bl.refl _).alloc _).alloc _
 have m0:MBox W w.heap.size n n p N cap:=by rw [hW];exact (MBox.new w _ _ _ _ _ _).later ((Bl.refl _).alloc _)
 have x0:MBox W (w.heap.size+1) 0 0 none 0 0:=by rw [hW];have:=MBox.new (w.alloc (.cells #[.int .i64 n,.int .i64 n,.slice p N cap] 48)) 0 0 none 0 0 48;rw [World.size_alloc] at this;exact this
 have hs:W.heap.size=w.heap.size+1+1:=by rw [hW];simp
 have FI:=hideP (fun u (hu:Bl W u)=>(tTriangleN 117 w.heap.size (enters_of Tryz.func117 (by kernel_rfl) rfl) (fun _ i k=>f i k) n N h.1.r1 h.1.r2 h.2.1 u
  (fun g p' cap' i k v hki hi hv _=>tClear1N n p N cap f p' cap' v (h.later (b0.trans (hu.trans hv))) _ (m0.later (hu.trans hv)) i k hi (by omega))).mono (R':=fun e w'=>∃ p' cap',e=.returned (mV n n p' N cap')∧(Mx 4 cellsN w' n n p' N cap' (clrN f)∧Fresh u.heap.size (.slice p' N cap'))∧Bl u w') (by
   rintro e w' ⟨p',cap',rfl,⟨hR,hF⟩,hb⟩;refine ⟨p',cap',rfl,⟨hR.congr7 fun i k hi hk=>?_,hF⟩,hb⟩;rw [triT_const f _ n n (Nat.le_refl _) i k hi];unfold clrN;by_cases hki:k≤i
   ·rw [if_pos ⟨hki,hk⟩,if_pos hki]
   ·rw [if_neg (by omega),if_neg hki]))
 have HD:=hideP h;have HW:=hideP hW;clear hW h
 go_enter Tryz.func71,Tryz.ntmps71;go_wp2_with fail
 rw [←HW.out];refine (tSquareN _ _ _ _ _ _).mono ?_;rintro e w1 ⟨rfl,h1⟩;rw [hsq];obtain ⟨c0,c1,c2,f0,f1,f2,lt⟩:=m0.later h1;go_wp2_with fail
 refine (FI.out _ h1).mono ?_;rintro e w2 ⟨p',cap',rfl,⟨hR,hF⟩,h2⟩;have HR:=hideP hR;have HF:=hideP (show Fresh (w.heap.size+1+1) (.slice p' N cap') from fun g hg=>by have:=hF g hg;have:=h1.size;omega);clear hR hF FI c0 c1 c2 f0 f1 f2;obtain ⟨c0,c1,c2,f0,f1,f2,lt2⟩:=x0.later (h1.trans h2);go_wp2;simp [bodyPost,results,Tryz.results71,go_sem,c0,c1,c2];exact ⟨p',cap',⟨rfl,rfl⟩,⟨mx_put7 HR.out HF.out _ _ _,fun g hg=>by have:=HF.out g hg;omega⟩,Bl.put3 ((b0.trans h1).trans h2) (Nat.le_succ _) _ _ _⟩
theorem Tryz.load1N (B:Nat) (v:Value) (u:World) (h:u.cell? ⟨B,0,none⟩=some v):(Instr.loadAt 46 (.pointer (some ⟨B,0,none⟩))).run Tryz.prog u=.ok v u:=by
 simp [go_sem,h]
theorem Tryz.store1N (B:Nat) (p:Option Addr) (n cap:Nat) (v:Value) (u:World) (h:u.cell? ⟨B,0,none⟩=some v) (hf:u.frozen? ⟨B,0,none⟩=false):(Instr.storeAt 46 (.pointer (some ⟨B,0,none⟩)) (.slice p n cap)).run Tryz.prog u=.ok () (u.setCell ⟨B,0,none⟩ (.slice p n cap)):=by
 simp [go_sem,h,hf]
theorem Tryz.build1N (x:En) (u:World):(Instr.buildSlice 46 1 #[(0,enV x)]).run Tryz.prog u=.ok (.slice (some ⟨u.heap.size,0,none⟩) 1 1) (u.alloc (.cells #[.int .i64 x.v,.int .i64 x.l,.int .i64 x.h,.bool x.bad] 52)):=by
 simp [go_sem]
def DotIN (d:Nat) (a:Act) (W:World) (v v1 v2:Value) (z:En) (base:Nat) (xs:List En) (B:Nat) (L:Nat→Bool) (act:Act) (u:World):Prop:=
 a.tmps.size=act.tmps.size∧(∀ s,s<d→act.eval (.tmp s)=a.eval (.tmp s))∧(L 3=true→L 1=true∧L 2=true)∧(L 4=true→L 3=true)∧(L 5=true→L 0=true∧L 4=true)∧(L 6=true→L 5=true)
  ∧ (L 5=false→Bl W u∧(L 0=true→act.eval (.tmp d)=v)∧(L 1=true→act.eval (.tmp (d+1))=v1)∧(L 2=true→act.eval (.tmp (d+2))=v2)∧(L 3=true→act.eval (.tmp (d+3))=enV z)∧(L 4=true→∃ g,act.eval (.tmp (d+4))=.slice (some ⟨g,0,none⟩) 1 1∧Box u g z))
  ∧ (L 5=true→∃ u0 w5 g' cap',Bl W u0∧u0.grownBy w5 v.ownBlock∧w5.ownsRow base 52 4 (.slice (some ⟨g',0,none⟩) (xs.length+1) cap') (xs.length+1) (xs.flatMap cellsN++cellsN z)∧(some g'=v.ownBlock∨g'=u0.heap.size)
    ∧ (L 6=false→u=w5∧act.eval (.tmp (d+5))=.slice (some ⟨g',0,none⟩) (xs.length+1) cap')∧(L 6=true→u=w5.setCell ⟨B,0,none⟩ (.slice (some ⟨g',0,none⟩) (xs.length+1) cap')))
set_option maxHeartbeats 1000000 in
theorem dotAppendN {F:Fence} {m:Nat} {ops:Array Oper} {o0 o1 o2 o3 o4 o5 o6:Oper} {Q:Exit→Act→World→Prop} {a:Act} {W:World} {id:Nat} (hops:ops=#[o0,o1,o2,o3,o4,o5,o6]) (hlow:lowB ops=true) (d sL fD:Nat) (hsz:d+6≤a.tmps.size) (hsL:sL<d)
  (g0:o0.guard=none∧o0.dst=some d∧o0.op=.load 46 (.tmp sL)) (g1:o1.guard=none∧o1.dst=some (d+1)) (g2:o2.guard=none∧o2.dst=some (d+2))
  (g3:o3.guard=none∧o3.dst=some (d+3)∧o3.op=.call { callee:=.value (.func fD),args:=#[.tmp (d+1),.tmp (d+2)],argTypes:=#[46,46] })
  (g4:o4.guard=none∧o4.dst=some (d+4)∧o4.op=.buildSlice 46 1 #[(0,.tmp (d+3))])
  (g5:o5.guard=none∧o5.dst=some (d+5)∧o5.op=.call { callee:=.builtin .append,args:=#[.tmp d,.tmp (d+4)],argTypes:=#[46,46] })
  (g6:o6.guard=none∧o6.dst=none∧o6.op=.store 46 (.tmp sL) (.tmp (d+5)))
  (e3:(⟨1,.data⟩:Edge)∈o3.after∧(⟨2,.data⟩:Edge)∈o3.after) (e4:(⟨3,.data⟩:Edge)∈o4.after) (e5:(⟨0,.data⟩:Edge)∈o5.after∧(⟨4,.data⟩:Edge)∈o5.after) (e6:(⟨5,.data⟩:Edge)∈o6.after)
  (v1 v2:Value) (h1:∀ (act:Act) (u:World) (K:Act→World→Prop),(∀ s,s<d→act.eval (.tmp s)=a.eval (.tmp s))→Bl W u→K (act.put (some (d+1)) v1) u→Oper.wpIn F m Tryz.prog o1 act u K Q)
  (h2:∀ (act:Act) (u:World) (K:Act→World→Prop),(∀ s,s<d→act.eval (.tmp s)=a.eval (.tmp s))→Bl W u→K (act.put (some (d+2)) v2) u→Oper.wpIn F m Tryz.prog o2 act u K Q)
  (hF:F.fn fD) (hdep:F.depth.isSome=true→1≤m) (eg:∀ args w,(callFunc fD args).run Tryz.prog w=.ok (.enter fD args) w) (z:En)
  (hC:∀ u,Bl W u→CallsIn F (m-1) Tryz.prog fD #[v1,v2] u fun e w'=>e=.returned (enV z)∧Bl u w')
  (B:Nat) (hB:a.eval (.tmp sL)=.pointer (some ⟨B,0,none⟩)) (v:Value) (hv:Boxed W B 46 v) (base:Nat) (xs:List En) (hown:W.ownsRow base 52 4 v xs.length (xs.flatMap cellsN)) (hlen:xs.length≤100000) (hbase:base≤W.heap.size)
  (fin:∀ act u0 w5 g' cap',Bl W u0→u0.grownBy w5 v.ownBlock→w5.ownsRow base 52 4 (.slice (some ⟨g',0,none⟩) (xs.length+1) cap') (xs.length+1) (xs.flatMap cellsN++cellsN z)→(some g'=v.ownBlock∨g'=u0.heap.size)→Q .normal act (w5.setCell ⟨B,0,none⟩ (.slice (some ⟨g',0,none⟩) (xs.length+1) cap'))) :
  (Code.region id ops true).wpIn F m Tryz.prog Q a W:=by
 obtain ⟨i0,hi,hz0,hz1,hz2⟩:=info_parts Tryz.info_N;have fm:Tryz.prog.follows .mixedOrders=true:=by kernel_rfl
 refine region_facts fm (lowB_low hlow) (DotIN d a W v v1 v2 z base xs B) ?_ ?_ ?_
 ·exact ⟨rfl,fun _ _=>rfl,nofun,nofun,nofun,nofun,fun _=>⟨(Bl.refl _).drew,nofun,nofun,nofun,nofun,nofun⟩,nofun⟩
 ·intro L act u i o ⟨hs,hfr,c3,c4,c5,c6,hpre,hpost⟩ ho hLi hall;have hlt:i<7:=by have:=(Array.getElem?_eq_some_iff.1 ho).1;rw [hops] at this;simpa using this
  have sv:∀ (e:Nat) (x:Value),e<act.tmps.size→(act.put (some e) x).eval (.tmp e)=x:=fun e x h=>eval_put_same h
  have ne5:(L 5=true→False)→L 5=false:=fun h=>by cases hh:L 5<;>simp_all
  have fr:∀ (e:Nat) (x:Value),d≤e→∀ s,s<d→(act.put (some e) x).eval (.tmp s)=a.eval (.tmp s):=fun e x he s hs=>by rw [eval_put_other (by omega)];exact hfr s hs
  rcases (by omega:i=0∨i=1∨i=2∨i=3∨i=4∨i=5∨i=6) with rfl|rfl|rfl|rfl|rfl|rfl|rfl
  ·obtain rfl:o=o0:=by rw [hops] at ho;simpa using ho.symm
   have l5:L 5=false:=ne5 fun h=>by rw [(c5 h).1] at hLi;cases hLi
   obtain ⟨hb,p0,p1,p2,p3,p4⟩:=hpre l5;refine step_wp ho g0.1 (load_wp _ _ g0.2.2 (v:=v) (by rw [hfr _ hsL,hB];exact Tryz.load1N B v u (boxed_bl hv hb).cell) ?_);rw [g0.2.1];refine ⟨by rw [size_put];exact hs,fr _ _ (Nat.le_refl _),by simpa using c3,by simpa using c4,by simp [l5],by simpa using c6,fun _=>⟨hb,fun _=>sv _ _ (by omega),?_,?_,?_,?_⟩,by simp [l5]⟩
   all_goals (simp only [Nat.reduceEqDiff,Nat.reduceBEq,Bool.or_false];intro h;rw [eval_put_other (by omega)])
   ·exact p1 h
   ·exact p2 h
   ·exact p3 h
   ·exact p4 h
  ·obtain rfl:o=o1:=by rw [hops] at ho;simpa using ho.symm
   have l3:L 3=false:=by cases hh:L 3<;>simp_all
   have l4:L 4=false:=by cases hh:L 4<;>simp_all
   have l5:L 5=false:=ne5 fun h=>by rw [(c5 h).2] at l4;cases l4
   obtain ⟨hb,p0,p1,p2,p3,p4⟩:=hpre l5;refine step_wp ho g1.1 (h1 act u _ hfr hb ?_);refine ⟨by rw [size_put];exact hs,fr _ _ (by omega),by simp [l3],by simp [l4],by simp [l5],by simpa using c6,fun _=>⟨hb,?_,fun _=>sv _ _ (by omega),?_,by simp [l3],by simp [l4]⟩,by simp [l5]⟩
   all_goals (simp only [Nat.reduceEqDiff,Nat.reduceBEq,Bool.or_false];intro h;rw [eval_put_other (by omega)])
   ·exact p0 h
   ·exact p2 h
  ·obtain rfl:o=o2:=by rw [hops] at ho;simpa using ho.symm
   have l3:L 3=false:=by cases hh:L 3<;>simp_all
   have l4:L 4=false:=by cases hh:L 4<;>simp_all
   have l5:L 5=false:=ne5 fun h=>by rw [(c5 h).2] at l4;cases l4
   obtain ⟨hb,p0,p1,p2,p3,p4⟩:=hpre l5;refine step_wp ho g2.1 (h2 act u _ hfr hb ?_);refine ⟨by rw [size_put];exact hs,fr _ _ (by omega),by simp [l3],by simp [l4],by simp [l5],by simpa using c6,fun _=>⟨hb,?_,?_,fun _=>sv _ _ (by omega),by simp [l3],by simp [l4]⟩,by simp [l5]⟩
   all_goals (simp only [Nat.reduceEqDiff,Nat.reduceBEq,Bool.or_false];intro h;rw [eval_put_other (by omega)])
   ·exact p0 h
   ·exact p1 h
  ·obtain rfl:o=o3:=by rw [hops] at ho;simpa using ho.symm
   have l1:L 1=true:=hall _ e3.1 rfl;have l2:L 2=true:=hall _ e3.2 rfl;have l4:L 4=false:=by cases hh:L 4<;>simp_all
   have l5:L 5=false:=ne5 fun h=>by rw [(c5 h).2] at l4;cases l4
   obtain ⟨hb,p0,p1,p2,p3,p4⟩:=hpre l5;refine step_wp ho g3.1 (call2_wp fD _ _ _ g3.2.2 hF hdep eg (by rw [p1 l1,p2 l2];exact hC u hb) ?_);rintro e w' ⟨rfl,hb'⟩;refine ⟨_,rfl,?_⟩;rw [g3.2.1];refine ⟨by rw [size_put];exact hs,fr _ _ (by omega),by simp [l1,l2],by simp [l4],by simp [l5],by simpa using c6,fun _=>⟨hb.trans hb',?_,?_,?_,fun _=>sv _ _ (by omega),by simp [l4]⟩,by simp [l5]⟩
   all_goals (simp only [Nat.reduceEqDiff,Nat.reduceBEq,Bool.or_false];intro h;rw [eval_put_other (by omega)])
   ·exact p0 h
   ·exact p1 h
   ·exact p2 h
  ·obtain rfl:o=o4:=by rw [hops] at ho;simpa using ho.symm
   have l3:L 3=true:=hall _ e4 rfl;have l5:L 5=false:=ne5 fun h=>by rw [(c5 h).2] at hLi;cases hLi
   obtain ⟨hb,p0,p1,p2,p3,p4⟩:=hpre l5;refine step_wp ho g4.1 (build_wp _ _ g4.2.2 (by rw [p3 l3];exact Tryz.build1N z u) ?_);rw [g4.2.1];refine ⟨by rw [size_put];exact hs,fr _ _ (by omega),by simpa using c3,by simp [l3],by simp [l5],by simpa using c6,fun _=>⟨hb.alloc _,?_,?_,?_,?_,fun _=>⟨u.heap.size,sv _ _ (by omega),Box.new u z _⟩⟩,by simp [l5]⟩
   all_goals (simp only [Nat.reduceEqDiff,Nat.reduceBEq,Bool.or_false];intro h;rw [eval_put_other (by omega)])
   ·exact p0 h
   ·exact p1 h
   ·exact p2 h
   ·exact p3 h
  ·obtain rfl:o=o5:=by rw [hops] at ho;simpa using ho.symm
   have l0:L 0=true:=hall _ e5.1 rfl;have l4:L 4=true:=hall _ e5.2 rfl;have l6:L 6=false:=by cases hh:L 6<;>simp_all
   obtain ⟨hb,p0,p1,p2,p3,p4⟩:=hpre hLi;obtain ⟨g,hg,bz⟩:=p4 l4;refine step_wp ho g5.1 (stepIn_append (.tmp d) (.tmp (d+4)) 46 g5.2.2 base 52 i0 (.agg #[.int .i64 0,.int .i64 0,.int .i64 0,.bool false]) 4 32 Tryz.underlying46 hi hz0 hz1 hz2 rfl (by decide) v xs.length (xs.flatMap cellsN) (p0 l0) (own_blN hown hb) ⟨g,0,none⟩ 1 1 (cellsN z) hg rfl bz.cells (oneN_cells _) (by unfold maxLen;omega) (by omega) (by have:=hb.size;omega) ?_);intro v' w5 hown' hgrow hat;obtain ⟨g',cap',rfl⟩:=ownsRow_succ hown';rw [g5.2.1];refine ⟨by rw [size_put];exact hs,fr _ _ (by omega),by simpa using c3,by simpa using c4,by simp [l0,l4],by simp [l6],by simp,fun _=>⟨u,w5,g',cap',hb,hgrow,hown',?_,fun _=>⟨rfl,sv _ _ (by omega)⟩,by simp [l6]⟩⟩;rcases hat with h|h
   ·exact .inl h
   ·exact .inr (by simpa [Value.ownBlock] using h)
  ·obtain rfl:o=o6:=by rw [hops] at ho;simpa using ho.symm
   have l5:L 5=true:=hall _ e6 rfl;obtain ⟨u0,w5,g',cap',k1,k2,k3,k4,k5,_⟩:=hpost l5;obtain ⟨rfl,ev⟩:=k5 hLi;have hv5:Boxed u B 46 v:=(boxed_bl hv k1).kept k2 ((boxed_bl hv k1).not_row (by decide) (own_blN hown k1));refine step_wp ho g6.1 (store_wp _ _ _ g6.2.2 (by rw [hfr _ hsL,hB,ev];exact Tryz.store1N B _ _ _ v u hv5.cell hv5.frozen) ?_);rw [g6.2.1];exact ⟨by rw [size_put];exact hs,fun s hs=>hfr s hs,by simpa using c3,by simpa using c4,by simpa using c5,by simp [l5],by simp [l5],fun _=>⟨u0,u,g',cap',k1,k2,k3,k4,by simp,fun _=>rfl⟩⟩
 ·intro L act u ⟨hs,hfr,c3,c4,c5,c6,hpre,hpost⟩ hL;have hL':∀ j,j<7→L j=true:=fun j hj=>hL j (by rw [hops];simpa using hj)
  obtain ⟨u0,w5,g',cap',k1,k2,k3,k4,_,k6⟩:=hpost (hL' 5 (by omega));rw [k6 (hL' 6 (by omega))];exact fin act u0 w5 g' cap' k1 k2 k3 k4
attribute [local go_sem] Oper.semAt_some
def mulMN (M:Nat) (f g:Nat→Nat→En) (i k:Nat):En:=dotN (rowM M f i) (colM M g k)
set_option maxRecDepth 100000 in
set_option maxHeartbeats 4000000 in
theorem mMulN (R M D:Nat) (p:Option Addr) (n cap:Nat) (f:Nat→Nat→En) (q:Option Addr) (n2 cap2:Nat) (g:Nat→Nat→En) (N:Nat) (w:World) (hx:Mx 4 cellsN w R M p n cap f) (hy:Mx 4 cellsN w M D q n2 cap2 g) (hN:N=R*D) :
  Calls Tryz.prog 101 #[mV R M p n cap,mV M D q n2 cap2] w fun e w'=>∃ p' cap',e=.returned (.tuple #[mV R D p' N cap',.bool true])∧(Mx 4 cellsN w' R D p' N cap' (mulMN M f g)∧Rw 4 cellsN w' (.slice p' N cap') (mk R D (mulMN M f g))∧Fresh w.heap.size (.slice p' N cap'))∧Bl w w':=by
 obtain ⟨i0,hi,hz0,hz1,hz2⟩:=info_parts Tryz.info_N;refine (callsIn_wide (n:=8)).1 ?_;have hfx:=hx.fit;have hfy:=hy.fit;have hdR:=hx.1;have hdD:=hy.1;have hRD:(R:Int)*(D:Int)=N:=by rw [hN];simp
 have hN256:N≤256:=by rw [hN];exact Nat.mul_le_mul hdR.r2 hdD.c2
 have hM16:=hdR.c2;have HN:=hideP hN;have HXm:=hideP hx;have HYm:=hideP hy;clear hN hx hy;obtain ⟨W,hW⟩:∃ W,W=((w.alloc (.cells #[.int .i64 R,.int .i64 M,.slice p n cap] 48)).alloc (.cells #[.int .i64 M,.int .i64 D,.slice q n2 cap2] 48)).alloc (.cells #[.int .i64 0,.int .i64 0,.slice none 0 0] 48):=⟨_,rfl⟩;have b0:Bl w W:=by rw [hW];exact (((Bl.refl _).alloc _).alloc _).alloc _
 have mx0:MBox W w.heap.size R M p n cap:=by rw [hW];exact (MBox.new w _ _ _ _ _ _).later (((Bl.refl _).alloc _).alloc _)
 have my0:MBox W (w.heap.size+1) M D q n2 cap2:=by rw [hW];have:=(MBox.new (w.alloc (.cells #[.int .i64 R,.int .i64 M,.slice p n cap] 48)) M D q n2 cap2 48);rw [World.size_alloc] at this;exact this.later ((Bl.refl _).alloc _)
 have mz0:MBox W (w.heap.size+1+1) 0 0 none 0 0:=by rw [hW];have:=MBox.new ((w.alloc (.cells #[.int .i64 R,.int .i64 M,.slice p n cap] 48)).alloc (.cells #[.int .i64 M,.int .i64 D,.slice q n2 cap2] 48)) 0 0 none 0 0 48;rw [World.size_alloc,World.size_alloc] at this;exact this
 have hs0:W.heap.size=w.heap.size+1+1+1:=by rw [hW];simp
 have HW:=hideP hW;clear hW;refine callsIn_of_wp_marks Tryz.func101 rfl trivial ?_ rfl;simp only [Tryz.ntmps101,List.size_toArray,List.length_cons,List.length_nil,Nat.reduceAdd,Nat.reduceSub,Array.replicate_succ,Array.replicate_zero,List.push_toArray,List.append_toArray,List.nil_append,List.cons_append]
 gi_wp2_with fail
 rw [←HW.out];refine ⟨trivial,?_⟩;refine (callsIn_wide.2 (mRightN _ _ _ _ _ _)).mono ?_;rintro e w1 ⟨rfl,h1⟩;rw [hfx];have mx1:=mx0.later h1;have my1:=my0.later h1;obtain ⟨d0,d1,d2,u0,u1,u2,ltm⟩:=my1;obtain ⟨c0,c1,c2,f0,f1,f2,lt⟩:=mx1
 gi_wp2_with fail
 refine ⟨trivial,?_⟩;refine (callsIn_wide.2 (mRightN _ _ _ _ _ _)).mono ?_;rintro e w2 ⟨rfl,h2⟩;rw [hfy];clear c0 c1 c2 f0 f1 f2 d0 d1 d2 u0 u1 u2 lt ltm;obtain ⟨c0,c1,c2,f0,f1,f2,lt⟩:=mx0.later (h1.trans h2);obtain ⟨d0,d1,d2,u0,u1,u2,ltm⟩:=my0.later (h1.trans h2)
 gi_wp2_with fail
 refine ⟨trivial,?_⟩;refine (callsIn_wide.2 (mTurnN _ _ _ _ _ g _ (HYm.out.later ((b0.trans h1).trans h2)))).mono ?_;rintro e w3 ⟨q1,cap3,rfl,⟨hT,_,_⟩,h3⟩;have HT:=hideP hT;clear hT c0 c1 c2 f0 f1 f2 d0 d1 d2 u0 u1 u2 lt ltm
 gi_wp2_with fail
 refine ⟨trivial,?_⟩;refine (callsIn_wide.2 (mAllN _ _ _ _ _ _ _ HT.out)).mono ?_;rintro e w4 ⟨B1,q2,cap4,rfl,hK4,h4⟩;have HK4:=hideP hK4;clear hK4;have h14:Bl W w4:=((h1.trans h2).trans h3).trans h4;obtain ⟨w5,hw5⟩:∃ w5,w5=w4.alloc (.cells #[.func (.func 108) #[] #[.pointer (some ⟨B1,0,none⟩)]] 100):=⟨_,rfl⟩;have b45:Bl w4 w5:=by rw [hw5];exact (Bl.refl _).alloc _
 have hs5:w5.heap.size=w4.heap.size+1:=by rw [hw5];simp
 have BC5:Boxed w5 w4.heap.size 100 (.func (.func 108) #[] #[.pointer (some ⟨B1,0,none⟩)]):=by rw [hw5];exact Boxed.new w4 _ _
 have mx5:=mx0.later (h14.trans b45);have my5:=my0.later (h14.trans b45);have mz5:=mz0.later (h14.trans b45);have bw5:Bl w w5:=(b0.trans h14).trans b45;have HW5:=hideP hw5;clear hw5;obtain ⟨c0,c1,c2,f0,f1,f2,lt⟩:=mx0.later h14;obtain ⟨d0,d1,d2,u0,u1,u2,ltm⟩:=my0.later h14
 gi_wp2_with (gi_at_make;refine wpListIn_make_own _ rfl _ _ 46 rfl (w4.heap.size+1) 52 i0 (.agg #[.int .i64 0,.int .i64 0,.int .i64 0,.bool false]) 4 Tryz.underlying46 hi hz0 hz1 .i64 .i64 _ N rfl rfl (by simp) (by rw [hz2];omega) (by unfold maxLen;omega) (by simp) ?_;intro w6 hown0 hgrow0;rw [←HW5.out] at hown0 hgrow0;have mx6:=mbox_block mx5 (hgrow0.block _ mx5.lt nofun) hgrow0.size;clear c0 c1 c2 f0 f1 f2 d0 d1 d2 u0 u1 u2 lt ltm;obtain ⟨c0,c1,c2,f0,f1,f2,lt⟩:=mx6)
 have h56:Bl w5 w6:=⟨hgrow0.os,hgrow0.tape,hgrow0.output,hgrow0.size,fun k hk=>hgrow0.block k hk nofun⟩;have hs6:w5.heap.size≤w6.heap.size:=hgrow0.size;obtain ⟨w6b,hw6b⟩:∃ w6b,w6b=w6.alloc (.cells #[.slice (some ⟨w4.heap.size+1,0,none⟩) 0 N] 46):=⟨_,rfl⟩;have h6b:Bl w6 w6b:=by rw [hw6b];exact (Bl.refl _).alloc _
 have hs6b:w6b.heap.size=w6.heap.size+1:=by rw [hw6b];simp
 have bl6:Boxed w6b w6.heap.size 46 (.slice (some ⟨w4.heap.size+1,0,none⟩) 0 N):=by rw [hw6b];exact Boxed.new w6 _ _
 have hown6:w6b.ownsRow (w4.heap.size+1) 52 4 (.slice (some ⟨w4.heap.size+1,0,none⟩) 0 N) 0 []:=by
  rw [hs5] at hown0;exact own_blN hown0 h6b
 have HW6:=hideP hw6b;clear hw6b hown0 hgrow0 c0 c1 c2 f0 f1 f2 lt;rw [←HW6.out];refine ⟨trivial,?_⟩;refine (callsIn_wide.2 (mAllN _ _ _ _ _ f _ (HXm.out.later ((bw5.trans h56).trans h6b)))).mono ?_;rintro e w7 ⟨B2,p2,cap5,rfl,hK7,h7⟩;have HK7:=hideP hK7;clear hK7;have hs7:w6.heap.size+1≤w7.heap.size:=by have:=h7.size;omega
 have b57:Below w5.heap.size w5 w7:=(h56.trans h6b).trans h7;have bl7:=boxed_bl bl6 h7;have own7:=own_blN hown6 h7;clear bl6 hown6;have K4at:∀ u,Below w5.heap.size w5 u→KeptIn 4 cellsN u w3.heap.size w4.heap.size B1 D M q2 n2 cap4 (fun i k=>g k i):=fun u hu =>
  (HK4.out.later (Bl.span b45 (Nat.le_refl _))).later (Bl.span (show Bl w5 u from hu) (by omega))
 have HKA:=hideP K4at;clear K4at
 gi_wp2_with fail
 refine rangeV rfl (by omega) (gf:=108) (lb:=#[.pointer (some ⟨B2,0,none⟩)]) rfl trivial (enters_of Tryz.func108 (by kernel_rfl) rfl)
  (seqMN 7 B2 _ w7.heap.size R M p2 n cap5 f w7 (Nat.le_refl _) HK7.out) (fun x A B h=>h.1) (fun h k=>h.trans k) (span_b (Nat.le_refl _)) (fun _=>rfl)
  (fun pre U=>(∃ v,Boxed U w6.heap.size 46 v∧U.ownsRow (w4.heap.size+1) 52 4 v (rowsL D (mulMN M f g) pre).length ((rowsL D (mulMN M f g) pre).flatMap cellsN)∧(∀ b,v.ownBlock=some b→b<w6b.heap.size∨w7.heap.size≤b))∧(Below w5.heap.size w5 U∧w7.heap.size≤U.heap.size))
  (fun _ _ _=>False)
  (OwnFrom.and (Own.from (holdsRow_own (w4.heap.size+1) w6.heap.size 46 52 4 (fun pre=>(rowsL D (mulMN M f g) pre).length) (fun pre=>(rowsL D (mulMN M f g) pre).flatMap cellsN) (fun _ v=>∀ b,v.ownBlock=some b→b<w6b.heap.size∨w7.heap.size≤b)) _) (OwnFrom.and (ownFrom_below (Nat.le_refl _) b57.size) (own_size _ _)))
  (fun _ _ _ _ _ hs _ _=>hs)
  ⟨⟨_,bl7,own7,fun b hb=>by cases hb;exact .inl (by show w4.heap.size+1<_;omega)⟩,b57,Nat.le_refl _⟩
  (fun a x a' U=>∃ Bx v,w7.heap.size≤Bx∧Boxed U Bx 46 (rowV M x)∧Rw 4 cellsN U (rowV M x) (rowM M f x.1)∧Boxed U w6.heap.size 46 v∧(∀ b,(rowV M x).ownBlock=some b→w7.heap.size≤b∧v.ownBlock≠some b)
   ∧ a'={ tmps:=(((a.tmps.setIfInBounds 39 (.int .i64 x.1)).setIfInBounds 40 (rowV M x)).setIfInBounds 9 (.pointer (some ⟨Bx,0,none⟩))),defers:=[] })
  (fun x a' _ X Y row hs hg hr=>by obtain ⟨Bx,v,h0,h1,h2,h3,h4,h5⟩:=hs;exact ⟨Bx,v,h0,(Own.from (boxed_own (β:=Unit) _ _ (fun _=>_)) _) () _ _ _ h1 hg hr,rw_own h2 hg (fun r e=>(hr r e).2),(Own.from (boxed_own (β:=Unit) _ _ (fun _=>_)) _) () _ _ _ h3 hg hr,h4,h5⟩)
  ?assign ?body ?done ?stop
 case assign =>
  rintro l pre x W0 U K' ⟨⟨v0,hv0,hr0,_⟩,_,hs0'⟩ ⟨hbU,hxR,hrow,hfr,hcc⟩ ⟨⟨v,hv,hr,hg⟩,hbU5,hsU⟩ hK';have HK2:=hideP hK';clear hK';have hvv:v0=v:=by
   have e1:=(boxed_bl hv0 hbU).cell;rw [hv.cell] at e1;exact (Option.some.inj e1).symm
  subst hvv;have hfw:∀ b,(rowV M x).ownBlock=some b→w7.heap.size≤b∧v0.ownBlock≠some b:=fun b hb=>⟨by have:=hfr b hb;omega,fun e=>by have:=(hr0.lt b e).2;have:=hfr b hb;omega⟩
  gi_wp2
  have hb2:Bl U (U.alloc (.cells #[.slice x.2.1 M x.2.2] 46)):=(Bl.refl U).alloc _;refine HK2.out _ _ (hb2.keeps _) (hb2.span hsU) ⟨⟨v0,hv.alloc _,hr.alloc _,hg⟩,hbU5.trans (hb2.mono hbU5.size),by have:=hb2.size;omega⟩ ⟨U.heap.size,v0,hsU,Boxed.new U _ _,hrow.later hb2,hv.alloc _,hfw,?_⟩;rfl
 case body =>
  rintro l pre x a' U hl' ⟨r,hr'⟩ ⟨⟨v1,hv1,hrow1,hg1⟩,hbU,hsU⟩ ⟨Bx,v2,hBx,hbx,hrx,hv2,hne,rfl⟩ hlt;have hvv:v1=v2:=by
   have e1:=hv1.cell;rw [hv2.cell] at e1;exact (Option.some.inj e1).symm
  subst hvv;have fm:Tryz.prog.follows .mixedOrders=true:=by kernel_rfl
  simp only [List.setIfInBounds_toArray,List.set_cons_zero,List.set_cons_succ];have hcl:=(boxed_bl (show Boxed w5 _ _ _ from BC5) hbU).cell;have hKU:=HKA.out U hbU;have HR1:=hideP hrow1;have HV1:=hideP hv1;have HBX:=hideP hbx;have HRX:=hideP hrx;have HNE:=hideP hne;have HG1:=hideP hg1;have hlx:pre.length*D+D≤256:=by
   have h1:(pre.length+1)*D≤R*D:=Nat.mul_le_mul_right _ hlt;have:=HN.out;rw [Nat.succ_mul] at h1;omega
  clear hrow1 hv1 hbx hrx hne hg1 hv2
  gi_wp2_with fail
  clear hcl
  refine rangeVin (l₀:=l) (r₀:=r) rfl hr' (by omega) (gf:=108) (lb:=#[.pointer (some ⟨B1,0,none⟩)]) rfl trivial (enters_of Tryz.func108 (by kernel_rfl) rfl)
   ((seqMN 5 B1 w3.heap.size w4.heap.size D M q2 n2 cap4 (fun i k=>g k i) U (by omega) hKU).inRound l) (fun x A B h=>h.1) (fun h k=>h.trans k) (span_b (by omega)) (fun _=>rfl)
   (fun pre2 U2=>(∃ v,Boxed U2 w6.heap.size 46 v∧U2.ownsRow (w4.heap.size+1) 52 4 v (partL D (mulMN M f g) pre x.1 pre2).length ((partL D (mulMN M f g) pre x.1 pre2).flatMap cellsN)∧(∀ b,v.ownBlock=some b→(b<w6b.heap.size∨w7.heap.size≤b)∧(rowV M x).ownBlock≠some b))
    ∧ (Boxed U2 Bx 46 (rowV M x)∧(Rw 4 cellsN U2 (rowV M x) (rowM M f x.1)∧(Below w5.heap.size w5 U2∧(w7.heap.size≤U2.heap.size∧(Span w6b.heap.size w7.heap.size U U2∧(KeepsFrom w7.heap.size U U2∧U.heap.size≤U2.heap.size)))))))
   (fun _ _ _=>False)
   (OwnFrom.and (Own.from (holdsRow_own (w4.heap.size+1) w6.heap.size 46 52 4 (fun pre2=>(partL D (mulMN M f g) pre x.1 pre2).length) (fun pre2=>(partL D (mulMN M f g) pre x.1 pre2).flatMap cellsN) (fun _ v=>∀ b,v.ownBlock=some b→(b<w6b.heap.size∨w7.heap.size≤b)∧(rowV M x).ownBlock≠some b)) _)
    (OwnFrom.and (Own.from (boxed_own _ _ (fun _=>_)) _) (OwnFrom.and (own_rw _ _ _ _ _) (OwnFrom.and (ownFrom_below (Nat.le_refl _) (by have:=b57.size;omega)) (OwnFrom.and (own_size _ _) (OwnFrom.and (own_span hsU (Nat.le_refl _)) (OwnFrom.and (ownFrom_keepsFrom (Nat.le_refl _)) (own_size _ _))))))))
   (fun _ _ _ _ _ hs _ _=>hs)
   ⟨⟨v1,HV1.out,by rw [partL_nil];exact HR1.out,fun b hb=>⟨HG1.out b hb,fun e=>(HNE.out b e).2 hb⟩⟩,HBX.out,HRX.out,hbU,hsU,Span.refl _ _ _,KeepsFrom.refl _ _,Nat.le_refl _⟩
   (fun a y a' U2=>y.1<D∧Rw 4 cellsN U2 (rowV M y) (colM M g y.1)∧a'={ tmps:=(((a.tmps.setIfInBounds 42 (.int .i64 y.1)).setIfInBounds 43 (rowV M y)).setIfInBounds 11 (rowV M y)),defers:=[] })
   (fun y a' _ X Y row hs hg hr=>⟨hs.1,rw_own hs.2.1 hg (fun r e=>(hr r e).2),hs.2.2⟩)
   ?assign2 ?body2 ?done2 ?stop2
  case assign2 =>
   rintro l2 pre2 y W0 U2 K' _ ⟨hbU2,hyD,hrow,_,_⟩ hI2 hK';have HK2:=hideP hK';have HI2:=hideP hI2;clear hK' hI2
   gi_wp2
   exact HK2.out _ _ (KeepsFrom.refl _ _) (Span.refl _ _ _) HI2.out ⟨hyD,hrow,rfl⟩
  case body2 =>
   rintro l2 pre2 y a' U2 hl2 ⟨r2,hr2⟩ ⟨⟨v,hv,hrow,hgv⟩,hbx2,hrx2,hb5,hs7',hsp,hkf,hsU2⟩ ⟨hyD,hry,rfl⟩ hlt2;simp only [List.setIfInBounds_toArray,List.set_cons_zero,List.set_cons_succ]
   gi_wp2_with fail
   have hC:=fun u (hu:Bl U2 u)=>vDotN (rowV M x) (rowV M y) (rowM M f x.1) (colM M g y.1) u (hrx2.later hu).q (hry.later hu).q (by rw [rowM_len];omega) (by rw [colM_len];omega)
   have hlen2:(partL D (mulMN M f g) pre x.1 pre2).length≤100000:=by rw [partL_len];omega
   refine dotAppendN (ops:=_) rfl (by kernel_rfl) 44 7 76 (by simp) (by omega) ⟨rfl,rfl,rfl⟩ ⟨rfl,rfl⟩ ⟨rfl,rfl⟩ ⟨rfl,rfl,rfl⟩ ⟨rfl,rfl,rfl⟩ ⟨rfl,rfl,rfl⟩ ⟨rfl,rfl,rfl⟩ ⟨by simp,by simp⟩ (by simp) ⟨by simp,by simp⟩ (by simp)
    (rowV M x) (rowV M y) (fun act u K' hfr hu hk=>load_wp 46 (.tmp 9) rfl (by rw [hfr 9 (by omega)];exact Tryz.load1N Bx _ u (boxed_bl hbx2 hu).cell) hk)
    (fun act u K' hfr hu hk=>move_wp (.tmp 11) rfl (by rw [hfr 11 (by omega)];exact hk))
    trivial (fun _=>by omega) (enters_of Tryz.func76 (by kernel_rfl) rfl) (mulMN M f g x.1 y.1)
    (fun u hu=>CallsIn.inRound l2 (CallsIn.inRound l (callsIn_wide.2 (hC u hu))))
    w6.heap.size rfl v hv (w4.heap.size+1) (partL D (mulMN M f g) pre x.1 pre2) hrow hlen2 (by omega) ?_
   intro act u0 w8 g' cap' k1 k2 k3 k4;have hvu:=boxed_bl hv k1;have hru:=own_blN hrow k1;have hsu:=k1.size;have hu5:w4.heap.size+1≤u0.heap.size:=by omega
   obtain ⟨hv5,hv6,hr6,hk6,hb6⟩:=boxed_appended hvu (by decide) hru hu5 (by omega) k3 k2;have hg8:=k2.size;have hbb:∀ b,(rowV M x).ownBlock=some b→b<U2.heap.size:=hrx2.lt;have hsB:Below w5.heap.size U2 (w8.setCell ⟨w6.heap.size,0,none⟩ (.slice (some ⟨g',0,none⟩) ((partL D (mulMN M f g) pre x.1 pre2).length+1) cap')):=(k1.mono (by omega)).trans (by rw [hs5];exact hb6);refine ⟨(k1.keeps _).trans (hk6.from _),⟨by have:=hsB.size;omega,fun k _ h2=>hsB.block k (by omega)⟩,⟨_,hv6,?_,?_⟩,?_,?_,?_,?_,?_,?_,?_⟩
   ·rw [partL_snoc];simpa [List.flatMap_append] using hr6
   ·intro b hb;have hb':g'=b:=by cases hb;rfl
    subst hb';rcases k4 with h|h
    ·exact hgv _ h.symm
    ·exact ⟨.inr (by omega),fun e=>by have:=hbb _ e;omega⟩
   ·exact ((boxed_bl hbx2 k1).kept k2 ((boxed_bl hbx2 k1).not_row (by decide) hru)).other (by omega) _
   ·exact (hrx2.later k1).beside k2 (fun b hb=>⟨fun e=>(hgv b e).2 hb,by have:=(HNE.out b hb).1;omega⟩)
   ·exact hb5.trans hsB
   ·simp;omega
   ·exact hsp.trans (span_appended k1 (by omega) (fun b hb=>(hgv b hb).1) k2 (by omega))
   ·exact hkf.trans ((k1.keeps _).trans (hk6.from _))
   ·simp;omega
  case done2 =>
   rintro zs U2 hS ⟨⟨v,hv,hrow,hgv⟩,_,_,hb5,hs7',hsp,hkf,_⟩
   gi_wp2
   refine ⟨hkf,hsp,⟨⟨v,hv,?_,fun b hb=>(hgv b hb).1⟩,hb5,hs7'⟩⟩;rw [←partL_all D (mulMN M f g) pre x zs hS];exact hrow
  case stop2 =>
   rintro c pre2 U2 _ h;exact h.elim
 case done =>
  rintro Dm zs U hD hS ⟨⟨v,hv,hrow,_⟩,hb5,hs7'⟩ hKD;have e:=rowsL_all D (mulMN M f g) zs hS;rw [e] at hrow;have RW:=Rw.of_own cellsN_len hrow;have FR:Fresh (w4.heap.size+1) v:=fun b hb=>(hrow.lt b hb).1
  obtain ⟨p',cap',hv',_,_⟩:=RW.cut;rw [mk_len,←HN.out] at hv';subst hv';have hcl:=hv.cell;have HRW:=hideP RW;have HFR:=hideP FR;have HKD:=hideP hKD;obtain ⟨c0,c1,c2,f0,f1,f2,lt⟩:=mx5.later (show Bl w5 U from hb5);obtain ⟨d0,d1,d2,u0,u1,u2,ltm⟩:=my5.later (show Bl w5 U from hb5);obtain ⟨x0,x1,x2,y0,y1,y2,ltz⟩:=mz5.later (show Bl w5 U from hb5);have hbw:Bl w U:=bw5.trans hb5;clear hrow RW FR hKD hv
  gi_wp2
  have hs4:=h14.size;have hdm:Dm≠w.heap.size+1+1:=by omega
  have hKD2:((((U.setCell ⟨w.heap.size+1+1,0,none⟩ (.int .i64 R)).setCell ⟨w.heap.size+1+1,1,none⟩ (.int .i64 D)).setCell ⟨w.heap.size+1+1,2,none⟩ (.slice p' N cap'))).heap[Dm]?=some (.deferred (some [])):=
   (((KeepsOthers.setCell _ _ _).trans (KeepsOthers.setCell _ _ _)).trans (KeepsOthers.setCell _ _ _)).same Dm _ HKD.out rfl
  refine ⟨by simp,.inl ⟨_,_,rfl,run_takeDeferred hKD2,?_⟩⟩;have mzf:=MBox.fill (⟨x0,x1,x2,y0,y1,y2,ltz⟩:MBox U (w.heap.size+1+1) 0 0 none 0 0) R D p' N cap';have mzg:=mbox_block (w':=World.putObj _ Dm (.deferred none)) mzf (World.putObj_heap_other (by omega)) (by simp [World.putObj]);have blf:=Bl.put3 hbw (n:=w.heap.size+1+1) (by omega) (.int .i64 R) (.int .i64 D) (.slice p' N cap');have rwf:=((HRW.out.set (p:=⟨w.heap.size+1+1,0,none⟩) (.int .i64 R) (fun b hb=>by have:=HFR.out b hb;show w.heap.size+1+1+1≤b;omega)).set (p:=⟨w.heap.size+1+1,1,none⟩) (.int .i64 D) (fun b hb=>by have:=HFR.out b hb;show w.heap.size+1+1+1≤b;omega)).set (p:=⟨w.heap.size+1+1,2,none⟩) (.slice p' N cap') (fun b hb=>by have:=HFR.out b hb;show w.heap.size+1+1+1≤b;omega);generalize ((U.setCell ⟨w.heap.size+1+1,0,none⟩ (.int .i64 R)).setCell ⟨w.heap.size+1+1,1,none⟩ (.int .i64 D)).setCell ⟨w.heap.size+1+1,2,none⟩ (.slice p' N cap')=Z at *;have rwg:Rw 4 cellsN (Z.putObj Dm (.deferred none)) (.slice p' N cap') (mk R D (mulMN M f g)):=rw_own rwf (grownBy_putObj' _ Dm (.deferred none)) (fun r e=>by cases e;exact ⟨_,hKD2,rfl⟩);have blg:Bl w (Z.putObj Dm (.deferred none)):=Below.trans blf (belowK_b (w:=w) (Nat.le_refl _) Z Dm _ _ (by have:=hbw.size;have:=b57.size;omega) hKD2 rfl rfl);generalize Z.putObj Dm (.deferred none)=Y at *;obtain ⟨a0,a1,a2,_,_,_,_⟩:=mzg;refine ⟨.tuple #[mV R D p' N cap',.bool true],?_,p',cap',rfl,⟨⟨⟨hdR.r1,hdR.r2,hdD.c1,hdD.c2⟩,HN.out,rwg.q⟩,rwg,fun b hb=>by have:=HFR.out b hb;omega⟩,blg⟩;simp [results,Tryz.results101,go_sem,a0,a1,a2]
 case stop =>
  rintro D' c pre U _ _ h _;exact h.elim
set_option maxRecDepth 100000 in
set_option maxHeartbeats 1000000 in
theorem mMirror1N (R:Nat) (p:Option Addr) (n cap:Nat) (f:Nat→Nat→En) (w:World) (h:Mx 4 cellsN w R R p n cap f) (mb:Nat) (hm:MBox w mb R R p n cap) (i k:Nat) (hi:i<R) (hk:k<R) :
  Calls Tryz.prog 140 #[.int .i64 i,.int .i64 k,.pointer (some ⟨mb,0,none⟩)] w fun e w'=>e=.returned (enV (mirM f i k))∧Bl w w':=by
 obtain ⟨W,hW⟩:∃ W,W=w.alloc (.cells #[.int .i64 0,.int .i64 0,.int .i64 0,.bool false] 52):=⟨_,rfl⟩;have b0:Bl w W:=by rw [hW];exact (Bl.refl _).alloc _
 have x0:Box W w.heap.size zeroE:=by rw [hW];exact Box.new w zeroE 52
 obtain ⟨c0,c1,c2,f0,f1,f2,lt⟩:=hm;have HW:=hideP hW;clear hW;rcases Nat.lt_trichotomy i k with hik|hik|hik
 ·have q1:(i:Int)<(k:Int):=by omega
  have q2:¬ (k:Int)<(i:Int):=by omega
  have A:=hideP (fun u (hu:Bl w u)=>mAtN R R p n cap f u (h.later hu) k i (by omega) (by omega));have e0:mirM f i k=f k i:=by unfold mirM;rw [show max i k=k by omega,show min i k=i by omega]
  rw [e0];clear h e0;generalize f k i=x at *
  go_enter Tryz.func140,Tryz.ntmps140;go_wp2_with fail
  rw [←HW.out]
  try rw [show max (i:Int) (k:Int)=(k:Int) by omega]
  try rw [show min (i:Int) (k:Int)=(i:Int) by omega]
  refine (A.out _ b0).mono ?_;rintro e w1 ⟨rfl,h1⟩;clear c0 c1 c2 f0 f1 f2 A;obtain ⟨d0,d1,d2,d3,g0,g1,g2,g3,lt2⟩:=x0.later h1;go_wp2;simp [bodyPost,results,Tryz.results140,go_sem,d0,d1,d2,d3];exact Bl.set4 (b0.trans h1) (Nat.le_refl _) _ _ _ _
 ·subst hik;have A:=hideP (fun u (hu:Bl w u)=>mAtN R R p n cap f u (h.later hu) i i (by omega) (by omega));have e0:mirM f i i=f i i:=by unfold mirM;rw [Nat.max_self,Nat.min_self]
  rw [e0];clear h e0;generalize f i i=x at *
  go_enter Tryz.func140,Tryz.ntmps140;go_wp2_with fail
  rw [←HW.out]
  try rw [show max (i:Int) (i:Int)=(i:Int) by omega]
  try rw [show min (i:Int) (i:Int)=(i:Int) by omega]
  refine (A.out _ b0).mono ?_;rintro e w1 ⟨rfl,h1⟩;clear c0 c1 c2 f0 f1 f2 A;obtain ⟨d0,d1,d2,d3,g0,g1,g2,g3,lt2⟩:=x0.later h1;go_wp2;simp [bodyPost,results,Tryz.results140,go_sem,d0,d1,d2,d3];exact Bl.set4 (b0.trans h1) (Nat.le_refl _) _ _ _ _
 ·have q1:(k:Int)<(i:Int):=by omega
  have q2:¬ (i:Int)<(k:Int):=by omega
  have A:=hideP (fun u (hu:Bl w u)=>mAtN R R p n cap f u (h.later hu) i k (by omega) (by omega));have e0:mirM f i k=f i k:=by unfold mirM;rw [show max i k=i by omega,show min i k=k by omega]
  rw [e0];clear h e0;generalize f i k=x at *
  go_enter Tryz.func140,Tryz.ntmps140;go_wp2_with fail
  rw [←HW.out]
  try rw [show max (i:Int) (k:Int)=(i:Int) by omega]
  try rw [show min (i:Int) (k:Int)=(k:Int) by omega]
  refine (A.out _ b0).mono ?_;rintro e w1 ⟨rfl,h1⟩;clear c0 c1 c2 f0 f1 f2 A;obtain ⟨d0,d1,d2,d3,g0,g1,g2,g3,lt2⟩:=x0.later h1;go_wp2;simp [bodyPost,results,Tryz.results140,go_sem,d0,d1,d2,d3];exact Bl.set4 (b0.trans h1) (Nat.le_refl _) _ _ _ _
set_option maxRecDepth 100000 in
set_option maxHeartbeats 4000000 in
theorem mMirrorN (R:Nat) (p:Option Addr) (n cap:Nat) (f:Nat→Nat→En) (w:World) (h:Mx 4 cellsN w R R p n cap f) :
  Calls Tryz.prog 105 #[mV R R p n cap] w fun e w'=>∃ p' cap',e=.returned (.tuple #[mV R R p' n cap',.bool true])∧(Mx 4 cellsN w' R R p' n cap' (mirM f)∧Rw 4 cellsN w' (.slice p' n cap') (mk R R (mirM f))∧Fresh w.heap.size (.slice p' n cap'))∧Bl w w':=by
 have hfit:=h.fit;obtain ⟨W,hW⟩:∃ W,W=(w.alloc (.cells #[.int .i64 R,.int .i64 R,.slice p n cap] 48)).alloc (.cells #[.int .i64 0,.int .i64 0,.slice none 0 0] 48):=⟨_,rfl⟩;have b0:Bl w W:=by rw [hW];exact ((Bl.refl _).alloc _).alloc _
 have m0:MBox W w.heap.size R R p n cap:=by rw [hW];exact (MBox.new w _ _ _ _ _ _).later ((Bl.refl _).alloc _)
 have x0:MBox W (w.heap.size+1) 0 0 none 0 0:=by rw [hW];have:=MBox.new (w.alloc (.cells #[.int .i64 R,.int .i64 R,.slice p n cap] 48)) 0 0 none 0 0 48;rw [World.size_alloc] at this;exact this
 have hs:W.heap.size=w.heap.size+1+1:=by rw [hW];simp
 have FI:=hideP (fun u (hu:Bl W u)=>mFilledN 140 w.heap.size (enters_of Tryz.func140 (by kernel_rfl) rfl) (mirM f) R R n h.1 h.2.1 u
  (fun i k v hi hk hv=>mMirror1N R p n cap f v (h.later (b0.trans (hu.trans hv))) _ (m0.later (hu.trans hv)) i k hi hk))
 have HD:=hideP h;have HW:=hideP hW;clear hW h
 go_enter Tryz.func105,Tryz.ntmps105;go_wp2_with fail
 rw [←HW.out];refine (mRightN _ _ _ _ _ _).mono ?_;rintro e w1 ⟨rfl,h1⟩;rw [hfit];obtain ⟨c0,c1,c2,f0,f1,f2,lt⟩:=m0.later h1;go_wp2_with fail
 refine (FI.out _ h1).mono ?_;rintro e w2 ⟨p',cap',rfl,⟨hR,hF⟩,h2⟩;have HR:=hideP hR;have HF:=hideP (show Fresh (w.heap.size+1+1) (.slice p' n cap') from fun g hg=>by have:=hF g hg;have:=h1.size;omega);clear hR hF FI c0 c1 c2 f0 f1 f2;obtain ⟨c0,c1,c2,f0,f1,f2,lt2⟩:=x0.later (h1.trans h2);go_wp2;simp [bodyPost,results,Tryz.results105,go_sem,c0,c1,c2];have q:=((HR.out.set (p:=⟨w.heap.size+1,0,none⟩) (.int .i64 R) HF.out).set (p:=⟨w.heap.size+1,1,none⟩) (.int .i64 R) HF.out).set (p:=⟨w.heap.size+1,2,none⟩) (.slice p' n cap') HF.out;refine ⟨p',cap',⟨rfl,rfl⟩,⟨⟨HD.out.1,HD.out.2.1,q.q⟩,q,fun g hg=>by have:=HF.out g hg;omega⟩,Bl.put3 ((b0.trans h1).trans h2) (Nat.le_succ _) _ _ _⟩
theorem boolN (x:En):∃ (j:Nat) (y:Bool),(cellsN x)[j]?=some (Value.bool y):=⟨4-1,x.bad,rfl⟩
set_option maxRecDepth 100000 in
set_option maxHeartbeats 2000000 in
theorem tSqN (n:Nat) (p:Option Addr) (N cap:Nat) (f:Nat→Nat→En) (w:World) (h:Mx 4 cellsN w n n p N cap f) :
  Calls Tryz.prog 58 #[mV n n p N cap] w fun e w'=>∃ p' cap',e=.returned (.tuple #[mV n n p' N cap',.bool true])∧(Mx 4 cellsN w' n n p' N cap' (mirM (mulMN n f (fun i k=>f k i)))∧Fresh w.heap.size (.slice p' N cap'))∧Bl w w':=by
 have fm:Tryz.prog.follows .mixedOrders=true:=by kernel_rfl
 have egT:=enters_of Tryz.func104 (by kernel_rfl) rfl;have egM:=enters_of Tryz.func101 (by kernel_rfl) rfl;have hsq:sqB n n N=true:=by unfold sqB;rw [h.fit];simp
 obtain ⟨Wa,hW⟩:∃ Wa,Wa=(w.alloc (.cells #[.int .i64 n,.int .i64 n,.slice p N cap] 48)).alloc (.cells #[.int .i64 0,.int .i64 0,.slice none 0 0] 48):=⟨_,rfl⟩;have b0:Bl w Wa:=by rw [hW];exact ((Bl.refl _).alloc _).alloc _
 have m0:MBox Wa w.heap.size n n p N cap:=by rw [hW];exact (MBox.new w _ _ _ _ _ _).later ((Bl.refl _).alloc _)
 have x0:MBox Wa (w.heap.size+1) 0 0 none 0 0:=by rw [hW];have:=MBox.new (w.alloc (.cells #[.int .i64 n,.int .i64 n,.slice p N cap] 48)) 0 0 none 0 0 48;rw [World.size_alloc] at this;exact this
 have hs:Wa.heap.size=w.heap.size+1+1:=by rw [hW];simp
 have HW:=hideP hW;clear hW
 go_enter Tryz.func58,Tryz.ntmps58;go_wp2_with fail
 rw [←HW.out];refine (tSquareN _ _ _ _ _ _).mono ?_;rintro e W ⟨rfl,h1⟩;rw [hsq];clear HW;replace b0:=b0.trans h1;replace m0:=m0.later h1;replace x0:=x0.later h1;replace hs:w.heap.size+1+1≤W.heap.size:=by have:=h1.size;omega
 clear h1;go_wp2_with fail
 refine (wpIn_wide (n:=8)).1 (region_q fm [some 11,some 12,some 13,some 14,some 10,some 15,some 16,some 4,none,some 5] (fun j=>j==6||j==9) 8 (by kernel_rfl) (by rfl)
  (fun j v u=>match j with|0=>v=mV n n p N cap|1=>v=mV n n p N cap|2=>∃ q c,v=mV n n q N c∧Mx 4 cellsN u n n q N c (fun i k=>f k i)|3=>∃ q c,v=.tuple #[mV n n q N c,.bool true]∧Mx 4 cellsN u n n q N c (mulMN n f (fun i k=>f k i))|4=>∃ q c,v=.tuple #[mV n n q N c,.bool true]∧Mx 4 cellsN u n n q N c (mulMN n f (fun i k=>f k i))|5=>∃ q c,v=mV n n q N c∧Mx 4 cellsN u n n q N c (mulMN n f (fun i k=>f k i))|6=>v=.bool true|7=>∃ b,v=.pointer (some ⟨b,0,none⟩)∧W.heap.size≤b∧MBox u b 0 0 none 0 0∧NoB u b|9=>v=.bool true|_=>False)
  (by
      intro j v u u' hb h;split at h<;>first|exact h|(obtain ⟨q,c,e,h1⟩:=h;exact ⟨q,c,e,h1.later hb⟩)|(obtain ⟨b,e,h1,h2,h3⟩:=h;exact ⟨b,e,h1,h2.later hb,h3.later hb h2.lt⟩)) (fun vs u0 u=>∃ b q c,vs 7=.pointer (some ⟨b,0,none⟩)∧MBox u b n n q N c∧Mx 4 cellsN u n n q N c (mulMN n f (fun i k=>f k i))∧MBox u (w.heap.size+1) 0 0 none 0 0∧Bl w u) ?step ?still ?store ?fin)
 case step =>
  intro j o t act u ho hdt hpu hsz hu hfr hin;have hj:j<10:=l9 ho;obtain ⟨c0,c1,c2,_,_,_,_⟩:=m0.later hu;rcases (by omega:j=0∨j=1∨j=2∨j=3∨j=4∨j=5∨j=6∨j=7∨j=8∨j=9) with rfl|rfl|rfl|rfl|rfl|rfl|rfl|rfl|rfl|rfl
  ·obtain ⟨rfl,rfl⟩:=o7 ho hdt;have i1:_=Value.pointer (some ⟨w.heap.size,0,none⟩):=hfr 1 (by decide);exact pl9 (r:=by simp only [seval,i1];simp [go_sem,c0,c1,c2])
  ·obtain ⟨rfl,rfl⟩:=o7 ho hdt;have i1:_=Value.pointer (some ⟨w.heap.size,0,none⟩):=hfr 1 (by decide);exact pl9 (r:=by simp only [seval,i1];simp [go_sem,c0,c1,c2])
  ·obtain ⟨rfl,rfl⟩:=o7 ho hdt;have i12:_=mV n n p N cap:=hin ⟨1,.data⟩ (by simp) rfl 12 rfl;refine ew9 104 #[mV n n p N cap] (by simp only [seval,i12];simp [invoke,egT,Result.andThen,go_sem]) (mTurnN n n p N cap f u (h.later (b0.trans hu))) ?_;rintro e w' ⟨q,c,rfl,⟨hM,_,_⟩,hb⟩;exact ⟨_,rfl,_,rfl,⟨q,c,rfl,hM⟩,hb⟩
  ·obtain ⟨rfl,rfl⟩:=o7 ho hdt;have i11:_=mV n n p N cap:=hin ⟨0,.data⟩ (by simp) rfl 11 rfl;have i13:∃ q c,(act.eval (.tmp (13:Nat)))=mV n n q N c∧Mx 4 cellsN u n n q N c (fun i k=>f k i):=hin ⟨2,.data⟩ (by simp) rfl 13 rfl;obtain ⟨q0,c0',e1,hq⟩:=i13;refine ew9 101 #[mV n n p N cap,mV n n q0 N c0'] (by simp only [seval,i11,e1];simp [invoke,egM,Result.andThen,go_sem]) (mMulN n n n p N cap f q0 N c0' (fun i k=>f k i) N u (h.later (b0.trans hu)) hq h.2.1) ?_;rintro e w' ⟨q,c,rfl,⟨hM,_,_⟩,hb⟩;exact ⟨_,rfl,_,rfl,⟨q,c,rfl,hM⟩,hb⟩
  ·obtain ⟨rfl,rfl⟩:=o7 ho hdt;have i14:∃ q c,(act.eval (.tmp (14:Nat)))=.tuple #[mV n n q N c,.bool true]∧Mx 4 cellsN u n n q N c (mulMN n f (fun i k=>f k i)):=hin ⟨3,.data⟩ (by simp) rfl 14 rfl;obtain ⟨q0,c0',e1,hq⟩:=i14;exact pw9 (by simp only [execOp,e1];simp [go_sem]) ⟨_,rfl,⟨q0,c0',rfl,hq⟩,Bl.refl _⟩
  ·obtain ⟨rfl,rfl⟩:=o7 ho hdt;have i10:∃ q c,(act.eval (.tmp (10:Nat)))=.tuple #[mV n n q N c,.bool true]∧Mx 4 cellsN u n n q N c (mulMN n f (fun i k=>f k i)):=hin ⟨4,.data⟩ (by simp) rfl 10 rfl;obtain ⟨q0,c0',e1,hq⟩:=i10;exact pw9 (by simp only [execOp,e1];simp [go_sem]) ⟨_,rfl,⟨q0,c0',rfl,hq⟩,Bl.refl _⟩
  ·cases hpu
  ·obtain ⟨rfl,rfl⟩:=o7 ho hdt;exact pw9 (w':=u.alloc (.cells #[.int .i64 0,.int .i64 0,.slice none 0 0] 48)) (v:=.pointer (some ⟨u.heap.size,0,none⟩)) (by simp only [execOp];simp [go_sem]) ⟨_,rfl,⟨u.heap.size,rfl,hu.size,MBox.new u 0 0 none 0 0 _,noB_new u _⟩,(Bl.refl _).alloc _⟩
  ·obtain rfl:=o9 ho;cases hdt
  ·cases hpu
 case still =>
  intro j o t act u0 u ho hdt hpu hsz hu hfr hin;have hj:j<10:=l9 ho;obtain ⟨c0,c1,c2,_,_,_,_⟩:=m0.later hu;rcases (by omega:j=0∨j=1∨j=2∨j=3∨j=4∨j=5∨j=6∨j=7∨j=8∨j=9) with rfl|rfl|rfl|rfl|rfl|rfl|rfl|rfl|rfl|rfl
  ·cases hpu
  ·cases hpu
  ·cases hpu
  ·cases hpu
  ·cases hpu
  ·cases hpu
  ·obtain ⟨rfl,rfl⟩:=o7 ho hdt;have i10:∃ q c,(act.eval (.tmp (10:Nat)))=.tuple #[mV n n q N c,.bool true]∧Mx 4 cellsN u0 n n q N c (mulMN n f (fun i k=>f k i)):=hin ⟨4,.data⟩ (by simp) rfl 10 rfl;obtain ⟨q0,c0',e1,hq⟩:=i10;exact pw9 (by simp only [execOp,e1];simp [go_sem]) ⟨_,rfl,rfl,rfl⟩
  ·cases hpu
  ·cases hpu
  ·obtain ⟨rfl,rfl⟩:=o7 ho hdt;have i16:_=Value.bool true:=hin ⟨6,.data⟩ (by simp) rfl 16 rfl;exact pw9 (by simp only [seval,i16];simp [go_sem]) ⟨_,rfl,rfl,rfl⟩
 case store =>
  intro o act u vs ho hsz hu hfr hin;obtain rfl:=o9 ho;obtain ⟨i4,k4⟩:act.eval (.tmp (4:Nat))=vs 7∧(∃ b,(vs 7)=.pointer (some ⟨b,0,none⟩)∧W.heap.size≤b∧MBox u b 0 0 none 0 0∧NoB u b):=hin 7 4 rfl rfl;obtain ⟨i15,k15⟩:act.eval (.tmp (15:Nat))=vs 5∧(∃ q c,(vs 5)=mV n n q N c∧Mx 4 cellsN u n n q N c (mulMN n f (fun i k=>f k i))):=hin 5 15 rfl rfl;obtain ⟨b,e1,hb,bx,nb⟩:=k4;obtain ⟨q0,c0',e2,hq⟩:=k15;rw [e1] at i4;rw [e2] at i15;obtain ⟨c0,c1,c2,f0,f1,f2,ltb⟩:=id bx;exact sw9 (by simp only [execOp,i4,i15];simp [go_sem,c0,c1,c2,f0,f1,f2]) ⟨rfl,b,q0,c0',e1,bx.fill _ _ _ _ _,mx_ne7 hq (noB_mx boolN hq nb) _ _ _,mbox_set7 (mbox_set7 (mbox_set7 (x0.later hu) (by omega) _ _) (by omega) _ _) (by omega) _ _,Bl.put3 (b0.trans hu) (by have:=b0.size;omega) _ _ _⟩
 case fin =>
  intro vs vb u0 u hu hin hps;have a0:=hin 0 11 rfl;have a1:=hin 1 12 rfl;have a2:=hin 2 13 rfl;have a3:=hin 3 14 rfl;have a4:=hin 4 10 rfl;have a5:=hin 5 15 rfl;have a6:=hin 6 16 rfl;have a7:=hin 7 4 rfl;have a9:=hin 9 5 rfl;simp only [seval] at a0 a1 a2 a3 a4 a5 a6 a7 a9 ⊢;rw [if_pos (by decide)] at hps;simp only [a0,a1,a6,a9];obtain ⟨b,q,c,e7,bx,hM,xz,hbw⟩:=hps;simp only [e7];clear a2 a3 a4 a5 a7;have MI:=hideP (fun u' (hu':Bl u u')=>mMirrorN n q N c _ u' (hM.later hu'));obtain ⟨c0,c1,c2,f0,f1,f2,ltb⟩:=bx;go_wp2_with fail
  refine (MI.out _ (Bl.refl _)).mono ?_;rintro e w3 ⟨p',cap',rfl,⟨hR,_,hF⟩,h3⟩;have HR:=hideP hR;have HF:=hideP (show Fresh (w.heap.size+1+1) (.slice p' N cap') from fun g hg=>by have:=hF g hg;have:=xz.lt;omega);clear hR hF MI c0 c1 c2 f0 f1 f2;obtain ⟨c0,c1,c2,f0,f1,f2,lt2⟩:=xz.later h3;go_wp2;simp [bodyPost,results,Tryz.results58,go_sem,c0,c1,c2];exact ⟨p',cap',⟨rfl,rfl⟩,⟨mx_put7 HR.out HF.out _ _ _,fun g hg=>by have:=HF.out g hg;omega⟩,Bl.put3 (hbw.trans h3) (Nat.le_succ _) _ _ _⟩
def kdN:Kd En:={ z:=wholeN 0,add:=addE,sub:=subE,mul:=mulE,div:=divE,root:=rootE,neg:=negE,dot:=dotN }
theorem rw_put4N {w:World} {v:Value} {xs:List En} {b:Nat} (h:Rw 4 cellsN w v xs) (hf:Fresh (b+1) v) (v0 v1 v2 v3:Value):Rw 4 cellsN ((((w.setCell ⟨b,0,none⟩ v0).setCell ⟨b,1,none⟩ v1).setCell ⟨b,2,none⟩ v2).setCell ⟨b,3,none⟩ v3) v xs:=by
 rcases h with h|⟨g,o,cap,rfl,hc,hb,hx⟩
 ·exact .inl h
 ·have hne:b+1≤g:=hf g rfl;have hk:((((w.setCell ⟨b,0,none⟩ v0).setCell ⟨b,1,none⟩ v1).setCell ⟨b,2,none⟩ v2).setCell ⟨b,3,none⟩ v3).heap[g]?=w.heap[g]?:=by
   rw [Below.heap_setCell _ _ _ g (by show g≠b;omega),Below.heap_setCell _ _ _ g (by show g≠b;omega),Below.heap_setCell _ _ _ g (by show g≠b;omega),Below.heap_setCell _ _ _ g (by show g≠b;omega)]
  exact .inr ⟨g,o,cap,rfl,hc,by simpa using hb,fun j x hj k v hv=>(World.cell?_of_block (a:=⟨g,o+j*4+k,none⟩) hk).trans (hx j x hj k v hv)⟩
theorem clone_linN (px:Option Addr) (n cx:Nat) (x:Nat→En) (w:World) (h:Rq 4 cellsN w (.slice px n cx) (linJ n x)) (hl:n≤1000000) :
  Calls Tryz.prog 72 #[.slice px n cx] w fun e w'=>∃ q c,e=.returned (.slice q n c)∧(Rw 4 cellsN w' (.slice q n c) (linJ n x)∧Fresh w.heap.size (.slice q n c))∧Bl w w':=
 (vCloneN _ _ w h (by rw [linJ_len];exact hl)).mono fun e w' ⟨u,he,hr,hf,hb⟩=>by
  obtain ⟨q,c,rfl,_,_⟩:=hr.cut;rw [linJ_len] at hr hf he;exact ⟨q,c,he,⟨hr,hf⟩,hb⟩
set_option maxHeartbeats 1000000 in
theorem rFitsN (px:Option Addr) (nx cx:Nat) (r c:Int) (p:Option Addr) (n cap:Nat) (w:World) :
  Calls Tryz.prog 59 #[.slice px nx cx,mV r c p n cap] w fun e w'=>e=.returned (.bool (fitJ r c n nx))∧Bl w w':=by
 obtain ⟨W,hW⟩:∃ W,W=w.alloc (.cells #[.int .i64 r,.int .i64 c,.slice p n cap] 48):=⟨_,rfl⟩;have b0:Bl w W:=by rw [hW];exact (Bl.refl _).alloc _
 have m0:MBox W w.heap.size r c p n cap:=by rw [hW];exact MBox.new w _ _ _ _ _ _
 have HW:=hideP hW;obtain ⟨c0,c1,c2,f0,f1,f2,lt⟩:=id m0;rw [hW] at c0 c1 c2;have SB:=fun u:World=>(by kernel_rfl:(Instr.build 134 #[(0,.slice px nx cx),(1,mV r c p n cap)]).run Tryz.prog u=.ok (sJ px nx cx r c p n cap) u)
 clear hW
 go_enter Tryz.func59,Tryz.ntmps59;go_wp2_with fail
 rw [←HW.out];refine (jRightN px nx cx r c p n cap W).mono ?_;rintro e w1 ⟨rfl,h1⟩;go_wp2;go_ret;exact ⟨rfl,b0.trans h1⟩
set_option maxHeartbeats 1000000 in
theorem rRightN (px:Option Addr) (nx cx:Nat) (r c:Int) (p:Option Addr) (n cap:Nat) (w:World) :
  Calls Tryz.prog 21 #[sJ px nx cx r c p n cap] w fun e w'=>e=.returned (.bool (fitJ r c n nx))∧Bl w w':=by
 obtain ⟨W,hW⟩:∃ W,W=w.alloc (.cells #[.slice px nx cx,.int .i64 r,.int .i64 c,.slice p n cap] 50):=⟨_,rfl⟩;have b0:Bl w W:=by rw [hW];exact (Bl.refl _).alloc _
 have s0:SBox W w.heap.size px nx cx r c p n cap:=by rw [hW];exact SBox.new w _ _ _ _ _ _ _ _ _
 have HW:=hideP hW;obtain ⟨c0,c1,c2,c3,_,_,_,_,_⟩:=id s0;rw [hW] at c0 c1 c2 c3;clear hW
 go_enter Tryz.func21,Tryz.ntmps21;go_wp2_with fail
 rw [←HW.out];refine (rFitsN px nx cx r c p n cap W).mono ?_;rintro e w1 ⟨rfl,h1⟩;go_wp2;go_ret;exact ⟨rfl,b0.trans h1⟩
set_option maxRecDepth 100000 in
set_option maxHeartbeats 2000000 in
theorem rCoverN (n:Nat) (px:Option Addr) (cx:Nat) (p:Option Addr) (N cap:Nat) (f:Nat→Nat→En) (w:World) (h:Mx 4 cellsN w n n p N cap f) (h4:n≤4) :
  Calls Tryz.prog 20 #[sJ px n cx n n p N cap] w fun e w'=>∃ p' c',e=.returned (mV n n p' N c')∧Mx 4 cellsN w' n n p' N c' (squareJ kdN n f)∧Bl w w':=by
 have hfit:=fitJ_dim h.1 h.2.1 h4;obtain ⟨W,hW⟩:∃ W,W=(w.alloc (.cells #[.slice px n cx,.int .i64 n,.int .i64 n,.slice p N cap] 50)).alloc (.cells #[.int .i64 0,.int .i64 0,.slice none 0 0] 48):=⟨_,rfl⟩;have b0:Bl w W:=by rw [hW];exact ((Bl.refl _).alloc _).alloc _
 have s0:SBox W w.heap.size px n cx n n p N cap:=by rw [hW];exact (SBox.new w _ _ _ _ _ _ _ _ _).later ((Bl.refl _).alloc _)
 have z0:MBox W (w.heap.size+1) 0 0 none 0 0:=by rw [hW];have:=MBox.new (w.alloc (.cells #[.slice px n cx,.int .i64 n,.int .i64 n,.slice p N cap] 50)) 0 0 none 0 0 48;rw [World.size_alloc] at this;exact this
 have hs:W.heap.size=w.heap.size+1+1:=by rw [hW];simp
 have HM:=hideP h;have HW:=hideP hW;obtain ⟨c0,c1,c2,c3,_,_,_,_,_⟩:=id s0;rw [hW] at c0 c1 c2 c3;clear hW h
 go_enter Tryz.func20,Tryz.ntmps20;go_wp2_with fail
 try simp only [World.size_alloc]
 rw [←HW.out];refine (rRightN px n cx n n p N cap W).mono ?_;rintro e w1 ⟨rfl,h1⟩;rw [hfit];clear c0 c1 c2 c3;obtain ⟨c0,c1,c2,c3,_,_,_,_,_⟩:=s0.later h1;go_wp2_with fail
 refine (tSqN n p N cap f w1 (HM.out.later (b0.trans h1))).mono ?_;rintro e w2 ⟨p2,c2',rfl,⟨hP,hF⟩,h2⟩;obtain ⟨d0,d1,d2,g0,g1,g2,_⟩:=z0.later (h1.trans (h2.trans ((Bl.refl _).alloc (.cells #[.int .i64 n,.int .i64 n,.slice p2 N c2'] 48))));have k2:=MBox.new w2 n n p2 N c2' 48;obtain ⟨W2,hW2⟩:∃ W2,W2=w2.alloc (.cells #[.int .i64 n,.int .i64 n,.slice p2 N c2'] 48):=⟨_,rfl⟩;have b2:Bl w2 W2:=by rw [hW2];exact (Bl.refl _).alloc _
 have B2:Bl w W2:=(b0.trans h1).trans (h2.trans b2);have HP:=hideP (Mx.later hP b2);have HF:=hideP hF;have hs2:w1.heap.size≤W2.heap.size:=(h2.trans b2).size;have hs1:=h1.size;obtain ⟨x0,x1,x2,_,_,_,_⟩:=id k2;have HW2:=hideP hW2;clear hP hF c0 c1 c2 c3 hW2;go_wp2;simp [bodyPost,results,Tryz.results20,go_sem,d0,d1,d2,x0,x1,x2,g0,g1,g2];exact ⟨p2,c2',by simp,by rw [←HW2.out];exact mx_ne7 HP.out (fun b hb=>by have:=HF.out b hb;omega) _ _ _,by rw [←HW2.out];exact Bl.put3 B2 (Nat.le_succ _) _ _ _⟩
theorem Tryz.buildRN (q:Option Addr) (n c:Nat) (r d:Int) (p:Option Addr) (N cap:Nat) (u:World):(Instr.build 50 #[(0,.slice q n c),(1,mV r d p N cap)]).run Tryz.prog u=.ok (sJ q n c r d p N cap) u:=by kernel_rfl
set_option maxRecDepth 100000 in
set_option maxHeartbeats 2000000 in
theorem rNewN (n:Nat) (px:Option Addr) (cx:Nat) (x:Nat→En) (p:Option Addr) (N cap:Nat) (f:Nat→Nat→En) (w:World) (hx:Rq 4 cellsN w (.slice px n cx) (linJ n x)) (h:Mx 4 cellsN w n n p N cap f) (h4:n≤4) :
  Calls Tryz.prog 34 #[.slice px n cx,mV n n p N cap] w fun e w'=>∃ q c p' c',e=.returned (.tuple #[sJ q n c n n p' N c',.bool true])∧(Rw 4 cellsN w' (.slice q n c) (linJ n x)∧Mx 4 cellsN w' n n p' N c' (clrN f))∧Bl w w':=by
 have fm:Tryz.prog.follows .mixedOrders=true:=by kernel_rfl
 have egC:=enters_of Tryz.func72 (by kernel_rfl) rfl;have hfit:=fitJ_dim h.1 h.2.1 h4;obtain ⟨W,hW⟩:∃ W,W=(w.alloc (.cells #[.int .i64 n,.int .i64 n,.slice p N cap] 48)).alloc (.cells #[.slice none 0 0,.int .i64 0,.int .i64 0,.slice none 0 0] 50):=⟨_,rfl⟩;have b0:Bl w W:=by rw [hW];exact ((Bl.refl _).alloc _).alloc _
 have m0:MBox W w.heap.size n n p N cap:=by rw [hW];exact (MBox.new w _ _ _ _ _ _).later ((Bl.refl _).alloc _)
 have s0:SBox W (w.heap.size+1) none 0 0 0 0 none 0 0:=by rw [hW];have:=SBox.new (w.alloc (.cells #[.int .i64 n,.int .i64 n,.slice p N cap] 48)) none 0 0 0 0 none 0 0 50;rw [World.size_alloc] at this;exact this
 have hs:W.heap.size=w.heap.size+1+1:=by rw [hW];simp
 have HX:=hideP hx;have HMX:=hideP h;have HW:=hideP hW;clear hW hx h
 go_enter Tryz.func34,Tryz.ntmps34;go_wp2_with fail
 rw [←HW.out];refine (rFitsN _ _ _ _ _ _ _ _ _).mono ?_;rintro e w1 ⟨rfl,h1⟩;rw [hfit];obtain ⟨c0,c1,cm,f0,f1,f2,lt⟩:=m0.later h1;have b01:=b0.trans h1;go_wp2_with fail
 refine (tClearN n p N cap f w1 (HMX.out.later b01)).mono ?_;rintro e w2 ⟨p2,c2,rfl,⟨hP,hF⟩,h2⟩;have k2:=MBox.new w2 n n p2 N c2 48;obtain ⟨W2,hW2⟩:∃ W2,W2=w2.alloc (.cells #[.int .i64 n,.int .i64 n,.slice p2 N c2] 48):=⟨_,rfl⟩;have b2:Bl w2 W2:=by rw [hW2];exact (Bl.refl _).alloc _
 rw [←hW2] at k2;have HW2:=hideP hW2;have B2:Bl w W2:=b01.trans (h2.trans b2);have s2:=s0.later (h1.trans (h2.trans b2));have hsz:w.heap.size+1+1≤W2.heap.size:=by have:=(h1.trans (h2.trans b2)).size;omega
 have HP:=hideP (show Mx 4 cellsN W2 n n p2 N c2 (clrN f) from Mx.later hP b2);have HF:=hideP (show Fresh (w.heap.size+1+1) (.slice p2 N c2) from fresh_le hF (by have:=h1.size;omega));have CL:=hideP (fun u (hu:Bl W2 u)=>clone_linN px n cx x u (HX.out.later (B2.trans hu)) (by have:=h4;omega));clear hW2 hP hF c0 c1 cm f0 f1 f2 lt;go_wp2_with fail
 rw [←HW2.out]
 refine (wpIn_wide (n:=8)).1 (region_q fm [some 18,some 19,some 20,some 21,none,some 5] (fun j=>j==5) 4 (by kernel_rfl) (by rfl)
  (fun j v u=>match j with|0=>v=.slice px n cx|1=>∃ q c,v=.slice q n c∧Rw 4 cellsN u (.slice q n c) (linJ n x)∧Fresh W2.heap.size (.slice q n c)|2=>v=mV n n p2 N c2|3=>∃ q c,v=sJ q n c n n p2 N c2∧Rw 4 cellsN u (.slice q n c) (linJ n x)∧Fresh W2.heap.size (.slice q n c)|5=>v=.bool true|_=>False)
  (by
    intro j v u u' hb h;split at h<;>first|exact h|(obtain ⟨q,c,e,h1,h2⟩:=h;exact ⟨q,c,e,h1.later hb,h2⟩)) (fun vs u0 u=>∃ q c,SBox u (w.heap.size+1) q n c n n p2 N c2∧Rw 4 cellsN u (.slice q n c) (linJ n x)∧Mx 4 cellsN u n n p2 N c2 (clrN f)∧Bl w u) ?step ?still ?store ?fin)
 case step =>
  intro j o t act u ho hdt hpu hsz hu hfr hin;have hj:j<6:=l9 ho;obtain ⟨y0,y1,y2,_,_,_,_⟩:=k2.later hu;rcases (by omega:j=0∨j=1∨j=2∨j=3∨j=4∨j=5) with rfl|rfl|rfl|rfl|rfl|rfl
  ·obtain ⟨rfl,rfl⟩:=o7 ho hdt;have i0:_=Value.slice px n cx:=hfr 0 (by decide);exact pl9 (r:=by simp only [seval,i0];simp [go_sem])
  ·obtain ⟨rfl,rfl⟩:=o7 ho hdt;have i18:_=Value.slice px n cx:=hin ⟨0,.data⟩ (by simp) rfl 18 rfl;refine ew9 72 #[.slice px n cx] (by simp only [seval,i18];simp [invoke,egC,Result.andThen,go_sem]) (CL.out u hu) ?_;rintro e w' ⟨q,c,rfl,⟨hR,hF⟩,hb⟩;exact ⟨_,rfl,_,rfl,⟨q,c,rfl,hR,fresh_le hF hu.size⟩,hb⟩
  ·obtain ⟨rfl,rfl⟩:=o7 ho hdt;have i6:_=Value.pointer (some ⟨w2.heap.size,0,none⟩):=hfr 6 (by decide);exact pl9 (r:=by simp only [seval,i6];simp [go_sem,y0,y1,y2])
  ·obtain ⟨rfl,rfl⟩:=o7 ho hdt;have i19:∃ q c,(act.eval (.tmp (19:Nat)))=.slice q n c∧Rw 4 cellsN u (.slice q n c) (linJ n x)∧Fresh W2.heap.size (.slice q n c):=hin ⟨1,.data⟩ (by simp) rfl 19 rfl;have i20:_=mV n n p2 N c2:=hin ⟨2,.data⟩ (by simp) rfl 20 rfl;obtain ⟨q0,c0',e1,hq,hf⟩:=i19;exact pw9 (by simp only [execOp,List.map_toArray,List.map_cons,List.map_nil,e1,i20];simp [Tryz.buildRN,Result.andThen,go_sem]) ⟨_,rfl,⟨q0,c0',rfl,hq,hf⟩,Bl.refl _⟩
  ·obtain rfl:=o9 ho;cases hdt
  ·cases hpu
 case still =>
  intro j o t act u0 u ho hdt hpu hsz hu hfr hin;have hj:j<6:=l9 ho;obtain ⟨y0,y1,y2,_,_,_,_⟩:=k2.later hu;rcases (by omega:j=0∨j=1∨j=2∨j=3∨j=4∨j=5) with rfl|rfl|rfl|rfl|rfl|rfl
  ·cases hpu
  ·cases hpu
  ·cases hpu
  ·cases hpu
  ·cases hpu
  ·obtain ⟨rfl,rfl⟩:=o7 ho hdt;exact pw9 (by simp only [seval];simp [go_sem]) ⟨_,rfl,rfl,rfl⟩
 case store =>
  intro o act u vs ho hsz hu hfr hin;obtain rfl:=o9 ho;have i4:_=Value.pointer (some ⟨w.heap.size+1,0,none⟩):=hfr 4 (by decide);obtain ⟨i21,k21⟩:act.eval (.tmp (21:Nat))=vs 3∧(∃ q c,(vs 3)=sJ q n c n n p2 N c2∧Rw 4 cellsN u (.slice q n c) (linJ n x)∧Fresh W2.heap.size (.slice q n c)):=hin 3 21 rfl rfl;obtain ⟨q0,c0',e1,hq,hf⟩:=k21;rw [e1] at i21;obtain ⟨c0,c1,c2',c3,f0,f1,f2,f3,lt⟩:=id (s2.later hu);exact sw9 (by simp only [execOp,i4,i21];simp [go_sem,c0,c1,c2',c3,f0,f1,f2,f3]) ⟨rfl,q0,c0',(s2.later hu).fill _ _ _ _ _ _ _ _,rw_put4N hq (fresh_le hf (by omega)) _ _ _ _,mx_put4 (HP.out.later hu) HF.out _ _ _ _,Bl.put4 (B2.trans hu) (Nat.le_succ _) _ _ _ _⟩
 case fin =>
  intro vs vb u0 u hu hin hps;have a0:=hin 0 18 rfl;have a1:=hin 1 19 rfl;have a2:=hin 2 20 rfl;have a3:=hin 3 21 rfl;have a5:=hin 5 5 rfl;simp only [seval] at a0 a1 a2 a3 a5 ⊢;rw [if_pos (by decide)] at hps;simp only [a0,a2,a5];obtain ⟨q,c,sx,hR,hM,hbw⟩:=hps;clear a1 a3;have HR:=hideP hR;have HM:=hideP hM;clear hR hM;obtain ⟨c0,c1,c2',c3,f0,f1,f2,f3,lt⟩:=sx;go_wp2;simp [bodyPost,results,Tryz.results34,go_sem,c0,c1,c2',c3];exact ⟨q,c,p2,c2,by simp,⟨HR.out,HM.out⟩,hbw⟩
attribute [local go_sem] Oper.semAt_some
set_option maxHeartbeats 1000000 in
theorem vCloneZN (v:Value) (xs:List En) (w:World) (h:Rq 4 cellsN w v xs) (hl:xs.length≤1000000) (hne:xs≠[]) :
  Calls Tryz.prog 72 #[v] w fun e w'=>∃ u,e=.returned u∧RwZ 4 cellsN w' w.heap.size u xs∧Bl w w':=by
 have n0:=Tryz.nil0N;have n1:=Tryz.nil1N;obtain ⟨i0,hi,hz0,hz1,hz2⟩:=info_parts Tryz.info_N;rcases h with ⟨p,cap,rfl,rfl,hpn⟩|⟨b,o,cap,rfl,hc,hb,hx⟩
 ·exact absurd rfl hne
 ·have HX:=hideP hx;clear hx n0
  go_enter Tryz.func72,Tryz.ntmps72;go_wp2_with (at_builtin;refine wpList_append_own _ rfl _ _ 46 rfl w.heap.size 52 i0 (.agg #[.int .i64 0,.int .i64 0,.int .i64 0,.bool false]) 4 32 Tryz.underlying46 hi hz0 hz1 hz2 rfl (by decide) _ 0 [] rfl (World.ownsRow_made w #[] 0 (Nat.le_refl _) (by decide) rfl) ⟨b,o,none⟩ xs.length cap (xs.flatMap cellsN) rfl (flat_len cellsN_len xs) (flat_cells cellsN_len ((Rw_cells_later HX.out hb ((Bl.refl _).alloc _)))) (flat_one oneN_cells xs) (by unfold maxLen;omega) (by omega) (by simp) ?_;intro v' w1 hown' hgrow _)
  have R:=hideP (RwZ.of_own (xs:=xs) cellsN_len (by simpa using hown') hne);have hB:Bl w w1:=Below.grown (Below.alloc (Bl.refl w) (Nat.le_refl _) _) hgrow (by simp) (fun k e=>by cases e;exact Nat.le_refl _);clear hown' hgrow;go_wp2;go_ret;exact ⟨_,rfl,R.out,hB⟩
theorem mRowZN (R C:Nat) (p:Option Addr) (n cap:Nat) (f:Nat→Nat→En) (w:World) (h:Mx 4 cellsN w R C p n cap f) (i:Nat) (hi:i<R) :
  Calls Tryz.prog 109 #[mV R C p n cap,.int .i64 i] w fun e w'=>∃ p' cap',e=.returned (.slice p' C cap')∧(RwZ 4 cellsN w' w.heap.size (.slice p' C cap') (rowM C f i)∧C≤cap')∧Bl w w':=by
 have hfit:=h.fit;obtain ⟨b,o,rfl,hc,hb,-⟩:=h.cells;obtain ⟨hd,hn,hR⟩:=h;have ha1:=amongB_t hi;have h16:=hd.lt;have hi16:i<16:=Nat.lt_of_lt_of_le hi hd.r2;have hC16:=hd.c2;have hC1:=hd.c1;obtain ⟨a,e,e1,e2,hq1,hq3,hq5,hq6,hq7⟩:=places hd hi;have hpt:Rq 4 cellsN w (.slice (some ⟨b,o+a*4,none⟩) C (cap-a)) (rowM C f i):=by
  have:=hR.part (lo:=a) (m:=C) (by rw [mk_len,hn]) (by omega) (by omega) (cap-a) (by omega);rw [e1,mk_row f hi] at this;rw [e1];exact this
 have sl:=fun u=>Tryz.partN b o n cap a e u (by omega) (by omega) hc (by omega)
 rw [show e-a=C by omega] at sl;have HP:=hideP hpt;rw [←hn] at h16 hq5;clear hR hpt e1 e2 hn;obtain ⟨W,hW⟩:∃ W,W=(w.alloc (.cells #[.int .i64 R,.int .i64 C,.slice (some ⟨b,o,none⟩) n cap] 48)):=⟨_,rfl⟩;have b0:Bl w W:=by rw [hW];exact (Bl.refl _).alloc _
 have m0:MBox W w.heap.size R C (some ⟨b,o,none⟩) n cap:=by rw [hW];exact MBox.new w _ _ _ _ _ _
 have HW:=hideP hW;clear hW
 go_enter Tryz.func109,Tryz.ntmps109;go_wp2_with fail
 rw [←HW.out];refine (mRightN _ _ _ _ _ _).mono ?_;rintro e w1 ⟨rfl,h1⟩;rw [hfit];obtain ⟨c0,c1,c2,f0,f1,f2,lt⟩:=m0.later h1;go_wp2_with fail
 refine (among_any _ _ _).mono ?_;rintro e w2 ⟨rfl,rfl⟩;rw [ha1];go_wp2_with fail
 refine (vCloneZN _ (rowM C f i) _ (HP.out.later (b0.trans h1)) (by rw [rowM_len];omega) (by intro e;have:=congrArg List.length e;rw [rowM_len] at this;simp at this;omega)).mono ?_;rintro e w3 ⟨u,rfl,hR,h3⟩;obtain ⟨p',cap',rfl,hcl,_⟩:=hR.rw.cut;rw [rowM_len] at hR hcl ⊢;have HR:=hideP hR;clear hR;go_wp2;go_ret;exact ⟨p',cap',rfl,⟨HR.out.base (b0.trans h1).size,hcl⟩,(b0.trans h1).trans h3⟩
set_option maxRecDepth 100000 in
set_option maxHeartbeats 2000000 in
theorem iterMZN (m l B lo hi R C:Nat) (p:Option Addr) (n cap:Nat) (f:Nat→Nat→En) (J Jx:List RowX→World→Prop) (W:World) (hJ:AbidesFrom W.heap.size J) (hh:hi≤W.heap.size)
  (hY:∀ pre x W0 W1,J pre W0→RowOkZ 4 cellsN R C f x W0 W1→pre.length<R→YieldAt Fence.wide (m-1) Tryz.prog l #[.int .i64 x.1,rowV C x] W1 fun e W' =>
   (e=.returned (.bool true)∧J (pre++[x]) W'∧Span lo hi W1 W')∨(e=.returned (.bool false)∧Jx (pre++[x]) W'))
  (hP:KeptIn 4 cellsN W lo hi B R C p n cap f) (h0:J [] W) :
  CallsIn Fence.wide m Tryz.prog 108 #[.func (.yield l) #[] #[],.pointer (some ⟨B,0,none⟩)] W fun e W'=>(∃ v,e=.returned v) ∧
   ((∃ zs:List RowX,zs.map (·.1)=List.range R∧J zs W')∨(∃ pre:List RowX,pre.map (·.1) <+: List.range R∧Jx pre W')):=by
 have yn:=Tryz.yieldMN l;have HP:=hideP hP;have hR16:=hP.hd.r2;obtain ⟨c0,c1,c2,f0,f1,f2,lt⟩:=hP.box;clear hP;refine callsIn_of_wp Tryz.func108 rfl trivial ?_ rfl;simp only [Tryz.ntmps108,List.size_toArray,List.length_cons,List.length_nil,Nat.reduceAdd,Nat.reduceSub,Array.replicate_succ,Array.replicate_zero,List.push_toArray,List.append_toArray,List.nil_append,List.cons_append]
 gi_wp2
 clear c0 c1 c2 f0 f1 f2
 gi_loopw [8] (fun i wr=>∃ (k:Nat) (pre:List RowX),k≤R∧i=.int .i64 k∧pre.map (·.1)=List.range k∧J pre wr∧Span lo hi W wr) (fun i _=>R-(intOf i).toNat)
 case atStart=>exact ⟨0,[],Nat.zero_le _,rfl,rfl,h0,Span.refl _ _ _⟩
 case round =>
  obtain ⟨k,pre,hk,rfl,hpre,hJs,hsp⟩:=hrel;have hlen:pre.length=k:=by have:=congrArg List.length hpre;simpa using this
  have HPR:=hideP hpre;clear hpre;by_cases hlt:k<R
  ·have HKK:=hideP (HP.out.later hsp);obtain ⟨c0,c1,c2,f0,f1,f2,lt⟩:=HKK.out.box
   gi_wp2_with fail
   refine ⟨trivial,fun h=>(by cases h),?_⟩;refine (callsIn_wide.2 (mRowZN R C p n cap f _ HKK.out.mx k hlt)).mono ?_;rintro e w1 ⟨p',cap',rfl,⟨hR,hcc⟩,h1⟩;obtain ⟨fn,tmps,assign,body,hyd,hR2⟩:=hY pre (k,p',cap') _ w1 hJs ⟨h1,hlt,hR,hcc⟩ (by omega);dsimp only at hyd;clear c0 c1 c2 f0 f1 f2 hR;have hR3:RoundIn Fence.wide (m-1) Tryz.prog l fn tmps assign body w1 fun e W'=>∃ r:Bool,e=.returned (.bool r)∧((r=true∧J (pre++[(k,p',cap')]) W'∧Span lo hi w1 W')∨(r=false∧Jx (pre++[(k,p',cap')]) W')):=by
    refine hR2.mono ?_;rintro e W' (⟨rfl,h1,h2⟩|⟨rfl,h1⟩)
    ·exact ⟨true,rfl,.inl ⟨rfl,h1,h2⟩⟩
    ·exact ⟨false,rfl,.inr ⟨rfl,h1⟩⟩
   gi_wp2_with fail
   refine ⟨fun h=>(by cases h),?_⟩;refine hR3.mono ?_;rintro e W3 ⟨r,rfl,hr⟩;have sp1:Span lo hi W w1:=hsp.trans (h1.span (by have:=hsp.size;omega));have HT:=hideP (show (pre++[((k,p',cap'):RowX)]).map (·.1)=List.range (k+1) by rw [List.map_append,HPR.out,List.range_succ];rfl);rcases hr with ⟨rfl,hJ3,hk3⟩|⟨rfl,hJx3⟩
   ·gi_wp2
    go_roundw
    case rel=>exact ⟨k+1,_,by omega,by simp,HT.out,hJ3,sp1.trans hk3⟩
    case measure=>simp [intOf];omega
   ·gi_wp2
    refine bodyPost_ret (results_none rfl _ _ _) rfl ?_;exact ⟨⟨_,rfl⟩,.inr ⟨_,by rw [HT.out];exact range_pre hlt,hJx3⟩⟩
  ·obtain rfl:k=R:=by omega
   have HJ:=hideP hJs;clear hJs
   gi_wp2
   go_end0
   exact ⟨⟨_,rfl⟩,.inl ⟨pre,HPR.out,HJ.out⟩⟩
theorem seqMZN (m B lo hi R C:Nat) (p:Option Addr) (n cap:Nat) (f:Nat→Nat→En) (w:World) (hh:hi≤w.heap.size) (hP:KeptIn 4 cellsN w lo hi B R C p n cap f) :
  SeqV Fence.wide m Tryz.prog 108 #[.pointer (some ⟨B,0,none⟩)] (fun x:RowX=>#[.int .i64 x.1,rowV C x]) (RowOkZ 4 cellsN R C f) (Span lo hi) (fun zs=>zs.map (·.1)=List.range R) (fun pre=>pre.map (·.1) <+: List.range R) R w:=
 fun l J Jx W hW hJ _ hY h0=>iterMZN m l B lo hi R C p n cap f J Jx W hJ (Nat.le_trans hh hW.size) hY (hP.later (Bl.span hW hh)) h0
theorem mNewZN (r c:Int) (p:Option Addr) (n cap:Nat) (xs:List En) (w:World) (hr:Rq 4 cellsN w (.slice p n cap) xs) (h:fitB r c n=true) (hn:xs.length=n) :
  Calls Tryz.prog 107 #[.int .i64 r,.int .i64 c,.slice p n cap] w fun e w'=>∃ p' cap',e=.returned (.tuple #[mV r c p' n cap',.bool true])∧RwZ 4 cellsN w' w.heap.size (.slice p' n cap') xs∧Bl w w':=by
 have hl:n≤1000000:=by obtain ⟨R,C,_,_,hd,rfl⟩:=fitB_nat h;have:=hd.lt;omega
 obtain ⟨W,hW⟩:∃ W,W=w.alloc (.cells #[.int .i64 0,.int .i64 0,.slice none 0 0] 48):=⟨_,rfl⟩;have b0:Bl w W:=by rw [hW];exact (Bl.refl _).alloc _
 have x0:MBox W w.heap.size 0 0 none 0 0:=by rw [hW];exact MBox.new w 0 0 none 0 0 _
 have hsz:W.heap.size=w.heap.size+1:=by rw [hW];simp
 have hne:xs≠[]:=by
  obtain ⟨R,C,_,_,hd,e⟩:=fitB_nat h;have:=Mx.pos hd e;intro e2;rw [e2] at hn;simp at hn;omega
 have CL:=hideP (vCloneZN (.slice p n cap) xs W (hr.later b0) (by omega) hne);have HW:=hideP hW;clear hW hr
 go_enter Tryz.func107,Tryz.ntmps107;go_wp2_with fail
 rw [←HW.out];refine (fits_any _ _ _ _).mono ?_;rintro e w1 ⟨rfl,rfl⟩;rw [h];go_wp2_with fail
 refine CL.out.mono ?_;rintro e w2 ⟨u,rfl,hR,h2⟩;obtain ⟨p',cap',rfl,_,_⟩:=hR.rw.cut;rw [hn] at hR ⊢;have HR:=hideP (hR.base (lo':=w.heap.size+1) (by omega));obtain ⟨c0,c1,c2,f0,f1,f2,lt⟩:=x0.later h2;clear hR CL;go_wp2;simp [bodyPost,results,Tryz.results107,go_sem,c0,c1,c2];exact ⟨p',cap',⟨rfl,rfl⟩,(((HR.out.set _ (Nat.lt_succ_self _)).set _ (Nat.lt_succ_self _)).set _ (Nat.lt_succ_self _)).base (by omega),Bl.put3 (b0.trans h2) (Nat.le_refl _) _ _ _⟩
theorem tdiv_floor (n d:Int) (hd:0<d):(n.tmod d<0∧n.tdiv d-1=n/d∧n.tmod d+d=n % d)∨(0≤n.tmod d∧n.tdiv d=n/d∧n.tmod d=n % d):=by
 have e:=Int.mul_tdiv_add_tmod n d;have l1:=Int.tmod_lt_of_pos n hd;have l2:-d<n.tmod d:=by
  have:=Int.lt_tmod_of_pos n hd;omega
 rcases Int.lt_or_le (n.tmod d) 0 with h|h
 ·left
  have u:=(Int.ediv_emod_unique hd (a:=n) (q:=n.tdiv d-1) (r:=n.tmod d+d)).2 ⟨by rw [Int.mul_sub,Int.mul_one];omega,by omega,by omega⟩;exact ⟨h,u.1.symm,u.2.symm⟩
 ·right
  have u:=(Int.ediv_emod_unique hd (a:=n) (q:=n.tdiv d) (r:=n.tmod d)).2 ⟨by omega,h,l1⟩;exact ⟨h,u.1.symm,u.2.symm⟩
def bsB (n d:Int):Bool:=foB (n/d)
def bsL (n d:Int):Int:=toN (n*16777216/d) (bsB n d)
def bsH (n d:Int):Int:=toN (-(-(n*16777216)/d)) (bsB n d)
theorem up_floor (x d:Int) (hd:0<d):-(-x/d)=if 0<x % d then x/d+1 else x/d:=by
 have a1:=Int.mul_ediv_add_emod x d;have a2:=Int.emod_nonneg x (show d≠0 by omega);have a3:=Int.emod_lt_of_pos x hd;generalize x/d=q at *;generalize x % d=r at *;by_cases h:0<r
 ·rw [if_pos h];have hn:=(Int.ediv_emod_unique hd (a:=-x) (q:=-q-1) (r:=d-r)).2 ⟨by rw [Int.mul_sub,Int.mul_neg,Int.mul_one];omega,by omega,by omega⟩;rw [hn.1];omega
 ·rw [if_neg h];have hn:=(Int.ediv_emod_unique hd (a:=-x) (q:=-q) (r:=0)).2 ⟨by rw [Int.mul_neg];omega,by omega,hd⟩;rw [hn.1];omega
theorem units_floor (n d:Int) (hd:0<d):n*16777216/d=n/d*16777216+n % d*16777216/d∧n*16777216 % d=n % d*16777216 % d:=by
 have e:n*16777216=n % d*16777216+n/d*16777216*d:=by
  have:=Int.mul_ediv_add_emod n d;rw [Int.mul_right_comm,Int.mul_comm (n/d) d,←Int.add_mul]
  congr 1
  omega
 rw [e];constructor
 ·rw [Int.add_mul_ediv_right _ _ (by omega),Int.add_comm]
 ·rw [Int.add_mul_emod_self_right]
set_option maxHeartbeats 1000000 in
theorem beside_any (n d:Int) (w:World) (hd:0<d) (hn:rightB n=true) (hr:rightB d=true) :
  Calls Tryz.prog 83 #[.int .i64 n,.int .i64 d] w fun e w'=>e=.returned (.tuple #[.int .i64 (bsL n d),.int .i64 (bsH n d),.bool (bsB n d)])∧Bl w w':=by
 have kn:=rightB_iff.1 hn;have kd:=rightB_iff.1 hr;have uf:=units_floor n d hd;have ue:=up_floor (n*16777216) d hd;have r0:=Int.emod_nonneg n (show d≠0 by omega);have r1:=Int.emod_lt_of_pos n hd;have tf:=tdiv_floor n d hd;have q0:-4611686018427387904≤n/d∧n/d≤4611686018427387903:=by
  have:=Int.mul_ediv_add_emod n d;constructor
  ·rcases Int.lt_or_le (n/d) (-4611686018427387904) with h|h
   ·have:=Int.mul_le_mul_of_nonneg_left (show n/d≤-4611686018427387905 by omega) (show 0≤d by omega);omega
   ·exact h
  ·exact Int.le_trans (Int.ediv_le_ediv hd kn.2) (Int.ediv_le_self _ (by omega))
 unfold bsL bsH;rw [ue,uf.1,uf.2];have F:=fof_any (n/d);unfold foN at F;have e1:bsB n d=foB (n/d):=rfl;rw [e1];clear ue uf e1 hn hr;generalize n/d=q at *;generalize n % d=r at *;have hr2:r*16777216/18446744073709551616<d:=by omega
 have M:=hideP (mul64_any r 16777216 ⟨r0,by omega⟩ ⟨by decide,by decide⟩);have D:=hideP (fun w=>div64_any (r*16777216) d w (by omega) ⟨by omega,by omega⟩ hr2);have p0:0≤r*16777216/d∧r*16777216/d<16777216:=by
  refine ⟨Int.ediv_nonneg (by omega) (by omega),Int.ediv_lt_of_lt_mul hd ?_⟩;rw [Int.mul_comm];exact Int.mul_lt_mul_of_pos_left r1 (by decide)
 have p1:=Int.emod_nonneg (r*16777216) (show d≠0 by omega);have hF0:foB q=true→-67108864≤q∧q≤67108864:=fun h=>by simpa [foB] using h
 have HF:=hideP F;clear F hr2;generalize r*16777216/d=P at *;generalize r*16777216 % d=R at *;cases hq:foB q
 ·rw [hq] at HF;simp only [toN_f] at HF ⊢;clear hF0 hq
  go_enter Tryz.func83,Tryz.ntmps83;go_wp2_with fail
  go_quiet (fail)
  generalize n.tdiv d=T at *;generalize n.tmod d=U at *;have hw:Bl w (w.drewN nq):=SmallBl _ _ _;have HW:=hideP hw;clear hw;have tf':(r-d<0∧q+1=T∧r-d=U)∨(0≤r∧q=T∧r=U):=by
   rcases tf with ⟨t1,t2,t3⟩|⟨t1,t2,t3⟩
   ·left;omega
   ·right;omega
  clear tf;rcases tf' with ⟨t1,rfl,rfl⟩|⟨t1,rfl,rfl⟩
  all_goals
   go_wp2_with fail
   refine (HF.out _).mono ?_;rintro e w1 ⟨rfl,h1⟩;go_wp2
   go_ret3
   exact ⟨rfl,HW.out.trans h1⟩
 rw [hq] at HF;obtain ⟨q1,q2⟩:=hF0 hq;simp only [toN_t] at HF ⊢;clear hF0 hq;by_cases hR:0<R
 ·rw [if_pos hR]
  go_enter Tryz.func83,Tryz.ntmps83;go_wp2_with fail
  go_quiet (fail)
  generalize n.tdiv d=T at *;generalize n.tmod d=U at *;have hw:Bl w (w.drewN nq):=SmallBl _ _ _;have HW:=hideP hw;clear hw;have tf':(r-d<0∧q+1=T∧r-d=U)∨(0≤r∧q=T∧r=U):=by
   rcases tf with ⟨t1,t2,t3⟩|⟨t1,t2,t3⟩
   ·left;omega
   ·right;omega
  clear tf;rcases tf' with ⟨t1,rfl,rfl⟩|⟨t1,rfl,rfl⟩
  all_goals
   go_wp2_with fail
   refine (HF.out _).mono ?_;rintro e w1 ⟨rfl,h1⟩;go_wp2_with fail
   refine (M.out _).mono ?_;rintro e w2 ⟨rfl,rfl⟩;go_wp2_with fail
   refine (D.out _).mono ?_;rintro e w3 ⟨rfl,h3⟩;go_wp2
   go_ret3
   exact ⟨rfl,(HW.out.trans h1).trans h3⟩
 ·rw [if_neg hR]
  go_enter Tryz.func83,Tryz.ntmps83;go_wp2_with fail
  go_quiet (fail)
  generalize n.tdiv d=T at *;generalize n.tmod d=U at *;have hw:Bl w (w.drewN nq):=SmallBl _ _ _;have HW:=hideP hw;clear hw;have tf':(r-d<0∧q+1=T∧r-d=U)∨(0≤r∧q=T∧r=U):=by
   rcases tf with ⟨t1,t2,t3⟩|⟨t1,t2,t3⟩
   ·left;omega
   ·right;omega
  clear tf;rcases tf' with ⟨t1,rfl,rfl⟩|⟨t1,rfl,rfl⟩
  all_goals
   go_wp2_with fail
   refine (HF.out _).mono ?_;rintro e w1 ⟨rfl,h1⟩;go_wp2_with fail
   refine (M.out _).mono ?_;rintro e w2 ⟨rfl,rfl⟩;go_wp2_with fail
   refine (D.out _).mono ?_;rintro e w3 ⟨rfl,h3⟩;go_wp2
   go_ret3
   exact ⟨rfl,(HW.out.trans h1).trans h3⟩
def withinB (a:En) (n d:Int):Bool:=decide (a.l*d≤n*16777216)&&decide (n*16777216≤a.h*d)
def enclB (a:En) (n d:Int):Bool:=fineB a&&decide (1≤d)&&rightB n&&rightB d&&withinB a n d
theorem bs_within (a:En) (n d:Int) (ha:fineB a=true) (hd:0<d):(bsB n d&&(decide (a.l≤bsL n d)&&decide (bsH n d≤a.h)))=withinB a n d:=by
 obtain ⟨_,_,_,f1,f2⟩:=fineB_iff.1 ha;have g1:=frB_iff.1 f1;have g2:=frB_iff.1 f2;unfold bsL bsH withinB;cases hb:bsB n d
 ·rw [Bool.false_and,eq_comm,Bool.and_eq_false_iff];have hq:n/d < -67108864∨67108864<n/d:=by
   unfold bsB foB at hb;rw [Bool.and_eq_false_iff] at hb;rcases hb with h|h
   ·have:=of_decide_eq_false h;omega
   ·have:=of_decide_eq_false h;omega
  have e:=Int.mul_ediv_add_emod n d;have r0:=Int.emod_nonneg n (show d≠0 by omega);have r1:=Int.emod_lt_of_pos n hd;rcases hq with h|h
  ·left
   apply decide_eq_false;intro hc;have k1:=Int.mul_le_mul_of_nonneg_left (show n/d≤-67108865 by omega) (show 0≤d by omega);have k2:=Int.mul_le_mul_of_nonneg_right g1.1 (show 0≤d by omega);omega
  ·right
   apply decide_eq_false;intro hc;have k1:=Int.mul_le_mul_of_nonneg_left (show 67108865≤n/d by omega) (show 0≤d by omega);have k2:=Int.mul_le_mul_of_nonneg_right g2.2 (show 0≤d by omega);omega
 ·rw [Bool.true_and,toN_t,toN_t];have i1:a.l≤n*16777216/d↔a.l*d≤n*16777216:=Int.le_ediv_iff_mul_le hd;have i2:-(-(n*16777216)/d)≤a.h↔n*16777216≤a.h*d:=by
   have:-a.h≤-(n*16777216)/d↔-a.h*d≤-(n*16777216):=Int.le_ediv_iff_mul_le hd;rw [Int.neg_mul] at this;constructor
   ·intro h;have:=this.1 (by omega);omega
   ·intro h;have:=this.2 (by omega);omega
  rw [decide_eq_decide.2 i1,decide_eq_decide.2 i2]
set_option maxHeartbeats 1000000 in
theorem encl_any (a:En) (n d:Int) (w:World) :
  Calls Tryz.prog 39 #[enV a,.int .i64 n,.int .i64 d] w fun e w'=>e=.returned (.bool (enclB a n d))∧Bl w w':=by
 obtain ⟨W,hW⟩:∃ W,W=w.alloc (.cells #[.int .i64 a.v,.int .i64 a.l,.int .i64 a.h,.bool a.bad] 52):=⟨_,rfl⟩;have b0:Bl w W:=by rw [hW];exact (Bl.refl _).alloc _
 have x0:Box W w.heap.size a:=by rw [hW];exact Box.new w a _
 have c1:=x0.c1;have HW:=hideP hW;have HX:=hideP x0;clear hW x0;have F:=fine_any a;unfold enclB;cases hf:fineB a
 ·rw [hf] at F;have HF:=hideP F;clear F
  go_enter Tryz.func39,Tryz.ntmps39;go_wp2_with fail
  rw [←HW.out];refine (HF.out _).mono ?_;rintro e w1 ⟨rfl,h1⟩;go_wp2;go_ret;exact ⟨rfl,b0.trans h1⟩
 rw [hf] at F;have HF:=hideP F;clear F
 have ways:(d≤0)∨(0<d∧4611686018427387903<d)∨(0<d∧d≤4611686018427387903∧4611686018427387903<n)∨(0<d∧d≤4611686018427387903∧n≤4611686018427387903∧n < -4611686018427387903) ∨
   (0<d∧d≤4611686018427387903∧n≤4611686018427387903∧-4611686018427387903≤n):=by omega
 have no:∀ x:Bool,(d≤0∨4611686018427387903<d∨4611686018427387903<n∨n < -4611686018427387903)→(true&&decide (1≤d)&&rightB n&&rightB d&&x)=false:=by
  intro x h;rw [Bool.true_and];rcases h with h|h|h|h
  ·rw [decide_eq_false (by omega)];rfl
  ·have:rightB d=false:=by unfold rightB;rw [decide_eq_false (show ¬ d≤4611686018427387903 by omega),Bool.and_false]
   rw [this,Bool.and_false,Bool.false_and]
  ·have:rightB n=false:=by unfold rightB;rw [decide_eq_false (show ¬ n≤4611686018427387903 by omega),Bool.and_false]
   rw [this,Bool.and_false,Bool.false_and,Bool.false_and]
  ·have:rightB n=false:=by unfold rightB;rw [decide_eq_false (show ¬ -4611686018427387903≤n by omega),Bool.false_and]
   rw [this,Bool.and_false,Bool.false_and,Bool.false_and]
 rcases ways with k|⟨k,k2⟩|⟨k,k2,k3⟩|⟨k,k2,k3,k4⟩|⟨k,k2,k3,k4⟩
 ·rw [no _ (.inl k)];clear no
  go_enter Tryz.func39,Tryz.ntmps39;go_wp2_with fail
  rw [←HW.out];refine (HF.out _).mono ?_;rintro e w1 ⟨rfl,h1⟩;go_wp2;go_ret;exact ⟨rfl,b0.trans h1⟩
 ·rw [no _ (.inr (.inl k2))];clear no
  go_enter Tryz.func39,Tryz.ntmps39;go_wp2_with fail
  rw [←HW.out];refine (HF.out _).mono ?_;rintro e w1 ⟨rfl,h1⟩;go_wp2;go_ret;exact ⟨rfl,b0.trans h1⟩
 ·rw [no _ (.inr (.inr (.inl k3)))];clear no
  go_enter Tryz.func39,Tryz.ntmps39;go_wp2_with fail
  rw [←HW.out];refine (HF.out _).mono ?_;rintro e w1 ⟨rfl,h1⟩;go_wp2;go_ret;exact ⟨rfl,b0.trans h1⟩
 ·rw [no _ (.inr (.inr (.inr k4)))];clear no
  go_enter Tryz.func39,Tryz.ntmps39;go_wp2_with fail
  rw [←HW.out];refine (HF.out _).mono ?_;rintro e w1 ⟨rfl,h1⟩;go_wp2;go_ret;exact ⟨rfl,b0.trans h1⟩
 ·clear no;have rn:rightB n=true:=rightB_eq (by omega);have rd:rightB d=true:=rightB_eq (by omega);have S:=fun w=>beside_any n d w k rn rd
  have e:=bs_within a n d hf k;rw [rn,rd,decide_eq_true (show 1≤d by omega),←e];clear rn rd e hf;generalize bsB n d=ok at *;generalize bsL n d=x at *;generalize bsH n d=y at *;have HS:=hideP S;clear S;cases ok
  ·go_enter Tryz.func39,Tryz.ntmps39;go_wp2_with fail
   rw [←HW.out];refine (HF.out _).mono ?_;rintro e w1 ⟨rfl,h1⟩;go_wp2_with fail
   refine (HS.out _).mono ?_;rintro e w2 ⟨rfl,h2⟩;go_wp2;go_ret;exact ⟨rfl,(b0.trans h1).trans h2⟩
  ·by_cases kl:a.l≤x
   ·rw [decide_eq_true kl]
    go_enter Tryz.func39,Tryz.ntmps39;go_wp2_with fail
    rw [←HW.out];refine (HF.out _).mono ?_;rintro e w1 ⟨rfl,h1⟩;go_wp2_with fail
    refine (HS.out _).mono ?_;rintro e w2 ⟨rfl,h2⟩;have b1:=(HX.out.later (h1.trans h2)).c1;have b2:=(HX.out.later (h1.trans h2)).c2;go_wp2;go_ret;exact ⟨rfl,(b0.trans h1).trans h2⟩
   ·rw [decide_eq_false kl]
    go_enter Tryz.func39,Tryz.ntmps39;go_wp2_with fail
    rw [←HW.out];refine (HF.out _).mono ?_;rintro e w1 ⟨rfl,h1⟩;go_wp2_with fail
    refine (HS.out _).mono ?_;rintro e w2 ⟨rfl,h2⟩;have b1:=(HX.out.later (h1.trans h2)).c1;have b2:=(HX.out.later (h1.trans h2)).c2;go_wp2;go_ret;exact ⟨rfl,(b0.trans h1).trans h2⟩
def Same (ps:List (Int×Int)) (x y:Int):Prop:=ps=[(x,y),(x,y)]∨ps=[(x,y),(x,y),(x,y),(x,y)]
theorem okE_iff {B:Int→Int→Int→Bool} {a b:En} {ps:List (Int×Int)}:okE B a b ps=true↔B a.v b.v 0=true∧fineB a=true∧fineB b=true∧okF B ps=true:=by
 unfold okE;simp [Bool.and_eq_true,and_assoc]
theorem pt_fine {n:Int} (h:frB n=true):fineB ⟨n,n,n,false⟩=true:=fineB_iff.2 ⟨rfl,Int.le_refl _,Int.le_refl _,h,h⟩
def FineOr (x:En):Prop:=x=wrongE∨(x.bad=false∧fineB x=true)
theorem fine_told {N:Int→Int→Int→Int} {B:Int→Int→Int→Bool} {a b:En} {ps:List (Int×Int)} (hN:Bd N)
  (hH:fineB a=true→fineB b=true→okF B ps=true→Hold N B ps a.v b.v):FineOr (toldE N B a b ps):=by
 cases h:okE B a b ps
 ·exact .inl (told_bad h)
 ·rw [told_ok h];obtain ⟨h0,ha,hb,hk⟩:=okE_iff.1 h;have H:=hH ha hb hk;have l:=low_bd hN ps;have u:=high_bd hN ps;have h1:=H.low;have h2:=H.down;have h3:=H.up;have h4:=H.high;exact .inr ⟨rfl,fineB_iff.2 ⟨rfl,Int.le_trans h1 h2,Int.le_trans h3 h4,frB_eq l,frB_eq u⟩⟩
theorem fine_add (a b:En):FineOr (addE a b):=fine_told bdA fun ha hb hk=>hold_add ha hb hk (in_v ha) (in_v hb)
theorem fine_sub (a b:En):FineOr (subE a b):=fine_told bdS fun ha hb hk=>hold_sub ha hb hk (in_v ha) (in_v hb)
theorem fine_mul (a b:En):FineOr (mulE a b):=fine_told bdM fun ha hb hk=>hold_mul ha hb hk (in_v ha) (in_v hb)
theorem fine_div (a b:En):FineOr (divE a b):=by
 unfold divE;cases hz:zeroB b
 ·exact fine_told bdD fun ha hb hk=>hold_div ha hb hz hk (in_v ha) (in_v hb)
 ·exact .inl rfl
theorem fine_root (a:En):FineOr (rootE a):=fine_told bdQ fun ha _ hk=>hold_root ha hk (in_v ha)
def QIn (a:En) (n d:Int):Prop:=a.l*d≤n*16777216∧n*16777216≤a.h*d
def Enq (a:En) (n d:Int):Prop:=a=wrongE∨(fineB a=true∧QIn a n d)
theorem cancel_pos {x y k:Int} (hk:0<k) (h:x*k≤y*k):x≤y:=Int.le_of_mul_le_mul_right h hk
theorem QIn.same {a:En} {n d n' d':Int} (h:QIn a n d) (hd:0<d) (hd':0<d') (e:n*d'=n'*d):QIn a n' d':=by
 obtain ⟨h1,h2⟩:=h;constructor
 ·refine cancel_pos hd ?_;have:=Int.mul_le_mul_of_nonneg_right h1 (Int.le_of_lt hd');rw [show a.l*d'*d=a.l*d*d' by rw [Int.mul_right_comm],show n'*16777216*d=n*16777216*d' by rw [Int.mul_right_comm,←e,Int.mul_right_comm]];exact this
 ·refine cancel_pos hd ?_;have:=Int.mul_le_mul_of_nonneg_right h2 (Int.le_of_lt hd');rw [show a.h*d'*d=a.h*d*d' by rw [Int.mul_right_comm],show n'*16777216*d=n*16777216*d' by rw [Int.mul_right_comm,←e,Int.mul_right_comm]];exact this
theorem Enq.same {a:En} {n d n' d':Int} (h:Enq a n d) (hd:0<d) (hd':0<d') (e:n*d'=n'*d):Enq a n' d':=by
 rcases h with h|⟨f,q⟩
 ·exact .inl h
 ·exact .inr ⟨f,q.same hd hd' e⟩
theorem wrong_fine {a:En} (h:a=wrongE):fineB a=false:=by subst h;rfl
theorem told_wrong {N:Int→Int→Int→Int} {B:Int→Int→Int→Bool} {a b:En} {ps:List (Int×Int)} (h:a=wrongE∨b=wrongE):toldE N B a b ps=wrongE:=by
 refine told_bad ?_;unfold okE;rcases h with h|h
 ·rw [wrong_fine h];simp
 ·rw [wrong_fine h];simp
theorem enq_told {N:Int→Int→Int→Int} {B:Int→Int→Int→Bool} {a b:En} {ps:List (Int×Int)} {n d:Int} (hf:FineOr (toldE N B a b ps)) (h:fineB a=true→fineB b=true→okF B ps=true→lowF N ps*d≤n*16777216∧n*16777216≤highF N ps*d):Enq (toldE N B a b ps) n d:=by
 rcases hf with hf|⟨_,hf⟩
 ·exact .inl hf
 ·cases hk:okE B a b ps
  ·exact .inl (told_bad hk)
  ·obtain ⟨h0,ha,hb,ho⟩:=okE_iff.1 hk;have q:=h ha hb ho;refine .inr ⟨hf,?_⟩;rw [told_ok hk];exact q
theorem enq_add {a b:En} {n1 d1 n2 d2:Int} (hd1:0<d1) (hd2:0<d2) (ha:Enq a n1 d1) (hb:Enq b n2 d2):Enq (addE a b) (n1*d2+n2*d1) (d1*d2):=by
 rcases ha with ha|⟨fa,qa⟩
 ·exact .inl (told_wrong (.inl ha))
 rcases hb with hb|⟨fb,qb⟩
 ·exact .inl (told_wrong (.inr hb))
 refine enq_told (fine_add a b) fun _ _ ho=>?_
 have m1:(a.l,b.l)∈prs2 a b:=by simp [prs2]
 have m2:(a.h,b.h)∈prs2 a b:=by simp [prs2]
 have l1:=low_le (N:=nA) m1;have l2:=le_high (N:=nA) m2;simp only [nA] at l1 l2;rw [(fa_val (ok_at ho m1).1).1] at l1;rw [(fa_val (ok_at ho m2).2).1] at l2;have hdd:0<d1*d2:=Int.mul_pos hd1 hd2;have p1:=Int.mul_le_mul_of_nonneg_right qa.1 (Int.le_of_lt hd2);have p2:=Int.mul_le_mul_of_nonneg_right qb.1 (Int.le_of_lt hd1);have p3:=Int.mul_le_mul_of_nonneg_right qa.2 (Int.le_of_lt hd2);have p4:=Int.mul_le_mul_of_nonneg_right qb.2 (Int.le_of_lt hd1);have g1:=Int.mul_le_mul_of_nonneg_right l1 (Int.le_of_lt hdd);have g2:=Int.mul_le_mul_of_nonneg_right l2 (Int.le_of_lt hdd);rw [show (a.l+b.l)*(d1*d2)=a.l*d1*d2+b.l*d2*d1 by rw [Int.add_mul,Int.mul_assoc,Int.mul_assoc,Int.mul_comm d2 d1]] at g1;rw [show (a.h+b.h)*(d1*d2)=a.h*d1*d2+b.h*d2*d1 by rw [Int.add_mul,Int.mul_assoc,Int.mul_assoc,Int.mul_comm d2 d1]] at g2;rw [show (n1*d2+n2*d1)*16777216=n1*16777216*d2+n2*16777216*d1 by rw [Int.add_mul,Int.mul_right_comm n1,Int.mul_right_comm n2]];constructor<;>omega
theorem enq_sub {a b:En} {n1 d1 n2 d2:Int} (hd1:0<d1) (hd2:0<d2) (ha:Enq a n1 d1) (hb:Enq b n2 d2):Enq (subE a b) (n1*d2-n2*d1) (d1*d2):=by
 rcases ha with ha|⟨fa,qa⟩
 ·exact .inl (told_wrong (.inl ha))
 rcases hb with hb|⟨fb,qb⟩
 ·exact .inl (told_wrong (.inr hb))
 refine enq_told (fine_sub a b) fun _ _ ho=>?_
 have m1:(a.l,b.h)∈prsX a b:=by simp [prsX]
 have m2:(a.h,b.l)∈prsX a b:=by simp [prsX]
 have l1:=low_le (N:=nS) m1;have l2:=le_high (N:=nS) m2;simp only [nS] at l1 l2;rw [(fs_val (ok_at ho m1).1).1] at l1;rw [(fs_val (ok_at ho m2).2).1] at l2;have hdd:0<d1*d2:=Int.mul_pos hd1 hd2;have p1:=Int.mul_le_mul_of_nonneg_right qa.1 (Int.le_of_lt hd2);have p2:=Int.mul_le_mul_of_nonneg_right qb.1 (Int.le_of_lt hd1);have p3:=Int.mul_le_mul_of_nonneg_right qa.2 (Int.le_of_lt hd2);have p4:=Int.mul_le_mul_of_nonneg_right qb.2 (Int.le_of_lt hd1);have g1:=Int.mul_le_mul_of_nonneg_right l1 (Int.le_of_lt hdd);have g2:=Int.mul_le_mul_of_nonneg_right l2 (Int.le_of_lt hdd);rw [show (a.l-b.h)*(d1*d2)=a.l*d1*d2-b.h*d2*d1 by rw [Int.sub_mul,Int.mul_assoc,Int.mul_assoc,Int.mul_comm d2 d1]] at g1;rw [show (a.h-b.l)*(d1*d2)=a.h*d1*d2-b.l*d2*d1 by rw [Int.sub_mul,Int.mul_assoc,Int.mul_assoc,Int.mul_comm d2 d1]] at g2;rw [show (n1*d2-n2*d1)*16777216=n1*16777216*d2-n2*16777216*d1 by rw [Int.sub_mul,Int.mul_right_comm n1,Int.mul_right_comm n2]];constructor<;>omega
def sclE (a:En) (d:Int):En:=⟨0,a.l*d,a.h*d,false⟩
theorem scl_mem {a b:En} {d1 d2:Int} {p:Int×Int} (h:p∈prs4 (sclE a d1) (sclE b d2)):∃ q∈prs4 a b,p=(q.1*d1,q.2*d2):=by
 simp only [prs4,sclE,List.mem_cons,List.not_mem_nil,or_false] at h;rcases h with h|h|h|h
 ·exact ⟨(a.l,b.l),by simp [prs4],h⟩
 ·exact ⟨(a.l,b.h),by simp [prs4],h⟩
 ·exact ⟨(a.h,b.l),by simp [prs4],h⟩
 ·exact ⟨(a.h,b.h),by simp [prs4],h⟩
theorem down_le (x c:Int) (hc:0<c):rnd x c 1*c≤x:=by rw [rnd_down];exact Int.ediv_mul_le x (by omega)
theorem le_up (x c:Int) (hc:0<c):x≤rnd x c 2*c:=by
 rw [rnd_up,Int.neg_mul];have:=Int.ediv_mul_le (-x) (show c≠0 by omega);omega
theorem enq_mul {a b:En} {n1 d1 n2 d2:Int} (hd1:0<d1) (hd2:0<d2) (ha:Enq a n1 d1) (hb:Enq b n2 d2):Enq (mulE a b) (n1*n2) (d1*d2):=by
 rcases ha with ha|⟨fa,qa⟩
 ·exact .inl (told_wrong (.inl ha))
 rcases hb with hb|⟨fb,qb⟩
 ·exact .inl (told_wrong (.inr hb))
 refine enq_told (fine_mul a b) fun _ _ ho=>?_
 have hdd:0<d1*d2:=Int.mul_pos hd1 hd2;obtain ⟨⟨p,mp,kp⟩,⟨q,mq,kq⟩⟩:=corners (a:=sclE a d1) (b:=sclE b d2) (x:=n1*16777216) (y:=n2*16777216) ⟨qa.1,qa.2⟩ ⟨qb.1,qb.2⟩;obtain ⟨p,mp',rfl⟩:=scl_mem mp;obtain ⟨q,mq',rfl⟩:=scl_mem mq;dsimp only at kp kq;have vp:=fm_inv (ok_at ho mp').1;have vq:=fm_inv (ok_at ho mq').2;have l1:=low_le (N:=fmN) mp';have l2:=le_high (N:=fmN) mq';rw [vp.2.2.1] at l1;rw [vq.2.2.1] at l2;have r1:=down_le (p.1*p.2) 16777216 (by decide);have r2:=le_up (q.1*q.2) 16777216 (by decide);have e:n1*16777216*(n2*16777216)=n1*n2*16777216*16777216:=by rw [Int.mul_assoc n1,Int.mul_left_comm 16777216 n2,←Int.mul_assoc,Int.mul_assoc (n1*n2)]
 rw [e,show p.1*d1*(p.2*d2)=p.1*p.2*(d1*d2) by rw [Int.mul_assoc,Int.mul_left_comm d1,←Int.mul_assoc]] at kp;rw [e,show q.1*d1*(q.2*d2)=q.1*q.2*(d1*d2) by rw [Int.mul_assoc,Int.mul_left_comm d1,←Int.mul_assoc]] at kq;constructor
 ·refine cancel_pos (k:=16777216) (by decide) ?_;have g1:=Int.mul_le_mul_of_nonneg_right (Int.le_trans (Int.mul_le_mul_of_nonneg_right l1 (show (0:Int)≤16777216 by decide)) r1) (Int.le_of_lt hdd);rw [Int.mul_right_comm];exact Int.le_trans g1 kp
 ·refine cancel_pos (k:=16777216) (by decide) ?_;have g2:=Int.mul_le_mul_of_nonneg_right (Int.le_trans r2 (Int.mul_le_mul_of_nonneg_right l2 (show (0:Int)≤16777216 by decide))) (Int.le_of_lt hdd);rw [Int.mul_right_comm (highF fmN (prs4 a b))];exact Int.le_trans kq g2
theorem szI_scl {x d:Int} (hd:0<d):szI (x*d)=szI x*d:=by
 unfold szI;by_cases h:x<0
 ·have:x*d<0:=Int.mul_neg_of_neg_of_pos h hd;rw [if_pos this,if_pos h,Int.neg_mul]
 ·have:¬ x*d<0:=by have:=Int.mul_nonneg (show 0≤x by omega) (Int.le_of_lt hd);omega
  rw [if_neg this,if_neg h]
theorem qn_mul {x y d e:Int} (he:0<e):qn (x*d) (y*e)=qn x y*d:=by
 unfold qn;by_cases h:y<0
 ·have:y*e<0:=Int.mul_neg_of_neg_of_pos h he;rw [if_pos this,if_pos h];simp only [Int.neg_mul];rw [Int.mul_right_comm]
 ·have:¬ y*e<0:=by have:=Int.mul_nonneg (show 0≤y by omega) (Int.le_of_lt he);omega
  rw [if_neg this,if_neg h,Int.mul_right_comm]
def sgI (x:Int):Int:=if x<0 then -1 else 1
theorem qn_sg (x y:Int):qn x y=x*sgI y*16777216:=by
 unfold qn sgI;split
 ·rw [Int.mul_neg,Int.mul_one]
 ·rw [Int.mul_one]
theorem enq_div {a b:En} {n1 d1 n2 d2:Int} (hd1:0<d1) (hd2:0<d2) (ha:Enq a n1 d1) (hb:Enq b n2 d2):Enq (divE a b) (n1*sgI n2*d2) (d1*szI n2):=by
 unfold divE;cases hz:zeroB b
 ·rw [if_neg (by simp)];rcases ha with ha|⟨fa,qa⟩
  ·exact .inl (told_wrong (.inl ha))
  rcases hb with hb|⟨fb,qb⟩
  ·exact .inl (told_wrong (.inr hb))
  have hfd:FineOr (toldE fdN fdB a b (prs4 a b)):=by
   have:=fine_div a b;unfold divE at this;rw [hz,if_neg (by simp)] at this;exact this
  refine enq_told hfd fun _ _ ho=>?_
  have hz':zeroB (sclE b d2)=false:=by
   unfold zeroB at hz ⊢;rw [Bool.and_eq_false_iff] at hz ⊢;rcases hz with h|h
   ·refine .inl (decide_eq_false fun k=>?_);have h':=of_decide_eq_false h;have:0<b.l*d2:=Int.mul_pos (by omega) hd2;have k':b.l*d2≤0:=k;omega
   ·refine .inr (decide_eq_false fun k=>?_);have h':=of_decide_eq_false h;have:b.h*d2<0:=Int.mul_neg_of_neg_of_pos (by omega) hd2;have k':0≤b.h*d2:=k;omega
  obtain ⟨⟨p,mp,kp⟩,⟨q,mq,kq⟩⟩:=qcorners (a:=sclE a d1) (b:=sclE b d2) (x:=n1*16777216) (y:=n2*16777216) hz' ⟨qa.1,qa.2⟩ ⟨qb.1,qb.2⟩;obtain ⟨p,mp',rfl⟩:=scl_mem mp;obtain ⟨q,mq',rfl⟩:=scl_mem mq;dsimp only at kp kq;have vp:=fd_inv (ok_at ho mp').1;have vq:=fd_inv (ok_at ho mq').2;have l1:=low_le (N:=fdN) mp';have l2:=le_high (N:=fdN) mq';rw [vp.2.2.2.1] at l1;rw [vq.2.2.2.1] at l2;have sp:=szI_pp vp.2.2.1;have sq:=szI_pp vq.2.2.1;have r1:=down_le (qn p.1 p.2) (szI p.2) sp;have r2:=le_up (qn q.1 q.2) (szI q.2) sq;have hU:(0:Int)<16777216:=by decide
  rw [qn_mul hd2,szI_scl hU,qn_mul hU,szI_scl hd2,qn_sg n1 n2] at kp kq;have n20:n2≠0:=by
   intro e;subst e;have h1:=qb.1;have h2:=qb.2;unfold zeroB at hz;rw [Bool.and_eq_false_iff] at hz;rcases hz with h|h
   ·have h':=of_decide_eq_false h;have:0<b.l*d2:=Int.mul_pos (by omega) hd2;omega
   ·have h':=of_decide_eq_false h;have:b.h*d2<0:=Int.mul_neg_of_neg_of_pos (by omega) hd2;omega
  have sn:=szI_pp n20;have hdn:0<d1*szI n2:=Int.mul_pos hd1 sn;generalize n1*sgI n2=m at *;generalize szI n2=t at *;generalize hP:qn p.1 p.2=P at *;generalize hQ:qn q.1 q.2=Q at *;generalize szI p.2=u at *;generalize szI q.2=v at *;constructor
  ·refine cancel_pos sp ?_;refine cancel_pos hU ?_;have g1:=Int.mul_le_mul_of_nonneg_right (Int.le_trans (Int.mul_le_mul_of_nonneg_right l1 (Int.le_of_lt sp)) r1) (Int.le_of_lt hdn);have g2:=Int.mul_le_mul_of_nonneg_right g1 (Int.le_of_lt hU);refine Int.le_trans (Int.le_of_eq ?_) (Int.le_trans g2 (Int.le_trans (Int.le_of_eq ?_) (Int.le_trans kp (Int.le_of_eq ?_))))
   ·ac_rfl
   ·ac_rfl
   ·ac_rfl
  ·refine cancel_pos sq ?_;refine cancel_pos hU ?_;have g1:=Int.mul_le_mul_of_nonneg_right (Int.le_trans r2 (Int.mul_le_mul_of_nonneg_right l2 (Int.le_of_lt sq))) (Int.le_of_lt hdn);have g2:=Int.mul_le_mul_of_nonneg_right g1 (Int.le_of_lt hU);refine Int.le_trans (Int.le_of_eq ?_) (Int.le_trans kq (Int.le_trans (Int.le_of_eq ?_) (Int.le_trans g2 (Int.le_of_eq ?_))))
   ·ac_rfl
   ·ac_rfl
   ·ac_rfl
 ·rw [if_pos rfl];exact .inl rfl
theorem enq_pt {x n d:Int} (hx:frB x=true) (e:x*d=n*16777216):Enq (ptE x true) n d:=
 .inr ⟨pt_fine hx,Int.le_of_eq e,Int.le_of_eq e.symm⟩
def itN (n:Int):En:=⟨n*16777216,n*16777216,n*16777216,false⟩
def Wn (n:Int):Prop:=-67108864≤n∧n≤67108864
theorem fr_it {n:Int} (h:Wn n):frB (n*16777216)=true:=frB_eq (by unfold Wn at h;omega)
def EncF (e:En) (f:Fr):Prop:=fineR f=true→Enq e f.n f.d
theorem encF_wrong (e:En):EncF e wrongR:=fun h=>by cases h
theorem fine_dp {f:Fr} (h:fineR f=true):0<f.d:=by have:=fineR_iff.1 h;omega
theorem encF_of {e:En} {q:Rat} {n d:Int} (hd:0<d) (hq:q=Rat.divInt n d) (h:Enq e n d):EncF e (ofQ q):=by
 intro hf;have hr:=fine_dp hf;have ok:okR q=true:=by rw [←ofQ_fine];exact hf
 have e1:=toQ_ofQ ok;unfold toQ at e1;have e2:=(Rat.divInt_eq_divInt_iff (by omega) (by omega)).1 (e1.trans hq);exact h.same hd hr e2.symm
theorem encF_add {a b:En} {f g:Fr} (ha:EncF a f) (hb:EncF b g):EncF (addE a b) (addR f g):=by
 unfold addR;cases hf:fineR f
 ·exact encF_wrong _
 cases hg:fineR g
 ·exact encF_wrong _
 have d1:=fine_dp hf;have d2:=fine_dp hg;exact encF_of (Int.mul_pos d1 d2) (by unfold toQ;rw [Rat.divInt_add_divInt _ _ (by omega) (by omega)]) (enq_add d1 d2 (ha hf) (hb hg))
theorem encF_sub {a b:En} {f g:Fr} (ha:EncF a f) (hb:EncF b g):EncF (subE a b) (subR f g):=by
 unfold subR;cases hf:fineR f
 ·exact encF_wrong _
 cases hg:fineR g
 ·exact encF_wrong _
 have d1:=fine_dp hf;have d2:=fine_dp hg;exact encF_of (Int.mul_pos d1 d2) (by unfold toQ;rw [Rat.divInt_sub_divInt _ _ (by omega) (by omega)]) (enq_sub d1 d2 (ha hf) (hb hg))
theorem encF_mul {a b:En} {f g:Fr} (ha:EncF a f) (hb:EncF b g):EncF (mulE a b) (mulR f g):=by
 unfold mulR;cases hf:fineR f
 ·exact encF_wrong _
 cases hg:fineR g
 ·exact encF_wrong _
 have d1:=fine_dp hf;have d2:=fine_dp hg;exact encF_of (Int.mul_pos d1 d2) (by unfold toQ;rw [Rat.divInt_mul_divInt]) (enq_mul d1 d2 (ha hf) (hb hg))
theorem encF_whole (n:Int):EncF (wholeN n) (wholeF n):=by
 unfold wholeF newR lowR;by_cases hg:(gvB n&&gvB 1)=true
 ·rw [if_pos hg,if_neg (by decide)];refine encF_of (d:=1) (by decide) rfl ?_;unfold wholeN;cases hb:foB n
  ·exact .inl rfl
  ·have hw:Wn n:=by unfold foB at hb;simp at hb;exact ⟨by omega,by omega⟩
   rw [show foN n=n*16777216 by unfold foN;rw [hb];rfl];exact enq_pt (fr_it hw) (by omega)
 ·rw [if_neg hg];exact encF_wrong _
def EncL:List En→List Fr→Prop
 |[],[]=>True
 |e::es,f::fs=>EncF e f∧EncL es fs
 |_,_=>False
theorem encL_of:∀ {es:List En} {fs:List Fr},es.length=fs.length→(∀ (k:Nat) (e:En) (f:Fr),es[k]?=some e→fs[k]?=some f→EncF e f)→EncL es fs
 |[],[],_,_=>trivial
 |e::es,f::fs,hl,h=>⟨h 0 e f rfl rfl,encL_of (by simpa using hl) fun k e' f' h1 h2=>h (k+1) e' f' (by simpa using h1) (by simpa using h2)⟩
 |[],_::_,hl,_=>by simp at hl
 |_::_,[],hl,_=>by simp at hl
theorem encL_mul:∀ {us:List En} {fs:List Fr} {bs:List En} {gs:List Fr},EncL us fs→EncL bs gs→EncL (List.zipWith mulE us bs) (List.zipWith mulR fs gs)
 |[],[],_,_,_,_=>trivial
 |_::_,_::_,[],[],_,_=>trivial
 |_::us,_::fs,_::bs,_::gs,h,k=>⟨encF_mul h.1 k.1,encL_mul h.2 k.2⟩
 |[],_::_,_,_,h,_=>h.elim
 |_::_,[],_,_,h,_=>h.elim
 |_::_,_::_,[],_::_,_,k=>k.elim
 |_::_,_::_,_::_,[],_,k=>k.elim
theorem encF_fold:∀ {es:List En} {fs:List Fr} {e:En} {f:Fr},EncL es fs→EncF e f→EncF (es.foldl addE e) (fs.foldl addR f)
 |[],[],_,_,_,h=>h
 |_::es,_::fs,_,_,hl,h=>by simp only [List.foldl_cons];exact encF_fold hl.2 (encF_add h hl.1)
 |[],_::_,_,_,h,_=>h.elim
 |_::_,[],_,_,h,_=>h.elim
theorem encF_sum {es:List En} {fs:List Fr} (h:EncL es fs):EncF (sumN es) (sumF fs):=encF_fold h (encF_whole 0)
theorem encF_dot {us:List En} {fs:List Fr} {bs:List En} {gs:List Fr} (h:EncL us fs) (k:EncL bs gs):EncF (dotN us bs) (dotF fs gs):=encF_sum (encL_mul h k)
def EncQ (e:En) (q:Rat):Prop:=Enq e q.num q.den
theorem den_pos (q:Rat):(0:Int)<q.den:=by have:=q.den_pos;omega
theorem rat_self (q:Rat):Rat.divInt q.num q.den=q:=Rat.num_divInt_den q
theorem encQ_of {e:En} {q:Rat} {n d:Int} (hd:0<d) (hq:q=Rat.divInt n d) (h:Enq e n d):EncQ e q:=by
 have hr:=den_pos q;have e2:=(Rat.divInt_eq_divInt_iff (by omega) (by omega)).1 ((rat_self q).trans hq);exact h.same hd hr e2.symm
theorem encQ_add {a b:En} {q r:Rat} (ha:EncQ a q) (hb:EncQ b r):EncQ (addE a b) (q+r):=by
 have d1:=den_pos q;have d2:=den_pos r;refine encQ_of (Int.mul_pos d1 d2) ?_ (enq_add d1 d2 ha hb);rw [←Rat.divInt_add_divInt _ _ (by omega) (by omega),rat_self,rat_self]
theorem encQ_sub {a b:En} {q r:Rat} (ha:EncQ a q) (hb:EncQ b r):EncQ (subE a b) (q-r):=by
 have d1:=den_pos q;have d2:=den_pos r;refine encQ_of (Int.mul_pos d1 d2) ?_ (enq_sub d1 d2 ha hb);rw [←Rat.divInt_sub_divInt _ _ (by omega) (by omega),rat_self,rat_self]
theorem encQ_mul {a b:En} {q r:Rat} (ha:EncQ a q) (hb:EncQ b r):EncQ (mulE a b) (q*r):=by
 have d1:=den_pos q;have d2:=den_pos r;refine encQ_of (Int.mul_pos d1 d2) ?_ (enq_mul d1 d2 ha hb);rw [←Rat.divInt_mul_divInt,rat_self,rat_self]
theorem encQ_div {a b:En} {q r:Rat} (h0:r≠0) (ha:EncQ a q) (hb:EncQ b r):EncQ (divE a b) (q/r):=by
 have d1:=den_pos q;have d2:=den_pos r;have hn:r.num≠0:=fun h=>h0 (Rat.num_eq_zero.1 h)
 refine encQ_of (Int.mul_pos d1 (szI_pp hn)) ?_ (enq_div d1 d2 ha hb);have e:q/r=Rat.divInt (q.num*r.den) (q.den*r.num):=by
  have e0:q/r=Rat.divInt q.num q.den/Rat.divInt r.num r.den:=by rw [rat_self,rat_self]
  rw [e0,Rat.div_def,Rat.inv_divInt,Rat.divInt_mul_divInt]
 rw [e];unfold sgI szI;by_cases hn:r.num<0
 ·rw [if_pos hn,if_pos hn,←Rat.neg_divInt_neg];rw [Int.mul_neg,Int.mul_neg,Int.mul_one,Int.neg_mul]
 ·rw [if_neg hn,if_neg hn,Int.mul_one]
theorem encQ_neg {a:En} {q:Rat} (ha:EncQ a q):EncQ (negE a) (-q):=by
 have h:EncQ (ptE 0 true) 0:=.inr ⟨by decide,by constructor<;>decide⟩;have:=encQ_sub h ha;rw [show (0:Rat)-q=-q by grind] at this;exact this
theorem encQ_whole (n:Int):EncQ (wholeN n) (n:Rat):=by
 refine encQ_of (d:=1) (n:=n) (by decide) (toQ_whole n).symm ?_;unfold wholeN;cases hb:foB n
 ·exact .inl rfl
 ·have hw:Wn n:=by unfold foB at hb;simp at hb;exact ⟨by omega,by omega⟩
  rw [show foN n=n*16777216 by unfold foN;rw [hb];rfl];exact enq_pt (fr_it hw) (by omega)
def EncR (es:List En) (qs:List Rat):Prop:=es.length=qs.length∧∀ (k:Nat) (e:En) (q:Rat),es[k]?=some e→qs[k]?=some q→EncQ e q
theorem encR_cons {e:En} {q:Rat} {es:List En} {qs:List Rat} (h:EncR (e::es) (q::qs)):EncQ e q∧EncR es qs:=
 ⟨h.2 0 e q rfl rfl,by have:=h.1;simpa using this,fun k a b h1 h2=>h.2 (k+1) a b h1 h2⟩
theorem encR_fold:∀ {es:List En} {qs:List Rat} {e:En} {q:Rat},EncR es qs→EncQ e q→EncQ (es.foldl addE e) (q+sumQ qs)
 |[],[],e,q,_,h=>by show EncQ e (q+0);rw [Rat.add_zero];exact h
 |[],_::_,_,_,h,_=>by have:=h.1;simp at this
 |_::_,[],_,_,h,_=>by have:=h.1;simp at this
 |a::es,b::qs,e,q,h,hq=>by
  obtain ⟨h1,h2⟩:=encR_cons h;show EncQ (es.foldl addE (addE e a)) (q+(b+sumQ qs));rw [←Rat.add_assoc];exact encR_fold h2 (encQ_add hq h1)
theorem encR_mul:∀ {us:List En} {qs:List Rat} {vs:List En} {rs:List Rat},EncR us qs→EncR vs rs→EncR (List.zipWith mulE us vs) (List.zipWith (· * ·) qs rs):=by
 intro us qs vs rs h k;refine ⟨by rw [List.length_zipWith,List.length_zipWith,h.1,k.1],fun i e q h1 h2=>?_⟩;rw [List.getElem?_zipWith] at h1 h2;cases a1:us[i]? with
 |none=>rw [a1] at h1;simp at h1
 |some a =>
  cases a2:vs[i]? with
  |none=>rw [a1,a2] at h1;simp at h1
  |some b =>
   cases a3:qs[i]? with
   |none=>rw [a3] at h2;simp at h2
   |some c =>
    cases a4:rs[i]? with
    |none=>rw [a3,a4] at h2;simp at h2
    |some d =>
     rw [a1,a2] at h1;rw [a3,a4] at h2;cases h1;cases h2;exact encQ_mul (h.2 i a c a1 a3) (k.2 i b d a2 a4)
theorem encR_dot {us:List En} {qs:List Rat} {vs:List En} {rs:List Rat} (h:EncR us qs) (k:EncR vs rs):EncQ (dotN us vs) (dotQ qs rs):=by
 have:=encR_fold (encR_mul h k) (encQ_whole 0);rw [show ((0:Int):Rat)+sumQ (List.zipWith (· * ·) qs rs)=dotQ qs rs by unfold dotQ;grind] at this;exact this
theorem encR_tail {m k:Nat} {f:Nat→En} {g:Nat→Rat} (h:∀ c,k≤c→c<m→EncQ (f c) (g c)):EncR (tailH m k f) ((List.range (m-k)).map fun j=>g (k+j)):=by
 refine ⟨by unfold tailH;simp,fun j e q h1 h2=>?_⟩;have hj:j<m-k:=by have:=(List.getElem?_eq_some_iff.1 h1).1;unfold tailH at this;simpa using this
 unfold tailH at h1;rw [List.getElem?_map,List.getElem?_range hj] at h1 h2;cases h1;cases h2;exact h _ (by omega) (by omega)
theorem encR_dT {m k:Nat} {f f':Nat→En} {g g':Nat→Rat} (h:∀ c,k≤c→c<m→EncQ (f c) (g c)) (h':∀ c,k≤c→c<m→EncQ (f' c) (g' c)):EncQ (dotN (tailH m k f) (tailH m k f')) (dT m k g g'):=by
 have:=encR_dot (encR_tail h) (encR_tail h')
 rwa [dotQ_sumH] at this
theorem num_q (q:Rat):(q.num:Rat)=q*((q.den:Int):Rat):=by
 have h:=rat_self q;rw [Rat.divInt_eq_div] at h;have d:((q.den:Int):Rat)≠0:=fun h0=>by
  have:=den_pos q;have:=Rat.intCast_eq_zero_iff.1 h0;omega
 grind
theorem encQ_iff {e:En} {q:Rat}:EncQ e q↔e=wrongE∨(fineB e=true∧(e.l:Rat)≤q*16777216∧q*16777216≤(e.h:Rat)):=by
 have d:=Rat.intCast_pos.2 (den_pos q);have hn:=num_q q;have c:((16777216:Int):Rat)=16777216:=rfl;have k1:e.l*(q.den:Int)≤q.num*16777216↔(e.l:Rat)≤q*16777216:=by
  rw [←Rat.intCast_le_intCast,Rat.intCast_mul,Rat.intCast_mul,c,hn];constructor
  ·intro h;refine Rat.not_lt.1 fun hh=>?_
   have:=Rat.mul_lt_mul_of_pos_right hh d;grind
  ·intro h;have:=Rat.mul_le_mul_of_nonneg_right h (Rat.le_of_lt d);grind
 have k2:q.num*16777216≤e.h*(q.den:Int)↔q*16777216≤(e.h:Rat):=by
  rw [←Rat.intCast_le_intCast,Rat.intCast_mul,Rat.intCast_mul,c,hn];constructor
  ·intro h;refine Rat.not_lt.1 fun hh=>?_
   have:=Rat.mul_lt_mul_of_pos_right hh d;grind
  ·intro h;have:=Rat.mul_le_mul_of_nonneg_right h (Rat.le_of_lt d);grind
 unfold EncQ Enq QIn;rw [k1,k2]
theorem root_bd {a:En} (hb:(rootE a).bad=false):fineB a=true∧fineB (rootE a)=true∧∃ r t:Int,0≤r∧0≤t∧(rootE a).l≤r∧t≤(rootE a).h∧r*r≤a.l*16777216∧a.h*16777216≤t*t:=by
 rcases fine_root a with hf|⟨_,hf⟩
 ·rw [hf] at hb;cases hb
 cases hk:okE bQ a a (prs2 a a)
 ·rw [show rootE a=wrongE from told_bad hk] at hb;cases hb
 obtain ⟨h0,ha,_,ho⟩:=okE_iff.1 hk;have et:rootE a=⟨nQ a.v a.v 0,lowF nQ (prs2 a a),highF nQ (prs2 a a),false⟩:=told_ok hk;have m1:(a.l,a.l)∈prs2 a a:=by simp [prs2]
 have m2:(a.h,a.h)∈prs2 a a:=by simp [prs2]
 have v1:=(ok_at ho m1).1;have v2:=(ok_at ho m2).2;have l1:=low_le (N:=nQ) m1;have l2:=le_high (N:=nQ) m2;simp only [bQ,nQ] at v1 v2 l1 l2;have k1:=fqB_ok v1;have k2:=fqB_ok v2;obtain ⟨r,t,_,r0,_,t0,_,ea,ht,x1,_,_⟩:=fq_vals a.l k1.1 k1.2.1;obtain ⟨r',t',_,r0',_,t0',_,ea',ht',_,x2,_⟩:=fq_vals a.h k2.1 k2.2.1;rw [x1.1] at l1;rw [x2.1] at l2;obtain ⟨s,hs⟩:∃ s,s=upI r' (decide (0<t')):=⟨_,rfl⟩;rw [←hs] at l2;have hss:a.h*16777216≤s*s∧0≤s:=by
  rw [hs,ea'];unfold upI;by_cases k:0<t'
  ·simp only [decide_eq_true k,if_true];rw [Int.add_mul,Int.mul_add,Int.mul_one,Int.one_mul];exact ⟨by omega,by omega⟩
  ·simp only [decide_eq_false k];exact ⟨by simp;omega,by simpa using r0'⟩
 refine ⟨ha,hf,r,s,r0,hss.2,?_,?_,by omega,hss.1⟩
 ·rw [et];exact l1
 ·rw [et];exact l2
theorem nat_root (N:Nat):∃ q:Nat,q*q≤N∧N<(q+1)*(q+1):=by
 induction N with
 |zero=>exact ⟨0,by omega,by omega⟩
 |succ N ih =>
  obtain ⟨q,h1,h2⟩:=ih;by_cases h:N+1<(q+1)*(q+1)
  ·exact ⟨q,by omega,h⟩
  ·refine ⟨q+1,by omega,?_⟩;have:(q+1+1)*(q+1+1)=(q+1)*(q+1)+2*(q+1)+1:=by
    rw [Nat.add_mul (q+1) 1,Nat.mul_add];omega
   omega
theorem cancelQ {a b c:Rat} (hc:0<c) (h:a*c≤b*c):a≤b:=by
 refine Rat.not_lt.1 fun hh=>?_
 have:=Rat.mul_lt_mul_of_pos_right hh hc;grind
theorem sq_leQ {a b:Rat} (ha:0≤a) (hb:0≤b) (h:a*a≤b*b):a≤b:=by
 refine Rat.not_lt.1 fun hh=>?_
 have h1:=Rat.mul_lt_mul_of_pos_right hh (show 0<a by grind);have h2:=Rat.mul_le_mul_of_nonneg_right (Rat.le_of_lt hh) hb;grind
theorem near_root {x e:Rat} {r t:Int} (hr:0≤r) (ht:0≤t) (h1:(r:Rat)*r≤x) (h2:x≤(t:Rat)*t) (he:0<e):∃ z:Rat,(r:Rat)≤z∧z≤t∧z*z≤x∧x-z*z≤e:=by
 have hrQ:(0:Rat)≤r:=Rat.intCast_nonneg.2 hr;have htQ:(0:Rat)≤t:=Rat.intCast_nonneg.2 ht;have hx:0≤x:=Rat.le_trans (Rat.mul_nonneg hrQ hrQ) h1;obtain ⟨M,hM1,hM⟩:∃ M:Int,1≤M∧2*(t:Rat)+1≤e*(M:Rat):=by
  have hf:=Rat.lt_floor_add_one ((2*(t:Rat)+1)/e);have h0:0≤(2*(t:Rat)+1)/e:=by
   rw [Rat.div_def];exact Rat.mul_nonneg (by grind) (Rat.le_of_lt (Rat.inv_pos.2 he))
  refine ⟨((2*(t:Rat)+1)/e).floor+1,?_,?_⟩
  ·have:(0:Rat)<((((2*(t:Rat)+1)/e).floor+1:Int):Rat):=by grind
   have:=Rat.intCast_pos.1 this;omega
  ·have:=Rat.mul_le_mul_of_nonneg_right (Rat.le_of_lt hf) (Rat.le_of_lt he);have e1:(2*(t:Rat)+1)/e*e=2*(t:Rat)+1:=by grind
   grind
 obtain ⟨m,hm⟩:∃ m:Rat,m=(M:Rat):=⟨_,rfl⟩;have hm1:1≤m:=by rw [hm];have:=Rat.intCast_le_intCast.2 hM1;exact this
 have hm0:0<m:=by grind
 rw [←hm] at hM;have hmm:0<m*m:=Rat.mul_pos hm0 hm0;have hxm:0≤x*(m*m):=Rat.mul_nonneg hx (Rat.le_of_lt hmm);obtain ⟨q,g1,g2⟩:=nat_root (x*(m*m)).floor.toNat;have hfl:0≤(x*(m*m)).floor:=by
  have:=Rat.lt_floor_add_one (x*(m*m));have h3:(0:Rat)<(((x*(m*m)).floor+1:Int):Rat):=by grind
  have:=Rat.intCast_pos.1 h3;omega
 have g1':((q:Int)*(q:Int))≤(x*(m*m)).floor:=by
  have:((q*q:Nat):Int)≤(x*(m*m)).floor:=by omega
  rwa [Int.natCast_mul] at this
 have g2':(x*(m*m)).floor+1≤((q:Int)+1)*((q:Int)+1):=by
  have:(x*(m*m)).floor+1≤(((q+1)*(q+1):Nat):Int):=by omega
  rw [Int.natCast_mul] at this;exact this
 obtain ⟨k,hk⟩:∃ k:Rat,k=((q:Int):Rat):=⟨_,rfl⟩;have k0:0≤k:=by rw [hk];exact Rat.intCast_nonneg.2 (by omega)
 have a1:k*k≤x*(m*m):=by
  have:=Rat.intCast_le_intCast.2 g1';rw [Rat.intCast_mul,←hk] at this;exact Rat.le_trans this (Rat.floor_le _)
 have a2:x*(m*m)<(k+1)*(k+1):=by
  have h3:=Rat.intCast_le_intCast.2 g2';rw [Rat.intCast_mul,Rat.intCast_add ((q:Int)),←hk] at h3;have h4:=Rat.lt_floor_add_one (x*(m*m));have h5:((1:Int):Rat)=1:=rfl;rw [h5] at h3;grind
 obtain ⟨y,hy⟩:∃ y,y=k/m:=⟨_,rfl⟩;have ym:y*m=k:=by rw [hy];grind
 have y0:0≤y:=by
  refine cancelQ hm0 ?_;rw [ym];grind
 have yx:y*y≤x:=by
  refine cancelQ hmm ?_;have:y*y*(m*m)=k*k:=by rw [←ym];grind
  rw [this];exact a1
 have yt:y≤t:=sq_leQ y0 htQ (Rat.le_trans yx h2);have near:x-y*y≤e:=by
  refine cancelQ hmm ?_;have e1:(x-y*y)*(m*m)=x*(m*m)-k*k:=by rw [←ym];grind
  rw [e1];have e2:k≤t*m:=by rw [←ym];exact Rat.mul_le_mul_of_nonneg_right yt (Rat.le_of_lt hm0)
  have e3:(2*(t:Rat)+1)*m≤e*m*m:=Rat.mul_le_mul_of_nonneg_right hM (Rat.le_of_lt hm0);grind
 by_cases hry:(r:Rat)≤y
 ·exact ⟨y,hry,yt,yx,near⟩
 ·have hyr:y≤r:=by grind
  refine ⟨r,Rat.le_refl,sq_leQ hrQ htQ (Rat.le_trans h1 h2),h1,?_⟩;have h3:=Rat.mul_le_mul_of_nonneg_right hyr y0;have h4:=Rat.mul_le_mul_of_nonneg_right hyr hrQ;grind
theorem encQ_root {a:En} {x e:Rat} (ha:EncQ a x) (hb:(rootE a).bad=false) (he:0<e):∃ z:Rat,0≤z∧EncQ (rootE a) z∧z*z≤x∧x-z*z≤e:=by
 obtain ⟨fa,fr,r,t,r0,t0,lr,th,hr,ht⟩:=root_bd hb;rcases encQ_iff.1 ha with h|⟨_,h1,h2⟩
 ·rw [h] at fa;cases fa
 have c:((16777216:Int):Rat)=16777216:=rfl;have hr':=Rat.intCast_le_intCast.2 hr;have ht':=Rat.intCast_le_intCast.2 ht;rw [Rat.intCast_mul,Rat.intCast_mul,c] at hr' ht';obtain ⟨z,z1,z2,z3,z4⟩:=near_root (x:=x*16777216*16777216) (e:=e*16777216*16777216) r0 t0 (by grind) (by grind) (by grind);have rQ:(0:Rat)≤r:=Rat.intCast_nonneg.2 r0;have lQ:=Rat.intCast_le_intCast.2 lr;have tQ:=Rat.intCast_le_intCast.2 th;refine ⟨z/16777216,?_,encQ_iff.2 (.inr ⟨fr,?_,?_⟩),?_,?_⟩
 ·grind
 ·grind
 ·grind
 ·grind
 ·grind
theorem told_fine {N:Int→Int→Int→Int} {B:Int→Int→Int→Bool} {a b:En} {ps:List (Int×Int)} (h:(toldE N B a b ps).bad=false):fineB a=true∧fineB b=true:=by
 cases hk:okE B a b ps
 ·rw [told_bad hk] at h;cases h
 ·obtain ⟨_,ha,hb,_⟩:=okE_iff.1 hk;exact ⟨ha,hb⟩
theorem fine_nb {a:En} (h:fineB a=true):a.bad=false:=(fineB_iff.1 h).1
theorem div_nz {a b:En} (h:(divE a b).bad=false):zeroB b=false∧fineB a=true∧fineB b=true:=by
 unfold divE at h;cases hz:zeroB b
 ·rw [hz] at h;exact ⟨rfl,told_fine h⟩
 ·rw [hz] at h;cases h
theorem encQ_div' {a b:En} {q r:Rat} (ha:EncQ a q) (hb:EncQ b r):EncQ (divE a b) (q/r)∧((divE a b).bad=false→r≠0):=by
 by_cases h0:r=0
 ·have hw:(divE a b).bad=false→False:=fun h=>by
   obtain ⟨hz,_,hfb⟩:=div_nz h;rcases encQ_iff.1 hb with e|⟨_,h1,h2⟩
   ·rw [e] at hfb;cases hfb
   ·rw [h0,Rat.zero_mul] at h1 h2;have i1:=Rat.intCast_nonpos.1 h1;have i2:=Rat.intCast_nonneg.1 h2;unfold zeroB at hz;simp at hz;omega
  refine ⟨?_,fun h=>(hw h).elim⟩;have:divE a b=wrongE:=by
   cases hz:zeroB b
   ·rcases (show FineOr (divE a b) from fine_div a b) with e|⟨e,_⟩
    ·exact e
    ·exact (hw e).elim
   ·unfold divE;rw [hz];rfl
  rw [this];exact .inl rfl
 ·exact ⟨encQ_div h0 ha hb,fun _=>h0⟩
def qV (k:Nat) (p:Rat) (a:Nat→Nat→Rat) (j:Nat):Rat:=if j=k then a k k-p else a k j
def qT (m k:Nat) (p:Rat) (a:Nat→Nat→Rat) (i:Nat):Rat:=(dT m k (a i) (qV k p a)+dT m k (a i) (qV k p a))/dT m k (qV k p a) (qV k p a)
def qStep (m k:Nat) (p:Rat) (a:Nat→Nat→Rat) (i j:Nat):Rat:=
 if i=k then (if j=k then p else if k<j then 0 else a i j) else if k<i∧k≤j then a i j-qV k p a j*qT m k p a i else a i j
theorem encQ_step {n m k:Nat} (hkn:k<n) (hnm:n≤m) {b:Bool} {A:Nat→Nat→En} {B:Nat→Nat→Rat} {p:Rat} (h:∀ i j,i<n→j<m→EncQ (A i j) (B i j)) (hp:EncQ (pH kdN m k b A) p) :
  (∀ i j,i<n→j<m→EncQ (foldStep kdN m k b A i j) (qStep m k p B i j))∧∀ i,i<n→(tH kdN m k b A i).bad=false→EncQ (tH kdN m k b A i) (qT m k p B i)∧dT m k (qV k p B) (qV k p B)≠0:=by
 have hv:∀ c,k≤c→c<m→EncQ (vH kdN m k b A c) (qV k p B c):=fun c h1 h2=>by
  unfold vH qV;by_cases hc:c=k
  ·rw [if_pos hc,if_pos hc];exact encQ_sub (h k k hkn (by omega)) hp
  ·rw [if_neg hc,if_neg hc];exact h k c hkn h2
 have hvv:=encR_dT hv hv;have ht:∀ i,i<n→EncQ (tH kdN m k b A i) (qT m k p B i)∧((tH kdN m k b A i).bad=false→dT m k (qV k p B) (qV k p B)≠0):=fun i hi=>by
  have hd:=encR_dT (m:=m) (k:=k) (f:=A i) (g:=B i) (fun c _ h2=>h i c hi h2) hv;exact encQ_div' (encQ_add hd hd) hvv
 refine ⟨fun i j hi hj=>?_,fun i hi hb=>⟨(ht i hi).1,(ht i hi).2 hb⟩⟩;unfold foldStep qStep;by_cases h1:i=k
 ·rw [if_pos h1,if_pos h1];by_cases h2:j=k
  ·rw [if_pos h2,if_pos h2];exact hp
  ·rw [if_neg h2,if_neg h2];by_cases h3:k<j
   ·rw [if_pos h3,if_pos h3];exact encQ_whole 0
   ·rw [if_neg h3,if_neg h3];exact h i j hi hj
 ·rw [if_neg h1,if_neg h1];by_cases h2:k<i∧k≤j
  ·rw [if_pos h2,if_pos h2];exact encQ_sub (h i j hi hj) (encQ_mul (hv j h2.2 hj) (ht i hi).1)
  ·rw [if_neg h2,if_neg h2];exact h i j hi hj
theorem gram_step {m k:Nat} (hkm:k<m) {B:Nat→Nat→Rat} {p h:Rat} (hp:p*p=dT m k (B k) (B k)+h) (hz:∀ i c,i<k→i<c→c<m→B i c=0) {i j:Nat} (hij:i≤j) (hvv:k<j→dT m k (qV k p B) (qV k p B)≠0) :
  sumH m (fun c=>qStep m k p B i c*qStep m k p B j c)=sumH m (fun c=>B i c*B j c)+(if i=k then (if j=k then h else h*qT m k p B j/2) else 0):=by
 have hm:m=k+(m-k):=by omega
 have hs:∀ f:Nat→Rat,sumH m f=sumH k f+sumH (m-k) fun j=>f (k+j):=fun f=>by
  have:=sumH_split f k (m-k);rw [←hm] at this;exact this
 have old:∀ i c,c<k→qStep m k p B i c=B i c:=fun i c hc=>by
  unfold qStep;by_cases h:i=k
  ·rw [if_pos h,if_neg (by omega),if_neg (by omega)]
  ·rw [if_neg h,if_neg (by omega)]
 have low:∀ i c,i<k→qStep m k p B i c=B i c:=fun i c hc=>by
  unfold qStep;rw [if_neg (by omega),if_neg (by omega)]
 have new:∀ i c,k<i→k≤c→qStep m k p B i c=B i c-qV k p B c*qT m k p B i:=fun i c h1 h2=>by
  unfold qStep;rw [if_neg (by omega),if_pos ⟨h1,h2⟩]
 rw [hs,hs,sumH_congr k (g:=fun c=>B i c*B j c) fun c hc=>by rw [old i c hc,old j c hc],Rat.add_assoc]
 congr 1
 show dT m k (fun c=>qStep m k p B i c) (fun c=>qStep m k p B j c)=dT m k (B i) (B j)+_;by_cases h1:i<k
 ·rw [if_neg (by omega),Rat.add_zero,dT_zero (fun c h2 h3=>by rw [low i c h1];exact hz i c h1 (by omega) h3),dT_zero (fun c h2 h3=>hz i c h1 (by omega) h3)]
 ·by_cases h2 : i = k
  ·rw [if_pos h2];subst h2;have hz':∀ c,i<c→c<m→qStep m i p B i c=0:=fun c h3 _=>by
    unfold qStep;rw [if_pos rfl,if_neg (by omega),if_pos h3]
   have hpp:qStep m i p B i i=p:=by unfold qStep;rw [if_pos rfl,if_pos rfl]
   rw [dT_one hkm hz',hpp];by_cases h3:j=i
   ·subst h3;rw [if_pos rfl,hpp,hp]
   ·rw [if_neg h3,new j i (by omega) (Nat.le_refl _)];have hvv':=hvv (by omega);obtain ⟨t,ht⟩:∃ t,t=qT m i p B j:=⟨_,rfl⟩;rw [←ht];have v3:t*dT m i (qV i p B) (qV i p B)=dT m i (B j) (qV i p B)+dT m i (B j) (qV i p B):=by
     rw [ht];unfold qT;grind
    have v1:qV i p B i=B i i-p:=by unfold qV;rw [if_pos rfl]
    have ev:∀ g:Nat→Rat,dT m i (qV i p B) g=dT m i (B i) g-p*g i:=fun g=>by
     rw [dT_congr (f':=fun c=>B i c-(if c=i then (1:Rat) else 0)*p) (g':=g) (fun c h4 h5=>by
      unfold qV;by_cases hc:c=i
      ·subst hc;rw [if_pos rfl,if_pos rfl];grind
      ·rw [if_neg hc,if_neg hc];grind) (fun _ _ _=>rfl)]
     rw [dT_subl,dT_one (f:=fun c=>if c=i then (1:Rat) else 0) hkm (fun c h4 _=>if_neg (by omega)),if_pos rfl];grind
    have e1:=ev (B j);have e2:=ev (qV i p B);have e3:=ev (B i);rw [dT_comm m i (B i) (qV i p B)] at e2;rw [dT_comm m i (B j) (qV i p B)] at v3;rw [v1] at e2 ⊢;rw [e3] at e2;rw [e2,e1] at v3;grind
  ·rw [if_neg h2,Rat.add_zero];have hvv':=hvv (by omega);rw [dT_congr (fun c h3 h4=>new i c (by omega) h3) (fun c h3 h4=>new j c (by omega) h3)];refine dT_fold hvv' ?_ ?_
   ·unfold qT;grind
   ·unfold qT;grind
end Go.Proofs.YtljmggemdkfbiaaGreat
