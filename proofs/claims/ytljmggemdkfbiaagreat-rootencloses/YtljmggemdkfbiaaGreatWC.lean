/- Worlds between which nothing has turned but two blocks, each stored once. -/
import Derived.Test.YtljmggemdkfbiaaGreatWB
import Derived.RangeFuncNested
import Derived.RangeFuncBound
import Derived.RangeFuncCalls
import Derived.RangeFuncLeaves
import Derived.Shelf.Abstract
import Derived.Shelf.RegionOpen
import Derived.OwnWalkIn
import Derived.TacticsInMore
import Derived.LoopNIn
import Derived.LoopIn
import Derived.Laws.EntriesVeiled
import Derived.Laws.IdiomCopy
namespace Go.Proofs.YtljmggemdkfbiaaGreat
open Go.RowKit
set_option linter.unusedSimpArgs false
set_option linter.unusedVariables false
theorem tSquareF (r c:Int) (p:Option Addr) (n cap:Nat) (w:World) :
  Calls Tryz.prog 89 #[mV r c p n cap] w fun e w'=>e=.returned (.bool (sqB r c n))∧Bl w w':=by
 obtain ⟨W,hW⟩:∃ W,W=w.alloc (.cells #[.int .i64 r,.int .i64 c,.slice p n cap] 30):=⟨_,rfl⟩;have b0:Bl w W:=by rw [hW];exact (Bl.refl _).alloc _
 have m0:MBox W w.heap.size r c p n cap:=by rw [hW];exact MBox.new w _ _ _ _ _ _
 have HW:=hideP hW;clear hW;have hd:sqB r c n=(fitB r c n&&(r==c)):=by unfold sqB;congr 1
 rw [hd];clear hd;cases hf:fitB r c n
 ·go_enter Tryz.func89,Tryz.ntmps89;go_wp2_with fail
  rw [←HW.out];refine (mRightF _ _ _ _ _ _).mono ?_;rintro e w1 ⟨rfl,h1⟩;rw [hf];obtain ⟨c0,c1,c2,f0,f1,f2,lt⟩:=m0.later h1;go_wp2;go_ret;exact ⟨rfl,b0.trans h1⟩
 ·go_enter Tryz.func89,Tryz.ntmps89;go_wp2_with fail
  rw [←HW.out];refine (mRightF _ _ _ _ _ _).mono ?_;rintro e w1 ⟨rfl,h1⟩;rw [hf];obtain ⟨c0,c1,c2,f0,f1,f2,lt⟩:=m0.later h1;go_wp2;go_ret;exact ⟨by rw [Bool.true_and];rfl,b0.trans h1⟩
set_option maxHeartbeats 1000000 in
theorem vWholeOF (p:Option Addr) (n cap:Nat) (ns:List Int) (w:World) (h:Rq 1 (fun n=>[.int .i64 n]) w (.slice p n cap) ns) (hn:ns.length=n) (h0:0<n) (hl:n≤1000000) :
  Calls Tryz.prog 16 #[.slice p n cap] w fun e w'=>∃ u,e=.returned u∧w'.ownsRow w.heap.size 34 3 u n ((ns.map wholeF).flatMap cellsF)∧Bl w w':=by
 obtain ⟨i0,hi,hz0,hz1,hz2⟩:=info_parts Tryz.info_F;subst hn;rcases h with ⟨p',cap',he,rfl,hpn⟩|⟨b,o,cap',he,hc,hb,hx⟩
 ·simp at h0
 ·cases he;have HX:=hideP hx;clear hx
  go_enter Tryz.func16,Tryz.ntmps16;go_wp2_with (at_make;refine wpList_make_own _ rfl _ _ 28 rfl w.heap.size 34 i0 (.agg #[.int .i64 0,.int .i64 0,.bool false]) 3 Tryz.underlying28 hi hz0 hz1 .i64 .i64 _ ns.length rfl rfl (by simp) (by rw [hz2];omega) (by unfold maxLen;omega) (Nat.le_refl _) ?_;intro w0 hown0 hgrow0)
  have hB0:Bl w w0:=(Bl.refl w).grown hgrow0 (by omega) (fun k e=>by cases e)
  go_loopw [3,11] (fun v i wr=>∃ k:Nat,i=.int .i64 k∧k≤ns.length∧wr.ownsRow w.heap.size 34 3 v ((ns.take k).map wholeF).length (((ns.take k).map wholeF).flatMap cellsF)∧Bl w wr) (fun _ i _=>ns.length-(intOf i).toNat)
  case atStart=>exact ⟨0,rfl,Nat.zero_le _,hown0,hB0⟩
  case round =>
   obtain ⟨k,rfl,hk,hown,hB⟩:=hrel;by_cases hlt:k<ns.length
   ·obtain ⟨x,hx⟩:∃ x,ns[k]?=some x:=⟨_,List.getElem?_eq_getElem hlt⟩;have y0:wr.cell? ⟨b,o+k,none⟩=some (.int .i64 x):=by
     have:=(bl_cell hB _ _ hb).trans (HX.out k x hx 0 _ rfl);simpa using this
    have hT:(ns.take (k+1)).map wholeF=(ns.take k).map wholeF++[wholeF x]:=by rw [List.take_add_one,hx];simp
    have hkl:((ns.take k).map wholeF).length=k:=by simp;omega
    have HK:=hideP hkl;clear hkl;have HT:=hideP hT;clear hT;generalize hys:(ns.take k).map wholeF=ys at *;clear hys;go_wp2_with fail
    refine (vwholeF x _).mono ?_;rintro e w2 ⟨rfl,h2⟩;have hr:wholeF x=(newR x 1):=rfl;generalize (newR x 1)=r at *;rw [hr] at HT;clear hr y0;replace hown:=own_blF hown h2;replace hB:=hB.trans h2;have hkk:=HK.out;go_wp2_with (at_builtin;refine wpList_append_own _ rfl _ _ 28 rfl w.heap.size 34 i0 (.agg #[.int .i64 0,.int .i64 0,.bool false]) 3 24 Tryz.underlying28 hi hz0 hz1 hz2 rfl (by decide) _ _ _ rfl (hown.alloc _) ⟨_,0,none⟩ 1 1 (cellsF r) rfl rfl (newF_cells _ _ _) (oneF_cells _) (by unfold maxLen;omega) (by omega) (by have:=hB.size;simp;omega) ?_;intro v' w1 hown' hgrow _)
    have R:=ownF_step hB hown hown' hgrow;clear hown hown' hgrow;go_wp2;go_roundw
    case rel=>exact ⟨k+1,by simp,hlt,by rw [HT.out];exact R.2,R.1⟩
    case measure=>simp [intOf];omega
   ·have hk':k=ns.length:=by omega
    subst hk';rw [List.take_length,List.length_map] at hown;have R:=hideP hown;clear hown;go_wp2;go_ret;exact ⟨_,rfl,R.out,hB⟩
theorem mWholeOF (r c:Int) (p:Option Addr) (n cap:Nat) (ns:List Int) (w:World) (hr:Rq 1 (fun n=>[.int .i64 n]) w (.slice p n cap) ns) (h:fitB r c n=true) (hn:ns.length=n) :
  Calls Tryz.prog 12 #[.int .i64 r,.int .i64 c,.slice p n cap] w fun e w'=>∃ g cap',e=.returned (.tuple #[mV r c (some ⟨g,0,none⟩) n cap',.bool true])∧w'.ownsRow (w.heap.size+1) 34 3 (.slice (some ⟨g,0,none⟩) n cap') n ((ns.map wholeF).flatMap cellsF)∧Bl w w':=by
 have hl:n≤1000000∧0<n:=by obtain ⟨R,C,_,_,hd,rfl⟩:=fitB_nat h;have:=hd.lt;exact ⟨by omega,Nat.mul_pos hd.r1 hd.c1⟩
 obtain ⟨W,hW⟩:∃ W,W=w.alloc (.cells #[.int .i64 0,.int .i64 0,.slice none 0 0] 30):=⟨_,rfl⟩;have b0:Bl w W:=by rw [hW];exact (Bl.refl _).alloc _
 have x0:MBox W w.heap.size 0 0 none 0 0:=by rw [hW];exact MBox.new w 0 0 none 0 0 _
 have hsz:W.heap.size=w.heap.size+1:=by rw [hW];simp
 have CL:=hideP (vWholeOF p n cap ns W (hr.later b0) hn hl.2 hl.1);rw [hsz] at CL;have HW:=hideP hW;clear hW hr
 go_enter Tryz.func12,Tryz.ntmps12;go_wp2_with fail
 rw [←HW.out];refine (fits_any _ _ _ _).mono ?_;rintro e w1 ⟨rfl,rfl⟩;rw [h];go_wp2_with fail
 refine CL.out.mono ?_;rintro e w2 ⟨u,rfl,hR,h2⟩;obtain ⟨g,cap',hu⟩:∃ g cap',u=.slice (some ⟨g,0,none⟩) n cap':=by
  rcases hR.2 with ⟨rfl,e⟩|⟨g,cap',cur,rfl,_⟩
  ·have:=hl.2;omega
  ·exact ⟨g,cap',rfl⟩
 subst hu;have HR:=hideP hR;obtain ⟨c0,c1,c2,f0,f1,f2,lt⟩:=x0.later h2;clear hR CL;go_wp2;simp [bodyPost,results,Tryz.results12,go_sem,c0,c1,c2];refine ⟨g,cap',⟨rfl,rfl⟩,?_,Bl.put3 (b0.trans h2) (Nat.le_refl _) _ _ _⟩;exact ownsRow_setCell_below (ownsRow_setCell_below (ownsRow_setCell_below HR.out (a:=⟨w.heap.size,0,none⟩) (Nat.lt_succ_self _) _) (a:=⟨w.heap.size,1,none⟩) (Nat.lt_succ_self _) _) (a:=⟨w.heap.size,2,none⟩) (Nat.lt_succ_self _) _
theorem own_putF {w:World} {base g m cap:Nat} {xs:List Fr} (h:w.ownsRow base 34 3 (.slice (some ⟨g,0,none⟩) m cap) m (xs.flatMap cellsF)) {q:Nat} (hq:q<xs.length) (x:Fr) :
  (((w.setCell ⟨g,q*3,none⟩ (.int .i64 x.n)).setCell ⟨g,q*3+1,none⟩ (.int .i64 x.d)).setCell ⟨g,q*3+2,none⟩ (.bool x.bad)).ownsRow base 34 3 (.slice (some ⟨g,0,none⟩) m cap) m ((xs.set q x).flatMap cellsF):=by
 have e:=flat_set cellsF_len xs q x hq;rw [←e];have o0:=h;obtain ⟨o1,g1⟩:=o0.stored (q*3) (.int .i64 x.n);obtain ⟨o2,g2⟩:=o1.stored (q*3+1) (.int .i64 x.d);obtain ⟨o3,g3⟩:=o2.stored (q*3+2) (.bool x.bad);exact o3
set_option maxRecDepth 100000 in
set_option maxHeartbeats 2000000 in
theorem tTriangleF (G pb:Nat) (eg:∀ (args:Array Value) (w:World),(callFunc G args).run Tryz.prog w=.ok (.enter G args) w) (val:(Nat→Nat→Fr)→Nat→Nat→Fr) (n N:Nat) (h1:1≤n) (h2:n≤16) (hN:N=n*n) (w:World)
  (hG:∀ (f:Nat→Nat→Fr) (p:Option Addr) (cap i k:Nat) (u:World),k≤i→i<n→Bl w u→Mx 3 cellsF u n n p N cap f→Calls Tryz.prog G #[mV n n p N cap,.int .i64 i,.int .i64 k,.pointer (some ⟨pb,0,none⟩)] u fun e w'=>e=.returned (frV (val f i k))∧Bl u w') :
  Calls Tryz.prog 111 #[.int .i64 n,.func (.func G) #[] #[.pointer (some ⟨pb,0,none⟩)]] w fun e w'=>∃ p' cap',e=.returned (mV n n p' N cap')∧(Mx 3 cellsF w' n n p' N cap' (triT val (wholeF 0) n n)∧Fresh w.heap.size (.slice p' N cap'))∧Bl w w':=by
 obtain ⟨i0,hi,hz0,hz1,hz2⟩:=info_parts Tryz.info_I;have fm:Tryz.prog.follows .mixedOrders=true:=by kernel_rfl
 have hd:Dim n n:=⟨h1,h2,h1,h2⟩;have hnn:(n:Int)*(n:Int)=N:=by rw [hN];simp
 have hN256:N≤256:=by rw [hN];exact hd.lt
 have hfit:=hideP (fitB_dim hd hN);have HN:=hideP hN;have HG:=hideP hG;clear hN hG;have z0:=MBox.new w 0 0 none 0 0 30
 go_enter Tryz.func111,Tryz.ntmps111;go_wp2_with (at_make;refine wpList_make_full _ rfl _ _ 22 rfl (w.heap.size+1) 3 i0 (.int .i64 0) 1 Tryz.underlying22 hi hz0 hz1 .i64 .i64 _ _ N rfl rfl (by simp) (by simp) (by rw [hz2];omega) (by unfold maxLen;omega) (by simp) ?_;intro w0 hown0 hgrow0)
 rw [zeros_made] at hown0;have hB0:Bl w w0:=((Bl.refl w).alloc _).grown hgrow0 (by simp) (fun k e=>by cases e);have hz:MBox w0 w.heap.size 0 0 none 0 0:=mbox_block z0 (hgrow0.block _ z0.lt nofun) hgrow0.size;have hs0:w.heap.size+1≤w0.heap.size:=by have:=hz.lt;omega
 clear hgrow0 z0
 try simp only [World.size_alloc] at hown0 ⊢
 have hr:Rq 1 (fun n=>[.int .i64 n]) w0 (.slice (some ⟨w.heap.size+1,0,none⟩) N N) (List.replicate N (0:Int)):=(Rw.of_own cellsI_len (xs:=List.replicate N (0:Int)) (by rw [List.length_replicate];exact hown0)).q;have WH:=hideP (mWholeOF n n _ N N _ w0 hr hfit.out (by simp));clear hr hown0;refine WH.out.mono ?_;rintro e w2 ⟨g,cap,rfl,hown,h2'⟩;rw [HN.out,zeros_map,←HN.out] at hown;have hg:=hown.lt g rfl;have hB2:Bl w w2:=hB0.trans h2';have hz2:=hz.later h2';clear WH hz hB0;obtain ⟨W,hW⟩:∃ W,W=w2.alloc (.cells #[.int .i64 n,.int .i64 n,.slice (some ⟨g,0,none⟩) N cap] 30):=⟨_,rfl⟩;have bt:MBox W w2.heap.size n n (some ⟨g,0,none⟩) N cap:=by rw [hW];exact MBox.new w2 _ _ _ _ _ _
 have bW:Bl w W:=by rw [hW];exact hB2.alloc _
 have hzW:MBox W w.heap.size 0 0 none 0 0:=by rw [hW];exact hz2.later ((Bl.refl _).alloc _)
 have hoW:W.ownsRow (w.heap.size+1) 34 3 (.slice (some ⟨g,0,none⟩) N cap) N ((mk n n (triT val (wholeF 0) n 0)).flatMap cellsF):=by
  rw [hW];exact (own_base hown (by omega)).alloc _
 have hgt:w.heap.size+1≤g∧g<w2.heap.size:=⟨by have:=hg.1;omega,hg.2⟩;have HW:=hideP hW;clear hW hown hg hz2 h2';go_wp2_with fail
 rw [←HW.out]
 go_loopw [20] (fun i wr=>∃ k:Nat,i=.int .i64 k∧k≤n∧wr.ownsRow (w.heap.size+1) 34 3 (.slice (some ⟨g,0,none⟩) N cap) N ((mk n n (triT val (wholeF 0) n k)).flatMap cellsF)∧MBox wr w2.heap.size n n (some ⟨g,0,none⟩) N cap∧MBox wr w.heap.size 0 0 none 0 0∧Bl w wr) (fun i _=>n-(intOf i).toNat)
 case atStart=>exact ⟨0,rfl,Nat.zero_le _,hoW,bt,hzW,bW⟩
 case round =>
  clear hoW bt hzW bW;obtain ⟨k,rfl,hk,hown,ht,hz,hB⟩:=hrel;by_cases hlt:k<n
  ·go_wp2_with fail
   go_loopw [8] (fun i wr=>∃ m:Nat,i=.int .i64 (((k+m:Nat)):Int)∧k+m≤n∧wr.ownsRow (w.heap.size+1) 34 3 (.slice (some ⟨g,0,none⟩) N cap) N ((mk n n (colT val k (triT val (wholeF 0) n k) m)).flatMap cellsF)∧MBox wr w2.heap.size n n (some ⟨g,0,none⟩) N cap∧MBox wr w.heap.size 0 0 none 0 0∧Bl w wr) (fun i _=>n-(intOf i).toNat)
   case atStart=>exact ⟨0,rfl,by omega,hown,ht,hz,hB⟩
   case round =>
    clear hown ht hz hB;obtain ⟨m,rfl,hm,hown,ht,hz,hB⟩:=hrel;obtain ⟨i,hi'⟩:∃ i,i=k+m:=⟨_,rfl⟩;rw [←hi'] at hm ⊢;by_cases hlt2:i<n
    ·have HT:=hideP (show colT val k (triT val (wholeF 0) n k) (m+1)=putM (colT val k (triT val (wholeF 0) n k) m) i k (val (colT val k (triT val (wholeF 0) n k) m) i k) by rw [hi'];rfl);have hki:k≤i:=by omega
     have HI:=hideP hi';clear hi';generalize colT val k (triT val (wholeF 0) n k) m=f at *;obtain ⟨a,q,e1,e2,hq1,hq3,hq5,hq6⟩:=place hd hlt2 hlt;rw [←HN.out] at hq5;have HP:=hideP e2;clear e1 e2;have MX:∀ u,Bl wr u→Mx 3 cellsF u n n (some ⟨g,0,none⟩) N cap f:=fun u hu=>⟨hd,HN.out,(Rw.of_own cellsF_len (xs:=mk n n f) (by rw [mk_len,←HN.out];exact own_blF hown hu)).q⟩
     have CL:=hideP (fun u (hu:Bl wr u)=>HG.out f (some ⟨g,0,none⟩) cap i k u hki hlt2 (hB.trans hu) (MX u hu));have OW:=hideP hown;have CX:∀ j u,(cellsF (f i k))[j]?=some u→wr.cell? ⟨g,q*3+j,none⟩=some u:=fun j u hu=>by
      have:=(MX wr (Bl.refl _)).cells;obtain ⟨b,o,e,_,_,hc⟩:=this;cases e;have:=hc i k hlt2 hlt j u hu;rw [←HP.out] at this;simpa using this
     have FZ:∀ j,wr.frozen? ⟨g,j,none⟩=false:=fun j=>hown.frozenAt j
     have hgl:g<wr.heap.size:=(hown.lt g rfl).2;have WA:IntKind.i64.wrap (a:Int)=a:=wrapS7 (by omega) (by omega);have WQ:IntKind.i64.wrap (q:Int)=q:=wrapS7 (by omega) (by omega);clear hown MX;generalize f i k=y at *;generalize val f i k=x at *;go_wp2_with fail
     refine (wpIn_wide (n:=8)).1 (region_q fm [some 29,some 30,some 31,some 32,some 33,some 34,some 35,some 36,some 37,some 38,some 39,some 40,some 41,none] (fun _=>false) 13 (by kernel_rfl) (by rfl)
      (fun j v u=>match j with|0=>v=.pointer (some ⟨w2.heap.size,2,none⟩)|1=>v=.slice (some ⟨g,0,none⟩) N cap|2=>v=.int .i64 i|3=>v=.int .i64 n|4=>v=.int .i64 a|5=>v=.int .i64 k|6=>v=.int .i64 q|7=>v=.func (.func G) #[] #[.pointer (some ⟨pb,0,none⟩)]|8=>v=mV n n (some ⟨g,0,none⟩) N cap|9=>v=.int .i64 i|10=>v=.int .i64 k|11=>v=frV x|12=>v=.pointer (some ⟨g,q*3,none⟩)|_=>False)
      (fun j v u u' _ h=>h) (fun vs u0 u=>u=((u0.setCell ⟨g,q*3,none⟩ (.int .i64 x.n)).setCell ⟨g,q*3+1,none⟩ (.int .i64 x.d)).setCell ⟨g,q*3+2,none⟩ (.bool x.bad)) ?step ?still ?store ?fin)
     case step =>
      intro j o t act u ho hdt hpu hsz hu hfr hin;have hj:j<14:=l9 ho;obtain ⟨c0,c1,c2,f0,f1,f2,lt⟩:=ht.later hu;rcases (by omega:j=0∨j=1∨j=2∨j=3∨j=4∨j=5∨j=6∨j=7∨j=8∨j=9∨j=10∨j=11∨j=12∨j=13) with rfl|rfl|rfl|rfl|rfl|rfl|rfl|rfl|rfl|rfl|rfl|rfl|rfl|rfl
      ·obtain ⟨rfl,rfl⟩:=o7 ho hdt;have i5:_=Value.pointer (some ⟨w2.heap.size,0,none⟩):=hfr 5 (by decide);exact pl9 (r:=by simp only [seval,i5];simp [go_sem,c0,c1,c2,hq1,hq3,hq5,WA,WQ])
      ·obtain ⟨rfl,rfl⟩:=o7 ho hdt;have i29:_=Value.pointer (some ⟨w2.heap.size,2,none⟩):=hin ⟨0,.data⟩ (by simp) rfl 29 rfl;exact pl9 (r:=by simp only [seval,i29];simp [go_sem,c0,c1,c2,hq1,hq3,hq5,WA,WQ])
      ·obtain ⟨rfl,rfl⟩:=o7 ho hdt;have i8:_=Value.int .i64 i:=hfr 8 (by decide);exact pl9 (r:=by simp only [seval,i8];simp [go_sem])
      ·obtain ⟨rfl,rfl⟩:=o7 ho hdt;have i0:_=Value.int .i64 n:=hfr 0 (by decide);exact pl9 (r:=by simp only [seval,i0];simp [go_sem])
      ·obtain ⟨rfl,rfl⟩:=o7 ho hdt;have i31:_=Value.int .i64 i:=hin ⟨2,.data⟩ (by simp) rfl 31 rfl;have i32:_=Value.int .i64 n:=hin ⟨3,.data⟩ (by simp) rfl 32 rfl;exact pl9 (r:=by simp only [seval,i31,i32];simp [go_sem,c0,c1,c2,hq1,hq3,hq5,WA,WQ])
      ·obtain ⟨rfl,rfl⟩:=o7 ho hdt;have i7:_=Value.int .i64 k:=hfr 7 (by decide);exact pl9 (r:=by simp only [seval,i7];simp [go_sem])
      ·obtain ⟨rfl,rfl⟩:=o7 ho hdt;have i33:_=Value.int .i64 a:=hin ⟨4,.data⟩ (by simp) rfl 33 rfl;have i34:_=Value.int .i64 k:=hin ⟨5,.data⟩ (by simp) rfl 34 rfl;exact pl9 (r:=by simp only [seval,i33,i34];simp [go_sem,c0,c1,c2,hq1,hq3,hq5,WA,WQ])
      ·obtain ⟨rfl,rfl⟩:=o7 ho hdt;have i1:_=Value.func (.func G) #[] #[.pointer (some ⟨pb,0,none⟩)]:=hfr 1 (by decide);exact pl9 (r:=by simp only [seval,i1];simp [go_sem])
      ·obtain ⟨rfl,rfl⟩:=o7 ho hdt;have i5:_=Value.pointer (some ⟨w2.heap.size,0,none⟩):=hfr 5 (by decide);exact pl9 (r:=by simp only [seval,i5];simp [go_sem,c0,c1,c2,hq1,hq3,hq5,WA,WQ])
      ·obtain ⟨rfl,rfl⟩:=o7 ho hdt;have i8:_=Value.int .i64 i:=hfr 8 (by decide);exact pl9 (r:=by simp only [seval,i8];simp [go_sem])
      ·obtain ⟨rfl,rfl⟩:=o7 ho hdt;have i7:_=Value.int .i64 k:=hfr 7 (by decide);exact pl9 (r:=by simp only [seval,i7];simp [go_sem])
      ·obtain ⟨rfl,rfl⟩:=o7 ho hdt;have i36:_=Value.func (.func G) #[] #[.pointer (some ⟨pb,0,none⟩)]:=hin ⟨7,.data⟩ (by simp) rfl 36 rfl;have i37:_=mV n n (some ⟨g,0,none⟩) N cap:=hin ⟨8,.data⟩ (by simp) rfl 37 rfl;have i38:_=Value.int .i64 i:=hin ⟨9,.data⟩ (by simp) rfl 38 rfl;have i39:_=Value.int .i64 k:=hin ⟨10,.data⟩ (by simp) rfl 39 rfl;refine enter_wp G #[mV n n (some ⟨g,0,none⟩) N cap,.int .i64 i,.int .i64 k,.pointer (some ⟨pb,0,none⟩)] (by intro c h;cases h) (fun _ _=>trivial) (by simp only [seval,i36,i37,i38,i39];simp [invoke,eg,Result.andThen,go_sem]) (fun h=>by cases h) (callsIn_wide.2 (CL.out u hu)) ?_;rintro e w' ⟨rfl,hb⟩;exact ⟨_,rfl,_,rfl,rfl,hb⟩
      ·obtain ⟨rfl,rfl⟩:=o7 ho hdt;have i30:_=Value.slice (some ⟨g,0,none⟩) N cap:=hin ⟨1,.data⟩ (by simp) rfl 30 rfl;have i35:_=Value.int .i64 q:=hin ⟨6,.data⟩ (by simp) rfl 35 rfl;exact pl9 (r:=by simp only [seval,i30,i35];simp [go_sem,c0,c1,c2,hq1,hq3,hq5,WA,WQ])
      ·obtain rfl:=o9 ho;cases hdt
     case still =>
      intro j o t act u0 u ho hdt hpu;cases hpu
     case store =>
      intro o act u vs ho hsz hu hfr hin;obtain rfl:=o9 ho;obtain ⟨i40,k40⟩:act.eval (.tmp (40:Nat))=vs 11∧((vs 11)=frV x):=hin 11 40 rfl rfl;obtain ⟨i41,k41⟩:act.eval (.tmp (41:Nat))=vs 12∧((vs 12)=.pointer (some ⟨g,q*3,none⟩)):=hin 12 41 rfl rfl;have y0:u.cell? ⟨g,q*3,none⟩=some (.int .i64 y.n):=(bl_cell hu _ _ hgl).trans (CX 0 _ rfl);have e0:u.frozen? ⟨g,q*3,none⟩=false:=(bl_froz hu _ _ hgl).trans (FZ _);have y1:u.cell? ⟨g,q*3+1,none⟩=some (.int .i64 y.d):=(bl_cell hu _ _ hgl).trans (CX 1 _ rfl);have e1:u.frozen? ⟨g,q*3+1,none⟩=false:=(bl_froz hu _ _ hgl).trans (FZ _);have y2:u.cell? ⟨g,q*3+2,none⟩=some (.bool y.bad):=(bl_cell hu _ _ hgl).trans (CX 2 _ rfl);have e2:u.frozen? ⟨g,q*3+2,none⟩=false:=(bl_froz hu _ _ hgl).trans (FZ _);rw [k41] at i41;rw [k40] at i40;exact sw9 (by simp only [execOp,i41,i40];simp [go_sem,y0,e0,y1,e1,y2,e2]) ⟨rfl,rfl⟩
     case fin =>
      intro vs vb u0 u hu hin hps;have a0:=hin 0 29 rfl;have a1:=hin 1 30 rfl;have a2:=hin 2 31 rfl;have a3:=hin 3 32 rfl;have a4:=hin 4 33 rfl;have a5:=hin 5 34 rfl;have a6:=hin 6 35 rfl;have a7:=hin 7 36 rfl;have a8:=hin 8 37 rfl;have a9:=hin 9 38 rfl;have a10:=hin 10 39 rfl;have a11:=hin 11 40 rfl;have a12:=hin 12 41 rfl;simp only [seval] at a0 a1 a2 a3 a4 a5 a6 a7 a8 a9 a10 a11 a12 ⊢;rw [if_pos (by decide)] at hps;simp only [a0,a1,a2,a3,a4,a5,a6,a7,a8,a9,a10,a11,a12];subst hps;have hq':q<(mk n n f).length:=by rw [mk_len,←HN.out];exact hq5
      have OP:=hideP (own_putF (own_blF OW.out hu) hq' x);rw [HP.out,mk_put hlt2 hlt,←HP.out,←HT.out] at OP;have tS:=hideP (mbox_putX (ht.later hu) (show w2.heap.size≠g by omega) (q*3) [.int .i64 x.n,.int .i64 x.d,.bool x.bad]);have zS:=hideP (mbox_putX (hz.later hu) (show w.heap.size≠g by omega) (q*3) [.int .i64 x.n,.int .i64 x.d,.bool x.bad]);have bS:=hideP (bl_putX (hB.trans hu) (show w.heap.size≤g by omega) (q*3) [.int .i64 x.n,.int .i64 x.d,.bool x.bad]);clear ht hz OW;go_wp2;go_roundw
      case rel=>exact ⟨m+1,by rw [HI.out];simp;omega,by have:=HI.out;omega,OP.out,tS.out,zS.out,bS.out⟩
      case measure=>simp [intOf];omega
    ·have hni:n=i:=by omega
     subst hni;have e:n-k=m:=by omega
     have HT:=hideP (show triT val (wholeF 0) n (k+1)=colT val k (triT val (wholeF 0) n k) m by rw [←e];rfl);go_wp2_with fail
     go_roundw
     case rel=>exact ⟨k+1,by simp,hlt,by rw [HT.out];exact hown,ht,hz,hB⟩
     case measure=>simp [intOf];omega
  ·obtain rfl:k=n:=by omega
   have RW:=hideP (show Rw 3 cellsF wr (.slice (some ⟨g,0,none⟩) N cap) (mk k k (triT val (wholeF 0) k k)) from Rw.of_own cellsF_len (xs:=mk k k (triT val (wholeF 0) k k)) (by rw [mk_len,←HN.out];exact hown));have FR:=hideP (show Fresh (w.heap.size+1) (.slice (some ⟨g,0,none⟩) N cap) from fun b hb=>(hown.lt b hb).1);obtain ⟨c0,c1,c2,f0,f1,f2,lt⟩:=hz;obtain ⟨d0,d1,d2,g0,g1,g2,lt2⟩:=ht;clear hown;go_wp2;simp [bodyPost,results,Tryz.results111,go_sem,c0,c1,c2];have q:=((RW.out.set (p:=⟨w.heap.size,0,none⟩) (.int .i64 k) FR.out).set (p:=⟨w.heap.size,1,none⟩) (.int .i64 k) FR.out).set (p:=⟨w.heap.size,2,none⟩) (.slice (some ⟨g,0,none⟩) N cap) FR.out;exact ⟨_,_,⟨rfl,rfl⟩,⟨⟨hd,HN.out,q.q⟩,fun b hb=>by have:=FR.out b hb;omega⟩,Bl.put3 hB (Nat.le_refl _) _ _ _⟩
set_option maxHeartbeats 1000000 in
theorem mFilledF (G mb:Nat) (eg:∀ (args:Array Value) (w:World),(callFunc G args).run Tryz.prog w=.ok (.enter G args) w) (f:Nat→Nat→Fr) (R C n:Nat) (hd:Dim R C) (hn:n=R*C) (w:World)
  (hG:∀ i k u,i<R→k<C→Bl w u→Calls Tryz.prog G #[.int .i64 i,.int .i64 k,.pointer (some ⟨mb,0,none⟩)] u fun e w'=>e=.returned (frV (f i k))∧Bl u w') :
  Calls Tryz.prog 130 #[.int .i64 R,.int .i64 C,.func (.func G) #[] #[.pointer (some ⟨mb,0,none⟩)]] w fun e w'=>∃ p' cap',e=.returned (mV R C p' n cap')∧(Rw 3 cellsF w' (.slice p' n cap') (mk R C f)∧Fresh w.heap.size (.slice p' n cap'))∧Bl w w':=by
 obtain ⟨i0,hi,hz0,hz1,hz2⟩:=info_parts Tryz.info_F;have hRC:(R:Int)*(C:Int)=n:=by rw [hn];simp
 have hn256:n≤256:=by rw [hn];exact hd.lt
 have hR16:=hd.r2;have hC16:=hd.c2;have HG:=hideP hG;have HN:=hideP hn;clear hG hn;have z0:=MBox.new w 0 0 none 0 0 30
 go_enter Tryz.func130,Tryz.ntmps130;go_wp2_with (at_make;refine wpList_make_own _ rfl _ _ 28 rfl (w.heap.size+1) 34 i0 (.agg #[.int .i64 0,.int .i64 0,.bool false]) 3 Tryz.underlying28 hi hz0 hz1 .i64 .i64 _ n rfl rfl (by simp) (by rw [hz2];omega) (by unfold maxLen;omega) (by simp) ?_;intro w0 hown0 hgrow0)
 have hB0:Bl w w0:=((Bl.refl w).alloc _).grown hgrow0 (by simp) (fun k e=>by cases e);have hz:MBox w0 w.heap.size 0 0 none 0 0:=mbox_block z0 (hgrow0.block _ z0.lt nofun) hgrow0.size;clear hgrow0 z0
 go_loopw [7,15] (fun v i wr=>∃ j:Nat,i=.int .i64 j∧j≤R∧wr.ownsRow (w.heap.size+1) 34 3 v (mk j C f).length ((mk j C f).flatMap cellsF)∧MBox wr w.heap.size 0 0 none 0 0∧Bl w wr) (fun _ i _=>R-(intOf i).toNat)
 case atStart=>exact ⟨0,rfl,Nat.zero_le _,by rw [World.size_alloc] at hown0;exact hown0,hz,hB0⟩
 case round =>
  clear hown0 hz hB0;obtain ⟨j,rfl,hj,hown,hz,hB⟩:=hrel;by_cases hlt:j<R
  ·go_wp2_with fail
   go_loopw [7,19] (fun v i wr=>∃ k:Nat,i=.int .i64 k∧k≤C∧wr.ownsRow (w.heap.size+1) 34 3 v (mk j C f++rowM k f j).length ((mk j C f++rowM k f j).flatMap cellsF)∧MBox wr w.heap.size 0 0 none 0 0∧Bl w wr) (fun _ i _=>C-(intOf i).toNat)
   case atStart=>exact ⟨0,rfl,Nat.zero_le _,by simpa [rowM] using hown,hz,hB⟩
   case round =>
    clear hown hz hB;obtain ⟨k,rfl,hk,hown,hz,hB⟩:=hrel;by_cases hlt2:k<C
    ·have HT:=hideP (show mk j C f++rowM (k+1) f j=(mk j C f++rowM k f j)++[f j k] by rw [rowM_succ,List.append_assoc]);have hlen:(mk j C f++rowM k f j).length≤256:=by
      have h1:j*C+k<R*C:=mk_idx hlt hlt2;have:=HN.out;rw [List.length_append,mk_len,rowM_len];omega
     have G1:=hideP (HG.out j k _ hlt hlt2 hB);generalize mk j C f++rowM k f j=ys at *;generalize f j k=x at *;go_wp2_with fail
     refine G1.out.mono ?_;rintro e w2 ⟨rfl,h2⟩;replace hown:=own_blF hown h2;replace hz:=hz.later h2;replace hB:=hB.trans h2;have hys:=hlen;clear G1;go_wp2_with (at_builtin;refine wpList_append_own _ rfl _ _ 28 rfl (w.heap.size+1) 34 i0 (.agg #[.int .i64 0,.int .i64 0,.bool false]) 3 24 Tryz.underlying28 hi hz0 hz1 hz2 rfl (by decide) _ _ _ rfl (hown.alloc _) ⟨_,0,none⟩ 1 1 (cellsF x) rfl rfl (newF_cells _ _ _) (oneF_cells _) (by unfold maxLen;omega) (by omega) (by have:=hB.size;have:=hz.lt;simp;omega) ?_;intro v' w1 hown' hgrow _)
     have R1:=own_more (ys:=[x]) (hB.alloc _) (Nat.le_succ _) (hown.alloc _) (by simpa using hown') rfl hgrow;have Z1:=(hz.later ((Bl.refl _).alloc _)).grown (hown.alloc _) hgrow (Nat.lt_succ_self _);clear hown hown' hgrow hz;go_wp2;go_roundw
     case rel=>exact ⟨k+1,by simp,hlt2,by rw [HT.out];exact R1.2,Z1,R1.1⟩
     case measure=>simp [intOf];omega
    ·obtain rfl:k=C:=by omega
     have HT:=hideP (mk_succ j k f);go_wp2_with fail
     go_roundw
     case rel=>exact ⟨j+1,by simp,hlt,by rw [HT.out];exact hown,hz,hB⟩
     case measure=>simp [intOf];omega
  ·obtain rfl:j=R:=by omega
   have RW:=hideP (Rw.of_own cellsF_len hown);have FR:=hideP (show Fresh (w.heap.size+1) _ from fun g hg=>(hown.lt g hg).1);obtain ⟨p',cap',hv,hcc,_⟩:=RW.out.cut;rw [mk_len,←HN.out] at hv;have HV:=hideP hv;clear hv;obtain ⟨c0,c1,c2,f0,f1,f2,lt⟩:=hz;clear hown
   rename_i v
   obtain rfl:=HV.out;go_wp2;simp [bodyPost,results,Tryz.results130,go_sem,c0,c1,c2];refine ⟨p',cap',⟨rfl,rfl⟩,⟨((RW.out.set _ FR.out).set _ FR.out).set _ FR.out,fun g hg=>by have:=FR.out g hg;omega⟩,Bl.put3 hB (Nat.le_refl _) _ _ _⟩
theorem mTurn1F (R C:Nat) (p:Option Addr) (n cap:Nat) (f:Nat→Nat→Fr) (w:World) (h:Mx 3 cellsF w R C p n cap f) (mb:Nat) (hm:MBox w mb R C p n cap) (i k:Nat) (hi:i<C) (hk:k<R) :
  Calls Tryz.prog 131 #[.int .i64 i,.int .i64 k,.pointer (some ⟨mb,0,none⟩)] w fun e w'=>e=.returned (frV (f k i))∧Bl w w':=by
 have A:=hideP (fun u (hu:Bl w u)=>mAtF R C p n cap f u (h.later hu) k i hk hi);obtain ⟨W,hW⟩:∃ W,W=w.alloc (.cells #[.int .i64 0,.int .i64 0,.bool false] 34):=⟨_,rfl⟩;have b0:Bl w W:=by rw [hW];exact (Bl.refl _).alloc _
 have x0:FBox W w.heap.size zeroR:=by rw [hW];exact FBox.new w zeroR 34
 obtain ⟨c0,c1,c2,f0,f1,f2,lt⟩:=hm;have HW:=hideP hW;clear hW h;generalize f k i=x at *
 go_enter Tryz.func131,Tryz.ntmps131;go_wp2_with fail
 rw [←HW.out];refine (A.out _ b0).mono ?_;rintro e w1 ⟨rfl,h1⟩;clear c0 c1 c2 f0 f1 f2 A;obtain ⟨d0,d1,d2,g0,g1,g2,lt2⟩:=x0.later h1;go_wp2;simp [bodyPost,results,Tryz.results131,go_sem,d0,d1,d2];exact Bl.set3 (b0.trans h1) (Nat.le_refl _) _ _ _
theorem mTurnF (R C:Nat) (p:Option Addr) (n cap:Nat) (f:Nat→Nat→Fr) (w:World) (h:Mx 3 cellsF w R C p n cap f) :
  Calls Tryz.prog 88 #[mV R C p n cap] w fun e w'=>∃ p' cap',e=.returned (mV C R p' n cap')∧(Mx 3 cellsF w' C R p' n cap' (fun i k=>f k i)∧Rw 3 cellsF w' (.slice p' n cap') (mk C R (fun i k=>f k i))∧Fresh w.heap.size (.slice p' n cap'))∧Bl w w':=by
 have hfit:=h.fit;obtain ⟨W,hW⟩:∃ W,W=(w.alloc (.cells #[.int .i64 R,.int .i64 C,.slice p n cap] 30)).alloc (.cells #[.int .i64 0,.int .i64 0,.slice none 0 0] 30):=⟨_,rfl⟩;have b0:Bl w W:=by rw [hW];exact ((Bl.refl _).alloc _).alloc _
 have m0:MBox W w.heap.size R C p n cap:=by rw [hW];exact (MBox.new w _ _ _ _ _ _).later ((Bl.refl _).alloc _)
 have x0:MBox W (w.heap.size+1) 0 0 none 0 0:=by rw [hW];have:=MBox.new (w.alloc (.cells #[.int .i64 R,.int .i64 C,.slice p n cap] 30)) 0 0 none 0 0 30;rw [World.size_alloc] at this;exact this
 have hs:W.heap.size=w.heap.size+1+1:=by rw [hW];simp
 have FI:=hideP (fun u (hu:Bl W u)=>mFilledF 131 w.heap.size (enters_of Tryz.func131 (by kernel_rfl) rfl) (fun i k=>f k i) C R n h.1.turn (by rw [h.2.1,Nat.mul_comm]) u
  (fun i k v hi hk hv=>mTurn1F R C p n cap f v (h.later (b0.trans (hu.trans hv))) _ (m0.later (hu.trans hv)) i k hi hk))
 have HD:=hideP h;have HW:=hideP hW;clear hW h
 go_enter Tryz.func88,Tryz.ntmps88;go_wp2_with fail
 rw [←HW.out];refine (mRightF _ _ _ _ _ _).mono ?_;rintro e w1 ⟨rfl,h1⟩;rw [hfit];obtain ⟨c0,c1,c2,f0,f1,f2,lt⟩:=m0.later h1;go_wp2_with fail
 refine (FI.out _ h1).mono ?_;rintro e w2 ⟨p',cap',rfl,⟨hR,hF⟩,h2⟩;have HR:=hideP hR;have HF:=hideP (show Fresh (w.heap.size+1+1) (.slice p' n cap') from fun g hg=>by have:=hF g hg;have:=h1.size;omega);clear hR hF FI c0 c1 c2 f0 f1 f2;obtain ⟨c0,c1,c2,f0,f1,f2,lt2⟩:=x0.later (h1.trans h2);go_wp2;simp [bodyPost,results,Tryz.results88,go_sem,c0,c1,c2];have q:=((HR.out.set (p:=⟨w.heap.size+1,0,none⟩) (.int .i64 C) HF.out).set (p:=⟨w.heap.size+1,1,none⟩) (.int .i64 R) HF.out).set (p:=⟨w.heap.size+1,2,none⟩) (.slice p' n cap') HF.out;refine ⟨p',cap',⟨rfl,rfl⟩,⟨⟨HD.out.1.turn,by rw [HD.out.2.1,Nat.mul_comm],q.q⟩,q,fun g hg=>by have:=HF.out g hg;omega⟩,Bl.put3 ((b0.trans h1).trans h2) (Nat.le_succ _) _ _ _⟩
open Go.Shelf
attribute [local go_sem] Oper.semAt_some
theorem mAllF (R C:Nat) (p:Option Addr) (n cap:Nat) (f:Nat→Nat→Fr) (w:World) (h:Mx 3 cellsF w R C p n cap f) :
  Calls Tryz.prog 86 #[mV R C p n cap] w fun e w'=>∃ B p' cap',e=.returned (.func (.func 128) #[] #[.pointer (some ⟨B,0,none⟩)])∧KeptIn 3 cellsF w' w.heap.size w'.heap.size B R C p' n cap' f∧Bl w w':=by
 have hfit:=h.fit;obtain ⟨W,hW⟩:∃ W,W=(w.alloc (.cells #[.int .i64 R,.int .i64 C,.slice p n cap] 30)):=⟨_,rfl⟩;have b0:Bl w W:=by rw [hW];exact (Bl.refl _).alloc _
 have m0:MBox W w.heap.size R C p n cap:=by rw [hW];exact MBox.new w _ _ _ _ _ _
 have NW:=hideP (mNewF R C p n cap (mk R C f) W (h.2.2.later b0) hfit (by rw [mk_len,h.2.1]));have HD:=hideP h;obtain ⟨c0,c1,c2,f0,f1,f2,lt⟩:=m0;have HW:=hideP hW;clear hW h
 go_enter Tryz.func86,Tryz.ntmps86;go_wp2_with fail
 rw [←HW.out];refine NW.out.mono ?_;rintro e w1 ⟨p',cap',rfl,⟨hR,hF⟩,h1⟩;have HR:=hideP hR;have HF:=hideP hF;clear hR hF NW c0 c1 c2 f0 f1 f2;go_wp2;go_ret;have hb:Bl w w1:=b0.trans h1;refine ⟨w1.heap.size,p',cap',rfl,?_,hb.alloc _⟩;exact ⟨HD.out.1,HD.out.2.1,MBox.new w1 _ _ _ _ _ _,hb.size,by simp,HR.out.later ((Bl.refl _).alloc _),fun g hg=>⟨by have:=HF.out g hg;have:=b0.size;omega,by have:=HR.out.lt g hg;simp;omega⟩⟩
theorem Tryz.yieldMF (l:Nat) (w:World):(binOp .eql 160 (.func (.yield l) #[] #[]) .nilFunc).run Tryz.prog w=.ok (.bool false) w:=by kernel_rfl
set_option maxRecDepth 100000 in
set_option maxHeartbeats 2000000 in
theorem iterMF (m l B lo hi R C:Nat) (p:Option Addr) (n cap:Nat) (f:Nat→Nat→Fr) (J Jx:List RowX→World→Prop) (W:World) (hJ:AbidesFrom W.heap.size J) (hh:hi≤W.heap.size)
  (hY:∀ pre x W0 W1,J pre W0→RowOk 3 cellsF R C f x W0 W1→pre.length<R→YieldAt Fence.wide (m-1) Tryz.prog l #[.int .i64 x.1,rowV C x] W1 fun e W' =>
   (e=.returned (.bool true)∧J (pre++[x]) W'∧Span lo hi W1 W')∨(e=.returned (.bool false)∧Jx (pre++[x]) W'))
  (hP:KeptIn 3 cellsF W lo hi B R C p n cap f) (h0:J [] W) :
  CallsIn Fence.wide m Tryz.prog 128 #[.func (.yield l) #[] #[],.pointer (some ⟨B,0,none⟩)] W fun e W'=>(∃ v,e=.returned v) ∧
   ((∃ zs:List RowX,zs.map (·.1)=List.range R∧J zs W')∨(∃ pre:List RowX,pre.map (·.1) <+: List.range R∧Jx pre W')):=by
 have yn:=Tryz.yieldMF l;have HP:=hideP hP;have hR16:=hP.hd.r2;obtain ⟨c0,c1,c2,f0,f1,f2,lt⟩:=hP.box;clear hP;refine callsIn_of_wp Tryz.func128 rfl trivial ?_ rfl;simp only [Tryz.ntmps128,List.size_toArray,List.length_cons,List.length_nil,Nat.reduceAdd,Nat.reduceSub,Array.replicate_succ,Array.replicate_zero,List.push_toArray,List.append_toArray,List.nil_append,List.cons_append]
 gi_wp2
 clear c0 c1 c2 f0 f1 f2
 gi_loopw [8] (fun i wr=>∃ (k:Nat) (pre:List RowX),k≤R∧i=.int .i64 k∧pre.map (·.1)=List.range k∧J pre wr∧Span lo hi W wr) (fun i _=>R-(intOf i).toNat)
 case atStart=>exact ⟨0,[],Nat.zero_le _,rfl,rfl,h0,Span.refl _ _ _⟩
 case round =>
  obtain ⟨k,pre,hk,rfl,hpre,hJs,hsp⟩:=hrel;have hlen:pre.length=k:=by have:=congrArg List.length hpre;simpa using this
  have HPR:=hideP hpre;clear hpre;by_cases hlt:k<R
  ·have HKK:=hideP (HP.out.later hsp);obtain ⟨c0,c1,c2,f0,f1,f2,lt⟩:=HKK.out.box
   gi_wp2_with fail
   refine ⟨trivial,fun h=>(by cases h),?_⟩;refine (callsIn_wide.2 (mRowF R C p n cap f _ HKK.out.mx k hlt)).mono ?_;rintro e w1 ⟨p',cap',rfl,⟨hR,hF,hcc⟩,h1⟩;obtain ⟨fn,tmps,assign,body,hyd,hR2⟩:=hY pre (k,p',cap') _ w1 hJs ⟨h1,hlt,hR,hF,hcc⟩ (by omega);dsimp only at hyd;clear c0 c1 c2 f0 f1 f2 hR hF;have hR3:RoundIn Fence.wide (m-1) Tryz.prog l fn tmps assign body w1 fun e W'=>∃ r:Bool,e=.returned (.bool r)∧((r=true∧J (pre++[(k,p',cap')]) W'∧Span lo hi w1 W')∨(r=false∧Jx (pre++[(k,p',cap')]) W')):=by
    refine hR2.mono ?_;rintro e W' (⟨rfl,h1,h2⟩|⟨rfl,h1⟩)
    ·exact ⟨true,rfl,.inl ⟨rfl,h1,h2⟩⟩
    ·exact ⟨false,rfl,.inr ⟨rfl,h1⟩⟩
   gi_wp2_with fail
   refine ⟨fun h=>(by cases h),?_⟩;refine hR3.mono ?_;rintro e W3 ⟨r,rfl,hr⟩;have sp1:Span lo hi W w1:=hsp.trans (h1.span (by have:=hsp.size;omega));have HT:=hideP (show (pre++[((k,p',cap'):RowX)]).map (·.1)=List.range (k+1) by rw [List.map_append,HPR.out,List.range_succ];rfl);rcases hr with ⟨rfl,hJ3,hk3⟩|⟨rfl,hJx3⟩
   ·gi_wp2
    go_roundw
    case rel=>exact ⟨k+1,_,by omega,by simp,HT.out,hJ3,sp1.trans hk3⟩
    case measure=>simp [intOf];omega
   ·gi_wp2
    refine bodyPost_ret (results_none rfl _ _ _) rfl ?_;exact ⟨⟨_,rfl⟩,.inr ⟨_,by rw [HT.out];exact range_pre hlt,hJx3⟩⟩
  ·obtain rfl:k=R:=by omega
   have HJ:=hideP hJs;clear hJs
   gi_wp2
   go_end0
   exact ⟨⟨_,rfl⟩,.inl ⟨pre,HPR.out,HJ.out⟩⟩
theorem seqMF (m B lo hi R C:Nat) (p:Option Addr) (n cap:Nat) (f:Nat→Nat→Fr) (w:World) (hh:hi≤w.heap.size) (hP:KeptIn 3 cellsF w lo hi B R C p n cap f) :
  SeqV Fence.wide m Tryz.prog 128 #[.pointer (some ⟨B,0,none⟩)] (fun x:RowX=>#[.int .i64 x.1,rowV C x]) (RowOk 3 cellsF R C f) (Span lo hi) (fun zs=>zs.map (·.1)=List.range R) (fun pre=>pre.map (·.1) <+: List.range R) R w:=
 fun l J Jx W hW hJ _ hY h0=>iterMF m l B lo hi R C p n cap f J Jx W hJ (Nat.le_trans hh hW.size) hY (hP.later (Bl.span hW hh)) h0
theorem Tryz.mDivF (x:Value) (w:World):(method 327 34 x "Div").run Tryz.prog w=.ok (185,x) w:=by kernel_rfl
theorem Tryz.mRootF (x:Value) (w:World):(method 327 34 x "Root").run Tryz.prog w=.ok (190,x) w:=by kernel_rfl
theorem tClear1F (n:Nat) (p0:Option Addr) (N cap0:Nat) (P:Nat→Nat→Fr) (p:Option Addr) (cap:Nat) (w:World) (hP:Mx 3 cellsF w n n p0 N cap0 P) (pb:Nat) (hm:MBox w pb n n p0 N cap0) (i k:Nat) (hi:i<n) (hk:k<n) :
  Calls Tryz.prog 112 #[mV n n p N cap,.int .i64 i,.int .i64 k,.pointer (some ⟨pb,0,none⟩)] w fun e w'=>e=.returned (frV (P i k))∧Bl w w':=by
 have A:=hideP (fun u (hu:Bl w u)=>mAtF n n p0 N cap0 P u (hP.later hu) i k hi hk);obtain ⟨W,hW⟩:∃ W,W=(w.alloc (.cells #[.int .i64 n,.int .i64 n,.slice p N cap] 30)).alloc (.cells #[.int .i64 0,.int .i64 0,.bool false] 34):=⟨_,rfl⟩;have b0:Bl w W:=by rw [hW];exact ((Bl.refl _).alloc _).alloc _
 have x0:FBox W (w.heap.size+1) zeroR:=by rw [hW];have:=FBox.new (w.alloc (.cells #[.int .i64 n,.int .i64 n,.slice p N cap] 30)) zeroR 34;rw [World.size_alloc] at this;exact this
 obtain ⟨c0,c1,c2,f0,f1,f2,lt⟩:=hm;have HW:=hideP hW;clear hW hP;generalize P i k=x at *
 go_enter Tryz.func112,Tryz.ntmps112;go_wp2_with fail
 rw [←HW.out];refine (A.out _ b0).mono ?_;rintro e w1 ⟨rfl,h1⟩;clear c0 c1 c2 f0 f1 f2 A;obtain ⟨d0,d1,d2,g0,g1,g2,lt2⟩:=x0.later h1;go_wp2;simp [bodyPost,results,Tryz.results112,go_sem,d0,d1,d2];exact Bl.set3 (b0.trans h1) (Nat.le_succ _) _ _ _
def clrF (f:Nat→Nat→Fr) (i k:Nat):Fr:=if k≤i then f i k else wholeF 0
theorem tClearF (n:Nat) (p:Option Addr) (N cap:Nat) (f:Nat→Nat→Fr) (w:World) (h:Mx 3 cellsF w n n p N cap f) :
  Calls Tryz.prog 65 #[mV n n p N cap] w fun e w'=>∃ p' cap',e=.returned (.tuple #[mV n n p' N cap',.bool true])∧(Mx 3 cellsF w' n n p' N cap' (clrF f)∧Fresh w.heap.size (.slice p' N cap'))∧Bl w w':=by
 have hsq:sqB n n N=true:=by unfold sqB;rw [h.fit];simp
 obtain ⟨W,hW⟩:∃ W,W=(w.alloc (.cells #[.int .i64 n,.int .i64 n,.slice p N cap] 30)).alloc (.cells #[.int .i64 0,.int .i64 0,.slice none 0 0] 30):=⟨_,rfl⟩;have b0:Bl w W:=by rw [hW];exact ((Bl.refl _).alloc _).alloc _
 have m0:MBox W w.heap.size n n p N cap:=by rw [hW];exact (MBox.new w _ _ _ _ _ _).later ((Bl.refl _).alloc _)
 have x0:MBox W (w.heap.size+1) 0 0 none 0 0:=by rw [hW];have:=MBox.new (w.alloc (.cells #[.int .i64 n,.int .i64 n,.slice p N cap] 30)) 0 0 none 0 0 30;rw [World.size_alloc] at this;exact this
 have hs:W.heap.size=w.heap.size+1+1:=by rw [hW];simp
 have FI:=hideP (fun u (hu:Bl W u)=>(tTriangleF 112 w.heap.size (enters_of Tryz.func112 (by kernel_rfl) rfl) (fun _ i k=>f i k) n N h.1.r1 h.1.r2 h.2.1 u
  (fun g p' cap' i k v hki hi hv _=>tClear1F n p N cap f p' cap' v (h.later (b0.trans (hu.trans hv))) _ (m0.later (hu.trans hv)) i k hi (by omega))).mono (R':=fun e w'=>∃ p' cap',e=.returned (mV n n p' N cap')∧(Mx 3 cellsF w' n n p' N cap' (clrF f)∧Fresh u.heap.size (.slice p' N cap'))∧Bl u w') (by
   rintro e w' ⟨p',cap',rfl,⟨hR,hF⟩,hb⟩;refine ⟨p',cap',rfl,⟨hR.congr7 fun i k hi hk=>?_,hF⟩,hb⟩;rw [triT_const f _ n n (Nat.le_refl _) i k hi];unfold clrF;by_cases hki:k≤i
   ·rw [if_pos ⟨hki,hk⟩,if_pos hki]
   ·rw [if_neg (by omega),if_neg hki]))
 have HD:=hideP h;have HW:=hideP hW;clear hW h
 go_enter Tryz.func65,Tryz.ntmps65;go_wp2_with fail
 rw [←HW.out];refine (tSquareF _ _ _ _ _ _).mono ?_;rintro e w1 ⟨rfl,h1⟩;rw [hsq];obtain ⟨c0,c1,c2,f0,f1,f2,lt⟩:=m0.later h1;go_wp2_with fail
 refine (FI.out _ h1).mono ?_;rintro e w2 ⟨p',cap',rfl,⟨hR,hF⟩,h2⟩;have HR:=hideP hR;have HF:=hideP (show Fresh (w.heap.size+1+1) (.slice p' N cap') from fun g hg=>by have:=hF g hg;have:=h1.size;omega);clear hR hF FI c0 c1 c2 f0 f1 f2;obtain ⟨c0,c1,c2,f0,f1,f2,lt2⟩:=x0.later (h1.trans h2);go_wp2;simp [bodyPost,results,Tryz.results65,go_sem,c0,c1,c2];exact ⟨p',cap',⟨rfl,rfl⟩,⟨mx_put7 HR.out HF.out _ _ _,fun g hg=>by have:=HF.out g hg;omega⟩,Bl.put3 ((b0.trans h1).trans h2) (Nat.le_succ _) _ _ _⟩
theorem Tryz.load1F (B:Nat) (v:Value) (u:World) (h:u.cell? ⟨B,0,none⟩=some v):(Instr.loadAt 28 (.pointer (some ⟨B,0,none⟩))).run Tryz.prog u=.ok v u:=by
 simp [go_sem,h]
theorem Tryz.store1F (B:Nat) (p:Option Addr) (n cap:Nat) (v:Value) (u:World) (h:u.cell? ⟨B,0,none⟩=some v) (hf:u.frozen? ⟨B,0,none⟩=false):(Instr.storeAt 28 (.pointer (some ⟨B,0,none⟩)) (.slice p n cap)).run Tryz.prog u=.ok () (u.setCell ⟨B,0,none⟩ (.slice p n cap)):=by
 simp [go_sem,h,hf]
theorem Tryz.build1F (x:Fr) (u:World):(Instr.buildSlice 28 1 #[(0,frV x)]).run Tryz.prog u=.ok (.slice (some ⟨u.heap.size,0,none⟩) 1 1) (u.alloc (.cells #[.int .i64 x.n,.int .i64 x.d,.bool x.bad] 34)):=by
 simp [go_sem]
def DotIF (d:Nat) (a:Act) (W:World) (v v1 v2:Value) (z:Fr) (base:Nat) (xs:List Fr) (B:Nat) (L:Nat→Bool) (act:Act) (u:World):Prop:=
 a.tmps.size=act.tmps.size∧(∀ s,s<d→act.eval (.tmp s)=a.eval (.tmp s))∧(L 3=true→L 1=true∧L 2=true)∧(L 4=true→L 3=true)∧(L 5=true→L 0=true∧L 4=true)∧(L 6=true→L 5=true)
  ∧ (L 5=false→Bl W u∧(L 0=true→act.eval (.tmp d)=v)∧(L 1=true→act.eval (.tmp (d+1))=v1)∧(L 2=true→act.eval (.tmp (d+2))=v2)∧(L 3=true→act.eval (.tmp (d+3))=frV z)∧(L 4=true→∃ g,act.eval (.tmp (d+4))=.slice (some ⟨g,0,none⟩) 1 1∧FBox u g z))
  ∧ (L 5=true→∃ u0 w5 g' cap',Bl W u0∧u0.grownBy w5 v.ownBlock∧w5.ownsRow base 34 3 (.slice (some ⟨g',0,none⟩) (xs.length+1) cap') (xs.length+1) (xs.flatMap cellsF++cellsF z)∧(some g'=v.ownBlock∨g'=u0.heap.size)
    ∧ (L 6=false→u=w5∧act.eval (.tmp (d+5))=.slice (some ⟨g',0,none⟩) (xs.length+1) cap')∧(L 6=true→u=w5.setCell ⟨B,0,none⟩ (.slice (some ⟨g',0,none⟩) (xs.length+1) cap')))
set_option maxHeartbeats 1000000 in
theorem dotAppendF {F:Fence} {m:Nat} {ops:Array Oper} {o0 o1 o2 o3 o4 o5 o6:Oper} {Q:Exit→Act→World→Prop} {a:Act} {W:World} {id:Nat} (hops:ops=#[o0,o1,o2,o3,o4,o5,o6]) (hlow:lowB ops=true) (d sL fD:Nat) (hsz:d+6≤a.tmps.size) (hsL:sL<d)
  (g0:o0.guard=none∧o0.dst=some d∧o0.op=.load 28 (.tmp sL)) (g1:o1.guard=none∧o1.dst=some (d+1)) (g2:o2.guard=none∧o2.dst=some (d+2))
  (g3:o3.guard=none∧o3.dst=some (d+3)∧o3.op=.call { callee:=.value (.func fD),args:=#[.tmp (d+1),.tmp (d+2)],argTypes:=#[28,28] })
  (g4:o4.guard=none∧o4.dst=some (d+4)∧o4.op=.buildSlice 28 1 #[(0,.tmp (d+3))])
  (g5:o5.guard=none∧o5.dst=some (d+5)∧o5.op=.call { callee:=.builtin .append,args:=#[.tmp d,.tmp (d+4)],argTypes:=#[28,28] })
  (g6:o6.guard=none∧o6.dst=none∧o6.op=.store 28 (.tmp sL) (.tmp (d+5)))
  (e3:(⟨1,.data⟩:Edge)∈o3.after∧(⟨2,.data⟩:Edge)∈o3.after) (e4:(⟨3,.data⟩:Edge)∈o4.after) (e5:(⟨0,.data⟩:Edge)∈o5.after∧(⟨4,.data⟩:Edge)∈o5.after) (e6:(⟨5,.data⟩:Edge)∈o6.after)
  (v1 v2:Value) (h1:∀ (act:Act) (u:World) (K:Act→World→Prop),(∀ s,s<d→act.eval (.tmp s)=a.eval (.tmp s))→Bl W u→K (act.put (some (d+1)) v1) u→Oper.wpIn F m Tryz.prog o1 act u K Q)
  (h2:∀ (act:Act) (u:World) (K:Act→World→Prop),(∀ s,s<d→act.eval (.tmp s)=a.eval (.tmp s))→Bl W u→K (act.put (some (d+2)) v2) u→Oper.wpIn F m Tryz.prog o2 act u K Q)
  (hF:F.fn fD) (hdep:F.depth.isSome=true→1≤m) (eg:∀ args w,(callFunc fD args).run Tryz.prog w=.ok (.enter fD args) w) (z:Fr)
  (hC:∀ u,Bl W u→CallsIn F (m-1) Tryz.prog fD #[v1,v2] u fun e w'=>e=.returned (frV z)∧Bl u w')
  (B:Nat) (hB:a.eval (.tmp sL)=.pointer (some ⟨B,0,none⟩)) (v:Value) (hv:Boxed W B 28 v) (base:Nat) (xs:List Fr) (hown:W.ownsRow base 34 3 v xs.length (xs.flatMap cellsF)) (hlen:xs.length≤100000) (hbase:base≤W.heap.size)
  (fin:∀ act u0 w5 g' cap',Bl W u0→u0.grownBy w5 v.ownBlock→w5.ownsRow base 34 3 (.slice (some ⟨g',0,none⟩) (xs.length+1) cap') (xs.length+1) (xs.flatMap cellsF++cellsF z)→(some g'=v.ownBlock∨g'=u0.heap.size)→Q .normal act (w5.setCell ⟨B,0,none⟩ (.slice (some ⟨g',0,none⟩) (xs.length+1) cap'))) :
  (Code.region id ops true).wpIn F m Tryz.prog Q a W:=by
 obtain ⟨i0,hi,hz0,hz1,hz2⟩:=info_parts Tryz.info_F;have fm:Tryz.prog.follows .mixedOrders=true:=by kernel_rfl
 refine region_facts fm (lowB_low hlow) (DotIF d a W v v1 v2 z base xs B) ?_ ?_ ?_
 ·exact ⟨rfl,fun _ _=>rfl,nofun,nofun,nofun,nofun,fun _=>⟨(Bl.refl _).drew,nofun,nofun,nofun,nofun,nofun⟩,nofun⟩
 ·intro L act u i o ⟨hs,hfr,c3,c4,c5,c6,hpre,hpost⟩ ho hLi hall;have hlt:i<7:=by have:=(Array.getElem?_eq_some_iff.1 ho).1;rw [hops] at this;simpa using this
  have sv:∀ (e:Nat) (x:Value),e<act.tmps.size→(act.put (some e) x).eval (.tmp e)=x:=fun e x h=>eval_put_same h
  have ne5:(L 5=true→False)→L 5=false:=fun h=>by cases hh:L 5<;>simp_all
  have fr:∀ (e:Nat) (x:Value),d≤e→∀ s,s<d→(act.put (some e) x).eval (.tmp s)=a.eval (.tmp s):=fun e x he s hs=>by rw [eval_put_other (by omega)];exact hfr s hs
  rcases (by omega:i=0∨i=1∨i=2∨i=3∨i=4∨i=5∨i=6) with rfl|rfl|rfl|rfl|rfl|rfl|rfl
  ·obtain rfl:o=o0:=by rw [hops] at ho;simpa using ho.symm
   have l5:L 5=false:=ne5 fun h=>by rw [(c5 h).1] at hLi;cases hLi
   obtain ⟨hb,p0,p1,p2,p3,p4⟩:=hpre l5;refine step_wp ho g0.1 (load_wp _ _ g0.2.2 (v:=v) (by rw [hfr _ hsL,hB];exact Tryz.load1F B v u (boxed_bl hv hb).cell) ?_);rw [g0.2.1];refine ⟨by rw [size_put];exact hs,fr _ _ (Nat.le_refl _),by simpa using c3,by simpa using c4,by simp [l5],by simpa using c6,fun _=>⟨hb,fun _=>sv _ _ (by omega),?_,?_,?_,?_⟩,by simp [l5]⟩
   all_goals (simp only [Nat.reduceEqDiff,Nat.reduceBEq,Bool.or_false];intro h;rw [eval_put_other (by omega)])
   ·exact p1 h
   ·exact p2 h
   ·exact p3 h
   ·exact p4 h
  ·obtain rfl:o=o1:=by rw [hops] at ho;simpa using ho.symm
   have l3:L 3=false:=by cases hh:L 3<;>simp_all
   have l4:L 4=false:=by cases hh:L 4<;>simp_all
   have l5:L 5=false:=ne5 fun h=>by rw [(c5 h).2] at l4;cases l4
   obtain ⟨hb,p0,p1,p2,p3,p4⟩:=hpre l5;refine step_wp ho g1.1 (h1 act u _ hfr hb ?_);refine ⟨by rw [size_put];exact hs,fr _ _ (by omega),by simp [l3],by simp [l4],by simp [l5],by simpa using c6,fun _=>⟨hb,?_,fun _=>sv _ _ (by omega),?_,by simp [l3],by simp [l4]⟩,by simp [l5]⟩
   all_goals (simp only [Nat.reduceEqDiff,Nat.reduceBEq,Bool.or_false];intro h;rw [eval_put_other (by omega)])
   ·exact p0 h
   ·exact p2 h
  ·obtain rfl:o=o2:=by rw [hops] at ho;simpa using ho.symm
   have l3:L 3=false:=by cases hh:L 3<;>simp_all
   have l4:L 4=false:=by cases hh:L 4<;>simp_all
   have l5:L 5=false:=ne5 fun h=>by rw [(c5 h).2] at l4;cases l4
   obtain ⟨hb,p0,p1,p2,p3,p4⟩:=hpre l5;refine step_wp ho g2.1 (h2 act u _ hfr hb ?_);refine ⟨by rw [size_put];exact hs,fr _ _ (by omega),by simp [l3],by simp [l4],by simp [l5],by simpa using c6,fun _=>⟨hb,?_,?_,fun _=>sv _ _ (by omega),by simp [l3],by simp [l4]⟩,by simp [l5]⟩
   all_goals (simp only [Nat.reduceEqDiff,Nat.reduceBEq,Bool.or_false];intro h;rw [eval_put_other (by omega)])
   ·exact p0 h
   ·exact p1 h
  ·obtain rfl:o=o3:=by rw [hops] at ho;simpa using ho.symm
   have l1:L 1=true:=hall _ e3.1 rfl;have l2:L 2=true:=hall _ e3.2 rfl;have l4:L 4=false:=by cases hh:L 4<;>simp_all
   have l5:L 5=false:=ne5 fun h=>by rw [(c5 h).2] at l4;cases l4
   obtain ⟨hb,p0,p1,p2,p3,p4⟩:=hpre l5;refine step_wp ho g3.1 (call2_wp fD _ _ _ g3.2.2 hF hdep eg (by rw [p1 l1,p2 l2];exact hC u hb) ?_);rintro e w' ⟨rfl,hb'⟩;refine ⟨_,rfl,?_⟩;rw [g3.2.1];refine ⟨by rw [size_put];exact hs,fr _ _ (by omega),by simp [l1,l2],by simp [l4],by simp [l5],by simpa using c6,fun _=>⟨hb.trans hb',?_,?_,?_,fun _=>sv _ _ (by omega),by simp [l4]⟩,by simp [l5]⟩
   all_goals (simp only [Nat.reduceEqDiff,Nat.reduceBEq,Bool.or_false];intro h;rw [eval_put_other (by omega)])
   ·exact p0 h
   ·exact p1 h
   ·exact p2 h
  ·obtain rfl:o=o4:=by rw [hops] at ho;simpa using ho.symm
   have l3:L 3=true:=hall _ e4 rfl;have l5:L 5=false:=ne5 fun h=>by rw [(c5 h).2] at hLi;cases hLi
   obtain ⟨hb,p0,p1,p2,p3,p4⟩:=hpre l5;refine step_wp ho g4.1 (build_wp _ _ g4.2.2 (by rw [p3 l3];exact Tryz.build1F z u) ?_);rw [g4.2.1];refine ⟨by rw [size_put];exact hs,fr _ _ (by omega),by simpa using c3,by simp [l3],by simp [l5],by simpa using c6,fun _=>⟨hb.alloc _,?_,?_,?_,?_,fun _=>⟨u.heap.size,sv _ _ (by omega),FBox.new u z _⟩⟩,by simp [l5]⟩
   all_goals (simp only [Nat.reduceEqDiff,Nat.reduceBEq,Bool.or_false];intro h;rw [eval_put_other (by omega)])
   ·exact p0 h
   ·exact p1 h
   ·exact p2 h
   ·exact p3 h
  ·obtain rfl:o=o5:=by rw [hops] at ho;simpa using ho.symm
   have l0:L 0=true:=hall _ e5.1 rfl;have l4:L 4=true:=hall _ e5.2 rfl;have l6:L 6=false:=by cases hh:L 6<;>simp_all
   obtain ⟨hb,p0,p1,p2,p3,p4⟩:=hpre hLi;obtain ⟨g,hg,bz⟩:=p4 l4;refine step_wp ho g5.1 (stepIn_append (.tmp d) (.tmp (d+4)) 28 g5.2.2 base 34 i0 (.agg #[.int .i64 0,.int .i64 0,.bool false]) 3 24 Tryz.underlying28 hi hz0 hz1 hz2 rfl (by decide) v xs.length (xs.flatMap cellsF) (p0 l0) (own_blF hown hb) ⟨g,0,none⟩ 1 1 (cellsF z) hg rfl bz.cells (oneF_cells _) (by unfold maxLen;omega) (by omega) (by have:=hb.size;omega) ?_);intro v' w5 hown' hgrow hat;obtain ⟨g',cap',rfl⟩:=ownsRow_succ hown';rw [g5.2.1];refine ⟨by rw [size_put];exact hs,fr _ _ (by omega),by simpa using c3,by simpa using c4,by simp [l0,l4],by simp [l6],by simp,fun _=>⟨u,w5,g',cap',hb,hgrow,hown',?_,fun _=>⟨rfl,sv _ _ (by omega)⟩,by simp [l6]⟩⟩;rcases hat with h|h
   ·exact .inl h
   ·exact .inr (by simpa [Value.ownBlock] using h)
  ·obtain rfl:o=o6:=by rw [hops] at ho;simpa using ho.symm
   have l5:L 5=true:=hall _ e6 rfl;obtain ⟨u0,w5,g',cap',k1,k2,k3,k4,k5,_⟩:=hpost l5;obtain ⟨rfl,ev⟩:=k5 hLi;have hv5:Boxed u B 28 v:=(boxed_bl hv k1).kept k2 ((boxed_bl hv k1).not_row (by decide) (own_blF hown k1));refine step_wp ho g6.1 (store_wp _ _ _ g6.2.2 (by rw [hfr _ hsL,hB,ev];exact Tryz.store1F B _ _ _ v u hv5.cell hv5.frozen) ?_);rw [g6.2.1];exact ⟨by rw [size_put];exact hs,fun s hs=>hfr s hs,by simpa using c3,by simpa using c4,by simpa using c5,by simp [l5],by simp [l5],fun _=>⟨u0,u,g',cap',k1,k2,k3,k4,by simp,fun _=>rfl⟩⟩
 ·intro L act u ⟨hs,hfr,c3,c4,c5,c6,hpre,hpost⟩ hL;have hL':∀ j,j<7→L j=true:=fun j hj=>hL j (by rw [hops];simpa using hj)
  obtain ⟨u0,w5,g',cap',k1,k2,k3,k4,_,k6⟩:=hpost (hL' 5 (by omega));rw [k6 (hL' 6 (by omega))];exact fin act u0 w5 g' cap' k1 k2 k3 k4
attribute [local go_sem] Oper.semAt_some
def mulMF (M:Nat) (f g:Nat→Nat→Fr) (i k:Nat):Fr:=dotF (rowM M f i) (colM M g k)
set_option maxRecDepth 100000 in
set_option maxHeartbeats 4000000 in
theorem mMulF (R M D:Nat) (p:Option Addr) (n cap:Nat) (f:Nat→Nat→Fr) (q:Option Addr) (n2 cap2:Nat) (g:Nat→Nat→Fr) (N:Nat) (w:World) (hx:Mx 3 cellsF w R M p n cap f) (hy:Mx 3 cellsF w M D q n2 cap2 g) (hN:N=R*D) :
  Calls Tryz.prog 87 #[mV R M p n cap,mV M D q n2 cap2] w fun e w'=>∃ p' cap',e=.returned (.tuple #[mV R D p' N cap',.bool true])∧(Mx 3 cellsF w' R D p' N cap' (mulMF M f g)∧Rw 3 cellsF w' (.slice p' N cap') (mk R D (mulMF M f g))∧Fresh w.heap.size (.slice p' N cap'))∧Bl w w':=by
 obtain ⟨i0,hi,hz0,hz1,hz2⟩:=info_parts Tryz.info_F;refine (callsIn_wide (n:=8)).1 ?_;have hfx:=hx.fit;have hfy:=hy.fit;have hdR:=hx.1;have hdD:=hy.1;have hRD:(R:Int)*(D:Int)=N:=by rw [hN];simp
 have hN256:N≤256:=by rw [hN];exact Nat.mul_le_mul hdR.r2 hdD.c2
 have hM16:=hdR.c2;have HN:=hideP hN;have HXm:=hideP hx;have HYm:=hideP hy;clear hN hx hy;obtain ⟨W,hW⟩:∃ W,W=((w.alloc (.cells #[.int .i64 R,.int .i64 M,.slice p n cap] 30)).alloc (.cells #[.int .i64 M,.int .i64 D,.slice q n2 cap2] 30)).alloc (.cells #[.int .i64 0,.int .i64 0,.slice none 0 0] 30):=⟨_,rfl⟩;have b0:Bl w W:=by rw [hW];exact (((Bl.refl _).alloc _).alloc _).alloc _
 have mx0:MBox W w.heap.size R M p n cap:=by rw [hW];exact (MBox.new w _ _ _ _ _ _).later (((Bl.refl _).alloc _).alloc _)
 have my0:MBox W (w.heap.size+1) M D q n2 cap2:=by rw [hW];have:=(MBox.new (w.alloc (.cells #[.int .i64 R,.int .i64 M,.slice p n cap] 30)) M D q n2 cap2 30);rw [World.size_alloc] at this;exact this.later ((Bl.refl _).alloc _)
 have mz0:MBox W (w.heap.size+1+1) 0 0 none 0 0:=by rw [hW];have:=MBox.new ((w.alloc (.cells #[.int .i64 R,.int .i64 M,.slice p n cap] 30)).alloc (.cells #[.int .i64 M,.int .i64 D,.slice q n2 cap2] 30)) 0 0 none 0 0 30;rw [World.size_alloc,World.size_alloc] at this;exact this
 have hs0:W.heap.size=w.heap.size+1+1+1:=by rw [hW];simp
 have HW:=hideP hW;clear hW;refine callsIn_of_wp_marks Tryz.func87 rfl trivial ?_ rfl;simp only [Tryz.ntmps87,List.size_toArray,List.length_cons,List.length_nil,Nat.reduceAdd,Nat.reduceSub,Array.replicate_succ,Array.replicate_zero,List.push_toArray,List.append_toArray,List.nil_append,List.cons_append]
 gi_wp2_with fail
 rw [←HW.out];refine ⟨trivial,?_⟩;refine (callsIn_wide.2 (mRightF _ _ _ _ _ _)).mono ?_;rintro e w1 ⟨rfl,h1⟩;rw [hfx];have mx1:=mx0.later h1;have my1:=my0.later h1;obtain ⟨d0,d1,d2,u0,u1,u2,ltm⟩:=my1;obtain ⟨c0,c1,c2,f0,f1,f2,lt⟩:=mx1
 gi_wp2_with fail
 refine ⟨trivial,?_⟩;refine (callsIn_wide.2 (mRightF _ _ _ _ _ _)).mono ?_;rintro e w2 ⟨rfl,h2⟩;rw [hfy];clear c0 c1 c2 f0 f1 f2 d0 d1 d2 u0 u1 u2 lt ltm;obtain ⟨c0,c1,c2,f0,f1,f2,lt⟩:=mx0.later (h1.trans h2);obtain ⟨d0,d1,d2,u0,u1,u2,ltm⟩:=my0.later (h1.trans h2)
 gi_wp2_with fail
 refine ⟨trivial,?_⟩;refine (callsIn_wide.2 (mTurnF _ _ _ _ _ g _ (HYm.out.later ((b0.trans h1).trans h2)))).mono ?_;rintro e w3 ⟨q1,cap3,rfl,⟨hT,_,_⟩,h3⟩;have HT:=hideP hT;clear hT c0 c1 c2 f0 f1 f2 d0 d1 d2 u0 u1 u2 lt ltm
 gi_wp2_with fail
 refine ⟨trivial,?_⟩;refine (callsIn_wide.2 (mAllF _ _ _ _ _ _ _ HT.out)).mono ?_;rintro e w4 ⟨B1,q2,cap4,rfl,hK4,h4⟩;have HK4:=hideP hK4;clear hK4;have h14:Bl W w4:=((h1.trans h2).trans h3).trans h4;obtain ⟨w5,hw5⟩:∃ w5,w5=w4.alloc (.cells #[.func (.func 128) #[] #[.pointer (some ⟨B1,0,none⟩)]] 120):=⟨_,rfl⟩;have b45:Bl w4 w5:=by rw [hw5];exact (Bl.refl _).alloc _
 have hs5:w5.heap.size=w4.heap.size+1:=by rw [hw5];simp
 have BC5:Boxed w5 w4.heap.size 120 (.func (.func 128) #[] #[.pointer (some ⟨B1,0,none⟩)]):=by rw [hw5];exact Boxed.new w4 _ _
 have mx5:=mx0.later (h14.trans b45);have my5:=my0.later (h14.trans b45);have mz5:=mz0.later (h14.trans b45);have bw5:Bl w w5:=(b0.trans h14).trans b45;have HW5:=hideP hw5;clear hw5;obtain ⟨c0,c1,c2,f0,f1,f2,lt⟩:=mx0.later h14;obtain ⟨d0,d1,d2,u0,u1,u2,ltm⟩:=my0.later h14
 gi_wp2_with (gi_at_make;refine wpListIn_make_own _ rfl _ _ 28 rfl (w4.heap.size+1) 34 i0 (.agg #[.int .i64 0,.int .i64 0,.bool false]) 3 Tryz.underlying28 hi hz0 hz1 .i64 .i64 _ N rfl rfl (by simp) (by rw [hz2];omega) (by unfold maxLen;omega) (by simp) ?_;intro w6 hown0 hgrow0;rw [←HW5.out] at hown0 hgrow0;have mx6:=mbox_block mx5 (hgrow0.block _ mx5.lt nofun) hgrow0.size;clear c0 c1 c2 f0 f1 f2 d0 d1 d2 u0 u1 u2 lt ltm;obtain ⟨c0,c1,c2,f0,f1,f2,lt⟩:=mx6)
 have h56:Bl w5 w6:=⟨hgrow0.os,hgrow0.tape,hgrow0.output,hgrow0.size,fun k hk=>hgrow0.block k hk nofun⟩;have hs6:w5.heap.size≤w6.heap.size:=hgrow0.size;obtain ⟨w6b,hw6b⟩:∃ w6b,w6b=w6.alloc (.cells #[.slice (some ⟨w4.heap.size+1,0,none⟩) 0 N] 28):=⟨_,rfl⟩;have h6b:Bl w6 w6b:=by rw [hw6b];exact (Bl.refl _).alloc _
 have hs6b:w6b.heap.size=w6.heap.size+1:=by rw [hw6b];simp
 have bl6:Boxed w6b w6.heap.size 28 (.slice (some ⟨w4.heap.size+1,0,none⟩) 0 N):=by rw [hw6b];exact Boxed.new w6 _ _
 have hown6:w6b.ownsRow (w4.heap.size+1) 34 3 (.slice (some ⟨w4.heap.size+1,0,none⟩) 0 N) 0 []:=by
  rw [hs5] at hown0;exact own_blF hown0 h6b
 have HW6:=hideP hw6b;clear hw6b hown0 hgrow0 c0 c1 c2 f0 f1 f2 lt;rw [←HW6.out];refine ⟨trivial,?_⟩;refine (callsIn_wide.2 (mAllF _ _ _ _ _ f _ (HXm.out.later ((bw5.trans h56).trans h6b)))).mono ?_;rintro e w7 ⟨B2,p2,cap5,rfl,hK7,h7⟩;have HK7:=hideP hK7;clear hK7;have hs7:w6.heap.size+1≤w7.heap.size:=by have:=h7.size;omega
 have b57:Below w5.heap.size w5 w7:=(h56.trans h6b).trans h7;have bl7:=boxed_bl bl6 h7;have own7:=own_blF hown6 h7;clear bl6 hown6;have K4at:∀ u,Below w5.heap.size w5 u→KeptIn 3 cellsF u w3.heap.size w4.heap.size B1 D M q2 n2 cap4 (fun i k=>g k i):=fun u hu =>
  (HK4.out.later (Bl.span b45 (Nat.le_refl _))).later (Bl.span (show Bl w5 u from hu) (by omega))
 have HKA:=hideP K4at;clear K4at
 gi_wp2_with fail
 refine rangeV rfl (by omega) (gf:=128) (lb:=#[.pointer (some ⟨B2,0,none⟩)]) rfl trivial (enters_of Tryz.func128 (by kernel_rfl) rfl)
  (seqMF 7 B2 _ w7.heap.size R M p2 n cap5 f w7 (Nat.le_refl _) HK7.out) (fun x A B h=>h.1) (fun h k=>h.trans k) (span_b (Nat.le_refl _)) (fun _=>rfl)
  (fun pre U=>(∃ v,Boxed U w6.heap.size 28 v∧U.ownsRow (w4.heap.size+1) 34 3 v (rowsL D (mulMF M f g) pre).length ((rowsL D (mulMF M f g) pre).flatMap cellsF)∧(∀ b,v.ownBlock=some b→b<w6b.heap.size∨w7.heap.size≤b))∧(Below w5.heap.size w5 U∧w7.heap.size≤U.heap.size))
  (fun _ _ _=>False)
  (OwnFrom.and (Own.from (holdsRow_own (w4.heap.size+1) w6.heap.size 28 34 3 (fun pre=>(rowsL D (mulMF M f g) pre).length) (fun pre=>(rowsL D (mulMF M f g) pre).flatMap cellsF) (fun _ v=>∀ b,v.ownBlock=some b→b<w6b.heap.size∨w7.heap.size≤b)) _) (OwnFrom.and (ownFrom_below (Nat.le_refl _) b57.size) (own_size _ _)))
  (fun _ _ _ _ _ hs _ _=>hs)
  ⟨⟨_,bl7,own7,fun b hb=>by cases hb;exact .inl (by show w4.heap.size+1<_;omega)⟩,b57,Nat.le_refl _⟩
  (fun a x a' U=>∃ Bx v,w7.heap.size≤Bx∧Boxed U Bx 28 (rowV M x)∧Rw 3 cellsF U (rowV M x) (rowM M f x.1)∧Boxed U w6.heap.size 28 v∧(∀ b,(rowV M x).ownBlock=some b→w7.heap.size≤b∧v.ownBlock≠some b)
   ∧ a'={ tmps:=(((a.tmps.setIfInBounds 39 (.int .i64 x.1)).setIfInBounds 40 (rowV M x)).setIfInBounds 9 (.pointer (some ⟨Bx,0,none⟩))),defers:=[] })
  (fun x a' _ X Y row hs hg hr=>by obtain ⟨Bx,v,h0,h1,h2,h3,h4,h5⟩:=hs;exact ⟨Bx,v,h0,(Own.from (boxed_own (β:=Unit) _ _ (fun _=>_)) _) () _ _ _ h1 hg hr,rw_own h2 hg (fun r e=>(hr r e).2),(Own.from (boxed_own (β:=Unit) _ _ (fun _=>_)) _) () _ _ _ h3 hg hr,h4,h5⟩)
  ?assign ?body ?done ?stop
 case assign =>
  rintro l pre x W0 U K' ⟨⟨v0,hv0,hr0,_⟩,_,hs0'⟩ ⟨hbU,hxR,hrow,hfr,hcc⟩ ⟨⟨v,hv,hr,hg⟩,hbU5,hsU⟩ hK';have HK2:=hideP hK';clear hK';have hvv:v0=v:=by
   have e1:=(boxed_bl hv0 hbU).cell;rw [hv.cell] at e1;exact (Option.some.inj e1).symm
  subst hvv;have hfw:∀ b,(rowV M x).ownBlock=some b→w7.heap.size≤b∧v0.ownBlock≠some b:=fun b hb=>⟨by have:=hfr b hb;omega,fun e=>by have:=(hr0.lt b e).2;have:=hfr b hb;omega⟩
  gi_wp2
  have hb2:Bl U (U.alloc (.cells #[.slice x.2.1 M x.2.2] 28)):=(Bl.refl U).alloc _;refine HK2.out _ _ (hb2.keeps _) (hb2.span hsU) ⟨⟨v0,hv.alloc _,hr.alloc _,hg⟩,hbU5.trans (hb2.mono hbU5.size),by have:=hb2.size;omega⟩ ⟨U.heap.size,v0,hsU,Boxed.new U _ _,hrow.later hb2,hv.alloc _,hfw,?_⟩;rfl
 case body =>
  rintro l pre x a' U hl' ⟨r,hr'⟩ ⟨⟨v1,hv1,hrow1,hg1⟩,hbU,hsU⟩ ⟨Bx,v2,hBx,hbx,hrx,hv2,hne,rfl⟩ hlt;have hvv:v1=v2:=by
   have e1:=hv1.cell;rw [hv2.cell] at e1;exact (Option.some.inj e1).symm
  subst hvv;have fm:Tryz.prog.follows .mixedOrders=true:=by kernel_rfl
  simp only [List.setIfInBounds_toArray,List.set_cons_zero,List.set_cons_succ];have hcl:=(boxed_bl (show Boxed w5 _ _ _ from BC5) hbU).cell;have hKU:=HKA.out U hbU;have HR1:=hideP hrow1;have HV1:=hideP hv1;have HBX:=hideP hbx;have HRX:=hideP hrx;have HNE:=hideP hne;have HG1:=hideP hg1;have hlx:pre.length*D+D≤256:=by
   have h1:(pre.length+1)*D≤R*D:=Nat.mul_le_mul_right _ hlt;have:=HN.out;rw [Nat.succ_mul] at h1;omega
  clear hrow1 hv1 hbx hrx hne hg1 hv2
  gi_wp2_with fail
  clear hcl
  refine rangeVin (l₀:=l) (r₀:=r) rfl hr' (by omega) (gf:=128) (lb:=#[.pointer (some ⟨B1,0,none⟩)]) rfl trivial (enters_of Tryz.func128 (by kernel_rfl) rfl)
   ((seqMF 5 B1 w3.heap.size w4.heap.size D M q2 n2 cap4 (fun i k=>g k i) U (by omega) hKU).inRound l) (fun x A B h=>h.1) (fun h k=>h.trans k) (span_b (by omega)) (fun _=>rfl)
   (fun pre2 U2=>(∃ v,Boxed U2 w6.heap.size 28 v∧U2.ownsRow (w4.heap.size+1) 34 3 v (partL D (mulMF M f g) pre x.1 pre2).length ((partL D (mulMF M f g) pre x.1 pre2).flatMap cellsF)∧(∀ b,v.ownBlock=some b→(b<w6b.heap.size∨w7.heap.size≤b)∧(rowV M x).ownBlock≠some b))
    ∧ (Boxed U2 Bx 28 (rowV M x)∧(Rw 3 cellsF U2 (rowV M x) (rowM M f x.1)∧(Below w5.heap.size w5 U2∧(w7.heap.size≤U2.heap.size∧(Span w6b.heap.size w7.heap.size U U2∧(KeepsFrom w7.heap.size U U2∧U.heap.size≤U2.heap.size)))))))
   (fun _ _ _=>False)
   (OwnFrom.and (Own.from (holdsRow_own (w4.heap.size+1) w6.heap.size 28 34 3 (fun pre2=>(partL D (mulMF M f g) pre x.1 pre2).length) (fun pre2=>(partL D (mulMF M f g) pre x.1 pre2).flatMap cellsF) (fun _ v=>∀ b,v.ownBlock=some b→(b<w6b.heap.size∨w7.heap.size≤b)∧(rowV M x).ownBlock≠some b)) _)
    (OwnFrom.and (Own.from (boxed_own _ _ (fun _=>_)) _) (OwnFrom.and (own_rw _ _ _ _ _) (OwnFrom.and (ownFrom_below (Nat.le_refl _) (by have:=b57.size;omega)) (OwnFrom.and (own_size _ _) (OwnFrom.and (own_span hsU (Nat.le_refl _)) (OwnFrom.and (ownFrom_keepsFrom (Nat.le_refl _)) (own_size _ _))))))))
   (fun _ _ _ _ _ hs _ _=>hs)
   ⟨⟨v1,HV1.out,by rw [partL_nil];exact HR1.out,fun b hb=>⟨HG1.out b hb,fun e=>(HNE.out b e).2 hb⟩⟩,HBX.out,HRX.out,hbU,hsU,Span.refl _ _ _,KeepsFrom.refl _ _,Nat.le_refl _⟩
   (fun a y a' U2=>y.1<D∧Rw 3 cellsF U2 (rowV M y) (colM M g y.1)∧a'={ tmps:=(((a.tmps.setIfInBounds 42 (.int .i64 y.1)).setIfInBounds 43 (rowV M y)).setIfInBounds 11 (rowV M y)),defers:=[] })
   (fun y a' _ X Y row hs hg hr=>⟨hs.1,rw_own hs.2.1 hg (fun r e=>(hr r e).2),hs.2.2⟩)
   ?assign2 ?body2 ?done2 ?stop2
  case assign2 =>
   rintro l2 pre2 y W0 U2 K' _ ⟨hbU2,hyD,hrow,_,_⟩ hI2 hK';have HK2:=hideP hK';have HI2:=hideP hI2;clear hK' hI2
   gi_wp2
   exact HK2.out _ _ (KeepsFrom.refl _ _) (Span.refl _ _ _) HI2.out ⟨hyD,hrow,rfl⟩
  case body2 =>
   rintro l2 pre2 y a' U2 hl2 ⟨r2,hr2⟩ ⟨⟨v,hv,hrow,hgv⟩,hbx2,hrx2,hb5,hs7',hsp,hkf,hsU2⟩ ⟨hyD,hry,rfl⟩ hlt2;simp only [List.setIfInBounds_toArray,List.set_cons_zero,List.set_cons_succ]
   gi_wp2_with fail
   have hC:=fun u (hu:Bl U2 u)=>vDotF (rowV M x) (rowV M y) (rowM M f x.1) (colM M g y.1) u (hrx2.later hu).q (hry.later hu).q (by rw [rowM_len];omega) (by rw [colM_len];omega)
   have hlen2:(partL D (mulMF M f g) pre x.1 pre2).length≤100000:=by rw [partL_len];omega
   refine dotAppendF (ops:=_) rfl (by kernel_rfl) 44 7 47 (by simp) (by omega) ⟨rfl,rfl,rfl⟩ ⟨rfl,rfl⟩ ⟨rfl,rfl⟩ ⟨rfl,rfl,rfl⟩ ⟨rfl,rfl,rfl⟩ ⟨rfl,rfl,rfl⟩ ⟨rfl,rfl,rfl⟩ ⟨by simp,by simp⟩ (by simp) ⟨by simp,by simp⟩ (by simp)
    (rowV M x) (rowV M y) (fun act u K' hfr hu hk=>load_wp 28 (.tmp 9) rfl (by rw [hfr 9 (by omega)];exact Tryz.load1F Bx _ u (boxed_bl hbx2 hu).cell) hk)
    (fun act u K' hfr hu hk=>move_wp (.tmp 11) rfl (by rw [hfr 11 (by omega)];exact hk))
    trivial (fun _=>by omega) (enters_of Tryz.func47 (by kernel_rfl) rfl) (mulMF M f g x.1 y.1)
    (fun u hu=>CallsIn.inRound l2 (CallsIn.inRound l (callsIn_wide.2 (hC u hu))))
    w6.heap.size rfl v hv (w4.heap.size+1) (partL D (mulMF M f g) pre x.1 pre2) hrow hlen2 (by omega) ?_
   intro act u0 w8 g' cap' k1 k2 k3 k4;have hvu:=boxed_bl hv k1;have hru:=own_blF hrow k1;have hsu:=k1.size;have hu5:w4.heap.size+1≤u0.heap.size:=by omega
   obtain ⟨hv5,hv6,hr6,hk6,hb6⟩:=boxed_appended hvu (by decide) hru hu5 (by omega) k3 k2;have hg8:=k2.size;have hbb:∀ b,(rowV M x).ownBlock=some b→b<U2.heap.size:=hrx2.lt;have hsB:Below w5.heap.size U2 (w8.setCell ⟨w6.heap.size,0,none⟩ (.slice (some ⟨g',0,none⟩) ((partL D (mulMF M f g) pre x.1 pre2).length+1) cap')):=(k1.mono (by omega)).trans (by rw [hs5];exact hb6);refine ⟨(k1.keeps _).trans (hk6.from _),⟨by have:=hsB.size;omega,fun k _ h2=>hsB.block k (by omega)⟩,⟨_,hv6,?_,?_⟩,?_,?_,?_,?_,?_,?_,?_⟩
   ·rw [partL_snoc];simpa [List.flatMap_append] using hr6
   ·intro b hb;have hb':g'=b:=by cases hb;rfl
    subst hb';rcases k4 with h|h
    ·exact hgv _ h.symm
    ·exact ⟨.inr (by omega),fun e=>by have:=hbb _ e;omega⟩
   ·exact ((boxed_bl hbx2 k1).kept k2 ((boxed_bl hbx2 k1).not_row (by decide) hru)).other (by omega) _
   ·exact (hrx2.later k1).beside k2 (fun b hb=>⟨fun e=>(hgv b e).2 hb,by have:=(HNE.out b hb).1;omega⟩)
   ·exact hb5.trans hsB
   ·simp;omega
   ·exact hsp.trans (span_appended k1 (by omega) (fun b hb=>(hgv b hb).1) k2 (by omega))
   ·exact hkf.trans ((k1.keeps _).trans (hk6.from _))
   ·simp;omega
  case done2 =>
   rintro zs U2 hS ⟨⟨v,hv,hrow,hgv⟩,_,_,hb5,hs7',hsp,hkf,_⟩
   gi_wp2
   refine ⟨hkf,hsp,⟨⟨v,hv,?_,fun b hb=>(hgv b hb).1⟩,hb5,hs7'⟩⟩;rw [←partL_all D (mulMF M f g) pre x zs hS];exact hrow
  case stop2 =>
   rintro c pre2 U2 _ h;exact h.elim
 case done =>
  rintro Dm zs U hD hS ⟨⟨v,hv,hrow,_⟩,hb5,hs7'⟩ hKD;have e:=rowsL_all D (mulMF M f g) zs hS;rw [e] at hrow;have RW:=Rw.of_own cellsF_len hrow;have FR:Fresh (w4.heap.size+1) v:=fun b hb=>(hrow.lt b hb).1
  obtain ⟨p',cap',hv',_,_⟩:=RW.cut;rw [mk_len,←HN.out] at hv';subst hv';have hcl:=hv.cell;have HRW:=hideP RW;have HFR:=hideP FR;have HKD:=hideP hKD;obtain ⟨c0,c1,c2,f0,f1,f2,lt⟩:=mx5.later (show Bl w5 U from hb5);obtain ⟨d0,d1,d2,u0,u1,u2,ltm⟩:=my5.later (show Bl w5 U from hb5);obtain ⟨x0,x1,x2,y0,y1,y2,ltz⟩:=mz5.later (show Bl w5 U from hb5);have hbw:Bl w U:=bw5.trans hb5;clear hrow RW FR hKD hv
  gi_wp2
  have hs4:=h14.size;have hdm:Dm≠w.heap.size+1+1:=by omega
  have hKD2:((((U.setCell ⟨w.heap.size+1+1,0,none⟩ (.int .i64 R)).setCell ⟨w.heap.size+1+1,1,none⟩ (.int .i64 D)).setCell ⟨w.heap.size+1+1,2,none⟩ (.slice p' N cap'))).heap[Dm]?=some (.deferred (some [])):=
   (((KeepsOthers.setCell _ _ _).trans (KeepsOthers.setCell _ _ _)).trans (KeepsOthers.setCell _ _ _)).same Dm _ HKD.out rfl
  refine ⟨by simp,.inl ⟨_,_,rfl,run_takeDeferred hKD2,?_⟩⟩;have mzf:=MBox.fill (⟨x0,x1,x2,y0,y1,y2,ltz⟩:MBox U (w.heap.size+1+1) 0 0 none 0 0) R D p' N cap';have mzg:=mbox_block (w':=World.putObj _ Dm (.deferred none)) mzf (World.putObj_heap_other (by omega)) (by simp [World.putObj]);have blf:=Bl.put3 hbw (n:=w.heap.size+1+1) (by omega) (.int .i64 R) (.int .i64 D) (.slice p' N cap');have rwf:=((HRW.out.set (p:=⟨w.heap.size+1+1,0,none⟩) (.int .i64 R) (fun b hb=>by have:=HFR.out b hb;show w.heap.size+1+1+1≤b;omega)).set (p:=⟨w.heap.size+1+1,1,none⟩) (.int .i64 D) (fun b hb=>by have:=HFR.out b hb;show w.heap.size+1+1+1≤b;omega)).set (p:=⟨w.heap.size+1+1,2,none⟩) (.slice p' N cap') (fun b hb=>by have:=HFR.out b hb;show w.heap.size+1+1+1≤b;omega);generalize ((U.setCell ⟨w.heap.size+1+1,0,none⟩ (.int .i64 R)).setCell ⟨w.heap.size+1+1,1,none⟩ (.int .i64 D)).setCell ⟨w.heap.size+1+1,2,none⟩ (.slice p' N cap')=Z at *;have rwg:Rw 3 cellsF (Z.putObj Dm (.deferred none)) (.slice p' N cap') (mk R D (mulMF M f g)):=rw_own rwf (grownBy_putObj' _ Dm (.deferred none)) (fun r e=>by cases e;exact ⟨_,hKD2,rfl⟩);have blg:Bl w (Z.putObj Dm (.deferred none)):=Below.trans blf (belowK_b (w:=w) (Nat.le_refl _) Z Dm _ _ (by have:=hbw.size;have:=b57.size;omega) hKD2 rfl rfl);generalize Z.putObj Dm (.deferred none)=Y at *;obtain ⟨a0,a1,a2,_,_,_,_⟩:=mzg;refine ⟨.tuple #[mV R D p' N cap',.bool true],?_,p',cap',rfl,⟨⟨⟨hdR.r1,hdR.r2,hdD.c1,hdD.c2⟩,HN.out,rwg.q⟩,rwg,fun b hb=>by have:=HFR.out b hb;omega⟩,blg⟩;simp [results,Tryz.results87,go_sem,a0,a1,a2]
 case stop =>
  rintro D' c pre U _ _ h _;exact h.elim
theorem mMirror1F (R:Nat) (p:Option Addr) (n cap:Nat) (f:Nat→Nat→Fr) (w:World) (h:Mx 3 cellsF w R R p n cap f) (mb:Nat) (hm:MBox w mb R R p n cap) (i k:Nat) (hi:i<R) (hk:k<R) :
  Calls Tryz.prog 132 #[.int .i64 i,.int .i64 k,.pointer (some ⟨mb,0,none⟩)] w fun e w'=>e=.returned (frV (mirM f i k))∧Bl w w':=by
 obtain ⟨W,hW⟩:∃ W,W=w.alloc (.cells #[.int .i64 0,.int .i64 0,.bool false] 34):=⟨_,rfl⟩;have b0:Bl w W:=by rw [hW];exact (Bl.refl _).alloc _
 have x0:FBox W w.heap.size zeroR:=by rw [hW];exact FBox.new w zeroR 34
 obtain ⟨c0,c1,c2,f0,f1,f2,lt⟩:=hm;have HW:=hideP hW;clear hW;rcases Nat.lt_trichotomy i k with hik|hik|hik
 ·have q1:(i:Int)<(k:Int):=by omega
  have q2:¬ (k:Int)<(i:Int):=by omega
  have A:=hideP (fun u (hu:Bl w u)=>mAtF R R p n cap f u (h.later hu) k i (by omega) (by omega));have e0:mirM f i k=f k i:=by unfold mirM;rw [show max i k=k by omega,show min i k=i by omega]
  rw [e0];clear h e0;generalize f k i=x at *
  go_enter Tryz.func132,Tryz.ntmps132;go_wp2_with fail
  rw [←HW.out];refine (A.out _ b0).mono ?_;rintro e w1 ⟨rfl,h1⟩;clear c0 c1 c2 f0 f1 f2 A;obtain ⟨d0,d1,d2,g0,g1,g2,lt2⟩:=x0.later h1;go_wp2;simp [bodyPost,results,Tryz.results132,go_sem,d0,d1,d2];exact Bl.set3 (b0.trans h1) (Nat.le_refl _) _ _ _
 ·subst hik;have A:=hideP (fun u (hu:Bl w u)=>mAtF R R p n cap f u (h.later hu) i i (by omega) (by omega));have e0:mirM f i i=f i i:=by unfold mirM;rw [Nat.max_self,Nat.min_self]
  rw [e0];clear h e0;generalize f i i=x at *
  go_enter Tryz.func132,Tryz.ntmps132;go_wp2_with fail
  rw [←HW.out];refine (A.out _ b0).mono ?_;rintro e w1 ⟨rfl,h1⟩;clear c0 c1 c2 f0 f1 f2 A;obtain ⟨d0,d1,d2,g0,g1,g2,lt2⟩:=x0.later h1;go_wp2;simp [bodyPost,results,Tryz.results132,go_sem,d0,d1,d2];exact Bl.set3 (b0.trans h1) (Nat.le_refl _) _ _ _
 ·have q1:(k:Int)<(i:Int):=by omega
  have q2:¬ (i:Int)<(k:Int):=by omega
  have A:=hideP (fun u (hu:Bl w u)=>mAtF R R p n cap f u (h.later hu) i k (by omega) (by omega));have e0:mirM f i k=f i k:=by unfold mirM;rw [show max i k=i by omega,show min i k=k by omega]
  rw [e0];clear h e0;generalize f i k=x at *
  go_enter Tryz.func132,Tryz.ntmps132;go_wp2_with fail
  rw [←HW.out];refine (A.out _ b0).mono ?_;rintro e w1 ⟨rfl,h1⟩;clear c0 c1 c2 f0 f1 f2 A;obtain ⟨d0,d1,d2,g0,g1,g2,lt2⟩:=x0.later h1;go_wp2;simp [bodyPost,results,Tryz.results132,go_sem,d0,d1,d2];exact Bl.set3 (b0.trans h1) (Nat.le_refl _) _ _ _
theorem mMirrorF (R:Nat) (p:Option Addr) (n cap:Nat) (f:Nat→Nat→Fr) (w:World) (h:Mx 3 cellsF w R R p n cap f) :
  Calls Tryz.prog 90 #[mV R R p n cap] w fun e w'=>∃ p' cap',e=.returned (.tuple #[mV R R p' n cap',.bool true])∧(Mx 3 cellsF w' R R p' n cap' (mirM f)∧Rw 3 cellsF w' (.slice p' n cap') (mk R R (mirM f))∧Fresh w.heap.size (.slice p' n cap'))∧Bl w w':=by
 have hfit:=h.fit;obtain ⟨W,hW⟩:∃ W,W=(w.alloc (.cells #[.int .i64 R,.int .i64 R,.slice p n cap] 30)).alloc (.cells #[.int .i64 0,.int .i64 0,.slice none 0 0] 30):=⟨_,rfl⟩;have b0:Bl w W:=by rw [hW];exact ((Bl.refl _).alloc _).alloc _
 have m0:MBox W w.heap.size R R p n cap:=by rw [hW];exact (MBox.new w _ _ _ _ _ _).later ((Bl.refl _).alloc _)
 have x0:MBox W (w.heap.size+1) 0 0 none 0 0:=by rw [hW];have:=MBox.new (w.alloc (.cells #[.int .i64 R,.int .i64 R,.slice p n cap] 30)) 0 0 none 0 0 30;rw [World.size_alloc] at this;exact this
 have hs:W.heap.size=w.heap.size+1+1:=by rw [hW];simp
 have FI:=hideP (fun u (hu:Bl W u)=>mFilledF 132 w.heap.size (enters_of Tryz.func132 (by kernel_rfl) rfl) (mirM f) R R n h.1 h.2.1 u
  (fun i k v hi hk hv=>mMirror1F R p n cap f v (h.later (b0.trans (hu.trans hv))) _ (m0.later (hu.trans hv)) i k hi hk))
 have HD:=hideP h;have HW:=hideP hW;clear hW h
 go_enter Tryz.func90,Tryz.ntmps90;go_wp2_with fail
 rw [←HW.out];refine (mRightF _ _ _ _ _ _).mono ?_;rintro e w1 ⟨rfl,h1⟩;rw [hfit];obtain ⟨c0,c1,c2,f0,f1,f2,lt⟩:=m0.later h1;go_wp2_with fail
 refine (FI.out _ h1).mono ?_;rintro e w2 ⟨p',cap',rfl,⟨hR,hF⟩,h2⟩;have HR:=hideP hR;have HF:=hideP (show Fresh (w.heap.size+1+1) (.slice p' n cap') from fun g hg=>by have:=hF g hg;have:=h1.size;omega);clear hR hF FI c0 c1 c2 f0 f1 f2;obtain ⟨c0,c1,c2,f0,f1,f2,lt2⟩:=x0.later (h1.trans h2);go_wp2;simp [bodyPost,results,Tryz.results90,go_sem,c0,c1,c2];have q:=((HR.out.set (p:=⟨w.heap.size+1,0,none⟩) (.int .i64 R) HF.out).set (p:=⟨w.heap.size+1,1,none⟩) (.int .i64 R) HF.out).set (p:=⟨w.heap.size+1,2,none⟩) (.slice p' n cap') HF.out;refine ⟨p',cap',⟨rfl,rfl⟩,⟨⟨HD.out.1,HD.out.2.1,q.q⟩,q,fun g hg=>by have:=HF.out g hg;omega⟩,Bl.put3 ((b0.trans h1).trans h2) (Nat.le_succ _) _ _ _⟩
theorem boolF (x:Fr):∃ (j:Nat) (y:Bool),(cellsF x)[j]?=some (Value.bool y):=⟨3-1,x.bad,rfl⟩
set_option maxRecDepth 100000 in
set_option maxHeartbeats 2000000 in
theorem tSqF (n:Nat) (p:Option Addr) (N cap:Nat) (f:Nat→Nat→Fr) (w:World) (h:Mx 3 cellsF w n n p N cap f) :
  Calls Tryz.prog 45 #[mV n n p N cap] w fun e w'=>∃ p' cap',e=.returned (.tuple #[mV n n p' N cap',.bool true])∧(Mx 3 cellsF w' n n p' N cap' (mirM (mulMF n f (fun i k=>f k i)))∧Fresh w.heap.size (.slice p' N cap'))∧Bl w w':=by
 have fm:Tryz.prog.follows .mixedOrders=true:=by kernel_rfl
 have egT:=enters_of Tryz.func88 (by kernel_rfl) rfl;have egM:=enters_of Tryz.func87 (by kernel_rfl) rfl;have hsq:sqB n n N=true:=by unfold sqB;rw [h.fit];simp
 obtain ⟨Wa,hW⟩:∃ Wa,Wa=(w.alloc (.cells #[.int .i64 n,.int .i64 n,.slice p N cap] 30)).alloc (.cells #[.int .i64 0,.int .i64 0,.slice none 0 0] 30):=⟨_,rfl⟩;have b0:Bl w Wa:=by rw [hW];exact ((Bl.refl _).alloc _).alloc _
 have m0:MBox Wa w.heap.size n n p N cap:=by rw [hW];exact (MBox.new w _ _ _ _ _ _).later ((Bl.refl _).alloc _)
 have x0:MBox Wa (w.heap.size+1) 0 0 none 0 0:=by rw [hW];have:=MBox.new (w.alloc (.cells #[.int .i64 n,.int .i64 n,.slice p N cap] 30)) 0 0 none 0 0 30;rw [World.size_alloc] at this;exact this
 have hs:Wa.heap.size=w.heap.size+1+1:=by rw [hW];simp
 have HW:=hideP hW;clear hW
 go_enter Tryz.func45,Tryz.ntmps45;go_wp2_with fail
 rw [←HW.out];refine (tSquareF _ _ _ _ _ _).mono ?_;rintro e W ⟨rfl,h1⟩;rw [hsq];clear HW;replace b0:=b0.trans h1;replace m0:=m0.later h1;replace x0:=x0.later h1;replace hs:w.heap.size+1+1≤W.heap.size:=by have:=h1.size;omega
 clear h1;go_wp2_with fail
 refine (wpIn_wide (n:=8)).1 (region_q fm [some 11,some 12,some 13,some 14,some 10,some 15,some 16,some 4,none,some 5] (fun j=>j==6||j==9) 8 (by kernel_rfl) (by rfl)
  (fun j v u=>match j with|0=>v=mV n n p N cap|1=>v=mV n n p N cap|2=>∃ q c,v=mV n n q N c∧Mx 3 cellsF u n n q N c (fun i k=>f k i)|3=>∃ q c,v=.tuple #[mV n n q N c,.bool true]∧Mx 3 cellsF u n n q N c (mulMF n f (fun i k=>f k i))|4=>∃ q c,v=.tuple #[mV n n q N c,.bool true]∧Mx 3 cellsF u n n q N c (mulMF n f (fun i k=>f k i))|5=>∃ q c,v=mV n n q N c∧Mx 3 cellsF u n n q N c (mulMF n f (fun i k=>f k i))|6=>v=.bool true|7=>∃ b,v=.pointer (some ⟨b,0,none⟩)∧W.heap.size≤b∧MBox u b 0 0 none 0 0∧NoB u b|9=>v=.bool true|_=>False)
  (by
      intro j v u u' hb h;split at h<;>first|exact h|(obtain ⟨q,c,e,h1⟩:=h;exact ⟨q,c,e,h1.later hb⟩)|(obtain ⟨b,e,h1,h2,h3⟩:=h;exact ⟨b,e,h1,h2.later hb,h3.later hb h2.lt⟩)) (fun vs u0 u=>∃ b q c,vs 7=.pointer (some ⟨b,0,none⟩)∧MBox u b n n q N c∧Mx 3 cellsF u n n q N c (mulMF n f (fun i k=>f k i))∧MBox u (w.heap.size+1) 0 0 none 0 0∧Bl w u) ?step ?still ?store ?fin)
 case step =>
  intro j o t act u ho hdt hpu hsz hu hfr hin;have hj:j<10:=l9 ho;obtain ⟨c0,c1,c2,_,_,_,_⟩:=m0.later hu;rcases (by omega:j=0∨j=1∨j=2∨j=3∨j=4∨j=5∨j=6∨j=7∨j=8∨j=9) with rfl|rfl|rfl|rfl|rfl|rfl|rfl|rfl|rfl|rfl
  ·obtain ⟨rfl,rfl⟩:=o7 ho hdt;have i1:_=Value.pointer (some ⟨w.heap.size,0,none⟩):=hfr 1 (by decide);exact pl9 (r:=by simp only [seval,i1];simp [go_sem,c0,c1,c2])
  ·obtain ⟨rfl,rfl⟩:=o7 ho hdt;have i1:_=Value.pointer (some ⟨w.heap.size,0,none⟩):=hfr 1 (by decide);exact pl9 (r:=by simp only [seval,i1];simp [go_sem,c0,c1,c2])
  ·obtain ⟨rfl,rfl⟩:=o7 ho hdt;have i12:_=mV n n p N cap:=hin ⟨1,.data⟩ (by simp) rfl 12 rfl;refine ew9 88 #[mV n n p N cap] (by simp only [seval,i12];simp [invoke,egT,Result.andThen,go_sem]) (mTurnF n n p N cap f u (h.later (b0.trans hu))) ?_;rintro e w' ⟨q,c,rfl,⟨hM,_,_⟩,hb⟩;exact ⟨_,rfl,_,rfl,⟨q,c,rfl,hM⟩,hb⟩
  ·obtain ⟨rfl,rfl⟩:=o7 ho hdt;have i11:_=mV n n p N cap:=hin ⟨0,.data⟩ (by simp) rfl 11 rfl;have i13:∃ q c,(act.eval (.tmp (13:Nat)))=mV n n q N c∧Mx 3 cellsF u n n q N c (fun i k=>f k i):=hin ⟨2,.data⟩ (by simp) rfl 13 rfl;obtain ⟨q0,c0',e1,hq⟩:=i13;refine ew9 87 #[mV n n p N cap,mV n n q0 N c0'] (by simp only [seval,i11,e1];simp [invoke,egM,Result.andThen,go_sem]) (mMulF n n n p N cap f q0 N c0' (fun i k=>f k i) N u (h.later (b0.trans hu)) hq h.2.1) ?_;rintro e w' ⟨q,c,rfl,⟨hM,_,_⟩,hb⟩;exact ⟨_,rfl,_,rfl,⟨q,c,rfl,hM⟩,hb⟩
  ·obtain ⟨rfl,rfl⟩:=o7 ho hdt;have i14:∃ q c,(act.eval (.tmp (14:Nat)))=.tuple #[mV n n q N c,.bool true]∧Mx 3 cellsF u n n q N c (mulMF n f (fun i k=>f k i)):=hin ⟨3,.data⟩ (by simp) rfl 14 rfl;obtain ⟨q0,c0',e1,hq⟩:=i14;exact pw9 (by simp only [execOp,e1];simp [go_sem]) ⟨_,rfl,⟨q0,c0',rfl,hq⟩,Bl.refl _⟩
  ·obtain ⟨rfl,rfl⟩:=o7 ho hdt;have i10:∃ q c,(act.eval (.tmp (10:Nat)))=.tuple #[mV n n q N c,.bool true]∧Mx 3 cellsF u n n q N c (mulMF n f (fun i k=>f k i)):=hin ⟨4,.data⟩ (by simp) rfl 10 rfl;obtain ⟨q0,c0',e1,hq⟩:=i10;exact pw9 (by simp only [execOp,e1];simp [go_sem]) ⟨_,rfl,⟨q0,c0',rfl,hq⟩,Bl.refl _⟩
  ·cases hpu
  ·obtain ⟨rfl,rfl⟩:=o7 ho hdt;exact pw9 (w':=u.alloc (.cells #[.int .i64 0,.int .i64 0,.slice none 0 0] 30)) (v:=.pointer (some ⟨u.heap.size,0,none⟩)) (by simp only [execOp];simp [go_sem]) ⟨_,rfl,⟨u.heap.size,rfl,hu.size,MBox.new u 0 0 none 0 0 _,noB_new u _⟩,(Bl.refl _).alloc _⟩
  ·obtain rfl:=o9 ho;cases hdt
  ·cases hpu
 case still =>
  intro j o t act u0 u ho hdt hpu hsz hu hfr hin;have hj:j<10:=l9 ho;obtain ⟨c0,c1,c2,_,_,_,_⟩:=m0.later hu;rcases (by omega:j=0∨j=1∨j=2∨j=3∨j=4∨j=5∨j=6∨j=7∨j=8∨j=9) with rfl|rfl|rfl|rfl|rfl|rfl|rfl|rfl|rfl|rfl
  ·cases hpu
  ·cases hpu
  ·cases hpu
  ·cases hpu
  ·cases hpu
  ·cases hpu
  ·obtain ⟨rfl,rfl⟩:=o7 ho hdt;have i10:∃ q c,(act.eval (.tmp (10:Nat)))=.tuple #[mV n n q N c,.bool true]∧Mx 3 cellsF u0 n n q N c (mulMF n f (fun i k=>f k i)):=hin ⟨4,.data⟩ (by simp) rfl 10 rfl;obtain ⟨q0,c0',e1,hq⟩:=i10;exact pw9 (by simp only [execOp,e1];simp [go_sem]) ⟨_,rfl,rfl,rfl⟩
  ·cases hpu
  ·cases hpu
  ·obtain ⟨rfl,rfl⟩:=o7 ho hdt;have i16:_=Value.bool true:=hin ⟨6,.data⟩ (by simp) rfl 16 rfl;exact pw9 (by simp only [seval,i16];simp [go_sem]) ⟨_,rfl,rfl,rfl⟩
 case store =>
  intro o act u vs ho hsz hu hfr hin;obtain rfl:=o9 ho;obtain ⟨i4,k4⟩:act.eval (.tmp (4:Nat))=vs 7∧(∃ b,(vs 7)=.pointer (some ⟨b,0,none⟩)∧W.heap.size≤b∧MBox u b 0 0 none 0 0∧NoB u b):=hin 7 4 rfl rfl;obtain ⟨i15,k15⟩:act.eval (.tmp (15:Nat))=vs 5∧(∃ q c,(vs 5)=mV n n q N c∧Mx 3 cellsF u n n q N c (mulMF n f (fun i k=>f k i))):=hin 5 15 rfl rfl;obtain ⟨b,e1,hb,bx,nb⟩:=k4;obtain ⟨q0,c0',e2,hq⟩:=k15;rw [e1] at i4;rw [e2] at i15;obtain ⟨c0,c1,c2,f0,f1,f2,ltb⟩:=id bx;exact sw9 (by simp only [execOp,i4,i15];simp [go_sem,c0,c1,c2,f0,f1,f2]) ⟨rfl,b,q0,c0',e1,bx.fill _ _ _ _ _,mx_ne7 hq (noB_mx boolF hq nb) _ _ _,mbox_set7 (mbox_set7 (mbox_set7 (x0.later hu) (by omega) _ _) (by omega) _ _) (by omega) _ _,Bl.put3 (b0.trans hu) (by have:=b0.size;omega) _ _ _⟩
 case fin =>
  intro vs vb u0 u hu hin hps;have a0:=hin 0 11 rfl;have a1:=hin 1 12 rfl;have a2:=hin 2 13 rfl;have a3:=hin 3 14 rfl;have a4:=hin 4 10 rfl;have a5:=hin 5 15 rfl;have a6:=hin 6 16 rfl;have a7:=hin 7 4 rfl;have a9:=hin 9 5 rfl;simp only [seval] at a0 a1 a2 a3 a4 a5 a6 a7 a9 ⊢;rw [if_pos (by decide)] at hps;simp only [a0,a1,a6,a9];obtain ⟨b,q,c,e7,bx,hM,xz,hbw⟩:=hps;simp only [e7];clear a2 a3 a4 a5 a7;have MI:=hideP (fun u' (hu':Bl u u')=>mMirrorF n q N c _ u' (hM.later hu'));obtain ⟨c0,c1,c2,f0,f1,f2,ltb⟩:=bx;go_wp2_with fail
  refine (MI.out _ (Bl.refl _)).mono ?_;rintro e w3 ⟨p',cap',rfl,⟨hR,_,hF⟩,h3⟩;have HR:=hideP hR;have HF:=hideP (show Fresh (w.heap.size+1+1) (.slice p' N cap') from fun g hg=>by have:=hF g hg;have:=xz.lt;omega);clear hR hF MI c0 c1 c2 f0 f1 f2;obtain ⟨c0,c1,c2,f0,f1,f2,lt2⟩:=xz.later h3;go_wp2;simp [bodyPost,results,Tryz.results45,go_sem,c0,c1,c2];exact ⟨p',cap',⟨rfl,rfl⟩,⟨mx_put7 HR.out HF.out _ _ _,fun g hg=>by have:=HF.out g hg;omega⟩,Bl.put3 (hbw.trans h3) (Nat.le_succ _) _ _ _⟩
def kdF:Kd Fr:={ z:=wholeF 0,add:=addR,sub:=subR,mul:=mulR,div:=divR,root:=rootR,neg:=negR,dot:=dotF }
structure EachS (w:World) (R C:Int) (p q:Option Addr) (n cap cap2:Nat) (u:World):Prop where
 x:MBox u w.heap.size R C p n cap
 y:MBox u (w.heap.size+1) R C q n cap2
 z:∃ r' c' p' n' k',MBox u (w.heap.size+1+1) r' c' p' n' k'
 bl:Bl w u
theorem Rq.set {α:Type} {s:Nat} {c:α→List Value} {w:World} {v:Value} {xs:List α} (h:Rq s c w v xs) {p:Addr} (u:Value) (hf:Fresh (p.block+1) v):Rq s c (w.setCell p u) v xs:=by
 rcases h with h|⟨b,o,cap,rfl,hc,hb,hx⟩
 ·exact .inl h
 ·have hne:p.block+1≤b:=hf b rfl;have hk:(w.setCell p u).heap[b]?=w.heap[b]?:=Below.heap_setCell _ _ _ b (by omega);exact .inr ⟨b,o,cap,rfl,hc,by simpa using hb,fun j x hj k v hv=>(World.cell?_of_block (a:=⟨b,o+j*s+k,none⟩) hk).trans (hx j x hj k v hv)⟩
theorem Mx.put3 {α:Type} {s:Nat} {c:α→List Value} {w:World} {R C:Nat} {p:Option Addr} {n cap b:Nat} {f:Nat→Nat→α} (h:Mx s c w R C p n cap f) (hf:Fresh (b+1) (.slice p n cap)) (v0 v1 v2:Value):Mx s c (((w.setCell ⟨b,0,none⟩ v0).setCell ⟨b,1,none⟩ v1).setCell ⟨b,2,none⟩ v2) R C p n cap f:=
 ⟨h.1,h.2.1,((h.2.2.set (p:=⟨b,0,none⟩) v0 hf).set (p:=⟨b,1,none⟩) v1 hf).set (p:=⟨b,2,none⟩) v2 hf⟩
theorem mbox_set {w:World} {b b':Nat} {r c:Int} {p:Option Addr} {n cap:Nat} (h:MBox w b r c p n cap) (hne:b≠b') (o:Nat) (v:Value):MBox (w.setCell ⟨b',o,none⟩ v) b r c p n cap:=
 mbox_block h (Below.heap_setCell _ _ _ b (by show b≠b';exact hne)) (by simp)
theorem EachS.later {w:World} {R C:Int} {p q:Option Addr} {n cap cap2:Nat} {u u':World} (h:EachS w R C p q n cap cap2 u) (k:Bl u u'):EachS w R C p q n cap cap2 u':=
 ⟨h.x.later k,h.y.later k,by obtain ⟨a,b,c,d,e,m⟩:=h.z;exact ⟨a,b,c,d,e,m.later k⟩,h.bl.trans k⟩
theorem EachS.stored {w:World} {R C:Int} {p q:Option Addr} {n cap cap2:Nat} {u:World} (h:EachS w R C p q n cap cap2 u) (r' c':Int) (p':Option Addr) (n' cap':Nat) :
  EachS w R C p q n cap cap2 (((u.setCell ⟨w.heap.size+1+1,0,none⟩ (.int .i64 r')).setCell ⟨w.heap.size+1+1,1,none⟩ (.int .i64 c')).setCell ⟨w.heap.size+1+1,2,none⟩ (.slice p' n' cap')):=
 ⟨mbox_set (mbox_set (mbox_set h.x (by omega) _ _) (by omega) _ _) (by omega) _ _,mbox_set (mbox_set (mbox_set h.y (by omega) _ _) (by omega) _ _) (by omega) _ _,by obtain ⟨a,b,c,d,e,m⟩:=h.z;exact ⟨_,_,_,_,_,m.fill r' c' p' n' cap'⟩,Bl.put3 h.bl (by omega) _ _ _⟩
set_option maxRecDepth 100000 in
set_option maxHeartbeats 2000000 in
theorem mEach_any (G:Nat) (op:Fr→Fr→Fr) (eg:∀ (args:Array Value) (w:World),(callFunc G args).run Tryz.prog w=.ok (.enter G args) w) (R C:Nat) (p q:Option Addr) (n cap cap2:Nat) (f g:Nat→Nat→Fr) (w:World) (hx:Mx 3 cellsF w R C p n cap f) (hy:Mx 3 cellsF w R C q n cap2 g)
  (hG:∀ (va vb:Value) (xs ys:List Fr) (w:World),Rq 3 cellsF w va xs→Rq 3 cellsF w vb ys→xs.length≤1000000→ys.length≤1000000→Calls Tryz.prog G #[va,vb] w fun e w'=>∃ u,e=.returned u∧Rw 3 cellsF w' u (List.zipWith op xs ys)∧Fresh w.heap.size u∧Bl w w') :
  Calls Tryz.prog 133 #[mV R C p n cap,mV R C q n cap2,.func (.func G) #[] #[]] w fun e w'=>∃ p' cap',e=.returned (.tuple #[mV R C p' n cap',.bool true])∧(Mx 3 cellsF w' R C p' n cap' (fun i k=>op (f i k) (g i k))∧Fresh w.heap.size (.slice p' n cap'))∧Bl w w':=by
 have hfx:=hx.fit;have fm:Tryz.prog.follows .mixedOrders=true:=by kernel_rfl
 obtain ⟨W,hW⟩:∃ W,W=((w.alloc (.cells #[.int .i64 R,.int .i64 C,.slice p n cap] 30)).alloc (.cells #[.int .i64 R,.int .i64 C,.slice q n cap2] 30)).alloc (.cells #[.int .i64 0,.int .i64 0,.slice none 0 0] 30):=⟨_,rfl⟩;have b0:Bl w W:=by rw [hW];exact (((Bl.refl _).alloc _).alloc _).alloc _
 have mx0:MBox W w.heap.size R C p n cap:=by rw [hW];exact (MBox.new w _ _ _ _ _ _).later (((Bl.refl _).alloc _).alloc _)
 have my0:MBox W (w.heap.size+1) R C q n cap2:=by rw [hW];have:=(MBox.new (w.alloc (.cells #[.int .i64 R,.int .i64 C,.slice p n cap] 30)) R C q n cap2 30);rw [World.size_alloc] at this;exact this.later ((Bl.refl _).alloc _)
 have mz0:MBox W (w.heap.size+1+1) 0 0 none 0 0:=by rw [hW];have:=MBox.new ((w.alloc (.cells #[.int .i64 R,.int .i64 C,.slice p n cap] 30)).alloc (.cells #[.int .i64 R,.int .i64 C,.slice q n cap2] 30)) 0 0 none 0 0 30;rw [World.size_alloc,World.size_alloc] at this;exact this
 have hs0:W.heap.size=w.heap.size+1+1+1:=by rw [hW];simp
 have HX:=hideP hx;have HY:=hideP hy;have HG:=hideP hG;have HW:=hideP hW;clear hW hx hy hG
 go_enter Tryz.func133,Tryz.ntmps133;go_wp2_with fail
 rw [←HW.out];refine (mRightF _ _ _ _ _ _).mono ?_;rintro e w1 ⟨rfl,h1⟩;rw [hfx];obtain ⟨d0,d1,d2,u0,u1,u2,ltm⟩:=my0.later h1;go_wp2_with fail
 refine (mRightF _ _ _ _ _ _).mono ?_;rintro e w2 ⟨rfl,h2⟩;rw [hfx];clear d0 d1 d2 u0 u1 u2 ltm;have hB2:Bl W w2:=h1.trans h2;obtain ⟨c0,c1,c2,f0,f1,f2,lt⟩:=mx0.later hB2;obtain ⟨d0,d1,d2,u0,u1,u2,ltm⟩:=my0.later hB2;go_wp2_with fail
 clear c0 c1 c2 f0 f1 f2 lt d0 d1 d2 u0 u1 u2 ltm;have ES:EachS w R C p q n cap cap2 w2:=⟨mx0.later hB2,my0.later hB2,⟨_,_,_,_,_,mz0.later hB2⟩,b0.trans hB2⟩;have CL:=hideP (fun (u:World) (hu:Bl w u)=>(HG.out (.slice p n cap) (.slice q n cap2) (mk R C f) (mk R C g) u (HX.out.2.2.later hu) (HY.out.2.2.later hu) (by rw [mk_len];have:=HX.out.1.lt;omega) (by rw [mk_len];have:=HX.out.1.lt;omega)).mono (R':=fun e w'=>∃ p' cap',e=.returned (.slice p' n cap')∧(Rw 3 cellsF w' (.slice p' n cap') (mk R C (fun i k=>op (f i k) (g i k)))∧Fresh u.heap.size (.slice p' n cap'))∧Bl u w') (by
  rintro e w' ⟨v,rfl,hr,hf,hb⟩;rw [mk_zip] at hr;obtain ⟨p',cap',rfl,_,_⟩:=hr.cut;rw [mk_len,←HX.out.2.1] at hr hf ⊢;exact ⟨p',cap',rfl,⟨hr,hf⟩,hb⟩))
 have KP:=hideP (fun (u:World) (hu:EachS w R C p q n cap cap2 u)=>(show u.cell? ⟨w.heap.size,0,none⟩=some (.int .i64 R)∧u.cell? ⟨w.heap.size,1,none⟩=some (.int .i64 C)∧u.cell? ⟨w.heap.size,2,none⟩=some (.slice p n cap)∧u.cell? ⟨w.heap.size+1,2,none⟩=some (.slice q n cap2)∧EachS w R C p q n cap cap2 u from ⟨hu.x.c0,hu.x.c1,hu.x.c2,hu.y.c2,hu⟩));have HES:=hideP ES;clear ES mx0 my0 mz0
 go_region_held3 (fun u=>u.cell? ⟨w.heap.size,0,none⟩=some (.int .i64 R)∧u.cell? ⟨w.heap.size,1,none⟩=some (.int .i64 C)∧u.cell? ⟨w.heap.size,2,none⟩=some (.slice p n cap)∧u.cell? ⟨w.heap.size+1,2,none⟩=some (.slice q n cap2)∧EachS w R C p q n cap cap2 u)
  (first|exact KP.out _ ((HES.out.later (show Bl w2 w3 by repeat (first|exact Bl.refl _|apply Bl.drew|(refine Bl.trans ?_ (by assumption))))).stored _ _ _ _ _)|exact KP.out _ (HES.out.later (by repeat (first|exact Bl.refl _|apply Bl.drew|(refine Bl.trans ?_ (by assumption))))))
  (first
   |(refine (CL.out _ (HES.out.later (by repeat (first|exact Bl.refl _|apply Bl.drew|(refine Bl.trans ?_ (by assumption))))).bl).mono ?_;rintro e w3 ⟨p',cap',rfl,⟨hR,hF⟩,h3⟩;obtain ⟨a1,a2,a3,a4,a5,⟨z0,z1,z2,y0,y1,y2,ltz⟩⟩:=(HES.out.later (show Bl w2 w3 by repeat (first|exact Bl.refl _|apply Bl.drew|(refine Bl.trans ?_ (by assumption))))).z))
 have hF':Fresh (w.heap.size+1+1+1) (.slice p' n cap'):=fun b hb=>by
  have h1:=hF b hb;have h2:=hB2.size;have h4:w2.heap.size≤w2.drew.heap.size:=Nat.le_refl _;omega
 have HR:=hideP hR;have HF:=hideP hF';clear hR hF hF'
 rename_i hh
 obtain ⟨_,_,_,_,hS⟩:=hh;have HS:=hideP hS;clear hS;go_wp2;simp [bodyPost,results,Tryz.results133,go_sem,z0,z1,z2];have q:=((HR.out.set (p:=⟨w.heap.size+1+1,0,none⟩) (.int .i64 R) HF.out).set (p:=⟨w.heap.size+1+1,1,none⟩) (.int .i64 C) HF.out).set (p:=⟨w.heap.size+1+1,2,none⟩) (.slice p' n cap') HF.out;exact ⟨p',cap',⟨rfl,rfl⟩,⟨⟨HX.out.1,HX.out.2.1,q.q⟩,fun b hb=>by have:=HF.out b hb;omega⟩,HS.out.bl⟩
theorem mAddF' (R C:Nat) (p q:Option Addr) (n cap cap2:Nat) (f g:Nat→Nat→Fr) (w:World) (hx:Mx 3 cellsF w R C p n cap f) (hy:Mx 3 cellsF w R C q n cap2 g) :
  Calls Tryz.prog 91 #[mV R C p n cap,mV R C q n cap2] w fun e w'=>∃ p' cap',e=.returned (.tuple #[mV R C p' n cap',.bool true])∧(Mx 3 cellsF w' R C p' n cap' (fun i k=>addR (f i k) (g i k))∧Fresh w.heap.size (.slice p' n cap'))∧Bl w w':=by
 obtain ⟨W,hW⟩:∃ W,W=((w.alloc (.cells #[.int .i64 R,.int .i64 C,.slice p n cap] 30)).alloc (.cells #[.int .i64 R,.int .i64 C,.slice q n cap2] 30)).alloc (.cells #[.int .i64 0,.int .i64 0,.slice none 0 0] 30):=⟨_,rfl⟩;have b0:Bl w W:=by rw [hW];exact (((Bl.refl _).alloc _).alloc _).alloc _
 have mz0:MBox W (w.heap.size+1+1) 0 0 none 0 0:=by rw [hW];have:=MBox.new ((w.alloc (.cells #[.int .i64 R,.int .i64 C,.slice p n cap] 30)).alloc (.cells #[.int .i64 R,.int .i64 C,.slice q n cap2] 30)) 0 0 none 0 0 30;rw [World.size_alloc,World.size_alloc] at this;exact this
 have hs0:W.heap.size=w.heap.size+1+1+1:=by rw [hW];simp
 have E:=hideP (mEach_any 49 addR (enters_of Tryz.func49 (by kernel_rfl) rfl) R C p q n cap cap2 f g W (hx.later b0) (hy.later b0) (fun va vb xs ys w h1 h2 h3 h4=>vAddF' va vb xs ys w h1 h2 h3 h4));have HW:=hideP hW;clear hW hx hy
 go_enter Tryz.func91,Tryz.ntmps91;go_wp2_with fail
 rw [←HW.out];refine E.out.mono ?_;rintro e w1 ⟨p',cap',rfl,⟨hm,hf⟩,h1⟩;have HM:=hideP hm;have HF:=hideP (show Fresh (w.heap.size+1+1+1) (.slice p' n cap') from fun b hb=>by have:=hf b hb;omega);obtain ⟨z0,z1,z2,y0,y1,y2,ltz⟩:=mz0.later h1;clear hm hf E;go_wp2;simp [bodyPost,results,Tryz.results91,go_sem,z0,z1,z2];exact ⟨p',cap',⟨rfl,rfl⟩,⟨Mx.put3 HM.out HF.out _ _ _,fun b hb=>by have:=HF.out b hb;omega⟩,Bl.put3 (b0.trans h1) (by omega) _ _ _⟩
theorem mSubF' (R C:Nat) (p q:Option Addr) (n cap cap2:Nat) (f g:Nat→Nat→Fr) (w:World) (hx:Mx 3 cellsF w R C p n cap f) (hy:Mx 3 cellsF w R C q n cap2 g) :
  Calls Tryz.prog 97 #[mV R C p n cap,mV R C q n cap2] w fun e w'=>∃ p' cap',e=.returned (.tuple #[mV R C p' n cap',.bool true])∧(Mx 3 cellsF w' R C p' n cap' (fun i k=>subR (f i k) (g i k))∧Fresh w.heap.size (.slice p' n cap'))∧Bl w w':=by
 obtain ⟨W,hW⟩:∃ W,W=((w.alloc (.cells #[.int .i64 R,.int .i64 C,.slice p n cap] 30)).alloc (.cells #[.int .i64 R,.int .i64 C,.slice q n cap2] 30)).alloc (.cells #[.int .i64 0,.int .i64 0,.slice none 0 0] 30):=⟨_,rfl⟩;have b0:Bl w W:=by rw [hW];exact (((Bl.refl _).alloc _).alloc _).alloc _
 have mz0:MBox W (w.heap.size+1+1) 0 0 none 0 0:=by rw [hW];have:=MBox.new ((w.alloc (.cells #[.int .i64 R,.int .i64 C,.slice p n cap] 30)).alloc (.cells #[.int .i64 R,.int .i64 C,.slice q n cap2] 30)) 0 0 none 0 0 30;rw [World.size_alloc,World.size_alloc] at this;exact this
 have hs0:W.heap.size=w.heap.size+1+1+1:=by rw [hW];simp
 have E:=hideP (mEach_any 135 subR (enters_of Tryz.func135 (by kernel_rfl) rfl) R C p q n cap cap2 f g W (hx.later b0) (hy.later b0) (fun va vb xs ys w h1 h2 h3 h4=>vSubF' va vb xs ys w h1 h2 h3 h4));have HW:=hideP hW;clear hW hx hy
 go_enter Tryz.func97,Tryz.ntmps97;go_wp2_with fail
 rw [←HW.out];refine E.out.mono ?_;rintro e w1 ⟨p',cap',rfl,⟨hm,hf⟩,h1⟩;have HM:=hideP hm;have HF:=hideP (show Fresh (w.heap.size+1+1+1) (.slice p' n cap') from fun b hb=>by have:=hf b hb;omega);obtain ⟨z0,z1,z2,y0,y1,y2,ltz⟩:=mz0.later h1;clear hm hf E;go_wp2;simp [bodyPost,results,Tryz.results97,go_sem,z0,z1,z2];exact ⟨p',cap',⟨rfl,rfl⟩,⟨Mx.put3 HM.out HF.out _ _ _,fun b hb=>by have:=HF.out b hb;omega⟩,Bl.put3 (b0.trans h1) (by omega) _ _ _⟩
theorem Tryz.buildSF (q:Option Addr) (n c:Nat) (r d:Int) (p:Option Addr) (N cap:Nat) (u:World):(Instr.build 36 #[(0,.slice q n c),(1,mV r d p N cap)]).run Tryz.prog u=.ok (sJ q n c r d p N cap) u:=by kernel_rfl
theorem rw_put4F {w:World} {v:Value} {xs:List Fr} {b:Nat} (h:Rw 3 cellsF w v xs) (hf:Fresh (b+1) v) (v0 v1 v2 v3:Value):Rw 3 cellsF ((((w.setCell ⟨b,0,none⟩ v0).setCell ⟨b,1,none⟩ v1).setCell ⟨b,2,none⟩ v2).setCell ⟨b,3,none⟩ v3) v xs:=by
 rcases h with h|⟨g,o,cap,rfl,hc,hb,hx⟩
 ·exact .inl h
 ·have hne:b+1≤g:=hf g rfl;have hk:((((w.setCell ⟨b,0,none⟩ v0).setCell ⟨b,1,none⟩ v1).setCell ⟨b,2,none⟩ v2).setCell ⟨b,3,none⟩ v3).heap[g]?=w.heap[g]?:=by
   rw [Below.heap_setCell _ _ _ g (by show g≠b;omega),Below.heap_setCell _ _ _ g (by show g≠b;omega),Below.heap_setCell _ _ _ g (by show g≠b;omega),Below.heap_setCell _ _ _ g (by show g≠b;omega)]
  exact .inr ⟨g,o,cap,rfl,hc,by simpa using hb,fun j x hj k v hv=>(World.cell?_of_block (a:=⟨g,o+j*3+k,none⟩) hk).trans (hx j x hj k v hv)⟩
theorem clone_linF (px:Option Addr) (n cx:Nat) (x:Nat→Fr) (w:World) (h:Rq 3 cellsF w (.slice px n cx) (linJ n x)) (hl:n≤1000000) :
  Calls Tryz.prog 66 #[.slice px n cx] w fun e w'=>∃ q c,e=.returned (.slice q n c)∧(Rw 3 cellsF w' (.slice q n c) (linJ n x)∧Fresh w.heap.size (.slice q n c))∧Bl w w':=
 (vCloneF _ _ w h (by rw [linJ_len];exact hl)).mono fun e w' ⟨u,he,hr,hf,hb⟩=>by
  obtain ⟨q,c,rfl,_,_⟩:=hr.cut;rw [linJ_len] at hr hf he;exact ⟨q,c,he,⟨hr,hf⟩,hb⟩
set_option maxRecDepth 100000 in
set_option maxHeartbeats 2000000 in
theorem jNewF (n:Nat) (px:Option Addr) (cx:Nat) (x:Nat→Fr) (p:Option Addr) (N cap:Nat) (f:Nat→Nat→Fr) (w:World) (hx:Rq 3 cellsF w (.slice px n cx) (linJ n x)) (h:Mx 3 cellsF w n n p N cap f) (h4:n≤4) :
  Calls Tryz.prog 26 #[.slice px n cx,mV n n p N cap] w fun e w'=>∃ q c p' c',e=.returned (.tuple #[sJ q n c n n p' N c',.bool true])∧(Rw 3 cellsF w' (.slice q n c) (linJ n x)∧Mx 3 cellsF w' n n p' N c' (squareJ kdF n f))∧Bl w w':=by
 have fm:Tryz.prog.follows .mixedOrders=true:=by kernel_rfl
 have egC:=enters_of Tryz.func66 (by kernel_rfl) rfl;have hfit:=fitJ_dim h.1 h.2.1 h4;obtain ⟨W,hW⟩:∃ W,W=(w.alloc (.cells #[.int .i64 n,.int .i64 n,.slice p N cap] 30)).alloc (.cells #[.slice none 0 0,.int .i64 0,.int .i64 0,.slice none 0 0] 36):=⟨_,rfl⟩;have b0:Bl w W:=by rw [hW];exact ((Bl.refl _).alloc _).alloc _
 have m0:MBox W w.heap.size n n p N cap:=by rw [hW];exact (MBox.new w _ _ _ _ _ _).later ((Bl.refl _).alloc _)
 have s0:SBox W (w.heap.size+1) none 0 0 0 0 none 0 0:=by rw [hW];have:=SBox.new (w.alloc (.cells #[.int .i64 n,.int .i64 n,.slice p N cap] 30)) none 0 0 0 0 none 0 0 36;rw [World.size_alloc] at this;exact this
 have hs:W.heap.size=w.heap.size+1+1:=by rw [hW];simp
 have HX:=hideP hx;have HMX:=hideP h;have HW:=hideP hW;clear hW hx h
 go_enter Tryz.func26,Tryz.ntmps26;go_wp2_with fail
 rw [←HW.out];refine (jFitsF _ _ _ _ _ _ _).mono ?_;rintro e w1 ⟨rfl,h1⟩;rw [hfit];obtain ⟨c0,c1,cm,f0,f1,f2,lt⟩:=m0.later h1;have b01:=b0.trans h1;go_wp2_with fail
 refine (tSqF n p N cap f w1 (HMX.out.later b01)).mono ?_;rintro e w2 ⟨p2,c2,rfl,⟨hP,hF⟩,h2⟩;have k2:=MBox.new w2 n n p2 N c2 30;obtain ⟨W2,hW2⟩:∃ W2,W2=w2.alloc (.cells #[.int .i64 n,.int .i64 n,.slice p2 N c2] 30):=⟨_,rfl⟩;have b2:Bl w2 W2:=by rw [hW2];exact (Bl.refl _).alloc _
 rw [←hW2] at k2;have HW2:=hideP hW2;have B2:Bl w W2:=b01.trans (h2.trans b2);have s2:=s0.later (h1.trans (h2.trans b2));have hsz:w.heap.size+1+1≤W2.heap.size:=by have:=(h1.trans (h2.trans b2)).size;omega
 have HP:=hideP (show Mx 3 cellsF W2 n n p2 N c2 (squareJ kdF n f) from Mx.later hP b2);have HF:=hideP (show Fresh (w.heap.size+1+1) (.slice p2 N c2) from fresh_le hF (by have:=h1.size;omega));have CL:=hideP (fun u (hu:Bl W2 u)=>clone_linF px n cx x u (HX.out.later (B2.trans hu)) (by have:=h4;omega));clear hW2 hP hF c0 c1 cm f0 f1 f2 lt;go_wp2_with fail
 rw [←HW2.out]
 refine (wpIn_wide (n:=8)).1 (region_q fm [some 19,some 20,some 21,some 22,none,some 5] (fun j=>j==5) 4 (by kernel_rfl) (by rfl)
  (fun j v u=>match j with|0=>v=.slice px n cx|1=>∃ q c,v=.slice q n c∧Rw 3 cellsF u (.slice q n c) (linJ n x)∧Fresh W2.heap.size (.slice q n c)|2=>v=mV n n p2 N c2|3=>∃ q c,v=sJ q n c n n p2 N c2∧Rw 3 cellsF u (.slice q n c) (linJ n x)∧Fresh W2.heap.size (.slice q n c)|5=>v=.bool true|_=>False)
  (by
    intro j v u u' hb h;split at h<;>first|exact h|(obtain ⟨q,c,e,h1,h2⟩:=h;exact ⟨q,c,e,h1.later hb,h2⟩)) (fun vs u0 u=>∃ q c,SBox u (w.heap.size+1) q n c n n p2 N c2∧Rw 3 cellsF u (.slice q n c) (linJ n x)∧Mx 3 cellsF u n n p2 N c2 (squareJ kdF n f)∧Bl w u) ?step ?still ?store ?fin)
 case step =>
  intro j o t act u ho hdt hpu hsz hu hfr hin;have hj:j<6:=l9 ho;obtain ⟨y0,y1,y2,_,_,_,_⟩:=k2.later hu;rcases (by omega:j=0∨j=1∨j=2∨j=3∨j=4∨j=5) with rfl|rfl|rfl|rfl|rfl|rfl
  ·obtain ⟨rfl,rfl⟩:=o7 ho hdt;have i0:_=Value.slice px n cx:=hfr 0 (by decide);exact pl9 (r:=by simp only [seval,i0];simp [go_sem])
  ·obtain ⟨rfl,rfl⟩:=o7 ho hdt;have i19:_=Value.slice px n cx:=hin ⟨0,.data⟩ (by simp) rfl 19 rfl;refine ew9 66 #[.slice px n cx] (by simp only [seval,i19];simp [invoke,egC,Result.andThen,go_sem]) (CL.out u hu) ?_;rintro e w' ⟨q,c,rfl,⟨hR,hF⟩,hb⟩;exact ⟨_,rfl,_,rfl,⟨q,c,rfl,hR,fresh_le hF hu.size⟩,hb⟩
  ·obtain ⟨rfl,rfl⟩:=o7 ho hdt;have i6:_=Value.pointer (some ⟨w2.heap.size,0,none⟩):=hfr 6 (by decide);exact pl9 (r:=by simp only [seval,i6];simp [go_sem,y0,y1,y2])
  ·obtain ⟨rfl,rfl⟩:=o7 ho hdt;have i20:∃ q c,(act.eval (.tmp (20:Nat)))=.slice q n c∧Rw 3 cellsF u (.slice q n c) (linJ n x)∧Fresh W2.heap.size (.slice q n c):=hin ⟨1,.data⟩ (by simp) rfl 20 rfl;have i21:_=mV n n p2 N c2:=hin ⟨2,.data⟩ (by simp) rfl 21 rfl;obtain ⟨q0,c0',e1,hq,hf⟩:=i20;exact pw9 (by simp only [execOp,List.map_toArray,List.map_cons,List.map_nil,e1,i21];simp [Tryz.buildSF,Result.andThen,go_sem]) ⟨_,rfl,⟨q0,c0',rfl,hq,hf⟩,Bl.refl _⟩
  ·obtain rfl:=o9 ho;cases hdt
  ·cases hpu
 case still =>
  intro j o t act u0 u ho hdt hpu hsz hu hfr hin;have hj:j<6:=l9 ho;obtain ⟨y0,y1,y2,_,_,_,_⟩:=k2.later hu;rcases (by omega:j=0∨j=1∨j=2∨j=3∨j=4∨j=5) with rfl|rfl|rfl|rfl|rfl|rfl
  ·cases hpu
  ·cases hpu
  ·cases hpu
  ·cases hpu
  ·cases hpu
  ·obtain ⟨rfl,rfl⟩:=o7 ho hdt;exact pw9 (by simp only [seval];simp [go_sem]) ⟨_,rfl,rfl,rfl⟩
 case store =>
  intro o act u vs ho hsz hu hfr hin;obtain rfl:=o9 ho;have i4:_=Value.pointer (some ⟨w.heap.size+1,0,none⟩):=hfr 4 (by decide);obtain ⟨i22,k22⟩:act.eval (.tmp (22:Nat))=vs 3∧(∃ q c,(vs 3)=sJ q n c n n p2 N c2∧Rw 3 cellsF u (.slice q n c) (linJ n x)∧Fresh W2.heap.size (.slice q n c)):=hin 3 22 rfl rfl;obtain ⟨q0,c0',e1,hq,hf⟩:=k22;rw [e1] at i22;obtain ⟨c0,c1,c2',c3,f0,f1,f2,f3,lt⟩:=id (s2.later hu);exact sw9 (by simp only [execOp,i4,i22];simp [go_sem,c0,c1,c2',c3,f0,f1,f2,f3]) ⟨rfl,q0,c0',(s2.later hu).fill _ _ _ _ _ _ _ _,rw_put4F hq (fresh_le hf (by omega)) _ _ _ _,mx_put4 (HP.out.later hu) HF.out _ _ _ _,Bl.put4 (B2.trans hu) (Nat.le_succ _) _ _ _ _⟩
 case fin =>
  intro vs vb u0 u hu hin hps;have a0:=hin 0 19 rfl;have a1:=hin 1 20 rfl;have a2:=hin 2 21 rfl;have a3:=hin 3 22 rfl;have a5:=hin 5 5 rfl;simp only [seval] at a0 a1 a2 a3 a5 ⊢;rw [if_pos (by decide)] at hps;simp only [a0,a2,a5];obtain ⟨q,c,sx,hR,hM,hbw⟩:=hps;clear a1 a3;have HR:=hideP hR;have HM:=hideP hM;clear hR hM;obtain ⟨c0,c1,c2',c3,f0,f1,f2,f3,lt⟩:=sx;go_wp2;simp [bodyPost,results,Tryz.results26,go_sem,c0,c1,c2',c3];exact ⟨q,c,p2,c2,by simp,⟨HR.out,HM.out⟩,hbw⟩
set_option maxRecDepth 100000 in
set_option maxHeartbeats 2000000 in
theorem jAroundF (n N:Nat) (p:Option Addr) (cap:Nat) (m:Nat→Nat→Fr) (q2:Option Addr) (cap2:Nat) (f:Nat→Nat→Fr) (w:World) (hm:Mx 3 cellsF w n n p N cap m) (hf:Mx 3 cellsF w n n q2 N cap2 f) :
  Calls Tryz.prog 44 #[mV n n p N cap,mV n n q2 N cap2] w fun e w'=>∃ q c,e=.returned (mV n n q N c)∧(Mx 3 cellsF w' n n q N c (aroundJ kdF n m f)∧Fresh w.heap.size (.slice q N c))∧Bl w w':=by
 have fm:Tryz.prog.follows .mixedOrders=true:=by kernel_rfl
 have egT:=enters_of Tryz.func88 (by kernel_rfl) rfl;have egM:=enters_of Tryz.func87 (by kernel_rfl) rfl;have HNN:=hideP (show N=n*n from hm.2.1);obtain ⟨W,hW⟩:∃ W,W=((w.alloc (.cells #[.int .i64 n,.int .i64 n,.slice p N cap] 30)).alloc (.cells #[.int .i64 n,.int .i64 n,.slice q2 N cap2] 30)).alloc (.cells #[.int .i64 0,.int .i64 0,.slice none 0 0] 30):=⟨_,rfl⟩;have b0:Bl w W:=by rw [hW];exact (((Bl.refl _).alloc _).alloc _).alloc _
 have m0:MBox W w.heap.size n n p N cap:=by rw [hW];exact (MBox.new w _ _ _ _ _ _).later (((Bl.refl _).alloc _).alloc _)
 have z0:MBox W (w.heap.size+1+1) 0 0 none 0 0:=by rw [hW];have:=MBox.new ((w.alloc (.cells #[.int .i64 n,.int .i64 n,.slice p N cap] 30)).alloc (.cells #[.int .i64 n,.int .i64 n,.slice q2 N cap2] 30)) 0 0 none 0 0 30;rw [World.size_alloc,World.size_alloc] at this;exact this
 have hs:W.heap.size=w.heap.size+1+1+1:=by rw [hW];simp
 have HM:=hideP hm;have HFX:=hideP hf;have HW:=hideP hW;clear hW hm hf
 go_enter Tryz.func44,Tryz.ntmps44;go_wp2_with fail
 rw [←HW.out];refine (mMulF n n n p N cap m q2 N cap2 f N W (HM.out.later b0) (HFX.out.later b0) HNN.out).mono ?_;rintro e w1 ⟨p1,c1,rfl,⟨h1x,_,_⟩,h1⟩;have k1:=MBox.new w1 n n p1 N c1 30;obtain ⟨W2,hW2⟩:∃ W2,W2=w1.alloc (.cells #[.int .i64 n,.int .i64 n,.slice p1 N c1] 30):=⟨_,rfl⟩;have b2:Bl w1 W2:=by rw [hW2];exact (Bl.refl _).alloc _
 rw [←hW2] at k1;have hs2:W2.heap.size=w1.heap.size+1:=by rw [hW2];simp
 have hw1:w.heap.size+1+1+1≤w1.heap.size:=by have:=h1.size;omega
 have HW2:=hideP hW2;have B2:Bl w W2:=b0.trans (h1.trans b2);have km:=m0.later (h1.trans b2);have kz:=z0.later (h1.trans b2);have H1:=hideP (Mx.later h1x b2);clear hW2 h1x;go_wp2_with fail
 rw [←HW2.out]
 refine (wpIn_wide (n:=8)).1 (region_q fm [some 14,some 15,some 16,some 17,some 13,some 18,some 19,none] (fun j=>j==6) 7 (by kernel_rfl) (by rfl)
  (fun j v u=>match j with|0=>v=mV n n p1 N c1|1=>v=mV n n p N cap|2=>∃ q c,v=mV n n q N c∧Mx 3 cellsF u n n q N c (fun i k=>m k i)|3=>∃ q c,v=.tuple #[mV n n q N c,.bool true]∧Mx 3 cellsF u n n q N c (aroundJ kdF n m f)∧Fresh W2.heap.size (.slice q N c)|4=>∃ q c,v=.tuple #[mV n n q N c,.bool true]∧Mx 3 cellsF u n n q N c (aroundJ kdF n m f)∧Fresh W2.heap.size (.slice q N c)|5=>∃ q c,v=mV n n q N c∧Mx 3 cellsF u n n q N c (aroundJ kdF n m f)∧Fresh W2.heap.size (.slice q N c)|6=>v=.bool true|_=>False)
  (by
    intro j v u u' hb h;split at h
    ·exact h
    ·exact h
    ·obtain ⟨q,c,e,h1⟩:=h;exact ⟨q,c,e,Mx.later h1 hb⟩
    ·obtain ⟨q,c,e,h1,h2⟩:=h;exact ⟨q,c,e,Mx.later h1 hb,h2⟩
    ·obtain ⟨q,c,e,h1,h2⟩:=h;exact ⟨q,c,e,Mx.later h1 hb,h2⟩
    ·obtain ⟨q,c,e,h1,h2⟩:=h;exact ⟨q,c,e,Mx.later h1 hb,h2⟩
    ·exact h
    ·exact h) (fun vs u0 u=>∃ q c,MBox u w1.heap.size n n q N c∧Mx 3 cellsF u n n q N c (aroundJ kdF n m f)∧Fresh W2.heap.size (.slice q N c)∧MBox u (w.heap.size+1+1) 0 0 none 0 0∧Bl w u) ?step ?still ?store ?fin)
 case step =>
  intro j o t act u ho hdt hpu hsz hu hfr hin;have hj:j<8:=l9 ho;obtain ⟨x0,x1,x2,_,_,_,_⟩:=km.later hu;obtain ⟨y0,y1,y2,_,_,_,_⟩:=k1.later hu;rcases (by omega:j=0∨j=1∨j=2∨j=3∨j=4∨j=5∨j=6∨j=7) with rfl|rfl|rfl|rfl|rfl|rfl|rfl|rfl
  ·obtain ⟨rfl,rfl⟩:=o7 ho hdt;have i5:_=Value.pointer (some ⟨w1.heap.size,0,none⟩):=hfr 5 (by decide);exact pl9 (r:=by simp only [seval,i5];simp [go_sem,y0,y1,y2])
  ·obtain ⟨rfl,rfl⟩:=o7 ho hdt;have i2:_=Value.pointer (some ⟨w.heap.size,0,none⟩):=hfr 2 (by decide);exact pl9 (r:=by simp only [seval,i2];simp [go_sem,x0,x1,x2])
  ·obtain ⟨rfl,rfl⟩:=o7 ho hdt;have i15:_=mV n n p N cap:=hin ⟨1,.data⟩ (by simp) rfl 15 rfl;refine ew9 88 #[mV n n p N cap] (by simp only [seval,i15];simp [invoke,egT,Result.andThen,go_sem]) (mTurnF n n p N cap m u (HM.out.later (B2.trans hu))) ?_;rintro e w' ⟨q,c,rfl,⟨hM,_,_⟩,hb⟩;exact ⟨_,rfl,_,rfl,⟨q,c,rfl,hM⟩,hb⟩
  ·obtain ⟨rfl,rfl⟩:=o7 ho hdt;have i14:_=mV n n p1 N c1:=hin ⟨0,.data⟩ (by simp) rfl 14 rfl;have i16:∃ q c,(act.eval (.tmp (16:Nat)))=mV n n q N c∧Mx 3 cellsF u n n q N c (fun i k=>m k i):=hin ⟨2,.data⟩ (by simp) rfl 16 rfl;obtain ⟨q0,c0',e1,hq⟩:=i16;refine ew9 87 #[mV n n p1 N c1,mV n n q0 N c0'] (by simp only [seval,i14,e1];simp [invoke,egM,Result.andThen,go_sem]) (mMulF n n n p1 N c1 _ q0 N c0' _ N u (H1.out.later hu) hq HNN.out) ?_;rintro e w' ⟨q,c,rfl,⟨hM,_,hF⟩,hb⟩;exact ⟨_,rfl,_,rfl,⟨q,c,rfl,hM,fresh_le hF hu.size⟩,hb⟩
  ·obtain ⟨rfl,rfl⟩:=o7 ho hdt;have i17:∃ q c,(act.eval (.tmp (17:Nat)))=.tuple #[mV n n q N c,.bool true]∧Mx 3 cellsF u n n q N c (aroundJ kdF n m f)∧Fresh W2.heap.size (.slice q N c):=hin ⟨3,.data⟩ (by simp) rfl 17 rfl;obtain ⟨q0,c0',e1,hq⟩:=i17;exact pw9 (by simp only [execOp,e1];simp [go_sem]) ⟨_,rfl,⟨q0,c0',rfl,hq⟩,Bl.refl _⟩
  ·obtain ⟨rfl,rfl⟩:=o7 ho hdt;have i13:∃ q c,(act.eval (.tmp (13:Nat)))=.tuple #[mV n n q N c,.bool true]∧Mx 3 cellsF u n n q N c (aroundJ kdF n m f)∧Fresh W2.heap.size (.slice q N c):=hin ⟨4,.data⟩ (by simp) rfl 13 rfl;obtain ⟨q0,c0',e1,hq⟩:=i13;exact pw9 (by simp only [execOp,e1];simp [go_sem]) ⟨_,rfl,⟨q0,c0',rfl,hq⟩,Bl.refl _⟩
  ·cases hpu
  ·obtain rfl:=o9 ho;cases hdt
 case still =>
  intro j o t act u0 u ho hdt hpu hsz hu hfr hin;have hj:j<8:=l9 ho;obtain ⟨x0,x1,x2,_,_,_,_⟩:=km.later hu;obtain ⟨y0,y1,y2,_,_,_,_⟩:=k1.later hu;rcases (by omega:j=0∨j=1∨j=2∨j=3∨j=4∨j=5∨j=6∨j=7) with rfl|rfl|rfl|rfl|rfl|rfl|rfl|rfl
  ·cases hpu
  ·cases hpu
  ·cases hpu
  ·cases hpu
  ·cases hpu
  ·cases hpu
  ·obtain ⟨rfl,rfl⟩:=o7 ho hdt;have i13:∃ q c,(act.eval (.tmp (13:Nat)))=.tuple #[mV n n q N c,.bool true]∧Mx 3 cellsF u0 n n q N c (aroundJ kdF n m f)∧Fresh W2.heap.size (.slice q N c):=hin ⟨4,.data⟩ (by simp) rfl 13 rfl;obtain ⟨q0,c0',e1,hq⟩:=i13;exact pw9 (by simp only [execOp,e1];simp [go_sem]) ⟨_,rfl,rfl,rfl⟩
  ·cases hpu
 case store =>
  intro o act u vs ho hsz hu hfr hin;obtain rfl:=o9 ho;have i5:_=Value.pointer (some ⟨w1.heap.size,0,none⟩):=hfr 5 (by decide);obtain ⟨i18,k18⟩:act.eval (.tmp (18:Nat))=vs 5∧(∃ q c,(vs 5)=mV n n q N c∧Mx 3 cellsF u n n q N c (aroundJ kdF n m f)∧Fresh W2.heap.size (.slice q N c)):=hin 5 18 rfl rfl;obtain ⟨q0,c0',e1,hq,hf⟩:=k18;rw [e1] at i18;obtain ⟨y0,y1,y2,e0,e1',e2,lt⟩:=id (k1.later hu);exact sw9 (by simp only [execOp,i5,i18];simp [go_sem,y0,y1,y2,e0,e1',e2]) ⟨rfl,q0,c0',(k1.later hu).fill _ _ _ _ _,mx_put7 hq (fresh_le hf (by omega)) _ _ _,hf,mbox_set7 (mbox_set7 (mbox_set7 (kz.later hu) (by omega) _ _) (by omega) _ _) (by omega) _ _,Bl.put3 (B2.trans hu) (by have:=hw1;omega) _ _ _⟩
 case fin =>
  intro vs vb u0 u hu hin hps;have a0:=hin 0 14 rfl;have a1:=hin 1 15 rfl;have a2:=hin 2 16 rfl;have a3:=hin 3 17 rfl;have a4:=hin 4 13 rfl;have a5:=hin 5 18 rfl;have a6:=hin 6 19 rfl;simp only [seval] at a0 a1 a2 a3 a4 a5 a6 ⊢;rw [if_pos (by decide)] at hps;simp only [a0,a1,a6];obtain ⟨q,c,kx,hM,hF,kz',hbw⟩:=hps;clear a2 a3 a4 a5;have HR:=hideP hM;have HF:=hideP (show Fresh (w.heap.size+1+1+1) (.slice q N c) from fresh_le hF (by omega));clear hM hF;obtain ⟨x0,x1,x2,_,_,_,_⟩:=kx;obtain ⟨c0,c1',c2,f0,f1,f2,lt2⟩:=kz';go_wp2;simp [bodyPost,results,Tryz.results44,go_sem,c0,c1',c2];exact ⟨q,c,⟨rfl,rfl⟩,⟨mx_put7 HR.out HF.out _ _ _,fresh_le HF.out (by omega)⟩,Bl.put3 hbw (by omega) _ _ _⟩
set_option maxRecDepth 100000 in
set_option maxHeartbeats 2000000 in
theorem jMirroredF (n N:Nat) (p:Option Addr) (cap:Nat) (a:Nat→Nat→Fr) (q2:Option Addr) (cap2:Nat) (b:Nat→Nat→Fr) (w:World) (hm:Mx 3 cellsF w n n p N cap a) (hf:Mx 3 cellsF w n n q2 N cap2 b) :
  Calls Tryz.prog 46 #[mV n n p N cap,mV n n q2 N cap2] w fun e w'=>∃ q c,e=.returned (mV n n q N c)∧(Mx 3 cellsF w' n n q N c (mirrJ kdF a b)∧Fresh w.heap.size (.slice q N c))∧Bl w w':=by
 obtain ⟨W,hW⟩:∃ W,W=((w.alloc (.cells #[.int .i64 n,.int .i64 n,.slice p N cap] 30)).alloc (.cells #[.int .i64 n,.int .i64 n,.slice q2 N cap2] 30)).alloc (.cells #[.int .i64 0,.int .i64 0,.slice none 0 0] 30):=⟨_,rfl⟩;have b0:Bl w W:=by rw [hW];exact (((Bl.refl _).alloc _).alloc _).alloc _
 have z0:MBox W (w.heap.size+1+1) 0 0 none 0 0:=by rw [hW];have:=MBox.new ((w.alloc (.cells #[.int .i64 n,.int .i64 n,.slice p N cap] 30)).alloc (.cells #[.int .i64 n,.int .i64 n,.slice q2 N cap2] 30)) 0 0 none 0 0 30;rw [World.size_alloc,World.size_alloc] at this;exact this
 have hs:W.heap.size=w.heap.size+1+1+1:=by rw [hW];simp
 have HM:=hideP hm;have HFX:=hideP hf;have HW:=hideP hW;clear hW hm hf
 go_enter Tryz.func46,Tryz.ntmps46;go_wp2_with fail
 rw [←HW.out];refine (mAddF' n n p q2 N cap cap2 a b W (HM.out.later b0) (HFX.out.later b0)).mono ?_;rintro e w1 ⟨p1,c1,rfl,⟨h1x,_⟩,h1⟩;obtain ⟨W2,hW2⟩:∃ W2,W2=w1.alloc (.cells #[.int .i64 n,.int .i64 n,.slice p1 N c1] 30):=⟨_,rfl⟩;have b2:Bl w1 W2:=by rw [hW2];exact (Bl.refl _).alloc _
 have HW2:=hideP hW2;have H1:=hideP (Mx.later h1x b2);clear hW2 h1x;go_wp2_with fail
 rw [←HW2.out];refine (mMirrorF n p1 N c1 _ W2 H1.out).mono ?_;rintro e w3 ⟨p3,c3,rfl,⟨hR,_,hF⟩,h3⟩;obtain ⟨W4,hW4⟩:∃ W4,W4=w3.alloc (.cells #[.int .i64 n,.int .i64 n,.slice p3 N c3] 30):=⟨_,rfl⟩;have b4:Bl w3 W4:=by rw [hW4];exact (Bl.refl _).alloc _
 have k4:=MBox.new w3 n n p3 N c3 30;rw [←hW4] at k4;have B4:Bl w W4:=b0.trans (h1.trans (b2.trans (h3.trans b4)));have HR:=hideP (show Mx 3 cellsF W4 n n p3 N c3 (mirrJ kdF a b) from Mx.later hR b4);have HF:=hideP (show Fresh (w.heap.size+1+1+1) (.slice p3 N c3) from fresh_le hF (by have:=(h1.trans b2).size;omega));have kz:=z0.later (h1.trans (b2.trans (h3.trans b4)));obtain ⟨x0,x1,x2,_,_,_,_⟩:=k4;obtain ⟨c0,c1',c2,f0,f1,f2,lt2⟩:=kz;have HW4:=hideP hW4;rw [hW4] at x0 x1 x2 c0 c1' c2 f0 f1 f2;clear hW4 hR hF H1;go_wp2_with fail
 rw [←HW4.out];rw [←HW4.out] at x0 x1 x2 c0 c1' c2 f0 f1 f2;go_wp2;simp [bodyPost,results,Tryz.results46,go_sem,c0,c1',c2];exact ⟨p3,c3,⟨rfl,rfl⟩,⟨mx_put7 HR.out HF.out _ _ _,fresh_le HF.out (by omega)⟩,Bl.put3 B4 (by omega) _ _ _⟩
theorem mWholeF' (r c:Int) (p:Option Addr) (n cap:Nat) (ns:List Int) (w:World) (hr:Rq 1 (fun n=>[.int .i64 n]) w (.slice p n cap) ns) (h:fitB r c n=true) (hn:ns.length=n) :
  Calls Tryz.prog 12 #[.int .i64 r,.int .i64 c,.slice p n cap] w fun e w'=>∃ p' cap',e=.returned (.tuple #[mV r c p' n cap',.bool true])∧(Rw 3 cellsF w' (.slice p' n cap') (ns.map wholeF)∧Fresh w.heap.size (.slice p' n cap'))∧Bl w w':=by
 have hl:n≤1000000:=by obtain ⟨R,C,_,_,hd,rfl⟩:=fitB_nat h;have:=hd.lt;omega
 obtain ⟨W,hW⟩:∃ W,W=w.alloc (.cells #[.int .i64 0,.int .i64 0,.slice none 0 0] 30):=⟨_,rfl⟩;have b0:Bl w W:=by rw [hW];exact (Bl.refl _).alloc _
 have x0:MBox W w.heap.size 0 0 none 0 0:=by rw [hW];exact MBox.new w 0 0 none 0 0 _
 have hsz:W.heap.size=w.heap.size+1:=by rw [hW];simp
 have CL:=hideP (vWholeF' (.slice p n cap) ns W (hr.later b0) (by omega));have HW:=hideP hW;clear hW hr
 go_enter Tryz.func12,Tryz.ntmps12;go_wp2_with fail
 rw [←HW.out];refine (fits_any _ _ _ _).mono ?_;rintro e w1 ⟨rfl,rfl⟩;rw [h];go_wp2_with fail
 refine CL.out.mono ?_;rintro e w2 ⟨u,rfl,hR,hF,h2⟩;obtain ⟨p',cap',rfl,_,_⟩:=hR.cut;rw [List.length_map,hn] at hR hF ⊢;have HR:=hideP hR;have HF:=hideP hF;obtain ⟨c0,c1,c2,f0,f1,f2,lt⟩:=x0.later h2;clear hR hF CL;go_wp2;simp [bodyPost,results,Tryz.results12,go_sem,c0,c1,c2];refine ⟨p',cap',⟨rfl,rfl⟩,⟨((HR.out.set _ ?_).set _ ?_).set _ ?_,fun g hg=>?_⟩,Bl.put3 (b0.trans h2) (Nat.le_refl _) _ _ _⟩
 ·exact fun g hg=>by have:=HF.out g hg;show w.heap.size+1≤g;omega
 ·exact fun g hg=>by have:=HF.out g hg;show w.heap.size+1≤g;omega
 ·exact fun g hg=>by have:=HF.out g hg;show w.heap.size+1≤g;omega
 ·have:=HF.out g hg;omega
set_option maxHeartbeats 1000000 in
theorem mUnitF (m n:Nat) (h1:1≤m) (h2:m≤16) (hn:n=m*m) (w:World) :
  Calls Tryz.prog 96 #[.int .i64 m] w fun e w'=>∃ p' cap',e=.returned (.tuple #[mV m m p' n cap',.bool true])∧Mx 3 cellsF w' m m p' n cap' (fun i k=>wholeF (unitI i k))∧Bl w w':=by
 obtain ⟨i0,hi,hz0,hz1,hz2⟩:=info_parts Tryz.info_I;have hs:sideB m=true:=decide_eq_true ⟨by omega,by omega⟩;have hd:Dim m m:=⟨h1,h2,h1,h2⟩;have hmm:(m:Int)*(m:Int)=n:=by rw [hn];simp
 have hn256:n≤256:=by rw [hn];exact hd.lt
 have hfit:=hideP (fitB_dim hd hn);have HN:=hideP hn;clear hn;have z0:=MBox.new w 0 0 none 0 0 30
 go_enter Tryz.func96,Tryz.ntmps96;go_wp2_with fail
 refine (side_any _ _).mono ?_;rintro e w1 ⟨rfl,rfl⟩;rw [hs];go_wp2_with (at_make;refine wpList_make_full _ rfl _ _ 22 rfl (w.heap.size+1) 3 i0 (.int .i64 0) 1 Tryz.underlying22 hi hz0 hz1 .i64 .i64 _ _ n rfl rfl (by simp) (by simp) (by rw [hz2];omega) (by unfold maxLen;omega) (by simp) ?_;intro w0 hown0 hgrow0)
 rw [unit_made m n HN.out] at hown0;have hB0:Bl w w0:=((Bl.refl w).alloc _).grown hgrow0 (by simp) (fun k e=>by cases e);have hz:MBox w0 w.heap.size 0 0 none 0 0:=mbox_block z0 (hgrow0.block _ z0.lt nofun) hgrow0.size;clear hgrow0 z0
 try simp only [World.size_alloc] at hown0 ⊢
 go_loopw [15] (fun i wr=>∃ j:Nat,i=.int .i64 j∧j≤m∧wr.ownsRow (w.heap.size+1) 3 1 (.slice (some ⟨w.heap.size+1,0,none⟩) n n) n ((mk m m (unitTo j)).flatMap cellsI)∧MBox wr w.heap.size 0 0 none 0 0∧Bl w wr) (fun i _=>m-(intOf i).toNat)
 case atStart=>exact ⟨0,rfl,Nat.zero_le _,hown0,hz,hB0⟩
 case round =>
  clear hown0 hz hB0;obtain ⟨j,rfl,hj,hown,hz,hB⟩:=hrel;by_cases hlt:j<m
  ·obtain ⟨a,q,e1,e2,hq1,hq3,hq5,hq6⟩:=place hd hlt hlt;rw [←HN.out] at hq5;have cq:wr.cell? ⟨w.heap.size+1,q,none⟩=some (.int .i64 (unitTo j j j)):=by
    rw [hown.cellAt q (by omega),flatI_map,List.getElem?_map,e2,mk_get _ hlt hlt];rfl
   have fq:=hown.frozenAt q;have ST:=hideP (hown.stored q (.int .i64 1));have EQ:=hideP e2;clear hown e1 e2;generalize unitTo j j j=x at *;go_wp2;go_roundw
   case rel =>
    refine ⟨j+1,by simp,hlt,?_,mbox_block hz (ST.out.2.block _ hz.lt (by simp)) ST.out.2.size,Bl.set hB (Nat.le_succ _) _⟩;have:=ST.out.1;rw [EQ.out] at this ⊢;rw [unitTo_cells m j hlt] at this;exact this
   case measure=>simp [intOf];omega
  ·obtain rfl:j=m:=by omega
   have hr:Rq 1 cI wr (.slice (some ⟨w.heap.size+1,0,none⟩) n n) (mk j j unitI):=by
    rw [←unitTo_all];exact (Rw.of_own cellsI_len (xs:=mk j j (unitTo j)) (by rw [mk_len,←HN.out];exact hown)).q
   have WH:=hideP (mWholeF' j j _ n n (mk j j unitI) wr hr hfit.out (by rw [mk_len,HN.out]));clear hr hown;go_wp2_with fail
   refine WH.out.mono ?_;rintro e w2 ⟨p',cap',rfl,⟨hR,hF⟩,h2⟩;have HR:=hideP hR;have HF:=hideP (show Fresh (w.heap.size+1) (.slice p' n cap') from fun g hg=>by have:=hF g hg;have:=hz.lt;omega);clear hR hF WH;obtain ⟨c0,c1,c2,f0,f1,f2,lt⟩:=hz.later h2;go_wp2;simp [bodyPost,results,Tryz.results96,go_sem,c0,c1,c2];have q:=((HR.out.set (p:=⟨w.heap.size,0,none⟩) (.int .i64 j) HF.out).set (p:=⟨w.heap.size,1,none⟩) (.int .i64 j) HF.out).set (p:=⟨w.heap.size,2,none⟩) (.slice p' n cap') HF.out;rw [mk_map] at q;exact ⟨p',cap',⟨rfl,rfl⟩,⟨hd,HN.out,q.q⟩,Bl.put3 (hB.trans h2) (Nat.le_refl _) _ _ _⟩
theorem fresh_ownF {w:World} {B b n:Nat} {e:TypeId} {s:Nat} {v:Value} {l:List Value} (h:w.ownsRow B e s v n l) (hb:b≤B):Fresh b v:=fun g hg=>Nat.le_trans hb (h.lt g hg).1
set_option maxHeartbeats 1000000 in
theorem jShares0F (v:Value) (xs:List Fr) (by_:Fr) (w:World) (h:Rw 3 cellsF w v xs) (hl:xs.length≤1000000) :
  Calls Tryz.prog 48 #[v,frV by_] w fun e w'=>∃ u,e=.returned u∧Rw 3 cellsF w' u (xs.map fun x=>divR x by_)∧Fresh w.heap.size u∧Bl w w':=by
 have iv:=Tryz.mDivF;obtain ⟨i0,hi,hz0,hz1,hz2⟩:=info_parts Tryz.info_F;have x0:=FBox.new w by_ 34;rcases h with ⟨rfl,rfl⟩|⟨b,o,cap,rfl,hc,hb,hx⟩
 ·go_enter Tryz.func48,Tryz.ntmps48;go_wp2_with (at_make;refine wpList_make_own _ rfl _ _ 28 rfl w.heap.size 34 i0 (.agg #[.int .i64 0,.int .i64 0,.bool false]) 3 Tryz.underlying28 hi hz0 hz1 .i64 .i64 _ 0 rfl rfl (by simp) (by rw [hz2];omega) (by unfold maxLen;omega) (by simp) ?_;intro w0 hown0 hgrow0)
  rw [World.size_alloc] at hown0;have hB0:Bl w w0:=Below.grown (Below.alloc (Bl.refl w) (Nat.le_refl _) _) hgrow0 (by simp) (fun k e=>by cases e)
  go_loopw [5,13] (fun v i wr=>i=.int .i64 0∧wr.ownsRow w.heap.size 34 3 v 0 []∧Bl w wr) (fun _ _ _=>0)
  case atStart=>exact ⟨rfl,hown0,hB0⟩
  case round =>
   obtain ⟨rfl,hown,hB⟩:=hrel;go_wp2;go_ret;exact ⟨_,rfl,Rw.of_own cellsF_len (xs:=[]) hown,fresh_ownF hown (Nat.le_refl _),hB⟩
 ·have HX:=hideP hx;clear hx
  go_enter Tryz.func48,Tryz.ntmps48;go_wp2_with (at_make;refine wpList_make_own _ rfl _ _ 28 rfl (w.heap.size+1) 34 i0 (.agg #[.int .i64 0,.int .i64 0,.bool false]) 3 Tryz.underlying28 hi hz0 hz1 .i64 .i64 _ xs.length rfl rfl (by simp) (by rw [hz2];omega) (by unfold maxLen;omega) (by simp) ?_;intro w0 hown0 hgrow0)
  rw [World.size_alloc] at hown0;have hB1:Bl (w.alloc (.cells #[.int .i64 by_.n,.int .i64 by_.d,.bool by_.bad] 34)) w0:=Below.grown (Bl.refl _) hgrow0 (Nat.le_refl _) (fun k e=>by cases e);have hB0:Bl w w0:=((Bl.refl w).alloc _).trans hB1
  go_loopw [5,13] (fun v i wr=>∃ k:Nat,i=.int .i64 k∧k≤xs.length∧FBox wr w.heap.size by_∧wr.ownsRow (w.heap.size+1) 34 3 v ((xs.take k).map fun x=>divR x by_).length (((xs.take k).map fun x=>divR x by_).flatMap cellsF)∧Bl w wr) (fun _ i _=>xs.length-(intOf i).toNat)
  case atStart=>exact ⟨0,rfl,Nat.zero_le _,x0.later hB1,hown0,hB0⟩
  case round =>
   obtain ⟨k,rfl,hk,bx,hown,hB⟩:=hrel;by_cases hlt:k<xs.length
   ·obtain ⟨x,hx⟩:∃ x,xs[k]?=some x:=⟨_,List.getElem?_eq_getElem hlt⟩;have CX:∀ j u,(cellsF x)[j]?=some u→wr.cell? ⟨b,o+k*3+j,none⟩=some u:=fun j u hu=>(bl_cell hB _ _ hb).trans (HX.out k x hx j u hu)
    have y0:wr.cell? ⟨b,o+k*3,none⟩=some (.int .i64 x.n):=CX 0 _ rfl;have y1:wr.cell? ⟨b,o+k*3+1,none⟩=some (.int .i64 x.d):=CX 1 _ rfl;have y2:wr.cell? ⟨b,o+k*3+2,none⟩=some (.bool x.bad):=CX 2 _ rfl;clear CX;obtain ⟨c0,c1,c2,f0,f1,f2,lt⟩:=id bx;have HT:=hideP (show (xs.take (k+1)).map (fun x=>divR x by_)=(xs.take k).map (fun x=>divR x by_)++[divR x by_] by rw [List.take_add_one,hx];simp);have HK:=hideP (show ((xs.take k).map fun x=>divR x by_).length=k by simp;omega);generalize hys:(xs.take k).map (fun x=>divR x by_)=ys at *;clear hys;go_wp2_with fail
    refine (rdiv_any _ _ _).mono ?_;rintro e w2 ⟨rfl,h2⟩;have bl2:Bl wr w2:=((Bl.refl _).alloc _).trans h2;generalize divR x by_=r at *;clear y0 y1 y2 c0 c1 c2;replace hown:=own_blF hown bl2;replace hB:=hB.trans bl2;have bx2:=bx.later bl2;have hkk:=HK.out;go_wp2_with (at_builtin;refine wpList_append_own _ rfl _ _ 28 rfl (w.heap.size+1) 34 i0 (.agg #[.int .i64 0,.int .i64 0,.bool false]) 3 24 Tryz.underlying28 hi hz0 hz1 hz2 rfl (by decide) _ _ _ rfl (hown.alloc _) ⟨_,0,none⟩ 1 1 (cellsF r) rfl rfl (newF_cells _ _ _) (oneF_cells _) (by unfold maxLen;omega) (by omega) (by have:=bx2.lt;simp;omega) ?_;intro v' w1 hown' hgrow _)
    have R:=ownF_step' (n₀:=w.heap.size+1) hB (by omega) hown hown' hgrow;have bx3:=bx2.grown ((Bl.refl _).alloc _) hown hgrow (by omega);clear hown hown' hgrow;go_wp2;go_roundw
    case rel=>exact ⟨k+1,by simp,hlt,bx3,by rw [HT.out];exact R.2,R.1⟩
    case measure=>simp [intOf];omega
   ·have hk':k=xs.length:=by omega
    subst hk';rw [List.take_length] at hown;have R:=hideP (Rw.of_own cellsF_len hown);have FR:=hideP (fresh_ownF hown (Nat.le_succ _));clear hown;go_wp2;go_ret;exact ⟨_,rfl,R.out,FR.out,hB⟩
theorem jSharesF (n:Nat) (p:Option Addr) (cap:Nat) (u:Nat→Fr) (a:Fr) (w:World) (h:Rw 3 cellsF w (.slice p n cap) (linJ n u)) (hl:n≤1000000) :
  Calls Tryz.prog 48 #[.slice p n cap,frV a] w fun e w'=>∃ q c,e=.returned (.slice q n c)∧(Rw 3 cellsF w' (.slice q n c) (linJ n (fun i=>divR (u i) a))∧Fresh w.heap.size (.slice q n c))∧Bl w w':=
 (jShares0F _ _ a w h (by rw [linJ_len];exact hl)).mono fun e w' ⟨v,he,hr,hf,hb⟩=>by
  rw [linJ_map] at hr;obtain ⟨q,c,rfl,_,_⟩:=hr.cut;rw [linJ_len] at hr hf he;exact ⟨q,c,he,⟨hr,hf⟩,hb⟩
set_option maxRecDepth 100000 in
set_option maxHeartbeats 2000000 in
theorem jOuterF (n m N:Nat) (pk:Option Addr) (ck:Nat) (k:Nat→Fr) (ph:Option Addr) (ch:Nat) (h:Nat→Fr) (w:World) (hk:Rq 3 cellsF w (.slice pk n ck) (linJ n k)) (hh:Rq 3 cellsF w (.slice ph m ch) (linJ m h)) (hd:Dim n m) (hN:N=n*m) :
  Calls Tryz.prog 52 #[.slice pk n ck,.slice ph m ch] w fun e w'=>∃ q c,e=.returned (mV n m q N c)∧(Mx 3 cellsF w' n m q N c (outerJ kdF k h)∧Fresh w.heap.size (.slice q N c))∧Bl w w':=by
 have d1:Dim n 1:=⟨hd.r1,hd.r2,by decide,by decide⟩;have d2:Dim 1 m:=⟨by decide,by decide,hd.c1,hd.c2⟩;have f1':fitB (n:Int) (1:Int) (n:Int)=true:=fitB_dim d1 (Nat.mul_one n).symm;have f2':fitB (1:Int) (m:Int) (m:Int)=true:=fitB_dim d2 (Nat.one_mul m).symm;obtain ⟨W,hW⟩:∃ W,W=w.alloc (.cells #[.int .i64 0,.int .i64 0,.slice none 0 0] 30):=⟨_,rfl⟩;have b0:Bl w W:=by rw [hW];exact (Bl.refl _).alloc _
 have z0:MBox W w.heap.size 0 0 none 0 0:=by rw [hW];exact MBox.new w _ _ _ _ _ _
 have hs:W.heap.size=w.heap.size+1:=by rw [hW];simp
 have HK:=hideP hk;have HH:=hideP hh;have HW:=hideP hW;have HN:=hideP hN;clear hW hk hh hN
 go_enter Tryz.func52,Tryz.ntmps52;go_wp2_with fail
 rw [←HW.out];refine (mNewF (n:Int) (1:Int) pk n ck (linJ n k) W (HK.out.later b0) f1' (linJ_len _ _)).mono ?_;rintro e w1 ⟨p1,c1,rfl,⟨hR1,_⟩,h1⟩;obtain ⟨W1,hW1⟩:∃ W1,W1=w1.alloc (.cells #[.int .i64 n,.int .i64 1,.slice p1 n c1] 30):=⟨_,rfl⟩;have b1:Bl w1 W1:=by rw [hW1];exact (Bl.refl _).alloc _
 have k1:MBox W1 w1.heap.size n 1 p1 n c1:=by rw [hW1];exact MBox.new w1 _ _ _ _ _ _
 have HW1:=hideP hW1;have X1:=hideP (show Mx 3 cellsF W1 n 1 p1 n c1 (fun i _=>k i) from ⟨d1,(Nat.mul_one n).symm,by rw [linJ_col] at hR1;exact (hR1.later b1).q⟩);clear hW1 hR1;have B1:Bl w W1:=b0.trans (h1.trans b1);go_wp2_with fail
 rw [←HW1.out];refine (mNewF (1:Int) (m:Int) ph m ch (linJ m h) W1 (HH.out.later B1) f2' (linJ_len _ _)).mono ?_;rintro e w2 ⟨p2,c2,rfl,⟨hR2,_⟩,h2⟩;obtain ⟨W2,hW2⟩:∃ W2,W2=w2.alloc (.cells #[.int .i64 1,.int .i64 m,.slice p2 m c2] 30):=⟨_,rfl⟩;have b2:Bl w2 W2:=by rw [hW2];exact (Bl.refl _).alloc _
 have k2:MBox W2 w2.heap.size 1 m p2 m c2:=by rw [hW2];exact MBox.new w2 _ _ _ _ _ _
 have HW2:=hideP hW2;have X2:=hideP (show Mx 3 cellsF W2 1 m p2 m c2 (fun _ j=>h j) from ⟨d2,(Nat.one_mul m).symm,by rw [linJ_one] at hR2;exact (hR2.later b2).q⟩);have k1':=k1.later (h2.trans b2);obtain ⟨x0,x1,x2,_,_,_,_⟩:=k1';obtain ⟨y0,y1,y2,_,_,_,_⟩:=k2;rw [hW2] at x0 x1 x2 y0 y1 y2;clear hW2 hR2;have B2:Bl w W2:=B1.trans (h2.trans b2);have MU:=hideP (mMulF n 1 m p1 n c1 (fun i _=>k i) p2 m c2 (fun _ j=>h j) N W2 (X1.out.later (h2.trans b2)) X2.out HN.out);go_wp2_with fail
 rw [←HW2.out];refine MU.out.mono ?_;rintro e w3 ⟨p3,c3,rfl,⟨hR,_,hF⟩,h3⟩;obtain ⟨W4,hW4⟩:∃ W4,W4=w3.alloc (.cells #[.int .i64 n,.int .i64 m,.slice p3 N c3] 30):=⟨_,rfl⟩;have b4:Bl w3 W4:=by rw [hW4];exact (Bl.refl _).alloc _
 have k4:=MBox.new w3 n m p3 N c3 30;rw [←hW4] at k4;have B4:Bl w W4:=B2.trans (h3.trans b4);have HR:=hideP (show Mx 3 cellsF W4 n m p3 N c3 (outerJ kdF k h) from Mx.later hR b4);have HF:=hideP (show Fresh (w.heap.size+1) (.slice p3 N c3) from fresh_le hF (by have:=((h1.trans b1).trans (h2.trans b2)).size;omega));have kz:=z0.later (((h1.trans b1).trans (h2.trans b2)).trans (h3.trans b4));clear x0 x1 x2 y0 y1 y2;obtain ⟨x0,x1,x2,_,_,_,_⟩:=k4;obtain ⟨c0,c1',c2',f0,f1,f2,lt2⟩:=kz;have HW4:=hideP hW4;rw [hW4] at x0 x1 x2 c0 c1' c2' f0 f1 f2;clear hW4 hR hF X1 X2 MU;go_wp2_with fail
 rw [←HW4.out];rw [←HW4.out] at x0 x1 x2 c0 c1' c2' f0 f1 f2;go_wp2;simp [bodyPost,results,Tryz.results52,go_sem,c0,c1',c2'];exact ⟨p3,c3,⟨rfl,rfl⟩,⟨mx_put7 HR.out HF.out _ _ _,fresh_le HF.out (by omega)⟩,Bl.put3 B4 (Nat.le_refl _) _ _ _⟩
set_option maxRecDepth 100000 in
set_option maxHeartbeats 2000000 in
theorem jRestF (n N:Nat) (pk:Option Addr) (ck:Nat) (k:Nat→Fr) (ph:Option Addr) (ch:Nat) (h:Nat→Fr) (w:World) (hk:Rq 3 cellsF w (.slice pk n ck) (linJ n k)) (hh:Rq 3 cellsF w (.slice ph n ch) (linJ n h)) (hd:Dim n n) (hN:N=n*n) :
  Calls Tryz.prog 51 #[.slice pk n ck,.slice ph n ch] w fun e w'=>∃ q c,e=.returned (mV n n q N c)∧(Mx 3 cellsF w' n n q N c (restJ kdF (fun i j=>wholeF (unitI i j)) k h)∧Fresh w.heap.size (.slice q N c))∧Bl w w':=by
 have fm:Tryz.prog.follows .mixedOrders=true:=by kernel_rfl
 have egO:=enters_of Tryz.func52 (by kernel_rfl) rfl;have egS:=enters_of Tryz.func97 (by kernel_rfl) rfl;obtain ⟨W,hW⟩:∃ W,W=w.alloc (.cells #[.int .i64 0,.int .i64 0,.slice none 0 0] 30):=⟨_,rfl⟩;have b0:Bl w W:=by rw [hW];exact (Bl.refl _).alloc _
 have z0:MBox W w.heap.size 0 0 none 0 0:=by rw [hW];exact MBox.new w _ _ _ _ _ _
 have hs:W.heap.size=w.heap.size+1:=by rw [hW];simp
 have HK:=hideP hk;have HH:=hideP hh;have HD:=hideP hd;have HN:=hideP hN;have HW:=hideP hW;have UN:=hideP (mUnitF n N hd.r1 hd.r2 hN W);clear hW hk hh hd hN
 go_enter Tryz.func51,Tryz.ntmps51;go_wp2_with fail
 rw [←HW.out];refine UN.out.mono ?_;rintro e w1 ⟨p1,c1,rfl,h1x,h1⟩;have k1:=MBox.new w1 n n p1 N c1 30;obtain ⟨W2,hW2⟩:∃ W2,W2=w1.alloc (.cells #[.int .i64 n,.int .i64 n,.slice p1 N c1] 30):=⟨_,rfl⟩;have b2:Bl w1 W2:=by rw [hW2];exact (Bl.refl _).alloc _
 rw [←hW2] at k1;have hs2:w.heap.size+1≤W2.heap.size:=by have:=(h1.trans b2).size;omega
 have HW2:=hideP hW2;have B2:Bl w W2:=b0.trans (h1.trans b2);have kz:=z0.later (h1.trans b2);have H1:=hideP (Mx.later h1x b2);clear hW2 h1x UN;go_wp2_with fail
 rw [←HW2.out]
 refine (wpIn_wide (n:=8)).1 (region_q fm [some 16,some 17,some 18,some 19,some 20,some 15,some 21,some 22,some 7,none,some 8] (fun j=>j==7||j==10) 9 (by kernel_rfl) (by rfl)
  (fun j v u=>match j with|0=>v=mV n n p1 N c1|1=>v=.slice pk n ck|2=>v=.slice ph n ch|3=>∃ q c,v=mV n n q N c∧Mx 3 cellsF u n n q N c (outerJ kdF k h)|4=>∃ q c,v=.tuple #[mV n n q N c,.bool true]∧Mx 3 cellsF u n n q N c (restJ kdF (fun i j=>wholeF (unitI i j)) k h)∧Fresh W2.heap.size (.slice q N c)|5=>∃ q c,v=.tuple #[mV n n q N c,.bool true]∧Mx 3 cellsF u n n q N c (restJ kdF (fun i j=>wholeF (unitI i j)) k h)∧Fresh W2.heap.size (.slice q N c)|6=>∃ q c,v=mV n n q N c∧Mx 3 cellsF u n n q N c (restJ kdF (fun i j=>wholeF (unitI i j)) k h)∧Fresh W2.heap.size (.slice q N c)|7=>v=.bool true|8=>∃ b,v=.pointer (some ⟨b,0,none⟩)∧W2.heap.size≤b∧MBox u b 0 0 none 0 0∧NoB u b|10=>v=.bool true|_=>False)
  (by
    intro j v u u' hb h;split at h
    ·exact h
    ·exact h
    ·exact h
    ·obtain ⟨q,c,e,h1⟩:=h;exact ⟨q,c,e,Mx.later h1 hb⟩
    ·obtain ⟨q,c,e,h1,h2⟩:=h;exact ⟨q,c,e,Mx.later h1 hb,h2⟩
    ·obtain ⟨q,c,e,h1,h2⟩:=h;exact ⟨q,c,e,Mx.later h1 hb,h2⟩
    ·obtain ⟨q,c,e,h1,h2⟩:=h;exact ⟨q,c,e,Mx.later h1 hb,h2⟩
    ·exact h
    ·obtain ⟨b,e,h1,h2,h3⟩:=h;exact ⟨b,e,h1,h2.later hb,h3.later hb h2.lt⟩
    ·exact h
    ·exact h) (fun vs u0 u=>∃ b q c,vs 8=.pointer (some ⟨b,0,none⟩)∧MBox u b n n q N c∧Mx 3 cellsF u n n q N c (restJ kdF (fun i j=>wholeF (unitI i j)) k h)∧Fresh W2.heap.size (.slice q N c)∧MBox u w.heap.size 0 0 none 0 0∧Bl w u) ?step ?still ?store ?fin)
 case step =>
  intro j o t act u ho hdt hpu hsz hu hfr hin;have hj:j<11:=l9 ho;obtain ⟨y0,y1,y2,_,_,_,_⟩:=k1.later hu;rcases (by omega:j=0∨j=1∨j=2∨j=3∨j=4∨j=5∨j=6∨j=7∨j=8∨j=9∨j=10) with rfl|rfl|rfl|rfl|rfl|rfl|rfl|rfl|rfl|rfl|rfl
  ·obtain ⟨rfl,rfl⟩:=o7 ho hdt;have i5:_=Value.pointer (some ⟨w1.heap.size,0,none⟩):=hfr 5 (by decide);exact pl9 (r:=by simp only [seval,i5];simp [go_sem,y0,y1,y2])
  ·obtain ⟨rfl,rfl⟩:=o7 ho hdt;have i0:_=Value.slice pk n ck:=hfr 0 (by decide);exact pl9 (r:=by simp only [seval,i0];simp [go_sem])
  ·obtain ⟨rfl,rfl⟩:=o7 ho hdt;have i1:_=Value.slice ph n ch:=hfr 1 (by decide);exact pl9 (r:=by simp only [seval,i1];simp [go_sem])
  ·obtain ⟨rfl,rfl⟩:=o7 ho hdt;have i17:_=Value.slice pk n ck:=hin ⟨1,.data⟩ (by simp) rfl 17 rfl;have i18:_=Value.slice ph n ch:=hin ⟨2,.data⟩ (by simp) rfl 18 rfl;refine ew9 52 #[.slice pk n ck,.slice ph n ch] (by simp only [seval,i17,i18];simp [invoke,egO,Result.andThen,go_sem]) (jOuterF n n N pk ck k ph ch h u (HK.out.later (B2.trans hu)) (HH.out.later (B2.trans hu)) HD.out HN.out) ?_;rintro e w' ⟨q,c,rfl,⟨hM,_⟩,hb⟩;exact ⟨_,rfl,_,rfl,⟨q,c,rfl,hM⟩,hb⟩
  ·obtain ⟨rfl,rfl⟩:=o7 ho hdt;have i16:_=mV n n p1 N c1:=hin ⟨0,.data⟩ (by simp) rfl 16 rfl;have i19:∃ q c,(act.eval (.tmp (19:Nat)))=mV n n q N c∧Mx 3 cellsF u n n q N c (outerJ kdF k h):=hin ⟨3,.data⟩ (by simp) rfl 19 rfl;obtain ⟨q0,c0',e1,hq⟩:=i19;refine ew9 97 #[mV n n p1 N c1,mV n n q0 N c0'] (by simp only [seval,i16,e1];simp [invoke,egS,Result.andThen,go_sem]) (mSubF' n n p1 q0 N c1 c0' _ _ u (H1.out.later hu) hq) ?_;rintro e w' ⟨q,c,rfl,⟨hM,hF⟩,hb⟩;exact ⟨_,rfl,_,rfl,⟨q,c,rfl,hM,fresh_le hF hu.size⟩,hb⟩
  ·obtain ⟨rfl,rfl⟩:=o7 ho hdt;have i20:∃ q c,(act.eval (.tmp (20:Nat)))=.tuple #[mV n n q N c,.bool true]∧Mx 3 cellsF u n n q N c (restJ kdF (fun i j=>wholeF (unitI i j)) k h)∧Fresh W2.heap.size (.slice q N c):=hin ⟨4,.data⟩ (by simp) rfl 20 rfl;obtain ⟨q0,c0',e1,hq⟩:=i20;exact pw9 (by simp only [execOp,e1];simp [go_sem]) ⟨_,rfl,⟨q0,c0',rfl,hq⟩,Bl.refl _⟩
  ·obtain ⟨rfl,rfl⟩:=o7 ho hdt;have i15:∃ q c,(act.eval (.tmp (15:Nat)))=.tuple #[mV n n q N c,.bool true]∧Mx 3 cellsF u n n q N c (restJ kdF (fun i j=>wholeF (unitI i j)) k h)∧Fresh W2.heap.size (.slice q N c):=hin ⟨5,.data⟩ (by simp) rfl 15 rfl;obtain ⟨q0,c0',e1,hq⟩:=i15;exact pw9 (by simp only [execOp,e1];simp [go_sem]) ⟨_,rfl,⟨q0,c0',rfl,hq⟩,Bl.refl _⟩
  ·cases hpu
  ·obtain ⟨rfl,rfl⟩:=o7 ho hdt;exact pw9 (w':=u.alloc (.cells #[.int .i64 0,.int .i64 0,.slice none 0 0] 30)) (v:=.pointer (some ⟨u.heap.size,0,none⟩)) (by simp only [execOp];simp [go_sem]) ⟨_,rfl,⟨u.heap.size,rfl,hu.size,MBox.new u 0 0 none 0 0 _,noB_new u _⟩,(Bl.refl _).alloc _⟩
  ·obtain rfl:=o9 ho;cases hdt
  ·cases hpu
 case still =>
  intro j o t act u0 u ho hdt hpu hsz hu hfr hin;have hj:j<11:=l9 ho;obtain ⟨y0,y1,y2,_,_,_,_⟩:=k1.later hu;rcases (by omega:j=0∨j=1∨j=2∨j=3∨j=4∨j=5∨j=6∨j=7∨j=8∨j=9∨j=10) with rfl|rfl|rfl|rfl|rfl|rfl|rfl|rfl|rfl|rfl|rfl
  ·cases hpu
  ·cases hpu
  ·cases hpu
  ·cases hpu
  ·cases hpu
  ·cases hpu
  ·cases hpu
  ·obtain ⟨rfl,rfl⟩:=o7 ho hdt;have i15:∃ q c,(act.eval (.tmp (15:Nat)))=.tuple #[mV n n q N c,.bool true]∧Mx 3 cellsF u0 n n q N c (restJ kdF (fun i j=>wholeF (unitI i j)) k h)∧Fresh W2.heap.size (.slice q N c):=hin ⟨5,.data⟩ (by simp) rfl 15 rfl;obtain ⟨q0,c0',e1,hq⟩:=i15;exact pw9 (by simp only [execOp,e1];simp [go_sem]) ⟨_,rfl,rfl,rfl⟩
  ·cases hpu
  ·cases hpu
  ·obtain ⟨rfl,rfl⟩:=o7 ho hdt;have i22:_=Value.bool true:=hin ⟨7,.data⟩ (by simp) rfl 22 rfl;exact pw9 (by simp only [seval,i22];simp [go_sem]) ⟨_,rfl,rfl,rfl⟩
 case store =>
  intro o act u vs ho hsz hu hfr hin;obtain rfl:=o9 ho;obtain ⟨i7,k7⟩:act.eval (.tmp (7:Nat))=vs 8∧(∃ b,(vs 8)=.pointer (some ⟨b,0,none⟩)∧W2.heap.size≤b∧MBox u b 0 0 none 0 0∧NoB u b):=hin 8 7 rfl rfl;obtain ⟨i21,k21⟩:act.eval (.tmp (21:Nat))=vs 6∧(∃ q c,(vs 6)=mV n n q N c∧Mx 3 cellsF u n n q N c (restJ kdF (fun i j=>wholeF (unitI i j)) k h)∧Fresh W2.heap.size (.slice q N c)):=hin 6 21 rfl rfl;obtain ⟨b,e1,hb,bx,nb⟩:=k7;obtain ⟨q0,c0',e2,hq,hf⟩:=k21;rw [e1] at i7;rw [e2] at i21;obtain ⟨c0,c1',c2,f0,f1,f2,ltb⟩:=id bx;exact sw9 (by simp only [execOp,i7,i21];simp [go_sem,c0,c1',c2,f0,f1,f2]) ⟨rfl,b,q0,c0',e1,bx.fill _ _ _ _ _,mx_ne7 hq (noB_mx boolF hq nb) _ _ _,hf,mbox_set7 (mbox_set7 (mbox_set7 (kz.later hu) (by omega) _ _) (by omega) _ _) (by omega) _ _,Bl.put3 (B2.trans hu) (by omega) _ _ _⟩
 case fin =>
  intro vs vb u0 u hu hin hps;have a0:=hin 0 16 rfl;have a1:=hin 1 17 rfl;have a2:=hin 2 18 rfl;have a3:=hin 3 19 rfl;have a4:=hin 4 20 rfl;have a5:=hin 5 15 rfl;have a6:=hin 6 21 rfl;have a7:=hin 7 22 rfl;have a8:=hin 8 7 rfl;have a10:=hin 10 8 rfl;simp only [seval] at a0 a1 a2 a3 a4 a5 a6 a7 a8 a10 ⊢;rw [if_pos (by decide)] at hps;simp only [a0,a1,a2,a7,a10];obtain ⟨b,q,c,e7,kx,hM,hF,kz',hbw⟩:=hps;simp only [e7];clear a3 a4 a5 a6 a8;have HR:=hideP hM;have HF:=hideP (show Fresh (w.heap.size+1) (.slice q N c) from fresh_le hF (by omega));clear hM hF;obtain ⟨x0,x1,x2,_,_,_,_⟩:=kx;obtain ⟨c0,c1',c2,f0,f1,f2,lt2⟩:=kz';go_wp2;simp [bodyPost,results,Tryz.results51,go_sem,c0,c1',c2];exact ⟨q,c,⟨rfl,rfl⟩,⟨mx_put7 HR.out HF.out _ _ _,fresh_le HF.out (by omega)⟩,Bl.put3 hbw (by omega) _ _ _⟩
def RwZ {α:Type} (s:Nat) (c:α→List Value) (w:World) (lo:Nat) (v:Value) (xs:List α):Prop:=
 ∃ b cap,v=.slice (some ⟨b,0,none⟩) xs.length cap∧xs.length≤cap∧lo≤b∧b<w.heap.size∧(∀ o,w.frozen? ⟨b,o,none⟩=false)∧∀ j x,xs[j]?=some x→∀ k u,(c x)[k]?=some u→w.cell? ⟨b,j*s+k,none⟩=some u
theorem RwZ.of_own {α:Type} {s:Nat} {c:α→List Value} (hs:∀ x,(c x).length=s) {w:World} {B:Nat} {e:TypeId} {v:Value} {xs:List α}
  (h:w.ownsRow B e s v xs.length (xs.flatMap c)) (hne:xs≠[]):RwZ s c w B v xs:=by
 have hlt:=h.lt;have R:=Rw.of_own hs h;rcases R with ⟨rfl,e0⟩|⟨b,o,cap,rfl,hc,hb,hx⟩
 ·exact absurd e0 hne
 ·have h2:=h.2;rcases h2 with ⟨e1,_⟩|⟨g,cap',cur,e1,hB,_⟩
  ·cases e1
  ·cases e1;have h3:=h;exact ⟨b,cap,rfl,hc,hB,hb,fun o=>h3.frozenAt o,fun j x hj k u hu=>by have:=hx j x hj k u hu;rwa [Nat.zero_add] at this⟩
theorem RwZ.rw {α:Type} {s:Nat} {c:α→List Value} {w:World} {lo:Nat} {v:Value} {xs:List α} (h:RwZ s c w lo v xs):Rw s c w v xs:=by
 obtain ⟨b,cap,e,hc,_,hb,_,hx⟩:=h;exact .inr ⟨b,0,cap,e,hc,hb,fun j x hj k u hu=>by have:=hx j x hj k u hu;rwa [Nat.zero_add]⟩
theorem RwZ.later {α:Type} {s:Nat} {c:α→List Value} {w w':World} {lo:Nat} {v:Value} {xs:List α} (h:RwZ s c w lo v xs) (k:Bl w w'):RwZ s c w' lo v xs:=by
 obtain ⟨b,cap,e,hc,hlo,hb,hf,hx⟩:=h;exact ⟨b,cap,e,hc,hlo,Nat.lt_of_lt_of_le hb (Below.size k),fun o=>(bl_froz k _ _ hb).trans (hf o),fun j x hj i u hu=>(bl_cell k _ _ hb).trans (hx j x hj i u hu)⟩
theorem RwZ.fresh {α:Type} {s:Nat} {c:α→List Value} {w:World} {lo:Nat} {v:Value} {xs:List α} (h:RwZ s c w lo v xs):Fresh lo v:=by
 obtain ⟨b,cap,rfl,_,hlo,_⟩:=h;intro g hg;cases hg;exact hlo
structure But (S:Nat→Prop) (w w':World):Prop where
 os:w'.os=w.os
 tape:w'.tape=w.tape
 output:w'.output=w.output
 size:w.heap.size≤w'.heap.size
 block:∀ k,k<w.heap.size→¬ S k→w'.heap[k]?=w.heap[k]?
theorem But.of_bl {S:Nat→Prop} {w w':World} (h:Bl w w'):But S w w':=⟨Below.os h,Below.tape h,Below.output h,Below.size h,fun k hk _=>Below.block h k hk⟩
theorem But.refl (S:Nat→Prop) (w:World):But S w w:=But.of_bl (Bl.refl w)
theorem But.trans {S:Nat→Prop} {a b c:World} (h:But S a b) (k:But S b c):But S a c:=
 ⟨k.os.trans h.os,k.tape.trans h.tape,k.output.trans h.output,Nat.le_trans h.size k.size,fun i hi hs=>(k.block i (Nat.lt_of_lt_of_le hi h.size) hs).trans (h.block i hi hs)⟩
theorem But.mono {S T:Nat→Prop} {a b:World} (h:But S a b) (k:∀ i,S i→T i):But T a b:=⟨h.os,h.tape,h.output,h.size,fun i hi hs=>h.block i hi fun e=>hs (k i e)⟩
theorem But.cell {S:Nat→Prop} {a b:World} (h:But S a b) (g o:Nat) (hg:g<a.heap.size) (hs:¬ S g):b.cell? ⟨g,o,none⟩=a.cell? ⟨g,o,none⟩:=World.cell?_of_block (a:=⟨g,o,none⟩) (h.block g hg hs)
theorem But.froz {S:Nat→Prop} {a b:World} (h:But S a b) (g o:Nat) (hg:g<a.heap.size) (hs:¬ S g):b.frozen? ⟨g,o,none⟩=a.frozen? ⟨g,o,none⟩:=World.frozen?_of_block (a:=⟨g,o,none⟩) (h.block g hg hs)
theorem But.bl {S:Nat→Prop} {a b c:World} (h:But S b c) (k:Bl a b) (hs:∀ i,S i→a.heap.size≤i):Bl a c:=
 ⟨h.os.trans (Below.os k),h.tape.trans (Below.tape k),h.output.trans (Below.output k),Nat.le_trans (Below.size k) h.size,fun i hi=>(h.block i (Nat.lt_of_lt_of_le hi (Below.size k)) fun e=>by have:=hs i e;omega).trans (Below.block k i hi)⟩
theorem Rw.but {α:Type} {s:Nat} {c:α→List Value} {w w':World} {v:Value} {xs:List α} {S:Nat→Prop} (h:Rw s c w v xs) (k:But S w w') (hs:∀ g,v.ownBlock=some g→¬ S g):Rw s c w' v xs:=by
 rcases h with h|⟨b,o,cap,rfl,hc,hb,hx⟩
 ·exact .inl h
 ·exact .inr ⟨b,o,cap,rfl,hc,Nat.lt_of_lt_of_le hb k.size,fun j x hj i u hu=>(k.cell _ _ hb (hs b rfl)).trans (hx j x hj i u hu)⟩
theorem RwZ.but {α:Type} {s:Nat} {c:α→List Value} {w w':World} {lo:Nat} {v:Value} {xs:List α} {S:Nat→Prop} (h:RwZ s c w lo v xs) (k:But S w w') (hs:∀ g,v.ownBlock=some g→¬ S g):RwZ s c w' lo v xs:=by
 obtain ⟨b,cap,rfl,hc,hlo,hb,hf,hx⟩:=h;exact ⟨b,cap,rfl,hc,hlo,Nat.lt_of_lt_of_le hb k.size,fun o=>(k.froz _ _ hb (hs b rfl)).trans (hf o),fun j x hj i u hu=>(k.cell _ _ hb (hs b rfl)).trans (hx j x hj i u hu)⟩
theorem but_setCells {S:Nat→Prop} {b:Nat} (hb:S b):∀ (vs:List Value) (o:Nat) (w0 w:World),But S w0 w→But S w0 (w.setCells b o vs)
 |[],_,_,_,h=>h
 |v::r,o,w0,w,h=>by
  show But S w0 ((w.setCell ⟨b,o,none⟩ v).setCells b (o+1) r);refine but_setCells hb r (o+1) w0 _ ⟨h.os,h.tape,h.output,by simpa using h.size,fun k hk hs=>?_⟩;exact (Below.heap_setCell _ _ _ k (show k≠b from fun e=>hs (e▸hb))).trans (h.block k hk hs)
theorem setCells_size (b:Nat):∀ (vs:List Value) (o:Nat) (w:World),(w.setCells b o vs).heap.size=w.heap.size
 |[],_,_=>rfl
 |v::r,o,w=>by show ((w.setCell ⟨b,o,none⟩ v).setCells b (o+1) r).heap.size=_;rw [setCells_size b r];simp
theorem run_copy_s {P:Program} (w:World) (dT sT ty elem:TypeId) (s b o dLen dCap:Nat) (a:Addr) (sLen sCap n:Nat) (cs:List Value)
  (hu:P.underlying dT=some (.slice elem)) (hs:(P.info? elem).map (·.size)=some s) (hn:Nat.min sLen dLen=n) (hl:cs.length=n*s)
  (hsrc:∀ j v,cs[j]?=some v→w.cell? (a.add j)=some v) (hc:∀ j,j<cs.length→(w.cell? ⟨b,o+j,none⟩).isSome=true) (hf:∀ j,j<cs.length→w.frozen? ⟨b,o+j,none⟩=false) (h1:∀ v∈cs,v.oneCell'=true) :
  (Builtin.copy_ #[dT,sT] ty #[.slice (some ⟨b,o,none⟩) dLen dCap,.slice (some a) sLen sCap]).run P w=.ok (goInt n) (w.setCells b o cs):=by
 have hld:=run_loadCells_list (P:=P) w a cs hsrc;have hst:=run_storeCells_cells (P:=P) b o cs 0 w (by simpa using hc) (by simpa using hf) h1;cases hq:P.info? elem with
 |none=>simp [hq] at hs
 |some i =>
  have hi:i.size=s:=by simpa [hq] using hs
  rw [hl] at hld;simp [Builtin.copy_,run_underlying hu,Builtin.lenOf,Builtin.firstCells,sizeOf,typeInfo,hq,hi,hn,hld,hst]
theorem wpList_copy_s {P:Program} {w:World} {ops:Array Oper} {rest:List Oper} {o:Oper} {a:Act} {Q:Exit→Act→World→Prop} (hgd:o.guard=none) (d sr:Operand) (dT sT:TypeId)
  (ho:o.op=.call { callee:=.builtin .copy,args:=#[d,sr],argTypes:=#[dT,sT] }) (elem:TypeId) (hu:P.underlying dT=some (.slice elem)) (s:Nat) (hsz:(P.info? elem).map (·.size)=some s)
  (g off dLen dCap:Nat) (ad:Addr) (sLen sCap:Nat) (hd:a.eval d=.slice (some ⟨g,off,none⟩) dLen dCap) (hs:a.eval sr=.slice (some ad) sLen sCap)
  (n:Nat) (cs:List Value) (hn:Nat.min sLen dLen=n) (hl:cs.length=n*s)
  (hsrc:∀ j v,cs[j]?=some v→w.cell? (ad.add j)=some v) (hc:∀ j,j<cs.length→(w.cell? ⟨g,off+j,none⟩).isSome=true) (hf:∀ j,j<cs.length→w.frozen? ⟨g,off+j,none⟩=false) (h1:∀ v∈cs,v.oneCell'=true)
  (h:∀ w',Hid (w'=w.setCells g off cs)→wpList P ops Q rest (a.put o.dst (goInt n)) w'):wpList P ops Q (o::rest) a w:=by
 refine wpList_plain hgd fun K hK=>?_
 have hrun:=run_copy_s (P:=P) w dT sT o.type elem s g off dLen dCap ad sLen sCap n cs hu hsz hn hl hsrc hc hf h1;unfold Oper.wp;simp [execOp,ho,resolve,invoke,builtin,hd,hs,hrun,Result.andThen];exact hK _ _ (h _ rfl)
structure Tbl {α:Type} (s:Nat) (c:α→List Value) (w:World) (H:Nat) (B cp:Nat→Nat) (n m:Nat) (a:Nat→Nat→α):Prop where
 hdr:∀ i,i<n→w.cell? ⟨H,i,none⟩=some (.slice (some ⟨B i,0,none⟩) m (cp i))
 hlt:H<w.heap.size
 blt:∀ i,i<n→B i<w.heap.size
 inj:∀ i j,i<n→j<n→B i=B j→i=j
 hne:∀ i,i<n→B i≠H
 cap:∀ i,i<n→m≤cp i
 cells:∀ i j,i<n→j<m→∀ k u,(c (a i j))[k]?=some u→w.cell? ⟨B i,j*s+k,none⟩=some u
 froz:∀ i,i<n→∀ o,w.frozen? ⟨B i,o,none⟩=false
def InT (B:Nat→Nat) (n:Nat) (g:Nat):Prop:=∃ i,i<n∧g=B i
theorem Tbl.later {α:Type} {s:Nat} {c:α→List Value} {w w':World} {H:Nat} {B cp:Nat→Nat} {n m:Nat} {a:Nat→Nat→α} (h:Tbl s c w H B cp n m a) (k:Bl w w'):Tbl s c w' H B cp n m a:=
 ⟨fun i hi=>(bl_cell k _ _ h.hlt).trans (h.hdr i hi),Nat.lt_of_lt_of_le h.hlt (Below.size k),fun i hi=>Nat.lt_of_lt_of_le (h.blt i hi) (Below.size k),h.inj,h.hne,h.cap,
  fun i j hi hj x u hu=>(bl_cell k _ _ (h.blt i hi)).trans (h.cells i j hi hj x u hu),fun i hi o=>(bl_froz k _ _ (h.blt i hi)).trans (h.froz i hi o)⟩
theorem Tbl.part {α:Type} {s:Nat} {c:α→List Value} {w:World} {H:Nat} {B cp:Nat→Nat} {n m:Nat} {a:Nat→Nat→α} (h:Tbl s c w H B cp n m a) {i k:Nat} (hi:i<n) (hk:k≤m) :
  Rq s c w (.slice (some ⟨B i,k*s,none⟩) (m-k) (cp i-k)) (tailH m k (a i)):=by
 have hc:=h.cap i hi;refine .inr ⟨B i,k*s,cp i-k,by simp [tailH],by simp [tailH];omega,h.blt i hi,fun j x hj q u hu=>?_⟩;unfold tailH at hj;have hjl:j<m-k:=by have:=(List.getElem?_eq_some_iff.1 hj).1;simpa using this
 simp [hjl] at hj;subst hj;have:=h.cells i (k+j) hi (by omega) q u hu
 rwa [Nat.add_mul] at this
theorem Tbl.first {α:Type} {s:Nat} {c:α→List Value} {w:World} {H:Nat} {B cp:Nat→Nat} {n m:Nat} {a:Nat→Nat→α} (h:Tbl s c w H B cp n m a) {i q:Nat} (hi:i<n) (hq:q≤m) :
  Rq s c w (.slice (some ⟨B i,0,none⟩) q (cp i)) (rowM q a i):=by
 have hc:=h.cap i hi;refine .inr ⟨B i,0,cp i,by simp [rowM_len],by simp [rowM_len];omega,h.blt i hi,fun j x hj t u hu=>?_⟩;have hjl:j<q:=by have:=(List.getElem?_eq_some_iff.1 hj).1;rwa [rowM_len] at this
 rw [rowM_get a i hjl] at hj;cases hj;have:=h.cells i j hi (by omega) t u hu
 rwa [Nat.zero_add]
theorem cell_set_some {w:World} {b:Nat} {vs:List Value} {o:Nat} (hs:∀ j,j<vs.length→(w.cell? ⟨b,o+j,none⟩).isSome=true) {q:Nat} (hq:o≤q) (hq2:q<o+vs.length) {u:Value} (hu:vs[q-o]?=some u):(w.setCells b o vs).cell? ⟨b,q,none⟩=some u:=by
 have h:=World.cell?_setCells_in b vs o w hs (q-o) (by omega);rw [show o+(q-o)=q by omega] at h;rw [h];rw [List.getElem?_eq_getElem (by omega)] at hu;exact hu
theorem flat_get {α:Type} {s:Nat} {c:α→List Value} (hs:∀ x,(c x).length=s):∀ (xs:List α) (i k:Nat) (x:α),xs[i]?=some x→k<s→(xs.flatMap c)[i*s+k]?=(c x)[k]?
 |[],i,k,x,h,_=>by simp at h
 |y::ys,0,k,x,h,hk=>by
  simp at h;subst h;rw [List.flatMap_cons,List.getElem?_append_left (by rw [hs];omega),Nat.zero_mul,Nat.zero_add]
 |y::ys,i+1,k,x,h,hk=>by
  rw [List.flatMap_cons,List.getElem?_append_right (by rw [hs,Nat.add_mul];omega),hs,show (i+1)*s+k-s=i*s+k by rw [Nat.add_mul];omega];exact flat_get hs ys i k x (by simpa using h) hk
theorem Tbl.put {α:Type} {s:Nat} {c:α→List Value} (hs:∀ x,(c x).length=s) {w:World} {H:Nat} {B cp:Nat→Nat} {n m:Nat} {a b:Nat→Nat→α} (h:Tbl s c w H B cp n m a) {i k:Nat} {xs:List α} (hi:i<n) (hk:k+xs.length≤m)
  (e1:∀ j,j<xs.length→xs[j]?=some (b i (k+j))) (e2:∀ i' j,i'<n→j<m→¬ (i'=i∧k≤j∧j<k+xs.length)→b i' j=a i' j) :
  Tbl s c (w.setCells (B i) (k*s) (xs.flatMap c)) H B cp n m b∧But (InT B n) w (w.setCells (B i) (k*s) (xs.flatMap c)):=by
 have hb:But (InT B n) w (w.setCells (B i) (k*s) (xs.flatMap c)):=but_setCells ⟨i,hi,rfl⟩ _ _ _ _ (But.refl _ _);have hfl:=flat_len hs xs;have some:∀ j,j<(xs.flatMap c).length→(w.cell? ⟨B i,k*s+j,none⟩).isSome=true:=fun j hj=>by
  rw [hfl] at hj
  have hs0 : 0 < s := by rcases Nat.eq_zero_or_pos s with e | e; · subst e; simp at hj
                         · exact e
  have hd:j/s<xs.length:=by rw [Nat.div_lt_iff_lt_mul hs0];exact hj
  have hm:j % s<s:=Nat.mod_lt _ hs0;have hj':j=j/s*s+j % s:=by rw [Nat.mul_comm];exact (Nat.div_add_mod j s).symm
  have:=h.cells i (k+j/s) hi (by omega) (j % s) _ (List.getElem?_eq_getElem (by rw [hs];exact hm));rw [show k*s+j=(k+j/s)*s+j % s by rw [Nat.add_mul];omega,this];rfl
 refine ⟨⟨fun i' hi'=>?_,by rw [setCells_size];exact h.hlt,fun i' hi'=>by rw [setCells_size];exact h.blt i' hi',h.inj,h.hne,h.cap,fun i' j hi' hj q u hu=>?_,fun i' hi' o=>by rw [World.frozen?_setCells];exact h.froz i' hi' o⟩,hb⟩
 ·rw [World.cell?_setCells_out _ _ _ _ _ (fun e _=>absurd e.symm (h.hne i hi))];exact h.hdr i' hi'
 ·by_cases hin : i' = i ∧ k ≤ j ∧ j < k + xs.length
  ·obtain ⟨rfl,h1,h2⟩:=hin;have hql:q<s:=by have:=(List.getElem?_eq_some_iff.1 hu).1;rwa [hs] at this
   have hx:=e1 (j-k) (by omega);rw [show k+(j-k)=j by omega] at hx;have hg:=flat_get hs xs (j-k) q _ hx hql;rw [hu] at hg;have hjk:j*s=k*s+(j-k)*s:=by rw [←Nat.add_mul];congr 1;omega
   have hle:(j-k)*s+s≤xs.length*s:=by rw [←Nat.succ_mul];exact Nat.mul_le_mul_right _ (by omega)
   refine cell_set_some some (by omega) (by rw [hfl];omega) ?_;rw [show j*s+q-k*s=(j-k)*s+q by omega];exact hg
  ·have ho:=e2 i' j hi' hj hin;rw [ho] at hu;have hql:q<s:=by have:=(List.getElem?_eq_some_iff.1 hu).1;rwa [hs] at this
   rw [World.cell?_setCells_out _ _ _ _ _ (fun e _=>?_)]
   ·exact h.cells i' j hi' hj q u hu
   ·simp only at e;have hii:i'=i:=h.inj i' i hi' hi e;subst hii;have hcase:j<k∨k+xs.length≤j:=by
     rcases Nat.lt_or_ge j k with h1|h1
     ·exact .inl h1
     ·exact .inr (Nat.le_of_not_lt fun h2=>hin ⟨rfl,h1,h2⟩)
    simp only;rw [hfl];rcases hcase with h1|h1
    ·left
     have:(j+1)*s≤k*s:=Nat.mul_le_mul_right _ h1;rw [Nat.add_mul] at this;omega
    ·right
     have:(k+xs.length)*s≤j*s:=Nat.mul_le_mul_right _ h1;rw [Nat.add_mul] at this;omega
def lessH {α:Type} (K:Kd α) (ws vs:List α) (q:α):List α:=List.zipWith K.sub ws (vs.map fun x=>K.mul x (K.div (K.add (K.dot ws vs) (K.dot ws vs)) q))
theorem tail_len {α:Type} (m k:Nat) (f:Nat→α):(tailH m k f).length=m-k:=by simp [tailH]
theorem tail_get {α:Type} {m k j:Nat} (f:Nat→α) (h:j<m-k):(tailH m k f)[j]?=some (f (k+j)):=by simp [tailH,h]
theorem tail_ext {α:Type} {m k:Nat} {f:Nat→α} {xs:List α} (hl:xs.length=m-k) (h:∀ j,j<m-k→xs[j]?=some (f (k+j))):xs=tailH m k f:=by
 refine List.ext_getElem? fun j=>?_
 by_cases hj:j<m-k
 ·rw [h j hj,tail_get f hj]
 ·rw [List.getElem?_eq_none (by omega),List.getElem?_eq_none (by rw [tail_len];omega)]
theorem less_get {α:Type} (K:Kd α) (m k:Nat) (b:Bool) (a:Nat→Nat→α) (i:Nat) (hi:k<i):lessH K (tailH m k (a i)) (tailH m k (vH K m k b a)) (K.dot (tailH m k (vH K m k b a)) (tailH m k (vH K m k b a)))=tailH m k (foldStep K m k b a i):=by
 refine tail_ext (by simp [lessH,tail_len]) fun j hj=>?_
 unfold lessH;rw [List.getElem?_zipWith,List.getElem?_map,tail_get _ hj,tail_get _ hj];show some _=some _;unfold foldStep;rw [if_neg (by omega),if_pos ⟨hi,by omega⟩];rfl
def partH {α:Type} (k d:Nat) (b a:Nat→Nat→α) (i c:Nat):α:=if k<i∧i≤k+d then b i c else a i c
theorem partH_zero {α:Type} (k:Nat) (b a:Nat→Nat→α):partH k 0 b a=a:=by
 funext i c
 unfold partH;rw [if_neg (by omega)]
theorem RwZ.copy {α:Type} {s:Nat} {c:α→List Value} (hs:∀ x,(c x).length=s) {w:World} {B g n cap:Nat} {e:TypeId} {L:List Value} (h:w.ownsRow B e s (.slice (some ⟨g,0,none⟩) n cap) n L) {xs:List α} (hx:xs.length=n) (h0:0<n) :
  RwZ s c (w.setCells g (0*s) (xs.flatMap c)) B (.slice (some ⟨g,0,none⟩) n cap) xs∧(∀ j,j<(xs.flatMap c).length→(w.cell? ⟨g,0+j,none⟩).isSome=true)∧(∀ j,w.frozen? ⟨g,0+j,none⟩=false):=by
 have hfz:∀ j,w.frozen? ⟨g,j,none⟩=false:=fun j=>h.frozenAt j
 have hlt:=h.lt g rfl;have hL:=h.1;have hfl:=flat_len hs xs;have hsm:∀ j,j<(xs.flatMap c).length→(w.cell? ⟨g,0+j,none⟩).isSome=true:=fun j hj=>by
  rw [hfl,hx] at hj;have:=h.cells rfl j _ (List.getElem?_eq_getElem (by omega));have hadd:(⟨g,0,none⟩:Addr).add j=⟨g,0+j,none⟩:=by unfold Addr.add;split<;>simp_all
  rw [hadd] at this;rw [this];rfl
 have hcap:n≤cap:=by
  rcases h.2 with ⟨e1,_⟩|⟨g',cap',cur,e1,_,_,h1,_⟩
  ·cases e1
  ·cases e1;exact h1
 refine ⟨⟨g,cap,by rw [hx],by omega,hlt.1,by rw [setCells_size];exact hlt.2,fun o=>by rw [World.frozen?_setCells];exact hfz o,fun j x hj k u hu=>?_⟩,hsm,fun j=>hfz _⟩;have hk:k<s:=by have:=(List.getElem?_eq_some_iff.1 hu).1;rwa [hs] at this
 have hj':j<xs.length:=(List.getElem?_eq_some_iff.1 hj).1;have hg:=flat_get hs xs j k x hj hk;rw [hu] at hg;have hle:j*s+s≤xs.length*s:=by rw [←Nat.succ_mul];exact Nat.mul_le_mul_right _ hj'
 rw [Nat.zero_mul];exact cell_set_some hsm (Nat.zero_le _) (by rw [hfl];omega) (by rw [Nat.sub_zero];exact hg)
theorem RwZ.put0 {α:Type} {s:Nat} {c:α→List Value} (hs:∀ x,(c x).length=s) {w:World} {B g n cap:Nat} {x y:α} {xs:List α} (h:RwZ s c w B (.slice (some ⟨g,0,none⟩) n cap) (x::xs)) :
  RwZ s c (w.setCells g 0 (c y)) B (.slice (some ⟨g,0,none⟩) n cap) (y::xs):=by
 obtain ⟨b,cap',e,hc,hlo,hb,hf,hx⟩:=h;cases e;refine ⟨g,cap,rfl,hc,hlo,by rw [setCells_size];exact hb,fun o=>by rw [World.frozen?_setCells];exact hf o,fun j z hj k u hu=>?_⟩;have hk:k<s:=by have:=(List.getElem?_eq_some_iff.1 hu).1;rwa [hs] at this
 cases j with
 |zero =>
  simp at hj;subst hj;rw [Nat.zero_mul,Nat.zero_add];refine cell_set_some (fun j hj=>?_) (Nat.zero_le _) (by rw [hs];omega) (by rw [Nat.sub_zero];exact hu);rw [hs] at hj;have:=hx 0 x rfl j _ (List.getElem?_eq_getElem (by rw [hs];exact hj));rw [Nat.zero_mul] at this;rw [this];rfl
 |succ j =>
  rw [World.cell?_setCells_out _ _ _ _ _ (fun _ _=>.inr (by show 0+(c y).length≤(j+1)*s+k;rw [hs,Nat.add_mul];omega))];exact hx (j+1) z (by simpa using hj) k u hu
theorem tail_consH {α:Type} {m k:Nat} (f:Nat→α) (h:k<m):tailH m k f=f k::(List.range (m-k-1)).map fun j=>f (k+1+j):=by
 symm
 refine tail_ext (by simp;omega) fun j hj=>?_
 cases j with
 |zero=>simp
 |succ j =>
  rw [List.getElem?_cons_succ,List.getElem?_map,List.getElem?_range (by omega)];exact congrArg some (congrArg f (by omega))
theorem add_off (a:Addr) (j:Nat) (h:a.spot=none):a.add j=⟨a.block,a.off+j,none⟩:=by
 obtain ⟨b,o,s⟩:=a;simp only at h;subst h;unfold Addr.add;split<;>simp_all
theorem bl_setCells {w0:World} {b:Nat}:∀ {w:World},Bl w0 w→w0.heap.size≤b→∀ (vs:List Value) (o:Nat),Bl w0 (w.setCells b o vs):=by
 intro w h hb vs o
 induction vs generalizing w o with
 |nil=>exact h
 |cons v vs ih=>exact ih (Bl.set h hb v) (o+1)
theorem RwZ.glt {α:Type} {s:Nat} {c:α→List Value} {w:World} {lo g n cap:Nat} {xs:List α} (h:RwZ s c w lo (.slice (some ⟨g,0,none⟩) n cap) xs):g<w.heap.size:=by
 obtain ⟨b,cap',e,_,_,hb,_⟩:=h;cases e;exact hb
theorem Tbl.somes {α:Type} {s:Nat} {c:α→List Value} (hs:∀ x,(c x).length=s) {w:World} {H:Nat} {B cp:Nat→Nat} {n m:Nat} {a:Nat→Nat→α} (h:Tbl s c w H B cp n m a) {i k:Nat} {xs:List α} (hi:i<n) (hk:k+xs.length≤m) :
  ∀ j,j<(xs.flatMap c).length→(w.cell? ⟨B i,k*s+j,none⟩).isSome=true:=fun j hj=>by
 rw [flat_len hs] at hj;have hs0:0<s:=by
  rcases Nat.eq_zero_or_pos s with e|e
  ·subst e;simp at hj
  ·exact e
 have hd:j/s<xs.length:=by rw [Nat.div_lt_iff_lt_mul hs0];exact hj
 have hm:j % s<s:=Nat.mod_lt _ hs0;have hj':j=j/s*s+j % s:=by rw [Nat.mul_comm];exact (Nat.div_add_mod j s).symm
 have:=h.cells i (k+j/s) hi (by omega) (j % s) _ (List.getElem?_eq_getElem (by rw [hs];exact hm));rw [show k*s+j=(k+j/s)*s+j % s by rw [Nat.add_mul];omega,this];rfl
def negTo {α:Type} (h:α→α) (k i:Nat) (f:Nat→Nat→α) (a b:Nat):α:=if b=k∧k≤a∧a<i then h (f a b) else f a b
theorem negTo_next {α:Type} (h:α→α) {k i:Nat} (hi:k≤i) (f:Nat→Nat→α):negTo h k (i+1) f=putM (negTo h k i f) i k (h (negTo h k i f i k)):=by
 funext a b
 unfold putM negTo;by_cases h1:a=i∧b=k
 ·rw [if_pos h1,if_pos (by omega),if_neg (by omega)];obtain ⟨rfl,rfl⟩:=h1;rfl
 ·rw [if_neg h1];by_cases h2:b=k∧k≤a∧a<i
  ·rw [if_pos h2,if_pos (by omega)]
  ·rw [if_neg h2,if_neg (by omega)]
theorem RwZ.putAt {α:Type} {s:Nat} {c:α→List Value} (hs:∀ x,(c x).length=s) {w:World} {B g n cap:Nat} {xs:List α} (h:RwZ s c w B (.slice (some ⟨g,0,none⟩) n cap) xs) {q:Nat} (hq:q<xs.length) (y:α) :
  RwZ s c (w.setCells g (q*s) (c y)) B (.slice (some ⟨g,0,none⟩) n cap) (xs.set q y):=by
 obtain ⟨b,cap',e,hc,hlo,hb,hf,hx⟩:=h;simp only [Value.slice.injEq,Option.some.injEq,Addr.mk.injEq] at e;obtain ⟨⟨rfl,_⟩,rfl,rfl⟩:=e;refine ⟨g,cap,by simp,by simpa using hc,hlo,by rw [setCells_size];exact hb,fun o=>by rw [World.frozen?_setCells];exact hf o,fun j z hj k u hu=>?_⟩;have hk:k<s:=by have:=(List.getElem?_eq_some_iff.1 hu).1;rwa [hs] at this
 rw [List.getElem?_set] at hj;by_cases hqj:q=j
 ·subst hqj;rw [if_pos rfl,if_pos hq] at hj;cases hj;refine cell_set_some (fun t ht=>?_) (by omega) (by rw [hs];omega) (by rw [Nat.add_sub_cancel_left];exact hu);rw [hs] at ht;have:=hx q _ (List.getElem?_eq_getElem hq) t _ (List.getElem?_eq_getElem (by rw [hs];exact ht));rw [this];rfl
 ·rw [if_neg hqj] at hj;rw [World.cell?_setCells_out _ _ _ _ _ (fun _ _=>?_)]
  ·exact hx j z hj k u hu
  ·show j*s+k<q*s∨q*s+(c y).length≤j*s+k;rw [hs];rcases Nat.lt_or_gt_of_ne hqj with h1|h1
   ·right
    have:(q+1)*s≤j*s:=Nat.mul_le_mul_right _ h1;rw [Nat.add_mul] at this;omega
   ·left
    have:(j+1)*s≤q*s:=Nat.mul_le_mul_right _ h1;rw [Nat.add_mul] at this;omega
def sgTo {α:Type} (h:α→α) (low:α→Bool) (j:Nat) (f:Nat→Nat→α) (a b:Nat):α:=if b<j∧b≤a∧low (f b b)=true then h (f a b) else f a b
theorem sgTo_yes {α:Type} (h:α→α) (low:α→Bool) {j n:Nat} {f:Nat→Nat→α} (hl:low (f j j)=true) {a b:Nat} (ha:a<n):negTo h j n (sgTo h low j f) a b=sgTo h low (j+1) f a b:=by
 unfold negTo sgTo;by_cases h1:b=j∧j≤a∧a<n
 ·obtain ⟨rfl,h2,h3⟩:=h1;rw [if_pos ⟨rfl,h2,h3⟩,if_neg (by omega),if_pos ⟨by omega,h2,hl⟩]
 ·rw [if_neg h1];by_cases h2:b<j∧b≤a∧low (f b b)=true
  ·rw [if_pos h2,if_pos ⟨by omega,h2.2⟩]
  ·rw [if_neg h2,if_neg];rintro ⟨h3,h4,h5⟩;by_cases h6:b=j
   ·subst h6;exact h1 ⟨rfl,h4,ha⟩
   ·exact h2 ⟨by omega,h4,h5⟩
theorem sgTo_no {α:Type} (h:α→α) (low:α→Bool) {j:Nat} {f:Nat→Nat→α} (hl:low (f j j)=false) {a b:Nat}:sgTo h low (j+1) f a b=sgTo h low j f a b:=by
 unfold sgTo;by_cases h2:b<j∧b≤a∧low (f b b)=true
 ·rw [if_pos h2,if_pos ⟨by omega,h2.2⟩]
 ·rw [if_neg h2,if_neg];rintro ⟨h3,h4,h5⟩;by_cases h6:b=j
  ·subst h6;rw [hl] at h5;cases h5
  ·exact h2 ⟨by omega,h4,h5⟩
theorem sgTo_all {α:Type} {K:Kd α} (h:α→α) (low:α→Bool) {n:Nat} {f:Nat→Nat→α} {a b:Nat} (hb:b<n) (hk:K.neg=h:=by rfl):sgTo h low n f a b=signsH K (fun j=>low (f j j)) f a b:=by
 subst hk;unfold sgTo signsH;by_cases h2:b≤a∧low (f b b)=true
 ·rw [if_pos ⟨hb,h2⟩,if_pos h2]
 ·rw [if_neg h2,if_neg fun h=>h2 h.2]
def wellR (ops:Array Oper) (ds:List (Option Nat)):Bool:=
 lowB2 ops&&onceB ds&&(ds.length==ops.size)&&(List.range ops.size).all fun j=>match ops[j]? with
  |none=>true
  |some o=>o.guard.isNone&&(ds[j]?==some o.dst)
structure RR (R:World→World→Prop) (W:World) (a:Act) (ops:Array Oper) (ds:List (Option Nat)) (facts:Nat→Value→World→Prop) (L:Nat→Bool) (act:Act) (u:World):Prop where
 size:act.tmps.size=a.tmps.size
 defers:act.defers=a.defers
 frame:∀ t,(∀ j,L j=true→ds[j]?≠some (some t))→act.eval (.tmp t)=a.eval (.tmp t)
 rel:R W u
 val:∀ (j t:Nat),ds[j]?=some (some t)→L j=true→facts j (act.eval (.tmp t)) u
 non:∀ (j:Nat),ds[j]?=some none→L j=true→facts j undef u
theorem once_ne {ds:List (Option Nat)} (ho:onceB ds=true):∀ (i j t t':Nat),ds[i]?=some (some t)→ds[j]?=some (some t')→i≠j→t≠t':=by
 have:∀ (ds:List (Option Nat)),onceB ds=true→∀ (i j t t':Nat),ds[i]?=some (some t)→ds[j]?=some (some t')→i<j→t≠t':=by
  intro ds
  induction ds with
  |nil=>intro _ i j t t' h;simp at h
  |cons d ds ih =>
   intro ho i j t t' h1 h2 hij;simp only [onceB,Bool.and_eq_true] at ho;cases j with
   |zero=>omega
   |succ j =>
    cases i with
    |zero =>
     simp at h1 h2;subst h1;have:=ho.1;simp at this;exact fun e=>this _ (List.mem_of_getElem? h2) (by rw [e])
    |succ i=>exact ih ho.2 i j t t' (by simpa using h1) (by simpa using h2) (by omega)
 intro i j t t' h1 h2 hij;rcases Nat.lt_or_gt_of_ne hij with h|h
 ·exact this ds ho i j t t' h1 h2 h
 ·exact (this ds ho j i t' t h2 h1 h).symm
theorem region_r {F:Fence} {n:Nat} {P:Program} {ops:Array Oper} {Q:Exit→Act→World→Prop} {a:Act} {W:World} {id:Nat} (hm:P.follows .mixedOrders=true) (R:World→World→Prop) (ds:List (Option Nat)) (hw:wellR ops ds=true)
  (hsz0:ds.all (fun d=>match d with|some t=>Nat.blt t a.tmps.size|none=>true)=true) (h0:R W W.drew) (hR:∀ {x y z},R x y→R y z→R x z) (facts:Nat→Value→World→Prop) (mono:∀ j v u u',R W u→R u u'→facts j v u→facts j v u')
  (step:∀ (j:Nat) (o:Oper) (act:Act) (u:World),ops[j]?=some o→act.tmps.size=a.tmps.size→R W u→(∀ t,some t ∉ ds→act.eval (.tmp t)=a.eval (.tmp t))→(∀ e∈o.after,Region.binds .any e=true→∀ t,ds[e.on]?=some (some t)→facts e.on (act.eval (.tmp t)) u)→(∀ e∈o.after,Region.binds .any e=true→ds[e.on]?=some none→facts e.on undef u) →
   Oper.wpIn F n P o act u (fun act' u'=>∃ v,act'=act.put o.dst v∧facts j (if o.dst.isSome then v else undef) u'∧R u u') Q)
  (fin:∀ (vs:Nat→Value) (u:World),R W u→(∀ (j:Nat) (t:Nat),ds[j]?=some (some t)→facts j (vs j) u)→(∀ (j:Nat),ds[j]?=some none→facts j undef u)→Q .normal (putL ds vs 0 a) u) :
  (Code.region id ops true).wpIn F n P Q a W:=by
 simp only [wellR,Bool.and_eq_true] at hw;obtain ⟨⟨⟨hlow,honce⟩,hlen⟩,hall'⟩:=hw;have hlen':ds.length=ops.size:=by simpa using hlen
 have key:∀ (j:Nat) (o:Oper),ops[j]?=some o→o.guard=none∧ds[j]?=some o.dst:=fun j o ho=>by
  have:=List.all_eq_true.1 hall' j (by simpa using (Array.getElem?_eq_some_iff.1 ho).1);rw [ho] at this;simpa using this
 have hsz:∀ t,some t∈ds→t<a.tmps.size:=fun t ht=>by have:=List.all_eq_true.1 hsz0 _ ht;rw [Nat.blt_eq] at this;exact this
 have hlt:∀ (j:Nat) d,ds[j]?=some d→j<ops.size:=fun j d h=>by have:=(List.getElem?_eq_some_iff.1 h).1;rw [hlen'] at this;exact this
 have hne:=once_ne honce;refine region_facts2 hm (lowB2_low hlow) (RR R W a ops ds facts) ?_ ?_ ?_
 ·exact ⟨rfl,rfl,fun _ _=>rfl,h0,(by intro _ _ _ h;cases h),(by intro _ _ h;cases h)⟩
 ·intro L act u i o hI ho hLi hall;refine step_wp ho (key i o ho).1 ?_;have hdi:=(key i o ho).2;have hfr:∀ t,some t ∉ ds→act.eval (.tmp t)=a.eval (.tmp t):=fun t ht=>hI.frame t (fun j _ e=>ht (List.mem_of_getElem? e))
  refine Oper.wpIn_mono ?_ (step i o act u ho hI.size hI.rel hfr (fun e he hbe t' ht'=>hI.val e.on t' ht' (hall e he hbe)) (fun e he hbe hd=>hI.non e.on hd (hall e he hbe)));rintro act' u' ⟨v,rfl,hf,hr⟩;have hval:∀ (j t:Nat),ds[j]?=some (some t)→(L j||(j==i))=true→facts j ((act.put o.dst v).eval (.tmp t)) u':=fun j t h hj=>by
   by_cases e:j=i
   ·subst e;rw [hdi] at h;have hd:o.dst=some t:=Option.some.inj h;rw [hd] at hf ⊢;rw [eval_put_same (by rw [hI.size];exact hsz t (List.mem_of_getElem? (by rw [hdi,hd])))];exact hf
   ·have hLj:L j=true:=by
     rw [Bool.or_eq_true] at hj;rcases hj with hj|hj
     ·exact hj
     ·exact absurd (by simpa using hj) e
    rw [eval_put_ne (fun e2=>hne j i t t h (by rw [hdi,e2]) e rfl)];exact mono j _ u u' hI.rel hr (hI.val j t h hLj)
  refine ⟨by rw [size_put];exact hI.size,by rw [defers_put];exact hI.defers,fun t ht=>?_,hR hI.rel hr,hval,fun j hd hj=>?_⟩
  ·rw [eval_put_ne (fun e=>ht i (by simp) (by rw [hdi,e]))];exact hI.frame t (fun j hj=>ht j (by rw [hj];rfl))
  ·by_cases e : j = i
   ·subst e;rw [hdi] at hd;have hd':o.dst=none:=Option.some.inj hd;rw [hd'] at hf;exact hf
   ·have hLj:L j=true:=by
     rw [Bool.or_eq_true] at hj;rcases hj with hj|hj
     ·exact hj
     ·exact absurd (by simpa using hj) e
    exact mono j _ u u' hI.rel hr (hI.non j hd hLj)
 ·intro L act u hI hall;have hL:∀ j d,ds[j]?=some d→L j=true:=fun j d h=>hall j (hlt j d h)
  have e:act=putL ds (fun j=>act.eval (.tmp ((ds[j]?.getD none).getD 0))) 0 a:=by
   refine act_ext (by rw [putL_size];exact hI.size) (by rw [putL_defers];exact hI.defers) fun t ht=>?_
   by_cases hm':some t∈ds
   ·obtain ⟨j,hj⟩:=List.getElem?_of_mem hm';rw [putL_at ds _ t j 0 a honce hj (by rw [←hI.size];exact ht),Nat.zero_add,hj];rfl
   ·rw [putL_other ds _ t 0 a (fun d hd e=>hm' (by rw [←e];exact hd))];exact hI.frame t (fun j _ e=>hm' (List.mem_of_getElem? e))
  rw [e];exact fin _ u hI.rel (fun j t h=>by have:=hI.val j t h (hL j _ h);simpa [h] using this) (fun j h=>hI.non j h (hL j _ h))
theorem Mx.but {α:Type} {s:Nat} {c:α→List Value} {w w':World} {R C:Nat} {p:Option Addr} {n cap:Nat} {f:Nat→Nat→α} {S:Nat→Prop} (h:Mx s c w R C p n cap f) (k:But S w w') (hs:∀ g,(Value.slice p n cap).ownBlock=some g→¬ S g):Mx s c w' R C p n cap f:=
 ⟨h.1,h.2.1,by
  rcases h.2.2 with h|⟨b,o,cap',e,hc,hb,hx⟩
  ·exact .inl h
  ·exact .inr ⟨b,o,cap',e,hc,Nat.lt_of_lt_of_le hb k.size,fun j x hj i u hu=>(k.cell _ _ hb (hs b (by rw [e];rfl))).trans (hx j x hj i u hu)⟩⟩
theorem MBox.but {w w':World} {b:Nat} {r c:Int} {p:Option Addr} {n cap:Nat} {S:Nat→Prop} (h:MBox w b r c p n cap) (k:But S w w') (hs:¬ S b):MBox w' b r c p n cap:=
 ⟨(k.cell _ _ h.lt hs).trans h.c0,(k.cell _ _ h.lt hs).trans h.c1,(k.cell _ _ h.lt hs).trans h.c2,(k.froz _ _ h.lt hs).trans h.f0,(k.froz _ _ h.lt hs).trans h.f1,(k.froz _ _ h.lt hs).trans h.f2,Nat.lt_of_lt_of_le h.lt k.size⟩
theorem SBox.heap {w w':World} {b:Nat} {px:Option Addr} {nx cx:Nat} {r c:Int} {p:Option Addr} {n cap:Nat} (h:SBox w b px nx cx r c p n cap) (e:w'.heap[b]?=w.heap[b]?) (hs:w.heap.size≤w'.heap.size):SBox w' b px nx cx r c p n cap:=
 ⟨(World.cell?_of_block (a:=⟨b,0,none⟩) e).trans h.c0,(World.cell?_of_block (a:=⟨b,1,none⟩) e).trans h.c1,(World.cell?_of_block (a:=⟨b,2,none⟩) e).trans h.c2,(World.cell?_of_block (a:=⟨b,3,none⟩) e).trans h.c3,
  (World.frozen?_of_block (a:=⟨b,0,none⟩) e).trans h.f0,(World.frozen?_of_block (a:=⟨b,1,none⟩) e).trans h.f1,(World.frozen?_of_block (a:=⟨b,2,none⟩) e).trans h.f2,(World.frozen?_of_block (a:=⟨b,3,none⟩) e).trans h.f3,Nat.lt_of_lt_of_le h.lt hs⟩
structure TwoJ (g l:Nat) (G T:World→Prop) (x y:World):Prop where
 but:But (fun i=>i=g∨i=l) x y
 g8:y.heap[g]?=x.heap[g]?∨G y
 l9:y.heap[l]?=x.heap[l]?∨T y
theorem TwoJ.bl {g l:Nat} {G T:World→Prop} {x y:World} (h:Bl x y) (hg:g<x.heap.size) (hl:l<x.heap.size):TwoJ g l G T x y:=
 ⟨But.of_bl h,.inl (Below.block h g hg),.inl (Below.block h l hl)⟩
theorem TwoJ.trans {g l:Nat} {G T:World→Prop} (hG:∀ x y,G x→But (fun i=>i=g∨i=l) x y→y.heap[g]?=x.heap[g]?→G y) (hT:∀ x y,T x→But (fun i=>i=g∨i=l) x y→y.heap[l]?=x.heap[l]?→T y) {x y z:World} (h:TwoJ g l G T x y) (k:TwoJ g l G T y z):TwoJ g l G T x z:=by
 refine ⟨h.but.trans k.but,?_,?_⟩
 ·rcases k.g8 with e|t
  ·rcases h.g8 with e'|t
   ·exact .inl (e.trans e')
   ·exact .inr (hG _ _ t k.but e)
  ·exact .inr t
 ·rcases k.l9 with e|t
  ·rcases h.l9 with e'|t
   ·exact .inl (e.trans e')
   ·exact .inr (hT _ _ t k.but e)
  ·exact .inr t
theorem but_cell1 {S:Nat→Prop} {b:Nat} (hb:S b) (o:Nat) (v:Value) (u:World):But S u (u.setCell ⟨b,o,none⟩ v):=
 ⟨rfl,rfl,rfl,by simp,fun k _ hs=>Below.heap_setCell _ _ _ k (by show k≠b;exact fun e=>hs (e▸hb))⟩
theorem heap1 {g l:Nat} (u:World) (h:l≠g) (o:Nat) (v:Value):(u.setCell ⟨g,o,none⟩ v).heap[l]?=u.heap[l]?:=Below.heap_setCell _ _ _ l (by show l≠g;exact h)
end Go.Proofs.YtljmggemdkfbiaaGreat
