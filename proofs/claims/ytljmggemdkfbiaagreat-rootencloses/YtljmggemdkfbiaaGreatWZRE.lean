/- Behind a prediction and an update the square of the triangle, X, and the news, enclose what the fractions tell. Conditions: none (every input). -/
import Derived.Test.YtljmggemdkfbiaaGreatWJ
import Derived.Test.YtljmggemdkfbiaaGreatWB
import Derived.Test.YtljmggemdkfbiaaGreatWD
import Derived.Test.YtljmggemdkfbiaaGreatWA
import Derived.Test.YtljmggemdkfbiaaGreatWI
import Derived.Test.YtljmggemdkfbiaaGreatWG
import Derived.ProofKit
import Derived.OpenShut
import Derived.Lib.SmallJoins
import Derived.Carry
namespace Go.Proofs.YtljmggemdkfbiaaGreat
open Go.RowKit
set_option linter.unusedSimpArgs false
set_option linter.unusedVariables false
set_option maxHeartbeats 2000000 in
theorem ref7Clear_new (pa:Option Addr) (na ca:Nat) (xa:List Int) (n:Nat) (w:World) (hd:Dim n n) (ha:Rq 1 cI w (.slice pa na ca) xa) (la:xa.length=n*n) (lna:na=n*n) :
  Calls Tryz.prog 11 #[.slice pa na ca,.int .i64 n] w fun e w'=>∃ p cap,e=.returned (.slice p (n*n) cap)∧Rw 1 cellsI w' (.slice p (n*n) cap) (mk n n (clrI (ofL n xa)))∧Fresh w.heap.size (.slice p (n*n) cap)∧Bl w w':=by
 obtain ⟨i0,hi,hz0,hz1,hz2⟩:=info_parts Tryz.info_I;have fm:Tryz.prog.follows .mixedOrders=true:=by kernel_rfl
 have CA:∀ i j,i<n→j<n→∃ b o,pa=some ⟨b,o,none⟩∧∀ u,Bl w u→u.cell? ⟨b,o+(i*n+j),none⟩=some (.int .i64 (ofL n xa i j)):=by
  intro i j hi' hj;have hg:=ofL_get la hi' hj;rcases ha with ⟨_,_,_,h0,_⟩|⟨b,o,cc,e,_,hlt,HX⟩
  ·rw [h0] at hg;simp at hg
  ·cases e;exact ⟨b,o,rfl,fun u hu=>(bl_cell hu _ _ hlt).trans (cellI HX hg (wr:=w))⟩
 have HCA:=hideP CA;have hR16:=hd.r2;have HLA:=hideP lna;clear CA ha la lna;generalize ofL n xa=fa at *
 go_enter Tryz.func11,Tryz.ntmps11;go_wp2_with fail
 go_loopw [5,6] (fun v i wr=>∃ j:Nat,i=.int .i64 j∧j≤n∧wr.ownsRow w.heap.size 3 1 v (mk j n (clrI fa)).length ((mk j n (clrI fa)).flatMap cellsI)∧Bl w wr) (fun _ i _=>n-(intOf i).toNat)
 case atStart=>exact ⟨0,rfl,Nat.zero_le _,World.ownsRow_nil _ _ _ _,Bl.refl _⟩
 case round =>
  obtain ⟨j,rfl,hj,hown,hB⟩:=hrel;by_cases hlt:j<n
  ·go_wp2_with fail
   go_loopw [5,7] (fun v i wr=>∃ k:Nat,i=.int .i64 k∧k≤n∧wr.ownsRow w.heap.size 3 1 v (mk j n (clrI fa)++rowM k (clrI fa) j).length ((mk j n (clrI fa)++rowM k (clrI fa) j).flatMap cellsI)∧Bl w wr) (fun _ i _=>n-(intOf i).toNat)
   case atStart=>exact ⟨0,rfl,Nat.zero_le _,by simpa [rowM] using hown,hB⟩
   case round =>
    clear hown hB;obtain ⟨k,rfl,hk,hown,hB⟩:=hrel;by_cases hlt2:k<n
    ·have hlen:(mk j n (clrI fa)++rowM k (clrI fa) j).length≤256:=by
      have h1:j*n+k<n*n:=mk_idx hlt hlt2;have h2:n*n≤256:=Nat.mul_le_mul hR16 hR16;rw [List.length_append,mk_len,rowM_len];omega
     have HT:=hideP (show mk j n (clrI fa)++rowM (k+1) (clrI fa) j=(mk j n (clrI fa)++rowM k (clrI fa) j)++[(clrI fa) j k] by rw [rowM_succ,List.append_assoc]);by_cases hki:k≤j
     ·have hki':¬ ((k:Int)>j):=by omega
      obtain ⟨x,hx⟩:∃ x,x=fa j k:=⟨_,rfl⟩;have HT2:=hideP (show (mk j n (clrI fa)++rowM k (clrI fa) j)++[(clrI fa) j k]=(mk j n (clrI fa)++rowM k (clrI fa) j)++[x] by rw [hx,show clrI fa j k=fa j k from if_pos hki]);have HT3:=hideP (HT.out.trans HT2.out);obtain ⟨b,o,rfl,CX⟩:=HCA.out j k hlt hlt2;obtain ⟨a1,q1,e1,e2,hq1,hq3,hq5,hq6⟩:=place hd hlt hlt2;rw [←e2] at CX;rw [←HLA.out] at hq5;have cx:=CX wr hB;rw [←hx] at cx;clear CX e1 e2;clear HT HT2;have HX:=hideP hx;clear hx;generalize mk j n (clrI fa)++rowM k (clrI fa) j=ys at *;go_wp2_with (at_builtin;refine wpList_append_own _ rfl _ _ 22 rfl w.heap.size 3 i0 (.int .i64 0) 1 8 Tryz.underlying22 hi hz0 hz1 hz2 rfl (by decide) _ _ _ rfl (hown.alloc _) ⟨_,0,none⟩ 1 1 (cellsI x) rfl rfl (newI_cells _ _ _) (oneI_cells _) (by unfold maxLen;omega) (by omega) (by have:=hB.size;simp;omega) ?_;intro v' w1 hown' hgrow _)
      have R1:=own_more (ys:=[x]) (hB.alloc _) (Nat.le_refl _) (hown.alloc _) (by simpa using hown') rfl hgrow;clear hown hown' hgrow;go_wp2;go_roundw
      case rel=>exact ⟨k+1,by simp,hlt2,by rw [HT3.out];exact R1.2,R1.1⟩
      case measure=>simp [intOf];omega
     ·have hki':(k:Int)>j:=by omega
      obtain ⟨x,hx⟩:∃ x,x=(0:Int):=⟨_,rfl⟩;have HT2:=hideP (show (mk j n (clrI fa)++rowM k (clrI fa) j)++[(clrI fa) j k]=(mk j n (clrI fa)++rowM k (clrI fa) j)++[x] by rw [hx,show clrI fa j k=0 from if_neg hki]);have HT3:=hideP (HT.out.trans HT2.out);clear HT HT2;subst hx;generalize mk j n (clrI fa)++rowM k (clrI fa) j=ys at *;go_wp2_with (at_builtin;refine wpList_append_own _ rfl _ _ 22 rfl w.heap.size 3 i0 (.int .i64 0) 1 8 Tryz.underlying22 hi hz0 hz1 hz2 rfl (by decide) _ _ _ rfl (hown.alloc _) ⟨_,0,none⟩ 1 1 (cellsI (0:Int)) rfl rfl (newI_cells _ _ _) (oneI_cells _) (by unfold maxLen;omega) (by omega) (by have:=hB.size;simp;omega) ?_;intro v' w1 hown' hgrow _)
      have R1:=own_more (ys:=[(0:Int)]) (hB.alloc _) (Nat.le_refl _) (hown.alloc _) (by simpa using hown') rfl hgrow;clear hown hown' hgrow;go_wp2;go_roundw
      case rel=>exact ⟨k+1,by simp,hlt2,by rw [HT3.out];exact R1.2,R1.1⟩
      case measure=>simp [intOf];omega
    ·obtain rfl:k=n:=by omega
     have HT:=hideP (mk_succ j k (clrI fa));go_wp2_with fail
     go_roundw
     case rel=>exact ⟨j+1,by simp,hlt,by rw [HT.out];exact hown,hB⟩
     case measure=>simp [intOf];omega
  ·obtain rfl:j=n:=by omega
   have RW:=hideP (Rw.of_own cellsI_len hown);obtain ⟨p',cap',hv,_,_⟩:=RW.out.cut;rw [mk_len] at hv;have FR:=hideP (fun g (hg:Value.ownBlock _=some g)=>(hown.lt g hg).1);clear hown;subst hv;go_wp2;go_ret;exact ⟨p',cap',rfl,RW.out,FR.out,hB⟩
theorem rq_cellJ {w:World} {p:Option Addr} {n cap:Nat} {xs:List Int} (h:Rq 1 cI w (.slice p n cap) xs):∀ k x,xs[k]?=some x→∃ b o,p=some ⟨b,o,none⟩∧∀ u,Bl w u→u.cell? ⟨b,o+k,none⟩=some (.int .i64 x):=by
 intro k x hx;rcases h with ⟨_,_,_,e,_⟩|⟨b,o,c,e,_,hlt,hc⟩
 ·rw [e] at hx;simp at hx
 ·simp only [Value.slice.injEq] at e;exact ⟨b,o,e.1,fun u hu=>(bl_cell hu _ _ hlt).trans (by have:=hc k x hx 0 (.int .i64 x) rfl;simpa using this)⟩
theorem Tryz.idx5_0 (p0 p1 p2 p3 p4:Option Addr) (l0 c0 l1 c1 l2 c2 l3 c3 l4 c4:Nat) (w:World):(Instr.index 82 (.agg #[.slice p0 l0 c0,.slice p1 l1 c1,.slice p2 l2 c2,.slice p3 l3 c3,.slice p4 l4 c4]) (.int .i64 0)).run Tryz.prog w=.ok (.slice p0 l0 c0) w:=by kernel_rfl
theorem Tryz.idx5_1 (p0 p1 p2 p3 p4:Option Addr) (l0 c0 l1 c1 l2 c2 l3 c3 l4 c4:Nat) (w:World):(Instr.index 82 (.agg #[.slice p0 l0 c0,.slice p1 l1 c1,.slice p2 l2 c2,.slice p3 l3 c3,.slice p4 l4 c4]) (.int .i64 1)).run Tryz.prog w=.ok (.slice p1 l1 c1) w:=by kernel_rfl
theorem Tryz.idx5_2 (p0 p1 p2 p3 p4:Option Addr) (l0 c0 l1 c1 l2 c2 l3 c3 l4 c4:Nat) (w:World):(Instr.index 82 (.agg #[.slice p0 l0 c0,.slice p1 l1 c1,.slice p2 l2 c2,.slice p3 l3 c3,.slice p4 l4 c4]) (.int .i64 2)).run Tryz.prog w=.ok (.slice p2 l2 c2) w:=by kernel_rfl
theorem Tryz.idx5_3 (p0 p1 p2 p3 p4:Option Addr) (l0 c0 l1 c1 l2 c2 l3 c3 l4 c4:Nat) (w:World):(Instr.index 82 (.agg #[.slice p0 l0 c0,.slice p1 l1 c1,.slice p2 l2 c2,.slice p3 l3 c3,.slice p4 l4 c4]) (.int .i64 3)).run Tryz.prog w=.ok (.slice p3 l3 c3) w:=by kernel_rfl
theorem Tryz.idx5_4 (p0 p1 p2 p3 p4:Option Addr) (l0 c0 l1 c1 l2 c2 l3 c3 l4 c4:Nat) (w:World):(Instr.index 82 (.agg #[.slice p0 l0 c0,.slice p1 l1 c1,.slice p2 l2 c2,.slice p3 l3 c3,.slice p4 l4 c4]) (.int .i64 4)).run Tryz.prog w=.ok (.slice p4 l4 c4) w:=by kernel_rfl
structure FewJ (m:Nat) (X Ro Fm Gm H:List Int) (r z:Int):Prop where
 m1:1≤m
 m3:m≤3
 x:X.length=m
 h:H.length=m
 ro:Ro.length=m*m
 f:Fm.length=m*m
 g:Gm.length=m*m
 r1:1≤r
 r5:r≤5
 z1:-5≤z
 z5:z≤5
 sx:Sml 5 X
 sh:Sml 5 H
 sro:Sml 5 Ro
 sf:Sml 5 Fm
 sg:Sml 5 Gm
theorem take_all9 {L:List Int} {n:Nat} (h:Sml 5 (L.take 10)) (hl:L.length=n) (hn:n≤9):Sml 5 L:=by
 rw [List.take_of_length_le (by omega)] at h;exact h
def FewR (n r z:Int) (X Ro Fm Gm H:List Int) (w:World) (e:Ending) (w':World):Prop:=∃ b,e=.returned (.bool b)∧(b=true→∃ m:Nat,n=m∧FewJ m X Ro Fm Gm H r z)∧Bl w w'
theorem fewR {n r z:Int} {X Ro Fm Gm H:List Int} {w w':World} (b:Bool) (h:b=true→∃ m:Nat,n=m∧FewJ m X Ro Fm Gm H r z) (k:Bl w w'):FewR n r z X Ro Fm Gm H w (.returned (.bool b)) w':=⟨b,rfl,h,k⟩
set_option maxRecDepth 100000 in
set_option maxHeartbeats 8000000 in
theorem few9_any (n r z:Int) (px pr pf pg ph:Option Addr) (lx cx lr cr lf cf lg cg lh ch:Nat) (X Ro Fm Gm H:List Int) (w:World) (hX:Rq 1 cI w (.slice px lx cx) X) (hR:Rq 1 cI w (.slice pr lr cr) Ro) (hF:Rq 1 cI w (.slice pf lf cf) Fm) (hG:Rq 1 cI w (.slice pg lg cg) Gm) (hH:Rq 1 cI w (.slice ph lh ch) H)
  (eX:X.length=lx) (eR:Ro.length=lr) (eF:Fm.length=lf) (eG:Gm.length=lg) (eH:H.length=lh) :
  Calls Tryz.prog 9 #[.agg #[.int .i64 n,.slice px lx cx,.slice pr lr cr,.slice pf lf cf,.slice pg lg cg,.slice ph lh ch,.int .i64 r,.int .i64 z]] w (FewR n r z X Ro Fm Gm H w):=by
 obtain ⟨W,hW⟩:∃ W,W=w.alloc (.cells #[.int .i64 n,.slice px lx cx,.slice pr lr cr,.slice pf lf cf,.slice pg lg cg,.slice ph lh ch,.int .i64 r,.int .i64 z] 24):=⟨_,rfl⟩;have b0:Bl w W:=by rw [hW];exact (Bl.refl _).alloc _
 have BW:=hideP b0;have B0:=hideP b0;have HR0:=hideP (rq_cellJ hX);have HR1:=hideP (rq_cellJ hH);have HR2:=hideP (rq_cellJ hR);have HR3:=hideP (rq_cellJ hF);have HR4:=hideP (rq_cellJ hG);have HL0:=hideP eX;have HL1:=hideP eH;have HL2:=hideP eR;have HL3:=hideP eF;have HL4:=hideP eG;have d0:W.cell? ⟨w.heap.size,0,none⟩=some (.int .i64 n):=by rw [hW];simp [go_sem]
 have d1:W.cell? ⟨w.heap.size,1,none⟩=some (.slice px lx cx):=by rw [hW];simp [go_sem]
 have d2:W.cell? ⟨w.heap.size,2,none⟩=some (.slice pr lr cr):=by rw [hW];simp [go_sem]
 have d3:W.cell? ⟨w.heap.size,3,none⟩=some (.slice pf lf cf):=by rw [hW];simp [go_sem]
 have d4:W.cell? ⟨w.heap.size,4,none⟩=some (.slice pg lg cg):=by rw [hW];simp [go_sem]
 have d5:W.cell? ⟨w.heap.size,5,none⟩=some (.slice ph lh ch):=by rw [hW];simp [go_sem]
 have d6:W.cell? ⟨w.heap.size,6,none⟩=some (.int .i64 r):=by rw [hW];simp [go_sem]
 have d7:W.cell? ⟨w.heap.size,7,none⟩=some (.int .i64 z):=by rw [hW];simp [go_sem]
 have HD0:=hideP d0;have HD1:=hideP d1;have HD2:=hideP d2;have HD3:=hideP d3;have HD4:=hideP d4;have HD5:=hideP d5;have HW:=hideP hW;clear hX hR hF hG hH eX eR eF eG eH b0
 go_enter Tryz.func9,Tryz.ntmps9;clear hW d0 d1 d2 d3 d4 d5 d6 d7;by_cases g1:n<1
 ·go_wp2;go_ret;exact fewR false nofun ((Bl.refl _).alloc _)
 by_cases g2:3<n
 ·go_wp2;go_ret;exact fewR false nofun ((Bl.refl _).alloc _)
 obtain ⟨m,rfl⟩:=Int.eq_ofNat_of_zero_le (show 0≤n by omega);by_cases g3:lx=m
 ·by_cases g4 : lh = m
  ·by_cases g5 : r < 1
   ·go_wp2;go_ret;exact fewR false nofun ((Bl.refl _).alloc _)
   by_cases g6:5<r
   ·go_wp2;go_ret;exact fewR false nofun ((Bl.refl _).alloc _)
   by_cases g7:z < -5
   ·go_wp2;go_ret;exact fewR false nofun ((Bl.refl _).alloc _)
   by_cases g8:5<z
   ·go_wp2;go_ret;exact fewR false nofun ((Bl.refl _).alloc _)
   have e3:((lx:Int) != (m:Int))=false:=by simp;omega
   have e4:((lh:Int) != (m:Int))=false:=by simp;omega
   have G3:=hideP g3;have G4:=hideP g4;clear g3 g4;go_wp2_with fail
   rw [←HW.out];have d0:=HD0.out;have d1:=HD1.out;have d2:=HD2.out;have d3:=HD3.out;have d4:=HD4.out;have d5:=HD5.out
   go_loopw [61] (fun v wr=>∃ i:Nat,v=.int .i64 i∧i≤5∧((0<i→Sml 5 (X.take 10))∧(1<i→Sml 5 (H.take 10))∧(2<i→Sml 5 (Ro.take 10))∧(3<i→Sml 5 (Fm.take 10))∧(4<i→Sml 5 (Gm.take 10)))∧wr=W) (fun v _=>5-(intOf v).toNat)
   case atStart=>exact ⟨0,rfl,by omega,⟨fun h=>absurd h (by omega),fun h=>absurd h (by omega),fun h=>absurd h (by omega),fun h=>absurd h (by omega),fun h=>absurd h (by omega)⟩,rfl⟩
   case round =>
    obtain ⟨i,rfl,hi,⟨i0,i1,i2,i3,i4⟩,rfl⟩:=hrel;have HI0:=hideP i0;have HI1:=hideP i1;have HI2:=hideP i2;have HI3:=hideP i3;have HI4:=hideP i4;clear i0 i1 i2 i3 i4;obtain ⟨wq,hwq⟩:∃ wq:World,wq=wr:=⟨_,rfl⟩;subst hwq;by_cases hlt:i<5
    ·rcases (by omega:i=0∨i=1∨i=2∨i=3∨i=4) with rfl|rfl|rfl|rfl|rfl
     ·have IX:=Tryz.idx5_0 px ph pr pf pg lx cx lh ch lr cr lf cf lg cg wq;go_wp2_with fail
      go_loopw [5] (fun v wr=>∃ k:Nat,v=.int .i64 k∧k≤X.length∧k≤10∧Sml 5 (X.take k)∧wr=wq) (fun v _=>10-(intOf v).toNat)
      case atStart=>exact ⟨0,rfl,Nat.zero_le _,by omega,fun x hx=>by simp at hx,rfl⟩
      case round =>
       obtain ⟨k,rfl,hk,hk2,hS,rfl⟩:=hrel;have HS0:=hideP hS;have hlen:=HL0.out;clear hS;by_cases hlt:k<X.length∧k≤9
       ·obtain ⟨hlt,hlt2⟩:=hlt;obtain ⟨x,hx⟩:∃ x,X[k]?=some x:=⟨_,List.getElem?_eq_getElem hlt⟩;obtain ⟨b,o,hp,hcell⟩:=HR0.out k x hx;have cx9:=hcell wr BW.out;have HT:=hideP (show X.take (k+1)=X.take k++[x] by rw [List.take_add_one,hx];rfl);subst hp;clear hcell hx;by_cases g1:x < -5
        ·go_wp2;go_ret;exact fewR false nofun B0.out
        ·by_cases g2 : 5 < x
         ·go_wp2;go_ret;exact fewR false nofun B0.out
         ·go_wp2;go_roundw
          case rel =>
           refine ⟨k+1,by simp,by omega,by omega,?_⟩;rw [HT.out];intro y hy;rcases List.mem_append.1 hy with hy|hy
           ·exact HS0.out y hy
           ·simp at hy;omega
          case measure=>simp [intOf];omega
       ·have HS:=hideP (show Sml 5 (X.take 10) from by
         by_cases h9:k≤9
         ·have e:X.take 10=X.take k:=by rw [List.take_of_length_le (by omega),List.take_of_length_le (by omega)]
          rw [e];exact HS0.out
         ·obtain rfl:k=10:=by omega
          exact HS0.out)
        by_cases h9:k<X.length
        ·have h10:¬ k≤9:=fun h=>hlt ⟨h9,h⟩
         go_wp2_with fail
         go_roundw
         case rel=>exact ⟨1,by simp,by omega,⟨fun h=>HS.out,fun h=>absurd h (by omega),fun h=>absurd h (by omega),fun h=>absurd h (by omega),fun h=>absurd h (by omega)⟩,trivial⟩
         case measure=>simp [intOf]
        ·go_wp2_with fail
         go_roundw
         case rel=>exact ⟨1,by simp,by omega,⟨fun h=>HS.out,fun h=>absurd h (by omega),fun h=>absurd h (by omega),fun h=>absurd h (by omega),fun h=>absurd h (by omega)⟩,trivial⟩
         case measure=>simp [intOf]
     ·have IX:=Tryz.idx5_1 px ph pr pf pg lx cx lh ch lr cr lf cf lg cg wq;go_wp2_with fail
      go_loopw [5] (fun v wr=>∃ k:Nat,v=.int .i64 k∧k≤H.length∧k≤10∧Sml 5 (H.take k)∧wr=wq) (fun v _=>10-(intOf v).toNat)
      case atStart=>exact ⟨0,rfl,Nat.zero_le _,by omega,fun x hx=>by simp at hx,rfl⟩
      case round =>
       obtain ⟨k,rfl,hk,hk2,hS,rfl⟩:=hrel;have HS0:=hideP hS;have hlen:=HL1.out;clear hS;by_cases hlt:k<H.length∧k≤9
       ·obtain ⟨hlt,hlt2⟩:=hlt;obtain ⟨x,hx⟩:∃ x,H[k]?=some x:=⟨_,List.getElem?_eq_getElem hlt⟩;obtain ⟨b,o,hp,hcell⟩:=HR1.out k x hx;have cx9:=hcell wr BW.out;have HT:=hideP (show H.take (k+1)=H.take k++[x] by rw [List.take_add_one,hx];rfl);subst hp;clear hcell hx;by_cases g1:x < -5
        ·go_wp2;go_ret;exact fewR false nofun B0.out
        ·by_cases g2 : 5 < x
         ·go_wp2;go_ret;exact fewR false nofun B0.out
         ·go_wp2;go_roundw
          case rel =>
           refine ⟨k+1,by simp,by omega,by omega,?_⟩;rw [HT.out];intro y hy;rcases List.mem_append.1 hy with hy|hy
           ·exact HS0.out y hy
           ·simp at hy;omega
          case measure=>simp [intOf];omega
       ·have HS:=hideP (show Sml 5 (H.take 10) from by
         by_cases h9:k≤9
         ·have e:H.take 10=H.take k:=by rw [List.take_of_length_le (by omega),List.take_of_length_le (by omega)]
          rw [e];exact HS0.out
         ·obtain rfl:k=10:=by omega
          exact HS0.out)
        by_cases h9:k<H.length
        ·have h10:¬ k≤9:=fun h=>hlt ⟨h9,h⟩
         go_wp2_with fail
         go_roundw
         case rel=>exact ⟨2,by simp,by omega,⟨fun h=>(HI0.out (by omega)),fun h=>HS.out,fun h=>absurd h (by omega),fun h=>absurd h (by omega),fun h=>absurd h (by omega)⟩,trivial⟩
         case measure=>simp [intOf]
        ·go_wp2_with fail
         go_roundw
         case rel=>exact ⟨2,by simp,by omega,⟨fun h=>(HI0.out (by omega)),fun h=>HS.out,fun h=>absurd h (by omega),fun h=>absurd h (by omega),fun h=>absurd h (by omega)⟩,trivial⟩
         case measure=>simp [intOf]
     ·have IX:=Tryz.idx5_2 px ph pr pf pg lx cx lh ch lr cr lf cf lg cg wq;go_wp2_with fail
      go_loopw [5] (fun v wr=>∃ k:Nat,v=.int .i64 k∧k≤Ro.length∧k≤10∧Sml 5 (Ro.take k)∧wr=wq) (fun v _=>10-(intOf v).toNat)
      case atStart=>exact ⟨0,rfl,Nat.zero_le _,by omega,fun x hx=>by simp at hx,rfl⟩
      case round =>
       obtain ⟨k,rfl,hk,hk2,hS,rfl⟩:=hrel;have HS0:=hideP hS;have hlen:=HL2.out;clear hS;by_cases hlt:k<Ro.length∧k≤9
       ·obtain ⟨hlt,hlt2⟩:=hlt;obtain ⟨x,hx⟩:∃ x,Ro[k]?=some x:=⟨_,List.getElem?_eq_getElem hlt⟩;obtain ⟨b,o,hp,hcell⟩:=HR2.out k x hx;have cx9:=hcell wr BW.out;have HT:=hideP (show Ro.take (k+1)=Ro.take k++[x] by rw [List.take_add_one,hx];rfl);subst hp;clear hcell hx;by_cases g1:x < -5
        ·go_wp2;go_ret;exact fewR false nofun B0.out
        ·by_cases g2 : 5 < x
         ·go_wp2;go_ret;exact fewR false nofun B0.out
         ·go_wp2;go_roundw
          case rel =>
           refine ⟨k+1,by simp,by omega,by omega,?_⟩;rw [HT.out];intro y hy;rcases List.mem_append.1 hy with hy|hy
           ·exact HS0.out y hy
           ·simp at hy;omega
          case measure=>simp [intOf];omega
       ·have HS:=hideP (show Sml 5 (Ro.take 10) from by
         by_cases h9:k≤9
         ·have e:Ro.take 10=Ro.take k:=by rw [List.take_of_length_le (by omega),List.take_of_length_le (by omega)]
          rw [e];exact HS0.out
         ·obtain rfl:k=10:=by omega
          exact HS0.out)
        by_cases h9:k<Ro.length
        ·have h10:¬ k≤9:=fun h=>hlt ⟨h9,h⟩
         go_wp2_with fail
         go_roundw
         case rel=>exact ⟨3,by simp,by omega,⟨fun h=>(HI0.out (by omega)),fun h=>(HI1.out (by omega)),fun h=>HS.out,fun h=>absurd h (by omega),fun h=>absurd h (by omega)⟩,trivial⟩
         case measure=>simp [intOf]
        ·go_wp2_with fail
         go_roundw
         case rel=>exact ⟨3,by simp,by omega,⟨fun h=>(HI0.out (by omega)),fun h=>(HI1.out (by omega)),fun h=>HS.out,fun h=>absurd h (by omega),fun h=>absurd h (by omega)⟩,trivial⟩
         case measure=>simp [intOf]
     ·have IX:=Tryz.idx5_3 px ph pr pf pg lx cx lh ch lr cr lf cf lg cg wq;go_wp2_with fail
      go_loopw [5] (fun v wr=>∃ k:Nat,v=.int .i64 k∧k≤Fm.length∧k≤10∧Sml 5 (Fm.take k)∧wr=wq) (fun v _=>10-(intOf v).toNat)
      case atStart=>exact ⟨0,rfl,Nat.zero_le _,by omega,fun x hx=>by simp at hx,rfl⟩
      case round =>
       obtain ⟨k,rfl,hk,hk2,hS,rfl⟩:=hrel;have HS0:=hideP hS;have hlen:=HL3.out;clear hS;by_cases hlt:k<Fm.length∧k≤9
       ·obtain ⟨hlt,hlt2⟩:=hlt;obtain ⟨x,hx⟩:∃ x,Fm[k]?=some x:=⟨_,List.getElem?_eq_getElem hlt⟩;obtain ⟨b,o,hp,hcell⟩:=HR3.out k x hx;have cx9:=hcell wr BW.out;have HT:=hideP (show Fm.take (k+1)=Fm.take k++[x] by rw [List.take_add_one,hx];rfl);subst hp;clear hcell hx;by_cases g1:x < -5
        ·go_wp2;go_ret;exact fewR false nofun B0.out
        ·by_cases g2 : 5 < x
         ·go_wp2;go_ret;exact fewR false nofun B0.out
         ·go_wp2;go_roundw
          case rel =>
           refine ⟨k+1,by simp,by omega,by omega,?_⟩;rw [HT.out];intro y hy;rcases List.mem_append.1 hy with hy|hy
           ·exact HS0.out y hy
           ·simp at hy;omega
          case measure=>simp [intOf];omega
       ·have HS:=hideP (show Sml 5 (Fm.take 10) from by
         by_cases h9:k≤9
         ·have e:Fm.take 10=Fm.take k:=by rw [List.take_of_length_le (by omega),List.take_of_length_le (by omega)]
          rw [e];exact HS0.out
         ·obtain rfl:k=10:=by omega
          exact HS0.out)
        by_cases h9:k<Fm.length
        ·have h10:¬ k≤9:=fun h=>hlt ⟨h9,h⟩
         go_wp2_with fail
         go_roundw
         case rel=>exact ⟨4,by simp,by omega,⟨fun h=>(HI0.out (by omega)),fun h=>(HI1.out (by omega)),fun h=>(HI2.out (by omega)),fun h=>HS.out,fun h=>absurd h (by omega)⟩,trivial⟩
         case measure=>simp [intOf]
        ·go_wp2_with fail
         go_roundw
         case rel=>exact ⟨4,by simp,by omega,⟨fun h=>(HI0.out (by omega)),fun h=>(HI1.out (by omega)),fun h=>(HI2.out (by omega)),fun h=>HS.out,fun h=>absurd h (by omega)⟩,trivial⟩
         case measure=>simp [intOf]
     ·have IX:=Tryz.idx5_4 px ph pr pf pg lx cx lh ch lr cr lf cf lg cg wq;go_wp2_with fail
      go_loopw [5] (fun v wr=>∃ k:Nat,v=.int .i64 k∧k≤Gm.length∧k≤10∧Sml 5 (Gm.take k)∧wr=wq) (fun v _=>10-(intOf v).toNat)
      case atStart=>exact ⟨0,rfl,Nat.zero_le _,by omega,fun x hx=>by simp at hx,rfl⟩
      case round =>
       obtain ⟨k,rfl,hk,hk2,hS,rfl⟩:=hrel;have HS0:=hideP hS;have hlen:=HL4.out;clear hS;by_cases hlt:k<Gm.length∧k≤9
       ·obtain ⟨hlt,hlt2⟩:=hlt;obtain ⟨x,hx⟩:∃ x,Gm[k]?=some x:=⟨_,List.getElem?_eq_getElem hlt⟩;obtain ⟨b,o,hp,hcell⟩:=HR4.out k x hx;have cx9:=hcell wr BW.out;have HT:=hideP (show Gm.take (k+1)=Gm.take k++[x] by rw [List.take_add_one,hx];rfl);subst hp;clear hcell hx;by_cases g1:x < -5
        ·go_wp2;go_ret;exact fewR false nofun B0.out
        ·by_cases g2 : 5 < x
         ·go_wp2;go_ret;exact fewR false nofun B0.out
         ·go_wp2;go_roundw
          case rel =>
           refine ⟨k+1,by simp,by omega,by omega,?_⟩;rw [HT.out];intro y hy;rcases List.mem_append.1 hy with hy|hy
           ·exact HS0.out y hy
           ·simp at hy;omega
          case measure=>simp [intOf];omega
       ·have HS:=hideP (show Sml 5 (Gm.take 10) from by
         by_cases h9:k≤9
         ·have e:Gm.take 10=Gm.take k:=by rw [List.take_of_length_le (by omega),List.take_of_length_le (by omega)]
          rw [e];exact HS0.out
         ·obtain rfl:k=10:=by omega
          exact HS0.out)
        by_cases h9:k<Gm.length
        ·have h10:¬ k≤9:=fun h=>hlt ⟨h9,h⟩
         go_wp2_with fail
         go_roundw
         case rel=>exact ⟨5,by simp,by omega,⟨fun h=>(HI0.out (by omega)),fun h=>(HI1.out (by omega)),fun h=>(HI2.out (by omega)),fun h=>(HI3.out (by omega)),fun h=>HS.out⟩,trivial⟩
         case measure=>simp [intOf]
        ·go_wp2_with fail
         go_roundw
         case rel=>exact ⟨5,by simp,by omega,⟨fun h=>(HI0.out (by omega)),fun h=>(HI1.out (by omega)),fun h=>(HI2.out (by omega)),fun h=>(HI3.out (by omega)),fun h=>HS.out⟩,trivial⟩
         case measure=>simp [intOf]
    ·obtain rfl:i=5:=by omega
     obtain ⟨mm,hmm⟩:∃ mm,mm=m*m:=⟨_,rfl⟩;have hMM:(m:Int)*(m:Int)=(mm:Int):=by rw [hmm,Int.natCast_mul]
     have m3:m≤3:=by omega
     have mm9:mm≤9:=by rw [hmm];exact Nat.mul_le_mul m3 m3
     have HMM:=hideP hmm;clear hmm;by_cases k1:lr=mm
     ·by_cases k2 : lf = mm
      ·by_cases k3:lg=mm
       ·have f1:((lr:Int)==(mm:Int))=true:=by simp;omega
        have f2:((lf:Int)==(mm:Int))=true:=by simp;omega
        have f3:((lg:Int)==(mm:Int))=true:=by simp;omega
        go_wp2;go_ret;refine fewR _ (fun _=>⟨m,rfl,⟨by omega,by omega,by rw [HL0.out,G3.out],by rw [HL1.out,G4.out],by rw [HL2.out,k1,HMM.out],by rw [HL3.out,k2,HMM.out],by rw [HL4.out,k3,HMM.out],by omega,by omega,by omega,by omega,?_,?_,?_,?_,?_⟩⟩) B0.out
        ·exact take_all9 (HI0.out (by omega)) HL0.out (by have:=G3.out;omega)
        ·exact take_all9 (HI1.out (by omega)) HL1.out (by have:=G4.out;omega)
        ·exact take_all9 (HI2.out (by omega)) HL2.out (by omega)
        ·exact take_all9 (HI3.out (by omega)) HL3.out (by omega)
        ·exact take_all9 (HI4.out (by omega)) HL4.out (by omega)
       ·have f1:((lr:Int)==(mm:Int))=true:=by simp;omega
        have f2:((lf:Int)==(mm:Int))=true:=by simp;omega
        have f3:((lg:Int)==(mm:Int))=false:=by simp;omega
        go_wp2;go_ret;exact fewR false nofun B0.out
      ·have f1:((lr:Int)==(mm:Int))=true:=by simp;omega
       have f2:((lf:Int)==(mm:Int))=false:=by simp;omega
       go_wp2;go_ret;exact fewR false nofun B0.out
     ·have f1:((lr:Int)==(mm:Int))=false:=by simp;omega
      go_wp2;go_ret;exact fewR false nofun B0.out
  ·have e3:((lx:Int) != (m:Int))=false:=by simp;omega
   have e4:((lh:Int) != (m:Int))=true:=by simp;omega
   go_wp2;go_ret;exact fewR false nofun ((Bl.refl _).alloc _)
 ·have e3:((lx:Int) != (m:Int))=true:=by simp;omega
  go_wp2;go_ret;exact fewR false nofun ((Bl.refl _).alloc _)
theorem whole9F_call (R C:Nat) (p:Option Addr) (n cap:Nat) (ns:List Int) (w:World) (hr:Rq 1 cI w (.slice p n cap) ns) (hd:Dim R C) (hn:n=R*C) (hl:ns.length=n) :
  Calls Tryz.prog 12 #[.int .i64 R,.int .i64 C,.slice p n cap] w fun e w'=>∃ p' cap',e=.returned (.tuple #[mV R C p' n cap',.bool true])∧Mx 3 cellsF w' R C p' n cap' (fun i k=>wholeF (ofL C ns i k))∧Bl w w':=by
 refine (mWholeF R C p n cap ns w hr (fitB_dim hd hn) hl).mono ?_;rintro e w' ⟨p',cap',rfl,hR,hb⟩;refine ⟨p',cap',rfl,⟨hd,hn,?_⟩,hb⟩;have e:=ofL_mk (R:=R) (M:=C) (ns:=ns) (by rw [hl,hn]);rw [e,mk_map] at hR;exact hR.q
set_option maxRecDepth 100000 in
set_option maxHeartbeats 4000000 in
theorem start9_any (m N:Nat) (r z:Int) (px pr:Option Addr) (cx cr:Nat) (vf vg vh:Value) (X Ro:List Int) (w:World) (oF:vf.oneCell'=true) (oG:vg.oneCell'=true) (oH:vh.oneCell'=true) (hX:Rq 1 cI w (.slice px m cx) X) (hR:Rq 1 cI w (.slice pr N cr) Ro) (lX:X.length=m) (lR:Ro.length=N) (m1:1≤m) (m3:m≤3) (hN:N=m*m) :
  Calls Tryz.prog 14 #[.agg #[.int .i64 m,.slice px m cx,.slice pr N cr,vf,vg,vh,.int .i64 r,.int .i64 z]] w fun e w'=>∃ q c p' c',e=.returned (sJ q m c m m p' N c')∧(Rw 3 cellsF w' (.slice q m c) (linJ m (fun i=>wholeF (X.getD i 0)))∧Mx 3 cellsF w' m m p' N c' (squareJ kdF m (fun i k=>wholeF (ofL m Ro i k))))∧Bl w w':=by
 have fm:Tryz.prog.follows .mixedOrders=true:=by kernel_rfl
 have egW:=enters_of Tryz.func16 (by kernel_rfl) rfl;have egN:=enters_of Tryz.func26 (by kernel_rfl) rfl;have hm4:m≤4:=by omega
 obtain ⟨W,hW⟩:∃ W,W=(w.alloc (.cells #[.int .i64 m,.slice px m cx,.slice pr N cr,vf,vg,vh,.int .i64 r,.int .i64 z] 24)).alloc (.cells #[.slice none 0 0,.int .i64 0,.int .i64 0,.slice none 0 0] 36):=⟨_,rfl⟩;have b0:Bl w W:=by rw [hW];exact ((Bl.refl _).alloc _).alloc _
 have lt0:w.heap.size<W.heap.size:=by rw [hW];simp;omega
 have z0:SBox W (w.heap.size+1) none 0 0 0 0 none 0 0:=by rw [hW];have:=SBox.new (w.alloc (.cells #[.int .i64 m,.slice px m cx,.slice pr N cr,vf,vg,vh,.int .i64 r,.int .i64 z] 24)) none 0 0 0 0 none 0 0 36;rw [World.size_alloc] at this;exact this
 have nb0:NoB W (w.heap.size+1):=by rw [hW];have:=noB_newSF (w.alloc (.cells #[.int .i64 m,.slice px m cx,.slice pr N cr,vf,vg,vh,.int .i64 r,.int .i64 z] 24)) 36;rw [World.size_alloc] at this;exact this
 have HC:=hideP (show ∀ u,Bl W u→u.cell? ⟨w.heap.size,0,none⟩=some (.int .i64 m)∧u.cell? ⟨w.heap.size,1,none⟩=some (.slice px m cx)∧u.cell? ⟨w.heap.size,2,none⟩=some (.slice pr N cr)∧u.cell? ⟨w.heap.size,3,none⟩=some vf∧u.cell? ⟨w.heap.size,4,none⟩=some vg∧u.cell? ⟨w.heap.size,5,none⟩=some vh∧u.cell? ⟨w.heap.size,6,none⟩=some (.int .i64 r)∧u.cell? ⟨w.heap.size,7,none⟩=some (.int .i64 z) from fun u hu=>by
  refine ⟨?_,?_,?_,?_,?_,?_,?_,?_⟩<;>(rw [bl_cell hu _ _ lt0,hW];simp [go_sem]))
 have HNN:=hideP hN;have HD:=hideP (dim_le4 m1 hm4);have HXR:=hideP (show Rq 1 cI w (.slice px m cx) (linJ m fun i=>X.getD i 0) from by rw [←linJ_of (n:=m) 0 X lX];exact hX);have WH:=hideP (whole9F_call m m pr N cr Ro W (hR.later b0) HD.out hN lR);have HW:=hideP hW;clear hW hX hR lX lR hN
 go_enter Tryz.func14,Tryz.ntmps14;go_wp2_with fail
 rw [←HW.out];refine WH.out.mono ?_;rintro e w3 ⟨p3,c3',rfl,hx,h3⟩;obtain ⟨W3,hW3⟩:∃ W3,W3=w3.alloc (.cells #[.int .i64 m,.int .i64 m,.slice p3 N c3'] 30):=⟨_,rfl⟩;have b3':Bl w3 W3:=by rw [hW3];exact (Bl.refl _).alloc _
 have k3:MBox W3 w3.heap.size m m p3 N c3':=by rw [hW3];exact MBox.new w3 _ _ _ _ _ _
 have HX3:=hideP (Mx.later hx b3');have b3:Bl W W3:=h3.trans b3';have B3:Bl w W3:=b0.trans b3;have HW3:=hideP hW3;clear hW3 hx WH;go_wp2_with fail
 rw [←HW3.out]
 refine (wpIn_wide (n:=8)).1 (region_q fm [some 18,some 19,some 20,some 21,some 22,some 17,some 23,some 24,some 5,none,some 6] (fun j=>j==7||j==10) 9 (by kernel_rfl) (by rfl)
   (fun j v u=>match j with|0=>v=.pointer (some ⟨w.heap.size,1,none⟩)|1=>v=.slice px m cx|2=>∃ q c,v=.slice q m c∧Rw 3 cellsF u (.slice q m c) (linJ m (fun i=>wholeF (X.getD i 0)))|3=>v=mV m m p3 N c3'|4=>∃ q c p' c',v=.tuple #[sJ q (m) c (m:Nat) (m:Nat) p' (N) c',.bool true]∧Rw 3 cellsF u (.slice q (m) c) (linJ (m) (fun i=>wholeF (X.getD i 0)))∧Mx 3 cellsF u (m) (m) p' (N) c' (squareJ kdF m (fun i k=>wholeF (ofL m Ro i k)))|5=>∃ q c p' c',v=.tuple #[sJ q (m) c (m:Nat) (m:Nat) p' (N) c',.bool true]∧Rw 3 cellsF u (.slice q (m) c) (linJ (m) (fun i=>wholeF (X.getD i 0)))∧Mx 3 cellsF u (m) (m) p' (N) c' (squareJ kdF m (fun i k=>wholeF (ofL m Ro i k)))|6=>∃ q c p' c',v=sJ q (m) c (m:Nat) (m:Nat) p' (N) c'∧Rw 3 cellsF u (.slice q (m) c) (linJ (m) (fun i=>wholeF (X.getD i 0)))∧Mx 3 cellsF u (m) (m) p' (N) c' (squareJ kdF m (fun i k=>wholeF (ofL m Ro i k)))|7=>v=.bool true|8=>∃ b,v=.pointer (some ⟨b,0,none⟩)∧W3.heap.size≤b∧SBox u b none 0 0 0 0 none 0 0∧NoB u b|10=>v=.bool true|_=>False)
   (by
    intro j v u u' hb h;split at h<;>first|exact h|(obtain ⟨b,e,h1,h2,h3⟩:=h;exact ⟨b,e,h1,h2.later hb,h3.later hb h2.lt⟩)|(obtain ⟨q,c,p',c',e,h1,h2⟩:=h;exact ⟨q,c,p',c',e,h1.later hb,Mx.later h2 hb⟩)|(obtain ⟨q,c,e,h1⟩:=h;exact ⟨q,c,e,h1.later hb⟩)|(obtain ⟨g,e,h1⟩:=h;exact ⟨g,e,h1.later hb⟩)) (fun vs u0 u=>∃ b q c p' c',vs 8=.pointer (some ⟨b,0,none⟩)∧W3.heap.size≤b∧SBox u b q (m) c (m:Nat) (m:Nat) p' (N) c'∧Rw 3 cellsF u (.slice q (m) c) (linJ (m) (fun i=>wholeF (X.getD i 0)))∧Mx 3 cellsF u (m) (m) p' (N) c' (squareJ kdF m (fun i k=>wholeF (ofL m Ro i k)))∧Bl W3 u) ?step ?still ?store ?fin)
 case step =>
  intro j o t act u ho hdt hpu hsz hu hfr hin;have hj:j<11:=l9 ho;obtain ⟨c0,c1,c2,c3,c4,c5,c6,c7⟩:=HC.out _ (b3.trans hu);obtain ⟨y0,y1,y2,_,_,_,_⟩:=k3.later hu;rcases (by omega:j=0∨j=1∨j=2∨j=3∨j=4∨j=5∨j=6∨j=7∨j=8∨j=9∨j=10) with rfl|rfl|rfl|rfl|rfl|rfl|rfl|rfl|rfl|rfl|rfl
  ·obtain ⟨rfl,rfl⟩:=o7 ho hdt;have i1:_=Value.pointer (some ⟨w.heap.size,0,none⟩):=hfr 1 (by decide);exact pl9 (r:=by simp only [seval,i1];simp [go_sem,c1])
  ·obtain ⟨rfl,rfl⟩:=o7 ho hdt;have i18:_=Value.pointer (some ⟨w.heap.size,1,none⟩):=hin ⟨0,.data⟩ (by simp) rfl 18 rfl;exact pl9 (r:=by simp only [seval,i18];simp [go_sem,c1])
  ·obtain ⟨rfl,rfl⟩:=o7 ho hdt;have i19:_=Value.slice px m cx:=hin ⟨1,.data⟩ (by simp) rfl 19 rfl;refine ew9 16 #[.slice px m cx] (by simp only [seval,i19];simp [invoke,egW,Result.andThen,go_sem]) (whole_linF px m cx (fun i=>X.getD i 0) u (HXR.out.later (B3.trans hu)) (by omega)) ?_;rintro e w' ⟨q,c,rfl,hR,hb⟩;exact ⟨_,rfl,_,rfl,⟨q,c,rfl,hR⟩,hb⟩
  ·obtain ⟨rfl,rfl⟩:=o7 ho hdt;have i3:_=Value.pointer (some ⟨w3.heap.size,0,none⟩):=hfr 3 (by decide);exact pl9 (r:=by simp only [seval,i3];simp [go_sem,y0,y1,y2])
  ·obtain ⟨rfl,rfl⟩:=o7 ho hdt;have i20:∃ q c,(act.eval (.tmp (20:Nat)))=.slice q m c∧Rw 3 cellsF u (.slice q m c) (linJ m (fun i=>wholeF (X.getD i 0))):=hin ⟨2,.data⟩ (by simp) rfl 20 rfl;have i21:_=mV m m p3 N c3':=hin ⟨3,.data⟩ (by simp) rfl 21 rfl;obtain ⟨q0,cc0,e0,hq⟩:=i20;refine ew9 26 #[.slice q0 m cc0,mV m m p3 N c3'] (by simp only [seval,e0,i21];simp [invoke,egN,Result.andThen,go_sem]) (jNewF m q0 cc0 (fun i=>wholeF (X.getD i 0)) p3 N c3' (fun i k=>wholeF (ofL m Ro i k)) u hq.q (HX3.out.later hu) hm4) ?_;rintro e w' ⟨q,c,p',c',rfl,⟨hR,hM⟩,hb⟩;exact ⟨_,rfl,_,rfl,⟨q,c,p',c',rfl,hR,hM⟩,hb⟩
  ·obtain ⟨rfl,rfl⟩:=o7 ho hdt;have i22:∃ q c p' c',(act.eval (.tmp (22:Nat)))=.tuple #[sJ q (m) c (m:Nat) (m:Nat) p' (N) c',.bool true]∧Rw 3 cellsF u (.slice q (m) c) (linJ (m) (fun i=>wholeF (X.getD i 0)))∧Mx 3 cellsF u (m) (m) p' (N) c' (squareJ kdF m (fun i k=>wholeF (ofL m Ro i k))):=hin ⟨4,.data⟩ (by simp) rfl 22 rfl;obtain ⟨q0,c0',p0,c0,e1,hq1,hq2⟩:=i22;exact pw9 (by simp only [execOp,e1];simp [go_sem]) ⟨_,rfl,⟨q0,c0',p0,c0,rfl,hq1,hq2⟩,Bl.refl _⟩
  ·obtain ⟨rfl,rfl⟩:=o7 ho hdt;have i17:∃ q c p' c',(act.eval (.tmp (17:Nat)))=.tuple #[sJ q (m) c (m:Nat) (m:Nat) p' (N) c',.bool true]∧Rw 3 cellsF u (.slice q (m) c) (linJ (m) (fun i=>wholeF (X.getD i 0)))∧Mx 3 cellsF u (m) (m) p' (N) c' (squareJ kdF m (fun i k=>wholeF (ofL m Ro i k))):=hin ⟨5,.data⟩ (by simp) rfl 17 rfl;obtain ⟨q0,c0',p0,c0,e1,hq1,hq2⟩:=i17;exact pw9 (by simp only [execOp,e1];simp [go_sem]) ⟨_,rfl,⟨q0,c0',p0,c0,rfl,hq1,hq2⟩,Bl.refl _⟩
  ·cases hpu
  ·obtain ⟨rfl,rfl⟩:=o7 ho hdt;exact pw9 (w':=u.alloc (.cells #[.slice none 0 0,.int .i64 0,.int .i64 0,.slice none 0 0] 36)) (v:=.pointer (some ⟨u.heap.size,0,none⟩)) (by simp only [execOp];simp [go_sem]) ⟨_,rfl,⟨u.heap.size,rfl,hu.size,SBox.new u _ _ _ _ _ _ _ _ _,noB_newSF u _⟩,(Bl.refl _).alloc _⟩
  ·obtain rfl:=o9 ho;cases hdt
  ·cases hpu
 case still =>
  intro j o t act u0 u ho hdt hpu hsz hu hfr hin;have hj:j<11:=l9 ho;obtain ⟨c0,c1,c2,c3,c4,c5,c6,c7⟩:=HC.out _ (b3.trans hu);obtain ⟨y0,y1,y2,_,_,_,_⟩:=k3.later hu;rcases (by omega:j=0∨j=1∨j=2∨j=3∨j=4∨j=5∨j=6∨j=7∨j=8∨j=9∨j=10) with rfl|rfl|rfl|rfl|rfl|rfl|rfl|rfl|rfl|rfl|rfl
  ·cases hpu
  ·cases hpu
  ·cases hpu
  ·cases hpu
  ·cases hpu
  ·cases hpu
  ·cases hpu
  ·obtain ⟨rfl,rfl⟩:=o7 ho hdt;have i17:∃ q c p' c',(act.eval (.tmp (17:Nat)))=.tuple #[sJ q (m) c (m:Nat) (m:Nat) p' (N) c',.bool true]∧Rw 3 cellsF u0 (.slice q (m) c) (linJ (m) (fun i=>wholeF (X.getD i 0)))∧Mx 3 cellsF u0 (m) (m) p' (N) c' (squareJ kdF m (fun i k=>wholeF (ofL m Ro i k))):=hin ⟨5,.data⟩ (by simp) rfl 17 rfl;obtain ⟨q0,c0',p0,c0,e1,hq1,hq2⟩:=i17;exact pw9 (by simp only [execOp,e1];simp [go_sem]) ⟨_,rfl,rfl,rfl⟩
  ·cases hpu
  ·cases hpu
  ·obtain ⟨rfl,rfl⟩:=o7 ho hdt;have i24:_=Value.bool true:=hin ⟨7,.data⟩ (by simp) rfl 24 rfl;exact pw9 (by simp only [seval,i24];simp [go_sem]) ⟨_,rfl,rfl,rfl⟩
 case store =>
  intro o act u vs ho hsz hu hfr hin;obtain rfl:=o9 ho;obtain ⟨i5,k5⟩:act.eval (.tmp (5:Nat))=vs 8∧(∃ b,(vs 8)=.pointer (some ⟨b,0,none⟩)∧W3.heap.size≤b∧SBox u b none 0 0 0 0 none 0 0∧NoB u b):=hin 8 5 rfl rfl;obtain ⟨i23,k23⟩:act.eval (.tmp (23:Nat))=vs 6∧(∃ q c p' c',(vs 6)=sJ q (m) c (m:Nat) (m:Nat) p' (N) c'∧Rw 3 cellsF u (.slice q (m) c) (linJ (m) (fun i=>wholeF (X.getD i 0)))∧Mx 3 cellsF u (m) (m) p' (N) c' (squareJ kdF m (fun i k=>wholeF (ofL m Ro i k)))):=hin 6 23 rfl rfl;obtain ⟨b,e1,hb,bx,nb⟩:=k5;obtain ⟨q0,c0',p0,c0,e2,hq1,hq2⟩:=k23;rw [e1] at i5;rw [e2] at i23;obtain ⟨d0,d1,d2,d3,g0,g1,g2,g3,ltb⟩:=id bx;exact sw9 (by simp only [execOp,i5,i23];simp [go_sem,d0,d1,d2,d3,g0,g1,g2,g3]) ⟨rfl,b,q0,c0',p0,c0,e1,hb,bx.fill _ _ _ _ _ _ _ _,hq1.but (but4F _ _ _ _ _ _) (fun g hg=>noB_rwF hq1 (m1) nb g hg),Mx.but hq2 (but4F _ _ _ _ _ _) (fun g hg=>Ne.symm (noB_mx boolF hq2 nb g hg)),Bl.put4 hu hb _ _ _ _⟩
 case fin =>
  intro vs vb u0 u hu hin hps;have a0:=hin 0 18 rfl;have a1:=hin 1 19 rfl;have a2:=hin 2 20 rfl;have a3:=hin 3 21 rfl;have a4:=hin 4 22 rfl;have a5:=hin 5 17 rfl;have a6:=hin 6 23 rfl;have a7:=hin 7 24 rfl;have a8:=hin 8 5 rfl;have a10:=hin 10 6 rfl;simp only [seval] at a0 a1 a2 a3 a4 a5 a6 a7 a8 a10 ⊢;rw [if_pos (by decide)] at hps;simp only [a0,a1,a3,a7,a10];obtain ⟨b,q9,cq9,p9,c9,eb,hb,k9,hR,hM,hbu⟩:=hps;simp only [eb];obtain ⟨w9,rfl⟩:∃ w9,w9=u:=⟨_,rfl⟩;have NB:=nb0.later (b3.trans hbu) z0.lt;have KZ:=z0.later (b3.trans hbu);have HR9:=hideP (hR.but (but4F _ (w.heap.size+1) (.slice q9 m cq9) (.int .i64 m) (.int .i64 m) (.slice p9 N c9)) (fun g hg=>noB_rwF hR m1 NB g hg));have HM9:=hideP (Mx.but hM (but4F _ (w.heap.size+1) (.slice q9 m cq9) (.int .i64 m) (.int .i64 m) (.slice p9 N c9)) (fun g hg=>Ne.symm (noB_mx boolF hM NB g hg)));have B9:=B3.trans hbu;obtain ⟨s0,s1,s2,s3,_,_,_,_,_⟩:=id k9;obtain ⟨d0,d1,d2,d3,g0,g1,g2,g3,ltd⟩:=KZ;clear a2 a4 a5 a6 a8 hu hin hR hM;go_wp2;simp [bodyPost,results,Tryz.results14,go_sem,d0,d1,d2,d3];exact ⟨q9,cq9,p9,c9,by simp,⟨HR9.out,HM9.out⟩,Bl.put4 B9 (Nat.le_succ _) _ _ _ _⟩
set_option maxRecDepth 100000 in
set_option maxHeartbeats 4000000 in
theorem within9_any (n:Nat) (pa pb:Option Addr) (ca cb:Nat) (xs:List En) (ys:List Fr) (w:World) (ha:Rq 4 cellsN w (.slice pa n ca) xs) (hb:Rq 3 cellsF w (.slice pb n cb) ys) (la:xs.length=n) (lb:ys.length=n) (hn:n≤1000)
  (hw:∀ (k:Nat) (x:En) (y:Fr),xs[k]?=some x→ys[k]?=some y→With9 x y):Calls Tryz.prog 19 #[.slice pa n ca,.slice pb n cb] w fun e w'=>e=.returned (.bool true)∧Bl w w':=by
 have fm:Tryz.prog.follows .mixedOrders=true:=by kernel_rfl
 by_cases h0:n=0
 ·subst h0
  go_enter Tryz.func19,Tryz.ntmps19;go_wp2_with fail
  go_loopw [14] (fun v wr=>v=.int .i64 0∧wr=w) (fun v _=>0)
  case atStart=>exact ⟨rfl,rfl⟩
  case round =>
   obtain ⟨rfl,rfl⟩:=hrel;go_wp2;go_ret;exact ⟨rfl,Bl.refl _⟩
 obtain ⟨ga,oa,rfl,CA⟩:=rq_get9 ha (by intro e;rw [e] at la;simp at la;omega);obtain ⟨gb,ob,rfl,CB⟩:=rq_get9 hb (by intro e;rw [e] at lb;simp at lb;omega);have HA:=hideP CA;have HB:=hideP CB;have HW:=hideP hw;have HLA:=hideP la;have HLB:=hideP lb;clear CA CB hw la lb ha hb
 go_enter Tryz.func19,Tryz.ntmps19;go_wp2_with fail
 go_loopw [14] (fun v wr=>∃ k:Nat,v=.int .i64 k∧k≤n∧Bl w wr) (fun v _=>n-(intOf v).toNat)
 case atStart=>exact ⟨0,rfl,Nat.zero_le _,Bl.refl _⟩
 case round =>
  obtain ⟨k,rfl,hk,bl⟩:=hrel;by_cases hlt:k<n
  ·obtain ⟨x,hx⟩:∃ x,xs[k]?=some x:=⟨_,List.getElem?_eq_getElem (by rw [HLA.out];exact hlt)⟩;obtain ⟨y,hy⟩:∃ y,ys[k]?=some y:=⟨_,List.getElem?_eq_getElem (by rw [HLB.out];exact hlt)⟩;have WI:=HW.out k x y hx hy;have CX:=fun u hu=>HA.out u hu k x hx
   have CY:=HB.out wr bl k y hy;obtain ⟨W1,hW1⟩:∃ W1,W1=wr.alloc (.cells #[.int .i64 y.n,.int .i64 y.d,.bool y.bad] 34):=⟨_,rfl⟩;have b1:Bl wr W1:=by rw [hW1];exact (Bl.refl _).alloc _
   have k1:FBox W1 wr.heap.size y:=by rw [hW1];exact FBox.new wr y _
   have y0:wr.cell? ⟨gb,ob+k*3,none⟩=some (.int .i64 y.n):=by simpa using CY 0 _ rfl
   have y1:wr.cell? ⟨gb,ob+k*3+1,none⟩=some (.int .i64 y.d):=by simpa using CY 1 _ rfl
   have y2:wr.cell? ⟨gb,ob+k*3+2,none⟩=some (.bool y.bad):=by simpa using CY 2 _ rfl
   have HW1:=hideP hW1;clear hW1 hx hy CY;go_wp2_with fail
   rw [←HW1.out];clear y0 y1 y2;have ENC:=hideP (fun z:Wl W1=>encl_any x y.n y.d z.w);have x0:∀ z:Wl W1,z.w.cell? ⟨ga,oa+k*4,none⟩=some (.int .i64 x.v):=fun z=>by simpa using CX z.w ((bl.trans b1).trans z.bl) 0 _ rfl
   have x1:∀ z:Wl W1,z.w.cell? ⟨ga,oa+k*4+1,none⟩=some (.int .i64 x.l):=fun z=>by simpa using CX z.w ((bl.trans b1).trans z.bl) 1 _ rfl
   have x2:∀ z:Wl W1,z.w.cell? ⟨ga,oa+k*4+2,none⟩=some (.int .i64 x.h):=fun z=>by simpa using CX z.w ((bl.trans b1).trans z.bl) 2 _ rfl
   have x3:∀ z:Wl W1,z.w.cell? ⟨ga,oa+k*4+3,none⟩=some (.bool x.bad):=fun z=>by simpa using CX z.w ((bl.trans b1).trans z.bl) 3 _ rfl
   have z0:=fun z:Wl W1=>(k1.later z.bl).c0
   have z1:=fun z:Wl W1=>(k1.later z.bl).c1
   have z2:=fun z:Wl W1=>(k1.later z.bl).c2
   have wne:=wl_ne W1;clear CX;obtain ⟨xv,xl,xh,xb⟩:=x;obtain ⟨yn,yd,yb⟩:=y;dsimp only at x0 x1 x2 x3 z0 z1 z2;cases yb
   ·cases xb
    ·have WE:enclB ⟨xv,xl,xh,false⟩ yn yd=true:=WI rfl rfl;rw [WE] at ENC;clear WI WE;refine wl_region W1 (Bl.refl _) (by kernel_rfl) (by kernel_rfl) ?_
     repeat (go_big_quiet_step (first|(go_at_call 39;exact wl_call (ENC.out _))))
     refine wpQuiet_nil ?_;intro _ hw';obtain ⟨z,hw''⟩:=hw';subst hw'';clear wne x0 x1 x2 x3 z0 z1 z2;obtain ⟨wz,hz⟩:=z;dsimp only;go_wp2;go_roundw
     case rel=>exact ⟨k+1,by simp,hlt,(bl.trans b1).trans hz⟩
     case measure=>simp [intOf];omega
    ·clear WI ENC;refine wl_region W1 (Bl.refl _) (by kernel_rfl) (by kernel_rfl) ?_
     repeat (go_big_quiet_step (first|(go_at_call 39;exact wl_call (ENC.out _))))
     refine wpQuiet_nil ?_;intro _ hw';obtain ⟨z,hw''⟩:=hw';subst hw'';clear wne x0 x1 x2 x3 z0 z1 z2;obtain ⟨wz,hz⟩:=z;dsimp only;go_wp2;go_roundw
     case rel=>exact ⟨k+1,by simp,hlt,(bl.trans b1).trans hz⟩
     case measure=>simp [intOf];omega
   ·clear WI ENC;refine wl_region W1 (Bl.refl _) (by kernel_rfl) (by kernel_rfl) ?_
    repeat (go_big_quiet_step (first|(go_at_call 39;exact wl_call (ENC.out _))))
    refine wpQuiet_nil ?_;intro _ hw';obtain ⟨z,hw''⟩:=hw';subst hw'';clear wne x0 x1 x2 x3 z0 z1 z2;obtain ⟨wz,hz⟩:=z;dsimp only;go_wp2;go_roundw
    case rel=>exact ⟨k+1,by simp,hlt,(bl.trans b1).trans hz⟩
    case measure=>simp [intOf];omega
  ·obtain rfl:k=n:=by omega
   go_wp2;go_ret;exact ⟨rfl,bl⟩
theorem rq_two9F (w:World) (x y:Fr) (t:TypeId):Rq 3 cellsF (w.alloc (.cells #[.int .i64 x.n,.int .i64 x.d,.bool x.bad,.int .i64 y.n,.int .i64 y.d,.bool y.bad] t)) (.slice (some ⟨w.heap.size,0,none⟩) 2 2) [x,y]:=by
 refine .inr ⟨w.heap.size,0,2,rfl,Nat.le_refl _,by simp,fun j v hj k s hs=>?_⟩;rcases j with _|_|j
 ·cases hj;rcases k with _|_|_|k<;>simp [cellsF] at hs<;>subst hs<;>simp [go_sem]
 ·cases hj;rcases k with _|_|_|k<;>simp [cellsF] at hs<;>subst hs<;>simp [go_sem]
 ·simp at hj
theorem rq_two9N (w:World) (x y:En) (t:TypeId):Rq 4 cellsN (w.alloc (.cells #[.int .i64 x.v,.int .i64 x.l,.int .i64 x.h,.bool x.bad,.int .i64 y.v,.int .i64 y.l,.int .i64 y.h,.bool y.bad] t)) (.slice (some ⟨w.heap.size,0,none⟩) 2 2) [x,y]:=by
 refine .inr ⟨w.heap.size,0,2,rfl,Nat.le_refl _,by simp,fun j v hj k s hs=>?_⟩;rcases j with _|_|j
 ·cases hj;rcases k with _|_|_|_|k<;>simp [cellsN] at hs<;>subst hs<;>simp [go_sem]
 ·cases hj;rcases k with _|_|_|_|k<;>simp [cellsN] at hs<;>subst hs<;>simp [go_sem]
 ·simp at hj
theorem Tryz.build2E (x y:En) (u:World):(Instr.buildSlice 46 2 #[(0,enV x),(1,enV y)]).run Tryz.prog u=.ok (.slice (some ⟨u.heap.size,0,none⟩) 2 2) (u.alloc (.cells #[.int .i64 x.v,.int .i64 x.l,.int .i64 x.h,.bool x.bad,.int .i64 y.v,.int .i64 y.l,.int .i64 y.h,.bool y.bad] 52)):=by kernel_rfl
theorem Tryz.build2F (x y:Fr) (u:World):(Instr.buildSlice 28 2 #[(0,frV x),(1,frV y)]).run Tryz.prog u=.ok (.slice (some ⟨u.heap.size,0,none⟩) 2 2) (u.alloc (.cells #[.int .i64 x.n,.int .i64 x.d,.bool x.bad,.int .i64 y.n,.int .i64 y.d,.bool y.bad] 34)):=by kernel_rfl
theorem Tryz.field2M (r c:Int) (p:Option Addr) (n cap:Nat) (u:World):(Instr.field 48 (mV r c p n cap) 2).run Tryz.prog u=.ok (.slice p n cap) u:=by kernel_rfl
theorem enc10_case {m:Nat} {X Ro Fm Gm H:List Int} {r z:Int} (fw:FewJ m X Ro Fm Gm H r z):Enc10 m X (mk m m (clrI (ofL m Ro))) Fm Gm H r z:=by
 have ho:=ofL_sml fw.ro fw.sro;refine enc10 fw.m1 fw.m3 (fun i k hik hk=>?_) (fun i k hi hk=>?_) (ofL_sml fw.f fw.sf) (ofL_sml fw.g fw.sg) (fun k hk=>?_) fw.r1 fw.r5
 ·rw [ofL_mk7 _ (by omega) hk];unfold clrI;rw [if_neg (by omega)]
 ·rw [ofL_mk7 _ hi hk];have:=ho i k hi hk;unfold clrI;split<;>omega
 ·have hh:k<H.length:=by rw [fw.h];exact hk
  rw [List.getD_eq_getElem?_getD,List.getElem?_eq_getElem hh];exact fw.sh _ (List.getElem_mem hh)
set_option maxRecDepth 100000 in
set_option maxHeartbeats 16000000 in
theorem walk_RootEncloses (n r z:Int) (vx vr vf vg vh:Value) (X Ro Fm Gm H:List Int) (w:World) (hX:Rq 1 cI w vx X) (hR:Rq 1 cI w vr Ro) (hF:Rq 1 cI w vf Fm) (hG:Rq 1 cI w vg Gm) (hH:Rq 1 cI w vh H) :
  Calls Tryz.prog 3 #[.agg #[.int .i64 n,vx,vr,vf,vg,vh,.int .i64 r,.int .i64 z]] w fun e w'=>e=.returned (.bool true)∧Bl w w':=by
 have fm:Tryz.prog.follows .mixedOrders=true:=by kernel_rfl
 have egQ:=enters_of Tryz.func17 (by kernel_rfl) rfl;have egS:=enters_of Tryz.func14 (by kernel_rfl) rfl;have egWF:=enters_of Tryz.func16 (by kernel_rfl) rfl;have egUF:=enters_of Tryz.func15 (by kernel_rfl) rfl;have egD:=enters_of Tryz.func13 (by kernel_rfl) rfl;have egWi:=enters_of Tryz.func19 (by kernel_rfl) rfl;have egC:=enters_of Tryz.func20 (by kernel_rfl) rfl;have egAw:=enters_of Tryz.func10 (by kernel_rfl) rfl;have AW:=hideP awake10_any;obtain ⟨px,cx,rfl,_,_⟩:=hX.cut;obtain ⟨pr,cr,rfl,_,_⟩:=hR.cut;obtain ⟨pf,cf,rfl,_,_⟩:=hF.cut;obtain ⟨pg,cg,rfl,_,_⟩:=hG.cut;obtain ⟨ph,ch,rfl,_,_⟩:=hH.cut;obtain ⟨lx,hlx⟩:∃ l,l=X.length:=⟨_,rfl⟩;obtain ⟨lr,hlr⟩:∃ l,l=Ro.length:=⟨_,rfl⟩;obtain ⟨lf,hlf⟩:∃ l,l=Fm.length:=⟨_,rfl⟩;obtain ⟨lg,hlg⟩:∃ l,l=Gm.length:=⟨_,rfl⟩;obtain ⟨lh,hlh⟩:∃ l,l=H.length:=⟨_,rfl⟩;rw [←hlx] at hX;rw [←hlr] at hR;rw [←hlf] at hF;rw [←hlg] at hG;rw [←hlh] at hH;rw [←hlx,←hlr,←hlf,←hlg,←hlh];obtain ⟨W,hW⟩:∃ W,W=w.alloc (.cells #[.int .i64 n,.slice px lx cx,.slice pr lr cr,.slice pf lf cf,.slice pg lg cg,.slice ph lh ch,.int .i64 r,.int .i64 z] 24):=⟨_,rfl⟩;have b0:Bl w W:=by rw [hW];exact (Bl.refl _).alloc _
 have lt0:w.heap.size<W.heap.size:=by rw [hW];simp
 have HC:=hideP (show ∀ u,Bl W u→u.cell? ⟨w.heap.size,0,none⟩=some (.int .i64 n)∧u.cell? ⟨w.heap.size,1,none⟩=some (.slice px lx cx)∧u.cell? ⟨w.heap.size,2,none⟩=some (.slice pr lr cr)∧u.cell? ⟨w.heap.size,3,none⟩=some (.slice pf lf cf)∧u.cell? ⟨w.heap.size,4,none⟩=some (.slice pg lg cg)∧u.cell? ⟨w.heap.size,5,none⟩=some (.slice ph lh ch)∧u.cell? ⟨w.heap.size,6,none⟩=some (.int .i64 r)∧u.cell? ⟨w.heap.size,7,none⟩=some (.int .i64 z) from fun u hu=>by
  refine ⟨?_,?_,?_,?_,?_,?_,?_,?_⟩<;>(rw [bl_cell hu _ _ lt0,hW];simp [go_sem]))
 have FE:=hideP (few9_any n r z px pr pf pg ph lx cx lr cr lf cf lg cg lh ch X Ro Fm Gm H W (hX.later b0) (hR.later b0) (hF.later b0) (hG.later b0) (hH.later b0) hlx.symm hlr.symm hlf.symm hlg.symm hlh.symm);have HW:=hideP hW;have HXR0:=hideP hX;have HHR0:=hideP hH;have HRR:=hideP hR;have HFR:=hideP hF;have HGR:=hideP hG;have hlx':=hideP hlx.symm;have hlr':=hideP hlr.symm;have hlf':=hideP hlf.symm;have hlg':=hideP hlg.symm;have hlh':=hideP hlh.symm;clear hW hX hR hF hG hH hlx hlr hlf hlg hlh
 go_enter Tryz.func3,Tryz.ntmps3;go_wp2_with fail
 rw [←HW.out];refine FE.out.mono ?_;rintro e w1 ⟨b1,rfl,hb1,h1⟩;clear FE;cases b1 with
 |false =>
  go_wp2_with fail
  refine (AW.out _).mono ?_;rintro e w99 ⟨rfl,h99⟩;go_wp2;go_ret;exact ⟨rfl,(b0.trans h1).trans h99⟩
 |true =>
  obtain ⟨m,rfl,fw⟩:=hb1 rfl;clear hb1;obtain ⟨N,hN⟩:∃ N,N=m*m:=⟨_,rfl⟩;obtain rfl:lx=m:=by rw [←hlx'.out];exact fw.x
  obtain ⟨m,rfl⟩:∃ m,m=lx:=⟨_,rfl⟩;obtain rfl:lh=m:=by rw [←hlh'.out];exact fw.h
  obtain ⟨m,rfl⟩:∃ m,m=lh:=⟨_,rfl⟩;obtain rfl:lr=N:=by rw [←hlr'.out,hN];exact fw.ro
  obtain ⟨N,rfl⟩:∃ N,N=lr:=⟨_,rfl⟩;obtain rfl:lf=N:=by rw [←hlf'.out,hN];exact fw.f
  obtain ⟨N,rfl⟩:∃ N,N=lf:=⟨_,rfl⟩;obtain rfl:lg=N:=by rw [←hlg'.out,hN];exact fw.g
  obtain ⟨N,rfl⟩:∃ N,N=lg:=⟨_,rfl⟩;have m1:=fw.m1;have m3:=fw.m3;have hm4:m≤4:=by omega
  have hN9:N≤9:=by rw [hN];exact Nat.mul_le_mul m3 m3
  have mN:m≤N:=by rw [hN];exact Nat.le_mul_of_pos_left m m1
  have HNN:=hideP hN;have HD:=hideP (dim_le4 m1 hm4);have HFW:=hideP fw;have HXR:=hideP (show Rq 1 cI w (.slice px m cx) (linJ m fun i=>X.getD i 0) from by rw [←linJ_of (n:=m) 0 X hlx'.out];exact HXR0.out);have HHR:=hideP (show Rq 1 cI w (.slice ph m ch) (linJ m fun i=>H.getD i 0) from by rw [←linJ_of (n:=m) 0 H hlh'.out];exact HHR0.out);have b1w:Bl W w1:=h1;clear hN fw HHR0;obtain ⟨Rr,hRr⟩:∃ x:Fr,x=newR r 1:=⟨_,rfl⟩;obtain ⟨Zz,hZz⟩:∃ x:Fr,x=newR z 1:=⟨_,rfl⟩;obtain ⟨Re,hRe⟩:∃ x:En,ptE (foN r) (foB r)=x:=⟨_,rfl⟩;obtain ⟨Ze,hZe⟩:∃ x:En,ptE (foN z) (foB z)=x:=⟨_,rfl⟩;obtain ⟨Lo,hLo⟩:∃ l,l=mk m m (clrI (ofL m Ro)):=⟨_,rfl⟩;have HEN:=hideP (by have:=enc10_case HFW.out;rw [←hLo] at this;exact this);have HLO:=hideP (show Lo.length=N from by rw [hLo,mk_len];exact HNN.out.symm);have HRr:=hideP hRr;have HZz:=hideP hZz;have HRe:=hideP hRe;have HZe:=hideP hZe;clear hRr hZz hRe hZe;obtain ⟨c0,c1,c2,c3,c4,c5,c6,c7⟩:=HC.out w1 (b1w);have CLR:=hideP (by have:=ref7Clear_new pr N cr Ro m w1 HD.out (HRR.out.later (b0.trans b1w)) (hlr'.out.trans HNN.out) HNN.out;rw [←HNN.out,←hLo] at this;exact this);clear hLo;go_wp2_with fail
  refine CLR.out.mono ?_;rintro e w2 ⟨pl,cl,rfl,hl,hfr,h2⟩;clear c0 c1 c2 c3 c4 c5 c6 c7;clear CLR;have b2w:Bl W w2:=b1w.trans h2;obtain ⟨W2,hW2⟩:∃ W2,W2=w2.setCell ⟨w.heap.size,2,none⟩ (.slice pl N cl):=⟨_,rfl⟩;have bw2:Bl w W2:=by rw [hW2];exact Bl.set (b0.trans b2w) (Nat.le_refl _) _
  have lt1:w.heap.size<w1.heap.size:=Nat.lt_of_lt_of_le lt0 (Below.size b1w);have lt2:w.heap.size<W2.heap.size:=by rw [hW2];have:=Below.size h2;simp;omega
  have HL2:Rw 1 cellsI W2 (.slice pl N cl) Lo:=by rw [hW2];exact hl.set _ (fun g hg=>by have:=hfr g hg;simp;omega)
  have HLR:=hideP (show Rq 1 cI W2 (.slice pl N cl) Lo from HL2.q);obtain ⟨d0,d1,d2,d3,d4,d5,d6,d7⟩:=HC.out w2 b2w;have HC2:=hideP (show ∀ u,Bl W2 u→u.cell? ⟨w.heap.size,0,none⟩=some (.int .i64 m)∧u.cell? ⟨w.heap.size,1,none⟩=some (.slice px m cx)∧u.cell? ⟨w.heap.size,2,none⟩=some (.slice pl N cl)∧u.cell? ⟨w.heap.size,3,none⟩=some (.slice pf N cf)∧u.cell? ⟨w.heap.size,4,none⟩=some (.slice pg N cg)∧u.cell? ⟨w.heap.size,5,none⟩=some (.slice ph m ch)∧u.cell? ⟨w.heap.size,6,none⟩=some (.int .i64 r)∧u.cell? ⟨w.heap.size,7,none⟩=some (.int .i64 z) from fun u hu=>by
    refine ⟨?_,?_,?_,?_,?_,?_,?_,?_⟩<;>(rw [bl_cell hu _ _ lt2,hW2];simp [go_sem, *]))
  clear HC;have HC:=HC2;have z2:w2.frozen? ⟨w.heap.size,2,none⟩=false:=by rw [bl_froz b2w _ _ lt0,HW.out];simp [go_sem]
  clear HC2 HL2 hl hfr;have HW2:=hideP hW2;clear hW2;go_wp2_with fail
  clear d0 d1 d2 d3 d4 d5 d6 d7 z2;rw [←HW2.out];obtain ⟨c0,c1,c2,c3,c4,c5,c6,c7⟩:=HC.out W2 (Bl.refl W2);have WH:=hideP (whole9F_call m m pf N cf Fm W2 (HFR.out.later (bw2)) HD.out HNN.out hlf'.out);go_wp2_with fail
  refine WH.out.mono ?_;rintro e w3 ⟨p3,c3',rfl,hx,h3⟩;obtain ⟨W3,hW3⟩:∃ W3,W3=w3.alloc (.cells #[.int .i64 m,.int .i64 m,.slice p3 N c3'] 30):=⟨_,rfl⟩;have b3:Bl w3 W3:=by rw [hW3];exact (Bl.refl _).alloc _
  have k3:MBox W3 w3.heap.size m m p3 N c3':=by rw [hW3];exact MBox.new w3 _ _ _ _ _ _
  have HX3:=hideP (Mx.later hx b3);have b3p:Bl W2 W3:=h3.trans b3;have HW3:=hideP hW3;clear hW3 hx WH c0 c1 c2 c3 c4 c5 c6 c7;obtain ⟨c0,c1,c2,c3,c4,c5,c6,c7⟩:=HC.out W3 (b3p);rw [HW3.out] at c0 c1 c2 c3 c4 c5 c6 c7;have WH:=hideP (whole9F_call m m pg N cg Gm W3 (HGR.out.later (bw2.trans b3p)) HD.out HNN.out hlg'.out);go_wp2_with fail
  rw [←HW3.out];refine WH.out.mono ?_;rintro e w4 ⟨p4,c4',rfl,hx,h4⟩;obtain ⟨W4,hW4⟩:∃ W4,W4=w4.alloc (.cells #[.int .i64 m,.int .i64 m,.slice p4 N c4'] 30):=⟨_,rfl⟩;have b4:Bl w4 W4:=by rw [hW4];exact (Bl.refl _).alloc _
  have k4:MBox W4 w4.heap.size m m p4 N c4':=by rw [hW4];exact MBox.new w4 _ _ _ _ _ _
  have HX4:=hideP (Mx.later hx b4);have b4p:Bl W3 W4:=h4.trans b4;have HW4:=hideP hW4;clear hW4 hx WH c0 c1 c2 c3 c4 c5 c6 c7;have b4w:Bl W2 W4:=b3p.trans b4p;have B4:Bl w W4:=bw2.trans b4w;obtain ⟨c0,c1,c2,c3,c4,c5,c6,c7⟩:=HC.out W4 (b4w);rw [HW4.out] at c0 c1 c2 c3 c4 c5 c6 c7;go_wp2_with fail
  rw [←HW4.out];clear c0 c1 c2 c3 c4 c5 c6 c7
  refine (wpIn_wide (n:=8)).1 (region_q fm [some 46,some 47,some 48,some 49,some 50,some 45,some 51,some 52,some 7,none,some 8] (fun j=>j==7||j==10) 9 (by kernel_rfl) (by rfl)
     (fun j v u=>match j with|0=>v=.agg #[.int .i64 m,.slice px m cx,.slice pl N cl,.slice pf N cf,.slice pg N cg,.slice ph m ch,.int .i64 r,.int .i64 z]|1=>∃ q c p' c',v=sJ q m c m m p' N c'∧Rw 3 cellsF u (.slice q m c) (linJ m (fun i=>wholeF (X.getD i 0)))∧Mx 3 cellsF u m m p' N c' (squareJ kdF m (fun i k=>wholeF (ofL m Lo i k)))|2=>v=mV m m p3 N c3'|3=>v=mV m m p4 N c4'|4=>∃ q c p' c',v=.tuple #[sJ q (m) c (m:Nat) (m:Nat) p' (N) c',.bool true]∧Rw 3 cellsF u (.slice q (m) c) (linJ (m) (appJ kdF m (fun i k=>wholeF (ofL m Fm i k)) (fun i=>wholeF (X.getD i 0))))∧Mx 3 cellsF u (m) (m) p' (N) c' (predJ kdF m (fun i k=>wholeF (ofL m Fm i k)) (squareJ kdF m (fun i k=>wholeF (ofL m Lo i k))) (fun i k=>wholeF (ofL m Gm i k)))|5=>∃ q c p' c',v=.tuple #[sJ q (m) c (m:Nat) (m:Nat) p' (N) c',.bool true]∧Rw 3 cellsF u (.slice q (m) c) (linJ (m) (appJ kdF m (fun i k=>wholeF (ofL m Fm i k)) (fun i=>wholeF (X.getD i 0))))∧Mx 3 cellsF u (m) (m) p' (N) c' (predJ kdF m (fun i k=>wholeF (ofL m Fm i k)) (squareJ kdF m (fun i k=>wholeF (ofL m Lo i k))) (fun i k=>wholeF (ofL m Gm i k)))|6=>∃ q c p' c',v=sJ q (m) c (m:Nat) (m:Nat) p' (N) c'∧Rw 3 cellsF u (.slice q (m) c) (linJ (m) (appJ kdF m (fun i k=>wholeF (ofL m Fm i k)) (fun i=>wholeF (X.getD i 0))))∧Mx 3 cellsF u (m) (m) p' (N) c' (predJ kdF m (fun i k=>wholeF (ofL m Fm i k)) (squareJ kdF m (fun i k=>wholeF (ofL m Lo i k))) (fun i k=>wholeF (ofL m Gm i k)))|7=>v=.bool true|8=>∃ b,v=.pointer (some ⟨b,0,none⟩)∧W4.heap.size≤b∧SBox u b none 0 0 0 0 none 0 0∧NoB u b|10=>v=.bool true|_=>False)
     (by
      intro j v u u' hb h;split at h<;>first|exact h|(obtain ⟨b,e,h1,h2,h3⟩:=h;exact ⟨b,e,h1,h2.later hb,h3.later hb h2.lt⟩)|(obtain ⟨q,c,p',c',e,h1,h2⟩:=h;exact ⟨q,c,p',c',e,h1.later hb,Mx.later h2 hb⟩)|(obtain ⟨q,c,e,h1⟩:=h;exact ⟨q,c,e,h1.later hb⟩)|(obtain ⟨g,e,h1⟩:=h;exact ⟨g,e,h1.later hb⟩)) (fun vs u0 u=>∃ b q c p' c',vs 8=.pointer (some ⟨b,0,none⟩)∧W4.heap.size≤b∧SBox u b q (m) c (m:Nat) (m:Nat) p' (N) c'∧Rw 3 cellsF u (.slice q (m) c) (linJ (m) (appJ kdF m (fun i k=>wholeF (ofL m Fm i k)) (fun i=>wholeF (X.getD i 0))))∧Mx 3 cellsF u (m) (m) p' (N) c' (predJ kdF m (fun i k=>wholeF (ofL m Fm i k)) (squareJ kdF m (fun i k=>wholeF (ofL m Lo i k))) (fun i k=>wholeF (ofL m Gm i k)))∧Bl W4 u) ?step ?still ?store ?fin)
  case step =>
   intro j o t act u ho hdt hpu hsz hu hfr hin;have hj:j<11:=l9 ho;obtain ⟨c0,c1,c2,c3,c4,c5,c6,c7⟩:=HC.out _ (b4w.trans hu);obtain ⟨y0,y1,y2,_,_,_,_⟩:=k3.later (b4p.trans hu);obtain ⟨z0,z1,z2,_,_,_,_⟩:=k4.later hu;rcases (by omega:j=0∨j=1∨j=2∨j=3∨j=4∨j=5∨j=6∨j=7∨j=8∨j=9∨j=10) with rfl|rfl|rfl|rfl|rfl|rfl|rfl|rfl|rfl|rfl|rfl
   ·obtain ⟨rfl,rfl⟩:=o7 ho hdt;have i1:_=Value.pointer (some ⟨w.heap.size,0,none⟩):=hfr 1 (by decide);exact pl9 (r:=by simp only [seval,i1];simp [go_sem,c0,c1,c2,c3,c4,c5,c6,c7])
   ·obtain ⟨rfl,rfl⟩:=o7 ho hdt;have i46:_=Value.agg #[.int .i64 m,.slice px m cx,.slice pl N cl,.slice pf N cf,.slice pg N cg,.slice ph m ch,.int .i64 r,.int .i64 z]:=hin ⟨0,.data⟩ (by simp) rfl 46 rfl;refine ew9 14 #[.agg #[.int .i64 m,.slice px m cx,.slice pl N cl,.slice pf N cf,.slice pg N cg,.slice ph m ch,.int .i64 r,.int .i64 z]] (by simp only [seval,i46];simp [invoke,egS,Result.andThen,go_sem]) (start9_any m N r z px pl cx cl (.slice pf N cf) (.slice pg N cg) (.slice ph m ch) X Lo u rfl rfl rfl (HXR0.out.later (B4.trans hu)) (HLR.out.later (b4w.trans hu)) hlx'.out HLO.out m1 m3 HNN.out) ?_;rintro e w' ⟨q,c,p',c',rfl,⟨hR,hM⟩,hb⟩;exact ⟨_,rfl,_,rfl,⟨q,c,p',c',rfl,hR,hM⟩,hb⟩
   ·obtain ⟨rfl,rfl⟩:=o7 ho hdt;have i3:_=Value.pointer (some ⟨w3.heap.size,0,none⟩):=hfr 3 (by decide);exact pl9 (r:=by simp only [seval,i3];simp [go_sem,y0,y1,y2])
   ·obtain ⟨rfl,rfl⟩:=o7 ho hdt;have i5:_=Value.pointer (some ⟨w4.heap.size,0,none⟩):=hfr 5 (by decide);exact pl9 (r:=by simp only [seval,i5];simp [go_sem,z0,z1,z2])
   ·obtain ⟨rfl,rfl⟩:=o7 ho hdt;have i47:∃ q c p' c',(act.eval (.tmp (47:Nat)))=sJ q m c m m p' N c'∧Rw 3 cellsF u (.slice q m c) (linJ m (fun i=>wholeF (X.getD i 0)))∧Mx 3 cellsF u m m p' N c' (squareJ kdF m (fun i k=>wholeF (ofL m Lo i k))):=hin ⟨1,.data⟩ (by simp) rfl 47 rfl;have i48:_=mV m m p3 N c3':=hin ⟨2,.data⟩ (by simp) rfl 48 rfl;have i49:_=mV m m p4 N c4':=hin ⟨3,.data⟩ (by simp) rfl 49 rfl;obtain ⟨q0,cc0,p0,d0,e0,hR,hM⟩:=i47;refine ew9 13 #[sJ q0 m cc0 m m p0 N d0,mV m m p3 N c3',mV m m p4 N c4'] (by simp only [seval,e0,i48,i49];simp [invoke,egD,Result.andThen,go_sem]) (jPredictF m N q0 cc0 (fun i=>wholeF (X.getD i 0)) p0 d0 (squareJ kdF m (fun i k=>wholeF (ofL m Lo i k))) p3 c3' (fun i k=>wholeF (ofL m Fm i k)) p4 c4' (fun i k=>wholeF (ofL m Gm i k)) u hR.q hM (HX3.out.later (b4p.trans hu)) (HX4.out.later hu) hm4) ?_;rintro e w' ⟨q,c,p',c',rfl,⟨hR,hM⟩,hb⟩;exact ⟨_,rfl,_,rfl,⟨q,c,p',c',rfl,hR,hM⟩,hb⟩
   ·obtain ⟨rfl,rfl⟩:=o7 ho hdt;have i50:∃ q c p' c',(act.eval (.tmp (50:Nat)))=.tuple #[sJ q (m) c (m:Nat) (m:Nat) p' (N) c',.bool true]∧Rw 3 cellsF u (.slice q (m) c) (linJ (m) (appJ kdF m (fun i k=>wholeF (ofL m Fm i k)) (fun i=>wholeF (X.getD i 0))))∧Mx 3 cellsF u (m) (m) p' (N) c' (predJ kdF m (fun i k=>wholeF (ofL m Fm i k)) (squareJ kdF m (fun i k=>wholeF (ofL m Lo i k))) (fun i k=>wholeF (ofL m Gm i k))):=hin ⟨4,.data⟩ (by simp) rfl 50 rfl;obtain ⟨q0,c0',p0,c0,e1,hq1,hq2⟩:=i50;exact pw9 (by simp only [execOp,e1];simp [go_sem]) ⟨_,rfl,⟨q0,c0',p0,c0,rfl,hq1,hq2⟩,Bl.refl _⟩
   ·obtain ⟨rfl,rfl⟩:=o7 ho hdt;have i45:∃ q c p' c',(act.eval (.tmp (45:Nat)))=.tuple #[sJ q (m) c (m:Nat) (m:Nat) p' (N) c',.bool true]∧Rw 3 cellsF u (.slice q (m) c) (linJ (m) (appJ kdF m (fun i k=>wholeF (ofL m Fm i k)) (fun i=>wholeF (X.getD i 0))))∧Mx 3 cellsF u (m) (m) p' (N) c' (predJ kdF m (fun i k=>wholeF (ofL m Fm i k)) (squareJ kdF m (fun i k=>wholeF (ofL m Lo i k))) (fun i k=>wholeF (ofL m Gm i k))):=hin ⟨5,.data⟩ (by simp) rfl 45 rfl;obtain ⟨q0,c0',p0,c0,e1,hq1,hq2⟩:=i45;exact pw9 (by simp only [execOp,e1];simp [go_sem]) ⟨_,rfl,⟨q0,c0',p0,c0,rfl,hq1,hq2⟩,Bl.refl _⟩
   ·cases hpu
   ·obtain ⟨rfl,rfl⟩:=o7 ho hdt;exact pw9 (w':=u.alloc (.cells #[.slice none 0 0,.int .i64 0,.int .i64 0,.slice none 0 0] 36)) (v:=.pointer (some ⟨u.heap.size,0,none⟩)) (by simp only [execOp];simp [go_sem]) ⟨_,rfl,⟨u.heap.size,rfl,hu.size,SBox.new u _ _ _ _ _ _ _ _ _,noB_newSF u _⟩,(Bl.refl _).alloc _⟩
   ·obtain rfl:=o9 ho;cases hdt
   ·cases hpu
  case still =>
   intro j o t act u0 u ho hdt hpu hsz hu hfr hin;have hj:j<11:=l9 ho;obtain ⟨c0,c1,c2,c3,c4,c5,c6,c7⟩:=HC.out _ (b4w.trans hu);obtain ⟨y0,y1,y2,_,_,_,_⟩:=k3.later (b4p.trans hu);obtain ⟨z0,z1,z2,_,_,_,_⟩:=k4.later hu;rcases (by omega:j=0∨j=1∨j=2∨j=3∨j=4∨j=5∨j=6∨j=7∨j=8∨j=9∨j=10) with rfl|rfl|rfl|rfl|rfl|rfl|rfl|rfl|rfl|rfl|rfl
   ·cases hpu
   ·cases hpu
   ·cases hpu
   ·cases hpu
   ·cases hpu
   ·cases hpu
   ·cases hpu
   ·obtain ⟨rfl,rfl⟩:=o7 ho hdt;have i45:∃ q c p' c',(act.eval (.tmp (45:Nat)))=.tuple #[sJ q (m) c (m:Nat) (m:Nat) p' (N) c',.bool true]∧Rw 3 cellsF u0 (.slice q (m) c) (linJ (m) (appJ kdF m (fun i k=>wholeF (ofL m Fm i k)) (fun i=>wholeF (X.getD i 0))))∧Mx 3 cellsF u0 (m) (m) p' (N) c' (predJ kdF m (fun i k=>wholeF (ofL m Fm i k)) (squareJ kdF m (fun i k=>wholeF (ofL m Lo i k))) (fun i k=>wholeF (ofL m Gm i k))):=hin ⟨5,.data⟩ (by simp) rfl 45 rfl;obtain ⟨q0,c0',p0,c0,e1,hq1,hq2⟩:=i45;exact pw9 (by simp only [execOp,e1];simp [go_sem]) ⟨_,rfl,rfl,rfl⟩
   ·cases hpu
   ·cases hpu
   ·obtain ⟨rfl,rfl⟩:=o7 ho hdt;have i52:_=Value.bool true:=hin ⟨7,.data⟩ (by simp) rfl 52 rfl;exact pw9 (by simp only [seval,i52];simp [go_sem]) ⟨_,rfl,rfl,rfl⟩
  case store =>
   intro o act u vs ho hsz hu hfr hin;obtain rfl:=o9 ho;obtain ⟨i7,k7⟩:act.eval (.tmp (7:Nat))=vs 8∧(∃ b,(vs 8)=.pointer (some ⟨b,0,none⟩)∧W4.heap.size≤b∧SBox u b none 0 0 0 0 none 0 0∧NoB u b):=hin 8 7 rfl rfl;obtain ⟨i51,k51⟩:act.eval (.tmp (51:Nat))=vs 6∧(∃ q c p' c',(vs 6)=sJ q (m) c (m:Nat) (m:Nat) p' (N) c'∧Rw 3 cellsF u (.slice q (m) c) (linJ (m) (appJ kdF m (fun i k=>wholeF (ofL m Fm i k)) (fun i=>wholeF (X.getD i 0))))∧Mx 3 cellsF u (m) (m) p' (N) c' (predJ kdF m (fun i k=>wholeF (ofL m Fm i k)) (squareJ kdF m (fun i k=>wholeF (ofL m Lo i k))) (fun i k=>wholeF (ofL m Gm i k)))):=hin 6 51 rfl rfl;obtain ⟨b,e1,hb,bx,nb⟩:=k7;obtain ⟨q0,c0',p0,c0,e2,hq1,hq2⟩:=k51;rw [e1] at i7;rw [e2] at i51;obtain ⟨d0,d1,d2,d3,g0,g1,g2,g3,ltb⟩:=id bx;exact sw9 (by simp only [execOp,i7,i51];simp [go_sem,d0,d1,d2,d3,g0,g1,g2,g3]) ⟨rfl,b,q0,c0',p0,c0,e1,hb,bx.fill _ _ _ _ _ _ _ _,hq1.but (but4F _ _ _ _ _ _) (fun g hg=>noB_rwF hq1 (m1) nb g hg),Mx.but hq2 (but4F _ _ _ _ _ _) (fun g hg=>Ne.symm (noB_mx boolF hq2 nb g hg)),Bl.put4 hu hb _ _ _ _⟩
  case fin =>
   intro vs vb u0 u hu hin hps;have a0:=hin 0 46 rfl;have a1:=hin 1 47 rfl;have a2:=hin 2 48 rfl;have a3:=hin 3 49 rfl;have a4:=hin 4 50 rfl;have a5:=hin 5 45 rfl;have a6:=hin 6 51 rfl;have a7:=hin 7 52 rfl;have a8:=hin 8 7 rfl;have a10:=hin 10 8 rfl;simp only [seval] at a0 a1 a2 a3 a4 a5 a6 a7 a8 a10 ⊢;rw [if_pos (by decide)] at hps;simp only [a0,a2,a3,a7,a10];obtain ⟨b,q5,cq5,p5,c5',eb,hb,k5,hR,hM,hbu⟩:=hps;simp only [eb];obtain ⟨w5,rfl⟩:∃ w5,w5=u:=⟨_,rfl⟩;have HR5:=hideP hR;have HM5:=hideP hM;have b5w:Bl W2 w5:=b4w.trans hbu;have B5:Bl w w5:=bw2.trans b5w;clear a1 a4 a5 a6 a8 hu hin hR hM;go_wp2_with fail
   refine (wpIn_wide (n:=8)).1 (region_u (updF_ok (m) (N) (upXJ kdF m (appJ kdF m (fun i k=>wholeF (ofL m Fm i k)) (fun i=>wholeF (X.getD i 0))) (predJ kdF m (fun i k=>wholeF (ofL m Fm i k)) (squareJ kdF m (fun i k=>wholeF (ofL m Lo i k))) (fun i k=>wholeF (ofL m Gm i k))) (fun i=>wholeF (H.getD i 0)) Rr Zz) (upPJ kdF (fun i j=>wholeF (unitI i j)) m (predJ kdF m (fun i k=>wholeF (ofL m Fm i k)) (squareJ kdF m (fun i k=>wholeF (ofL m Lo i k))) (fun i k=>wholeF (ofL m Gm i k))) (fun i=>wholeF (H.getD i 0)) Rr) (surpJ kdF m (appJ kdF m (fun i k=>wholeF (ofL m Fm i k)) (fun i=>wholeF (X.getD i 0))) (fun i=>wholeF (H.getD i 0)) Zz) (spreadJ kdF m (predJ kdF m (fun i k=>wholeF (ofL m Fm i k)) (squareJ kdF m (fun i k=>wholeF (ofL m Lo i k))) (fun i k=>wholeF (ofL m Gm i k))) (fun i=>wholeF (H.getD i 0)) Rr)) fm [some 54,some 55,some 56,some 57,some 58,some 59,some 60,some 61,some 62,some 63,some 64,some 53,some 65,some 66,some 67,some 9,some 10,none,none,some 11] 10 (by kernel_rfl) (by rfl) 64 53 65 66 67 9 10 11 rfl
      (fun j v u=>match j with|0=>v=sJ q5 m cq5 m m p5 N c5'|1=>v=.pointer (some ⟨w.heap.size,5,none⟩)|2=>v=.slice ph m ch|3=>∃ q c,v=.slice q m c∧Rw 3 cellsF u (.slice q m c) (linJ m (fun i=>wholeF (H.getD i 0)))|4=>v=.pointer (some ⟨w.heap.size,6,none⟩)|5=>v=.int .i64 r|6=>v=frV Rr|7=>v=.pointer (some ⟨w.heap.size,7,none⟩)|8=>v=.int .i64 z|9=>v=frV Zz|_=>False)
      (by
       intro j v u u' hb h;split at h<;>first|exact h|(obtain ⟨q,c,e,h1⟩:=h;exact ⟨q,c,e,h1.later hb⟩)|(obtain ⟨g,e,h1⟩:=h;exact ⟨g,e,h1.later hb⟩)) ?step ?call ?mv ?x0 ?x1 ?x2 ?la ?lb ?sa ?sb ?asg ?fin)
   case step =>
    intro j o t act u hjk ho hdt hsz hu hfr hin;obtain ⟨c0,c1,c2,c3,c4,c5,c6,c7⟩:=HC.out _ (b5w.trans hu);obtain ⟨s0,s1,s2,s3,_,_,_,_,_⟩:=k5.later hu;rcases (by omega:j=0∨j=1∨j=2∨j=3∨j=4∨j=5∨j=6∨j=7∨j=8∨j=9) with rfl|rfl|rfl|rfl|rfl|rfl|rfl|rfl|rfl|rfl
    ·obtain ⟨rfl,rfl⟩:=o7 ho hdt;have i7:_=Value.pointer (some ⟨b,0,none⟩):=hfr 7 (by decide);exact pl9 (r:=by simp only [seval,i7];simp [go_sem,s0,s1,s2,s3])
    ·obtain ⟨rfl,rfl⟩:=o7 ho hdt;have i1:_=Value.pointer (some ⟨w.heap.size,0,none⟩):=hfr 1 (by decide);exact pl9 (r:=by simp only [seval,i1];simp [go_sem,c5])
    ·obtain ⟨rfl,rfl⟩:=o7 ho hdt;have i55:_=Value.pointer (some ⟨w.heap.size,5,none⟩):=hin ⟨1,.data⟩ (by simp) rfl 55 rfl;exact pl9 (r:=by simp only [seval,i55];simp [go_sem,c5])
    ·obtain ⟨rfl,rfl⟩:=o7 ho hdt;have i56:_=Value.slice ph m ch:=hin ⟨2,.data⟩ (by simp) rfl 56 rfl;refine ew9 16 #[.slice ph m ch] (by simp only [seval,i56];simp [invoke,egWF,Result.andThen,go_sem]) (whole_linF ph m ch (fun i=>H.getD i 0) u (HHR.out.later (B5.trans hu)) (by omega)) ?_;rintro e w' ⟨q,c,rfl,hR,hb⟩;exact ⟨_,rfl,_,rfl,⟨q,c,rfl,hR⟩,hb⟩
    ·obtain ⟨rfl,rfl⟩:=o7 ho hdt;have i1:_=Value.pointer (some ⟨w.heap.size,0,none⟩):=hfr 1 (by decide);exact pl9 (r:=by simp only [seval,i1];simp [go_sem,c6])
    ·obtain ⟨rfl,rfl⟩:=o7 ho hdt;have i58:_=Value.pointer (some ⟨w.heap.size,6,none⟩):=hin ⟨4,.data⟩ (by simp) rfl 58 rfl;exact pl9 (r:=by simp only [seval,i58];simp [go_sem,c6])
    ·obtain ⟨rfl,rfl⟩:=o7 ho hdt;have i59:_=Value.int .i64 r:=hin ⟨5,.data⟩ (by simp) rfl 59 rfl;refine ew9 17 #[.int .i64 r,.int .i64 1] (by simp only [seval,i59];simp [invoke,egQ,Result.andThen,go_sem]) (new_any r 1 u) ?_;rintro e w' ⟨rfl,hb⟩;exact ⟨_,rfl,_,rfl,show frV (newR r 1)=frV Rr from by rw [HRr.out],hb⟩
    ·obtain ⟨rfl,rfl⟩:=o7 ho hdt;have i1:_=Value.pointer (some ⟨w.heap.size,0,none⟩):=hfr 1 (by decide);exact pl9 (r:=by simp only [seval,i1];simp [go_sem,c7])
    ·obtain ⟨rfl,rfl⟩:=o7 ho hdt;have i61:_=Value.pointer (some ⟨w.heap.size,7,none⟩):=hin ⟨7,.data⟩ (by simp) rfl 61 rfl;exact pl9 (r:=by simp only [seval,i61];simp [go_sem,c7])
    ·obtain ⟨rfl,rfl⟩:=o7 ho hdt;have i62:_=Value.int .i64 z:=hin ⟨8,.data⟩ (by simp) rfl 62 rfl;refine ew9 17 #[.int .i64 z,.int .i64 1] (by simp only [seval,i62];simp [invoke,egQ,Result.andThen,go_sem]) (new_any z 1 u) ?_;rintro e w' ⟨rfl,hb⟩;exact ⟨_,rfl,_,rfl,show frV (newR z 1)=frV Zz from by rw [HZz.out],hb⟩
   case call =>
    intro o act u ho hsz hu hfr hin;obtain ⟨c0,c1,c2,c3,c4,c5,c6,c7⟩:=HC.out _ (b5w.trans hu);obtain ⟨s0,s1,s2,s3,_,_,_,_,_⟩:=k5.later hu;obtain rfl:=o9 ho;have i54:_=sJ q5 m cq5 m m p5 N c5':=hin ⟨0,.data⟩ (by simp) rfl 54 rfl;have i57:∃ q c,(act.eval (.tmp (57:Nat)))=.slice q m c∧Rw 3 cellsF u (.slice q m c) (linJ m (fun i=>wholeF (H.getD i 0))):=hin ⟨3,.data⟩ (by simp) rfl 57 rfl;have i60:_=frV Rr:=hin ⟨6,.data⟩ (by simp) rfl 60 rfl;have i63:_=frV Zz:=hin ⟨9,.data⟩ (by simp) rfl 63 rfl;obtain ⟨q0,cc0,e0,hq⟩:=i57;refine ew9 15 #[sJ q5 m cq5 m m p5 N c5',.slice q0 m cc0,frV Rr,frV Zz] (by simp only [seval,i54,e0,i60,i63];simp [invoke,egUF,Result.andThen,go_sem]) (jUpdateF m N q5 cq5 (appJ kdF m (fun i k=>wholeF (ofL m Fm i k)) (fun i=>wholeF (X.getD i 0))) p5 c5' (predJ kdF m (fun i k=>wholeF (ofL m Fm i k)) (squareJ kdF m (fun i k=>wholeF (ofL m Lo i k))) (fun i k=>wholeF (ofL m Gm i k))) q0 cc0 (fun i=>wholeF (H.getD i 0)) Rr Zz u (HR5.out.later hu).q (HM5.out.later hu) hq.q hm4) ?_;rintro e w' ⟨q,c,p',c',rfl,⟨hR,hM,hF1,hF2⟩,hb⟩;exact ⟨_,rfl,(q,c,p',c'),rfl,⟨hR,hM⟩,hb,fun b hb' _=>⟨fun g hg=>by have:=hF1 g hg;omega,fun g hg=>by have:=hF2 g hg;omega⟩⟩
   case mv =>
    intro o act u x ho hx;obtain rfl:=o9 ho;exact pw9 (by simp only [execOp,hx];simp [go_sem]) ⟨rfl,rfl⟩
   case x0 =>
    intro o act u x y z ho hx;obtain rfl:=o9 ho;exact pw9 (by simp only [execOp,hx];simp [go_sem]) ⟨rfl,rfl⟩
   case x1 =>
    intro o act u x y z ho hx;obtain rfl:=o9 ho;exact pw9 (by simp only [execOp,hx];simp [go_sem]) ⟨rfl,rfl⟩
   case x2 =>
    intro o act u x y z ho hx;obtain rfl:=o9 ho;exact pw9 (by simp only [execOp,hx];simp [go_sem]) ⟨rfl,rfl⟩
   case la =>
    intro o act u ho;obtain rfl:=o9 ho;exact pw9 (w':=u.alloc (.cells #[.slice none 0 0,.int .i64 0,.int .i64 0,.slice none 0 0] 36)) (v:=.pointer (some ⟨u.heap.size,0,none⟩)) (by simp only [execOp];simp [go_sem]) ⟨rfl,SBox.new u _ _ _ _ _ _ _ _ _,(Bl.refl _).alloc _,by simp⟩
   case lb =>
    intro o act u ho;obtain rfl:=o9 ho;exact pw9 (w':=u.alloc (.cells #[.int .i64 0,.int .i64 0,.bool false,.int .i64 0,.int .i64 0,.bool false] 41)) (v:=.pointer (some ⟨u.heap.size,0,none⟩)) (by simp only [execOp];simp [go_sem]) ⟨rfl,NBoxF.new u zeroR zeroR _,(Bl.refl _).alloc _,by simp⟩
   case sa =>
    intro o act u D b ho hA h0 hz hdat hoff hbl hb;obtain rfl:=o9 ho;obtain ⟨q0,c0,p0,c1⟩:=D;replace h0:act.eval (.tmp 65)=sJ q0 (m) c0 (m) (m) p0 (N) c1:=h0;obtain ⟨d0,d1,d2,d3,g0,g1,g2,g3,lt⟩:=(show SBox u b none 0 0 0 0 none 0 0 from hz);exact sw9 (by simp only [execOp,hA,h0];simp [go_sem,d0,d1,d2,d3,g0,g1,g2,g3]) ⟨rfl,SBox.fill (show SBox u b none 0 0 0 0 none 0 0 from hz) _ _ _ _ _ _ _ _,⟨hdat.1.but (but4F _ _ _ _ _ _) (fun g hg=>hoff.1 g hg),hdat.2.but (but4F _ _ _ _ _ _) (fun g hg=>hoff.2 g hg)⟩,Bl.put4 hbl hb _ _ _ _,fun b' h'=>heap4F _ h' _ _ _ _,by simp⟩
   case sb =>
    intro o act u D b ho hA h0 hz hdat hoff hbl hb;obtain rfl:=o9 ho;obtain ⟨q0,c0,p0,c1⟩:=D;replace h0:act.eval (.tmp 66)=newsVF (surpJ kdF m (appJ kdF m (fun i k=>wholeF (ofL m Fm i k)) (fun i=>wholeF (X.getD i 0))) (fun i=>wholeF (H.getD i 0)) Zz) (spreadJ kdF m (predJ kdF m (fun i k=>wholeF (ofL m Fm i k)) (squareJ kdF m (fun i k=>wholeF (ofL m Lo i k))) (fun i k=>wholeF (ofL m Gm i k))) (fun i=>wholeF (H.getD i 0)) Rr):=h0;obtain ⟨d0,d1,d2,d3,d4,d5,g0,g1,g2,g3,g4,g5,lt⟩:=(show NBoxF u b zeroR zeroR from hz);exact sw9 (by simp only [execOp,hA,h0];simp [go_sem,d0,d1,d2,d3,d4,d5,g0,g1,g2,g3,g4,g5]) ⟨rfl,NBoxF.fill (show NBoxF u b zeroR zeroR from hz) _ _,⟨hdat.1.but (butNF _ _ _ _) (fun g hg=>hoff.1 g hg),hdat.2.but (butNF _ _ _ _) (fun g hg=>hoff.2 g hg)⟩,blNF b hbl hb _ _,fun b' h'=>heapNF _ h' _ _,by simp⟩
   case asg =>
    intro o act u x ho hx;obtain rfl:=o9 ho;exact pw9 (by simp only [execOp,hx];simp [go_sem]) ⟨rfl,rfl⟩
   case fin =>
    intro vs u D b6 n6' hu e9' e5' e6' hb1 hb2 hsa hsb hdat;simp only [seval] at e9' e5' e6' ⊢;replace e9':=Eq.trans e9' (show _=Value.bool true from rfl);simp only [e9',e5',e6'];obtain ⟨q6,cq6,p6,c6'⟩:=D;obtain ⟨w6,rfl⟩:∃ w6,w6=u:=⟨_,rfl⟩;have k6:SBox w6 b6 q6 m cq6 m m p6 N c6':=hsa;have n6:NBoxF w6 n6' (surpJ kdF m (appJ kdF m (fun i k=>wholeF (ofL m Fm i k)) (fun i=>wholeF (X.getD i 0))) (fun i=>wholeF (H.getD i 0)) Zz) (spreadJ kdF m (predJ kdF m (fun i k=>wholeF (ofL m Fm i k)) (squareJ kdF m (fun i k=>wholeF (ofL m Lo i k))) (fun i k=>wholeF (ofL m Gm i k))) (fun i=>wholeF (H.getD i 0)) Rr):=hsb;have HD6:Rw 3 cellsF w6 (.slice q6 m cq6) (linJ m (upXJ kdF m (appJ kdF m (fun i k=>wholeF (ofL m Fm i k)) (fun i=>wholeF (X.getD i 0))) (predJ kdF m (fun i k=>wholeF (ofL m Fm i k)) (squareJ kdF m (fun i k=>wholeF (ofL m Lo i k))) (fun i k=>wholeF (ofL m Gm i k))) (fun i=>wholeF (H.getD i 0)) Rr Zz))∧Mx 3 cellsF w6 m m p6 N c6' (upPJ kdF (fun i j=>wholeF (unitI i j)) m (predJ kdF m (fun i k=>wholeF (ofL m Fm i k)) (squareJ kdF m (fun i k=>wholeF (ofL m Lo i k))) (fun i k=>wholeF (ofL m Gm i k))) (fun i=>wholeF (H.getD i 0)) Rr):=hdat;have HR6:=hideP HD6.1;have HM6:=hideP HD6.2;have b6w:Bl W2 w6:=b5w.trans hu;have B6:Bl w w6:=bw2.trans b6w;clear hsa hsb hdat HD6;obtain ⟨eF,heF⟩:∃ y,y=surpJ kdF m (appJ kdF m (fun i k=>wholeF (ofL m Fm i k)) (fun i=>wholeF (X.getD i 0))) (fun i=>wholeF (H.getD i 0)) Zz:=⟨_,rfl⟩;obtain ⟨aF,haF⟩:∃ y,y=spreadJ kdF m (predJ kdF m (fun i k=>wholeF (ofL m Fm i k)) (squareJ kdF m (fun i k=>wholeF (ofL m Lo i k))) (fun i k=>wholeF (ofL m Gm i k))) (fun i=>wholeF (H.getD i 0)) Rr:=⟨_,rfl⟩;rw [←heF,←haF] at n6;have HEX:=HEN.out.x;have HEP:=HEN.out.p;have HEE:=HEN.out.e;have HEA:=HEN.out.a;rw [←HRr.out,←HZz.out,HRe.out,HZe.out] at HEX;rw [←HRr.out,HRe.out] at HEP;rw [←HZz.out,HZe.out,←heF] at HEE;rw [←HRr.out,HRe.out,←haF] at HEA;clear heF haF;have LN:=hideP (lanes10_any m N r z px pl pf pg ph cx cl cf cg ch X Lo Fm Gm H w6 (HXR0.out.later B6) (HLR.out.later b6w) (HFR.out.later B6) (HGR.out.later B6) (by have:=HHR.out.later B6;rw [←linJ_of (n:=m) 0 H hlh'.out] at this;exact this) hlx'.out HLO.out hlf'.out hlg'.out hlh'.out m1 m3 HNN.out Re Ze HRe.out HZe.out);obtain ⟨c0,c1,c2,c3,c4,c5,c6,c7⟩:=HC.out w6 (b6w);go_wp2_with fail
    refine LN.out.mono ?_;rintro e w7 ⟨q7,cq7,p7,c7',rfl,⟨hR,hM⟩,h7⟩;clear c0 c1 c2 c3 c4 c5 c6 c7;clear LN;obtain ⟨eN,heN⟩:∃ e:En,e=laneE m X Fm H Ze:=⟨_,rfl⟩;obtain ⟨aN,haN⟩:∃ e:En,e=(laneR m Lo Fm Gm H Re).a:=⟨_,rfl⟩;rw [←heN,←haN];obtain ⟨S,hS⟩:∃ e:Nat→Nat→En,e=(laneR m Lo Fm Gm H Re).s:=⟨_,rfl⟩;obtain ⟨XQ,hXQ⟩:∃ e:Nat→En,e=laneUX m X Lo Fm Gm H Re Ze:=⟨_,rfl⟩;rw [←hS] at hM HEP;rw [←hXQ] at hR HEX;rw [←heN] at HEE;rw [←haN] at HEA;clear heN haN hS hXQ;obtain ⟨W7,hW7⟩:∃ W7,W7=(w7.alloc (.cells #[.slice q7 m cq7,.int .i64 m,.int .i64 m,.slice p7 N c7'] 50)).alloc (.cells #[.int .i64 eN.v,.int .i64 eN.l,.int .i64 eN.h,.bool eN.bad,.int .i64 aN.v,.int .i64 aN.l,.int .i64 aN.h,.bool aN.bad] 54):=⟨_,rfl⟩;have b7:Bl w7 W7:=by rw [hW7];exact ((Bl.refl _).alloc _).alloc _
    have k7:SBox W7 w7.heap.size q7 m cq7 m m p7 N c7':=by rw [hW7];exact (SBox.new w7 _ _ _ _ _ _ _ _ _).later ((Bl.refl _).alloc _)
    have n7:NBoxN W7 (w7.heap.size+1) eN aN:=by rw [hW7];have:=NBoxN.new (w7.alloc (.cells #[.slice q7 m cq7,.int .i64 m,.int .i64 m,.slice p7 N c7'] 50)) eN aN 54;rw [World.size_alloc] at this;exact this
    have HR7:=hideP (hR.later b7);have HM7:=hideP (Mx.later hM b7);have b67:Bl w6 W7:=h7.trans b7;have B7:Bl w W7:=B6.trans b67;have HEX:=hideP HEX;have HEP:=hideP HEP;have HEE:=hideP HEE;have HEA:=hideP HEA;have HW7:=hideP hW7;clear hW7 hR hM;have HR6':=HR6.out;have HM6':=HM6.out;obtain ⟨UXQ,hUX⟩:∃ f:Nat→Fr,f=upXJ kdF m (appJ kdF m (fun i k=>wholeF (ofL m Fm i k)) (fun i=>wholeF (X.getD i 0))) (predJ kdF m (fun i k=>wholeF (ofL m Fm i k)) (squareJ kdF m (fun i k=>wholeF (ofL m Lo i k))) (fun i k=>wholeF (ofL m Gm i k))) (fun i=>wholeF (H.getD i 0)) Rr Zz:=⟨_,rfl⟩;obtain ⟨UPQ,hUP⟩:∃ f:Nat→Nat→Fr,f=upPJ kdF (fun i j=>wholeF (unitI i j)) m (predJ kdF m (fun i k=>wholeF (ofL m Fm i k)) (squareJ kdF m (fun i k=>wholeF (ofL m Lo i k))) (fun i k=>wholeF (ofL m Gm i k))) (fun i=>wholeF (H.getD i 0)) Rr:=⟨_,rfl⟩;obtain ⟨CQ,hCQ⟩:∃ f:Nat→Nat→En,f=squareJ kdN m S:=⟨_,rfl⟩;have HEX':=HEX.out;have HEP':=HEP.out;rw [←hUX] at HEX' HR6';rw [←hUP] at HEP' HM6';rw [←hCQ] at HEP';have CV:=hideP (fun u (hu:Bl W7 u)=>by have:=rCoverN m q7 cq7 p7 N c7' S u (HM7.out.later hu) hm4;rw [←hCQ] at this;exact this);clear HEX HEP HR6 HM6 hUX hUP hCQ;have HEX:=hideP HEX';have HEP:=hideP HEP';have HR6:=hideP HR6';have HM6:=hideP HM6';clear HEX' HEP' HR6' HM6';go_wp2_with fail
    rw [←HW7.out]
    refine (wpIn_wide (n:=8)).1 (region_g fm (fun x y=>Bl x y) [some 84,some 85,some 86,some 87,some 88,some 89,some 90,some 91,some 92,some 93,some 94,some 95,some 96,some 97,some 98,some 99,some 100,some 101,some 102,some 103,some 104,some 105,some 106,some 107,some 108,some 109,some 110,some 111,some 112,some 113,some 2] (by kernel_rfl) (by rfl) ((Bl.refl _).drew) (fun h k=>h.trans k)
      (fun j v u=>match j with|0=>v=.pointer (some ⟨w7.heap.size,0,none⟩)|1=>v=.slice q7 m cq7|2=>v=.pointer (some ⟨b6,0,none⟩)|3=>v=.slice q6 m cq6|4=>v=.bool true|5=>v=.bool true|6=>v=sJ q7 m cq7 m m p7 N c7'|7=>∃ p' c',v=mV m m p' N c'∧Mx 4 cellsN u m m p' N c' CQ|8=>∃ p' c',v=.slice p' N c'∧Rq 4 cellsN u (.slice p' N c') (mk m m CQ)|9=>v=.pointer (some ⟨b6,1,none⟩)|10=>v=.pointer (some ⟨b6,3,none⟩)|11=>v=.slice p6 N c6'|12=>v=.bool true|13=>v=.bool true|14=>v=.bool true|15=>v=.pointer (some ⟨w7.heap.size+1,0,none⟩)|16=>v=enV eN|17=>v=.pointer (some ⟨w7.heap.size+1,4,none⟩)|18=>v=enV aN|19=>∃ g,v=.slice (some ⟨g,0,none⟩) 2 2∧Rq 4 cellsN u (.slice (some ⟨g,0,none⟩) 2 2) [eN,aN]|20=>v=.pointer (some ⟨n6',0,none⟩)|21=>v=frV eF|22=>v=.pointer (some ⟨n6',3,none⟩)|23=>v=frV aF|24=>∃ g,v=.slice (some ⟨g,0,none⟩) 2 2∧Rq 3 cellsF u (.slice (some ⟨g,0,none⟩) 2 2) [eF,aF]|25=>v=.bool true|26=>v=.bool true|27=>v=.bool true|28=>v=.bool true|29=>v=.bool true|30=>v=.bool true|_=>False)
      (by
       intro j v u u' _ hb h;split at h<;>first|exact h|(obtain ⟨p',c',e,h1⟩:=h;exact ⟨p',c',e,Mx.later h1 hb⟩)|(obtain ⟨p',c',e,h1⟩:=h;exact ⟨p',c',e,h1.later hb⟩)|(obtain ⟨g,e,h1⟩:=h;exact ⟨g,e,h1.later hb⟩))
      (by
        intro j o g b v u ho hg hf;have hj:j<31:=l9 ho;rcases (by omega:j=0∨j=1∨j=2∨j=3∨j=4∨j=5∨j=6∨j=7∨j=8∨j=9∨j=10∨j=11∨j=12∨j=13∨j=14∨j=15∨j=16∨j=17∨j=18∨j=19∨j=20∨j=21∨j=22∨j=23∨j=24∨j=25∨j=26∨j=27∨j=28∨j=29∨j=30) with rfl|rfl|rfl|rfl|rfl|rfl|rfl|rfl|rfl|rfl|rfl|rfl|rfl|rfl|rfl|rfl|rfl|rfl|rfl|rfl|rfl|rfl|rfl|rfl|rfl|rfl|rfl|rfl|rfl|rfl|rfl
        ·obtain rfl:=o9 ho;cases hg
        ·obtain rfl:=o9 ho;cases hg
        ·obtain rfl:=o9 ho;cases hg
        ·obtain rfl:=o9 ho;cases hg
        ·obtain rfl:=o9 ho;cases hg
        ·obtain rfl:=o9 ho;cases hg
        ·obtain rfl:=o9 ho;cases hg;exact hf
        ·obtain rfl:=o9 ho;cases hg;exact hf
        ·obtain rfl:=o9 ho;cases hg;exact hf
        ·obtain rfl:=o9 ho;cases hg;exact hf
        ·obtain rfl:=o9 ho;cases hg;exact hf
        ·obtain rfl:=o9 ho;cases hg;exact hf
        ·obtain rfl:=o9 ho;cases hg;exact hf
        ·obtain rfl:=o9 ho;cases hg
        ·obtain rfl:=o9 ho;cases hg
        ·obtain rfl:=o9 ho;cases hg;exact hf
        ·obtain rfl:=o9 ho;cases hg;exact hf
        ·obtain rfl:=o9 ho;cases hg;exact hf
        ·obtain rfl:=o9 ho;cases hg;exact hf
        ·obtain rfl:=o9 ho;cases hg;exact hf
        ·obtain rfl:=o9 ho;cases hg;exact hf
        ·obtain rfl:=o9 ho;cases hg;exact hf
        ·obtain rfl:=o9 ho;cases hg;exact hf
        ·obtain rfl:=o9 ho;cases hg;exact hf
        ·obtain rfl:=o9 ho;cases hg;exact hf
        ·obtain rfl:=o9 ho;cases hg;exact hf
        ·obtain rfl:=o9 ho;cases hg
        ·obtain rfl:=o9 ho;cases hg
        ·obtain rfl:=o9 ho;cases hg;exact hf
        ·obtain rfl:=o9 ho;cases hg
        ·obtain rfl:=o9 ho;cases hg
        ) ?step ?fin)
    case step =>
     intro j o act u ho hsz hu hfr hin hnon;have hj:j<31:=l9 ho;rcases (by omega:j=0∨j=1∨j=2∨j=3∨j=4∨j=5∨j=6∨j=7∨j=8∨j=9∨j=10∨j=11∨j=12∨j=13∨j=14∨j=15∨j=16∨j=17∨j=18∨j=19∨j=20∨j=21∨j=22∨j=23∨j=24∨j=25∨j=26∨j=27∨j=28∨j=29∨j=30) with rfl|rfl|rfl|rfl|rfl|rfl|rfl|rfl|rfl|rfl|rfl|rfl|rfl|rfl|rfl|rfl|rfl|rfl|rfl|rfl|rfl|rfl|rfl|rfl|rfl|rfl|rfl|rfl|rfl|rfl|rfl
     ·obtain rfl:=o9 ho;have i12:_=Value.pointer (some ⟨w7.heap.size,0,none⟩):=hfr 12 (by decide);exact pl9 (r:=by simp only [seval,i12];simp [go_sem,hm4])
     ·obtain rfl:=o9 ho;have i84:_=Value.pointer (some ⟨w7.heap.size,0,none⟩):=hin ⟨0,.data⟩ (by simp) rfl 84 rfl;obtain ⟨s0,s1,s2,s3,_,_,_,_,_⟩:=k7.later hu;exact pl9 (r:=by simp only [seval,i84];simp [go_sem,s0])
     ·obtain rfl:=o9 ho;have i9:_=Value.pointer (some ⟨b6,0,none⟩):=hfr 9 (by decide);exact pl9 (r:=by simp only [seval,i9];simp [go_sem,hm4])
     ·obtain rfl:=o9 ho;have i86:_=Value.pointer (some ⟨b6,0,none⟩):=hin ⟨2,.data⟩ (by simp) rfl 86 rfl;obtain ⟨t0,t1,t2,t3,_,_,_,_,_⟩:=k6.later (b67.trans hu);exact pl9 (r:=by simp only [seval,i86];simp [go_sem,t0])
     ·obtain rfl:=o9 ho;have i85:_=Value.slice q7 m cq7:=hin ⟨1,.data⟩ (by simp) rfl 85 rfl;have i87:_=Value.slice q6 m cq6:=hin ⟨3,.data⟩ (by simp) rfl 87 rfl;refine ew9 19 #[.slice q7 m cq7,.slice q6 m cq6] (by simp only [seval,i85,i87];simp [invoke,egWi,Result.andThen,go_sem]) (within9_any m q7 q6 cq7 cq6 (linJ m XQ) (linJ m UXQ) u (HR7.out.later hu).q (HR6.out.later (b67.trans hu)).q (linJ_len _ _) (linJ_len _ _) (by omega) (within_lin9 HEX.out)) ?_;rintro e w' ⟨rfl,hb⟩;exact ⟨_,rfl,_,rfl,rfl,hb⟩
     ·obtain rfl:=o9 ho;have i88:_=Value.bool true:=hin ⟨4,.data⟩ (by simp) rfl 88 rfl;exact pl9 (r:=by simp only [seval,i88];simp [go_sem])
     ·obtain rfl:=o9 ho;have i12:_=Value.pointer (some ⟨w7.heap.size,0,none⟩):=hfr 12 (by decide);obtain ⟨s0,s1,s2,s3,_,_,_,_,_⟩:=k7.later hu;exact pl9 (r:=by simp only [seval,i12];simp [go_sem,s0,s1,s2,s3])
     ·obtain rfl:=o9 ho;have i90:_=sJ q7 m cq7 m m p7 N c7':=hin ⟨6,.data⟩ (by simp) rfl 90 rfl;refine ew9 20 #[sJ q7 m cq7 m m p7 N c7'] (by simp only [seval,i90];simp [invoke,egC,Result.andThen,go_sem]) (CV.out u hu) ?_;rintro e w' ⟨p',c',rfl,hM,hb⟩;exact ⟨_,rfl,_,rfl,⟨p',c',rfl,hM⟩,hb⟩
     ·obtain rfl:=o9 ho;have i91:∃ p' c',(act.eval (.tmp (91:Nat)))=mV m m p' N c'∧Mx 4 cellsN u m m p' N c' CQ:=hin ⟨7,.data⟩ (by simp) rfl 91 rfl;obtain ⟨p0,c0,e0,hM⟩:=i91;exact pw9 (by simp only [seval,e0];simp [Tryz.field2M,Result.andThen,go_sem]) ⟨_,rfl,⟨p0,c0,rfl,hM.2.2⟩,Bl.refl _⟩
     ·obtain rfl:=o9 ho;have i9:_=Value.pointer (some ⟨b6,0,none⟩):=hfr 9 (by decide);exact pl9 (r:=by simp only [seval,i9];simp [go_sem,hm4])
     ·obtain rfl:=o9 ho;have i93:_=Value.pointer (some ⟨b6,1,none⟩):=hin ⟨9,.data⟩ (by simp) rfl 93 rfl;exact pl9 (r:=by simp only [seval,i93];simp [go_sem,hm4])
     ·obtain rfl:=o9 ho;have i94:_=Value.pointer (some ⟨b6,3,none⟩):=hin ⟨10,.data⟩ (by simp) rfl 94 rfl;obtain ⟨t0,t1,t2,t3,_,_,_,_,_⟩:=k6.later (b67.trans hu);exact pl9 (r:=by simp only [seval,i94];simp [go_sem,t3])
     ·obtain rfl:=o9 ho;have i92:∃ p' c',(act.eval (.tmp (92:Nat)))=.slice p' N c'∧Rq 4 cellsN u (.slice p' N c') (mk m m CQ):=hin ⟨8,.data⟩ (by simp) rfl 92 rfl;have i95:_=Value.slice p6 N c6':=hin ⟨11,.data⟩ (by simp) rfl 95 rfl;obtain ⟨p0,c0,e0,hM⟩:=i92;refine ew9 19 #[.slice p0 N c0,.slice p6 N c6'] (by simp only [seval,e0,i95];simp [invoke,egWi,Result.andThen,go_sem]) (within9_any N p0 p6 c0 c6' (mk m m CQ) (mk m m UPQ) u hM (HM6.out.later (b67.trans hu)).2.2 (by rw [mk_len];exact HNN.out.symm) (by rw [mk_len];exact HNN.out.symm) (by omega) (within_mk9 HEP.out)) ?_;rintro e w' ⟨rfl,hb⟩;exact ⟨_,rfl,_,rfl,rfl,hb⟩
     ·obtain rfl:=o9 ho;have i89:_=Value.bool true:=hin ⟨5,.data⟩ (by simp) rfl 89 rfl;have i96:_=Value.bool true:=hin ⟨12,.data⟩ (by simp) rfl 96 rfl;exact pl9 (r:=by simp only [seval,i89,i96];simp [go_sem])
     ·obtain rfl:=o9 ho;have i97:_=Value.bool true:=hin ⟨13,.data⟩ (by simp) rfl 97 rfl;exact pl9 (r:=by simp only [seval,i97];simp [go_sem])
     ·obtain rfl:=o9 ho;have i13:_=Value.pointer (some ⟨w7.heap.size+1,0,none⟩):=hfr 13 (by decide);exact pl9 (r:=by simp only [seval,i13];simp [go_sem,hm4])
     ·obtain rfl:=o9 ho;have i99:_=Value.pointer (some ⟨w7.heap.size+1,0,none⟩):=hin ⟨15,.data⟩ (by simp) rfl 99 rfl;obtain ⟨s0,s1,s2,s3,s4,s5,s6,s7,_,_,_,_,_,_,_,_,_⟩:=n7.later hu;exact pl9 (r:=by simp only [seval,i99];simp [go_sem,s0,s1,s2,s3])
     ·obtain rfl:=o9 ho;have i13:_=Value.pointer (some ⟨w7.heap.size+1,0,none⟩):=hfr 13 (by decide);exact pl9 (r:=by simp only [seval,i13];simp [go_sem,hm4])
     ·obtain rfl:=o9 ho;have i101:_=Value.pointer (some ⟨w7.heap.size+1,4,none⟩):=hin ⟨17,.data⟩ (by simp) rfl 101 rfl;obtain ⟨s0,s1,s2,s3,s4,s5,s6,s7,_,_,_,_,_,_,_,_,_⟩:=n7.later hu;exact pl9 (r:=by simp only [seval,i101];simp [go_sem,s4,s5,s6,s7])
     ·obtain rfl:=o9 ho;have i100:_=enV eN:=hin ⟨16,.data⟩ (by simp) rfl 100 rfl;have i102:_=enV aN:=hin ⟨18,.data⟩ (by simp) rfl 102 rfl;exact pw9 (by simp only [execOp,i100,i102,List.map_toArray,List.map_cons,List.map_nil];rw [Sem.run_bind,Tryz.build2E];rfl) ⟨_,rfl,⟨u.heap.size,rfl,rq_two9N u eN aN _⟩,(Bl.refl _).alloc _⟩
     ·obtain rfl:=o9 ho;have i10:_=Value.pointer (some ⟨n6',0,none⟩):=hfr 10 (by decide);exact pl9 (r:=by simp only [seval,i10];simp [go_sem,hm4])
     ·obtain rfl:=o9 ho;have i104:_=Value.pointer (some ⟨n6',0,none⟩):=hin ⟨20,.data⟩ (by simp) rfl 104 rfl;obtain ⟨t0,t1,t2,t3,t4,t5,_,_,_,_,_,_,_⟩:=n6.later (b67.trans hu);exact pl9 (r:=by simp only [seval,i104];simp [go_sem,t0,t1,t2])
     ·obtain rfl:=o9 ho;have i10:_=Value.pointer (some ⟨n6',0,none⟩):=hfr 10 (by decide);exact pl9 (r:=by simp only [seval,i10];simp [go_sem,hm4])
     ·obtain rfl:=o9 ho;have i106:_=Value.pointer (some ⟨n6',3,none⟩):=hin ⟨22,.data⟩ (by simp) rfl 106 rfl;obtain ⟨t0,t1,t2,t3,t4,t5,_,_,_,_,_,_,_⟩:=n6.later (b67.trans hu);exact pl9 (r:=by simp only [seval,i106];simp [go_sem,t3,t4,t5])
     ·obtain rfl:=o9 ho;have i105:_=frV eF:=hin ⟨21,.data⟩ (by simp) rfl 105 rfl;have i107:_=frV aF:=hin ⟨23,.data⟩ (by simp) rfl 107 rfl;exact pw9 (by simp only [execOp,i105,i107,List.map_toArray,List.map_cons,List.map_nil];rw [Sem.run_bind,Tryz.build2F];rfl) ⟨_,rfl,⟨u.heap.size,rfl,rq_two9F u eF aF _⟩,(Bl.refl _).alloc _⟩
     ·obtain rfl:=o9 ho;have i103:∃ g,(act.eval (.tmp (103:Nat)))=.slice (some ⟨g,0,none⟩) 2 2∧Rq 4 cellsN u (.slice (some ⟨g,0,none⟩) 2 2) [eN,aN]:=hin ⟨19,.data⟩ (by simp) rfl 103 rfl;have i108:∃ g,(act.eval (.tmp (108:Nat)))=.slice (some ⟨g,0,none⟩) 2 2∧Rq 3 cellsF u (.slice (some ⟨g,0,none⟩) 2 2) [eF,aF]:=hin ⟨24,.data⟩ (by simp) rfl 108 rfl;obtain ⟨g1,e1,hq1⟩:=i103;obtain ⟨g2,e2,hq2⟩:=i108;refine ew9 19 #[.slice (some ⟨g1,0,none⟩) 2 2,.slice (some ⟨g2,0,none⟩) 2 2] (by simp only [seval,e1,e2];simp [invoke,egWi,Result.andThen,go_sem]) (within9_any 2 _ _ 2 2 [eN,aN] [eF,aF] u hq1 hq2 rfl rfl (by omega) (within_two9 HEE.out HEA.out)) ?_;rintro e w' ⟨rfl,hb⟩;exact ⟨_,rfl,_,rfl,rfl,hb⟩
     ·obtain rfl:=o9 ho;have i98:_=Value.bool true:=hin ⟨14,.data⟩ (by simp) rfl 98 rfl;have i109:_=Value.bool true:=hin ⟨25,.data⟩ (by simp) rfl 109 rfl;exact pl9 (r:=by simp only [seval,i98,i109];simp [go_sem])
     ·obtain rfl:=o9 ho;have i110:_=Value.bool true:=hin ⟨26,.data⟩ (by simp) rfl 110 rfl;exact pl9 (r:=by simp only [seval,i110];simp [go_sem])
     ·obtain rfl:=o9 ho;refine ew9 10 #[] (by simp only [seval];simp [invoke,egAw,Result.andThen,go_sem]) (AW.out u) ?_;rintro e w' ⟨rfl,hb⟩;exact ⟨_,rfl,_,rfl,rfl,hb⟩
     ·obtain rfl:=o9 ho;have i111:_=Value.bool true:=hin ⟨27,.data⟩ (by simp) rfl 111 rfl;have i112:_=Value.bool true:=hin ⟨28,.data⟩ (by simp) rfl 112 rfl;exact pl9 (r:=by simp only [seval,i111,i112];simp [go_sem])
     ·obtain rfl:=o9 ho;have i113:_=Value.bool true:=hin ⟨29,.data⟩ (by simp) rfl 113 rfl;exact pl9 (r:=by simp only [seval,i113];simp [go_sem])
    case fin =>
     intro vs u hu hin hnon;have a0:=hin 0 84 rfl;have a1:=hin 1 85 rfl;have a2:=hin 2 86 rfl;have a3:=hin 3 87 rfl;have a4:=hin 4 88 rfl;have a5:=hin 5 89 rfl;have a6:=hin 6 90 rfl;have a7:=hin 7 91 rfl;have a8:=hin 8 92 rfl;have a9:=hin 9 93 rfl;have a10:=hin 10 94 rfl;have a11:=hin 11 95 rfl;have a12:=hin 12 96 rfl;have a13:=hin 13 97 rfl;have a14:=hin 14 98 rfl;have a15:=hin 15 99 rfl;have a16:=hin 16 100 rfl;have a17:=hin 17 101 rfl;have a18:=hin 18 102 rfl;have a19:=hin 19 103 rfl;have a20:=hin 20 104 rfl;have a21:=hin 21 105 rfl;have a22:=hin 22 106 rfl;have a23:=hin 23 107 rfl;have a24:=hin 24 108 rfl;have a25:=hin 25 109 rfl;have a26:=hin 26 110 rfl;have a27:=hin 27 111 rfl;have a28:=hin 28 112 rfl;have a29:=hin 29 113 rfl;have a30:=hin 30 2 rfl;simp only [seval] at a0 a1 a2 a3 a4 a5 a6 a7 a8 a9 a10 a11 a12 a13 a14 a15 a16 a17 a18 a19 a20 a21 a22 a23 a24 a25 a26 a27 a28 a29 a30 ⊢;simp only [a0,a1,a2,a3,a4,a5,a6,a9,a10,a11,a12,a13,a14,a15,a16,a17,a18,a20,a21,a22,a23,a25,a26,a27,a28,a29,a30];clear hin hnon;go_wp2;go_ret;exact ⟨rfl,B7.trans hu⟩
open Go.ChangeAt Go.ChangeShapes Go.WideShapes
theorem Tryz.cellsInt:Tryz.prog.cellsOf 3=1:=by kernel_rfl
theorem cell_block_lt {W:World} {b o:Nat} {v:Value} (h:W.cell? ⟨b,o,none⟩=some v):b<W.heap.size:=by
 rcases Nat.lt_or_ge b W.heap.size with h'|h'
 ·exact h'
 ·have:W.heap[b]?=none:=Array.getElem?_eq_none h';simp [World.cell?,this] at h
open Go.Joins
abbrev caseV (n:Int) (x root f g h:Value) (r z:Int):Value:=.agg #[.int .i64 n,x,root,f,g,h,.int .i64 r,.int .i64 z]
theorem array8 {α:Type} {cs:Array α} (h:cs.size=8):∃ c0 c1 c2 c3 c4 c5 c6 c7,cs=#[c0,c1,c2,c3,c4,c5,c6,c7]:=by
 obtain ⟨l⟩:=cs
 match l,h with
 |[c0,c1,c2,c3,c4,c5,c6,c7],_=>exact ⟨c0,c1,c2,c3,c4,c5,c6,c7,rfl⟩
theorem cellsCase:Tryz.prog.cellsOf 24=8:=by kernel_rfl
set_option maxRecDepth 1000000 in
theorem row_trod {H:Type} {enc:TypeId×Value→H} {W:World} {n:Nat} {v:Value} {y:DataW H×List MemPlace}
  (hf:DataW.trod enc Tryz.prog W 0 (fun _=>true) true n 22 [v]=some y):∃ ns:List Int,Rq 1 cI W v ns∧∀ n∈ns,(Lit.int .i64 n).wf=true:=by
 obtain ⟨d,p⟩:=y;rcases open_ints Tryz.underlying22 Tryz.underlying3 Tryz.cellsInt hf with ⟨hcs,hx⟩|⟨a,len',cap',zs,hcs,_,hl,hm,hz,hx,hcell,hwz⟩
 ·simp at hcs;subst hcs;exact ⟨[],.inl ⟨none,0,rfl,rfl,fun _=>rfl⟩,fun n hn=>by simp at hn⟩
 ·simp at hcs;subst hcs;simp only [if_true] at hz;refine ⟨zs.take len',?_,fun n hn=>hwz n (List.mem_of_mem_take hn)⟩;by_cases h0:len'=0
  ·subst h0;exact .inl ⟨some a,cap',rfl,by simp,nofun⟩
  ·have c0:=hcell 0 (by omega);obtain ⟨b,off,rfl,hc⟩:=ints_at hcell (by omega);have hb:b<W.heap.size:=by
    have:=hc 0 (by omega);exact cell_block_lt this
   have hll:(zs.take len').length=len':=by simp;omega
   refine .inr ⟨b,off,cap',by rw [hll],by omega,hb,fun j x hj k u hu=>?_⟩;rcases k with _|k
   ·simp at hu;subst hu;have hj2:=(List.getElem?_eq_some_iff.1 hj).1;have:=hc j (by omega);rw [List.getElem?_take] at hj;split at hj
    ·have e:zs.getD j 0=x:=by simp [List.getD,hj]
     rw [e] at this;simpa using this
    ·cases hj
   ·simp at hu
set_option maxRecDepth 1000000 in
theorem open_case {H:Type} {enc:TypeId×Value→H} {W:World} {b0:Nat} {v:Value} {d:DataW H} {p:List MemPlace}
  (hv:Value.okWide Tryz.prog W .any b0 24 v) (h:DataW.Trod enc Tryz.prog W 0 (fun _=>true) true 24 v d p) :
  ∃ (n r z:Int) (x root f g h':Value) (X Root F G H':List Int),v=caseV n x root f g h' r z∧Rq 1 cI W x X∧Rq 1 cI W root Root∧Rq 1 cI W f F∧Rq 1 cI W g G∧Rq 1 cI W h' H':=by
 obtain ⟨cs,rfl,hsz⟩:=okWide_struct Tryz.underlying24 hv;obtain ⟨c0,c1,c2,c3,c4,c5,c6,c7,rfl⟩:=array8 (hsz.trans cellsCase);obtain ⟨fuel,hf⟩:=h;obtain ⟨xs,n,_,hxx,hl,hlen,hall⟩:=DataW.trod_struct Tryz.underlying24 hf
 match xs,hlen with
 |[y0,y1,y2,y3,y4,y5,y6,y7],_ =>
  have h0:=hall 0 _ rfl;have h1:=hall 1 _ rfl;have h2:=hall 2 _ rfl;have h3:=hall 3 _ rfl;have h4:=hall 4 _ rfl;have h5:=hall 5 _ rfl;have h6:=hall 6 _ rfl;have h7:=hall 7 _ rfl;simp only [Value.cells] at h0 h1 h2 h3 h4 h5 h6 h7;simp at h0 h1 h2 h3 h4 h5 h6 h7;have k1:Tryz.prog.cellsOf 3=1:=by kernel_rfl
  have k2:Tryz.prog.cellsOf 22=1:=by kernel_rfl
  rw [k1] at h0 h6 h7;rw [k2] at h1 h2 h3 h4 h5;simp only [List.take_succ_cons,List.take_zero] at h0 h1 h2 h3 h4 h5 h6 h7;obtain ⟨n0,e0,_,_⟩:=DataW.trod_int Tryz.underlying3 h0;obtain ⟨r0,e6,_,_⟩:=DataW.trod_int Tryz.underlying3 h6;obtain ⟨z0,e7,_,_⟩:=DataW.trod_int Tryz.underlying3 h7;obtain ⟨X,hX,_⟩:=row_trod h1;obtain ⟨Root,hRoot,_⟩:=row_trod h2;obtain ⟨F,hF,_⟩:=row_trod h3;obtain ⟨G,hG,_⟩:=row_trod h4;obtain ⟨H',hH,_⟩:=row_trod h5;simp only [List.cons.injEq,and_true] at e0 e6 e7;subst e0 e6 e7;exact ⟨n0,r0,z0,c1,c2,c3,c4,c5,X,Root,F,G,H',rfl,hX,hRoot,hF,hG,hH⟩
theorem own_RootEncloses:ownKnob Tryz.prog.godebug=none:=by kernel_rfl
theorem laid_RootEncloses:laidOutB Tryz.prog=true:=by kernel_rfl
set_option maxRecDepth 100000 in
theorem lifted_RootEncloses (os:Os) (started:os.Started) (H:Type) (enc:TypeId×Value→H) :
  ReturnsInHanded {} Tryz.checked os 3 .any (Rows.rootEnclosesSpec.pre6 enc Tryz.prog Tryz.f3 Rows.rootEnclosesRow.domain false) (Rows.rootEnclosesSpec.post enc Tryz.prog Tryz.f3 false true false false):=by
 refine returnsInHanded_of_change (C:=Tryz.checked) own_RootEncloses started (by kernel_rfl) Tryz.func3
  (ChangeSpec.witness6 (enc:=enc) (C:=Tryz.checked) false ⟨#[],#[.agg #[.int .i64 0,.slice none 0 0,.slice none 0 0,.slice none 0 0,.slice none 0 0,.slice none 0 0,.int .i64 0,.int .i64 0]],[]⟩ 8 (by kernel_rfl) (by kernel_rfl) (by kernel_rfl) (by kernel_rfl)) ?_
 intro W base args ds gs before hval0 hW hcnd _;have hval:∀ (j:Nat) t v,Tryz.f3.params[j]?=some t→args[j]?=some v→Value.okWide Tryz.prog W .any base t v:=hval0;have hW':=hW;obtain ⟨p,q,hA0,hV,rfl,hfz,hnd⟩:=hW;have hA:DataW.TrodAll enc Tryz.prog W 0 (fun _=>true) true Tryz.f3.params.toList args.toList ds p:=hA0;rw [Tryz.params3] at hA hval;obtain ⟨v0,vs0,d0,ds0,p0,q0,hargs,rfl,rfl,h0,r0⟩:=trodAll_cons hA;obtain ⟨rfl,rfl,rfl⟩:=trodAll_nil r0;obtain rfl:args=#[v0]:=by cases args;simp_all
 obtain ⟨rfl,rfl⟩:=trodVars_none hV;have hltA:=fun x hx=>hW'.lt x hx
 obtain ⟨n0,r0x,z0,x0,o0,f0,g0,k0,X0,O0,F0,G0,K0,e0,R0a,R0b,R0c,R0d,R0e⟩:=open_case (hval 0 24 v0 rfl rfl) h0;subst e0;clear hA0 hval0;refine (walk_RootEncloses n0 r0x z0 x0 o0 f0 g0 k0 X0 O0 F0 G0 K0 W R0a R0b R0c R0d R0e).mono fun e W' ⟨he,bel⟩=>?_
 subst he;exact ⟨_,rfl,_,_,_,[],_,[],hW',trodAll_mk1 (shut_bool Tryz.underlying4 _),(trodAll_cons_mk (Below.trod laid_RootEncloses (by kernel_rfl) (of_decide_eq_true (by kernel_rfl)) h0 bel (fun x hx=>by have:=hltA x (by simp [hx]);simpa using this)) trodAll_mk0),rfl,Below.frame bel _,fun h=>by cases h⟩
theorem proved_RootEncloses:Rows.RootEnclosesSaid:=
 OpenClaim.holds_of_wide 3 Tryz.f3 rfl rfl rfl rfl rfl rfl rfl ⟨rfl,rfl,rfl,rfl,rfl⟩ rfl rfl rfl rfl rfl (by kernel_rfl) Tryz.func3 (by kernel_rfl)
  (of_decide_eq_true (by kernel_rfl)) (by unfold Func.isWrapper;first|(rw [if_pos (by decide +kernel)];kernel_rfl)|(rw [if_neg (by decide +kernel)];exact ⟨rfl,rfl⟩))
  (fun os started H enc _=>lifted_RootEncloses os started H enc)
#print axioms proved_RootEncloses
end Go.Proofs.YtljmggemdkfbiaaGreat
