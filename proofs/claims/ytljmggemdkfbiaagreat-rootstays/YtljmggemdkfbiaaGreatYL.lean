/- RootStays: what stands above the diagonal stays a point of 0; the law's function literal. -/
import Derived.Test.YtljmggemdkfbiaaGreatYK
import Derived.Test.YtljmggemdkfbiaaGreatYE
import Derived.Maps.OwnIn
import Derived.Test.YtljmggemdkfbiaaGreatYH
import Derived.Test.YtljmggemdkfbiaaGreatYI
import Derived.Test.YtljmggemdkfbiaaGreatYJ
import Derived.Test.YtljmggemdkfbiaaGreatYA
import Derived.Test.YtljmggemdkfbiaaGreatYG
import Derived.Test.YtljmggemdkfbiaaGreatYB
import Derived.Laws.EntriesVeiled
namespace Go.Proofs.YtljmggemdkfbiaaGreat
open Go.RowKit Go.Shelf
set_option linter.unusedSimpArgs false
set_option linter.unusedVariables false
theorem opYL {α : Type} {l : List α} {k : Nat} {o : α} (h : l.toArray[k]? = some o) : l[k]? = some o := by rwa [List.getElem?_toArray] at h
attribute [local go_sem] Oper.semAt_some
def foldN (R C : Nat) (f : Nat → Nat → En) : Nat → Nat → En := signsH kdN (fun j => lowN (foldL kdN lowN C f R j j)) (foldL kdN lowN C f R)
theorem Tryz.frontN (b n cap hi : Nat) (w : World) (h1 : hi ≤ cap) (h2 : 0 < cap) : (Instr.sliceAt 46 (.slice (some ⟨b, 0, none⟩) n cap) none (some (.int .i64 hi)) none).run Tryz.prog w = .ok (.slice (some ⟨b, 0, none⟩) hi cap) w := by
 have hu : Tryz.prog.underlying 46 = some (.slice (Tryz.prog.elem 46)) := by kernel_rfl
 obtain ⟨i0, hi0, hz0, hz1, hz2⟩ := info_parts Tryz.info_N
 have he : Tryz.prog.elem 46 = 52 := by kernel_rfl
 rw [run_sliceAt_slice (h := hu), run_slice_h (ht := hu) (h0 := by omega) (h2 := by omega), he]
 have hcm : ¬ cap = 0 := by omega
 simp [sizeOf, typeInfo, hi0, sliced, Result.andThen, hz1, hcm, Addr.add]
set_option maxRecDepth 100000 in
set_option maxHeartbeats 4000000 in
theorem hFoldAllN (R C : Nat) (p : Option Addr) (N cap : Nat) (f : Nat → Nat → En) (w : World) (h : Mx 4 cellsN w R C p N cap f) (hRC : R ≤ C) :
  Calls Tryz.prog 103 #[mV R C p N cap] w fun e w' => ∃ p' cap', e = .returned (.tuple #[mV R R p' (R * R : Nat) cap', .bool true]) ∧ Mx 4 cellsN w' R R p' (R * R) cap' (foldN R C f) ∧ Bl w w' := by
 obtain ⟨i0, hi, hz0, hz1, hz2⟩ := info_parts Tryz.info_TN
 obtain ⟨j0, hji, jz0, jz1, jz2⟩ := info_parts Tryz.info_N
 refine (callsIn_wide (n := 8)).1 ?_
 have hd := h.1
 have hfit := h.fit
 have hR16 := hd.r2
 have hR1 := hd.r1
 have hC16 := hd.c2
 have HM := hideP h
 obtain ⟨W, hW⟩ : ∃ W, W = (w.alloc (.cells #[.int .i64 R, .int .i64 C, .slice p N cap] 48)).alloc (.cells #[.int .i64 0, .int .i64 0, .slice none 0 0] 48) := ⟨_, rfl⟩
 have b0 : Bl w W := by rw [hW]; exact ((Bl.refl _).alloc _).alloc _
 have m0 : MBox W w.heap.size R C p N cap := by rw [hW]; exact (MBox.new w _ _ _ _ _ _).later ((Bl.refl _).alloc _)
 have x0 : MBox W (w.heap.size + 1) 0 0 none 0 0 := by rw [hW]; have := MBox.new (w.alloc (.cells #[.int .i64 R, .int .i64 C, .slice p N cap] 48)) 0 0 none 0 0 48; rw [World.size_alloc] at this; exact this
 have hs0 : W.heap.size = w.heap.size + 1 + 1 := by rw [hW]; simp
 have HW := hideP hW
 clear hW h hd
 refine callsIn_of_wp_marks Tryz.func103 rfl trivial ?_ rfl
 refine wpIn_wide.2 ?_
 simp only [Tryz.ntmps103, List.size_toArray, List.length_cons, List.length_nil, Nat.reduceAdd, Nat.reduceSub, Array.replicate_succ, Array.replicate_zero, List.push_toArray, List.append_toArray, List.nil_append, List.cons_append]
 go_wp2_with fail
 rw [← HW.out]
 refine (mRightN _ _ _ _ _ _).mono ?_
 rintro e w1 ⟨rfl, h1⟩
 rw [hfit]
 have m1 := m0.later h1
 have x1 := x0.later h1
 obtain ⟨c0, c1, c2, f0, f1, f2, lt⟩ := id m1
 obtain ⟨W1, hW1⟩ : ∃ W1, W1 = w1.alloc (.cells #[.slice none 0 0] 166) := ⟨_, rfl⟩
 have b1 : Bl w1 W1 := by rw [hW1]; exact (Bl.refl _).alloc _
 have bx1 : Boxed W1 w1.heap.size 166 (.slice none 0 0) := by rw [hW1]; exact Boxed.new w1 _ _
 have hs1 : W1.heap.size = w1.heap.size + 1 := by rw [hW1]; simp
 have HW1 := hideP hW1
 clear hW1
 go_wp2_with fail
 rw [← HW1.out]
 have bw1 : Bl w w1 := b0.trans h1
 refine (mAllN R C p N cap f W1 (HM.out.later (bw1.trans b1))).mono ?_
 rintro e w2 ⟨B2, p2, cap2, rfl, hK2, h2⟩
 have HK2 := hideP hK2
 have b12 : Bl w1 w2 := b1.trans h2
 have hs2 : w1.heap.size + 1 ≤ w2.heap.size := by have := h2.size; omega
 have bx2 := boxed_bl bx1 h2
 clear hK2 c0 c1 c2 f0 f1 f2 lt
 go_wp2_with fail
 refine (wpIn_wide (n := 8)).1 (rangeW rfl (by omega) (gf := 108) (lb := #[.pointer (some ⟨B2, 0, none⟩)]) rfl trivial (enters_of Tryz.func108 (by kernel_rfl) rfl)
  (seqMZN 7 B2 _ w2.heap.size R C p2 N cap2 f w2 (Nat.le_refl _) HK2.out) (fun x A B h => h.1) (fun h k => h.trans k) (span_b (Nat.le_refl _)) (fun _ => rfl)
  (fun (pre : List RowX) U => (∃ v, Boxed U w1.heap.size 166 v ∧ U.ownsRow w1.heap.size 46 1 v pre.length (pre.flatMap (hdC C)) ∧ ((∀ b, v.ownBlock = some b → w2.heap.size ≤ b) ∧ ∀ y ∈ pre, v.ownBlock ≠ (rowV C y).ownBlock)) ∧ (RowsZ 4 cellsN w2.heap.size R C f pre U ∧ (Below w1.heap.size w1 U ∧ w2.heap.size ≤ U.heap.size)))
  (fun _ _ _ => False)
  (OwnFrom.and (Own.from (holdsRow_own w1.heap.size w1.heap.size 166 46 1 (fun pre : List RowX => pre.length) (fun pre : List RowX => pre.flatMap (hdC C)) (fun pre v => (∀ b, v.ownBlock = some b → w2.heap.size ≤ b) ∧ ∀ y ∈ pre, v.ownBlock ≠ (rowV C y).ownBlock)) _) (OwnFrom.and (rowsZ_own cellsN_len (by omega) _ _ _ _ HM.out.1.c1 f) (OwnFrom.and (ownFrom_below (Nat.le_refl _) b12.size) (own_size _ _))))
  (fun _ _ _ _ _ hs _ _ => hs)
  ⟨⟨_, bx2, ⟨rfl, .inl ⟨rfl, rfl⟩⟩, nofun, nofun⟩, ⟨nofun, List.Pairwise.nil⟩, b12, Nat.le_refl _⟩
  (fun a pre x a' U => RwZ 4 cellsN U w2.heap.size (rowV C x) (rowM C f x.1) ∧ (∃ v, Boxed U w1.heap.size 166 v ∧ v.ownBlock ≠ (rowV C x).ownBlock) ∧ (x.1 < R ∧ (∀ y ∈ pre, (rowV C y).ownBlock ≠ (rowV C x).ownBlock) ∧ a' = { tmps := (((a.tmps.setIfInBounds 24 (.int .i64 x.1)).setIfInBounds 25 (rowV C x)).setIfInBounds 6 (rowV C x)), defers := [] }))
  (fun pre x a' _ X Y row hs hg hr => ⟨hs.1.own cellsN_len (by omega) (by intro e; have := congrArg List.length e; rw [rowM_len] at this; simp at this; have := HM.out.1.c1; omega) hg (fun r e => (hr r e).2), (by
   obtain ⟨v, hv, hne⟩ := hs.2.1
   refine ⟨v, hv.kept hg (fun e => ?_), hne⟩
   obtain ⟨_, o, ho, hc⟩ := hr _ e.symm
   rw [show X.heap[w1.heap.size]? = _ from hv] at ho; cases ho; cases hc), hs.2.2⟩)
  ?assign ?body ?done ?stop)
 case assign =>
  rintro l pre x W0 U K' ⟨⟨v0, hv0, hrow0, hG0⟩, hrows0, hb0, hsz0⟩ ⟨hbU, hxR, hrz, hcc⟩ hI hK'
  have HK3 := hideP hK'
  have HI := hideP hI
  obtain ⟨bx, capx, ex, _, hlo, _⟩ := id hrz
  have HRZ := hideP (hrz.base hsz0)
  have own : (rowV C x).ownBlock = some bx := by rw [ex]; rfl
  have HV := hideP (show ∃ v, Boxed U w1.heap.size 166 v ∧ v.ownBlock ≠ (rowV C x).ownBlock from ⟨v0, boxed_bl hv0 hbU, by
   rw [own]
   intro e
   have := (hrow0.lt bx e).2
   omega⟩)
  have HN := hideP (show ∀ y ∈ pre, (rowV C y).ownBlock ≠ (rowV C x).ownBlock from fun y hy e => by
   obtain ⟨b, c, e2, _, _, hb, _⟩ := (hrows0.1 y hy).1
   rw [own, e2] at e
   have : b = bx := by cases e; rfl
   omega)
  clear hK' hI hrz hv0 hrow0 hG0 hrows0 hb0 own ex
  gi_wp2
  refine HK3.out _ _ (KeepsFrom.refl _ _) (Span.refl _ _ _) HI.out ⟨HRZ.out, HV.out, hxR, HN.out, ?_⟩
  simp only [List.setIfInBounds_toArray, List.set_cons_zero, List.set_cons_succ]
 case body =>
  rintro l pre x a' U hl' ⟨r, hr'⟩ ⟨⟨v0, hv0, hrow, hG1, hG2⟩, hrows, hbU, hsU⟩ ⟨hrz, ⟨v1, hv1, hne1⟩, hxR, hdis, rfl⟩ hlt
  simp only [List.setIfInBounds_toArray, List.set_cons_zero, List.set_cons_succ]
  have hv01 : v1 = v0 := by
   have e1 := hv1.cell
   rw [hv0.cell] at e1
   exact (Option.some.inj e1).symm
  subst hv01
  have hne0 : some w1.heap.size ≠ v1.ownBlock := hv0.not_row (by decide) hrow
  have HRS := hideP hrows
  have HRZ := hideP hrz
  have HD := hideP hdis
  have HG1 := hideP hG1
  have HG2 := hideP hG2
  have cb := hv0.cell
  have kU : Bl U (U.alloc (.cells #[rowV C x] 46)) := (Bl.refl _).alloc _
  have hvu := boxed_bl hv0 kU
  have hrowu := hrow.alloc (.cells #[rowV C x] 46)
  clear hrows hrz hdis hG1 hG2
  gi_wp2_with (gi_at_builtin; refine wpListIn_append_own_at _ rfl _ _ 166 rfl w1.heap.size 46 i0 (.slice none 0 0) 1 24 Tryz.underlying166 hi hz0 hz1 hz2 rfl (by decide) v1 pre.length (pre.flatMap (hdC C)) rfl hrowu ⟨U.heap.size, 0, none⟩ 1 1 [rowV C x] rfl rfl (cell_one_new _ _ _) (by intro u hu; simp at hu; subst hu; rfl) (by unfold maxLen; omega) (by omega) (by simp; omega) ?_; intro v3 w3 hown3 hgrow3 hnil3 hat3; obtain ⟨g3, c3, rfl⟩ := own_slice8 hown3 (Nat.succ_pos _); have hv3 := hvu.kept hgrow3 hne0; have e3 := hv3.cell; have f3 := hv3.frozen)
  obtain ⟨hv5, hv6, hr6, hk6, hb6⟩ := boxed_appended hvu (by decide) hrowu (by simp; omega) (Nat.le_refl _) hown3 hgrow3
  have hg3 := hgrow3.size
  have e1 : pre ++ [x] = pre ++ [x] := rfl
  refine ⟨(kU.keeps _).trans (hk6.from _), span_appended kU hsU (fun g hg => .inr (HG1.out g hg)) hgrow3 (by omega), ⟨_, hv6, ?_, ?_, ?_⟩, ⟨?_, ?_⟩, ?_, ?_⟩
  ·rw [List.length_append, List.flatMap_append]
   simpa using hr6
  ·intro b hb
   rcases hat3 with e | e
   ·exact HG1.out b (by rw [← e]; exact hb)
   ·rw [e] at hb
    cases hb
    simp
    omega
  ·intro y hy e
   rcases hat3 with e2 | e2
   ·rw [e2] at e
    rcases List.mem_append.1 hy with h | h
    ·exact HG2.out y h e
    ·have : y = x := by simpa using h
     subst this
     exact hne1 e
   ·rw [e2] at e
    rcases List.mem_append.1 hy with h | h
    ·obtain ⟨b, c, e4, _, _, hb, _⟩ := (HRS.out.1 y h).1
     rw [e4] at e
     have : (U.alloc (.cells #[rowV C x] 46)).heap.size = b := by cases e; rfl
     simp at this
     omega
    ·have : y = x := by simpa using h
     subst this
     obtain ⟨b, c, e4, _, _, hb, _⟩ := HRZ.out
     rw [e4] at e
     have : (U.alloc (.cells #[.slice (some ⟨b, 0, none⟩) (rowM C f y.1).length c] 46)).heap.size = b := Option.some.inj e
     simp at this
     omega
  ·intro y hy
   rcases List.mem_append.1 hy with h | h
   ·refine ⟨((HRS.out.1 y h).1.later kU).beside hgrow3 (fun g hg => ⟨fun e => HG2.out y h (e.trans hg.symm), fun e => ?_⟩), (HRS.out.1 y h).2⟩
    obtain ⟨b, c, e4, _, hlo, hb, _⟩ := (HRS.out.1 y h).1
    rw [e4] at hg
    have : b = g := by cases hg; rfl
    omega
   ·have : y = x := by simpa using h
    subst this
    refine ⟨(HRZ.out.later kU).beside hgrow3 (fun g hg => ⟨fun e => hne1 (e.trans hg.symm), fun e => ?_⟩), hxR⟩
    obtain ⟨b, c, e4, _, hlo, hb, _⟩ := HRZ.out
    rw [e4] at hg
    have : b = g := by cases hg; rfl
    omega
  ·refine List.pairwise_append.2 ⟨HRS.out.2, List.pairwise_singleton _ _, fun y hy z hz => ?_⟩
   have : z = x := by simpa using hz
   subst this
   exact HD.out y hy
  ·exact hbU.trans ((kU.mono (by have := hbU.size; omega)).trans hb6)
  ·simp; have := kU.size; omega
 case stop =>
  rintro D' c pre U _ _ h _
  exact h.elim
 case done =>
  rintro Dm zs U hD hS ⟨⟨v, hv, hrow, hG1, hG2⟩, hrows, hbU, hsU⟩ hKD
  obtain ⟨H, hc, B, cp, rfl, hRc, hH, tb, hBlo⟩ := Tbl.of hS hR1 hrow hrows hG2
  have HH2 := hG1 H rfl
  have hDw : w1.heap.size ≤ Dm := by omega
  have HDB := hideP (show ¬ InT B R Dm from by
   rintro ⟨i, hi', e⟩
   have hc0 := tb.cells i 0 hi' HM.out.1.c1 0 _ rfl
   unfold World.cell? at hc0
   simp only at hc0
   rw [← e, hKD] at hc0
   cases hc0)
  have HHB := hideP (show ¬ InT B R w1.heap.size from by
   rintro ⟨i, hi', e⟩
   have := hBlo i hi'
   omega)
  have HMB := hideP (show ¬ InT B R w.heap.size from by
   rintro ⟨i, hi', e⟩
   have := hBlo i hi'
   have := bw1.size
   omega)
  have HXB := hideP (show ¬ InT B R (w.heap.size + 1) from by
   rintro ⟨i, hi', e⟩
   have := hBlo i hi'
   have := h1.size
   omega)
  have HBL := hideP (show ∀ g, InT B R g → w.heap.size ≤ g from by
   rintro g ⟨i, hi', e⟩
   have := hBlo i hi'
   have := bw1.size
   omega)
  have bU : Bl w1 U := hbU
  have mU := m1.later bU
  have xU := x1.later bU
  have HT0 := hideP tb
  have hdl : Dm < U.heap.size := (Array.getElem?_eq_some_iff.1 hKD).1
  have HKD := hideP hKD
  have HHV := hideP hv
  have cbU := hv.cell
  have hw1U : w1.heap.size < U.heap.size := hv.lt
  clear tb hKD hv hrow hrows hS hG1 hG2 hbU
  go_wp2_with fail
  go_loopw [32] (fun v wr => ∃ j : Nat, v = .int .i64 j ∧ j ≤ R ∧ Tbl 4 cellsN wr H B cp R C (foldL kdN lowN C f j) ∧ But (InT B R) U wr) (fun v _ => R - (intOf v).toNat)
  case atStart => exact ⟨0, rfl, Nat.zero_le _, HT0.out, But.refl _ _⟩
  case round =>
   obtain ⟨j, rfl, hj, tbj, bt⟩ := hrel
   have HT := hideP tbj
   clear tbj
   have bxr : Boxed wr w1.heap.size 166 (.slice (some ⟨H, 0, none⟩) R hc) := (bt.block _ hw1U HHB.out).trans HHV.out
   have cbr := bxr.cell
   by_cases hlt : j < R
   ·go_wp2_with fail
    refine (hFoldN H hc B cp R C j (foldL kdN lowN C f j) wr HT.out hlt hRC (by omega) hRc).mono ?_
    rintro e w5 ⟨⟨v5, rfl⟩, tb5, bt5⟩
    have HT5 := hideP tb5
    have bt5' := bt.trans bt5
    clear tb5 cbr
    go_wp2
    go_roundw
    case rel => exact ⟨j + 1, by simp, hlt, HT5.out, bt5'⟩
    case measure => simp [intOf]; omega
   ·obtain rfl : j = R := by omega
    obtain ⟨wq, hwq⟩ : ∃ wq : World, wq = wr := ⟨_, rfl⟩
    subst hwq
    obtain ⟨F, hF⟩ : ∃ F, F = foldL kdN lowN C f j := ⟨_, rfl⟩
    rw [← hF] at HT
    have HF := hideP hF
    obtain ⟨rr, hrr⟩ : ∃ rr, rr = j * j := ⟨_, rfl⟩
    have hrr256 : rr ≤ 256 := by rw [hrr]; exact Nat.mul_le_mul hR16 hR16
    have hRR : (j : Int) * (j : Int) = (rr : Int) := by rw [hrr, Int.natCast_mul]
    have HRR := hideP hrr
    have mr : MBox wq w.heap.size j C p N cap := mbox_block mU (bt.block _ mU.lt HMB.out) bt.size
    have xr : MBox wq (w.heap.size + 1) 0 0 none 0 0 := mbox_block xU (bt.block _ xU.lt HXB.out) bt.size
    have HDr := hideP ((bt.block _ hdl HDB.out).trans HKD.out)
    have BWr : Bl w wq := bt.bl (bw1.trans bU) HBL.out
    obtain ⟨c0, c1, c2, f0, f1, f2, lt⟩ := id mr
    clear hF hrr
    go_wp2_with (at_make; refine wpList_make_own _ rfl _ _ 46 rfl wq.heap.size 52 j0 (.agg #[.int .i64 0, .int .i64 0, .int .i64 0, .bool false]) 4 Tryz.underlying46 hji jz0 jz1 .i64 .i64 _ rr rfl rfl (by simp) (by rw [jz2]; omega) (by unfold maxLen; omega) (Nat.le_refl _) ?_; intro w6 hown6 hgrow6; have h6 : Bl wq w6 := ⟨hgrow6.os, hgrow6.tape, hgrow6.output, hgrow6.size, fun k hk => hgrow6.block k hk nofun⟩; have bx6 := boxed_bl bxr h6; have cb6 := bx6.cell; have HO6 := hideP hown6; clear hown6 hgrow6 c0 c1 c2 f0 f1 f2 lt cbr)
    clear cb6
    go_loopw [47, 8] (fun va vb wr => ∃ i : Nat, va = .int .i64 i ∧ i ≤ j ∧ wr.ownsRow wq.heap.size 52 4 vb (mk i j F).length ((mk i j F).flatMap cellsN) ∧ Bl wq wr) (fun va _ _ => j - (intOf va).toNat)
    case atStart => exact ⟨0, rfl, Nat.zero_le _, HO6.out, h6⟩
    case round =>
     obtain ⟨i, rfl, hi', hown, b8⟩ := hrel
     have HO := hideP hown
     clear hown
     have m8 := mr.later b8
     by_cases hil : i < j
     ·have hd8 := (bl_cell b8 _ _ HT.out.hlt).trans (HT.out.hdr i hil)
      have hcap8 := HT.out.cap i hil
      have RF := (HT.out.later b8).first (q := j) hil hRC
      obtain ⟨bi, hbi⟩ : ∃ bi, bi = B i := ⟨_, rfl⟩
      obtain ⟨ci, hci⟩ : ∃ ci, ci = cp i := ⟨_, rfl⟩
      rw [← hbi, ← hci] at hd8 RF
      rw [← hci] at hcap8
      have SRC := hideP (show ∀ t u, ((rowM j F i).flatMap cellsN)[t]? = some u → wr.cell? ((⟨bi, 0, none⟩ : Addr).add t) = some u from by
       rcases RF with ⟨_, _, _, e0, _⟩ | ⟨b9, o9, cap9, e9, _, _, hx⟩
       ·have := congrArg List.length e0; rw [rowM_len] at this; simp at this; omega
       ·simp only [Value.slice.injEq, Option.some.injEq, Addr.mk.injEq] at e9
        obtain ⟨⟨rfl, rfl, _⟩, _, _⟩ := e9
        exact flat_cells cellsN_len hx)
      have sl := fun u => Tryz.frontN bi C ci j u (by omega) (by omega)
      have hlen : (mk i j F).length ≤ 256 := by
       rw [mk_len]
       exact Nat.mul_le_mul (show i ≤ 16 by omega) hR16
      obtain ⟨c0, c1, c2, f0, f1, f2, lt⟩ := id m8
      clear hbi hci RF
      go_wp2_with (at_builtin; refine wpList_append_own _ rfl _ _ 46 rfl wq.heap.size 52 j0 (.agg #[.int .i64 0, .int .i64 0, .int .i64 0, .bool false]) 4 32 Tryz.underlying46 hji jz0 jz1 jz2 rfl (by decide) _ _ _ rfl HO.out ⟨bi, 0, none⟩ j ci ((rowM j F i).flatMap cellsN) rfl (by rw [flat_len cellsN_len, rowM_len]) SRC.out (flat_one oneN_cells _) (by unfold maxLen; omega) (by omega) b8.size ?_; intro v9 w9 hown9 hgrow9 _)
      have HO9 := hideP (show w9.ownsRow wq.heap.size 52 4 v9 (mk (i + 1) j F).length ((mk (i + 1) j F).flatMap cellsN) by
       rw [mk_succ, List.length_append, List.flatMap_append, rowM_len]
       exact hown9)
      have b9 : Bl wq w9 := Below.grown b8 hgrow9 b8.size (fun k hk => (HO.out.lt k hk).1)
      clear hown9 hgrow9 SRC sl hd8 c0 c1 c2 f0 f1 f2 lt
      go_wp2
      go_roundw
      case rel => exact ⟨i + 1, by simp, hil, HO9.out, b9⟩
      case measure => simp [intOf]; omega
     ·obtain rfl : i = j := by omega
      have RW8 := Rw.of_own cellsN_len HO.out
      obtain ⟨p8, c8, ev8, _, _⟩ := RW8.cut
      rw [mk_len, ← HRR.out] at ev8
      subst ev8
      have HMX := hideP (show Mx 4 cellsN wr i i p8 rr c8 F from ⟨⟨hR1, hR16, hR1, hR16⟩, HRR.out, RW8.q⟩)
      obtain ⟨c0, c1, c2, f0, f1, f2, lt⟩ := id m8
      have BW8 : Bl w wr := BWr.trans b8
      have hD8 := (Below.block b8 Dm (Array.getElem?_eq_some_iff.1 HDr.out).1).trans HDr.out
      have HD8 := hideP hD8
      clear RW8 hD8
      go_wp2_with fail
      refine (hSignsN i p8 rr c8 F wr HMX.out).mono ?_
      rintro e w9 ⟨p9, c9, rfl, ⟨hm9, hf9⟩, h9⟩
      have HM9 := hideP hm9
      have HF9 := hideP hf9
      have x9 := (xr.later b8).later h9
      have BW9 : Bl w w9 := BW8.trans h9
      have hD9 := (Below.block h9 Dm (Array.getElem?_eq_some_iff.1 HD8.out).1).trans HD8.out
      have HD9 := hideP hD9
      clear hm9 hf9 hD9 c0 c1 c2 f0 f1 f2 lt
      obtain ⟨c0, c1, c2, f0, f1, f2, lt⟩ := id x9
      go_wp2
      obtain ⟨W9, hW9⟩ : ∃ W9, W9 = ((w9.setCell ⟨w.heap.size + 1, 0, none⟩ (.int .i64 i)).setCell ⟨w.heap.size + 1, 1, none⟩ (.int .i64 i)).setCell ⟨w.heap.size + 1, 2, none⟩ (.slice p9 rr c9) := ⟨_, rfl⟩
      have fl := x9.fill i i p9 rr c9
      have hK9 : W9.heap[Dm]? = some (.deferred (some [])) := by
       rw [hW9]
       exact (KeepsOthers.setCell _ _ _).same Dm _ ((KeepsOthers.setCell _ _ _).same Dm _ ((KeepsOthers.setCell _ _ _).same Dm _ HD9.out rfl) rfl) rfl
      have hm9 : Mx 4 cellsN W9 i i p9 rr c9 (signsH kdN (fun j => lowN (F j j)) F) := by
       rw [hW9]
       exact mx_ne7 HM9.out (fun b hb => by have := HF9.out b hb; have := (xr.later b8).lt; omega) _ _ _
      have B9 : Bl w W9 := by rw [hW9]; exact Bl.put3 BW9 (Nat.le_succ _) _ _ _
      rw [← hW9] at fl
      refine ⟨by simp, .inl ⟨_, _, rfl, run_takeDeferred (by rw [← hW9]; exact hK9), ?_⟩⟩
      rw [← hW9]
      have gk := grownBy_putObj' W9 Dm (.deferred none)
      have gr : ∀ r, some Dm = some r → ∃ o : Obj, W9.heap[r]? = some o ∧ o.isCells = false := fun r e => by cases e; exact ⟨_, hK9, rfl⟩
      have d0 := cell_kept fl.c0 gk gr
      have d1 := cell_kept fl.c1 gk gr
      have d2 := cell_kept fl.c2 gk gr
      refine ⟨.tuple #[mV i i p9 rr c9, .bool true], ?_, ⟨p9, c9, by rw [HRR.out], ?_, ?_⟩⟩
      ·simp [results, Tryz.f103, go_sem, d0, d1, d2]
      ·rw [← HRR.out]
       unfold foldN
       rw [← HF.out]
       exact mx_own8 hm9 gk gr
      ·exact Below.trans B9 (belowK_b (w := w) (Nat.le_refl _) W9 Dm _ _ (by have := bw1.size; omega) hK9 rfl rfl)
end Go.Proofs.YtljmggemdkfbiaaGreat
namespace Go.Proofs.YtljmggemdkfbiaaGreat
open Go.RowKit
set_option linter.unusedSimpArgs false
set_option linter.unusedVariables false
def predO (n : Nat) (f s g : Nat → Nat → En) : Nat → Nat → En := foldN n (n + n) (besideM n (mulMN n f s) g)
set_option maxRecDepth 100000 in
set_option maxHeartbeats 4000000 in
theorem rPredictN (n N : Nat) (px : Option Addr) (cx : Nat) (x : Nat → En) (p : Option Addr) (cap : Nat) (S : Nat → Nat → En) (pf : Option Addr) (cf : Nat) (f : Nat → Nat → En) (pg : Option Addr) (cg : Nat) (g : Nat → Nat → En) (w : World)
  (hx : Rq 4 cellsN w (.slice px n cx) (linJ n x)) (hP : Mx 4 cellsN w n n p N cap S) (hf : Mx 4 cellsN w n n pf N cf f) (hg : Mx 4 cellsN w n n pg N cg g) (h4 : n ≤ 4) :
  Calls Tryz.prog 57 #[sJ px n cx n n p N cap, mV n n pf N cf, mV n n pg N cg] w fun e w' => ∃ q c p' c', e = .returned (.tuple #[sJ q n c n n p' N c', .bool true]) ∧ (Rw 4 cellsN w' (.slice q n c) (linJ n (appJ kdN n f x)) ∧ Mx 4 cellsN w' n n p' N c' (predO n f S g)) ∧ Bl w w' := by
 have hfit := fitJ_dim hP.1 hP.2.1 h4
 have hn1 : 1 ≤ n := hP.1.r1
 have hNn := hideP hP.2.1
 obtain ⟨E, hE⟩ : ∃ E, E = n + n := ⟨_, rfl⟩
 obtain ⟨N2, hN2⟩ : ∃ N2, N2 = n * E := ⟨_, rfl⟩
 obtain ⟨W, hW⟩ : ∃ W, W = (((w.alloc (.cells #[.slice px n cx, .int .i64 n, .int .i64 n, .slice p N cap] 50)).alloc (.cells #[.int .i64 n, .int .i64 n, .slice pf N cf] 48)).alloc (.cells #[.int .i64 n, .int .i64 n, .slice pg N cg] 48)).alloc (.cells #[.slice none 0 0, .int .i64 0, .int .i64 0, .slice none 0 0] 50) := ⟨_, rfl⟩
 have b0 : Bl w W := by rw [hW]; exact ((((Bl.refl _).alloc _).alloc _).alloc _).alloc _
 have s0 : SBox W w.heap.size px n cx n n p N cap := by rw [hW]; exact (SBox.new w _ _ _ _ _ _ _ _ _).later ((((Bl.refl _).alloc _).alloc _).alloc _)
 have mf0 : MBox W (w.heap.size + 1) n n pf N cf := by rw [hW]; have := MBox.new (w.alloc (.cells #[.slice px n cx, .int .i64 n, .int .i64 n, .slice p N cap] 50)) n n pf N cf 48; rw [World.size_alloc] at this; exact this.later (((Bl.refl _).alloc _).alloc _)
 have mg0 : MBox W (w.heap.size + 1 + 1) n n pg N cg := by rw [hW]; have := MBox.new ((w.alloc (.cells #[.slice px n cx, .int .i64 n, .int .i64 n, .slice p N cap] 50)).alloc (.cells #[.int .i64 n, .int .i64 n, .slice pf N cf] 48)) n n pg N cg 48; rw [World.size_alloc, World.size_alloc] at this; exact this.later ((Bl.refl _).alloc _)
 have z0 : SBox W (w.heap.size + 1 + 1 + 1) none 0 0 0 0 none 0 0 := by rw [hW]; have := SBox.new (((w.alloc (.cells #[.slice px n cx, .int .i64 n, .int .i64 n, .slice p N cap] 50)).alloc (.cells #[.int .i64 n, .int .i64 n, .slice pf N cf] 48)).alloc (.cells #[.int .i64 n, .int .i64 n, .slice pg N cg] 48)) none 0 0 0 0 none 0 0 50; rw [World.size_alloc, World.size_alloc, World.size_alloc] at this; exact this
 have nz0 : NoB W (w.heap.size + 1 + 1 + 1) := by rw [hW]; have := noB_newSN (((w.alloc (.cells #[.slice px n cx, .int .i64 n, .int .i64 n, .slice p N cap] 50)).alloc (.cells #[.int .i64 n, .int .i64 n, .slice pf N cf] 48)).alloc (.cells #[.int .i64 n, .int .i64 n, .slice pg N cg] 48)) 50; rw [World.size_alloc, World.size_alloc, World.size_alloc] at this; exact this
 have hs : W.heap.size = w.heap.size + 1 + 1 + 1 + 1 := by rw [hW]; simp
 have HX := hideP hx
 have HP := hideP hP
 have HFX := hideP hf
 have HGX := hideP hg
 have HE := hideP hE
 have HN2 := hideP hN2
 have HW := hideP hW
 clear hW hx hP hf hg hE hN2
 go_enter Tryz.func57, Tryz.ntmps57
 go_wp2_with fail
 rw [← HW.out]
 refine (rRightN _ _ _ _ _ _ _ _ _).mono ?_
 rintro e w1 ⟨rfl, h1⟩
 rw [hfit]
 obtain ⟨c0, c1, c2, _, _, _, _⟩ := mf0.later h1
 obtain ⟨d0, d1, d2, d3, _, _, _, _, _⟩ := s0.later h1
 go_wp2_with fail
 refine (rFitsN _ _ _ _ _ _ _ _ _).mono ?_
 rintro e w2 ⟨rfl, h2⟩
 rw [hfit]
 clear c0 c1 c2 d0 d1 d2 d3
 obtain ⟨c0, c1, c2, _, _, _, _⟩ := mg0.later (h1.trans h2)
 obtain ⟨d0, d1, d2, d3, _, _, _, _, _⟩ := s0.later (h1.trans h2)
 go_wp2_with fail
 refine (rFitsN _ _ _ _ _ _ _ _ _).mono ?_
 rintro e w3 ⟨rfl, h3⟩
 rw [hfit]
 clear c0 c1 c2 d0 d1 d2 d3
 have b3 : Bl W w3 := h1.trans (h2.trans h3)
 obtain ⟨c0, c1, c2, _, _, _, _⟩ := mf0.later b3
 obtain ⟨d0, d1, d2, d3, _, _, _, _, _⟩ := s0.later b3
 go_wp2_with fail
 refine (mApplyN' n n pf N cf f px cx (linJ n x) w3 (HFX.out.later (b0.trans b3)) (HX.out.later (b0.trans b3)) (linJ_len _ _)).mono ?_
 rintro e w4 ⟨q, c, rfl, hR, hFr, h4'⟩
 have HR := hideP (show Rw 4 cellsN w4 (.slice q n c) (linJ n (appJ kdN n f x)) from hR)
 have b4 : Bl W w4 := b3.trans h4'
 clear c0 c1 c2 d0 d1 d2 d3 hR hFr
 obtain ⟨c0, c1, c2, _, _, _, _⟩ := mf0.later b4
 obtain ⟨d0, d1, d2, d3, _, _, _, _, _⟩ := s0.later b4
 go_wp2_with fail
 refine (mMulN n n n pf N cf f p N cap S N w4 (HFX.out.later (b0.trans b4)) (HP.out.later (b0.trans b4)) hNn.out).mono ?_
 rintro e w5 ⟨p5, c5, rfl, ⟨h5x, _, _⟩, h5⟩
 obtain ⟨W5, hW5⟩ : ∃ W5, W5 = w5.alloc (.cells #[.int .i64 n, .int .i64 n, .slice p5 N c5] 48) := ⟨_, rfl⟩
 have b5' : Bl w5 W5 := by rw [hW5]; exact (Bl.refl _).alloc _
 have k5 : MBox W5 w5.heap.size n n p5 N c5 := by rw [hW5]; exact MBox.new w5 _ _ _ _ _ _
 have n5 : NoB W5 w5.heap.size := by
  rw [hW5]
  intro o y
  have h : (w5.alloc (.cells #[.int .i64 n, .int .i64 n, .slice p5 N c5] 48)).cell? ⟨w5.heap.size, o, none⟩ ≠ some (.bool y) := by
   rcases o with _ | _ | _ | o <;> simp [go_sem]
  exact h
 have b5 : Bl W W5 := b4.trans (h5.trans b5')
 have H5 := hideP (Mx.later h5x b5')
 clear c0 c1 c2 d0 d1 d2 d3 h5x
 obtain ⟨c0, c1, c2, _, _, _, _⟩ := mg0.later b5
 have HW5 := hideP hW5
 rw [hW5] at c0 c1 c2
 clear hW5
 go_wp2_with fail
 rw [← HW5.out]
 refine (mBesideN n n n p5 N c5 (mulMN n f S) pg N cg g E N2 W5 H5.out (HGX.out.later (b0.trans b5)) HE.out (by have := HE.out; omega) HN2.out).mono ?_
 rintro e w6 ⟨p6, c6, rfl, h6x, h6⟩
 have k6 := k5.later h6
 have n6 := n5.later h6 k5.lt
 obtain ⟨W6, hW6⟩ : ∃ W6, W6 = ((w6.setCell ⟨w5.heap.size, 0, none⟩ (.int .i64 n)).setCell ⟨w5.heap.size, 1, none⟩ (.int .i64 E)).setCell ⟨w5.heap.size, 2, none⟩ (.slice p6 N2 c6) := ⟨_, rfl⟩
 have hs5 := (b4.trans h5).size
 have b6 : Bl W W6 := by rw [hW6]; exact Bl.put3 (b5.trans h6) hs5 _ _ _
 have b46 : Bl w4 W6 := by rw [hW6]; exact Bl.put3 ((h5.trans b5').trans h6) h5.size _ _ _
 have k6' : MBox W6 w5.heap.size n E p6 N2 c6 := by rw [hW6]; exact k6.fill _ _ _ _ _
 have H6 := hideP (show Mx 4 cellsN W6 n E p6 N2 c6 (besideM n (mulMN n f S) g) from by rw [hW6]; exact mx_ne7 h6x (noB_mx boolN h6x n6) _ _ _)
 clear c0 c1 c2 h6x H5
 obtain ⟨c0, c1, c2, f0, f1, f2, _⟩ := id k6
 have HW6 := hideP hW6
 clear hW6
 go_wp2_with fail
 rw [← HW6.out]
 refine (hFoldAllN n E p6 N2 c6 (besideM n (mulMN n f S) g) W6 H6.out (by have := HE.out; omega)).mono ?_
 rintro e w7 ⟨p7, c7, rfl, h7x, h7⟩
 rw [show (n * n : Nat) = N from hNn.out.symm] at h7x ⊢
 obtain ⟨W7, hW7⟩ : ∃ W7, W7 = w7.alloc (.cells #[.int .i64 n, .int .i64 n, .slice p7 N c7] 48) := ⟨_, rfl⟩
 have b7' : Bl w7 W7 := by rw [hW7]; exact (Bl.refl _).alloc _
 have k7 : MBox W7 w7.heap.size n n p7 N c7 := by rw [hW7]; exact MBox.new w7 _ _ _ _ _ _
 have b7 : Bl W W7 := b6.trans (h7.trans b7')
 have H7 := hideP (show Mx 4 cellsN W7 n n p7 N c7 (predO n f S g) from by unfold predO; rw [← HE.out]; exact Mx.later h7x b7')
 have HR7 := hideP (HR.out.later (b46.trans (h7.trans b7')))
 clear c0 c1 c2 f0 f1 f2 h7x H6
 obtain ⟨c0, c1, c2, c3, f0, f1, f2, f3, lt⟩ := z0.later b7
 obtain ⟨e0, e1, e2, _, _, _, _⟩ := id k7
 have n7 := nz0.later b7 z0.lt
 have BS := Tryz.buildRN q n c n n p7 N c7 W7
 have HW7 := hideP hW7
 rw [hW7] at c0 c1 c2 c3 f0 f1 f2 f3 e0 e1 e2 BS
 clear hW7
 go_wp2
 simp [bodyPost, results, Tryz.results57, go_sem, c0, c1, c2, c3]
 rw [← HW7.out]
 exact ⟨q, c, p7, c7, by simp, ⟨HR7.out.but (but4N _ _ _ _ _ _) (fun g hg => noB_rwN HR7.out hn1 n7 g hg), Mx.but H7.out (but4N _ _ _ _ _ _) (fun g hg => Ne.symm (noB_mx boolN H7.out n7 g hg))⟩, Bl.put4 (b0.trans b7) (by omega) _ _ _ _⟩
theorem Tryz.nnFields : Tryz.prog.underlying 52 = some (.struct (Tryz.prog.fieldsOf 52)) := by kernel_rfl
theorem Tryz.nnHeld : Tryz.prog.stoodInHeld 52 = false := by kernel_rfl
theorem Tryz.nnList : (Tryz.prog.fieldsOf 52).toList.map (fun f => (f.name, f.type, f.offset)) = [("V", 3, 0), ("Low", 3, 1), ("High", 3, 2), ("Bad", 4, 3)] := by kernel_rfl
theorem whole8N_call (R C : Nat) (p : Option Addr) (n cap : Nat) (ns : List Int) (w : World) (hr : Rq 1 cI w (.slice p n cap) ns) (hd : Dim R C) (hn : n = R * C) (hl : ns.length = n) :
  Calls Tryz.prog 33 #[.int .i64 R, .int .i64 C, .slice p n cap] w fun e w' => ∃ p' cap', e = .returned (.tuple #[mV R C p' n cap', .bool true]) ∧ Mx 4 cellsN w' R C p' n cap' (fun i k => wholeN (ofL C ns i k)) ∧ Bl w w' := by
 refine (mWholeN R C p n cap ns w hr (fitB_dim hd hn) hl).mono ?_
 rintro e w' ⟨p', cap', rfl, hR, hb⟩
 refine ⟨p', cap', rfl, ⟨hd, hn, ?_⟩, hb⟩
 have e := ofL_mk (R := R) (M := C) (ns := ns) (by rw [hl, hn])
 rw [e, mk_map] at hR
 exact hR.q
def laneX (m : Nat) (Fm X : List Int) : Nat → En := appJ kdN m (fun i k => wholeN (ofL m Fm i k)) (fun i => wholeN (X.getD i 0))
def laneS (m : Nat) (Ro Fm Gm : List Int) : Nat → Nat → En := predO m (fun i k => wholeN (ofL m Fm i k)) (clrN (fun i k => wholeN (ofL m Ro i k))) (fun i k => wholeN (ofL m Gm i k))
def laneR (m : Nat) (Ro Fm Gm H : List Int) (r : En) : StO En := runO kdN m (laneS m Ro Fm Gm) (fun i => wholeN (H.getD i 0)) r m
def laneE (m : Nat) (X Fm H : List Int) (z : En) : En := surpJ kdN m (laneX m Fm X) (fun i => wholeN (H.getD i 0)) z
def laneUX (m : Nat) (X Ro Fm Gm H : List Int) (r z : En) (i : Nat) : En := addE (laneX m Fm X i) (mulE (divE ((laneR m Ro Fm Gm H r).e i) (laneR m Ro Fm Gm H r).a) (laneE m X Fm H z))
def updL (lo n N : Nat) (x : Nat → En) (P : Nat → Nat → En) (e a : En) : Upd (Option Addr × Nat × Option Addr × Nat) where
 v0 D := sJ D.1 n D.2.1 n n D.2.2.1 N D.2.2.2
 v1 _ := newsVN e a
 v2 _ := .bool true
 dat D u := Rw 4 cellsN u (.slice D.1 n D.2.1) (linJ n x) ∧ Mx 4 cellsN u n n D.2.2.1 N D.2.2.2 P ∧ Fresh lo (.slice D.1 n D.2.1) ∧ Fresh lo (.slice D.2.2.1 N D.2.2.2)
 off D b := (∀ g, (Value.slice D.1 n D.2.1).ownBlock = some g → g ≠ b) ∧ ∀ g, (Value.slice D.2.2.1 N D.2.2.2).ownBlock = some g → g ≠ b
 za u b := SBox u b none 0 0 0 0 none 0 0
 zb u b := NBoxN u b zeroE zeroE
 sa D u b := SBox u b D.1 n D.2.1 n n D.2.2.1 N D.2.2.2
 sb _ u b := NBoxN u b e a
theorem updL_ok (lo n N : Nat) (x : Nat → En) (P : Nat → Nat → En) (e a : En) : UpdOk (updL lo n N x P e a) where
 dat_bl D u u' h k := ⟨h.1.later k, Mx.later h.2.1 k, h.2.2⟩
 dat_off D u b h hb := ⟨fun g hg => by have := h.1.lt g hg; omega, fun g hg => by have := mx_ltN h.2.1 g hg; omega⟩
 za_heap u u' b h _ e hs := SBox.heap h e hs
 zb_heap u u' b h _ e hs := NBoxN.heap h e hs
 sa_heap D u u' b h _ e hs := SBox.heap h e hs
 sb_heap D u u' b h _ e hs := NBoxN.heap h e hs
 ne0 u b h k := s_not_nN h k
 ne1 D u b h k := s_not_nN h k
 ne2 D u b h k := s_not_nN h k
set_option maxRecDepth 100000 in
set_option maxHeartbeats 8000000 in
theorem lanes10_any (m N : Nat) (r z : Int) (px pr pf pg ph : Option Addr) (cx cr cf cg ch : Nat) (X Ro Fm Gm H : List Int) (w : World) (hX : Rq 1 cI w (.slice px m cx) X) (hR : Rq 1 cI w (.slice pr N cr) Ro) (hF : Rq 1 cI w (.slice pf N cf) Fm) (hG : Rq 1 cI w (.slice pg N cg) Gm) (hH : Rq 1 cI w (.slice ph m ch) H)
  (lX : X.length = m) (lR : Ro.length = N) (lF : Fm.length = N) (lG : Gm.length = N) (lH : H.length = m) (m1 : 1 ≤ m) (m3 : m ≤ 3) (hN : N = m * m) (Rr Zz : En) (hRr : ptE (foN r) (foB r) = Rr) (hZz : ptE (foN z) (foB z) = Zz) :
  Calls Tryz.prog 18 #[.agg #[.int .i64 m, .slice px m cx, .slice pr N cr, .slice pf N cf, .slice pg N cg, .slice ph m ch, .int .i64 r, .int .i64 z]] w fun e w' => ∃ q c p' c', e = .returned (.tuple #[sJ q m c m m p' N c', newsVN (laneE m X Fm H Zz) ((laneR m Ro Fm Gm H Rr).a), .bool true]) ∧ (Rw 4 cellsN w' (.slice q m c) (linJ m (laneUX m X Ro Fm Gm H Rr Zz)) ∧ Mx 4 cellsN w' m m p' N c' ((laneR m Ro Fm Gm H Rr).s)) ∧ Bl w w' := by
 have fm : Tryz.prog.follows .mixedOrders = true := by kernel_rfl
 have egW := enters_of Tryz.func35 (by kernel_rfl) rfl
 have egN := enters_of Tryz.func34 (by kernel_rfl) rfl
 have egU := enters_of Tryz.func36 (by kernel_rfl) rfl
 have egO := enters_of Tryz.func37 (by kernel_rfl) rfl
 obtain ⟨one, hone⟩ : ∃ x : En, x = ptE 0 (frB 0) := ⟨_, rfl⟩
 have hm4 : m ≤ 4 := by omega
 obtain ⟨W, hW⟩ : ∃ W, W = ((w.alloc (.cells #[.int .i64 m, .slice px m cx, .slice pr N cr, .slice pf N cf, .slice pg N cg, .slice ph m ch, .int .i64 r, .int .i64 z] 24)).alloc (.cells #[.slice none 0 0, .int .i64 0, .int .i64 0, .slice none 0 0] 50)).alloc (.cells #[.int .i64 0, .int .i64 0, .int .i64 0, .bool false, .int .i64 0, .int .i64 0, .int .i64 0, .bool false] 54) := ⟨_, rfl⟩
 have b0 : Bl w W := by rw [hW]; exact (((Bl.refl _).alloc _).alloc _).alloc _
 have lt0 : w.heap.size < W.heap.size := by rw [hW]; simp; omega
 have sz0 : SBox W (w.heap.size + 1) none 0 0 0 0 none 0 0 := by rw [hW]; have := SBox.new (w.alloc (.cells #[.int .i64 m, .slice px m cx, .slice pr N cr, .slice pf N cf, .slice pg N cg, .slice ph m ch, .int .i64 r, .int .i64 z] 24)) none 0 0 0 0 none 0 0 50; rw [World.size_alloc] at this; exact this.later ((Bl.refl _).alloc _)
 have nz0 : NBoxN W (w.heap.size + 1 + 1) zeroE zeroE := by rw [hW]; have := NBoxN.new ((w.alloc (.cells #[.int .i64 m, .slice px m cx, .slice pr N cr, .slice pf N cf, .slice pg N cg, .slice ph m ch, .int .i64 r, .int .i64 z] 24)).alloc (.cells #[.slice none 0 0, .int .i64 0, .int .i64 0, .slice none 0 0] 50)) zeroE zeroE 54; rw [World.size_alloc, World.size_alloc] at this; exact this
 have HC := hideP (show ∀ u, Bl W u → u.cell? ⟨w.heap.size, 0, none⟩ = some (.int .i64 m) ∧ u.cell? ⟨w.heap.size, 1, none⟩ = some (.slice px m cx) ∧ u.cell? ⟨w.heap.size, 2, none⟩ = some (.slice pr N cr) ∧ u.cell? ⟨w.heap.size, 3, none⟩ = some (.slice pf N cf) ∧ u.cell? ⟨w.heap.size, 4, none⟩ = some (.slice pg N cg) ∧ u.cell? ⟨w.heap.size, 5, none⟩ = some (.slice ph m ch) ∧ u.cell? ⟨w.heap.size, 6, none⟩ = some (.int .i64 r) ∧ u.cell? ⟨w.heap.size, 7, none⟩ = some (.int .i64 z) from fun u hu => by
  refine ⟨?_, ?_, ?_, ?_, ?_, ?_, ?_, ?_⟩ <;> (rw [bl_cell hu _ _ lt0, hW]; simp [go_sem]))
 have hs0 : W.heap.size = w.heap.size + 1 + 1 + 1 := by rw [hW]; simp
 have HW := hideP hW
 have HON := hideP hone
 have HRr := hideP hRr
 have HZz := hideP hZz
 have HRR := hideP hR
 have HFR := hideP hF
 have HGR := hideP hG
 have HLR := hideP lR
 have HLF := hideP lF
 have HLG := hideP lG
 have HNN := hideP hN
 have HD := hideP (dim_le4 m1 hm4)
 have HXR := hideP (show Rq 1 cI w (.slice px m cx) (linJ m fun i => X.getD i 0) from by rw [← linJ_of (n := m) 0 X lX]; exact hX)
 have HHR := hideP (show Rq 1 cI w (.slice ph m ch) (linJ m fun i => H.getD i 0) from by rw [← linJ_of (n := m) 0 H lH]; exact hH)
 clear hW hone hX hR hF hG hH lX lR lF lG lH hRr hZz hN
 go_enter Tryz.func18, Tryz.ntmps18
 have n3 : ¬ ((m : Int) < 1) := by omega
 go_wp2_with fail
 try simp only [World.size_alloc]
 rw [← HW.out]
 refine (pointE_any 0 W).mono ?_
 rintro e w1 ⟨rfl, h1⟩
 rw [← HON.out]
 obtain ⟨W1, hW1⟩ : ∃ W1, W1 = w1.alloc (.cells #[.int .i64 one.v, .int .i64 one.l, .int .i64 one.h, .bool one.bad] 52) := ⟨_, rfl⟩
 have b1 : Bl w1 W1 := by rw [hW1]; exact (Bl.refl _).alloc _
 have ko : Box W1 w1.heap.size one := by rw [hW1]; exact Box.new w1 one _
 have b1w : Bl W W1 := h1.trans b1
 have HW1 := hideP hW1
 clear hW1
 obtain ⟨c0, c1, c2, c3, c4, c5, c6, c7⟩ := HC.out W1 (b1w)
 rw [HW1.out] at c0 c1 c2 c3 c4 c5 c6 c7
 have WH := hideP (whole8N_call m m pr N cr Ro W1 (HRR.out.later (b0.trans b1w)) HD.out HNN.out HLR.out)
 go_wp2_with fail
 rw [← HW1.out]
 refine WH.out.mono ?_
 rintro e w2 ⟨p2, c2', rfl, hx, h2⟩
 clear c0 c1 c2 c3 c4 c5 c6 c7
 obtain ⟨W2, hW2⟩ : ∃ W2, W2 = w2.alloc (.cells #[.int .i64 m, .int .i64 m, .slice p2 N c2'] 48) := ⟨_, rfl⟩
 have b2 : Bl w2 W2 := by rw [hW2]; exact (Bl.refl _).alloc _
 have k2 : MBox W2 w2.heap.size m m p2 N c2' := by rw [hW2]; exact MBox.new w2 _ _ _ _ _ _
 have HX2 := hideP (Mx.later hx b2)
 have b12 : Bl W1 W2 := h2.trans b2
 have b2w : Bl W W2 := b1w.trans b12
 have HW2 := hideP hW2
 clear hW2 hx WH
 obtain ⟨c0, c1, c2, c3, c4, c5, c6, c7⟩ := HC.out W2 (b2w)
 rw [HW2.out] at c0 c1 c2 c3 c4 c5 c6 c7
 have WH := hideP (whole8N_call m m pf N cf Fm W2 (HFR.out.later (b0.trans b2w)) HD.out HNN.out HLF.out)
 go_wp2_with fail
 rw [← HW2.out]
 refine WH.out.mono ?_
 rintro e w3 ⟨p3, c3', rfl, hx, h3⟩
 clear c0 c1 c2 c3 c4 c5 c6 c7
 obtain ⟨W3, hW3⟩ : ∃ W3, W3 = w3.alloc (.cells #[.int .i64 m, .int .i64 m, .slice p3 N c3'] 48) := ⟨_, rfl⟩
 have b3 : Bl w3 W3 := by rw [hW3]; exact (Bl.refl _).alloc _
 have k3 : MBox W3 w3.heap.size m m p3 N c3' := by rw [hW3]; exact MBox.new w3 _ _ _ _ _ _
 have HX3 := hideP (Mx.later hx b3)
 have b23 : Bl W2 W3 := h3.trans b3
 have b3w : Bl W W3 := b2w.trans b23
 have HW3 := hideP hW3
 clear hW3 hx WH
 obtain ⟨c0, c1, c2, c3, c4, c5, c6, c7⟩ := HC.out W3 (b3w)
 rw [HW3.out] at c0 c1 c2 c3 c4 c5 c6 c7
 have WH := hideP (whole8N_call m m pg N cg Gm W3 (HGR.out.later (b0.trans b3w)) HD.out HNN.out HLG.out)
 go_wp2_with fail
 rw [← HW3.out]
 refine WH.out.mono ?_
 rintro e w4 ⟨p4, c4', rfl, hx, h4⟩
 clear c0 c1 c2 c3 c4 c5 c6 c7
 obtain ⟨W4, hW4⟩ : ∃ W4, W4 = w4.alloc (.cells #[.int .i64 m, .int .i64 m, .slice p4 N c4'] 48) := ⟨_, rfl⟩
 have b4 : Bl w4 W4 := by rw [hW4]; exact (Bl.refl _).alloc _
 have k4 : MBox W4 w4.heap.size m m p4 N c4' := by rw [hW4]; exact MBox.new w4 _ _ _ _ _ _
 have HX4 := hideP (Mx.later hx b4)
 have b34 : Bl W3 W4 := h4.trans b4
 have b4w : Bl W W4 := b3w.trans b34
 have HW4 := hideP hW4
 clear hW4 hx WH
 have b24 : Bl W2 W4 := b23.trans b34
 have b14 : Bl W1 W4 := b12.trans b24
 go_wp2_with fail
 rw [← HW4.out]
 refine (wpIn_wide (n := 8)).1 (region_q fm [some 51, some 52, some 53, some 54, some 55, some 50, some 56, some 57, some 12, none, some 13] (fun j => j == 7 || j == 10) 9 (by kernel_rfl) (by rfl)
    (fun j v u => match j with | 0 => v = .pointer (some ⟨w.heap.size, 1, none⟩) | 1 => v = .slice px m cx | 2 => ∃ q c, v = .slice q m c ∧ Rw 4 cellsN u (.slice q m c) (linJ m (fun i => wholeN (X.getD i 0))) | 3 => v = mV m m p2 N c2' | 4 => ∃ q c p' c', v = .tuple #[sJ q (m) c (m : Nat) (m : Nat) p' (N) c', .bool true] ∧ Rw 4 cellsN u (.slice q (m) c) (linJ (m) (fun i => wholeN (X.getD i 0))) ∧ Mx 4 cellsN u (m) (m) p' (N) c' (clrN (fun i k => wholeN (ofL m Ro i k))) | 5 => ∃ q c p' c', v = .tuple #[sJ q (m) c (m : Nat) (m : Nat) p' (N) c', .bool true] ∧ Rw 4 cellsN u (.slice q (m) c) (linJ (m) (fun i => wholeN (X.getD i 0))) ∧ Mx 4 cellsN u (m) (m) p' (N) c' (clrN (fun i k => wholeN (ofL m Ro i k))) | 6 => ∃ q c p' c', v = sJ q (m) c (m : Nat) (m : Nat) p' (N) c' ∧ Rw 4 cellsN u (.slice q (m) c) (linJ (m) (fun i => wholeN (X.getD i 0))) ∧ Mx 4 cellsN u (m) (m) p' (N) c' (clrN (fun i k => wholeN (ofL m Ro i k))) | 7 => v = .bool true | 8 => ∃ b, v = .pointer (some ⟨b, 0, none⟩) ∧ W4.heap.size ≤ b ∧ SBox u b none 0 0 0 0 none 0 0 ∧ NoB u b | 10 => v = .bool true | _ => False)
    (by
     intro j v u u' hb h
     split at h <;> first | exact h | (obtain ⟨b, e, h1, h2, h3⟩ := h; exact ⟨b, e, h1, h2.later hb, h3.later hb h2.lt⟩) | (obtain ⟨q, c, p', c', e, h1, h2⟩ := h; exact ⟨q, c, p', c', e, h1.later hb, Mx.later h2 hb⟩) | (obtain ⟨q, c, e, h1⟩ := h; exact ⟨q, c, e, h1.later hb⟩) | (obtain ⟨g, e, h1⟩ := h; exact ⟨g, e, h1.later hb⟩)) (fun vs u0 u => ∃ b q c p' c', vs 8 = .pointer (some ⟨b, 0, none⟩) ∧ W4.heap.size ≤ b ∧ SBox u b q (m) c (m : Nat) (m : Nat) p' (N) c' ∧ Rw 4 cellsN u (.slice q (m) c) (linJ (m) (fun i => wholeN (X.getD i 0))) ∧ Mx 4 cellsN u (m) (m) p' (N) c' (clrN (fun i k => wholeN (ofL m Ro i k))) ∧ Bl W4 u) ?step ?still ?store ?fin)
 case step =>
  intro j o t act u ho hdt hpu hsz hu hfr hin
  have hj : j < 11 := (Array.getElem?_eq_some_iff.1 ho).1
  obtain ⟨c0, c1, c2, c3, c4, c5, c6, c7⟩ := HC.out _ (b4w.trans hu)
  obtain ⟨y0, y1, y2, _, _, _, _⟩ := k2.later (b24.trans hu)
  rcases (by omega : j = 0 ∨ j = 1 ∨ j = 2 ∨ j = 3 ∨ j = 4 ∨ j = 5 ∨ j = 6 ∨ j = 7 ∨ j = 8 ∨ j = 9 ∨ j = 10) with rfl | rfl | rfl | rfl | rfl | rfl | rfl | rfl | rfl | rfl | rfl
  ·obtain rfl := Option.some.inj (opYL ho)
   obtain rfl := Option.some.inj hdt
   have i1 : act.eval (.tmp (1 : Nat)) = .pointer (some ⟨w.heap.size, 0, none⟩) := hfr 1 (by decide)
   exact plain_wp (by intro c h; cases h) (fun _ _ => trivial) (by simp only [execOp, i1, evalC, evalF, evalG]; simp [go_sem, c1]) ⟨_, rfl, rfl, Bl.refl _⟩
  ·obtain rfl := Option.some.inj (opYL ho)
   obtain rfl := Option.some.inj hdt
   have i51 : (act.eval (.tmp (51 : Nat))) = .pointer (some ⟨w.heap.size, 1, none⟩) := hin ⟨0, .data⟩ (by simp) rfl 51 rfl
   exact plain_wp (by intro c h; cases h) (fun _ _ => trivial) (by simp only [execOp, i51, evalC, evalF, evalG]; simp [go_sem, c1]) ⟨_, rfl, rfl, Bl.refl _⟩
  ·obtain rfl := Option.some.inj (opYL ho)
   obtain rfl := Option.some.inj hdt
   have i52 : (act.eval (.tmp (52 : Nat))) = .slice px m cx := hin ⟨1, .data⟩ (by simp) rfl 52 rfl
   refine enter_wp 35 #[.slice px m cx] (by intro c h; cases h) (fun _ _ => trivial) (by simp only [execOp, evalC, evalF, evalG, resolve, i52, List.map_toArray, List.map_cons, List.map_nil]; simp [invoke, egW, Result.andThen, go_sem]) (by intro h; cases h) (callsIn_wide.2 (whole_linON px m cx (fun i => X.getD i 0) u (HXR.out.later (b0.trans (b4w.trans hu))) (by omega))) ?_
   rintro e w' ⟨q, c, rfl, hR, _, hb⟩
   exact ⟨_, rfl, _, rfl, ⟨q, c, rfl, hR⟩, hb⟩
  ·obtain rfl := Option.some.inj (opYL ho)
   obtain rfl := Option.some.inj hdt
   have i6 : act.eval (.tmp (6 : Nat)) = .pointer (some ⟨w2.heap.size, 0, none⟩) := hfr 6 (by decide)
   exact plain_wp (by intro c h; cases h) (fun _ _ => trivial) (by simp only [execOp, i6, evalC, evalF, evalG]; simp [go_sem, y0, y1, y2]) ⟨_, rfl, rfl, Bl.refl _⟩
  ·obtain rfl := Option.some.inj (opYL ho)
   obtain rfl := Option.some.inj hdt
   have i53 : ∃ q c, (act.eval (.tmp (53 : Nat))) = .slice q m c ∧ Rw 4 cellsN u (.slice q m c) (linJ m (fun i => wholeN (X.getD i 0))) := hin ⟨2, .data⟩ (by simp) rfl 53 rfl
   have i54 : (act.eval (.tmp (54 : Nat))) = mV m m p2 N c2' := hin ⟨3, .data⟩ (by simp) rfl 54 rfl
   obtain ⟨q0, cc0, e0, hq⟩ := i53
   refine enter_wp 34 #[.slice q0 m cc0, mV m m p2 N c2'] (by intro c h; cases h) (fun _ _ => trivial) (by simp only [execOp, evalC, evalF, evalG, resolve, e0, i54, List.map_toArray, List.map_cons, List.map_nil]; simp [invoke, egN, Result.andThen, go_sem]) (by intro h; cases h) (callsIn_wide.2 (rNewN m q0 cc0 (fun i => wholeN (X.getD i 0)) p2 N c2' (fun i k => wholeN (ofL m Ro i k)) u hq.q (HX2.out.later (b24.trans hu)) hm4)) ?_
   rintro e w' ⟨q, c, p', c', rfl, ⟨hR, hM⟩, hb⟩
   exact ⟨_, rfl, _, rfl, ⟨q, c, p', c', rfl, hR, hM⟩, hb⟩
  ·obtain rfl := Option.some.inj (opYL ho)
   obtain rfl := Option.some.inj hdt
   have i55 : ∃ q c p' c', (act.eval (.tmp (55 : Nat))) = .tuple #[sJ q (m) c (m : Nat) (m : Nat) p' (N) c', .bool true] ∧ Rw 4 cellsN u (.slice q (m) c) (linJ (m) (fun i => wholeN (X.getD i 0))) ∧ Mx 4 cellsN u (m) (m) p' (N) c' (clrN (fun i k => wholeN (ofL m Ro i k))) := hin ⟨4, .data⟩ (by simp) rfl 55 rfl
   obtain ⟨q0, c0', p0, c0, e1, hq1, hq2⟩ := i55
   exact plain_wp (by intro c h; cases h) (fun _ _ => trivial) (by simp only [execOp, e1]; simp [go_sem]) ⟨_, rfl, ⟨q0, c0', p0, c0, rfl, hq1, hq2⟩, Bl.refl _⟩
  ·obtain rfl := Option.some.inj (opYL ho)
   obtain rfl := Option.some.inj hdt
   have i50 : ∃ q c p' c', (act.eval (.tmp (50 : Nat))) = .tuple #[sJ q (m) c (m : Nat) (m : Nat) p' (N) c', .bool true] ∧ Rw 4 cellsN u (.slice q (m) c) (linJ (m) (fun i => wholeN (X.getD i 0))) ∧ Mx 4 cellsN u (m) (m) p' (N) c' (clrN (fun i k => wholeN (ofL m Ro i k))) := hin ⟨5, .data⟩ (by simp) rfl 50 rfl
   obtain ⟨q0, c0', p0, c0, e1, hq1, hq2⟩ := i50
   exact plain_wp (by intro c h; cases h) (fun _ _ => trivial) (by simp only [execOp, e1]; simp [go_sem]) ⟨_, rfl, ⟨q0, c0', p0, c0, rfl, hq1, hq2⟩, Bl.refl _⟩
  ·cases hpu
  ·obtain rfl := Option.some.inj (opYL ho)
   obtain rfl := Option.some.inj hdt
   exact plain_wp (by intro c h; cases h) (fun _ _ => trivial) (w' := u.alloc (.cells #[.slice none 0 0, .int .i64 0, .int .i64 0, .slice none 0 0] 50)) (v := .pointer (some ⟨u.heap.size, 0, none⟩)) (by simp only [execOp]; simp [go_sem]) ⟨_, rfl, ⟨u.heap.size, rfl, hu.size, SBox.new u _ _ _ _ _ _ _ _ _, noB_newSN u _⟩, (Bl.refl _).alloc _⟩
  ·obtain rfl := Option.some.inj (opYL ho)
   cases hdt
  ·cases hpu
 case still =>
  intro j o t act u0 u ho hdt hpu hsz hu hfr hin
  have hj : j < 11 := (Array.getElem?_eq_some_iff.1 ho).1
  obtain ⟨c0, c1, c2, c3, c4, c5, c6, c7⟩ := HC.out _ (b4w.trans hu)
  obtain ⟨y0, y1, y2, _, _, _, _⟩ := k2.later (b24.trans hu)
  rcases (by omega : j = 0 ∨ j = 1 ∨ j = 2 ∨ j = 3 ∨ j = 4 ∨ j = 5 ∨ j = 6 ∨ j = 7 ∨ j = 8 ∨ j = 9 ∨ j = 10) with rfl | rfl | rfl | rfl | rfl | rfl | rfl | rfl | rfl | rfl | rfl
  ·cases hpu
  ·cases hpu
  ·cases hpu
  ·cases hpu
  ·cases hpu
  ·cases hpu
  ·cases hpu
  ·obtain rfl := Option.some.inj (opYL ho)
   obtain rfl := Option.some.inj hdt
   have i50 : ∃ q c p' c', (act.eval (.tmp (50 : Nat))) = .tuple #[sJ q (m) c (m : Nat) (m : Nat) p' (N) c', .bool true] ∧ Rw 4 cellsN u0 (.slice q (m) c) (linJ (m) (fun i => wholeN (X.getD i 0))) ∧ Mx 4 cellsN u0 (m) (m) p' (N) c' (clrN (fun i k => wholeN (ofL m Ro i k))) := hin ⟨5, .data⟩ (by simp) rfl 50 rfl
   obtain ⟨q0, c0', p0, c0, e1, hq1, hq2⟩ := i50
   exact plain_wp (by intro c h; cases h) (fun _ _ => trivial) (by simp only [execOp, e1]; simp [go_sem]) ⟨_, rfl, rfl, rfl⟩
  ·cases hpu
  ·cases hpu
  ·obtain rfl := Option.some.inj (opYL ho)
   obtain rfl := Option.some.inj hdt
   have i57 : (act.eval (.tmp (57 : Nat))) = .bool true := hin ⟨7, .data⟩ (by simp) rfl 57 rfl
   exact plain_wp (by intro c h; cases h) (fun _ _ => trivial) (by simp only [execOp, i57, evalC, evalF, evalG]; simp [go_sem]) ⟨_, rfl, rfl, rfl⟩
 case store =>
  intro o act u vs ho hsz hu hfr hin
  obtain rfl := Option.some.inj (opYL ho)
  obtain ⟨i12, k12⟩ : act.eval (.tmp (12 : Nat)) = vs 8 ∧ (∃ b, (vs 8) = .pointer (some ⟨b, 0, none⟩) ∧ W4.heap.size ≤ b ∧ SBox u b none 0 0 0 0 none 0 0 ∧ NoB u b) := hin 8 12 rfl rfl
  obtain ⟨i56, k56⟩ : act.eval (.tmp (56 : Nat)) = vs 6 ∧ (∃ q c p' c', (vs 6) = sJ q (m) c (m : Nat) (m : Nat) p' (N) c' ∧ Rw 4 cellsN u (.slice q (m) c) (linJ (m) (fun i => wholeN (X.getD i 0))) ∧ Mx 4 cellsN u (m) (m) p' (N) c' (clrN (fun i k => wholeN (ofL m Ro i k)))) := hin 6 56 rfl rfl
  obtain ⟨b, e1, hb, bx, nb⟩ := k12
  obtain ⟨q0, c0', p0, c0, e2, hq1, hq2⟩ := k56
  rw [e1] at i12
  rw [e2] at i56
  obtain ⟨d0, d1, d2, d3, g0, g1, g2, g3, ltb⟩ := id bx
  exact skip_wp (by intro c h; cases h) (fun _ _ => trivial) (by simp only [execOp, i12, i56]; simp [go_sem, d0, d1, d2, d3, g0, g1, g2, g3]) ⟨rfl, b, q0, c0', p0, c0, e1, hb, bx.fill _ _ _ _ _ _ _ _, hq1.but (but4N _ _ _ _ _ _) (fun g hg => noB_rwN hq1 (m1) nb g hg), Mx.but hq2 (but4N _ _ _ _ _ _) (fun g hg => Ne.symm (noB_mx boolN hq2 nb g hg)), Bl.put4 hu hb _ _ _ _⟩
 case fin =>
  intro vs vb u0 u hu hin hps
  have a0 := hin 0 51 rfl
  have a1 := hin 1 52 rfl
  have a2 := hin 2 53 rfl
  have a3 := hin 3 54 rfl
  have a4 := hin 4 55 rfl
  have a5 := hin 5 50 rfl
  have a6 := hin 6 56 rfl
  have a7 := hin 7 57 rfl
  have a8 := hin 8 12 rfl
  have a10 := hin 10 13 rfl
  simp only [putL, Act.put, List.setIfInBounds_toArray, List.set_cons_zero, List.set_cons_succ, Nat.zero_add, Nat.reduceAdd, Nat.reduceBEq, Bool.or_false, Bool.or_true, Bool.false_or, Bool.true_or, Bool.false_eq_true, if_false, if_true, reduceIte, Nat.reduceEqDiff, beq_self_eq_true, Bool.or_self] at a0 a1 a2 a3 a4 a5 a6 a7 a8 a10 ⊢
  rw [if_pos (by decide)] at hps
  simp only [a0, a1, a3, a7, a10]
  obtain ⟨b5, q5, cq5, p5, cc5, eb, hb, k5, hR, hM, hbu⟩ := hps
  simp only [eb]
  obtain ⟨w5, rfl⟩ : ∃ w5, w5 = u := ⟨_, rfl⟩
  have HR5 := hideP hR
  have HM5 := hideP hM
  have b45 : Bl W4 w5 := hbu
  have b5w : Bl W w5 := b4w.trans b45
  clear a2 a4 a5 a6 a8 hu hin hR hM
  have PR := hideP (rPredictN m N q5 cq5 (fun i => wholeN (X.getD i 0)) p5 cc5 (clrN (fun i k => wholeN (ofL m Ro i k))) p3 c3' (fun i k => wholeN (ofL m Fm i k)) p4 c4' (fun i k => wholeN (ofL m Gm i k)) w5 HR5.out.q HM5.out (HX3.out.later (b34.trans b45)) (HX4.out.later b45) hm4)
  obtain ⟨s0, s1, s2, s3, _, _, _, _, _⟩ := id k5
  obtain ⟨y0, y1, y2, _, _, _, _⟩ := k3.later (b34.trans b45)
  obtain ⟨z0, z1, z2, _, _, _, _⟩ := k4.later b45
  go_wp2_with fail
  refine PR.out.mono ?_
  rintro e w6 ⟨q6, cq6, p6, c6', rfl, ⟨hR6, hM6⟩, h6⟩
  clear s0 s1 s2 s3 y0 y1 y2 z0 z1 z2 PR
  obtain ⟨W6, hW6⟩ : ∃ W6, W6 = w6.alloc (.cells #[.slice q6 m cq6, .int .i64 m, .int .i64 m, .slice p6 N c6'] 50) := ⟨_, rfl⟩
  have b6 : Bl w6 W6 := by rw [hW6]; exact (Bl.refl _).alloc _
  have k6 : SBox W6 w6.heap.size q6 m cq6 m m p6 N c6' := by rw [hW6]; exact SBox.new w6 _ _ _ _ _ _ _ _ _
  have HR6 := hideP (show Rw 4 cellsN W6 (.slice q6 m cq6) (linJ m (laneX m Fm X)) from hR6.later b6)
  have HM6 := hideP (show Mx 4 cellsN W6 m m p6 N c6' (laneS m Ro Fm Gm) from Mx.later hM6 b6)
  have b56 : Bl w5 W6 := h6.trans b6
  have b6w : Bl W W6 := b5w.trans b56
  have b16 : Bl W1 W6 := b14.trans (b45.trans b56)
  have HW6 := hideP hW6
  clear hW6 hR6 hM6
  go_wp2_with fail
  rw [← HW6.out]
  refine (wpIn_wide (n := 8)).1 (region_u (updL_ok W6.heap.size (m) (N) (laneUX m X Ro Fm Gm H Rr Zz) ((laneR m Ro Fm Gm H Rr).s) (laneE m X Fm H Zz) ((laneR m Ro Fm Gm H Rr).a)) fm [some 66, some 67, some 68, some 69, some 70, some 71, some 72, some 73, some 74, some 75, some 76, some 77, some 78, some 65, some 79, some 80, some 81, some 16, some 17, none, none, some 18] 12 (by kernel_rfl) (by rfl) 78 65 79 80 81 16 17 18 rfl
     (fun j v u => match j with | 0 => v = sJ q6 m cq6 m m p6 N c6' | 1 => v = .pointer (some ⟨w.heap.size, 5, none⟩) | 2 => v = .slice ph m ch | 3 => ∃ q c, v = .slice q m c ∧ Rw 4 cellsN u (.slice q m c) (linJ m (fun i => wholeN (H.getD i 0))) | 4 => v = enV one | 5 => v = .pointer (some ⟨w.heap.size, 6, none⟩) | 6 => v = .int .i64 r | 7 => v = enV Rr | 8 => v = enV one | 9 => v = .pointer (some ⟨w.heap.size, 7, none⟩) | 10 => v = .int .i64 z | 11 => v = enV Zz | _ => False)
     (by
      intro j v u u' hb h
      split at h <;> first | exact h | (obtain ⟨q, c, e, h1⟩ := h; exact ⟨q, c, e, h1.later hb⟩) | (obtain ⟨g, e, h1⟩ := h; exact ⟨g, e, h1.later hb⟩)) ?step ?call ?mv ?x0 ?x1 ?x2 ?la ?lb ?sa ?sb ?asg ?fin)
  case step =>
   intro j o t act u hjk ho hdt hsz hu hfr hin
   obtain ⟨c0, c1, c2, c3, c4, c5, c6, c7⟩ := HC.out _ (b6w.trans hu)
   obtain ⟨s0, s1, s2, s3, _, _, _, _, _⟩ := k6.later hu
   obtain ⟨o0, o1, o2, o3, _, _, _, _, _⟩ := ko.later (b16.trans hu)
   rcases (by omega : j = 0 ∨ j = 1 ∨ j = 2 ∨ j = 3 ∨ j = 4 ∨ j = 5 ∨ j = 6 ∨ j = 7 ∨ j = 8 ∨ j = 9 ∨ j = 10 ∨ j = 11) with rfl | rfl | rfl | rfl | rfl | rfl | rfl | rfl | rfl | rfl | rfl | rfl
   ·obtain rfl := Option.some.inj (opYL ho)
    obtain rfl := Option.some.inj hdt
    have i14 : act.eval (.tmp (14 : Nat)) = .pointer (some ⟨w6.heap.size, 0, none⟩) := hfr 14 (by decide)
    exact plain_wp (by intro c h; cases h) (fun _ _ => trivial) (by simp only [execOp, i14, evalC, evalF, evalG]; simp [go_sem, s0, s1, s2, s3]) ⟨_, rfl, rfl, Bl.refl _⟩
   ·obtain rfl := Option.some.inj (opYL ho)
    obtain rfl := Option.some.inj hdt
    have i1 : act.eval (.tmp (1 : Nat)) = .pointer (some ⟨w.heap.size, 0, none⟩) := hfr 1 (by decide)
    exact plain_wp (by intro c h; cases h) (fun _ _ => trivial) (by simp only [execOp, i1, evalC, evalF, evalG]; simp [go_sem, c5]) ⟨_, rfl, rfl, Bl.refl _⟩
   ·obtain rfl := Option.some.inj (opYL ho)
    obtain rfl := Option.some.inj hdt
    have i67 : (act.eval (.tmp (67 : Nat))) = .pointer (some ⟨w.heap.size, 5, none⟩) := hin ⟨1, .data⟩ (by simp) rfl 67 rfl
    exact plain_wp (by intro c h; cases h) (fun _ _ => trivial) (by simp only [execOp, i67, evalC, evalF, evalG]; simp [go_sem, c5]) ⟨_, rfl, rfl, Bl.refl _⟩
   ·obtain rfl := Option.some.inj (opYL ho)
    obtain rfl := Option.some.inj hdt
    have i68 : (act.eval (.tmp (68 : Nat))) = .slice ph m ch := hin ⟨2, .data⟩ (by simp) rfl 68 rfl
    refine enter_wp 35 #[.slice ph m ch] (by intro c h; cases h) (fun _ _ => trivial) (by simp only [execOp, evalC, evalF, evalG, resolve, i68, List.map_toArray, List.map_cons, List.map_nil]; simp [invoke, egW, Result.andThen, go_sem]) (by intro h; cases h) (callsIn_wide.2 (whole_linON ph m ch (fun i => H.getD i 0) u (HHR.out.later (b0.trans (b6w.trans hu))) (by omega))) ?_
    rintro e w' ⟨q, c, rfl, hR, _, hb⟩
    exact ⟨_, rfl, _, rfl, ⟨q, c, rfl, hR⟩, hb⟩
   ·obtain rfl := Option.some.inj (opYL ho)
    obtain rfl := Option.some.inj hdt
    have i5 : act.eval (.tmp (5 : Nat)) = .pointer (some ⟨w1.heap.size, 0, none⟩) := hfr 5 (by decide)
    exact plain_wp (by intro c h; cases h) (fun _ _ => trivial) (by simp only [execOp, i5, evalC, evalF, evalG]; simp [go_sem, o0, o1, o2, o3]) ⟨_, rfl, rfl, Bl.refl _⟩
   ·obtain rfl := Option.some.inj (opYL ho)
    obtain rfl := Option.some.inj hdt
    have i1 : act.eval (.tmp (1 : Nat)) = .pointer (some ⟨w.heap.size, 0, none⟩) := hfr 1 (by decide)
    exact plain_wp (by intro c h; cases h) (fun _ _ => trivial) (by simp only [execOp, i1, evalC, evalF, evalG]; simp [go_sem, c6]) ⟨_, rfl, rfl, Bl.refl _⟩
   ·obtain rfl := Option.some.inj (opYL ho)
    obtain rfl := Option.some.inj hdt
    have i71 : (act.eval (.tmp (71 : Nat))) = .pointer (some ⟨w.heap.size, 6, none⟩) := hin ⟨5, .data⟩ (by simp) rfl 71 rfl
    exact plain_wp (by intro c h; cases h) (fun _ _ => trivial) (by simp only [execOp, i71, evalC, evalF, evalG]; simp [go_sem, c6]) ⟨_, rfl, rfl, Bl.refl _⟩
   ·obtain rfl := Option.some.inj (opYL ho)
    obtain rfl := Option.some.inj hdt
    have i70 : (act.eval (.tmp (70 : Nat))) = enV one := hin ⟨4, .data⟩ (by simp) rfl 70 rfl
    have i72 : (act.eval (.tmp (72 : Nat))) = .int .i64 r := hin ⟨6, .data⟩ (by simp) rfl 72 rfl
    refine enter_wp 37 #[enV one, .int .i64 r] (by intro c h; cases h) (fun _ _ => trivial) (by simp only [execOp, evalC, evalF, evalG, resolve, i70, i72, List.map_toArray, List.map_cons, List.map_nil]; simp [invoke, egO, Result.andThen, go_sem]) (by intro h; cases h) (callsIn_wide.2 (ofE_any one r u)) ?_
    rintro e w' ⟨rfl, hb⟩
    exact ⟨_, rfl, _, rfl, show enV (ptE (foN r) (foB r)) = enV Rr from by rw [HRr.out], hb⟩
   ·obtain rfl := Option.some.inj (opYL ho)
    obtain rfl := Option.some.inj hdt
    have i5 : act.eval (.tmp (5 : Nat)) = .pointer (some ⟨w1.heap.size, 0, none⟩) := hfr 5 (by decide)
    exact plain_wp (by intro c h; cases h) (fun _ _ => trivial) (by simp only [execOp, i5, evalC, evalF, evalG]; simp [go_sem, o0, o1, o2, o3]) ⟨_, rfl, rfl, Bl.refl _⟩
   ·obtain rfl := Option.some.inj (opYL ho)
    obtain rfl := Option.some.inj hdt
    have i1 : act.eval (.tmp (1 : Nat)) = .pointer (some ⟨w.heap.size, 0, none⟩) := hfr 1 (by decide)
    exact plain_wp (by intro c h; cases h) (fun _ _ => trivial) (by simp only [execOp, i1, evalC, evalF, evalG]; simp [go_sem, c7]) ⟨_, rfl, rfl, Bl.refl _⟩
   ·obtain rfl := Option.some.inj (opYL ho)
    obtain rfl := Option.some.inj hdt
    have i75 : (act.eval (.tmp (75 : Nat))) = .pointer (some ⟨w.heap.size, 7, none⟩) := hin ⟨9, .data⟩ (by simp) rfl 75 rfl
    exact plain_wp (by intro c h; cases h) (fun _ _ => trivial) (by simp only [execOp, i75, evalC, evalF, evalG]; simp [go_sem, c7]) ⟨_, rfl, rfl, Bl.refl _⟩
   ·obtain rfl := Option.some.inj (opYL ho)
    obtain rfl := Option.some.inj hdt
    have i74 : (act.eval (.tmp (74 : Nat))) = enV one := hin ⟨8, .data⟩ (by simp) rfl 74 rfl
    have i76 : (act.eval (.tmp (76 : Nat))) = .int .i64 z := hin ⟨10, .data⟩ (by simp) rfl 76 rfl
    refine enter_wp 37 #[enV one, .int .i64 z] (by intro c h; cases h) (fun _ _ => trivial) (by simp only [execOp, evalC, evalF, evalG, resolve, i74, i76, List.map_toArray, List.map_cons, List.map_nil]; simp [invoke, egO, Result.andThen, go_sem]) (by intro h; cases h) (callsIn_wide.2 (ofE_any one z u)) ?_
    rintro e w' ⟨rfl, hb⟩
    exact ⟨_, rfl, _, rfl, show enV (ptE (foN z) (foB z)) = enV Zz from by rw [HZz.out], hb⟩
  case call =>
   intro o act u ho hsz hu hfr hin
   obtain ⟨c0, c1, c2, c3, c4, c5, c6, c7⟩ := HC.out _ (b6w.trans hu)
   obtain ⟨s0, s1, s2, s3, _, _, _, _, _⟩ := k6.later hu
   obtain ⟨o0, o1, o2, o3, _, _, _, _, _⟩ := ko.later (b16.trans hu)
   simp only [List.getElem?_toArray, List.getElem?_cons_zero, List.getElem?_cons_succ, Option.some.injEq, Nat.reduceAdd] at ho
   subst ho
   have i66 : (act.eval (.tmp (66 : Nat))) = sJ q6 m cq6 m m p6 N c6' := hin ⟨0, .data⟩ (by simp) rfl 66 rfl
   have i69 : ∃ q c, (act.eval (.tmp (69 : Nat))) = .slice q m c ∧ Rw 4 cellsN u (.slice q m c) (linJ m (fun i => wholeN (H.getD i 0))) := hin ⟨3, .data⟩ (by simp) rfl 69 rfl
   have i73 : (act.eval (.tmp (73 : Nat))) = enV Rr := hin ⟨7, .data⟩ (by simp) rfl 73 rfl
   have i77 : (act.eval (.tmp (77 : Nat))) = enV Zz := hin ⟨11, .data⟩ (by simp) rfl 77 rfl
   obtain ⟨q0, cc0, e0, hq⟩ := i69
   refine enter_wp 36 #[sJ q6 m cq6 m m p6 N c6', .slice q0 m cc0, enV Rr, enV Zz] (by intro c h; cases h) (fun _ _ => trivial) (by simp only [execOp, evalC, evalF, evalG, resolve, i66, e0, i73, i77, List.map_toArray, List.map_cons, List.map_nil]; simp [invoke, egU, Result.andThen, go_sem]) (by intro h; cases h) (callsIn_wide.2 (rUpdateN m N q6 cq6 (laneX m Fm X) p6 c6' (laneS m Ro Fm Gm) q0 cc0 (fun i => wholeN (H.getD i 0)) Rr Zz u (HR6.out.later hu).q (HM6.out.later hu) hq.q hm4)) ?_
   rintro e w' ⟨q, c, p', c', rfl, ⟨hR, hM, hF1, hF2⟩, hb⟩
   exact ⟨_, rfl, (q, c, p', c'), rfl, ⟨hR, hM, fresh_le hF1 hu.size, fresh_le hF2 hu.size⟩, hb, fun b hb' _ => ⟨fun g hg => by have := hF1 g hg; omega, fun g hg => by have := hF2 g hg; omega⟩⟩
  case mv =>
   intro o act u x ho hx
   simp only [List.getElem?_toArray, List.getElem?_cons_zero, List.getElem?_cons_succ, Option.some.injEq, Nat.reduceAdd] at ho
   subst ho
   exact plain_wp (by intro c h; cases h) (fun _ _ => trivial) (by simp only [execOp, hx]; simp [go_sem]) ⟨rfl, rfl⟩
  case x0 =>
   intro o act u x y z ho hx
   simp only [List.getElem?_toArray, List.getElem?_cons_zero, List.getElem?_cons_succ, Option.some.injEq, Nat.reduceAdd] at ho
   subst ho
   exact plain_wp (by intro c h; cases h) (fun _ _ => trivial) (by simp only [execOp, hx]; simp [go_sem]) ⟨rfl, rfl⟩
  case x1 =>
   intro o act u x y z ho hx
   simp only [List.getElem?_toArray, List.getElem?_cons_zero, List.getElem?_cons_succ, Option.some.injEq, Nat.reduceAdd] at ho
   subst ho
   exact plain_wp (by intro c h; cases h) (fun _ _ => trivial) (by simp only [execOp, hx]; simp [go_sem]) ⟨rfl, rfl⟩
  case x2 =>
   intro o act u x y z ho hx
   simp only [List.getElem?_toArray, List.getElem?_cons_zero, List.getElem?_cons_succ, Option.some.injEq, Nat.reduceAdd] at ho
   subst ho
   exact plain_wp (by intro c h; cases h) (fun _ _ => trivial) (by simp only [execOp, hx]; simp [go_sem]) ⟨rfl, rfl⟩
  case la =>
   intro o act u ho
   simp only [List.getElem?_toArray, List.getElem?_cons_zero, List.getElem?_cons_succ, Option.some.injEq, Nat.reduceAdd] at ho
   subst ho
   exact plain_wp (by intro c h; cases h) (fun _ _ => trivial) (w' := u.alloc (.cells #[.slice none 0 0, .int .i64 0, .int .i64 0, .slice none 0 0] 50)) (v := .pointer (some ⟨u.heap.size, 0, none⟩)) (by simp only [execOp]; simp [go_sem]) ⟨rfl, SBox.new u _ _ _ _ _ _ _ _ _, (Bl.refl _).alloc _, by simp⟩
  case lb =>
   intro o act u ho
   simp only [List.getElem?_toArray, List.getElem?_cons_zero, List.getElem?_cons_succ, Option.some.injEq, Nat.reduceAdd] at ho
   subst ho
   exact plain_wp (by intro c h; cases h) (fun _ _ => trivial) (w' := u.alloc (.cells #[.int .i64 0, .int .i64 0, .int .i64 0, .bool false, .int .i64 0, .int .i64 0, .int .i64 0, .bool false] 54)) (v := .pointer (some ⟨u.heap.size, 0, none⟩)) (by simp only [execOp]; simp [go_sem]) ⟨rfl, NBoxN.new u zeroE zeroE _, (Bl.refl _).alloc _, by simp⟩
  case sa =>
   intro o act u D b ho hA h0 hz hdat hoff hbl hb
   simp only [List.getElem?_toArray, List.getElem?_cons_zero, List.getElem?_cons_succ, Option.some.injEq, Nat.reduceAdd] at ho
   subst ho
   obtain ⟨q0, c0, p0, c1⟩ := D
   replace h0 : act.eval (.tmp 79) = sJ q0 (m) c0 (m) (m) p0 (N) c1 := h0
   obtain ⟨d0, d1, d2, d3, g0, g1, g2, g3, lt⟩ := (show SBox u b none 0 0 0 0 none 0 0 from hz)
   exact skip_wp (by intro c h; cases h) (fun _ _ => trivial) (by simp only [execOp, hA, h0]; simp [go_sem, d0, d1, d2, d3, g0, g1, g2, g3]) ⟨rfl, SBox.fill (show SBox u b none 0 0 0 0 none 0 0 from hz) _ _ _ _ _ _ _ _, ⟨hdat.1.but (but4N _ _ _ _ _ _) (fun g hg => hoff.1 g hg), Mx.but hdat.2.1 (but4N _ _ _ _ _ _) (fun g hg => hoff.2 g hg), hdat.2.2⟩, Bl.put4 hbl hb _ _ _ _, fun b' h' => heap4N _ h' _ _ _ _, by simp⟩
  case sb =>
   intro o act u D b ho hA h0 hz hdat hoff hbl hb
   simp only [List.getElem?_toArray, List.getElem?_cons_zero, List.getElem?_cons_succ, Option.some.injEq, Nat.reduceAdd] at ho
   subst ho
   obtain ⟨q0, c0, p0, c1⟩ := D
   replace h0 : act.eval (.tmp 80) = newsVN (laneE m X Fm H Zz) ((laneR m Ro Fm Gm H Rr).a) := h0
   obtain ⟨d0, d1, d2, d3, d4, d5, d6, d7, g0, g1, g2, g3, g4, g5, g6, g7, lt⟩ := (show NBoxN u b zeroE zeroE from hz)
   exact skip_wp (by intro c h; cases h) (fun _ _ => trivial) (by simp only [execOp, hA, h0]; simp [go_sem, d0, d1, d2, d3, d4, d5, d6, d7, g0, g1, g2, g3, g4, g5, g6, g7]) ⟨rfl, NBoxN.fill (show NBoxN u b zeroE zeroE from hz) _ _, ⟨hdat.1.but (butNN _ _ _ _) (fun g hg => hoff.1 g hg), Mx.but hdat.2.1 (butNN _ _ _ _) (fun g hg => hoff.2 g hg), hdat.2.2⟩, blNN b hbl hb _ _, fun b' h' => heapNN _ h' _ _, by simp⟩
  case asg =>
   intro o act u x ho hx
   simp only [List.getElem?_toArray, List.getElem?_cons_zero, List.getElem?_cons_succ, Option.some.injEq, Nat.reduceAdd] at ho
   subst ho
   exact plain_wp (by intro c h; cases h) (fun _ _ => trivial) (by simp only [execOp, hx]; simp [go_sem]) ⟨rfl, rfl⟩
  case fin =>
   intro vs u D b7 bn7 hu e9' e5' e6' hb1 hb2 hsa hsb hdat
   simp only [putL, Act.put, List.setIfInBounds_toArray, List.set_cons_zero, List.set_cons_succ, Nat.zero_add, Nat.reduceAdd] at e9' e5' e6' ⊢
   replace e9' := Eq.trans e9' (show _ = Value.bool true from rfl)
   simp only [e9', e5', e6']
   obtain ⟨q7, cq7, p7, c7'⟩ := D
   obtain ⟨w7, rfl⟩ : ∃ w7, w7 = u := ⟨_, rfl⟩
   have k7 : SBox w7 b7 q7 m cq7 m m p7 N c7' := hsa
   have n7 : NBoxN w7 bn7 (laneE m X Fm H Zz) ((laneR m Ro Fm Gm H Rr).a) := hsb
   have HD7 : Rw 4 cellsN w7 (.slice q7 m cq7) (linJ m (laneUX m X Ro Fm Gm H Rr Zz)) ∧ Mx 4 cellsN w7 m m p7 N c7' ((laneR m Ro Fm Gm H Rr).s) ∧ Fresh W6.heap.size (.slice q7 m cq7) ∧ Fresh W6.heap.size (.slice p7 N c7') := hdat
   have HR7 := hideP HD7.1
   have HM7 := hideP HD7.2.1
   have HF1 := hideP HD7.2.2.1
   have HF2 := hideP HD7.2.2.2
   have b67 : Bl W6 w7 := hu
   have B7 : Bl w w7 := b0.trans (b6w.trans b67)
   have SZ0 := hideP (sz0.later (b6w.trans b67))
   have NZ0 := hideP (nz0.later (b6w.trans b67))
   have hsW := b6w.size
   have hs7 := b67.size
   have hl1 := SZ0.out.lt
   have hl2 := NZ0.out.lt
   clear hsa hsb hdat HD7
   go_wp2_with fail
   refine (wpIn_wide (n := 8)).1 (region_g fm (TwoJ (w.heap.size + 1) (w.heap.size + 1 + 1) (fun y => SBox y (w.heap.size + 1) q7 m cq7 m m p7 N c7') (fun y => NBoxN y (w.heap.size + 1 + 1) (laneE m X Fm H Zz) ((laneR m Ro Fm Gm H Rr).a))) [some 82, some 83, some 84, some 85, some 86, some 87, some 88, some 89, some 90, none, none, some 4] (by kernel_rfl) (by rfl) (TwoJ.bl ((Bl.refl _).drew) (by omega) (by omega)) (fun h k => TwoJ.trans (fun x y t b e => t.heap e b.size) (fun x y t b e => t.heap e b.size) h k)
      (fun j v u => match j with | 0 => v = sJ q7 m cq7 m m p7 N c7' | 1 => v = newsVN (laneE m X Fm H Zz) ((laneR m Ro Fm Gm H Rr).a) | 2 => v = .bool true | 3 => v = .bool true | 4 => v = .bool true | 5 => v = .bool true | 6 => v = .bool true | 7 => v = .bool true | 8 => v = .bool true | 9 => SBox u (w.heap.size + 1) q7 m cq7 m m p7 N c7' | 10 => NBoxN u (w.heap.size + 1 + 1) (laneE m X Fm H Zz) ((laneR m Ro Fm Gm H Rr).a) | 11 => v = .bool true | _ => False)
      (by
       intro j v u u' hb hr h
       split at h
       ·exact h
       ·exact h
       ·exact h
       ·exact h
       ·exact h
       ·exact h
       ·exact h
       ·exact h
       ·exact h
       ·rcases hr.g8 with e | t
        ·exact h.heap e hr.but.size
        ·exact t
       ·rcases hr.l9 with e | t
        ·exact h.heap e hr.but.size
        ·exact t
       ·exact h
       ·exact h)
      (by
        intro j o g b v u ho hg hf
        have hj : j < 12 := (Array.getElem?_eq_some_iff.1 ho).1
        rcases (by omega : j = 0 ∨ j = 1 ∨ j = 2 ∨ j = 3 ∨ j = 4 ∨ j = 5 ∨ j = 6 ∨ j = 7 ∨ j = 8 ∨ j = 9 ∨ j = 10 ∨ j = 11) with rfl | rfl | rfl | rfl | rfl | rfl | rfl | rfl | rfl | rfl | rfl | rfl
        ·obtain rfl := Option.some.inj (opYL ho)
         cases hg
        ·obtain rfl := Option.some.inj (opYL ho)
         cases hg
        ·obtain rfl := Option.some.inj (opYL ho)
         cases hg
        ·obtain rfl := Option.some.inj (opYL ho)
         cases hg
        ·obtain rfl := Option.some.inj (opYL ho)
         cases hg
         exact hf
        ·obtain rfl := Option.some.inj (opYL ho)
         cases hg
        ·obtain rfl := Option.some.inj (opYL ho)
         cases hg
        ·obtain rfl := Option.some.inj (opYL ho)
         cases hg
         exact hf
        ·obtain rfl := Option.some.inj (opYL ho)
         cases hg
        ·obtain rfl := Option.some.inj (opYL ho)
         cases hg
        ·obtain rfl := Option.some.inj (opYL ho)
         cases hg
        ·obtain rfl := Option.some.inj (opYL ho)
         cases hg
        ) ?step ?fin)
   case step =>
    intro j o act u ho hsz hu hfr hin hnon
    have hj : j < 12 := (Array.getElem?_eq_some_iff.1 ho).1
    have hub := hu.but.size
    have KS := k7.heap (hu.but.block _ k7.lt (by show ¬ (_ = _ ∨ _ = _); omega)) hu.but.size
    have KN := n7.heap (hu.but.block _ n7.lt (by show ¬ (_ = _ ∨ _ = _); omega)) hu.but.size
    obtain ⟨s0, s1, s2, s3, _, _, _, _, _⟩ := KS
    obtain ⟨n0', n1', n2', n3', n4', n5', n6', n7', _, _, _, _, _, _, _, _, _⟩ := KN
    rcases (by omega : j = 0 ∨ j = 1 ∨ j = 2 ∨ j = 3 ∨ j = 4 ∨ j = 5 ∨ j = 6 ∨ j = 7 ∨ j = 8 ∨ j = 9 ∨ j = 10 ∨ j = 11) with rfl | rfl | rfl | rfl | rfl | rfl | rfl | rfl | rfl | rfl | rfl | rfl
    ·obtain rfl := Option.some.inj (opYL ho)
     have i16 : act.eval (.tmp (16 : Nat)) = .pointer (some ⟨b7, 0, none⟩) := hfr 16 (by decide)
     exact plain_wp (by intro c h; cases h) (fun _ _ => trivial) (by simp only [execOp, i16, evalC, evalF, evalG]; simp [go_sem, s0, s1, s2, s3]) ⟨_, rfl, rfl, TwoJ.bl (Bl.refl _) (by have := hu.but.size; omega) (by have := hu.but.size; omega)⟩
    ·obtain rfl := Option.some.inj (opYL ho)
     have i17 : act.eval (.tmp (17 : Nat)) = .pointer (some ⟨bn7, 0, none⟩) := hfr 17 (by decide)
     exact plain_wp (by intro c h; cases h) (fun _ _ => trivial) (by simp only [execOp, i17, evalC, evalF, evalG]; simp [go_sem, n0', n1', n2', n3', n4', n5', n6', n7']) ⟨_, rfl, rfl, TwoJ.bl (Bl.refl _) (by have := hu.but.size; omega) (by have := hu.but.size; omega)⟩
    ·obtain rfl := Option.some.inj (opYL ho)
     have i13 : act.eval (.tmp (13 : Nat)) = .bool true := hfr 13 (by decide)
     exact plain_wp (by intro c h; cases h) (fun _ _ => trivial) (by simp only [execOp, i13, evalC, evalF, evalG]; simp [go_sem]) ⟨_, rfl, rfl, TwoJ.bl (Bl.refl _) (by have := hu.but.size; omega) (by have := hu.but.size; omega)⟩
    ·obtain rfl := Option.some.inj (opYL ho)
     have i84 : (act.eval (.tmp (84 : Nat))) = .bool true := hin ⟨2, .data⟩ (by simp) rfl 84 rfl
     exact plain_wp (by intro c h; cases h) (fun _ _ => trivial) (by simp only [execOp, i84, evalC, evalF, evalG]; simp [go_sem]) ⟨_, rfl, rfl, TwoJ.bl (Bl.refl _) (by have := hu.but.size; omega) (by have := hu.but.size; omega)⟩
    ·obtain rfl := Option.some.inj (opYL ho)
     have i15 : act.eval (.tmp (15 : Nat)) = .bool true := hfr 15 (by decide)
     exact plain_wp (by intro c h; cases h) (fun _ _ => trivial) (by simp only [execOp, i15, evalC, evalF, evalG]; simp [go_sem]) ⟨_, rfl, rfl, TwoJ.bl (Bl.refl _) (by have := hu.but.size; omega) (by have := hu.but.size; omega)⟩
    ·obtain rfl := Option.some.inj (opYL ho)
     have i85 : (act.eval (.tmp (85 : Nat))) = .bool true := hin ⟨3, .data⟩ (by simp) rfl 85 rfl
     have i86 : (act.eval (.tmp (86 : Nat))) = .bool true := hin ⟨4, .data⟩ (by simp) rfl 86 rfl
     exact plain_wp (by intro c h; cases h) (fun _ _ => trivial) (by simp only [execOp, i85, i86, evalC, evalF, evalG]; simp [go_sem]) ⟨_, rfl, rfl, TwoJ.bl (Bl.refl _) (by have := hu.but.size; omega) (by have := hu.but.size; omega)⟩
    ·obtain rfl := Option.some.inj (opYL ho)
     have i87 : (act.eval (.tmp (87 : Nat))) = .bool true := hin ⟨5, .data⟩ (by simp) rfl 87 rfl
     exact plain_wp (by intro c h; cases h) (fun _ _ => trivial) (by simp only [execOp, i87, evalC, evalF, evalG]; simp [go_sem]) ⟨_, rfl, rfl, TwoJ.bl (Bl.refl _) (by have := hu.but.size; omega) (by have := hu.but.size; omega)⟩
    ·obtain rfl := Option.some.inj (opYL ho)
     have i18 : act.eval (.tmp (18 : Nat)) = .bool true := hfr 18 (by decide)
     exact plain_wp (by intro c h; cases h) (fun _ _ => trivial) (by simp only [execOp, i18, evalC, evalF, evalG]; simp [go_sem]) ⟨_, rfl, rfl, TwoJ.bl (Bl.refl _) (by have := hu.but.size; omega) (by have := hu.but.size; omega)⟩
    ·obtain rfl := Option.some.inj (opYL ho)
     have i88 : (act.eval (.tmp (88 : Nat))) = .bool true := hin ⟨6, .data⟩ (by simp) rfl 88 rfl
     have i89 : (act.eval (.tmp (89 : Nat))) = .bool true := hin ⟨7, .data⟩ (by simp) rfl 89 rfl
     exact plain_wp (by intro c h; cases h) (fun _ _ => trivial) (by simp only [execOp, i88, i89, evalC, evalF, evalG]; simp [go_sem]) ⟨_, rfl, rfl, TwoJ.bl (Bl.refl _) (by have := hu.but.size; omega) (by have := hu.but.size; omega)⟩
    ·obtain rfl := Option.some.inj (opYL ho)
     have i2 : act.eval (.tmp (2 : Nat)) = .pointer (some ⟨w.heap.size + 1, 0, none⟩) := hfr 2 (by decide)
     have i82 : (act.eval (.tmp (82 : Nat))) = sJ q7 m cq7 m m p7 N c7' := hin ⟨0, .data⟩ (by simp) rfl 82 rfl
     obtain ⟨qa, qb, qc, qd, qe, qf, qg, qh, sx⟩ : ∃ px nx cx r c p n cap, SBox u (w.heap.size + 1) px nx cx r c p n cap := by
      rcases hu.g8 with e | t
      ·exact ⟨_, _, _, _, _, _, _, _, SZ0.out.heap e hu.but.size⟩
      ·exact ⟨_, _, _, _, _, _, _, _, t⟩
     have SX := hideP sx
     obtain ⟨d0, d1, d2, d3, x0, x1, x2, x3, ltd⟩ := id sx
     exact skip_wp (by intro c h; cases h) (fun _ _ => trivial) (by simp only [execOp, i2, i82]; simp [go_sem, d0, d1, d2, d3, x0, x1, x2, x3]) ⟨undef, rfl, SX.out.fill _ _ _ _ _ _ _ _, ⟨(((but_cell1 (.inl rfl) _ _ _).trans (but_cell1 (.inl rfl) _ _ _)).trans (but_cell1 (.inl rfl) _ _ _)).trans (but_cell1 (.inl rfl) _ _ _), .inr (SX.out.fill _ _ _ _ _ _ _ _), .inl (by rw [heap1 _ (by omega), heap1 _ (by omega), heap1 _ (by omega), heap1 _ (by omega)])⟩⟩
    ·obtain rfl := Option.some.inj (opYL ho)
     have i3 : act.eval (.tmp (3 : Nat)) = .pointer (some ⟨w.heap.size + 1 + 1, 0, none⟩) := hfr 3 (by decide)
     have i83 : (act.eval (.tmp (83 : Nat))) = newsVN (laneE m X Fm H Zz) ((laneR m Ro Fm Gm H Rr).a) := hin ⟨1, .data⟩ (by simp) rfl 83 rfl
     obtain ⟨x', y', nx⟩ : ∃ x y, NBoxN u (w.heap.size + 1 + 1) x y := by
      rcases hu.l9 with e | t
      ·exact ⟨_, _, NZ0.out.heap e hu.but.size⟩
      ·exact ⟨_, _, t⟩
     have NX := hideP nx
     obtain ⟨d0, d1, d2, d3, d4, d5, d6, d7, x0, x1, x2, x3, x4, x5, x6, x7, ltd⟩ := id nx
     exact skip_wp (by intro c h; cases h) (fun _ _ => trivial) (by simp only [execOp, i3, i83]; simp [go_sem, d0, d1, d2, d3, d4, d5, d6, d7, x0, x1, x2, x3, x4, x5, x6, x7]) ⟨undef, rfl, NX.out.fill _ _, ⟨(((((((but_cell1 (.inr rfl) _ _ _).trans (but_cell1 (.inr rfl) _ _ _)).trans (but_cell1 (.inr rfl) _ _ _)).trans (but_cell1 (.inr rfl) _ _ _)).trans (but_cell1 (.inr rfl) _ _ _)).trans (but_cell1 (.inr rfl) _ _ _)).trans (but_cell1 (.inr rfl) _ _ _)).trans (but_cell1 (.inr rfl) _ _ _), .inl (by rw [heap1 _ (by omega), heap1 _ (by omega), heap1 _ (by omega), heap1 _ (by omega), heap1 _ (by omega), heap1 _ (by omega), heap1 _ (by omega), heap1 _ (by omega)]), .inr (NX.out.fill _ _)⟩⟩
    ·obtain rfl := Option.some.inj (opYL ho)
     have i90 : (act.eval (.tmp (90 : Nat))) = .bool true := hin ⟨8, .data⟩ (by simp) rfl 90 rfl
     exact plain_wp (by intro c h; cases h) (fun _ _ => trivial) (by simp only [execOp, i90, evalC, evalF, evalG]; simp [go_sem]) ⟨_, rfl, rfl, TwoJ.bl (Bl.refl _) (by have := hu.but.size; omega) (by have := hu.but.size; omega)⟩
   case fin =>
    intro vs u hu hin hnon
    have a0 := hin 0 82 rfl
    have a1 := hin 1 83 rfl
    have a2 := hin 2 84 rfl
    have a3 := hin 3 85 rfl
    have a4 := hin 4 86 rfl
    have a5 := hin 5 87 rfl
    have a6 := hin 6 88 rfl
    have a7 := hin 7 89 rfl
    have a8 := hin 8 90 rfl
    have a9 := hnon 9 rfl
    have a10 := hnon 10 rfl
    have a11 := hin 11 4 rfl
    simp only [putL, Act.put, List.setIfInBounds_toArray, List.set_cons_zero, List.set_cons_succ, Nat.zero_add, Nat.reduceAdd, if_true, reduceIte] at a0 a1 a2 a3 a4 a5 a6 a7 a8 a9 a10 a11 ⊢
    simp only [a0, a1, a2, a3, a4, a5, a6, a7, a8, a11]
    obtain ⟨d0, d1, d2, d3, _, _, _, _, _⟩ := a9
    obtain ⟨e0, e1, e2, e3, e4, e5, e6, e7, _, _, _, _, _, _, _, _, _⟩ := a10
    have HMF := hideP (Mx.but HM7.out hu.but (fun b hb => by have := HF2.out b hb; show ¬ (_ = _ ∨ _ = _); omega))
    have HRW := hideP (HR7.out.but hu.but (fun b hb => by have := HF1.out b hb; show ¬ (_ = _ ∨ _ = _); omega))
    clear hin hnon
    go_wp2
    simp [bodyPost, results, Tryz.results18, go_sem, d0, d1, d2, d3, e0, e1, e2, e3, e4, e5, e6, e7]
    exact ⟨q7, cq7, p7, c7', by simp, ⟨HRW.out, HMF.out⟩, hu.but.bl B7 (fun i hi => by rcases hi with h | h <;> omega)⟩
end Go.Proofs.YtljmggemdkfbiaaGreat
namespace Go.Proofs.YtljmggemdkfbiaaGreat
open Go.RowKit Go.Shelf
set_option linter.unusedSimpArgs false
set_option linter.unusedVariables false
attribute [local go_sem] Oper.semAt_some
def dropP7N (p : Option Addr) (cap m s : Nat) : Option Addr := if cap = m then p else p.map fun a => a.add (m * s)
theorem Tryz.drop7N (p : Option Addr) (n cap m : Nat) (w : World) (h : m ≤ n) (hc : n ≤ cap) : (Instr.sliceAt 46 (.slice p n cap) (some (.int .i64 m)) none none).run Tryz.prog w = .ok (.slice (dropP7N p cap m 4) (n - m) (cap - m)) w := by
 have hu : Tryz.prog.underlying 46 = some (.slice (Tryz.prog.elem 46)) := by kernel_rfl
 obtain ⟨i0, hi, hz0, hz1, hz2⟩ := info_parts Tryz.info_N
 have he : Tryz.prog.elem 46 = 52 := by kernel_rfl
 rw [run_sliceAt_slice (h := hu), run_slice_l (ht := hu) (h0 := by omega) (h1 := by omega), he]
 by_cases hcm : cap = m
 ·simp [sizeOf, typeInfo, hi, sliced, Result.andThen, hz1, dropP7N, hcm]
 ·have hcm' : ¬ cap - m = 0 := by omega
  simp [sizeOf, typeInfo, hi, sliced, Result.andThen, hz1, dropP7N, hcm, hcm']
theorem Rw.drop7N {α : Type} {s : Nat} {c : α → List Value} {w : World} {p : Option Addr} {cap l : Nat} {xs : List α} (h : Rw s c w (.slice p l cap) xs) (hl : l = xs.length) (n : Nat) (hn : n ≤ xs.length) :
  Rw s c w (.slice (dropP7N p cap n s) (l - n) (cap - n)) (xs.drop n) := by
 subst hl
 rcases h with ⟨e, rfl⟩ | ⟨b, o, cap', e, hc, hb, hx⟩
 ·cases e
  obtain rfl : n = 0 := by simpa using hn
  exact .inl ⟨rfl, rfl⟩
 ·cases e
  unfold dropP7N
  split
  ·rename_i hcn
   have hd : xs.drop n = [] := List.drop_eq_nil_of_le (by omega)
   rw [hd]
   exact .inr ⟨b, o, cap - n, by simp; omega, by simp, hb, fun j x hj => by simp at hj⟩
  ·have hadd : (⟨b, o, none⟩ : Addr).add (n * s) = ⟨b, o + n * s, none⟩ := by unfold Addr.add; split <;> simp_all
   refine .inr ⟨b, o + n * s, cap - n, ?_, by simp; omega, hb, fun j x hj k u hu => ?_⟩
   ·simp [hadd]
   ·rw [List.getElem?_drop] at hj
    have := hx (n + j) x hj k u hu
    rwa [show o + (n + j) * s + k = o + n * s + j * s + k by rw [Nat.add_mul]; omega] at this
def aboveBN (n : Nat) (f : Nat → Nat → En) (b : En → Bool) : Bool := (List.range n).all fun i => (List.range n).all fun k => decide (k ≤ i) || b (f i k)
theorem aboveBN_iff {n : Nat} {f : Nat → Nat → En} {b : En → Bool} : aboveBN n f b = true ↔ ∀ i k, i < k → k < n → b (f i k) = true := by
 unfold aboveBN
 simp only [List.all_eq_true, List.mem_range, Bool.or_eq_true, decide_eq_true_eq]
 constructor
 ·intro h i k hik hk
  exact (h i (by omega) k hk).resolve_left (by omega)
 ·intro h i hi k hk
  by_cases hki : k ≤ i
  ·exact .inl hki
  ·exact .inr (h i k (by omega) hk)
theorem aboveBN_no {n : Nat} {f : Nat → Nat → En} {b : En → Bool} {i k : Nat} (hik : i < k) (hk : k < n) (h : b (f i k) = false) : aboveBN n f b = false := by
 cases e : aboveBN n f b with
 | false => rfl
 | true =>
  have := aboveBN_iff.1 e i k hik hk
  rw [h] at this
  cases this
theorem Tryz.notNilN (K : Nat) (w : World) : (binOp .eql 61 (.func (.func K) #[] #[]) .nilFunc).run Tryz.prog w = .ok (.bool false) w := by kernel_rfl
theorem isBox_ownN {X Y : World} {B B0 : Nat} {t : TypeId} {v : Value} {row : Option Nat} (h : Boxed X B t v) (hg : X.grownBy Y row) (h0 : B < B0) (hr : ∀ r, row = some r → B0 ≤ r ∧ ∃ o : Obj, X.heap[r]? = some o ∧ o.isCells = false) : Boxed Y B t v :=
 (hg.block B h.lt (fun e => by have := (hr B e.symm).1; omega)).trans h
set_option maxRecDepth 100000 in
set_option maxHeartbeats 4000000 in
theorem tIsN (n : Nat) (p : Option Addr) (N cap : Nat) (f : Nat → Nat → En) (K : Nat) (b : En → Bool) (w : World) (h : Mx 4 cellsN w n n p N cap f) (eg : ∀ (args : Array Value) (w : World), (callFunc K args).run Tryz.prog w = .ok (.enter K args) w)
  (hK : ∀ x u, Bl w u → Calls Tryz.prog K #[enV x] u fun e w' => e = .returned (.bool (b x)) ∧ Bl u w') :
  Calls Tryz.prog 22 #[mV n n p N cap, .func (.func K) #[] #[]] w fun e w' => e = .returned (.bool (aboveBN n f b)) ∧ Bl w w' := by
 refine (callsIn_wide (n := 8)).1 ?_
 have hsq : sqB n n N = true := by unfold sqB; rw [h.fit]; simp
 have hd := h.1
 have hn16 := hd.r2
 have nn := Tryz.notNilN K
 have HXm := hideP h
 have HK := hideP hK
 clear h hK
 obtain ⟨V, hV⟩ : ∃ V, V = ((w.alloc (.cells #[.int .i64 n, .int .i64 n, .slice p N cap] 48)).alloc (.cells #[.func (.func K) #[] #[]] 61)).alloc (.cells #[.bool false] 4) := ⟨_, rfl⟩
 have hBV : Bl w V := by rw [hV]; exact (((Bl.refl _).alloc _).alloc _).alloc _
 have mx0 : MBox V w.heap.size n n p N cap := by rw [hV]; exact (MBox.new w _ _ _ _ _ _).later (((Bl.refl _).alloc _).alloc _)
 have bz : Boxed V (w.heap.size + 1) 61 (.func (.func K) #[] #[]) := by
  rw [hV]
  have := (Boxed.new (w.alloc (.cells #[.int .i64 n, .int .i64 n, .slice p N cap] 48)) 61 (.func (.func K) #[] #[])).alloc (.cells #[.bool false] 4)
  simpa using this
 have br : Boxed V (w.heap.size + 1 + 1) 4 (.bool false) := by
  rw [hV]
  have := Boxed.new ((w.alloc (.cells #[.int .i64 n, .int .i64 n, .slice p N cap] 48)).alloc (.cells #[.func (.func K) #[] #[]] 61)) 4 (.bool false)
  simpa using this
 have hsz : V.heap.size = w.heap.size + 1 + 1 + 1 := by rw [hV]; simp
 have HV := hideP hV
 clear hV
 refine callsIn_of_wp_marks Tryz.func22 rfl trivial ?_ rfl
 simp only [Tryz.ntmps22, List.size_toArray, List.length_cons, List.length_nil, Nat.reduceAdd, Nat.reduceSub, Array.replicate_succ, Array.replicate_zero, List.push_toArray, List.append_toArray, List.nil_append, List.cons_append]
 gi_wp2_with fail
 rw [← HV.out]
 obtain ⟨c0, c1, c2, f0, f1, f2, lt⟩ := id mx0
 gi_wp2_with fail
 refine ⟨trivial, ?_⟩
 refine (callsIn_wide.2 (tSquareN _ _ _ _ _ _)).mono ?_
 rintro e w5 ⟨rfl, h5⟩
 rw [hsq]
 clear c0 c1 c2 f0 f1 f2
 obtain ⟨c0, c1, c2, f0, f1, f2, lt5⟩ := id (mx0.later h5)
 gi_wp2_with fail
 refine ⟨trivial, ?_⟩
 refine (callsIn_wide.2 (mAllN _ _ _ _ _ f _ (HXm.out.later (hBV.trans h5)))).mono ?_
 rintro e w7 ⟨B2, p2, cap5, rfl, hK7, h7⟩
 have HK7 := hideP hK7
 clear hK7 c0 c1 c2 f0 f1 f2
 have bV7 : Bl V w7 := h5.trans h7
 have hs7 : w.heap.size + 1 + 1 + 1 ≤ w7.heap.size := by have := bV7.size; omega
 gi_wp2_with fail
 refine rangeV rfl (by omega) (gf := 108) (lb := #[.pointer (some ⟨B2, 0, none⟩)]) rfl trivial (enters_of Tryz.func108 (by kernel_rfl) rfl)
  (seqMN 7 B2 _ w7.heap.size n n p2 N cap5 f w7 (Nat.le_refl _) HK7.out) (fun x A B h => h.1) (fun h k => h.trans k) (span_b (Nat.le_refl _)) (fun _ => rfl)
  (fun (pre : List RowX) U => (∀ x ∈ pre, ∀ k, x.1 < k → k < n → b (f x.1 k) = true) ∧ (Below V.heap.size V U ∧ w7.heap.size ≤ U.heap.size))
  (fun c _ U => c = .ret ∧ aboveBN n f b = false ∧ Boxed U (w.heap.size + 1 + 1) 4 (.bool false) ∧ Below w.heap.size w U)
  (fun _ X Y row hs hg hr => ⟨hs.1, (ownFrom_below (B := w7.heap.size) (β := Unit) (n₀ := V.heap.size) (by have := bV7.size; omega) bV7.size) () X Y row hs.2.1 hg hr, Nat.le_trans hs.2.2 hg.size⟩)
  (fun c _ X Y row hs hg hr => ⟨hs.1, hs.2.1, isBox_ownN hs.2.2.1 hg (by omega) hr, (ownFrom_below (B := w7.heap.size) (β := Unit) (n₀ := w.heap.size) (Nat.le_refl _) (by omega)) () X Y row hs.2.2.2 hg hr⟩)
  ⟨by simp, bV7, Nat.le_refl _⟩
  (fun a x a' U => Rw 4 cellsN U (rowV n x) (rowM n f x.1) ∧ ((x.1 < n ∧ n ≤ x.2.2) ∧ a' = { tmps := ((((a.tmps.setIfInBounds 14 (.int .i64 x.1)).setIfInBounds 15 (rowV n x)).setIfInBounds 5 (.int .i64 x.1)).setIfInBounds 6 (rowV n x)), defers := [] }))
  (fun x a' _ X Y row hs hg hr => ⟨rw_own hs.1 hg (fun r e => (hr r e).2), hs.2⟩)
  ?assign ?body ?done ?stop
 case assign =>
  rintro l pre x W0 U K' _ ⟨hbU, hxR, hrow, hfr, hcc⟩ hI hK'
  have HK2 := hideP hK'
  have HI := hideP hI
  have HRO := hideP hrow
  clear hK' hI hrow
  gi_wp2
  refine HK2.out _ _ (KeepsFrom.refl _ _) (Span.refl _ _ _) HI.out ⟨HRO.out, ⟨hxR, hcc⟩, ?_⟩
  simp only [List.setIfInBounds_toArray, List.set_cons_zero, List.set_cons_succ]
 case body =>
  rintro l pre x a' U hl' ⟨r, hr'⟩ ⟨hpre, hbU, hsU⟩ ⟨hrx, ⟨hxn, hxc⟩, rfl⟩ hlt
  simp only [List.setIfInBounds_toArray, List.set_cons_zero, List.set_cons_succ]
  obtain ⟨x1, xp, xc⟩ := x
  dsimp only [rowV] at *
  have HPRE := hideP hpre
  have bz1 := boxed_bl bz (show Bl V U from hbU)
  have br1 := boxed_bl br (show Bl V U from hbU)
  have hdr := hrx.drop7N (by rw [rowM_len]) (x1 + 1) (by rw [rowM_len]; omega)
  have hdp := fun u => Tryz.drop7N xp n xc (x1 + 1) u (by omega) hxc
  rw [show ((x1 + 1 : Nat) : Int) = (x1 : Int) + 1 by omega] at hdp
  generalize dropP7N xp xc (x1 + 1) 4 = dp at *
  obtain ⟨m, hm⟩ : ∃ m, m = n - (x1 + 1) := ⟨_, rfl⟩
  obtain ⟨c, hc⟩ : ∃ c, c = xc - (x1 + 1) := ⟨_, rfl⟩
  rw [← hm, ← hc] at hdr hdp
  have hm16 : m ≤ 16 := by omega
  have HDR := hideP hdr
  have HM := hideP hm
  clear hrx hdr hpre hc hm
  gi_wp2_with fail
  gi_loopw [21] (fun v wr => ∃ j : Nat, v = .int .i64 j ∧ j ≤ m ∧ Bl U wr ∧ ∀ k, k < j → b (f x1 (x1 + 1 + k)) = true) (fun v _ => m - (intOf v).toNat)
  case atStart => exact ⟨0, rfl, Nat.zero_le _, Bl.refl _, fun k hk => by omega⟩
  case round =>
   obtain ⟨j, rfl, hj, bl, hbj⟩ := hrel
   have HBJ := hideP hbj
   clear hbj
   by_cases hlt2 : j < m
   ·have hy : (List.drop (x1 + 1) (rowM n f x1))[j]? = some (f x1 (x1 + 1 + j)) := by
     rw [List.getElem?_drop]
     exact rowM_get f x1 (by have := HM.out; omega)
    obtain ⟨g, o, rfl, CX⟩ : ∃ g o, dp = some ⟨g, o, none⟩ ∧ ∀ k u, (cellsN (f x1 (x1 + 1 + j)))[k]? = some u → wr.cell? ⟨g, o + j * 4 + k, none⟩ = some u := by
     rcases HDR.out with ⟨e, _⟩ | ⟨g, o, cc, e, _, hg, hx⟩
     ·simp only [Value.slice.injEq] at e
      omega
     ·simp only [Value.slice.injEq] at e
      exact ⟨g, o, e.1, fun k u hu => (bl_cell bl _ _ hg).trans (hx j _ hy k u hu)⟩
    obtain ⟨y, hyy⟩ : ∃ y, y = f x1 (x1 + 1 + j) := ⟨_, rfl⟩
    rw [← hyy] at CX
    have x0 : wr.cell? ⟨g, o + j * 4, none⟩ = some (.int .i64 y.v) := CX 0 _ rfl
    have x1' : wr.cell? ⟨g, o + j * 4 + 1, none⟩ = some (.int .i64 y.l) := CX 1 _ rfl
    have x3' : wr.cell? ⟨g, o + j * 4 + 2, none⟩ = some (.int .i64 y.h) := CX 2 _ rfl
    have x2 : wr.cell? ⟨g, o + j * 4 + 3, none⟩ = some (.bool y.bad) := CX 3 _ rfl
    have HY := hideP hyy
    have bz2 := boxed_bl bz1 bl
    have zc := bz2.cell
    clear hy CX hyy
    obtain ⟨X, hX⟩ : ∃ X, X = wr.alloc (.cells #[.int .i64 y.v, .int .i64 y.l, .int .i64 y.h, .bool y.bad] 52) := ⟨_, rfl⟩
    have bX : Bl wr X := by rw [hX]; exact (Bl.refl _).alloc _
    obtain ⟨d0, d1, d2, d3, g0, g1, g2, g3, ltX⟩ : Box X wr.heap.size y := by rw [hX]; exact Box.new wr y _
    have zc2 := (boxed_bl bz2 bX).cell
    rw [hX] at zc2
    have HX := hideP hX
    clear hX d0 d1 d2 d3 g0 g1 g2 g3 zc
    gi_wp2_with fail
    rw [← HX.out]
    refine ⟨trivial, ?_⟩
    refine CallsIn.mono (F := Fence.wide.inRound l) (show CallsIn (Fence.wide.inRound l) 5 Tryz.prog K #[enV y] X _ from callsIn_wide.2 (HK.out y X (hBV.trans ((show Bl V U from hbU).trans (bl.trans bX))))) ?_
    rintro e w9 ⟨rfl, h9⟩
    have bU9 : Bl U w9 := bl.trans (bX.trans h9)
    have br9 := boxed_bl br1 bU9
    have bc := br9.cell
    have fc := br9.frozen
    have bV9 : Bl V w9 := (show Bl V U from hbU).trans bU9
    cases hby : b y with
    | true =>
     gi_wp2
     go_roundw
     case rel =>
      refine ⟨j + 1, by simp, hlt2, bU9, fun k hk => ?_⟩
      by_cases hkj : k < j
      ·exact HBJ.out k hkj
      ·obtain rfl : k = j := by omega
       rw [← HY.out]; exact hby
     case measure => simp [intOf]; omega
    | false =>
     have hab : aboveBN n f b = false := aboveBN_no (i := x1) (k := x1 + 1 + j) (by omega) (by have := HM.out; omega) (by rw [← HY.out]; exact hby)
     gi_wp2
     refine ⟨(bU9.keeps _).trans ((KeepsOthers.setCell _ _ _).from _), rfl, hab, ?_, ?_⟩
     ·have := br9.set (.bool false); simpa using this
     ·exact (hBV.trans bV9).setCell (p := ⟨w.heap.size + 1 + 1, 0, none⟩) (by simp; omega) _
   ·have HBJ2 := HBJ.out
    obtain rfl : j = m := by omega
    gi_wp2
    refine ⟨bl.keeps _, bl.span hsU, ?_, hbU.trans (bl.mono (show V.heap.size ≤ U.heap.size by have := bV7.size; omega)), by have := bl.size; omega⟩
    intro x hx k hk1 hk2
    rcases List.mem_append.1 hx with h | h
    ·exact HPRE.out x h k hk1 hk2
    ·obtain rfl : x = (x1, xp, xc) := by simpa using h
     have := HBJ2 (k - (x1 + 1)) (by have := HM.out; dsimp only at hk1; omega)
     dsimp only at hk1 ⊢
     rwa [show x1 + 1 + (k - (x1 + 1)) = k by omega] at this
 case done =>
  rintro D zs U hD hS ⟨hall, hbU, hsU⟩ hKD
  have hab : aboveBN n f b = true := aboveBN_iff.2 fun i k hik hk => by
   have : i ∈ zs.map (·.1) := by rw [hS]; simp; omega
   obtain ⟨x, hx, rfl⟩ := List.mem_map.1 this
   exact hall x hx k hik hk
  have br7 := boxed_bl br (show Bl V U from hbU)
  have bc := br7.cell
  have fc := br7.frozen
  have HKD := hideP hKD
  have HDD := hideP hD
  clear hKD hD
  gi_wp2
  refine ⟨by simp, .inl ⟨_, _, rfl, run_takeDeferred ((KeepsOthers.setCell U ⟨w.heap.size + 1 + 1, 0, none⟩ (.bool true)).same D _ HKD.out rfl), ?_⟩⟩
  have hc6 := cell_kept (World.cell?_setCell_same' U ⟨w.heap.size + 1 + 1, 0, none⟩ (.bool true) (by rw [bc]; rfl)) (grownBy_putObj' _ D (.deferred none)) (fun r e => by cases e; exact ⟨_, (KeepsOthers.setCell U ⟨w.heap.size + 1 + 1, 0, none⟩ (.bool true)).same D _ HKD.out rfl, rfl⟩)
  refine ⟨.bool true, ?_, by rw [hab], ?_⟩
  ·simp [results, Tryz.f22, go_sem, hc6]
  ·have t1 : Below w.heap.size w U := hBV.trans hbU
   have t2 := t1.setCell (p := ⟨w.heap.size + 1 + 1, 0, none⟩) (by simp; omega) (.bool true)
   exact t2.trans (belowK_b (w := w) (Nat.le_refl _) _ D _ _ (by have := HDD.out; omega) ((KeepsOthers.setCell U ⟨w.heap.size + 1 + 1, 0, none⟩ (.bool true)).same D _ HKD.out rfl) rfl rfl)
 case stop =>
  rintro D c pre U hD hpre ⟨rfl, hab, hbx, hbU⟩ hKD
  have bc := hbx.cell
  gi_wp2
  refine ⟨by simp, .inl ⟨_, _, rfl, run_takeDeferred hKD, ?_⟩⟩
  have hc6 := cell_kept hbx.cell (grownBy_putObj' _ D (.deferred none)) (fun r e => by cases e; exact ⟨_, hKD, rfl⟩)
  refine ⟨.bool false, ?_, by rw [hab], ?_⟩
  ·simp [results, Tryz.f22, go_sem, hc6]
  ·exact hbU.trans (belowK_b (w := w) (Nat.le_refl _) _ D _ _ (by omega) hKD rfl rfl)
end Go.Proofs.YtljmggemdkfbiaaGreat
namespace Go.Proofs.YtljmggemdkfbiaaGreat
open Go.RowKit
set_option linter.unusedSimpArgs false
set_option linter.unusedVariables false
def eqN (a b : En) : Bool := a.v == b.v && (a.l == b.l && (a.h == b.h && a.bad == b.bad))
theorem eqN_self (a : En) : eqN a a = true := by simp [eqN]
theorem eql_en (a b : En) (w : World) : (binOp .eql 52 (enV a) (enV b)).run Tryz.prog w = .ok (.bool (eqN a b)) w := by
 rw [run_eql_struct, run_equalIn_agg _ _ _ _ _ Tryz.nnFields Tryz.nnHeld]
 rw [eqFields_map 9999 #[.int .i64 a.v, .int .i64 a.l, .int .i64 a.h, .bool a.bad] #[.int .i64 b.v, .int .i64 b.l, .int .i64 b.h, .bool b.bad] _ [{ name := "V", type := 3, offset := 0, embedded := false, tag := "", pkgPath := "", byteOffset := 0 }, { name := "Low", type := 3, offset := 1, embedded := false, tag := "", pkgPath := "", byteOffset := 0 }, { name := "High", type := 3, offset := 2, embedded := false, tag := "", pkgPath := "", byteOffset := 0 }, { name := "Bad", type := 4, offset := 3, embedded := false, tag := "", pkgPath := "", byteOffset := 0 }] Tryz.nnList]
 cases h1 : (a.v == b.v) <;> cases h2 : (a.l == b.l) <;> cases h3 : (a.h == b.h) <;> cases h4 : (a.bad == b.bad) <;> simp [Op.eqFields, part, go_sem, eqN, h1, h2, h3, h4]
set_option maxHeartbeats 2000000 in
theorem stays1_any (x : En) (w : World) : Calls Tryz.prog 23 #[enV x] w fun e w' => e = .returned (.bool (eqN x (ptE 0 (frB 0)))) ∧ Bl w w' := by
 obtain ⟨W, hW⟩ : ∃ W, W = w.alloc (.cells #[.int .i64 x.v, .int .i64 x.l, .int .i64 x.h, .bool x.bad] 52) := ⟨_, rfl⟩
 have b0 : Bl w W := by rw [hW]; exact (Bl.refl _).alloc _
 have k0 : Box W w.heap.size x := by rw [hW]; exact Box.new w x _
 obtain ⟨y, hy⟩ : ∃ y, y = ptE 0 (frB 0) := ⟨_, rfl⟩
 have PW := hideP (fun z : Wl W => by have := pointE_any 0 z.w; rw [← hy] at this; exact this)
 have HW := hideP hW
 rw [← hy]
 have x0 := fun z : Wl W => (k0.later z.bl).c0
 have x1 := fun z : Wl W => (k0.later z.bl).c1
 have x2 := fun z : Wl W => (k0.later z.bl).c2
 have x3 := fun z : Wl W => (k0.later z.bl).c3
 have nx := eql_en x y
 obtain ⟨q, hq⟩ : ∃ q, q = eqN x y := ⟨_, rfl⟩
 rw [← hq] at nx ⊢
 clear hW hy k0 hq
 obtain ⟨xv, xl, xh, xb⟩ := x
 obtain ⟨yv, yl, yh, yb⟩ := y
 have wne := wl_ne W
 dsimp only at x0 x1 x2 x3
 go_enter Tryz.func23, Tryz.ntmps23
 go_wp2_with fail
 rw [← HW.out]
 refine wl_region W (Bl.refl _) (by kernel_rfl) (by kernel_rfl) ?_
 repeat (go_big_quiet_step (first | (go_at_call 24; exact wl_call (PW.out _))))
 refine wpQuiet_nil ?_
 intro _ hw'
 obtain ⟨z, hw''⟩ := hw'
 subst hw''
 clear wne x0 x1 x2 x3
 obtain ⟨wz, hz⟩ := z
 dsimp only
 go_wp2
 go_ret
 exact ⟨rfl, b0.trans hz⟩
theorem run_above {n : Nat} {S : Nat → Nat → En} {h : Nat → En} {r : En} {i k : Nat} (hik : i < k) : ∀ t, (runO kdN n S h r t).s i k = S i k
 | 0 => rfl
 | t + 1 => by
  show partS kdN (n - 1 - t) n (wO kdN n S h (n - 1 - t)) (runO kdN n S h r t) i k = _
  unfold partS
  rw [if_neg (by omega)]
  exact run_above hik t
theorem fold_above {R C : Nat} {f : Nat → Nat → En} {i k : Nat} (hi : i < R) (hik : i < k) : foldN R C f i k = wholeN 0 := by
 unfold foldN signsH
 rw [if_neg (by omega), foldL_to]
 exact foldTo_zero kdN C _ f hi hik
theorem zero_pt : wholeN 0 = ptE 0 (frB 0) := by kernel_rfl
theorem stays_math (m : Nat) (Ro Fm Gm H : List Int) (r : En) : aboveBN m (laneR m Ro Fm Gm H r).s (fun x => eqN x (ptE 0 (frB 0))) = true := by
 refine aboveBN_iff.2 fun i k hik hk => ?_
 have e : (laneR m Ro Fm Gm H r).s i k = ptE 0 (frB 0) := by
  unfold laneR
  rw [run_above hik]
  unfold laneS predO
  rw [fold_above (by omega) hik, zero_pt]
 show eqN ((laneR m Ro Fm Gm H r).s i k) (ptE 0 (frB 0)) = true
 rw [e]
 exact eqN_self _
end Go.Proofs.YtljmggemdkfbiaaGreat
