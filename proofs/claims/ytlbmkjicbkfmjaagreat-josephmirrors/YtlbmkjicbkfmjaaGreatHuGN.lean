/- Contract of house's Fold, of enclosed numbers (layer 8). Written by genHu.py. -/
import Derived.Test.YtlbmkjicbkfmjaaGreatHuSN
import Derived.Test.YtlbmkjicbkfmjaaGreatRfw
import Derived.Maps.OwnIn
namespace Go.Proofs.YtlbmkjicbkfmjaaGreat
open Go.RowKit Go.Shelf
set_option linter.unusedSimpArgs false
set_option linter.unusedVariables false
attribute [local go_sem] Oper.semAt_some

/-- What a fold of a matrix is. -/
def foldN (R C : Nat) (f : Nat → Nat → En) : Nat → Nat → En := signsH kdN (fun j => lowN (foldL kdN lowN C f R j j)) (foldL kdN lowN C f R)
/-- The first numbers of a row, as the program takes them. -/
theorem Tryz.frontN (b n cap hi : Nat) (w : World) (h1 : hi ≤ cap) (h2 : 0 < cap) : (Instr.sliceAt 22 (.slice (some ⟨b, 0, none⟩) n cap) none (some (.int .i64 hi)) none).run Tryz.prog w = .ok (.slice (some ⟨b, 0, none⟩) hi cap) w := by
  have hu : Tryz.prog.underlying 22 = some (.slice (Tryz.prog.elem 22)) := by kernel_rfl
  obtain ⟨i0, hi0, hz0, hz1, hz2⟩ := info_parts Tryz.info_N
  have he : Tryz.prog.elem 22 = 28 := by kernel_rfl
  rw [run_sliceAt_slice (h := hu), run_slice_h (ht := hu) (h0 := by omega) (h2 := by omega), he]
  have hcm : ¬ cap = 0 := by omega
  simp [sizeOf, typeInfo, hi0, sliced, Result.andThen, hz1, hcm, Addr.add]
theorem hFoldAllN_no (r c : Int) (p : Option Addr) (N cap : Nat) (w : World) (h : fitB r c N = false ∨ r > c) :
    Calls Tryz.prog 35 #[mV r c p N cap] w fun e w' => e = .returned (.tuple #[mV 0 0 none 0 0, .bool false]) ∧ Bl w w' := by
  obtain ⟨W, hW⟩ : ∃ W, W = (w.alloc (.cells #[.int .i64 r, .int .i64 c, .slice p N cap] 24)).alloc (.cells #[.int .i64 0, .int .i64 0, .slice none 0 0] 24) := ⟨_, rfl⟩
  have b0 : Bl w W := by rw [hW]; exact ((Bl.refl _).alloc _).alloc _
  have m0 : MBox W w.heap.size r c p N cap := by rw [hW]; exact (MBox.new w _ _ _ _ _ _).later ((Bl.refl _).alloc _)
  have x0 : MBox W (w.heap.size + 1) 0 0 none 0 0 := by rw [hW]; have := MBox.new (w.alloc (.cells #[.int .i64 r, .int .i64 c, .slice p N cap] 24)) 0 0 none 0 0 24; rw [World.size_alloc] at this; exact this
  have HW := hideP hW
  clear hW
  go_enter Tryz.func35, Tryz.ntmps35
  go_wp2_with fail
  rw [← HW.out]
  refine (mRightN _ _ _ _ _ _).mono ?_
  rintro e w1 ⟨rfl, h1⟩
  obtain ⟨c0, c1, c2, f0, f1, f2, lt⟩ := m0.later h1
  obtain ⟨d0, d1, d2, g0, g1, g2, lt2⟩ := x0.later h1
  cases hf : fitB r c N with
  | false =>
    go_wp2
    simp [bodyPost, results, Tryz.results35, go_sem, d0, d1, d2]
    exact Bl.put3 (b0.trans h1) (Nat.le_succ _) _ _ _
  | true =>
    have hrc : r > c := h.resolve_left (by rw [hf]; nofun)
    go_wp2
    simp [bodyPost, results, Tryz.results35, go_sem, d0, d1, d2]
    exact Bl.put3 (b0.trans h1) (Nat.le_succ _) _ _ _
set_option maxRecDepth 100000 in
set_option maxHeartbeats 4000000 in
theorem hFoldAllN (R C : Nat) (p : Option Addr) (N cap : Nat) (f : Nat → Nat → En) (w : World) (h : Mx 4 cellsN w R C p N cap f) (hRC : R ≤ C) :
    Calls Tryz.prog 35 #[mV R C p N cap] w fun e w' => ∃ p' cap', e = .returned (.tuple #[mV R R p' (R * R : Nat) cap', .bool true]) ∧ Mx 4 cellsN w' R R p' (R * R) cap' (foldN R C f) ∧ Bl w w' := by
  obtain ⟨i0, hi, hz0, hz1, hz2⟩ := info_parts Tryz.info_TN
  obtain ⟨j0, hji, jz0, jz1, jz2⟩ := info_parts Tryz.info_N
  refine (callsIn_wide (n := 8)).1 ?_
  have hd := h.1
  have hfit := h.fit
  have hR16 := hd.r2
  have hR1 := hd.r1
  have hC16 := hd.c2
  have HM := hideP h
  obtain ⟨W, hW⟩ : ∃ W, W = (w.alloc (.cells #[.int .i64 R, .int .i64 C, .slice p N cap] 24)).alloc (.cells #[.int .i64 0, .int .i64 0, .slice none 0 0] 24) := ⟨_, rfl⟩
  have b0 : Bl w W := by rw [hW]; exact ((Bl.refl _).alloc _).alloc _
  have m0 : MBox W w.heap.size R C p N cap := by rw [hW]; exact (MBox.new w _ _ _ _ _ _).later ((Bl.refl _).alloc _)
  have x0 : MBox W (w.heap.size + 1) 0 0 none 0 0 := by rw [hW]; have := MBox.new (w.alloc (.cells #[.int .i64 R, .int .i64 C, .slice p N cap] 24)) 0 0 none 0 0 24; rw [World.size_alloc] at this; exact this
  have hs0 : W.heap.size = w.heap.size + 1 + 1 := by rw [hW]; simp
  have HW := hideP hW
  clear hW h hd
  refine callsIn_of_wp_marks Tryz.func35 rfl trivial ?_ rfl
  refine wpIn_wide.2 ?_
  simp only [Tryz.ntmps35, List.size_toArray, List.length_cons, List.length_nil, Nat.reduceAdd, Nat.reduceSub, Array.replicate_succ, Array.replicate_zero, List.push_toArray, List.append_toArray, List.nil_append, List.cons_append]
  go_wp2_with fail
  rw [← HW.out]
  refine (mRightN _ _ _ _ _ _).mono ?_
  rintro e w1 ⟨rfl, h1⟩
  rw [hfit]
  have m1 := m0.later h1
  have x1 := x0.later h1
  obtain ⟨c0, c1, c2, f0, f1, f2, lt⟩ := id m1
  obtain ⟨W1, hW1⟩ : ∃ W1, W1 = w1.alloc (.cells #[.slice none 0 0] 123) := ⟨_, rfl⟩
  have b1 : Bl w1 W1 := by rw [hW1]; exact (Bl.refl _).alloc _
  have bx1 : Boxed W1 w1.heap.size 123 (.slice none 0 0) := by rw [hW1]; exact Boxed.new w1 _ _
  have hs1 : W1.heap.size = w1.heap.size + 1 := by rw [hW1]; simp
  have HW1 := hideP hW1
  clear hW1
  go_wp2_with fail
  rw [← HW1.out]
  have bw1 : Bl w w1 := b0.trans h1
  refine (mAllN R C p N cap f W1 (HM.out.later (bw1.trans b1))).mono ?_
  rintro e w2 ⟨B2, p2, cap2, rfl, hK2, h2⟩
  have HK2 := hideP hK2
  have b12 : Bl w1 w2 := b1.trans h2
  have hs2 : w1.heap.size + 1 ≤ w2.heap.size := by have := h2.size; omega
  have bx2 := boxed_bl bx1 h2
  clear hK2 c0 c1 c2 f0 f1 f2 lt
  go_wp2_with fail
  refine (wpIn_wide (n := 8)).1 (rangeW rfl (by omega) (gf := 128) (lb := #[.pointer (some ⟨B2, 0, none⟩)]) rfl trivial (enters_of Tryz.func128 (by kernel_rfl) rfl)
    (seqMZN 7 B2 _ w2.heap.size R C p2 N cap2 f w2 (Nat.le_refl _) HK2.out) (fun x A B h => h.1) (fun h k => h.trans k) (span_b (Nat.le_refl _)) (fun _ => rfl)
    (fun (pre : List RowX) U => (∃ v, Boxed U w1.heap.size 123 v ∧ U.ownsRow w1.heap.size 22 1 v pre.length (pre.flatMap (hdC C)) ∧ ((∀ b, v.ownBlock = some b → w2.heap.size ≤ b) ∧ ∀ y ∈ pre, v.ownBlock ≠ (rowV C y).ownBlock)) ∧ (RowsZ 4 cellsN w2.heap.size R C f pre U ∧ (Below w1.heap.size w1 U ∧ w2.heap.size ≤ U.heap.size)))
    (fun _ _ _ => False)
    (OwnFrom.and (Own.from (holdsRow_own w1.heap.size w1.heap.size 123 22 1 (fun pre : List RowX => pre.length) (fun pre : List RowX => pre.flatMap (hdC C)) (fun pre v => (∀ b, v.ownBlock = some b → w2.heap.size ≤ b) ∧ ∀ y ∈ pre, v.ownBlock ≠ (rowV C y).ownBlock)) _) (OwnFrom.and (rowsZ_own cellsN_len (by omega) _ _ _ _ HM.out.1.c1 f) (OwnFrom.and (ownFrom_below (Nat.le_refl _) b12.size) (own_size _ _))))
    (fun _ _ _ _ _ hs _ _ => hs)
    ⟨⟨_, bx2, ⟨rfl, .inl ⟨rfl, rfl⟩⟩, nofun, nofun⟩, ⟨nofun, List.Pairwise.nil⟩, b12, Nat.le_refl _⟩
    (fun a pre x a' U => RwZ 4 cellsN U w2.heap.size (rowV C x) (rowM C f x.1) ∧ (∃ v, Boxed U w1.heap.size 123 v ∧ v.ownBlock ≠ (rowV C x).ownBlock) ∧ (x.1 < R ∧ (∀ y ∈ pre, (rowV C y).ownBlock ≠ (rowV C x).ownBlock) ∧ a' = { tmps := (((a.tmps.setIfInBounds 24 (.int .i64 x.1)).setIfInBounds 25 (rowV C x)).setIfInBounds 6 (rowV C x)), defers := [] }))
    (fun pre x a' _ X Y row hs hg hr => ⟨hs.1.own cellsN_len (by omega) (by intro e; have := congrArg List.length e; rw [rowM_len] at this; simp at this; have := HM.out.1.c1; omega) hg (fun r e => (hr r e).2), (by
      obtain ⟨v, hv, hne⟩ := hs.2.1
      refine ⟨v, hv.kept hg (fun e => ?_), hne⟩
      obtain ⟨_, o, ho, hc⟩ := hr _ e.symm
      rw [show X.heap[w1.heap.size]? = _ from hv] at ho; cases ho; cases hc), hs.2.2⟩)
    ?assign ?body ?done ?stop)
  case assign =>
    rintro l pre x W0 U K' ⟨⟨v0, hv0, hrow0, hG0⟩, hrows0, hb0, hsz0⟩ ⟨hbU, hxR, hrz, hcc⟩ hI hK'
    have HK3 := hideP hK'
    have HI := hideP hI
    obtain ⟨bx, capx, ex, _, hlo, _⟩ := id hrz
    have HRZ := hideP (hrz.base hsz0)
    have own : (rowV C x).ownBlock = some bx := by rw [ex]; rfl
    have HV := hideP (show ∃ v, Boxed U w1.heap.size 123 v ∧ v.ownBlock ≠ (rowV C x).ownBlock from ⟨v0, boxed_bl hv0 hbU, by
      rw [own]
      intro e
      have := (hrow0.lt bx e).2
      omega⟩)
    have HN := hideP (show ∀ y ∈ pre, (rowV C y).ownBlock ≠ (rowV C x).ownBlock from fun y hy e => by
      obtain ⟨b, c, e2, _, _, hb, _⟩ := (hrows0.1 y hy).1
      rw [own, e2] at e
      have : b = bx := by cases e; rfl
      omega)
    clear hK' hI hrz hv0 hrow0 hG0 hrows0 hb0 own ex
    gi_wp2
    refine HK3.out _ _ (KeepsFrom.refl _ _) (Span.refl _ _ _) HI.out ⟨HRZ.out, HV.out, hxR, HN.out, ?_⟩
    simp only [List.setIfInBounds_toArray, List.set_cons_zero, List.set_cons_succ]
  case body =>
    rintro l pre x a' U hl' ⟨r, hr'⟩ ⟨⟨v0, hv0, hrow, hG1, hG2⟩, hrows, hbU, hsU⟩ ⟨hrz, ⟨v1, hv1, hne1⟩, hxR, hdis, rfl⟩ hlt
    simp only [List.setIfInBounds_toArray, List.set_cons_zero, List.set_cons_succ]
    have hv01 : v1 = v0 := by
      have e1 := hv1.cell
      rw [hv0.cell] at e1
      exact (Option.some.inj e1).symm
    subst hv01
    have hne0 : some w1.heap.size ≠ v1.ownBlock := hv0.not_row (by decide) hrow
    have HRS := hideP hrows
    have HRZ := hideP hrz
    have HD := hideP hdis
    have HG1 := hideP hG1
    have HG2 := hideP hG2
    have cb := hv0.cell
    have kU : Bl U (U.alloc (.cells #[rowV C x] 22)) := (Bl.refl _).alloc _
    have hvu := boxed_bl hv0 kU
    have hrowu := hrow.alloc (.cells #[rowV C x] 22)
    clear hrows hrz hdis hG1 hG2
    gi_wp2_with (gi_at_builtin; refine wpListIn_append_own_at _ rfl _ _ 123 rfl w1.heap.size 22 i0 (.slice none 0 0) 1 24 Tryz.underlying123 hi hz0 hz1 hz2 rfl (by decide) v1 pre.length (pre.flatMap (hdC C)) rfl hrowu ⟨U.heap.size, 0, none⟩ 1 1 [rowV C x] rfl rfl (cell_one_new _ _ _) (by intro u hu; simp at hu; subst hu; rfl) (by unfold maxLen; omega) (by omega) (by simp; omega) ?_; intro v3 w3 hown3 hgrow3 hnil3 hat3; obtain ⟨g3, c3, rfl⟩ := own_slice8 hown3 (Nat.succ_pos _); have hv3 := hvu.kept hgrow3 hne0; have e3 := hv3.cell; have f3 := hv3.frozen)
    obtain ⟨hv5, hv6, hr6, hk6, hb6⟩ := boxed_appended hvu (by decide) hrowu (by simp; omega) (Nat.le_refl _) hown3 hgrow3
    have hg3 := hgrow3.size
    have e1 : pre ++ [x] = pre ++ [x] := rfl
    refine ⟨(kU.keeps _).trans (hk6.from _), span_appended kU hsU (fun g hg => .inr (HG1.out g hg)) hgrow3 (by omega), ⟨_, hv6, ?_, ?_, ?_⟩, ⟨?_, ?_⟩, ?_, ?_⟩
    · rw [List.length_append, List.flatMap_append]
      simpa using hr6
    · intro b hb
      rcases hat3 with e | e
      · exact HG1.out b (by rw [← e]; exact hb)
      · rw [e] at hb
        cases hb
        simp
        omega
    · intro y hy e
      rcases hat3 with e2 | e2
      · rw [e2] at e
        rcases List.mem_append.1 hy with h | h
        · exact HG2.out y h e
        · have : y = x := by simpa using h
          subst this
          exact hne1 e
      · rw [e2] at e
        rcases List.mem_append.1 hy with h | h
        · obtain ⟨b, c, e4, _, _, hb, _⟩ := (HRS.out.1 y h).1
          rw [e4] at e
          have : (U.alloc (.cells #[rowV C x] 22)).heap.size = b := by cases e; rfl
          simp at this
          omega
        · have : y = x := by simpa using h
          subst this
          obtain ⟨b, c, e4, _, _, hb, _⟩ := HRZ.out
          rw [e4] at e
          have : (U.alloc (.cells #[.slice (some ⟨b, 0, none⟩) (rowM C f y.1).length c] 22)).heap.size = b := Option.some.inj e
          simp at this
          omega
    · intro y hy
      rcases List.mem_append.1 hy with h | h
      · refine ⟨((HRS.out.1 y h).1.later kU).beside hgrow3 (fun g hg => ⟨fun e => HG2.out y h (e.trans hg.symm), fun e => ?_⟩), (HRS.out.1 y h).2⟩
        obtain ⟨b, c, e4, _, hlo, hb, _⟩ := (HRS.out.1 y h).1
        rw [e4] at hg
        have : b = g := by cases hg; rfl
        omega
      · have : y = x := by simpa using h
        subst this
        refine ⟨(HRZ.out.later kU).beside hgrow3 (fun g hg => ⟨fun e => hne1 (e.trans hg.symm), fun e => ?_⟩), hxR⟩
        obtain ⟨b, c, e4, _, hlo, hb, _⟩ := HRZ.out
        rw [e4] at hg
        have : b = g := by cases hg; rfl
        omega
    · refine List.pairwise_append.2 ⟨HRS.out.2, List.pairwise_singleton _ _, fun y hy z hz => ?_⟩
      have : z = x := by simpa using hz
      subst this
      exact HD.out y hy
    · exact hbU.trans ((kU.mono (by have := hbU.size; omega)).trans hb6)
    · simp; have := kU.size; omega
  case stop =>
    rintro D' c pre U _ _ h _
    exact h.elim
  case done =>
    rintro Dm zs U hD hS ⟨⟨v, hv, hrow, hG1, hG2⟩, hrows, hbU, hsU⟩ hKD
    obtain ⟨H, hc, B, cp, rfl, hRc, hH, tb, hBlo⟩ := Tbl.of hS hR1 hrow hrows hG2
    have HH2 := hG1 H rfl
    have hDw : w1.heap.size ≤ Dm := by omega
    have HDB := hideP (show ¬ InT B R Dm from by
      rintro ⟨i, hi', e⟩
      have hc0 := tb.cells i 0 hi' HM.out.1.c1 0 _ rfl
      unfold World.cell? at hc0
      simp only at hc0
      rw [← e, hKD] at hc0
      cases hc0)
    have HHB := hideP (show ¬ InT B R w1.heap.size from by
      rintro ⟨i, hi', e⟩
      have := hBlo i hi'
      omega)
    have HMB := hideP (show ¬ InT B R w.heap.size from by
      rintro ⟨i, hi', e⟩
      have := hBlo i hi'
      have := bw1.size
      omega)
    have HXB := hideP (show ¬ InT B R (w.heap.size + 1) from by
      rintro ⟨i, hi', e⟩
      have := hBlo i hi'
      have := h1.size
      omega)
    have HBL := hideP (show ∀ g, InT B R g → w.heap.size ≤ g from by
      rintro g ⟨i, hi', e⟩
      have := hBlo i hi'
      have := bw1.size
      omega)
    have bU : Bl w1 U := hbU
    have mU := m1.later bU
    have xU := x1.later bU
    have HT0 := hideP tb
    have hdl : Dm < U.heap.size := (Array.getElem?_eq_some_iff.1 hKD).1
    have HKD := hideP hKD
    have HHV := hideP hv
    have cbU := hv.cell
    have hw1U : w1.heap.size < U.heap.size := hv.lt
    clear tb hKD hv hrow hrows hS hG1 hG2 hbU
    go_wp2_with fail
    go_loopw [32] (fun v wr => ∃ j : Nat, v = .int .i64 j ∧ j ≤ R ∧ Tbl 4 cellsN wr H B cp R C (foldL kdN lowN C f j) ∧ But (InT B R) U wr) (fun v _ => R - (intOf v).toNat)
    case atStart => exact ⟨0, rfl, Nat.zero_le _, HT0.out, But.refl _ _⟩
    case round =>
      obtain ⟨j, rfl, hj, tbj, bt⟩ := hrel
      have HT := hideP tbj
      clear tbj
      have bxr : Boxed wr w1.heap.size 123 (.slice (some ⟨H, 0, none⟩) R hc) := (bt.block _ hw1U HHB.out).trans HHV.out
      have cbr := bxr.cell
      by_cases hlt : j < R
      · go_wp2_with fail
        refine (hFoldN H hc B cp R C j (foldL kdN lowN C f j) wr HT.out hlt hRC (by omega) hRc).mono ?_
        rintro e w5 ⟨⟨v5, rfl⟩, tb5, bt5⟩
        have HT5 := hideP tb5
        have bt5' := bt.trans bt5
        clear tb5 cbr
        go_wp2
        go_roundw
        case rel => exact ⟨j + 1, by simp, hlt, HT5.out, bt5'⟩
        case measure => simp [intOf]; omega
      · obtain rfl : j = R := by omega
        obtain ⟨wq, hwq⟩ : ∃ wq : World, wq = wr := ⟨_, rfl⟩
        subst hwq
        obtain ⟨F, hF⟩ : ∃ F, F = foldL kdN lowN C f j := ⟨_, rfl⟩
        rw [← hF] at HT
        have HF := hideP hF
        obtain ⟨rr, hrr⟩ : ∃ rr, rr = j * j := ⟨_, rfl⟩
        have hrr256 : rr ≤ 256 := by rw [hrr]; exact Nat.mul_le_mul hR16 hR16
        have hRR : (j : Int) * (j : Int) = (rr : Int) := by rw [hrr, Int.natCast_mul]
        have HRR := hideP hrr
        have mr : MBox wq w.heap.size j C p N cap := mbox_block mU (bt.block _ mU.lt HMB.out) bt.size
        have xr : MBox wq (w.heap.size + 1) 0 0 none 0 0 := mbox_block xU (bt.block _ xU.lt HXB.out) bt.size
        have HDr := hideP ((bt.block _ hdl HDB.out).trans HKD.out)
        have BWr : Bl w wq := bt.bl (bw1.trans bU) HBL.out
        obtain ⟨c0, c1, c2, f0, f1, f2, lt⟩ := id mr
        clear hF hrr
        go_wp2_with (at_make; refine wpList_make_own _ rfl _ _ 22 rfl wq.heap.size 28 j0 (.agg #[.int .i64 0, .int .i64 0, .int .i64 0, .bool false]) 4 Tryz.underlying22 hji jz0 jz1 .i64 .i64 _ rr rfl rfl (by simp) (by rw [jz2]; omega) (by unfold maxLen; omega) (Nat.le_refl _) ?_; intro w6 hown6 hgrow6; have h6 : Bl wq w6 := ⟨hgrow6.os, hgrow6.tape, hgrow6.output, hgrow6.size, fun k hk => hgrow6.block k hk nofun⟩; have bx6 := boxed_bl bxr h6; have cb6 := bx6.cell; have HO6 := hideP hown6; clear hown6 hgrow6 c0 c1 c2 f0 f1 f2 lt cbr)
        clear cb6
        go_loopw [47, 8] (fun va vb wr => ∃ i : Nat, va = .int .i64 i ∧ i ≤ j ∧ wr.ownsRow wq.heap.size 28 4 vb (mk i j F).length ((mk i j F).flatMap cellsN) ∧ Bl wq wr) (fun va _ _ => j - (intOf va).toNat)
        case atStart => exact ⟨0, rfl, Nat.zero_le _, HO6.out, h6⟩
        case round =>
          obtain ⟨i, rfl, hi', hown, b8⟩ := hrel
          have HO := hideP hown
          clear hown
          have m8 := mr.later b8
          by_cases hil : i < j
          · have hd8 := (bl_cell b8 _ _ HT.out.hlt).trans (HT.out.hdr i hil)
            have hcap8 := HT.out.cap i hil
            have RF := (HT.out.later b8).first (q := j) hil hRC
            obtain ⟨bi, hbi⟩ : ∃ bi, bi = B i := ⟨_, rfl⟩
            obtain ⟨ci, hci⟩ : ∃ ci, ci = cp i := ⟨_, rfl⟩
            rw [← hbi, ← hci] at hd8 RF
            rw [← hci] at hcap8
            have SRC := hideP (show ∀ t u, ((rowM j F i).flatMap cellsN)[t]? = some u → wr.cell? ((⟨bi, 0, none⟩ : Addr).add t) = some u from by
              rcases RF with ⟨_, _, _, e0, _⟩ | ⟨b9, o9, cap9, e9, _, _, hx⟩
              · have := congrArg List.length e0; rw [rowM_len] at this; simp at this; omega
              · simp only [Value.slice.injEq, Option.some.injEq, Addr.mk.injEq] at e9
                obtain ⟨⟨rfl, rfl, _⟩, _, _⟩ := e9
                exact flat_cells cellsN_len hx)
            have sl := fun u => Tryz.frontN bi C ci j u (by omega) (by omega)
            have hlen : (mk i j F).length ≤ 256 := by
              rw [mk_len]
              exact Nat.mul_le_mul (show i ≤ 16 by omega) hR16
            obtain ⟨c0, c1, c2, f0, f1, f2, lt⟩ := id m8
            clear hbi hci RF
            go_wp2_with (at_builtin; refine wpList_append_own _ rfl _ _ 22 rfl wq.heap.size 28 j0 (.agg #[.int .i64 0, .int .i64 0, .int .i64 0, .bool false]) 4 32 Tryz.underlying22 hji jz0 jz1 jz2 rfl (by decide) _ _ _ rfl HO.out ⟨bi, 0, none⟩ j ci ((rowM j F i).flatMap cellsN) rfl (by rw [flat_len cellsN_len, rowM_len]) SRC.out (flat_one oneN_cells _) (by unfold maxLen; omega) (by omega) b8.size ?_; intro v9 w9 hown9 hgrow9 _)
            have HO9 := hideP (show w9.ownsRow wq.heap.size 28 4 v9 (mk (i + 1) j F).length ((mk (i + 1) j F).flatMap cellsN) by
              rw [mk_succ, List.length_append, List.flatMap_append, rowM_len]
              exact hown9)
            have b9 : Bl wq w9 := Below.grown b8 hgrow9 b8.size (fun k hk => (HO.out.lt k hk).1)
            clear hown9 hgrow9 SRC sl hd8 c0 c1 c2 f0 f1 f2 lt
            go_wp2
            go_roundw
            case rel => exact ⟨i + 1, by simp, hil, HO9.out, b9⟩
            case measure => simp [intOf]; omega
          · obtain rfl : i = j := by omega
            have RW8 := Rw.of_own cellsN_len HO.out
            obtain ⟨p8, c8, ev8, _, _⟩ := RW8.cut
            rw [mk_len, ← HRR.out] at ev8
            subst ev8
            have HMX := hideP (show Mx 4 cellsN wr i i p8 rr c8 F from ⟨⟨hR1, hR16, hR1, hR16⟩, HRR.out, RW8.q⟩)
            obtain ⟨c0, c1, c2, f0, f1, f2, lt⟩ := id m8
            have BW8 : Bl w wr := BWr.trans b8
            have hD8 := (Below.block b8 Dm (Array.getElem?_eq_some_iff.1 HDr.out).1).trans HDr.out
            have HD8 := hideP hD8
            clear RW8 hD8
            go_wp2_with fail
            refine (hSignsN i p8 rr c8 F wr HMX.out).mono ?_
            rintro e w9 ⟨p9, c9, rfl, ⟨hm9, hf9⟩, h9⟩
            have HM9 := hideP hm9
            have HF9 := hideP hf9
            have x9 := (xr.later b8).later h9
            have BW9 : Bl w w9 := BW8.trans h9
            have hD9 := (Below.block h9 Dm (Array.getElem?_eq_some_iff.1 HD8.out).1).trans HD8.out
            have HD9 := hideP hD9
            clear hm9 hf9 hD9 c0 c1 c2 f0 f1 f2 lt
            obtain ⟨c0, c1, c2, f0, f1, f2, lt⟩ := id x9
            go_wp2
            obtain ⟨W9, hW9⟩ : ∃ W9, W9 = ((w9.setCell ⟨w.heap.size + 1, 0, none⟩ (.int .i64 i)).setCell ⟨w.heap.size + 1, 1, none⟩ (.int .i64 i)).setCell ⟨w.heap.size + 1, 2, none⟩ (.slice p9 rr c9) := ⟨_, rfl⟩
            have fl := x9.fill i i p9 rr c9
            have hK9 : W9.heap[Dm]? = some (.deferred (some [])) := by
              rw [hW9]
              exact (KeepsOthers.setCell _ _ _).same Dm _ ((KeepsOthers.setCell _ _ _).same Dm _ ((KeepsOthers.setCell _ _ _).same Dm _ HD9.out rfl) rfl) rfl
            have hm9 : Mx 4 cellsN W9 i i p9 rr c9 (signsH kdN (fun j => lowN (F j j)) F) := by
              rw [hW9]
              exact mx_ne7 HM9.out (fun b hb => by have := HF9.out b hb; have := (xr.later b8).lt; omega) _ _ _
            have B9 : Bl w W9 := by rw [hW9]; exact Bl.put3 BW9 (Nat.le_succ _) _ _ _
            rw [← hW9] at fl
            refine ⟨by simp, .inl ⟨_, _, rfl, run_takeDeferred (by rw [← hW9]; exact hK9), ?_⟩⟩
            rw [← hW9]
            have gk := grownBy_putObj' W9 Dm (.deferred none)
            have gr : ∀ r, some Dm = some r → ∃ o : Obj, W9.heap[r]? = some o ∧ o.isCells = false := fun r e => by cases e; exact ⟨_, hK9, rfl⟩
            have d0 := cell_kept fl.c0 gk gr
            have d1 := cell_kept fl.c1 gk gr
            have d2 := cell_kept fl.c2 gk gr
            refine ⟨.tuple #[mV i i p9 rr c9, .bool true], ?_, ⟨p9, c9, by rw [HRR.out], ?_, ?_⟩⟩
            · simp [results, Tryz.f35, go_sem, d0, d1, d2]
            · rw [← HRR.out]
              unfold foldN
              rw [← HF.out]
              exact mx_own8 hm9 gk gr
            · exact Below.trans B9 (belowK_b (w := w) (Nat.le_refl _) W9 Dm _ _ (by have := bw1.size; omega) hK9 rfl rfl)
end Go.Proofs.YtlbmkjicbkfmjaaGreat
