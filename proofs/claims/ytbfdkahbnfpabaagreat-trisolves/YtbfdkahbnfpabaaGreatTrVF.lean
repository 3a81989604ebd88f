/- Contract of tri's Solve, of fractions (layer 7). Written by genTv.py. -/
import Derived.Test.YtbfdkahbnfpabaaGreatTrDF
import Derived.Test.YtbfdkahbnfpabaaGreatTrS
import Derived.Test.YtbfdkahbnfpabaaGreatTrRF
import Derived.Test.YtbfdkahbnfpabaaGreatMaGF
import Derived.Test.YtbfdkahbnfpabaaGreatRegA
import Derived.Laws.EntriesVeiled
namespace Go.Proofs.YtbfdkahbnfpabaaGreat
open Go.RowKit Go.Shelf
set_option linter.unusedSimpArgs false
set_option linter.unusedVariables false
attribute [local go_sem] Oper.semAt_some

/-- What is solved along any rows that come up. -/
def solveLF (f : Nat → Nat → Fr) (b : Nat → Fr) (pre : List RowX) : List Fr := pre.foldl (fun acc x => acc ++ [divR (subR (b x.1) (dotF (rowM x.1 f x.1) acc)) (f x.1 x.1)]) []
theorem solveLF_snoc (f : Nat → Nat → Fr) (b : Nat → Fr) (pre : List RowX) (x : RowX) : solveLF f b (pre ++ [x]) = solveLF f b pre ++ [divR (subR (b x.1) (dotF (rowM x.1 f x.1) (solveLF f b pre))) (f x.1 x.1)] := by
  unfold solveLF
  rw [List.foldl_append]
  rfl
theorem solveLF_fold (f : Nat → Nat → Fr) (b : Nat → Fr) : ∀ (pre : List RowX) (acc : List Fr), (pre.foldl (fun acc (x : RowX) => acc ++ [divR (subR (b x.1) (dotF (rowM x.1 f x.1) acc)) (f x.1 x.1)]) acc) = (pre.map (·.1)).foldl (fun acc i => acc ++ [divR (subR (b i) (dotF (rowM i f i) acc)) (f i i)]) acc
  | [], acc => rfl
  | x :: pre, acc => solveLF_fold f b pre _
theorem solveLF_all (f : Nat → Nat → Fr) (b : Nat → Fr) (n : Nat) (pre : List RowX) (h : pre.map (·.1) = List.range n) : solveLF f b pre = solveTo subR divR dotF f b n := by
  unfold solveLF
  rw [solveLF_fold, h]
  clear h
  induction n with
  | zero => rfl
  | succ n ih =>
    rw [List.range_succ, List.foldl_append, ih]
    rfl
theorem solveLF_len (f : Nat → Nat → Fr) (b : Nat → Fr) (pre : List RowX) : (solveLF f b pre).length = pre.length := by
  suffices h : ∀ (pre : List RowX) (acc : List Fr), (pre.foldl (fun acc (x : RowX) => acc ++ [divR (subR (b x.1) (dotF (rowM x.1 f x.1) acc)) (f x.1 x.1)]) acc).length = acc.length + pre.length by
    have := h pre []
    simpa [solveLF] using this
  intro pre
  induction pre with
  | nil => intro acc; rfl
  | cons x pre ih =>
    intro acc
    rw [List.foldl_cons, ih]
    simp
    omega
set_option maxRecDepth 100000 in
set_option maxHeartbeats 4000000 in
theorem tSolveF (n : Nat) (p : Option Addr) (N cap : Nat) (f : Nat → Nat → Fr) (pb : Option Addr) (cb : Nat) (b : Nat → Fr) (w : World) (h : Mx 3 cellsF w n n p N cap f) (hbr : Rq 3 cellsF w (.slice pb n cb) ((List.range n).map b)) :
    Calls Tryz.prog 16 #[mV n n p N cap, .slice pb n cb] w fun e w' => ∃ p' cap', e = .returned (.tuple #[.slice p' n cap', .bool true]) ∧ Rw 3 cellsF w' (.slice p' n cap') (solveTo subR divR dotF f b n) ∧ Bl w w' := by
  obtain ⟨i0, hi, hz0, hz1, hz2⟩ := info_parts Tryz.info_F
  have fm : Tryz.prog.follows .mixedOrders = true := by kernel_rfl
  have egD := enters_of Tryz.func33 (by kernel_rfl) rfl
  have egS := enters_of Tryz.func124 (by kernel_rfl) rfl
  have egV := enters_of Tryz.func119 (by kernel_rfl) rfl
  refine (callsIn_wide (n := 8)).1 ?_
  have hsq : sqB n n N = true := by unfold sqB; rw [h.fit]; simp
  have hd := h.1
  have hn16 := hd.r2
  have hn1 := hd.r1
  obtain ⟨bg, bo, hpb, hbl, CB⟩ : ∃ bg bo, pb = some ⟨bg, bo, none⟩ ∧ bg < w.heap.size ∧ ∀ i, i < n → ∀ k u, (cellsF (b i))[k]? = some u → w.cell? ⟨bg, bo + i * 3 + k, none⟩ = some u := by
    rcases hbr with ⟨_, _, _, h0, _⟩ | ⟨g, o, cc, e, _, hlt, HX⟩
    · have := congrArg List.length h0
      rw [List.length_map, List.length_range] at this
      simp at this
      omega
    · simp only [Value.slice.injEq] at e
      exact ⟨g, o, e.1, hlt, fun i hi k u hu => HX i _ (by simp [hi]) k u hu⟩
  subst hpb
  have HXm := hideP h
  have HCB := hideP CB
  clear h hbr CB
  obtain ⟨W, hW⟩ : ∃ W, W = (w.alloc (.cells #[.int .i64 n, .int .i64 n, .slice p N cap] 28)).alloc (.cells #[.slice (some ⟨bg, bo, none⟩) n cb] 26) := ⟨_, rfl⟩
  have b0 : Bl w W := by rw [hW]; exact ((Bl.refl _).alloc _).alloc _
  have mx0 : MBox W w.heap.size n n p N cap := by rw [hW]; exact (MBox.new w _ _ _ _ _ _).later ((Bl.refl _).alloc _)
  have bb0 : Boxed W (w.heap.size + 1) 26 (.slice (some ⟨bg, bo, none⟩) n cb) := by
    rw [hW]
    have := Boxed.new (w.alloc (.cells #[.int .i64 n, .int .i64 n, .slice p N cap] 28)) 26 (.slice (some ⟨bg, bo, none⟩) n cb)
    simpa using this
  have HW := hideP hW
  clear hW
  refine callsIn_of_wp_marks Tryz.func16 rfl trivial ?_ rfl
  simp only [Tryz.ntmps16, List.size_toArray, List.length_cons, List.length_nil, Nat.reduceAdd, Nat.reduceSub, Array.replicate_succ, Array.replicate_zero, List.push_toArray, List.append_toArray, List.nil_append, List.cons_append]
  gi_wp2_with fail
  rw [← HW.out]
  obtain ⟨c0, c1, c2, f0, f1, f2, lt⟩ := id mx0
  have sb := bb0.cell
  gi_wp2_with fail
  refine ⟨trivial, ?_⟩
  refine (callsIn_wide.2 (tSquareF _ _ _ _ _ _)).mono ?_
  rintro e w5 ⟨rfl, h5⟩
  rw [hsq]
  have mx5 := mx0.later h5
  have bb5 := boxed_bl bb0 h5
  have bw5 : Bl w w5 := b0.trans h5
  clear c0 c1 c2 f0 f1 f2 lt sb
  obtain ⟨c0, c1, c2, f0, f1, f2, lt⟩ := id mx5
  have sb := bb5.cell
  gi_wp2_with (gi_at_make; refine wpListIn_make_own _ rfl _ _ 26 rfl w5.heap.size 32 i0 (.agg #[.int .i64 0, .int .i64 0, .bool false]) 3 Tryz.underlying26 hi hz0 hz1 .i64 .i64 _ n rfl rfl (by simp) (by rw [hz2]; omega) (by unfold maxLen; omega) (by simp) ?_; intro w6 hown0 hgrow0; have mx6 := mbox_block mx5 (hgrow0.block _ mx5.lt nofun) hgrow0.size; clear c0 c1 c2 f0 f1 f2 lt sb; obtain ⟨c0, c1, c2, f0, f1, f2, lt⟩ := mx6)
  have h56 : Bl w5 w6 := ⟨hgrow0.os, hgrow0.tape, hgrow0.output, hgrow0.size, fun k hk => hgrow0.block k hk nofun⟩
  have hs6 : w5.heap.size ≤ w6.heap.size := hgrow0.size
  obtain ⟨w6b, hw6b⟩ : ∃ w6b, w6b = w6.alloc (.cells #[.slice (some ⟨w5.heap.size, 0, none⟩) 0 n] 26) := ⟨_, rfl⟩
  have h6b : Bl w6 w6b := by rw [hw6b]; exact (Bl.refl _).alloc _
  have hs6b : w6b.heap.size = w6.heap.size + 1 := by rw [hw6b]; simp
  have bl6 : Boxed w6b w6.heap.size 26 (.slice (some ⟨w5.heap.size, 0, none⟩) 0 n) := by rw [hw6b]; exact Boxed.new w6 _ _
  have hown6 : w6b.ownsRow w5.heap.size 32 3 (.slice (some ⟨w5.heap.size, 0, none⟩) 0 n) 0 [] := own_blF hown0 h6b
  have hlt5 : w5.heap.size < w6b.heap.size := by have := (hown6.lt w5.heap.size rfl).2; exact this
  have HW6 := hideP hw6b
  clear hw6b hown0 hgrow0 c0 c1 c2 f0 f1 f2 lt
  rw [← HW6.out]
  refine ⟨trivial, ?_⟩
  refine (callsIn_wide.2 (mAllF _ _ _ _ _ f _ (HXm.out.later ((bw5.trans h56).trans h6b)))).mono ?_
  rintro e w7 ⟨B2, p2, cap5, rfl, hK7, h7⟩
  have HK7 := hideP hK7
  clear hK7
  have hs7 : w6.heap.size + 1 ≤ w7.heap.size := by have := h7.size; omega
  have b57 : Below w5.heap.size w5 w7 := (h56.trans h6b).trans h7
  have bl7 := boxed_bl bl6 h7
  have own7 := own_blF hown6 h7
  clear bl6 hown6
  gi_wp2_with fail
  refine rangeV rfl (by omega) (gf := 68) (lb := #[.pointer (some ⟨B2, 0, none⟩)]) rfl trivial (enters_of Tryz.func68 (by kernel_rfl) rfl)
    (seqMF 7 B2 _ w7.heap.size n n p2 N cap5 f w7 (Nat.le_refl _) HK7.out) (fun x A B h => h.1) (fun h k => h.trans k) (span_b (Nat.le_refl _)) (fun _ => rfl)
    (fun (pre : List RowX) U => (∃ v, Boxed U w6.heap.size 26 v ∧ U.ownsRow w5.heap.size 32 3 v (solveLF f b pre).length ((solveLF f b pre).flatMap cellsF) ∧ (∀ b, v.ownBlock = some b → b < w6b.heap.size ∨ w7.heap.size ≤ b)) ∧ (Below w5.heap.size w5 U ∧ w7.heap.size ≤ U.heap.size))
    (fun _ _ _ => False)
    (OwnFrom.and (Own.from (holdsRow_own w5.heap.size w6.heap.size 26 32 3 (fun pre : List RowX => (solveLF f b pre).length) (fun pre : List RowX => (solveLF f b pre).flatMap cellsF) (fun _ v => ∀ b, v.ownBlock = some b → b < w6b.heap.size ∨ w7.heap.size ≤ b)) _) (OwnFrom.and (ownFrom_below (Nat.le_refl _) b57.size) (own_size _ _)))
    (fun _ _ _ _ _ hs _ _ => hs)
    ⟨⟨_, bl7, own7, fun b hb => by cases hb; exact .inl hlt5⟩, b57, Nat.le_refl _⟩
    (fun a x a' U => Rw 3 cellsF U (rowV n x) (rowM n f x.1) ∧ ((x.1 < n ∧ n ≤ x.2.2) ∧ a' = { tmps := ((((a.tmps.setIfInBounds 25 (.int .i64 x.1)).setIfInBounds 26 (rowV n x)).setIfInBounds 7 (.int .i64 x.1)).setIfInBounds 8 (rowV n x)), defers := [] }))
    (fun x a' _ X Y row hs hg hr => ⟨rw_own hs.1 hg (fun r e => (hr r e).2), hs.2⟩)
    ?assign ?body ?done ?stop
  case assign =>
    rintro l pre x W0 U K' _ ⟨hbU, hxR, hrow, hfr, hcc⟩ hI hK'
    have HK2 := hideP hK'
    have HI := hideP hI
    have HRO := hideP hrow
    clear hK' hI hrow
    gi_wp2
    refine HK2.out _ _ (KeepsFrom.refl _ _) (Span.refl _ _ _) HI.out ⟨HRO.out, ⟨hxR, hcc⟩, ?_⟩
    simp only [List.setIfInBounds_toArray, List.set_cons_zero, List.set_cons_succ]
  case body =>
    rintro l pre x a' U hl' ⟨r, hr'⟩ ⟨⟨v0, hv00, hrow0, hgv⟩, hbU, hsU⟩ ⟨hrx, ⟨hxn, hxc⟩, rfl⟩ hlt
    simp only [List.setIfInBounds_toArray, List.set_cons_zero, List.set_cons_succ]
    have hlen2 : (solveLF f b pre).length ≤ 100000 := by rw [solveLF_len]; omega
    have hne0 : some w6.heap.size ≠ v0.ownBlock := hv00.not_row (by decide) hrow0
    have hrw := Rw.of_own cellsF_len hrow0
    obtain ⟨rb, ro, hp1, hrl, hrc⟩ := rw_cells7 hrx (show 0 < n by omega)
    have hb5 := b57.size
    have hcut : ¬ x.2.2 < x.1 := by omega
    have bUW : Bl w U := bw5.trans hbU
    have bb1 := boxed_bl bb5 (show Bl w5 U from hbU)
    obtain ⟨y, hy⟩ : ∃ y, y = subR (b x.1) (dotF (rowM x.1 f x.1) (solveLF f b pre)) := ⟨_, rfl⟩
    obtain ⟨z, hz⟩ : ∃ z, z = divR y (f x.1 x.1) := ⟨_, rfl⟩
    have XS := hideP (fun u => by have := rsub_any (b x.1) (dotF (rowM x.1 f x.1) (solveLF f b pre)) u; rw [← hy] at this; exact this)
    have ZS := hideP (fun u => by have := rdiv_any y (f x.1 x.1) u; rw [← hz] at this; exact this)
    have HSN := hideP (show solveLF f b (pre ++ [x]) = solveLF f b pre ++ [z] by rw [solveLF_snoc, hz, hy])
    clear hy hz
    have q0 : ∀ u, Bl U u → u.cell? ⟨bg, bo + x.1 * 3, none⟩ = some (.int .i64 (b x.1).n) := fun u hu => (bl_cell (bUW.trans hu) _ _ hbl).trans (HCB.out x.1 hxn 0 _ rfl)
    have q1 : ∀ u, Bl U u → u.cell? ⟨bg, bo + x.1 * 3 + 1, none⟩ = some (.int .i64 (b x.1).d) := fun u hu => (bl_cell (bUW.trans hu) _ _ hbl).trans (HCB.out x.1 hxn 1 _ rfl)
    have q2 : ∀ u, Bl U u → u.cell? ⟨bg, bo + x.1 * 3 + 2, none⟩ = some (.bool (b x.1).bad) := fun u hu => (bl_cell (bUW.trans hu) _ _ hbl).trans (HCB.out x.1 hxn 2 _ rfl)
    have y0 : ∀ u, Bl U u → u.cell? ⟨rb, ro + x.1 * 3, none⟩ = some (.int .i64 (f x.1 x.1).n) := fun u hu => (bl_cell hu _ _ hrl).trans (hrc x.1 _ (rowM_get f x.1 hxn) 0 _ rfl)
    have y1 : ∀ u, Bl U u → u.cell? ⟨rb, ro + x.1 * 3 + 1, none⟩ = some (.int .i64 (f x.1 x.1).d) := fun u hu => (bl_cell hu _ _ hrl).trans (hrc x.1 _ (rowM_get f x.1 hxn) 1 _ rfl)
    have y2 : ∀ u, Bl U u → u.cell? ⟨rb, ro + x.1 * 3 + 2, none⟩ = some (.bool (f x.1 x.1).bad) := fun u hu => (bl_cell hu _ _ hrl).trans (hrc x.1 _ (rowM_get f x.1 hxn) 2 _ rfl)
    gi_wp2_with fail
    refine (region_q fm [some 27, some 28, some 29, some 30, some 31, some 32, some 33, some 34, some 35, some 36, some 37, some 9, none] (fun _ => false) 12 (by kernel_rfl) (by rfl)
      (fun j v u => match j with | 0 => v = .slice (some ⟨bg, bo, none⟩) n cb | 1 => v = .int .i64 x.1 | 2 => v = .pointer (some ⟨bg, bo + x.1 * 3, none⟩) | 3 => v = frV (b x.1) | 4 => v = .iface 32 (frV (b x.1)) | 5 => v = rowV n x | 6 => v = .int .i64 x.1 | 7 => ∃ q c, v = .slice q x.1 c ∧ Rw 3 cellsF u (.slice q x.1 c) (rowM x.1 f x.1) | 8 => v = v0 | 9 => v = frV (dotF (rowM x.1 f x.1) (solveLF f b pre)) | 10 => v = frV y | 11 => ∃ bb, v = .pointer (some ⟨bb, 0, none⟩) ∧ U.heap.size ≤ bb ∧ FBox u bb zeroR | _ => False)
      (by
        intro j v u u' hb h
        split at h <;> first | exact h | (obtain ⟨q, c, e, h1⟩ := h; exact ⟨q, c, e, h1.later hb⟩) | (obtain ⟨bb, e, h1, h2⟩ := h; exact ⟨bb, e, h1, h2.later hb⟩)) (fun vs u0 u => ∃ bb, vs 11 = .pointer (some ⟨bb, 0, none⟩) ∧ U.heap.size ≤ bb ∧ FBox u bb y ∧ Bl U u) ?step ?still ?store ?fin)
    case step =>
      intro j o t act u ho hdt hpu hsz hu hfr hin
      have hj : j < 13 := (Array.getElem?_eq_some_iff.1 ho).1
      have sb := (boxed_bl bb1 hu).cell
      have e0 := q0 u hu; have e1 := q1 u hu; have e2 := q2 u hu
      rcases (by omega : j = 0 ∨ j = 1 ∨ j = 2 ∨ j = 3 ∨ j = 4 ∨ j = 5 ∨ j = 6 ∨ j = 7 ∨ j = 8 ∨ j = 9 ∨ j = 10 ∨ j = 11 ∨ j = 12) with rfl | rfl | rfl | rfl | rfl | rfl | rfl | rfl | rfl | rfl | rfl | rfl | rfl
      · simp only [List.getElem?_toArray, List.getElem?_cons_zero, List.getElem?_cons_succ, Option.some.injEq] at ho
        subst ho
        obtain rfl := Option.some.inj hdt
        have i3 : act.eval (.tmp (3 : Nat)) = .pointer (some ⟨w.heap.size + 1, 0, none⟩) := hfr 3 (by decide)
        exact plain_wp (by intro c h; cases h) (fun _ _ => trivial) (by simp only [execOp, i3, evalC, evalF, evalG]; simp [go_sem, sb]) ⟨_, rfl, rfl, Bl.refl _⟩
      · simp only [List.getElem?_toArray, List.getElem?_cons_zero, List.getElem?_cons_succ, Option.some.injEq] at ho
        subst ho
        obtain rfl := Option.some.inj hdt
        have i7 : act.eval (.tmp (7 : Nat)) = .int .i64 x.1 := hfr 7 (by decide)
        exact plain_wp (by intro c h; cases h) (fun _ _ => trivial) (by simp only [execOp, i7, evalC, evalF, evalG]; simp [go_sem]) ⟨_, rfl, rfl, Bl.refl _⟩
      · simp only [List.getElem?_toArray, List.getElem?_cons_zero, List.getElem?_cons_succ, Option.some.injEq] at ho
        subst ho
        obtain rfl := Option.some.inj hdt
        have i27 : (act.eval (.tmp (27 : Nat))) = .slice (some ⟨bg, bo, none⟩) n cb := hin ⟨0, .data⟩ (by simp) rfl 27 rfl
        have i28 : (act.eval (.tmp (28 : Nat))) = .int .i64 x.1 := hin ⟨1, .data⟩ (by simp) rfl 28 rfl
        exact plain_wp (by intro c h; cases h) (fun _ _ => trivial) (by simp only [execOp, i27, i28]; simp [go_sem, hxn]) ⟨_, rfl, rfl, Bl.refl _⟩
      · simp only [List.getElem?_toArray, List.getElem?_cons_zero, List.getElem?_cons_succ, Option.some.injEq] at ho
        subst ho
        obtain rfl := Option.some.inj hdt
        have i29 : (act.eval (.tmp (29 : Nat))) = .pointer (some ⟨bg, bo + x.1 * 3, none⟩) := hin ⟨2, .data⟩ (by simp) rfl 29 rfl
        exact plain_wp (by intro c h; cases h) (fun _ _ => trivial) (by simp only [execOp, i29]; simp [go_sem, e0, e1, e2]) ⟨_, rfl, rfl, Bl.refl _⟩
      · simp only [List.getElem?_toArray, List.getElem?_cons_zero, List.getElem?_cons_succ, Option.some.injEq] at ho
        subst ho
        obtain rfl := Option.some.inj hdt
        have i30 : (act.eval (.tmp (30 : Nat))) = frV (b x.1) := hin ⟨3, .data⟩ (by simp) rfl 30 rfl
        exact plain_wp (by intro c h; cases h) (fun _ _ => trivial) (by simp only [execOp, i30, evalC, evalF, evalG]; simp [go_sem]) ⟨_, rfl, rfl, Bl.refl _⟩
      · simp only [List.getElem?_toArray, List.getElem?_cons_zero, List.getElem?_cons_succ, Option.some.injEq] at ho
        subst ho
        obtain rfl := Option.some.inj hdt
        have i8 : act.eval (.tmp (8 : Nat)) = rowV n x := hfr 8 (by decide)
        exact plain_wp (by intro c h; cases h) (fun _ _ => trivial) (by simp only [execOp, i8, evalC, evalF, evalG]; simp [go_sem]) ⟨_, rfl, rfl, Bl.refl _⟩
      · simp only [List.getElem?_toArray, List.getElem?_cons_zero, List.getElem?_cons_succ, Option.some.injEq] at ho
        subst ho
        obtain rfl := Option.some.inj hdt
        have i7 : act.eval (.tmp (7 : Nat)) = .int .i64 x.1 := hfr 7 (by decide)
        exact plain_wp (by intro c h; cases h) (fun _ _ => trivial) (by simp only [execOp, i7, evalC, evalF, evalG]; simp [go_sem]) ⟨_, rfl, rfl, Bl.refl _⟩
      · simp only [List.getElem?_toArray, List.getElem?_cons_zero, List.getElem?_cons_succ, Option.some.injEq] at ho
        subst ho
        obtain rfl := Option.some.inj hdt
        have i32 : (act.eval (.tmp (32 : Nat))) = rowV n x := hin ⟨5, .data⟩ (by simp) rfl 32 rfl
        have i33 : (act.eval (.tmp (33 : Nat))) = .int .i64 x.1 := hin ⟨6, .data⟩ (by simp) rfl 33 rfl
        exact plain_wp (by intro c h; cases h) (fun _ _ => trivial) (by simp only [execOp, i32, i33, Option.map_some, Option.map_none]; simp [go_sem, hcut]) ⟨_, rfl, ⟨_, _, rfl, rw_row7 (hrx.later hu) (by omega)⟩, Bl.refl _⟩
      · simp only [List.getElem?_toArray, List.getElem?_cons_zero, List.getElem?_cons_succ, Option.some.injEq] at ho
        subst ho
        obtain rfl := Option.some.inj hdt
        have i6 : act.eval (.tmp (6 : Nat)) = .pointer (some ⟨w6.heap.size, 0, none⟩) := hfr 6 (by decide)
        exact load_wp _ _ rfl (by rw [i6]; exact Tryz.load1F w6.heap.size _ u (boxed_bl hv00 hu).cell) ⟨_, rfl, rfl, Bl.refl _⟩
      · simp only [List.getElem?_toArray, List.getElem?_cons_zero, List.getElem?_cons_succ, Option.some.injEq] at ho
        subst ho
        obtain rfl := Option.some.inj hdt
        have i34 : ∃ q c, (act.eval (.tmp (34 : Nat))) = .slice q x.1 c ∧ Rw 3 cellsF u (.slice q x.1 c) (rowM x.1 f x.1) := hin ⟨7, .data⟩ (by simp) rfl 34 rfl
        have i35 : (act.eval (.tmp (35 : Nat))) = v0 := hin ⟨8, .data⟩ (by simp) rfl 35 rfl
        obtain ⟨q1, c1', e1, hr1⟩ := i34
        refine enter_wp 33 #[.slice q1 x.1 c1', v0] (by intro c h; cases h) (fun _ _ => trivial) (by simp only [execOp, evalC, evalF, evalG, resolve, e1, i35, List.map_toArray, List.map_cons, List.map_nil]; simp [invoke, egD, Result.andThen, go_sem]) (by intro h; cases h) (CallsIn.inRound l (callsIn_wide.2 (vDotF _ _ (rowM x.1 f x.1) (solveLF f b pre) u hr1.q (hrw.later hu).q (by rw [rowM_len]; omega) (by omega)))) ?_
        rintro e w' ⟨rfl, hb⟩
        exact ⟨_, rfl, _, rfl, rfl, hb⟩
      · simp only [List.getElem?_toArray, List.getElem?_cons_zero, List.getElem?_cons_succ, Option.some.injEq] at ho
        subst ho
        obtain rfl := Option.some.inj hdt
        have i31 : (act.eval (.tmp (31 : Nat))) = .iface 32 (frV (b x.1)) := hin ⟨4, .data⟩ (by simp) rfl 31 rfl
        have i36 : (act.eval (.tmp (36 : Nat))) = frV (dotF (rowM x.1 f x.1) (solveLF f b pre)) := hin ⟨9, .data⟩ (by simp) rfl 36 rfl
        have iv := Tryz.mSubF
        refine enter_wp 124 #[frV (b x.1), frV (dotF (rowM x.1 f x.1) (solveLF f b pre))] (by intro c h; cases h) (fun _ _ => trivial) (by simp only [execOp, evalC, evalF, evalG, resolve, i31, i36, List.map_toArray, List.map_cons, List.map_nil]; simp [invoke, iv, egS, Result.andThen, go_sem]) (by intro h; cases h) (CallsIn.inRound l (callsIn_wide.2 (XS.out u))) ?_
        rintro e w' ⟨rfl, hb⟩
        exact ⟨_, rfl, _, rfl, rfl, hb⟩
      · simp only [List.getElem?_toArray, List.getElem?_cons_zero, List.getElem?_cons_succ, Option.some.injEq] at ho
        subst ho
        obtain rfl := Option.some.inj hdt
        exact plain_wp (by intro c h; cases h) (fun _ _ => trivial) (w' := u.alloc (.cells #[.int .i64 0, .int .i64 0, .bool false] 32)) (v := .pointer (some ⟨u.heap.size, 0, none⟩)) (by simp only [execOp]; simp [go_sem]) ⟨_, rfl, ⟨u.heap.size, rfl, hu.size, FBox.new u zeroR _⟩, (Bl.refl _).alloc _⟩
      · simp only [List.getElem?_toArray, List.getElem?_cons_zero, List.getElem?_cons_succ, Option.some.injEq] at ho
        subst ho
        cases hdt
    case still =>
      intro j o t act u0 u ho hdt hpu
      cases hpu
    case store =>
      intro o act u vs ho hsz hu hfr hin
      simp only [List.getElem?_toArray, List.getElem?_cons_zero, List.getElem?_cons_succ, Option.some.injEq] at ho
      subst ho
      obtain ⟨i9, k9⟩ : act.eval (.tmp (9 : Nat)) = vs 11 ∧ (∃ bb, (vs 11) = .pointer (some ⟨bb, 0, none⟩) ∧ U.heap.size ≤ bb ∧ FBox u bb zeroR) := hin 11 9 rfl rfl
      obtain ⟨i37, k37⟩ : act.eval (.tmp (37 : Nat)) = vs 10 ∧ ((vs 10) = frV y) := hin 10 37 rfl rfl
      obtain ⟨bb, e1, hbb, bx⟩ := k9
      rw [e1] at i9
      rw [k37] at i37
      obtain ⟨c0, c1, c2, f0, f1, f2, ltb⟩ := id bx
      exact skip_wp (by intro c h; cases h) (fun _ _ => trivial) (by simp only [execOp, i9, i37]; simp [go_sem, c0, f0, c1, f1, c2, f2]) ⟨rfl, bb, e1, hbb, bx.fill y, Bl.set3 hu hbb _ _ _⟩
    case fin =>
      intro vs vb u0 u hu hin hps
      have a0 := hin 0 27 rfl
      have a1 := hin 1 28 rfl
      have a2 := hin 2 29 rfl
      have a3 := hin 3 30 rfl
      have a4 := hin 4 31 rfl
      have a5 := hin 5 32 rfl
      have a6 := hin 6 33 rfl
      have a7 := hin 7 34 rfl
      have a8 := hin 8 35 rfl
      have a9 := hin 9 36 rfl
      have a10 := hin 10 37 rfl
      have a11 := hin 11 9 rfl
      simp only [putL, Act.put, List.setIfInBounds_toArray, List.set_cons_zero, List.set_cons_succ, Nat.zero_add, Nat.reduceAdd, Nat.reduceBEq, Bool.or_false, Bool.or_true, Bool.false_or, Bool.true_or, Bool.false_eq_true, if_false, if_true, reduceIte, Nat.reduceEqDiff, beq_self_eq_true, Bool.or_self] at a0 a1 a2 a3 a4 a5 a6 a7 a8 a9 a10 a11 ⊢
      rw [if_pos (by decide)] at hps
      simp only [a0, a1, a2, a3, a4, a5, a6, a8, a9, a10]
      obtain ⟨bb, e11, hbb, bxy, hbw⟩ := hps
      simp only [e11]
      clear a7 a11
      have hv0 := boxed_bl hv00 hbw
      have hrow := own_blF hrow0 hbw
      gi_wp2_with fail
      refine (region_qa fm [some 38, some 39, some 40, some 41, some 42, some 43, some 44, some 45, some 46, some 47, none] 9 (by kernel_rfl) (by rfl)
      (fun j v u => match j with | 0 => v = v0 | 1 => v = frV y | 2 => v = .iface 32 (frV y) | 3 => v = rowV n x | 4 => v = .int .i64 x.1 | 5 => v = .pointer (some ⟨rb, ro + x.1 * 3, none⟩) | 6 => v = frV (f x.1 x.1) | 7 => v = frV z | 8 => ∃ gz, v = .slice (some ⟨gz, 0, none⟩) 1 1 ∧ FBox u gz z | _ => False)
      (by
        intro j v u u' hb h
        split at h <;> first | exact h | (obtain ⟨b, e, h1⟩ := h; exact ⟨b, e, h1.later hb⟩)) (fun vs v u0 u => ∃ g' cap', v = .slice (some ⟨g', 0, none⟩) ((solveLF f b pre).length + 1) cap' ∧ u0.grownBy u v0.ownBlock ∧ u.ownsRow w5.heap.size 32 3 (.slice (some ⟨g', 0, none⟩) ((solveLF f b pre).length + 1) cap') ((solveLF f b pre).length + 1) ((solveLF f b pre).flatMap cellsF ++ cellsF z) ∧ (some g' = v0.ownBlock ∨ g' = u0.heap.size)) (fun vs v u0 u => ∃ wz g' cap', u = wz.setCell ⟨w6.heap.size, 0, none⟩ (.slice (some ⟨g', 0, none⟩) ((solveLF f b pre).length + 1) cap') ∧ u0.grownBy wz v0.ownBlock ∧ wz.ownsRow w5.heap.size 32 3 (.slice (some ⟨g', 0, none⟩) ((solveLF f b pre).length + 1) cap') ((solveLF f b pre).length + 1) ((solveLF f b pre).flatMap cellsF ++ cellsF z) ∧ (some g' = v0.ownBlock ∨ g' = u0.heap.size)) ?step ?app ?store ?fin)
      case step =>
        intro j o t act u ho hdt hjs hsz hu hfr hin
        have e0 := y0 u (hbw.trans hu); have e1 := y1 u (hbw.trans hu); have e2 := y2 u (hbw.trans hu)
        rcases (by omega : j = 0 ∨ j = 1 ∨ j = 2 ∨ j = 3 ∨ j = 4 ∨ j = 5 ∨ j = 6 ∨ j = 7 ∨ j = 8) with rfl | rfl | rfl | rfl | rfl | rfl | rfl | rfl | rfl
        · simp only [List.getElem?_toArray, List.getElem?_cons_zero, List.getElem?_cons_succ, Option.some.injEq] at ho
          subst ho
          obtain rfl := Option.some.inj hdt
          have i6 : act.eval (.tmp (6 : Nat)) = .pointer (some ⟨w6.heap.size, 0, none⟩) := hfr 6 (by decide)
          exact load_wp _ _ rfl (by rw [i6]; exact Tryz.load1F w6.heap.size _ u (boxed_bl hv0 hu).cell) ⟨_, rfl, rfl, Bl.refl _⟩
        · simp only [List.getElem?_toArray, List.getElem?_cons_zero, List.getElem?_cons_succ, Option.some.injEq] at ho
          subst ho
          obtain rfl := Option.some.inj hdt
          have i9 : act.eval (.tmp (9 : Nat)) = .pointer (some ⟨bb, 0, none⟩) := hfr 9 (by decide)
          obtain ⟨c0, c1, c2, f0, f1, f2, ltb⟩ := bxy.later hu
          exact plain_wp (by intro c h; cases h) (fun _ _ => trivial) (by simp only [execOp, i9]; simp [go_sem, c0, c1, c2]) ⟨_, rfl, rfl, Bl.refl _⟩
        · simp only [List.getElem?_toArray, List.getElem?_cons_zero, List.getElem?_cons_succ, Option.some.injEq] at ho
          subst ho
          obtain rfl := Option.some.inj hdt
          have i39 : (act.eval (.tmp (39 : Nat))) = frV y := hin ⟨1, .data⟩ (by simp) rfl 39 rfl
          exact plain_wp (by intro c h; cases h) (fun _ _ => trivial) (by simp only [execOp, i39, evalC, evalF, evalG]; simp [go_sem]) ⟨_, rfl, rfl, Bl.refl _⟩
        · simp only [List.getElem?_toArray, List.getElem?_cons_zero, List.getElem?_cons_succ, Option.some.injEq] at ho
          subst ho
          obtain rfl := Option.some.inj hdt
          have i8 : act.eval (.tmp (8 : Nat)) = rowV n x := hfr 8 (by decide)
          exact plain_wp (by intro c h; cases h) (fun _ _ => trivial) (by simp only [execOp, i8, evalC, evalF, evalG]; simp [go_sem]) ⟨_, rfl, rfl, Bl.refl _⟩
        · simp only [List.getElem?_toArray, List.getElem?_cons_zero, List.getElem?_cons_succ, Option.some.injEq] at ho
          subst ho
          obtain rfl := Option.some.inj hdt
          have i7 : act.eval (.tmp (7 : Nat)) = .int .i64 x.1 := hfr 7 (by decide)
          exact plain_wp (by intro c h; cases h) (fun _ _ => trivial) (by simp only [execOp, i7, evalC, evalF, evalG]; simp [go_sem]) ⟨_, rfl, rfl, Bl.refl _⟩
        · simp only [List.getElem?_toArray, List.getElem?_cons_zero, List.getElem?_cons_succ, Option.some.injEq] at ho
          subst ho
          obtain rfl := Option.some.inj hdt
          have i41 : (act.eval (.tmp (41 : Nat))) = rowV n x := hin ⟨3, .data⟩ (by simp) rfl 41 rfl
          have i42 : (act.eval (.tmp (42 : Nat))) = .int .i64 x.1 := hin ⟨4, .data⟩ (by simp) rfl 42 rfl
          exact plain_wp (by intro c h; cases h) (fun _ _ => trivial) (by simp only [execOp, i41, i42, rowV, hp1]; simp [go_sem, hxn]) ⟨_, rfl, rfl, Bl.refl _⟩
        · simp only [List.getElem?_toArray, List.getElem?_cons_zero, List.getElem?_cons_succ, Option.some.injEq] at ho
          subst ho
          obtain rfl := Option.some.inj hdt
          have i43 : (act.eval (.tmp (43 : Nat))) = .pointer (some ⟨rb, ro + x.1 * 3, none⟩) := hin ⟨5, .data⟩ (by simp) rfl 43 rfl
          exact plain_wp (by intro c h; cases h) (fun _ _ => trivial) (by simp only [execOp, i43]; simp [go_sem, e0, e1, e2]) ⟨_, rfl, rfl, Bl.refl _⟩
        · simp only [List.getElem?_toArray, List.getElem?_cons_zero, List.getElem?_cons_succ, Option.some.injEq] at ho
          subst ho
          obtain rfl := Option.some.inj hdt
          have i40 : (act.eval (.tmp (40 : Nat))) = .iface 32 (frV y) := hin ⟨2, .data⟩ (by simp) rfl 40 rfl
          have i44 : (act.eval (.tmp (44 : Nat))) = frV (f x.1 x.1) := hin ⟨6, .data⟩ (by simp) rfl 44 rfl
          have iv := Tryz.mDivF
          refine enter_wp 119 #[frV y, frV (f x.1 x.1)] (by intro c h; cases h) (fun _ _ => trivial) (by simp only [execOp, evalC, evalF, evalG, resolve, i40, i44, List.map_toArray, List.map_cons, List.map_nil]; simp [invoke, iv, egV, Result.andThen, go_sem]) (by intro h; cases h) (CallsIn.inRound l (callsIn_wide.2 (ZS.out u))) ?_
          rintro e w' ⟨rfl, hb⟩
          exact ⟨_, rfl, _, rfl, rfl, hb⟩
        · simp only [List.getElem?_toArray, List.getElem?_cons_zero, List.getElem?_cons_succ, Option.some.injEq] at ho
          subst ho
          obtain rfl := Option.some.inj hdt
          have i45 : (act.eval (.tmp (45 : Nat))) = frV z := hin ⟨7, .data⟩ (by simp) rfl 45 rfl
          refine build_wp _ _ rfl (by rw [i45]; exact Tryz.build1F _ u) ?_
          exact ⟨_, rfl, ⟨u.heap.size, rfl, FBox.new u _ _⟩, (Bl.refl _).alloc _⟩
      case app =>
        intro o t act u vs ho hdt hsz hu hfr hin
        simp only [List.getElem?_toArray, List.getElem?_cons_zero, List.getElem?_cons_succ, Option.some.injEq] at ho
        subst ho
        obtain rfl := Option.some.inj hdt
        obtain ⟨i38, k38⟩ : act.eval (.tmp (38 : Nat)) = vs 0 ∧ ((vs 0) = v0) := hin 0 38 (by omega) rfl
        obtain ⟨i46, k46⟩ : act.eval (.tmp (46 : Nat)) = vs 8 ∧ (∃ gz, (vs 8) = .slice (some ⟨gz, 0, none⟩) 1 1 ∧ FBox u gz z) := hin 8 46 (by omega) rfl
        obtain ⟨gz, eg, bz⟩ := k46
        rw [eg] at i46
        rw [k38] at i38
        refine stepIn_append (.tmp (38 : Nat)) (.tmp (46 : Nat)) 26 rfl w5.heap.size 32 i0 (.agg #[.int .i64 0, .int .i64 0, .bool false]) 3 24 Tryz.underlying26 hi hz0 hz1 hz2 rfl (by decide) v0 (solveLF f b pre).length ((solveLF f b pre).flatMap cellsF) i38 (own_blF hrow hu) ⟨gz, 0, none⟩ 1 1 (cellsF z) i46 rfl bz.cells (oneF_cells _) (by unfold maxLen; omega) (by omega) (by have := hu.size; have := hbw.size; omega) ?_
        intro v' w5 hown' hgrow hat
        obtain ⟨g', cap', rfl⟩ := ownsRow_succ hown'
        refine ⟨_, rfl, g', cap', rfl, hgrow, hown', ?_⟩
        rcases hat with h | h
        · exact .inl h
        · exact .inr (by simpa [Value.ownBlock] using h)
      case store =>
        intro o act u0 u vs v ho hsz hu hfr hin hv hpa
        simp only [List.getElem?_toArray, List.getElem?_cons_zero, List.getElem?_cons_succ, Option.some.injEq] at ho
        subst ho
        have i6 : act.eval (.tmp (6 : Nat)) = .pointer (some ⟨w6.heap.size, 0, none⟩) := hfr 6 (by decide)
        have i47 : act.eval (.tmp (47 : Nat)) = v := hv 47 rfl
        obtain ⟨g', cap', rfl, hgrow, hown', hat⟩ := hpa
        have hbu := (boxed_bl hv0 hu).kept hgrow hne0
        exact skip_wp (by intro c h; cases h) (fun _ _ => trivial) (by simp only [execOp, i6, i47]; simp [go_sem, hbu.cell, hbu.frozen]) ⟨rfl, u, g', cap', rfl, hgrow, hown', hat⟩
      case fin =>
        intro vs v u0 u hu hin hpb
        obtain ⟨w8, g', cap', rfl, k2, k3, k4⟩ := hpb
        have k1 := hbw.trans hu
        clear hin
        have hvu := boxed_bl hv00 k1
        have hru := own_blF hrow0 k1
        have hsu := k1.size
        have hu5 : w5.heap.size ≤ u0.heap.size := by omega
        obtain ⟨hv5, hv6, hr6, hk6, hb6⟩ := boxed_appended hvu (by decide) hru hu5 (by omega) k3 k2
        have hg8 := k2.size
        refine ⟨(k1.keeps _).trans (hk6.from _), span_appended k1 (by omega) hgv k2 (by omega), ⟨_, hv6, ?_, ?_⟩, ?_, ?_⟩
        · rw [HSN.out]
          simpa [List.flatMap_append] using hr6
        · intro b hb
          have hb' : g' = b := by cases hb; rfl
          subst hb'
          rcases k4 with h | h
          · exact hgv _ h.symm
          · exact .inr (by omega)
        · exact hbU.trans ((k1.mono (by omega)).trans hb6)
        · simp; omega
  case done =>
    rintro Dm zs U hD hS ⟨⟨v, hv, hrow, _⟩, hb5, hs7'⟩ hKD
    have e := solveLF_all f b n zs hS
    rw [e] at hrow
    have RW := Rw.of_own cellsF_len (ownsRow_putObj hrow (.deferred none) hKD rfl)
    obtain ⟨p', cap', hv', _, _⟩ := RW.cut
    rw [solveTo_len] at hv'
    subst hv'
    have hcl := hv.cell
    have hbw : Bl w U := bw5.trans hb5
    have HRW := hideP RW
    have HKD := hideP hKD
    clear hrow RW hKD hv e
    gi_wp2
    refine ⟨by simp, .inl ⟨_, _, rfl, run_takeDeferred HKD.out, ?_⟩⟩
    exact ⟨_, by simp [results, Tryz.results16, go_sem], p', cap', rfl, HRW.out, Below.trans hbw (belowK_b (w := w) (Nat.le_refl _) U Dm _ _ (by have := bw5.size; have := b57.size; omega) HKD.out rfl rfl)⟩
  case stop =>
    rintro D' c pre U _ _ h _
    exact h.elim
theorem tSolveF_len (n : Nat) (p : Option Addr) (N cap : Nat) (f : Nat → Nat → Fr) (pb : Option Addr) (lb cb : Nat) (w : World) (h : Mx 3 cellsF w n n p N cap f) (hlb : lb ≠ n) :
    Calls Tryz.prog 16 #[mV n n p N cap, .slice pb lb cb] w fun e w' => e = .returned (.tuple #[.slice none 0 0, .bool false]) ∧ Bl w w' := by
  have hsq : sqB n n N = true := by unfold sqB; rw [h.fit]; simp
  clear h
  have hne : ((lb : Int) != (n : Int)) = true := by simp; omega
  obtain ⟨W, hW⟩ : ∃ W, W = (w.alloc (.cells #[.int .i64 n, .int .i64 n, .slice p N cap] 28)).alloc (.cells #[.slice pb lb cb] 26) := ⟨_, rfl⟩
  have b0 : Bl w W := by rw [hW]; exact ((Bl.refl _).alloc _).alloc _
  have mx0 : MBox W w.heap.size n n p N cap := by rw [hW]; exact (MBox.new w _ _ _ _ _ _).later ((Bl.refl _).alloc _)
  have bb0 : Boxed W (w.heap.size + 1) 26 (.slice pb lb cb) := by
    rw [hW]
    have := Boxed.new (w.alloc (.cells #[.int .i64 n, .int .i64 n, .slice p N cap] 28)) 26 (.slice pb lb cb)
    simpa using this
  have HW := hideP hW
  clear hW
  go_enter Tryz.func16, Tryz.ntmps16
  go_wp2_with fail
  rw [← HW.out]
  refine (tSquareF _ _ _ _ _ _).mono ?_
  rintro e w1 ⟨rfl, h1⟩
  rw [hsq]
  obtain ⟨c0, c1, c2, f0, f1, f2, lt⟩ := mx0.later h1
  have sb := (boxed_bl bb0 h1).cell
  go_wp2
  simp [bodyPost, results, Tryz.results16, go_sem]
  exact b0.trans h1
end Go.Proofs.YtbfdkahbnfpabaaGreat
