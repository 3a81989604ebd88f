/- Contract of tri's Diagonal, of enclosed numbers (layer 7). Written by genTr.py. -/
import Derived.Test.YtlbmkjicbkfmjaaGreatTrBN
import Derived.Test.YtlbmkjicbkfmjaaGreatMaGN
import Derived.Test.YtlbmkjicbkfmjaaGreatRegA
import Derived.Laws.EntriesVeiled
namespace Go.Proofs.YtlbmkjicbkfmjaaGreat
open Go.RowKit Go.Shelf
set_option linter.unusedSimpArgs false
set_option linter.unusedVariables false
attribute [local go_sem] Oper.semAt_some

set_option maxRecDepth 100000 in
set_option maxHeartbeats 4000000 in
theorem tDiagN (n : Nat) (p : Option Addr) (N cap : Nat) (f : Nat → Nat → En) (w : World) (h : Mx 4 cellsN w n n p N cap f) :
    Calls Tryz.prog 132 #[mV n n p N cap] w fun e w' => ∃ p' cap', e = .returned (.slice p' n cap') ∧ Rw 4 cellsN w' (.slice p' n cap') ((List.range n).map fun i => f i i) ∧ Bl w w' := by
  obtain ⟨i0, hi, hz0, hz1, hz2⟩ := info_parts Tryz.info_N
  have fm : Tryz.prog.follows .mixedOrders = true := by kernel_rfl
  refine (callsIn_wide (n := 8)).1 ?_
  have hsq : sqB n n N = true := by unfold sqB; rw [h.fit]; simp
  have hd := h.1
  have hn16 := hd.r2
  have HXm := hideP h
  clear h
  obtain ⟨W, hW⟩ : ∃ W, W = w.alloc (.cells #[.int .i64 n, .int .i64 n, .slice p N cap] 24) := ⟨_, rfl⟩
  have b0 : Bl w W := by rw [hW]; exact (Bl.refl _).alloc _
  have mx0 : MBox W w.heap.size n n p N cap := by rw [hW]; exact MBox.new w _ _ _ _ _ _
  have HW := hideP hW
  clear hW
  refine callsIn_of_wp_marks Tryz.func132 rfl trivial ?_ rfl
  simp only [Tryz.ntmps132, List.size_toArray, List.length_cons, List.length_nil, Nat.reduceAdd, Nat.reduceSub, Array.replicate_succ, Array.replicate_zero, List.push_toArray, List.append_toArray, List.nil_append, List.cons_append]
  gi_wp2_with fail
  rw [← HW.out]
  refine ⟨trivial, ?_⟩
  refine (callsIn_wide.2 (tSquareN _ _ _ _ _ _)).mono ?_
  rintro e w5 ⟨rfl, h5⟩
  rw [hsq]
  have mx5 := mx0.later h5
  have bw5 : Bl w w5 := b0.trans h5
  obtain ⟨c0, c1, c2, f0, f1, f2, lt⟩ := id mx5
  gi_wp2_with (gi_at_make; refine wpListIn_make_own _ rfl _ _ 22 rfl w5.heap.size 28 i0 (.agg #[.int .i64 0, .int .i64 0, .int .i64 0, .bool false]) 4 Tryz.underlying22 hi hz0 hz1 .i64 .i64 _ n rfl rfl (by simp) (by rw [hz2]; omega) (by unfold maxLen; omega) (by simp) ?_; intro w6 hown0 hgrow0; have mx6 := mbox_block mx5 (hgrow0.block _ mx5.lt nofun) hgrow0.size; clear c0 c1 c2 f0 f1 f2 lt; obtain ⟨c0, c1, c2, f0, f1, f2, lt⟩ := mx6)
  have h56 : Bl w5 w6 := ⟨hgrow0.os, hgrow0.tape, hgrow0.output, hgrow0.size, fun k hk => hgrow0.block k hk nofun⟩
  have hs6 : w5.heap.size ≤ w6.heap.size := hgrow0.size
  obtain ⟨w6b, hw6b⟩ : ∃ w6b, w6b = w6.alloc (.cells #[.slice (some ⟨w5.heap.size, 0, none⟩) 0 n] 22) := ⟨_, rfl⟩
  have h6b : Bl w6 w6b := by rw [hw6b]; exact (Bl.refl _).alloc _
  have hs6b : w6b.heap.size = w6.heap.size + 1 := by rw [hw6b]; simp
  have bl6 : Boxed w6b w6.heap.size 22 (.slice (some ⟨w5.heap.size, 0, none⟩) 0 n) := by rw [hw6b]; exact Boxed.new w6 _ _
  have hown6 : w6b.ownsRow w5.heap.size 28 4 (.slice (some ⟨w5.heap.size, 0, none⟩) 0 n) 0 [] := own_blN hown0 h6b
  have hlt5 : w5.heap.size < w6b.heap.size := by have := (hown6.lt w5.heap.size rfl).2; exact this
  have HW6 := hideP hw6b
  clear hw6b hown0 hgrow0 c0 c1 c2 f0 f1 f2 lt
  rw [← HW6.out]
  refine ⟨trivial, ?_⟩
  refine (callsIn_wide.2 (mAllN _ _ _ _ _ f _ (HXm.out.later ((bw5.trans h56).trans h6b)))).mono ?_
  rintro e w7 ⟨B2, p2, cap5, rfl, hK7, h7⟩
  have HK7 := hideP hK7
  clear hK7
  have hs7 : w6.heap.size + 1 ≤ w7.heap.size := by have := h7.size; omega
  have b57 : Below w5.heap.size w5 w7 := (h56.trans h6b).trans h7
  have bl7 := boxed_bl bl6 h7
  have own7 := own_blN hown6 h7
  clear bl6 hown6
  gi_wp2_with fail
  refine rangeV rfl (by omega) (gf := 128) (lb := #[.pointer (some ⟨B2, 0, none⟩)]) rfl trivial (enters_of Tryz.func128 (by kernel_rfl) rfl)
    (seqMN 7 B2 _ w7.heap.size n n p2 N cap5 f w7 (Nat.le_refl _) HK7.out) (fun x A B h => h.1) (fun h k => h.trans k) (span_b (Nat.le_refl _)) (fun _ => rfl)
    (fun (pre : List RowX) U => (∃ v, Boxed U w6.heap.size 22 v ∧ U.ownsRow w5.heap.size 28 4 v (pre.map fun x : RowX => f x.1 x.1).length ((pre.map fun x : RowX => f x.1 x.1).flatMap cellsN) ∧ (∀ b, v.ownBlock = some b → b < w6b.heap.size ∨ w7.heap.size ≤ b)) ∧ (Below w5.heap.size w5 U ∧ w7.heap.size ≤ U.heap.size))
    (fun _ _ _ => False)
    (OwnFrom.and (Own.from (holdsRow_own w5.heap.size w6.heap.size 22 28 4 (fun pre : List RowX => (pre.map fun x : RowX => f x.1 x.1).length) (fun pre : List RowX => (pre.map fun x : RowX => f x.1 x.1).flatMap cellsN) (fun _ v => ∀ b, v.ownBlock = some b → b < w6b.heap.size ∨ w7.heap.size ≤ b)) _) (OwnFrom.and (ownFrom_below (Nat.le_refl _) b57.size) (own_size _ _)))
    (fun _ _ _ _ _ hs _ _ => hs)
    ⟨⟨_, bl7, own7, fun b hb => by cases hb; exact .inl hlt5⟩, b57, Nat.le_refl _⟩
    (fun a x a' U => Rw 4 cellsN U (rowV n x) (rowM n f x.1) ∧ (x.1 < n ∧ a' = { tmps := ((((a.tmps.setIfInBounds 14 (.int .i64 x.1)).setIfInBounds 15 (rowV n x)).setIfInBounds 4 (.int .i64 x.1)).setIfInBounds 5 (rowV n x)), defers := [] }))
    (fun x a' _ X Y row hs hg hr => ⟨rw_own hs.1 hg (fun r e => (hr r e).2), hs.2⟩)
    ?assign ?body ?done ?stop
  case assign =>
    rintro l pre x W0 U K' _ ⟨hbU, hxR, hrow, hfr, hcc⟩ hI hK'
    have HK2 := hideP hK'
    have HI := hideP hI
    clear hK' hI
    gi_wp2
    exact HK2.out _ _ (KeepsFrom.refl _ _) (Span.refl _ _ _) HI.out ⟨hrow, hxR, rfl⟩
  case body =>
    rintro l pre x a' U hl' ⟨r, hr'⟩ ⟨⟨v0, hv0, hrow, hgv⟩, hbU, hsU⟩ ⟨hrx, hxn, rfl⟩ hlt
    simp only [List.setIfInBounds_toArray, List.set_cons_zero, List.set_cons_succ]
    gi_wp2_with fail
    have hlen2 : (pre.map fun x : RowX => f x.1 x.1).length ≤ 100000 := by rw [List.length_map]; omega
    have hne0 : some w6.heap.size ≠ v0.ownBlock := hv0.not_row (by decide) hrow
    obtain ⟨rb, ro, hp1, hrl, hrc⟩ := rw_cells7 hrx (show 0 < n by omega)
    have hb5 := b57.size
    have y0 : ∀ u, Bl U u → u.cell? ⟨rb, ro + x.1 * 4, none⟩ = some (.int .i64 (f x.1 x.1).v) := fun u hu => (bl_cell hu _ _ hrl).trans (hrc x.1 _ (rowM_get f x.1 hxn) 0 _ rfl)
    have y1 : ∀ u, Bl U u → u.cell? ⟨rb, ro + x.1 * 4 + 1, none⟩ = some (.int .i64 (f x.1 x.1).l) := fun u hu => (bl_cell hu _ _ hrl).trans (hrc x.1 _ (rowM_get f x.1 hxn) 1 _ rfl)
    have y2 : ∀ u, Bl U u → u.cell? ⟨rb, ro + x.1 * 4 + 2, none⟩ = some (.int .i64 (f x.1 x.1).h) := fun u hu => (bl_cell hu _ _ hrl).trans (hrc x.1 _ (rowM_get f x.1 hxn) 2 _ rfl)
    have y3 : ∀ u, Bl U u → u.cell? ⟨rb, ro + x.1 * 4 + 3, none⟩ = some (.bool (f x.1 x.1).bad) := fun u hu => (bl_cell hu _ _ hrl).trans (hrc x.1 _ (rowM_get f x.1 hxn) 3 _ rfl)
    refine (region_qa fm [some 16, some 17, some 18, some 19, some 20, some 21, some 22, none] 6 (by kernel_rfl) (by rfl)
      (fun j v u => match j with | 0 => v = v0 | 1 => v = rowV n x | 2 => v = .int .i64 x.1 | 3 => v = .pointer (some ⟨rb, ro + x.1 * 4, none⟩) | 4 => v = enV (f x.1 x.1) | 5 => ∃ gz, v = .slice (some ⟨gz, 0, none⟩) 1 1 ∧ Box u gz (f x.1 x.1) | _ => False)
      (by
        intro j v u u' hb h
        split at h <;> first | exact h | (obtain ⟨b, e, h1⟩ := h; exact ⟨b, e, h1.later hb⟩)) (fun vs v u0 u => ∃ g' cap', v = .slice (some ⟨g', 0, none⟩) ((pre.map fun x : RowX => f x.1 x.1).length + 1) cap' ∧ u0.grownBy u v0.ownBlock ∧ u.ownsRow w5.heap.size 28 4 (.slice (some ⟨g', 0, none⟩) ((pre.map fun x : RowX => f x.1 x.1).length + 1) cap') ((pre.map fun x : RowX => f x.1 x.1).length + 1) ((pre.map fun x : RowX => f x.1 x.1).flatMap cellsN ++ cellsN (f x.1 x.1)) ∧ (some g' = v0.ownBlock ∨ g' = u0.heap.size)) (fun vs v u0 u => ∃ wz g' cap', u = wz.setCell ⟨w6.heap.size, 0, none⟩ (.slice (some ⟨g', 0, none⟩) ((pre.map fun x : RowX => f x.1 x.1).length + 1) cap') ∧ u0.grownBy wz v0.ownBlock ∧ wz.ownsRow w5.heap.size 28 4 (.slice (some ⟨g', 0, none⟩) ((pre.map fun x : RowX => f x.1 x.1).length + 1) cap') ((pre.map fun x : RowX => f x.1 x.1).length + 1) ((pre.map fun x : RowX => f x.1 x.1).flatMap cellsN ++ cellsN (f x.1 x.1)) ∧ (some g' = v0.ownBlock ∨ g' = u0.heap.size)) ?step ?app ?store ?fin)
    case step =>
      intro j o t act u ho hdt hjs hsz hu hfr hin
      have e0 := y0 u hu; have e1 := y1 u hu; have e2 := y2 u hu; have e3 := y3 u hu
      rcases (by omega : j = 0 ∨ j = 1 ∨ j = 2 ∨ j = 3 ∨ j = 4 ∨ j = 5) with rfl | rfl | rfl | rfl | rfl | rfl
      · simp only [List.getElem?_toArray, List.getElem?_cons_zero, List.getElem?_cons_succ, Option.some.injEq] at ho
        subst ho
        obtain rfl := Option.some.inj hdt
        have i3 : act.eval (.tmp (3 : Nat)) = .pointer (some ⟨w6.heap.size, 0, none⟩) := hfr 3 (by decide)
        exact load_wp _ _ rfl (by rw [i3]; exact Tryz.load1N w6.heap.size _ u (boxed_bl hv0 hu).cell) ⟨_, rfl, rfl, Bl.refl _⟩
      · simp only [List.getElem?_toArray, List.getElem?_cons_zero, List.getElem?_cons_succ, Option.some.injEq] at ho
        subst ho
        obtain rfl := Option.some.inj hdt
        have i5 : act.eval (.tmp (5 : Nat)) = rowV n x := hfr 5 (by decide)
        exact plain_wp (by intro c h; cases h) (fun _ _ => trivial) (by simp only [execOp, i5, evalC, evalF, evalG]; simp [go_sem]) ⟨_, rfl, rfl, Bl.refl _⟩
      · simp only [List.getElem?_toArray, List.getElem?_cons_zero, List.getElem?_cons_succ, Option.some.injEq] at ho
        subst ho
        obtain rfl := Option.some.inj hdt
        have i4 : act.eval (.tmp (4 : Nat)) = .int .i64 x.1 := hfr 4 (by decide)
        exact plain_wp (by intro c h; cases h) (fun _ _ => trivial) (by simp only [execOp, i4, evalC, evalF, evalG]; simp [go_sem]) ⟨_, rfl, rfl, Bl.refl _⟩
      · simp only [List.getElem?_toArray, List.getElem?_cons_zero, List.getElem?_cons_succ, Option.some.injEq] at ho
        subst ho
        obtain rfl := Option.some.inj hdt
        have i17 : (act.eval (.tmp (17 : Nat))) = rowV n x := hin ⟨1, .data⟩ (by simp) rfl 17 rfl
        have i18 : (act.eval (.tmp (18 : Nat))) = .int .i64 x.1 := hin ⟨2, .data⟩ (by simp) rfl 18 rfl
        exact plain_wp (by intro c h; cases h) (fun _ _ => trivial) (by simp only [execOp, i17, i18, rowV, hp1]; simp [go_sem, hxn]) ⟨_, rfl, rfl, Bl.refl _⟩
      · simp only [List.getElem?_toArray, List.getElem?_cons_zero, List.getElem?_cons_succ, Option.some.injEq] at ho
        subst ho
        obtain rfl := Option.some.inj hdt
        have i19 : (act.eval (.tmp (19 : Nat))) = .pointer (some ⟨rb, ro + x.1 * 4, none⟩) := hin ⟨3, .data⟩ (by simp) rfl 19 rfl
        exact plain_wp (by intro c h; cases h) (fun _ _ => trivial) (by simp only [execOp, i19]; simp [go_sem, e0, e1, e2, e3]) ⟨_, rfl, rfl, Bl.refl _⟩
      · simp only [List.getElem?_toArray, List.getElem?_cons_zero, List.getElem?_cons_succ, Option.some.injEq] at ho
        subst ho
        obtain rfl := Option.some.inj hdt
        have i20 : (act.eval (.tmp (20 : Nat))) = enV (f x.1 x.1) := hin ⟨4, .data⟩ (by simp) rfl 20 rfl
        refine build_wp _ _ rfl (by rw [i20]; exact Tryz.build1N _ u) ?_
        exact ⟨_, rfl, ⟨u.heap.size, rfl, Box.new u _ _⟩, (Bl.refl _).alloc _⟩
    case app =>
      intro o t act u vs ho hdt hsz hu hfr hin
      simp only [List.getElem?_toArray, List.getElem?_cons_zero, List.getElem?_cons_succ, Option.some.injEq] at ho
      subst ho
      obtain rfl := Option.some.inj hdt
      obtain ⟨i16, k16⟩ : act.eval (.tmp (16 : Nat)) = vs 0 ∧ ((vs 0) = v0) := hin 0 16 (by omega) rfl
      obtain ⟨i21, k21⟩ : act.eval (.tmp (21 : Nat)) = vs 5 ∧ (∃ gz, (vs 5) = .slice (some ⟨gz, 0, none⟩) 1 1 ∧ Box u gz (f x.1 x.1)) := hin 5 21 (by omega) rfl
      obtain ⟨gz, eg, bz⟩ := k21
      rw [eg] at i21
      rw [k16] at i16
      refine stepIn_append (.tmp (16 : Nat)) (.tmp (21 : Nat)) 22 rfl w5.heap.size 28 i0 (.agg #[.int .i64 0, .int .i64 0, .int .i64 0, .bool false]) 4 32 Tryz.underlying22 hi hz0 hz1 hz2 rfl (by decide) v0 (pre.map fun x : RowX => f x.1 x.1).length ((pre.map fun x : RowX => f x.1 x.1).flatMap cellsN) i16 (own_blN hrow hu) ⟨gz, 0, none⟩ 1 1 (cellsN (f x.1 x.1)) i21 rfl bz.cells (oneN_cells _) (by unfold maxLen; omega) (by omega) (by have := hu.size; omega) ?_
      intro v' w5 hown' hgrow hat
      obtain ⟨g', cap', rfl⟩ := ownsRow_succ hown'
      refine ⟨_, rfl, g', cap', rfl, hgrow, hown', ?_⟩
      rcases hat with h | h
      · exact .inl h
      · exact .inr (by simpa [Value.ownBlock] using h)
    case store =>
      intro o act u0 u vs v ho hsz hu hfr hin hv hpa
      simp only [List.getElem?_toArray, List.getElem?_cons_zero, List.getElem?_cons_succ, Option.some.injEq] at ho
      subst ho
      have i3 : act.eval (.tmp (3 : Nat)) = .pointer (some ⟨w6.heap.size, 0, none⟩) := hfr 3 (by decide)
      have i22 : act.eval (.tmp (22 : Nat)) = v := hv 22 rfl
      obtain ⟨g', cap', rfl, hgrow, hown', hat⟩ := hpa
      have hbu := (boxed_bl hv0 hu).kept hgrow hne0
      exact skip_wp (by intro c h; cases h) (fun _ _ => trivial) (by simp only [execOp, i3, i22]; simp [go_sem, hbu.cell, hbu.frozen]) ⟨rfl, u, g', cap', rfl, hgrow, hown', hat⟩
    case fin =>
      intro vs v u0 u hu hin hpb
      obtain ⟨w8, g', cap', rfl, k2, k3, k4⟩ := hpb
      have k1 := hu
      clear hin
      have hvu := boxed_bl hv0 k1
      have hru := own_blN hrow k1
      have hsu := k1.size
      have hu5 : w5.heap.size ≤ u0.heap.size := by omega
      obtain ⟨hv5, hv6, hr6, hk6, hb6⟩ := boxed_appended hvu (by decide) hru hu5 (by omega) k3 k2
      have hg8 := k2.size
      refine ⟨(k1.keeps _).trans (hk6.from _), span_appended k1 (by omega) hgv k2 (by omega), ⟨_, hv6, ?_, ?_⟩, ?_, ?_⟩
      · rw [List.map_append]
        simpa [List.flatMap_append] using hr6
      · intro b hb
        have hb' : g' = b := by cases hb; rfl
        subst hb'
        rcases k4 with h | h
        · exact hgv _ h.symm
        · exact .inr (by omega)
      · exact hbU.trans ((k1.mono (by omega)).trans hb6)
      · simp; omega
  case done =>
    rintro Dm zs U hD hS ⟨⟨v, hv, hrow, _⟩, hb5, hs7'⟩ hKD
    have e : (zs.map fun x : RowX => f x.1 x.1) = (List.range n).map fun i => f i i := by rw [← hS, List.map_map]; rfl
    rw [e] at hrow
    have RW := Rw.of_own cellsN_len (ownsRow_putObj hrow (.deferred none) hKD rfl)
    obtain ⟨p', cap', hv', _, _⟩ := RW.cut
    rw [List.length_map, List.length_range] at hv'
    subst hv'
    have hcl := hv.cell
    have hbw : Bl w U := bw5.trans hb5
    have HRW := hideP RW
    have HKD := hideP hKD
    clear hrow RW hKD hv
    gi_wp2
    refine ⟨by simp, .inl ⟨_, _, rfl, run_takeDeferred HKD.out, ?_⟩⟩
    exact ⟨_, results_tmp rfl _ _ _, p', cap', rfl, HRW.out, Below.trans hbw (belowK_b (w := w) (Nat.le_refl _) U Dm _ _ (by have := bw5.size; have := b57.size; omega) HKD.out rfl rfl)⟩
  case stop =>
    rintro D' c pre U _ _ h _
    exact h.elim
theorem tDiagN_no (r c : Int) (p : Option Addr) (n cap : Nat) (w : World) (hsq : sqB r c n = false) :
    Calls Tryz.prog 132 #[mV r c p n cap] w fun e w' => e = .returned (.slice none 0 0) ∧ Bl w w' := by
  obtain ⟨W, hW⟩ : ∃ W, W = w.alloc (.cells #[.int .i64 r, .int .i64 c, .slice p n cap] 24) := ⟨_, rfl⟩
  have b0 : Bl w W := by rw [hW]; exact (Bl.refl _).alloc _
  have HW := hideP hW
  clear hW
  go_enter Tryz.func132, Tryz.ntmps132
  go_wp2_with fail
  rw [← HW.out]
  refine (tSquareN _ _ _ _ _ _).mono ?_
  rintro e w1 ⟨rfl, h1⟩
  rw [hsq]
  go_wp2
  go_ret
  exact ⟨rfl, b0.trans h1⟩
end Go.Proofs.YtlbmkjicbkfmjaaGreat
