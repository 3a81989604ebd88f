/- The walk of VecSteps. Written by genVs.py. -/
import Derived.Test.YtfbioinmgchdcaaVeS
import Derived.Test.YtfbioinmgchdcaaVeJ
import Derived.Test.YtfbioinmgchdcaaQz
import Derived.Test.YtfbioinmgchdcaaPhasePl
import Derived.Deep.RegionHeld3
import Derived.Deep.RegionWith
namespace Go.Proofs.Ytfbioinmgchdcaa
open Go.RowKit
set_option linter.unusedSimpArgs false
set_option linter.unusedVariables false

theorem steps_out (p q : Option Addr) (la lb cap dap : Nat) (w : World) (h : 20 < la ∨ (¬ 20 < la ∧ 20 < lb)) :
    Calls Try.prog 5 #[.slice p la cap, .slice q lb dap] w fun e w' => e = .returned (.bool true) ∧ Bl w w' := by
  have AW := hideP awake5_any
  rcases h with h | ⟨h1, h⟩
  all_goals
    go_enter Try.func5, Try.ntmps5
    go_wp2_with fail
    refine (AW.out _).mono ?_
    rintro e w2 ⟨rfl, h2⟩
    go_wp2
    go_ret
    exact ⟨rfl, h2⟩
/-- Between two operations of the statement that adds a product. -/
def StepI (A0 : Act) (x y z d t : En) (W : World) (k : Nat) (l : Array Bool) (act : Act) (u : World) : Prop :=
  ∃ (l0 l4 l5 l9 l10 l11 l12 : Bool) (v40 v44 v45 v49 v50 v51 v52 : Value), l = #[l0, true, true, true, l4, l5, true, true, true, l9, l10, l11, l12, false] ∧ k = onem l0 + onem l4 + onem l5 + onem l9 + onem l10 + onem l11 + onem l12 ∧ act = (((((((A0.put (some 40) v40).put (some 44) v44).put (some 45) v45).put (some 49) v49).put (some 50) v50).put (some 51) v51).put (some 52) v52)
    ∧ (l0 = true → v40 = enV d) ∧ (l4 = true → v44 = enV x) ∧ (l5 = true → v45 = enV x) ∧ (l9 = true → v49 = enV y) ∧ (l10 = true → v50 = enV y) ∧ (l11 = true → v51 = enV z) ∧ (l12 = true → v52 = enV t) ∧ Bl W u
/-- Two variables that are laid. -/
structure TwoN (w W : World) : Prop where
  eq : W = (w.alloc (.cells #[.int .i64 0, .int .i64 0, .int .i64 0, .bool false] 43)).alloc (.cells #[.int .i64 0, .int .i64 0, .int .i64 0, .bool false] 43)
  bl : Bl w W
  b0 : Box W w.heap.size zeroE
  b1 : Box W (w.heap.size + 1) zeroE
theorem twoN_ex (w : World) : ∃ W, TwoN w W := by
  refine ⟨_, rfl, ((Bl.refl _).alloc _).alloc _, (Box.new w zeroE 43).later ((Bl.refl _).alloc _), ?_⟩
  have := Box.new (w.alloc (.cells #[.int .i64 0, .int .i64 0, .int .i64 0, .bool false] 43)) zeroE 43
  rw [World.size_alloc] at this
  exact this
set_option maxRecDepth 100000 in
set_option maxHeartbeats 8000000 in
theorem steps_main (p q : Option Addr) (cap dap : Nat) (la lb : Nat) (xs ys : List En) (w : World) (ha : Rq 4 cellsN w (.slice p la cap) xs) (hb : Rq 4 cellsN w (.slice q lb dap) ys) (ea : xs.length = la) (eb : ys.length = lb) (hl : la ≤ 20) (hm : lb ≤ 20) :
    Calls Try.prog 5 #[.slice p la cap, .slice q lb dap] w fun e w' => e = .returned (.bool true) ∧ Bl w w' := by
  have AW := hideP awake5_any
  have HA := hideP ha
  have HB := hideP hb
  have La := hideP ea
  have Lb := hideP eb
  clear ha hb ea eb
  obtain ⟨m, hmin⟩ : ∃ m, m = min la lb := ⟨_, rfl⟩
  have hm0 : min (la : Int) (lb : Int) = (m : Int) := by omega
  have hm1 : (if lb < la then (lb : Int) else (la : Int)) = (m : Int) := by split <;> omega
  have hma : m ≤ la := by omega
  have hmb : m ≤ lb := by omega
  have HM := hideP hmin
  clear hmin
  obtain ⟨W, X⟩ := twoN_ex w
  have HX := hideP X
  clear X
  have fm : Try.prog.follows .mixedOrders = true := by kernel_rfl
  go_enter Try.func5, Try.ntmps5
  go_wp2_with fail
  rw [← HX.out.eq]
  go_loopw [23] (fun i wr => ∃ k : Nat, i = .int .i64 k ∧ k ≤ la ∧ Box wr w.heap.size (sumN (xs.take k)) ∧ Box wr (w.heap.size + 1) zeroE ∧ Bl w wr) (fun i _ => la - (intOf i).toNat)
  case atStart => exact ⟨0, rfl, Nat.zero_le _, by rw [List.take_zero, sumN_nil]; exact HX.out.b0, HX.out.b1, HX.out.bl⟩
  case round =>
    obtain ⟨k, rfl, hk, bs, bd, hbl⟩ := hrel
    by_cases hlt : k < la
    · obtain ⟨x, hx⟩ : ∃ x, xs[k]? = some x := ⟨_, List.getElem?_eq_getElem (by rw [La.out]; exact hlt)⟩
      obtain ⟨ba, oa, rfl, CA⟩ := rqN_at HA.out hx
      obtain ⟨x0, x1, x2, x3⟩ := CA wr hbl
      have SN := hideP (sumN_snoc xs k x hx)
      have BS := hideP bs
      have BD := hideP bd
      have HBL := hideP hbl
      generalize hsu : sumN (xs.take k) = s at *
      clear bs bd hx CA hbl hsu
      go_wp2_with fail
      obtain ⟨V, hV⟩ : ∃ V, V = wr.alloc (.cells #[.int .i64 x.v, .int .i64 x.l, .int .i64 x.h, .bool x.bad] 37) := ⟨_, rfl⟩
      rw [← hV]
      have bV : Bl wr V := by rw [hV]; exact (Bl.refl _).alloc _
      have BX := hideP (show Box V wr.heap.size x by rw [hV]; exact Box.new wr x _)
      have hne : wr.heap.size ≠ w.heap.size := by have := BS.out.lt; omega
      clear hV x0 x1 x2 x3
      have KP := hideP (fun (u : World) (hu : Bl V u) => show u.cell? ⟨wr.heap.size, 0, none⟩ = some (.int .i64 x.v) ∧ u.cell? ⟨wr.heap.size, 1, none⟩ = some (.int .i64 x.l) ∧ u.cell? ⟨wr.heap.size, 2, none⟩ = some (.int .i64 x.h) ∧ u.cell? ⟨wr.heap.size, 3, none⟩ = some (.bool x.bad) from ⟨(BX.out.later hu).c0, (BX.out.later hu).c1, (BX.out.later hu).c2, (BX.out.later hu).c3⟩)
      have KQ := hideP (fun (u : World) (y0 y1 y2 y3 : Value) (hu : Bl V u) => show ((((u.setCell ⟨w.heap.size, 0, none⟩ y0).setCell ⟨w.heap.size, 1, none⟩ y1).setCell ⟨w.heap.size, 2, none⟩ y2).setCell ⟨w.heap.size, 3, none⟩ y3).cell? ⟨wr.heap.size, 0, none⟩ = some (.int .i64 x.v) ∧ ((((u.setCell ⟨w.heap.size, 0, none⟩ y0).setCell ⟨w.heap.size, 1, none⟩ y1).setCell ⟨w.heap.size, 2, none⟩ y2).setCell ⟨w.heap.size, 3, none⟩ y3).cell? ⟨wr.heap.size, 1, none⟩ = some (.int .i64 x.l) ∧ ((((u.setCell ⟨w.heap.size, 0, none⟩ y0).setCell ⟨w.heap.size, 1, none⟩ y1).setCell ⟨w.heap.size, 2, none⟩ y2).setCell ⟨w.heap.size, 3, none⟩ y3).cell? ⟨wr.heap.size, 2, none⟩ = some (.int .i64 x.h) ∧ ((((u.setCell ⟨w.heap.size, 0, none⟩ y0).setCell ⟨w.heap.size, 1, none⟩ y1).setCell ⟨w.heap.size, 2, none⟩ y2).setCell ⟨w.heap.size, 3, none⟩ y3).cell? ⟨wr.heap.size, 3, none⟩ = some (.bool x.bad) from ⟨((BX.out.later hu).oth hne y0 y1 y2 y3).c0, ((BX.out.later hu).oth hne y0 y1 y2 y3).c1, ((BX.out.later hu).oth hne y0 y1 y2 y3).c2, ((BX.out.later hu).oth hne y0 y1 y2 y3).c3⟩)
      have BS2 := hideP (BS.out.later bV)
      have BD2 := hideP (BD.out.later bV)
      have HBV := hideP (HBL.out.trans bV)
      have HNE := hideP hne
      clear hne bV BS BD HBL
      have D0 := hideP (fun u => do0 s x u)
      generalize addE s x = t at *
      obtain ⟨s0, s1, s2, s3, sf0, sf1, sf2, sf3, sl⟩ := BS2.out.later ((Bl.refl V).drew)
      obtain ⟨t0, t1, t2, t3, tf0, tf1, tf2, tf3, tl⟩ := BX.out.later ((Bl.refl V).drew)
      go_region_with (first
          | (go_at_call 23; refine (given_any x _).mono ?_; rintro e w1 ⟨rfl, h1⟩; obtain ⟨g0, g1, g2, g3, gf0, gf1, gf2, gf3, gl⟩ := BS2.out.later (show Bl V w1 from (by repeat (first | exact Bl.refl _ | apply Bl.drew | (refine Bl.trans ?_ (by assumption))))); obtain ⟨gx0, gx1, gx2, gx3, gxf0, gxf1, gxf2, gxf3, gxl⟩ := BX.out.later (show Bl V w1 from (by repeat (first | exact Bl.refl _ | apply Bl.drew | (refine Bl.trans ?_ (by assumption))))))
          | (go_at_call 22; refine (D0.out _).mono ?_; rintro e w2 ⟨rfl, h2⟩; obtain ⟨d0, d1, d2, d3, df0, df1, df2, df3, dl⟩ := BS2.out.later (show Bl V w2 from (by repeat (first | exact Bl.refl _ | apply Bl.drew | (refine Bl.trans ?_ (by assumption)))))))
      all_goals
        have hB2 : Bl V w2 := (by repeat (first | exact Bl.refl _ | apply Bl.drew | (refine Bl.trans ?_ (by assumption))))
        have bs2 := (BS2.out.later hB2).fill t
        have bd2 := (BD2.out.later hB2).oth (show w.heap.size + 1 ≠ w.heap.size by omega) (.int .i64 t.v) (.int .i64 t.l) (.int .i64 t.h) (.bool t.bad)
        have bl2 : Bl w _ := Bl.set4 (HBV.out.trans hB2) (Nat.le_refl _) (.int .i64 t.v) (.int .i64 t.l) (.int .i64 t.h) (.bool t.bad)
        have R := hideP (show _ ∧ _ ∧ _ from ⟨bs2, bd2, bl2⟩)
        clear bs2 bd2 bl2
        go_wp2
        go_roundw
        case rel => exact ⟨k + 1, by simp, hlt, by rw [SN.out]; exact R.out.1, R.out.2.1, R.out.2.2⟩
        case measure => simp [intOf]; omega
    · have hk' : k = la := by omega
      rw [hk', ← La.out, List.take_length] at bs
      have BS := hideP bs
      have HBL := hideP hbl
      clear bs hk'
      generalize hsu : sumN xs = s at *
      go_wp2_with fail
      go_loopw [37] (fun i wr => ∃ k : Nat, i = .int .i64 k ∧ k ≤ m ∧ Box wr w.heap.size s ∧ Box wr (w.heap.size + 1) (dotN (xs.take k) (ys.take k)) ∧ Bl w wr) (fun i _ => m - (intOf i).toNat)
      case atStart => exact ⟨0, rfl, Nat.zero_le _, BS.out, by rw [List.take_zero, List.take_zero]; unfold dotN; rw [List.zipWith_nil_left, sumN_nil]; exact bd, hbl⟩
      case round =>
        clear BS HBL bd hbl hlt hk
        obtain ⟨k, rfl, hk, bs, bd, hbl⟩ := hrel
        by_cases hlt : k < m
        · obtain ⟨x, hx⟩ : ∃ x, xs[k]? = some x := ⟨_, List.getElem?_eq_getElem (by rw [La.out]; omega)⟩
          obtain ⟨y, hy⟩ : ∃ y, ys[k]? = some y := ⟨_, List.getElem?_eq_getElem (by rw [Lb.out]; omega)⟩
          obtain ⟨ba, oa, rfl, CA⟩ := rqN_at HA.out hx
          obtain ⟨bb, ob, rfl, CB⟩ := rqN_at HB.out hy
          have SN := hideP (dotN_snoc xs ys k x y hx hy)
          have BS := hideP bs
          have BD := hideP bd
          have KP := hideP (fun (u : World) (hu : Bl w u) => show u.cell? ⟨ba, oa + k * 4, none⟩ = some (.int .i64 x.v) ∧ u.cell? ⟨ba, oa + k * 4 + 1, none⟩ = some (.int .i64 x.l) ∧ u.cell? ⟨ba, oa + k * 4 + 2, none⟩ = some (.int .i64 x.h) ∧ u.cell? ⟨ba, oa + k * 4 + 3, none⟩ = some (.bool x.bad) ∧ u.cell? ⟨bb, ob + k * 4, none⟩ = some (.int .i64 y.v) ∧ u.cell? ⟨bb, ob + k * 4 + 1, none⟩ = some (.int .i64 y.l) ∧ u.cell? ⟨bb, ob + k * 4 + 2, none⟩ = some (.int .i64 y.h) ∧ u.cell? ⟨bb, ob + k * 4 + 3, none⟩ = some (.bool y.bad) from ⟨(CA u hu).1, (CA u hu).2.1, (CA u hu).2.2.1, (CA u hu).2.2.2, (CB u hu).1, (CB u hu).2.1, (CB u hu).2.2.1, (CB u hu).2.2.2⟩)
          generalize dotN (xs.take k) (ys.take k) = d at *
          have D2 := hideP (fun u => do2 x y u)
          generalize mulE x y = z at *
          have D0 := hideP (fun u => do0 d z u)
          generalize addE d z = t at *
          have CX := hideP CA
          have CY := hideP CB
          clear bs bd hx hy CA CB KP
          have hkla : k < la := by omega
          have hklb : k < lb := by omega
          go_wp2_with fail
          refine wp_region_noPanic ?_
          refine wp_region_any fm ?_
          change wpAny _ _ _ _ _ _ _ (World.drew _)
          refine wpAny_take (i := 1) (oi := _) (v := .slice (some ⟨ba, oa, none⟩) la cap) rfl (by kernel_rfl) (by kernel_rfl) (by kernel_rfl) (fun _ _ _ h => h) (Or.inl ⟨by rfl, ?_⟩) ?_
          · intro u
            go_simp
          try simp only [Act.put, List.getElem_toArray, List.getElem_cons_zero, List.getElem_cons_succ, List.setIfInBounds_toArray, List.set_cons_zero, List.set_cons_succ]
          refine wpAny_take (i := 2) (oi := _) (v := .int .i64 k) rfl (by kernel_rfl) (by kernel_rfl) (by kernel_rfl) (fun _ _ _ h => h) (Or.inl ⟨by rfl, ?_⟩) ?_
          · intro u
            go_simp
          try simp only [Act.put, List.getElem_toArray, List.getElem_cons_zero, List.getElem_cons_succ, List.setIfInBounds_toArray, List.set_cons_zero, List.set_cons_succ]
          refine wpAny_take (i := 3) (oi := _) (v := .pointer (some ⟨ba, oa + k * 4, none⟩)) rfl (by kernel_rfl) (by kernel_rfl) (by kernel_rfl) (fun _ _ _ h => h) (Or.inl ⟨by rfl, ?_⟩) ?_
          · intro u
            go_simp
          try simp only [Act.put, List.getElem_toArray, List.getElem_cons_zero, List.getElem_cons_succ, List.setIfInBounds_toArray, List.set_cons_zero, List.set_cons_succ]
          refine wpAny_take (i := 6) (oi := _) (v := .slice (some ⟨bb, ob, none⟩) lb dap) rfl (by kernel_rfl) (by kernel_rfl) (by kernel_rfl) (fun _ _ _ h => h) (Or.inl ⟨by rfl, ?_⟩) ?_
          · intro u
            go_simp
          try simp only [Act.put, List.getElem_toArray, List.getElem_cons_zero, List.getElem_cons_succ, List.setIfInBounds_toArray, List.set_cons_zero, List.set_cons_succ]
          refine wpAny_take (i := 7) (oi := _) (v := .int .i64 k) rfl (by kernel_rfl) (by kernel_rfl) (by kernel_rfl) (fun _ _ _ h => h) (Or.inl ⟨by rfl, ?_⟩) ?_
          · intro u
            go_simp
          try simp only [Act.put, List.getElem_toArray, List.getElem_cons_zero, List.getElem_cons_succ, List.setIfInBounds_toArray, List.set_cons_zero, List.set_cons_succ]
          refine wpAny_take (i := 8) (oi := _) (v := .pointer (some ⟨bb, ob + k * 4, none⟩)) rfl (by kernel_rfl) (by kernel_rfl) (by kernel_rfl) (fun _ _ _ h => h) (Or.inl ⟨by rfl, ?_⟩) ?_
          · intro u
            go_simp
          try simp only [Act.put, List.getElem_toArray, List.getElem_cons_zero, List.getElem_cons_succ, List.setIfInBounds_toArray, List.set_cons_zero, List.set_cons_succ]
          refine wpAny_name (fun A0 hA0 => ?_)
          have HA0 := hideP hA0
          clear hA0
          refine wpAny_phase (fuel := 1) (StepI A0 x y z d t wr) ?fin ?live ?step 7 _ _ _ ⟨false, false, false, false, false, false, false, u40, u44, u45, u49, u50, u51, u52, rfl, rfl, by rw [HA0.out]; simp only [Act.put, List.getElem_toArray, List.getElem_cons_zero, List.getElem_cons_succ, List.setIfInBounds_toArray, List.set_cons_zero, List.set_cons_succ], nofun, nofun, nofun, nofun, nofun, nofun, nofun, (Bl.refl _).drew⟩
          case live =>
            intro kk l act u h h0
            obtain ⟨l0, l4, l5, l9, l10, l11, l12, v40, v44, v45, v49, v50, v51, v52, rfl, hkk, rfl, e0, e4, e5, e9, e10, e11, e12, hB⟩ := h
            rw [List.eq_nil_iff_forall_not_mem] at h0
            cases l0
            · exact h0 0 (mem_ready.2 ⟨rfl, _, rfl, fun e he => by simp at he⟩)
            cases l4
            · exact h0 4 (mem_ready.2 ⟨rfl, _, rfl, fun e he hb => by simp at he; first | exact he.elim | (rcases he with rfl | rfl | rfl <;> rfl) | (rcases he with rfl | rfl <;> rfl) | (rcases he with rfl; rfl)⟩)
            cases l5
            · exact h0 5 (mem_ready.2 ⟨rfl, _, rfl, fun e he hb => by simp at he; first | exact he.elim | (rcases he with rfl | rfl | rfl <;> rfl) | (rcases he with rfl | rfl <;> rfl) | (rcases he with rfl; rfl)⟩)
            cases l9
            · exact h0 9 (mem_ready.2 ⟨rfl, _, rfl, fun e he hb => by simp at he; first | exact he.elim | (rcases he with rfl | rfl | rfl <;> rfl) | (rcases he with rfl | rfl <;> rfl) | (rcases he with rfl; rfl)⟩)
            cases l10
            · exact h0 10 (mem_ready.2 ⟨rfl, _, rfl, fun e he hb => by simp at he; first | exact he.elim | (rcases he with rfl | rfl | rfl <;> rfl) | (rcases he with rfl | rfl <;> rfl) | (rcases he with rfl; rfl)⟩)
            cases l11
            · exact h0 11 (mem_ready.2 ⟨rfl, _, rfl, fun e he hb => by simp at he; first | exact he.elim | (rcases he with rfl | rfl | rfl <;> rfl) | (rcases he with rfl | rfl <;> rfl) | (rcases he with rfl; rfl)⟩)
            cases l12
            · exact h0 12 (mem_ready.2 ⟨rfl, _, rfl, fun e he hb => by simp at he; first | exact he.elim | (rcases he with rfl | rfl | rfl <;> rfl) | (rcases he with rfl | rfl <;> rfl) | (rcases he with rfl; rfl)⟩)
            simp [onem] at hkk
          case step =>
            intro kk l act u i h hi' hall
            obtain ⟨l0, l4, l5, l9, l10, l11, l12, v40, v44, v45, v49, v50, v51, v52, rfl, hkk, rfl, e0, e4, e5, e9, e10, e11, e12, hB⟩ := h
            have hlt2 := getD_ltp hi'
            simp only [List.size_toArray, List.length_cons, List.length_nil] at hlt2
            obtain ⟨xa0, xa1, xa2, xa3⟩ := CX.out u (hbl.trans hB)
            obtain ⟨ya0, ya1, ya2, ya3⟩ := CY.out u (hbl.trans hB)
            obtain ⟨s0, s1, s2, s3, sf0, sf1, sf2, sf3, sl⟩ := BD.out.later hB
            rcases (by omega : i = 0 ∨ i = 1 ∨ i = 2 ∨ i = 3 ∨ i = 4 ∨ i = 5 ∨ i = 6 ∨ i = 7 ∨ i = 8 ∨ i = 9 ∨ i = 10 ∨ i = 11 ∨ i = 12 ∨ i = 13) with rfl | rfl | rfl | rfl | rfl | rfl | rfl | rfl | rfl | rfl | rfl | rfl | rfl | rfl
            · skip
              have hl0 : l0 = false := hi'
              subst hl0
              have E0 := hideP e0
              have E4 := hideP e4
              have E5 := hideP e5
              have E9 := hideP e9
              have E10 := hideP e10
              have E11 := hideP e11
              have E12 := hideP e12
              have HKK := hideP hkk
              have HBu := hideP hB
              clear e0 e4 e5 e9 e10 e11 e12 hkk hB hi' hall
              refine wpOp_step (o := _) rfl (fun K' hK0 => ?_)
              have hK' := hideP hK0
              clear hK0
              rw [HA0.out]
              try simp only [Act.put, List.getElem_toArray, List.getElem_cons_zero, List.getElem_cons_succ, List.setIfInBounds_toArray, List.set_cons_zero, List.set_cons_succ]
              go_simp
              exact hK'.out _ _ ⟨true, l4, l5, l9, l10, l11, l12, (enV d), v44, v45, v49, v50, v51, v52, rfl, by have := HKK.out; simp [onem] at this ⊢; omega, by rw [HA0.out]; simp only [Act.put, List.getElem_toArray, List.getElem_cons_zero, List.getElem_cons_succ, List.setIfInBounds_toArray, List.set_cons_zero, List.set_cons_succ], fun _ => rfl, E4.out, E5.out, E9.out, E10.out, E11.out, E12.out, HBu.out⟩
            · exact Bool.noConfusion (show true = false from hi')
            · exact Bool.noConfusion (show true = false from hi')
            · exact Bool.noConfusion (show true = false from hi')
            · skip
              have hl0 : l4 = false := hi'
              subst hl0
              have E0 := hideP e0
              have E4 := hideP e4
              have E5 := hideP e5
              have E9 := hideP e9
              have E10 := hideP e10
              have E11 := hideP e11
              have E12 := hideP e12
              have HKK := hideP hkk
              have HBu := hideP hB
              clear e0 e4 e5 e9 e10 e11 e12 hkk hB hi' hall
              refine wpOp_step (o := _) rfl (fun K' hK0 => ?_)
              have hK' := hideP hK0
              clear hK0
              rw [HA0.out]
              try simp only [Act.put, List.getElem_toArray, List.getElem_cons_zero, List.getElem_cons_succ, List.setIfInBounds_toArray, List.set_cons_zero, List.set_cons_succ]
              go_simp
              exact hK'.out _ _ ⟨l0, true, l5, l9, l10, l11, l12, v40, (enV x), v45, v49, v50, v51, v52, rfl, by have := HKK.out; simp [onem] at this ⊢; omega, by rw [HA0.out]; simp only [Act.put, List.getElem_toArray, List.getElem_cons_zero, List.getElem_cons_succ, List.setIfInBounds_toArray, List.set_cons_zero, List.set_cons_succ], E0.out, fun _ => rfl, E5.out, E9.out, E10.out, E11.out, E12.out, HBu.out⟩
            · skip
              have hl0 : l5 = false := hi'
              subst hl0
              have q4 : l4 = true := hall ⟨4, .data⟩ ⟨_, rfl, by simp⟩ rfl
              obtain rfl := e4 q4
              clear q4
              have E0 := hideP e0
              have E4 := hideP e4
              have E5 := hideP e5
              have E9 := hideP e9
              have E10 := hideP e10
              have E11 := hideP e11
              have E12 := hideP e12
              have HKK := hideP hkk
              have HBu := hideP hB
              clear e0 e4 e5 e9 e10 e11 e12 hkk hB hi' hall
              refine wpOp_step (o := _) rfl (fun K' hK0 => ?_)
              have hK' := hideP hK0
              clear hK0
              rw [HA0.out]
              try simp only [Act.put, List.getElem_toArray, List.getElem_cons_zero, List.getElem_cons_succ, List.setIfInBounds_toArray, List.set_cons_zero, List.set_cons_succ]
              go_simp
              refine (given_any x _).mono ?_
              rintro e w4 ⟨rfl, h4⟩
              try go_wp2_with fail
              exact hK'.out _ _ ⟨l0, l4, true, l9, l10, l11, l12, v40, (enV x), (enV x), v49, v50, v51, v52, rfl, by have := HKK.out; simp [onem] at this ⊢; omega, by rw [HA0.out]; simp only [Act.put, List.getElem_toArray, List.getElem_cons_zero, List.getElem_cons_succ, List.setIfInBounds_toArray, List.set_cons_zero, List.set_cons_succ], E0.out, fun _ => rfl, fun _ => rfl, E9.out, E10.out, E11.out, E12.out, HBu.out.trans h4⟩
            · exact Bool.noConfusion (show true = false from hi')
            · exact Bool.noConfusion (show true = false from hi')
            · exact Bool.noConfusion (show true = false from hi')
            · skip
              have hl0 : l9 = false := hi'
              subst hl0
              have E0 := hideP e0
              have E4 := hideP e4
              have E5 := hideP e5
              have E9 := hideP e9
              have E10 := hideP e10
              have E11 := hideP e11
              have E12 := hideP e12
              have HKK := hideP hkk
              have HBu := hideP hB
              clear e0 e4 e5 e9 e10 e11 e12 hkk hB hi' hall
              refine wpOp_step (o := _) rfl (fun K' hK0 => ?_)
              have hK' := hideP hK0
              clear hK0
              rw [HA0.out]
              try simp only [Act.put, List.getElem_toArray, List.getElem_cons_zero, List.getElem_cons_succ, List.setIfInBounds_toArray, List.set_cons_zero, List.set_cons_succ]
              go_simp
              exact hK'.out _ _ ⟨l0, l4, l5, true, l10, l11, l12, v40, v44, v45, (enV y), v50, v51, v52, rfl, by have := HKK.out; simp [onem] at this ⊢; omega, by rw [HA0.out]; simp only [Act.put, List.getElem_toArray, List.getElem_cons_zero, List.getElem_cons_succ, List.setIfInBounds_toArray, List.set_cons_zero, List.set_cons_succ], E0.out, E4.out, E5.out, fun _ => rfl, E10.out, E11.out, E12.out, HBu.out⟩
            · skip
              have hl0 : l10 = false := hi'
              subst hl0
              have q9 : l9 = true := hall ⟨9, .data⟩ ⟨_, rfl, by simp⟩ rfl
              obtain rfl := e9 q9
              clear q9
              have q5 : l5 = true := hall ⟨5, .chain⟩ ⟨_, rfl, by simp⟩ rfl
              clear q5
              have E0 := hideP e0
              have E4 := hideP e4
              have E5 := hideP e5
              have E9 := hideP e9
              have E10 := hideP e10
              have E11 := hideP e11
              have E12 := hideP e12
              have HKK := hideP hkk
              have HBu := hideP hB
              clear e0 e4 e5 e9 e10 e11 e12 hkk hB hi' hall
              refine wpOp_step (o := _) rfl (fun K' hK0 => ?_)
              have hK' := hideP hK0
              clear hK0
              rw [HA0.out]
              try simp only [Act.put, List.getElem_toArray, List.getElem_cons_zero, List.getElem_cons_succ, List.setIfInBounds_toArray, List.set_cons_zero, List.set_cons_succ]
              go_simp
              refine (given_any y _).mono ?_
              rintro e w4 ⟨rfl, h4⟩
              try go_wp2_with fail
              exact hK'.out _ _ ⟨l0, l4, l5, l9, true, l11, l12, v40, v44, v45, (enV y), (enV y), v51, v52, rfl, by have := HKK.out; simp [onem] at this ⊢; omega, by rw [HA0.out]; simp only [Act.put, List.getElem_toArray, List.getElem_cons_zero, List.getElem_cons_succ, List.setIfInBounds_toArray, List.set_cons_zero, List.set_cons_succ], E0.out, E4.out, E5.out, fun _ => rfl, fun _ => rfl, E11.out, E12.out, HBu.out.trans h4⟩
            · skip
              have hl0 : l11 = false := hi'
              subst hl0
              have q5 : l5 = true := hall ⟨5, .data⟩ ⟨_, rfl, by simp⟩ rfl
              obtain rfl := e5 q5
              clear q5
              have q10 : l10 = true := hall ⟨10, .data⟩ ⟨_, rfl, by simp⟩ rfl
              obtain rfl := e10 q10
              clear q10
              have E0 := hideP e0
              have E4 := hideP e4
              have E5 := hideP e5
              have E9 := hideP e9
              have E10 := hideP e10
              have E11 := hideP e11
              have E12 := hideP e12
              have HKK := hideP hkk
              have HBu := hideP hB
              clear e0 e4 e5 e9 e10 e11 e12 hkk hB hi' hall
              refine wpOp_step (o := _) rfl (fun K' hK0 => ?_)
              have hK' := hideP hK0
              clear hK0
              rw [HA0.out]
              try simp only [Act.put, List.getElem_toArray, List.getElem_cons_zero, List.getElem_cons_succ, List.setIfInBounds_toArray, List.set_cons_zero, List.set_cons_succ]
              go_simp
              refine (D2.out _).mono ?_
              rintro e w4 ⟨rfl, h4⟩
              try go_wp2_with fail
              exact hK'.out _ _ ⟨l0, l4, l5, l9, l10, true, l12, v40, v44, (enV x), v49, (enV y), (enV z), v52, rfl, by have := HKK.out; simp [onem] at this ⊢; omega, by rw [HA0.out]; simp only [Act.put, List.getElem_toArray, List.getElem_cons_zero, List.getElem_cons_succ, List.setIfInBounds_toArray, List.set_cons_zero, List.set_cons_succ], E0.out, E4.out, fun _ => rfl, E9.out, fun _ => rfl, fun _ => rfl, E12.out, HBu.out.trans h4⟩
            · skip
              have hl0 : l12 = false := hi'
              subst hl0
              have q0 : l0 = true := hall ⟨0, .data⟩ ⟨_, rfl, by simp⟩ rfl
              obtain rfl := e0 q0
              clear q0
              have q11 : l11 = true := hall ⟨11, .data⟩ ⟨_, rfl, by simp⟩ rfl
              obtain rfl := e11 q11
              clear q11
              have E0 := hideP e0
              have E4 := hideP e4
              have E5 := hideP e5
              have E9 := hideP e9
              have E10 := hideP e10
              have E11 := hideP e11
              have E12 := hideP e12
              have HKK := hideP hkk
              have HBu := hideP hB
              clear e0 e4 e5 e9 e10 e11 e12 hkk hB hi' hall
              refine wpOp_step (o := _) rfl (fun K' hK0 => ?_)
              have hK' := hideP hK0
              clear hK0
              rw [HA0.out]
              try simp only [Act.put, List.getElem_toArray, List.getElem_cons_zero, List.getElem_cons_succ, List.setIfInBounds_toArray, List.set_cons_zero, List.set_cons_succ]
              go_simp
              refine (D0.out _).mono ?_
              rintro e w4 ⟨rfl, h4⟩
              try go_wp2_with fail
              exact hK'.out _ _ ⟨l0, l4, l5, l9, l10, l11, true, (enV d), v44, v45, v49, v50, (enV z), (enV t), rfl, by have := HKK.out; simp [onem] at this ⊢; omega, by rw [HA0.out]; simp only [Act.put, List.getElem_toArray, List.getElem_cons_zero, List.getElem_cons_succ, List.setIfInBounds_toArray, List.set_cons_zero, List.set_cons_succ], fun _ => rfl, E4.out, E5.out, E9.out, E10.out, fun _ => rfl, fun _ => rfl, HBu.out.trans h4⟩
            · exfalso
              have q0 : l0 = true := hall ⟨0, .phase⟩ ⟨_, rfl, by simp⟩ rfl
              have q4 : l4 = true := hall ⟨4, .phase⟩ ⟨_, rfl, by simp⟩ rfl
              have q5 : l5 = true := hall ⟨5, .phase⟩ ⟨_, rfl, by simp⟩ rfl
              have q9 : l9 = true := hall ⟨9, .phase⟩ ⟨_, rfl, by simp⟩ rfl
              have q10 : l10 = true := hall ⟨10, .phase⟩ ⟨_, rfl, by simp⟩ rfl
              have q11 : l11 = true := hall ⟨11, .phase⟩ ⟨_, rfl, by simp⟩ rfl
              have q12 : l12 = true := hall ⟨12, .phase⟩ ⟨_, rfl, by simp⟩ rfl
              rw [q0, q4, q5, q9, q10, q11, q12] at hkk
              simp [onem] at hkk
          case fin =>
            intro l act u h
            obtain ⟨l0, l4, l5, l9, l10, l11, l12, v40, v44, v45, v49, v50, v51, v52, rfl, hkk, rfl, e0, e4, e5, e9, e10, e11, e12, hB⟩ := h
            obtain ⟨rfl, rfl, rfl, rfl, rfl, rfl, rfl⟩ : l0 = true ∧ l4 = true ∧ l5 = true ∧ l9 = true ∧ l10 = true ∧ l11 = true ∧ l12 = true := by
              cases l0 <;> cases l4 <;> cases l5 <;> cases l9 <;> cases l10 <;> cases l11 <;> cases l12 <;> first | exact ⟨rfl, rfl, rfl, rfl, rfl, rfl, rfl⟩ | (simp [onem] at hkk)
            obtain rfl := e0 rfl
            obtain rfl := e4 rfl
            obtain rfl := e5 rfl
            obtain rfl := e9 rfl
            obtain rfl := e10 rfl
            obtain rfl := e11 rfl
            obtain rfl := e12 rfl
            clear e0 e4 e5 e9 e10 e11 e12 hkk
            obtain ⟨s0, s1, s2, s3, sf0, sf1, sf2, sf3, sl⟩ := BD.out.later hB
            rw [HA0.out]
            try simp only [Act.put, List.getElem_toArray, List.getElem_cons_zero, List.getElem_cons_succ, List.setIfInBounds_toArray, List.set_cons_zero, List.set_cons_succ]
            refine wpAny_ready (rs := [13]) (by kernel_rfl) (by simp) ?_
            refine AllReady.cons (i := 13) (o := _) rfl (fun K' hK0 => ?_) AllReady.nil
            have hK' := hideP hK0
            clear hK0
            try simp only [List.getElem_toArray, List.getElem_cons_zero, List.getElem_cons_succ]
            go_simp
            refine hK'.out _ _ ?_
            refine wpAny_done (by kernel_rfl) ?_ _
            refine NoPanic.normal ?_
            have bd2 := (BD.out.later hB).fill t
            have bs2 := (BS.out.later hB).oth (show w.heap.size ≠ w.heap.size + 1 by omega) (.int .i64 t.v) (.int .i64 t.l) (.int .i64 t.h) (.bool t.bad)
            have bl2 : Bl w _ := Bl.set4 (hbl.trans hB) (Nat.le_succ w.heap.size) (.int .i64 t.v) (.int .i64 t.l) (.int .i64 t.h) (.bool t.bad)
            have RR := hideP (show _ ∧ _ ∧ _ from ⟨bs2, bd2, bl2⟩)
            clear bs2 bd2 bl2
            try dsimp only [Act.put]
            go_wp2
            go_roundw
            case rel => exact ⟨k + 1, by simp, hlt, RR.out.1, by rw [SN.out]; exact RR.out.2.1, RR.out.2.2⟩
            case measure => simp [intOf]; omega
        · have hk' : k = m := by omega
          rw [dotN_take xs ys k (by rw [hk', La.out, Lb.out]; exact HM.out)] at bd
          generalize hdu : dotN xs ys = d at *
          have HSU := hideP hsu
          have HDU := hideP hdu
          clear hsu hdu hk'
          go_wp2_with fail
          have EG := Try.rnGuard
          have e1 := eql_rn s
          have e2 := eql_rn d
          have S1 := hideP (fun z : Wl wr => by have := vsumN (.slice p la cap) xs z.w (HA.out.later (hbl.trans z.bl)) (by rw [La.out]; omega); rw [HSU.out] at this; exact this)
          have D1 := hideP (fun z : Wl wr => by have := vDotN (.slice p la cap) (.slice q lb dap) xs ys z.w (HA.out.later (hbl.trans z.bl)) (HB.out.later (hbl.trans z.bl)) (by rw [La.out]; omega) (by rw [Lb.out]; omega); rw [HDU.out] at this; exact this)
          have wne := wl_ne wr
          obtain ⟨c0, c1, c2, c3⟩ := bs.wl
          obtain ⟨d0, d1, d2, d3⟩ := bd.wl
          refine wl_region wr (Bl.refl _) (by kernel_rfl) (by kernel_rfl) ?_
          repeat (go_big_quiet_step (first
            | (go_at_call 24; exact wl_call (S1.out _))
            | (go_at_call 19; exact wl_call (D1.out _))
            | (go_at_call_of 23 #[enV s]; exact wl_call (given_any s _))
            | (go_at_call_of 23 #[enV d]; exact wl_call (given_any d _))
            | (go_at_call 10; exact wl_call (AW.out _))))
          refine wpQuiet_nil ?_
          intro _ hw'
          obtain ⟨z, hw''⟩ := hw'
          subst hw''
          clear wne c0 c1 c2 c3 d0 d1 d2 d3
          obtain ⟨w3, h3⟩ := z
          dsimp only
          go_wp2
          go_ret
          exact ⟨rfl, hbl.trans h3⟩
theorem walk_VecSteps (va : Value) (xs : List En) (vb : Value) (ys : List En) (w : World) (ha : Rq 4 cellsN w va xs) (hb : Rq 4 cellsN w vb ys) :
    Calls Try.prog 5 #[va, vb] w fun e w' => e = .returned (.bool true) ∧ Bl w w' := by
  obtain ⟨p, cap, rfl, _, _⟩ := ha.cut
  obtain ⟨q, dap, rfl, _, _⟩ := hb.cut
  by_cases hl : xs.length ≤ 20
  · by_cases hm : ys.length ≤ 20
    · exact steps_main p q cap dap _ _ xs ys w ha hb rfl rfl hl hm
    · exact steps_out p q _ _ cap dap w (.inr ⟨by omega, by omega⟩)
  · exact steps_out p q _ _ cap dap w (.inl (by omega))
end Go.Proofs.Ytfbioinmgchdcaa
