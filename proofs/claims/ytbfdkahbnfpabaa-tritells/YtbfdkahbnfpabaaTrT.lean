/- The walk of TriTells. Written by genTt.py. -/
import Derived.Test.YtbfdkahbnfpabaaTrJ
namespace Go.Proofs.Ytbfdkahbnfpabaa
open Go.RowKit
set_option linter.unusedSimpArgs false
set_option linter.unusedVariables false

set_option maxRecDepth 100000 in
set_option maxHeartbeats 4000000 in
theorem walk_TriTells (va : Value) (xa : List Int) (rows cols : Int) (w : World) (ha : Rq 1 cI w va xa) :
    Calls Try.prog 3 #[va, .int .i64 rows, .int .i64 cols] w fun e w' => e = .returned (.bool true) ∧ Bl w w' := by
  have AW := hideP awake7_any
  have F1 := hideP (few6_any va xa w ha)
  obtain ⟨pa, ca, rfl, _, _⟩ := ha.cut
  obtain ⟨la, hla⟩ : ∃ la, la = xa.length := ⟨_, rfl⟩
  rw [← hla] at F1 ha ⊢
  have HA := hideP ha
  have HLA := hideP hla
  clear ha hla
  go_enter Try.func3, Try.ntmps3
  go_wp2_with fail
  refine F1.out.mono ?_
  rintro e w1 ⟨b1, rfl, hb1, rfl⟩
  clear F1
  cases b1 with
  | false =>
    go_wp2_with fail
    refine (AW.out _).mono ?_
    rintro e w9 ⟨rfl, h9⟩
    go_wp2
    go_ret
    exact ⟨rfl, (Bl.refl _).trans h9⟩
  | true =>
    obtain ⟨l1, s1⟩ := hb1 rfl
    have S1 := hideP s1
    clear hb1 s1
    cases hf1 : fitB rows cols la with
    | false =>
      go_wp2_with fail
      refine (mWholeF_no _ _ _ _ _ _ hf1).mono ?_
      rintro e w2 ⟨rfl, h2⟩
      have m2 := MBox.new w2 (0) (0) none 0 0 27
      obtain ⟨x0, x1, x2, _, _, _, lt2⟩ := id m2
      go_wp2_with fail
      refine (tClearF_no _ _ _ _ _ _ (show sqB 0 0 0 = false by decide)).mono ?_
      rintro e w3 ⟨rfl, h3⟩
      have m3 := MBox.new w3 0 0 none 0 0 27
      have b23 : Bl w2 w3 := ((Bl.refl _).alloc _).trans h3
      clear x0 x1 x2
      obtain ⟨x0, x1, x2, _, _, _, lt3⟩ := m2.later h3
      go_wp2_with fail
      refine (tSqF_no _ _ _ _ _ _ (show sqB 0 0 0 = false by decide)).mono ?_
      rintro e w4 ⟨rfl, h4⟩
      have m4 := MBox.new w4 0 0 none 0 0 27
      have b34 : Bl w3 w4 := ((Bl.refl _).alloc _).trans h4
      clear x0 x1 x2
      obtain ⟨x0, x1, x2, _, _, _, lt4⟩ := (m2.later h3).later b34
      go_wp2_with fail
      refine (tDiagF_no _ _ _ _ _ _ (show sqB 0 0 0 = false by decide)).mono ?_
      rintro e w5 ⟨rfl, h5⟩
      have b45 : Bl w4 w5 := ((Bl.refl _).alloc _).trans h5
      clear x0 x1 x2
      obtain ⟨x0, x1, x2, _, _, _, lt5⟩ := ((m2.later h3).later b34).later b45
      go_wp2_with fail
      refine (tIsF_no _ _ _ _ _ 14 _ (show sqB 0 0 0 = false by decide)).mono ?_
      rintro e w6 ⟨rfl, h6⟩
      clear x0 x1 x2
      obtain ⟨x0, x1, x2, _, _, _, lt6⟩ := (m3.later h4).later (b45.trans h6)
      go_wp2_with fail
      refine (same6_any 0 0 none 0 0 none 0 [] _ (.inl ⟨_, _, rfl, rfl, fun _ => rfl⟩) (.inl ⟨_, _, rfl, rfl, fun _ => rfl⟩) rfl (fun x hx => by simp at hx) (by omega)).mono ?_
      rintro e w7 ⟨rfl, h7⟩
      clear x0 x1 x2
      obtain ⟨x0, x1, x2, _, _, _, lt7⟩ := m4.later (h5.trans (h6.trans h7))
      go_wp2_with fail
      refine (same6_any 0 0 none 0 0 none 0 [] _ (.inl ⟨_, _, rfl, rfl, fun _ => rfl⟩) (.inl ⟨_, _, rfl, rfl, fun _ => rfl⟩) rfl (fun x hx => by simp at hx) (by omega)).mono ?_
      rintro e w8 ⟨rfl, h8⟩
      clear x0 x1 x2
      go_wp2_with fail
      refine (AW.out _).mono ?_
      rintro e w9 ⟨rfl, h9⟩
      go_wp2
      go_ret
      exact ⟨rfl, (((h2.trans b23).trans b34).trans b45).trans (h6.trans (h7.trans (h8.trans h9)))⟩
    | true =>
      obtain ⟨R, C, rfl, rfl, hdR, hnR⟩ := fitB_nat hf1
      have WH := hideP (fun u (hu : Bl w1 u) => whole6_call R C pa la ca xa u (HA.out.later hu) hf1 (by rw [← HLA.out]) S1.out)
      have HDR := hideP hdR
      have HNR := hideP hnR
      have hR16 := hdR.r2
      have hC16 := hdR.c2
      have hR1 := hdR.r1
      clear hf1 hdR hnR
      by_cases hRC : R = C
      · subst hRC
        have SMA := hideP (ofL_sml (R := R) (M := R) (by rw [← HLA.out]; exact HNR.out) S1.out)
        obtain ⟨fa, hfa⟩ : ∃ fa, fa = ofL R xa := ⟨_, rfl⟩
        rw [← hfa] at SMA
        have HFA := hideP hfa
        clear hfa
        go_wp2_with fail
        refine (WH.out _ (Bl.refl _)).mono ?_
        rintro e w2 ⟨p1, c1, rfl, hx, h2⟩
        rw [← HFA.out] at hx
        have HX := hideP hx
        clear hx WH
        obtain ⟨W2, hW2⟩ : ∃ W2, W2 = w2.alloc (.cells #[.int .i64 R, .int .i64 R, .slice p1 la c1] 27) := ⟨_, rfl⟩
        have b2 : Bl w2 W2 := by rw [hW2]; exact (Bl.refl _).alloc _
        have k2 := MBox.new w2 R R p1 la c1 27
        rw [← hW2] at k2
        go_wp2_with fail
        rw [← hW2]
        have HW2 := hideP hW2
        clear hW2
        refine (tClearF R p1 la c1 _ W2 (HX.out.later b2)).mono ?_
        rintro e w3 ⟨p3, c3, rfl, ⟨hc, _⟩, h3⟩
        have HC := hideP (show MxI w3 R R p3 la c3 (clrI fa) from hc.congr fun i k _ _ => clrF_it fa i k)
        clear hc
        obtain ⟨W3, hW3⟩ : ∃ W3, W3 = w3.alloc (.cells #[.int .i64 R, .int .i64 R, .slice p3 la c3] 27) := ⟨_, rfl⟩
        have b3 : Bl w3 W3 := by rw [hW3]; exact (Bl.refl _).alloc _
        have k3 := MBox.new w3 R R p3 la c3 27
        rw [← hW3] at k3
        obtain ⟨x0, x1, x2, _, _, _, lt3⟩ := k2.later (h3.trans b3)
        rw [hW3] at x0 x1 x2
        go_wp2_with fail
        rw [← hW3]
        have HW3 := hideP hW3
        clear hW3 x0 x1 x2
        refine (sq7_any R p1 la c1 fa W3 (HX.out.later (b2.trans (h3.trans b3))) SMA.out).mono ?_
        rintro e w4 ⟨p4, c4, rfl, hs, h4⟩
        have HS := hideP hs
        clear hs
        obtain ⟨W4, hW4⟩ : ∃ W4, W4 = w4.alloc (.cells #[.int .i64 R, .int .i64 R, .slice p4 la c4] 27) := ⟨_, rfl⟩
        have b4 : Bl w4 W4 := by rw [hW4]; exact (Bl.refl _).alloc _
        have k4 := MBox.new w4 R R p4 la c4 27
        rw [← hW4] at k4
        obtain ⟨x0, x1, x2, _, _, _, lt4⟩ := k2.later (h3.trans (b3.trans (h4.trans b4)))
        rw [hW4] at x0 x1 x2
        go_wp2_with fail
        rw [← hW4]
        have HW4 := hideP hW4
        clear hW4 x0 x1 x2
        have b24 : Bl W2 W4 := h3.trans (b3.trans (h4.trans b4))
        refine (tDiagF R p1 la c1 _ W4 (HX.out.later (b2.trans b24))).mono ?_
        rintro e w5 ⟨q5, c5, rfl, hr5, h5⟩
        have HR5 := hideP (rq_cells hr5.q)
        clear hr5
        have hB5 : Bl w1 w5 := (h2.trans (b2.trans (b24.trans h5)))
        have k25 := k2.later (b24.trans h5)
        have k35 := k3.later (h4.trans (b4.trans h5))
        have k45 := k4.later h5
        have HX5 := hideP (HX.out.later (b2.trans (b24.trans h5)))
        have HC5 := hideP (HC.out.later (b3.trans (h4.trans (b4.trans h5))))
        have HS5 := hideP (HS.out.later (b4.trans h5))
        clear HX HC HS k2 k3 k4 b24 h3 h4 h5 b2 b3 b4 h2
        by_cases h5R : R ≤ 5
        · have h5R' : ¬ ((R : Int) > 5) := by omega
          obtain ⟨g, o, hpa, CL⟩ : ∃ g o, pa = some ⟨g, o, none⟩ ∧ ∀ i k, i < R → k < R → ∀ u, Bl w5 u → u.cell? ⟨g, o + (i * R + k), none⟩ = some (.int .i64 (fa i k)) := by
            have h0 := ofL_get (R := R) (M := R) (ns := xa) (by rw [← HLA.out]; exact HNR.out) (show 0 < R by omega) (show 0 < R by omega)
            rcases HA.out with ⟨_, _, _, hn, _⟩ | ⟨b, o, cc, e, _, hlt, HXX⟩
            · rw [hn] at h0; simp at h0
            · cases e
              refine ⟨b, o, rfl, fun i k hi hk u hu => ?_⟩
              have hg := ofL_get (R := R) (M := R) (ns := xa) (by rw [← HLA.out]; exact HNR.out) hi hk
              rw [HFA.out]
              exact (bl_cell (hB5.trans hu) _ _ hlt).trans (cellI HXX hg (wr := w1))
          subst hpa
          have HCL := hideP CL
          have hd := HDR.out
          have hla25 : la ≤ 25 := by rw [HNR.out]; exact Nat.mul_le_mul h5R h5R
          clear CL
          go_wp2_with fail
          go_loopw [14, 83] (fun lv v wr => ∃ j : Nat, v = .int .i64 j ∧ j ≤ R ∧ lv = .bool (lowB7 fa R j) ∧ Bl w5 wr) (fun _ v _ => R - (intOf v).toNat)
          case atStart => exact ⟨0, rfl, Nat.zero_le _, rfl, Bl.refl _⟩
          case round =>
            obtain ⟨j, rfl, hj, rfl, bl⟩ := hrel
            by_cases hlt : j < R
            · obtain ⟨x, hx⟩ : ∃ x, x = itF (fa j j) := ⟨_, rfl⟩
              obtain ⟨b, ob, rfl, CX⟩ := HR5.out j x (by rw [hx]; simp [hlt])
              obtain ⟨a1, q1, e1, e2, hq1, hq3, hq5, hq6⟩ := place hd hlt hlt
              have CY := HCL.out j j hlt hlt
              rw [← e2] at CY
              rw [← HNR.out] at hq5
              obtain ⟨y, hy⟩ : ∃ y, y = fa j j := ⟨_, rfl⟩
              rw [← hy] at CY hx
              have hwy : Wh y := by have := SMA.out j j hlt hlt; rw [← hy] at this; exact ⟨by omega, by omega⟩
              have z0 := fun z : Wl wr => (CX z.w (bl.trans z.bl)).1
              have z1 := fun z : Wl wr => (CX z.w (bl.trans z.bl)).2.1
              have z2 := fun z : Wl wr => (CX z.w (bl.trans z.bl)).2.2
              have y0 := fun z : Wl wr => CY z.w (bl.trans z.bl)
              have NW := hideP (fun z : Wl wr => by have := new_few hwy z.w; rw [← hx] at this; exact this)
              have wne := wl_ne wr
              have ne1 := neq_selfV x
              clear CX CY hx hy hwy e1 e2
              obtain ⟨lb, hlb⟩ : ∃ lb, lb = lowB7 fa R j := ⟨_, rfl⟩
              rw [← hlb]
              have HLB := hideP hlb
              clear hlb
              go_wp2_with fail
              refine wl_region wr (Bl.refl _) (by kernel_rfl) (by kernel_rfl) ?_
              repeat (go_big_quiet_step (first | (go_at_call 16; exact wl_call (NW.out _))))
              refine wpQuiet_nil ?_
              intro _ hw'
              obtain ⟨z, hw''⟩ := hw'
              subst hw''
              clear wne z0 z1 z2 y0 ne1 NW hq1 hq3 hq5 hq6
              obtain ⟨w6, h6⟩ := z
              dsimp only
              have b6 := bl.trans h6
              go_wp2_with fail
              go_loopw [14, 16] (fun lv v wr' => ∃ k : Nat, v = .int .i64 k ∧ j < k ∧ k ≤ R ∧ lv = .bool (lb && rowB7 fa j k) ∧ Bl w6 wr') (fun _ v _ => R - (intOf v).toNat)
              case atStart => exact ⟨j + 1, by simp, by omega, hlt, by rw [rowB7_start, Bool.and_true], Bl.refl _⟩
              case round =>
                obtain ⟨k, rfl, hjk, hk, rfl, bl2⟩ := hrel
                by_cases hlt2 : k < R
                · have HRS := hideP (rowB7_succ fa hjk)
                  obtain ⟨a1, q1, e1, e2, hq1, hq3, hq5, hq6⟩ := place hd hlt hlt2
                  have cy := HCL.out j k hlt hlt2 wr (b6.trans bl2)
                  rw [← e2] at cy
                  rw [← HNR.out] at hq5
                  obtain ⟨y, hy⟩ : ∃ y, y = fa j k := ⟨_, rfl⟩
                  rw [← hy] at cy HRS
                  clear e1 e2 hy
                  cases hbb : (lb && rowB7 fa j k) with
                  | false =>
                    go_wp2
                    go_roundw
                    case rel => exact ⟨k + 1, by simp, by omega, hlt2, by rw [HRS.out, ← Bool.and_assoc, hbb, Bool.false_and], bl2⟩
                    case measure => simp [intOf]; omega
                  | true =>
                    go_wp2
                    go_roundw
                    case rel => exact ⟨k + 1, by simp, by omega, hlt2, by rw [HRS.out, ← Bool.and_assoc, hbb, Bool.true_and], bl2⟩
                    case measure => simp [intOf]; omega
                · obtain rfl : k = R := by omega
                  have HLS := hideP (lowB7_succ fa k j)
                  go_wp2_with fail
                  go_roundw
                  case rel => exact ⟨j + 1, by simp, hlt, by rw [HLS.out, ← HLB.out], b6.trans bl2⟩
                  case measure => simp [intOf]; omega
            · obtain rfl : j = R := by omega
              obtain ⟨lb, hlb⟩ : ∃ lb, lb = lowB7 fa j j := ⟨_, rfl⟩
              rw [← hlb]
              have HLB := hideP hlb
              clear hlb
              have kz2 := k25.later bl
              have kz3 := k35.later bl
              have kz4 := k45.later bl
              have hx9 := HX5.out.later bl
              have hc9 := HC5.out.later bl
              have hs9 := HS5.out.later bl
              have hla2 : xa.length = j * j := by rw [← HLA.out]; exact HNR.out
              have sm9 : Sm2 100 j j (clrI fa) := clrI_sm (by omega) SMA.out
              have SC := hideP (fun (u : World) (hu : Bl wr u) => (ref7Clear_any (some ⟨g, o, none⟩) la ca xa j u hd (HA.out.later (hB5.trans (bl.trans hu))) hla2 HNR.out).mono (R' := fun e w' => ∃ q c, e = .returned (.slice q la c) ∧ (∀ u', Bl w' u' → Calls Try.prog 15 #[mV j j p3 la c3, .int .i64 j, .int .i64 j, .slice q la c] u' fun e w3 => e = .returned (.bool true) ∧ Bl u' w3) ∧ Bl u w') (by
                rintro e w' ⟨q, c, rfl, hr, hb⟩
                rw [← HNR.out, ← HFA.out] at hr
                rw [← HNR.out]
                refine ⟨q, c, rfl, fun u' hu' => ?_, hb⟩
                exact same6_any j j p3 la c3 q c (mk j j (clrI fa)) u' (mxI_rq (hc9.later (hu.trans (hb.trans hu')))) (hr.later hu').q (by rw [mk_len, HNR.out]) (fun x hx => by have := mk_sml sm9 x hx; exact ⟨by omega, by omega⟩) (by omega)))
              have SQ := hideP (fun (u : World) (hu : Bl wr u) => (ref7Square_any (some ⟨g, o, none⟩) la ca xa j u hd (HA.out.later (hB5.trans (bl.trans hu))) hla2 HNR.out S1.out).mono (R' := fun e w' => ∃ q c, e = .returned (.slice q la c) ∧ (∀ u', Bl w' u' → Calls Try.prog 15 #[mV j j p4 la c4, .int .i64 j, .int .i64 j, .slice q la c] u' fun e w3 => e = .returned (.bool true) ∧ Bl u' w3) ∧ Bl u w') (by
                rintro e w' ⟨q, c, rfl, hr, hb⟩
                rw [← HNR.out, ← HFA.out] at hr
                rw [← HNR.out]
                refine ⟨q, c, rfl, fun u' hu' => ?_, hb⟩
                exact same6_any j j p4 la c4 q c (mk j j (sqI j fa)) u' (mxI_rq (hs9.later (hu.trans (hb.trans hu')))) (hr.later hu').q (by rw [mk_len, HNR.out]) (sqI_mk (by omega) SMA.out) (by omega)))
              have IM := hideP (fun (u : World) (hu : Bl wr u) => by
                have := tIsF j p1 la c1 _ 17 zeroN u (hx9.later hu) (enters_of Try.func17 (by kernel_rfl) rfl) (fun x u _ => zero2_any x u)
                rw [lowB7_above, ← HLB.out] at this
                exact this)
              have IC := hideP (fun (u : World) (hu : Bl wr u) => by
                have := tIsF j p3 la c3 _ 17 zeroN u (hc9.later hu) (enters_of Try.func17 (by kernel_rfl) rfl) (fun x u _ => zero2_any x u)
                rw [aboveB_low (clrI_low fa)] at this
                exact this)
              have KP := hideP (fun (u : World) (hu : Bl wr u) => (show u.cell? ⟨w3.heap.size, 0, none⟩ = some (.int .i64 j) ∧ u.cell? ⟨w3.heap.size, 1, none⟩ = some (.int .i64 j) ∧ u.cell? ⟨w3.heap.size, 2, none⟩ = some (.slice p3 la c3) ∧ u.cell? ⟨w4.heap.size, 0, none⟩ = some (.int .i64 j) ∧ u.cell? ⟨w4.heap.size, 1, none⟩ = some (.int .i64 j) ∧ u.cell? ⟨w4.heap.size, 2, none⟩ = some (.slice p4 la c4) ∧ u.cell? ⟨w2.heap.size, 0, none⟩ = some (.int .i64 j) ∧ u.cell? ⟨w2.heap.size, 1, none⟩ = some (.int .i64 j) ∧ u.cell? ⟨w2.heap.size, 2, none⟩ = some (.slice p1 la c1) ∧ Bl wr u from
                ⟨(kz3.later hu).c0, (kz3.later hu).c1, (kz3.later hu).c2, (kz4.later hu).c0, (kz4.later hu).c1, (kz4.later hu).c2, (kz2.later hu).c0, (kz2.later hu).c1, (kz2.later hu).c2, hu⟩))
              clear kz2 kz3 kz4 hx9 hc9 hs9 hla2 sm9 k25 k35 k45 HX5 HC5 HS5 HCL HR5 hd
              go_wp2_with fail
              go_region_held3 (fun u => u.cell? ⟨w3.heap.size, 0, none⟩ = some (.int .i64 j) ∧ u.cell? ⟨w3.heap.size, 1, none⟩ = some (.int .i64 j) ∧ u.cell? ⟨w3.heap.size, 2, none⟩ = some (.slice p3 la c3) ∧ u.cell? ⟨w4.heap.size, 0, none⟩ = some (.int .i64 j) ∧ u.cell? ⟨w4.heap.size, 1, none⟩ = some (.int .i64 j) ∧ u.cell? ⟨w4.heap.size, 2, none⟩ = some (.slice p4 la c4) ∧ u.cell? ⟨w2.heap.size, 0, none⟩ = some (.int .i64 j) ∧ u.cell? ⟨w2.heap.size, 1, none⟩ = some (.int .i64 j) ∧ u.cell? ⟨w2.heap.size, 2, none⟩ = some (.slice p1 la c1) ∧ Bl wr u) (exact KP.out _ (by repeat (first | exact Bl.refl _ | assumption | apply Bl.drew | apply Bl.alloc | (refine Bl.trans ?_ (by assumption)))))
                (first
                  | (go_at_call 18; refine (SC.out _ (by repeat (first | exact Bl.refl _ | assumption | apply Bl.drew | apply Bl.alloc | (refine Bl.trans ?_ (by assumption))))).mono ?_; rintro e w' ⟨qt, ct, rfl, hal, hbt⟩; have Hsc := hideP hal; clear hal)
                  | (go_at_call_of 15 (Value.slice p3 la c3); refine (Hsc.out _ (by repeat (first | exact Bl.refl _ | assumption | apply Bl.drew | apply Bl.alloc | (refine Bl.trans ?_ (by assumption))))).mono ?_; rintro e w' ⟨rfl, hba⟩)
                  | (go_at_call 19; refine (SQ.out _ (by repeat (first | exact Bl.refl _ | assumption | apply Bl.drew | apply Bl.alloc | (refine Bl.trans ?_ (by assumption))))).mono ?_; rintro e w' ⟨qu, cu, rfl, hmu, hbu⟩; have Hsq := hideP hmu; clear hmu)
                  | (go_at_call_of 15 (Value.slice p4 la c4); refine (Hsq.out _ (by repeat (first | exact Bl.refl _ | assumption | apply Bl.drew | apply Bl.alloc | (refine Bl.trans ?_ (by assumption))))).mono ?_; rintro e w' ⟨rfl, hbs⟩)
                  | (go_at_call_of 13 (Value.slice p1 la c1); refine (IM.out _ (by repeat (first | exact Bl.refl _ | assumption | apply Bl.drew | apply Bl.alloc | (refine Bl.trans ?_ (by assumption))))).mono ?_; rintro e w' ⟨rfl, hbi⟩)
                  | (go_at_call_of 13 (Value.slice p3 la c3); refine (IC.out _ (by repeat (first | exact Bl.refl _ | assumption | apply Bl.drew | apply Bl.alloc | (refine Bl.trans ?_ (by assumption))))).mono ?_; rintro e w' ⟨rfl, hbj⟩)
                  | (go_at_call 8; refine (AW.out _).mono ?_; rintro e w' ⟨rfl, hbw⟩))
              all_goals
                rename_i hh
                obtain ⟨_, _, _, _, _, _, _, _, _, hBV⟩ := hh
                go_wp2
                go_ret
                exact ⟨rfl, hB5.trans (bl.trans hBV)⟩
        · have h5R' : (R : Int) > 5 := by omega
          go_wp2_with fail
          refine (AW.out _).mono ?_
          rintro e w9 ⟨rfl, h9⟩
          go_wp2
          go_ret
          exact ⟨rfl, hB5.trans h9⟩
      · have hsq : sqB R C la = false := by unfold sqB; rw [Bool.and_eq_false_iff]; right; simp; omega
        have hne : ((R : Int) != (C : Int)) = true := by simp; omega
        go_wp2_with fail
        refine (WH.out _ (Bl.refl _)).mono ?_
        rintro e w2 ⟨p1, c1, rfl, hx, h2⟩
        clear hx WH
        have m2 := MBox.new w2 (R) (C) p1 la c1 27
        obtain ⟨x0, x1, x2, _, _, _, lt2⟩ := id m2
        go_wp2_with fail
        refine (tClearF_no _ _ _ _ _ _ hsq).mono ?_
        rintro e w3 ⟨rfl, h3⟩
        have m3 := MBox.new w3 0 0 none 0 0 27
        have b23 : Bl w2 w3 := ((Bl.refl _).alloc _).trans h3
        clear x0 x1 x2
        obtain ⟨x0, x1, x2, _, _, _, lt3⟩ := m2.later h3
        go_wp2_with fail
        refine (tSqF_no _ _ _ _ _ _ hsq).mono ?_
        rintro e w4 ⟨rfl, h4⟩
        have m4 := MBox.new w4 0 0 none 0 0 27
        have b34 : Bl w3 w4 := ((Bl.refl _).alloc _).trans h4
        clear x0 x1 x2
        obtain ⟨x0, x1, x2, _, _, _, lt4⟩ := (m2.later h3).later b34
        go_wp2_with fail
        refine (tDiagF_no _ _ _ _ _ _ hsq).mono ?_
        rintro e w5 ⟨rfl, h5⟩
        have b45 : Bl w4 w5 := ((Bl.refl _).alloc _).trans h5
        clear x0 x1 x2
        obtain ⟨x0, x1, x2, _, _, _, lt5⟩ := ((m2.later h3).later b34).later b45
        go_wp2_with fail
        refine (tIsF_no _ _ _ _ _ 14 _ hsq).mono ?_
        rintro e w6 ⟨rfl, h6⟩
        clear x0 x1 x2
        obtain ⟨x0, x1, x2, _, _, _, lt6⟩ := (m3.later h4).later (b45.trans h6)
        go_wp2_with fail
        refine (same6_any 0 0 none 0 0 none 0 [] _ (.inl ⟨_, _, rfl, rfl, fun _ => rfl⟩) (.inl ⟨_, _, rfl, rfl, fun _ => rfl⟩) rfl (fun x hx => by simp at hx) (by omega)).mono ?_
        rintro e w7 ⟨rfl, h7⟩
        clear x0 x1 x2
        obtain ⟨x0, x1, x2, _, _, _, lt7⟩ := m4.later (h5.trans (h6.trans h7))
        go_wp2_with fail
        refine (same6_any 0 0 none 0 0 none 0 [] _ (.inl ⟨_, _, rfl, rfl, fun _ => rfl⟩) (.inl ⟨_, _, rfl, rfl, fun _ => rfl⟩) rfl (fun x hx => by simp at hx) (by omega)).mono ?_
        rintro e w8 ⟨rfl, h8⟩
        clear x0 x1 x2
        go_wp2_with fail
        refine (AW.out _).mono ?_
        rintro e w9 ⟨rfl, h9⟩
        go_wp2
        go_ret
        exact ⟨rfl, (((h2.trans b23).trans b34).trans b45).trans (h6.trans (h7.trans (h8.trans h9)))⟩
end Go.Proofs.Ytbfdkahbnfpabaa
