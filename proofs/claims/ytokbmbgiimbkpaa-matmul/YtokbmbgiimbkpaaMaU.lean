/- The walk of MatMul. Written by genMl.py. -/
import Derived.Test.YtokbmbgiimbkpaaMaI
import Derived.Test.YtokbmbgiimbkpaaMaR
namespace Go.Proofs.Ytokbmbgiimbkpaa
open Go.RowKit
set_option linter.unusedSimpArgs false
set_option linter.unusedVariables false

set_option maxRecDepth 100000 in
set_option maxHeartbeats 4000000 in
theorem walk_MatMul (va : Value) (xa : List Int) (vb : Value) (xb : List Int) (rows many cols : Int) (w : World) (ha : Rq 1 cI w va xa) (hb : Rq 1 cI w vb xb) :
    Calls Try.prog 4 #[va, vb, .int .i64 rows, .int .i64 many, .int .i64 cols] w fun e w' => e = .returned (.bool true) ∧ Bl w w' := by
  have AW := hideP awake6_any
  have F1 := hideP (few6_any va xa w ha)
  have F2 := hideP (few6_any vb xb w hb)
  obtain ⟨pa, ca, rfl, _, _⟩ := ha.cut
  obtain ⟨pb, cb, rfl, _, _⟩ := hb.cut
  obtain ⟨la, hla⟩ : ∃ la, la = xa.length := ⟨_, rfl⟩
  obtain ⟨lb, hlb⟩ : ∃ lb, lb = xb.length := ⟨_, rfl⟩
  rw [← hla] at F1 ha ⊢
  rw [← hlb] at F2 hb ⊢
  have HA := hideP ha
  have HB := hideP hb
  have HLA := hideP hla
  have HLB := hideP hlb
  clear ha hb hla hlb
  go_enter Try.func4, Try.ntmps4
  go_wp2_with fail
  refine F1.out.mono ?_
  rintro e w1 ⟨b1, rfl, hb1, rfl⟩
  clear F1
  cases b1 with
  | false =>
    go_wp2_with fail
    refine (AW.out _).mono ?_
    rintro e w9 ⟨rfl, h9⟩
    go_wp2
    go_ret
    exact ⟨rfl, (Bl.refl _).trans h9⟩
  | true =>
    obtain ⟨l1, s1⟩ := hb1 rfl
    have S1 := hideP s1
    clear hb1 s1
    go_wp2_with fail
    refine F2.out.mono ?_
    rintro e w1 ⟨b2, rfl, hb2, rfl⟩
    clear F2
    cases b2 with
    | false =>
      go_wp2_with fail
      refine (AW.out _).mono ?_
      rintro e w9 ⟨rfl, h9⟩
      go_wp2
      go_ret
      exact ⟨rfl, (Bl.refl _).trans h9⟩
    | true =>
      obtain ⟨l2, s2⟩ := hb2 rfl
      have S2 := hideP s2
      clear hb2 s2
      cases hf1 : fitB rows many la with
      | false =>
        cases hf2 : fitB many cols lb with
        | false =>
          go_wp2_with fail
          refine (mWholeF_no _ _ _ _ _ _ hf1).mono ?_
          rintro e w2 ⟨rfl, h2⟩
          have m1 := MBox.new w2 0 0 none 0 0 27
          go_wp2_with fail
          refine (mWholeF_no _ _ _ _ _ _ hf2).mono ?_
          rintro e w3 ⟨rfl, h3⟩
          obtain ⟨x0, x1, x2, _, _, _, lt⟩ := m1.later h3
          go_wp2_with fail
          refine (mMulF_no _ _ _ _ _ _ _ _ _ _ _ (.inl (by decide))).mono ?_
          rintro e w4 ⟨rfl, h4⟩
          clear x0 x1 x2
          go_wp2_with fail
          refine (same6_any 0 0 none 0 0 none 0 [] _ (.inl ⟨_, _, rfl, rfl, fun _ => rfl⟩) (.inl ⟨_, _, rfl, rfl, fun _ => rfl⟩) rfl (fun x hx => by simp at hx) (by omega)).mono ?_
          rintro e w5 ⟨rfl, h5⟩
          have hB : Bl w1 w5 := ((((h2.alloc _).trans h3).alloc _).trans (h4.alloc _)).trans h5
          go_wp2_with fail
          refine (AW.out _).mono ?_
          rintro e w9 ⟨rfl, h9⟩
          go_wp2
          go_ret
          exact ⟨rfl, hB.trans h9⟩
        | true =>
          obtain ⟨M, D, rfl, rfl, hd2, hn2⟩ := fitB_nat hf2
          clear hd2 hn2
          have C2 := hideP (fun u (hu : Bl w1 u) => whole6_call M D pb lb cb xb u (HB.out.later hu) hf2 HLB.out.symm S2.out)
          go_wp2_with fail
          refine (mWholeF_no _ _ _ _ _ _ hf1).mono ?_
          rintro e w2 ⟨rfl, h2⟩
          have m1 := MBox.new w2 0 0 none 0 0 27
          go_wp2_with fail
          refine (C2.out _ (h2.alloc _)).mono ?_
          rintro e w3 ⟨p2, c2, rfl, hy, h3⟩
          clear hy
          obtain ⟨x0, x1, x2, _, _, _, lt⟩ := m1.later h3
          go_wp2_with fail
          refine (mMulF_no _ _ _ _ _ _ _ _ _ _ _ (.inl (by decide))).mono ?_
          rintro e w4 ⟨rfl, h4⟩
          clear x0 x1 x2
          go_wp2_with fail
          refine (same6_any 0 0 none 0 0 none 0 [] _ (.inl ⟨_, _, rfl, rfl, fun _ => rfl⟩) (.inl ⟨_, _, rfl, rfl, fun _ => rfl⟩) rfl (fun x hx => by simp at hx) (by omega)).mono ?_
          rintro e w5 ⟨rfl, h5⟩
          have hB : Bl w1 w5 := ((((h2.alloc _).trans h3).alloc _).trans (h4.alloc _)).trans h5
          go_wp2_with fail
          refine (AW.out _).mono ?_
          rintro e w9 ⟨rfl, h9⟩
          go_wp2
          go_ret
          exact ⟨rfl, hB.trans h9⟩
      | true =>
        obtain ⟨R, M, rfl, rfl, hdR, hnR'⟩ := fitB_nat hf1
        have HNR := hideP hnR'
        clear hnR'
        have C1 := hideP (whole6_call R M pa la ca xa w1 HA.out hf1 HLA.out.symm S1.out)
        cases hf2 : fitB M cols lb with
        | false =>
          go_wp2_with fail
          refine C1.out.mono ?_
          rintro e w2 ⟨p1, c1, rfl, hx, h2⟩
          have HX := hideP hx
          clear hx
          have m1 := MBox.new w2 R M p1 la c1 27
          go_wp2_with fail
          refine (mWholeF_no _ _ _ _ _ _ hf2).mono ?_
          rintro e w3 ⟨rfl, h3⟩
          obtain ⟨x0, x1, x2, _, _, _, lt⟩ := m1.later h3
          go_wp2_with fail
          refine (mMulF_no _ _ _ _ _ _ _ _ _ _ _ (.inr (.inl (by decide)))).mono ?_
          rintro e w4 ⟨rfl, h4⟩
          clear x0 x1 x2
          go_wp2_with fail
          refine (same6_any 0 0 none 0 0 none 0 [] _ (.inl ⟨_, _, rfl, rfl, fun _ => rfl⟩) (.inl ⟨_, _, rfl, rfl, fun _ => rfl⟩) rfl (fun x hx => by simp at hx) (by omega)).mono ?_
          rintro e w5 ⟨rfl, h5⟩
          have hB : Bl w1 w5 := ((((h2.alloc _).trans h3).alloc _).trans (h4.alloc _)).trans h5
          go_wp2_with fail
          refine (AW.out _).mono ?_
          rintro e w9 ⟨rfl, h9⟩
          go_wp2
          go_ret
          exact ⟨rfl, hB.trans h9⟩
        | true =>
          obtain ⟨M', D, hM', rfl, hdD, hnD⟩ := fitB_nat hf2
          have hnR := HNR.out
          obtain rfl : M = M' := by omega
          have sm1 := ofL_sml (R := R) (M := M) (ns := xa) (by rw [← HLA.out]; exact hnR) S1.out
          have sm2 := ofL_sml (R := M) (M := D) (ns := xb) (by rw [← HLB.out]; exact hnD) S2.out
          have C2 := hideP (fun u (hu : Bl w1 u) => whole6_call M D pb lb cb xb u (HB.out.later hu) hf2 HLB.out.symm S2.out)
          obtain ⟨N, hN⟩ : ∃ N, N = R * D := ⟨_, rfl⟩
          have hN256 : N ≤ 256 := by rw [hN]; exact Nat.mul_le_mul hdR.r2 hdD.c2
          have RM := hideP (fun u (hu : Bl w1 u) => ref6Mul_any pa pb la ca lb cb xa xb R M D u hdR hdD (HA.out.later hu) (HB.out.later hu) (by rw [← HLA.out]; exact hnR) (by rw [← HLB.out]; exact hnD) hnR hnD S1.out S2.out)
          have SM := hideP (And.intro sm1 sm2)
          have HDD := hideP (And.intro hdR hdD)
          have HN := hideP hN
          clear sm1 sm2 hdR hdD hnR hnD hM' hN
          generalize ofL M xa = fa at *
          generalize ofL D xb = fb at *
          go_wp2_with fail
          refine C1.out.mono ?_
          rintro e w2 ⟨p1, c1, rfl, hx, h2⟩
          have HX := hideP hx
          clear hx C1
          have m1 := MBox.new w2 R M p1 la c1 27
          go_wp2_with fail
          refine (C2.out _ (h2.alloc _)).mono ?_
          rintro e w3 ⟨p2, c2, rfl, hy, h3⟩
          have HY := hideP hy
          clear hy C2
          have b23 : Bl w2 w3 := ((Bl.refl w2).alloc _).trans h3
          obtain ⟨x0, x1, x2, _, _, _, lt⟩ := m1.later h3
          go_wp2_with fail
          refine (mul6_any (A := 100) (B := 100) R M D p1 la c1 fa p2 lb c2 fb N _ (HX.out.later (b23.alloc _)) (HY.out.later ((Bl.refl _).alloc _)) HN.out SM.out.1 SM.out.2 (by omega) (by omega) (by omega)).mono ?_
          rintro e w4 ⟨p3, c3, rfl, hz, h4⟩
          have HZ := hideP hz
          clear hz x0 x1 x2
          have b34 : Bl w3 w4 := ((Bl.refl w3).alloc _).trans h4
          have m3 := MBox.new w4 R D p3 N c3 27
          obtain ⟨x0, x1, x2, _, _, _, lt4⟩ := (m1.later h3).later b34
          go_wp2_with fail
          by_cases hRM : R = M
          · subst hRM
            refine (mul6_any (A := 100) (B := 100) R R R p1 la c1 fa p1 la c1 fa la _ (HX.out.later ((b23.trans b34).alloc _)) (HX.out.later ((b23.trans b34).alloc _)) HX.out.2.1 SM.out.1 SM.out.1 (by omega) (by omega) (by omega)).mono ?_
            rintro e w5 ⟨p5, c5, rfl, h55, h5⟩
            clear h55
            have b45 : Bl w4 w5 := ((Bl.refl w4).alloc _).trans h5
            have hB5 : Bl w1 w5 := (h2.trans (b23.trans b34)).trans b45
            clear x0 x1 x2
            go_wp2_with fail
            obtain ⟨V, hV⟩ : ∃ V, V = w5.alloc (.cells #[.int .i64 R, .int .i64 R, .slice p5 la c5] 27) := ⟨_, rfl⟩
            have b5V : Bl w5 V := by rw [hV]; exact (Bl.refl _).alloc _
            rw [← hV]
            clear hV
            have KP := hideP (fun (u : World) (hu : Bl V u) => (show u.cell? ⟨w4.heap.size, 0, none⟩ = some (.int .i64 R) ∧ u.cell? ⟨w4.heap.size, 1, none⟩ = some (.int .i64 D) ∧ u.cell? ⟨w4.heap.size, 2, none⟩ = some (.slice p3 N c3) ∧ Bl V u from ⟨(((m3.later h5).later b5V).later hu).c0, (((m3.later h5).later b5V).later hu).c1, (((m3.later h5).later b5V).later hu).c2, hu⟩))
            have SA := hideP (fun (u : World) (hu : Bl V u) => (RM.out u (hB5.trans (b5V.trans hu))).mono (R' := fun e w' => ∃ p cap, e = .returned (.slice p N cap) ∧ (∀ u', Bl w' u' → Calls Try.prog 14 #[mV R D p3 N c3, .int .i64 R, .int .i64 D, .slice p N cap] u' fun e w'' => e = .returned (.bool true) ∧ Bl u' w'') ∧ Bl u w') (by
              rintro e w' ⟨p, cap, rfl, hr, hb'⟩
              rw [← HN.out] at hr ⊢
              refine ⟨p, cap, rfl, fun u' hu' => ?_, hb'⟩
              refine same6_any R D p3 N c3 p cap (mk R D (mulI R fa fb)) u' (by rw [mk_map]; exact (HZ.out.later (b45.trans (b5V.trans (hu.trans (hb'.trans hu'))))).2.2) ((hr.later hu').q) (by rw [mk_len, HN.out]) (fun x hx => ?_) (by omega)
              have := mk_sml (A := 160000) (fun i k hi hk => by have := mulI_bound (A := 100) (B := 100) (by omega) (by omega) SM.out.1 SM.out.2 hi hk R (Nat.le_refl _); have := HDD.out.1.c2; constructor <;> omega) x hx
              exact ⟨by omega, by omega⟩))
            clear RM
            go_region_held3 (fun w' => w'.cell? ⟨w4.heap.size, 0, none⟩ = some (.int .i64 R) ∧ w'.cell? ⟨w4.heap.size, 1, none⟩ = some (.int .i64 D) ∧ w'.cell? ⟨w4.heap.size, 2, none⟩ = some (.slice p3 N c3) ∧ Bl V w') (exact KP.out _ (by repeat (first | exact Bl.refl _ | apply Bl.drew | (refine Bl.trans ?_ (by assumption)))))
              (first
                | (go_at_call 21; refine (SA.out _ (by repeat (first | exact Bl.refl _ | apply Bl.drew | (refine Bl.trans ?_ (by assumption))))).mono ?_; rintro e w' ⟨pr, cr, rfl, hsame, _⟩; have Hsame := hideP hsame)
                | (go_at_call 14; refine (Hsame.out _ (by repeat (first | exact Bl.refl _ | apply Bl.drew | (refine Bl.trans ?_ (by assumption))))).mono ?_; rintro e w' ⟨rfl, _⟩)
                | (go_at_call 11; refine (AW.out _).mono ?_; rintro e w' ⟨rfl, _⟩))
            rename_i hh
            obtain ⟨_, _, _, hBV⟩ := hh
            go_wp2
            go_ret
            exact ⟨rfl, (hB5.trans b5V).trans hBV⟩
          · have hne : ((R : Int) == (M : Int)) = false := by simp; omega
            refine (mMulF_no _ _ _ _ _ _ _ _ _ _ _ (.inr (.inr (by omega)))).mono ?_
            rintro e w5 ⟨rfl, h5⟩
            have b45 : Bl w4 w5 := ((Bl.refl w4).alloc _).trans h5
            have hB5 : Bl w1 w5 := (h2.trans (b23.trans b34)).trans b45
            clear x0 x1 x2
            go_wp2_with fail
            obtain ⟨V, hV⟩ : ∃ V, V = w5.alloc (.cells #[.int .i64 0, .int .i64 0, .slice none 0 0] 27) := ⟨_, rfl⟩
            have b5V : Bl w5 V := by rw [hV]; exact (Bl.refl _).alloc _
            rw [← hV]
            clear hV
            have KP := hideP (fun (u : World) (hu : Bl V u) => (show u.cell? ⟨w4.heap.size, 0, none⟩ = some (.int .i64 R) ∧ u.cell? ⟨w4.heap.size, 1, none⟩ = some (.int .i64 D) ∧ u.cell? ⟨w4.heap.size, 2, none⟩ = some (.slice p3 N c3) ∧ Bl V u from ⟨(((m3.later h5).later b5V).later hu).c0, (((m3.later h5).later b5V).later hu).c1, (((m3.later h5).later b5V).later hu).c2, hu⟩))
            have SA := hideP (fun (u : World) (hu : Bl V u) => (RM.out u (hB5.trans (b5V.trans hu))).mono (R' := fun e w' => ∃ p cap, e = .returned (.slice p N cap) ∧ (∀ u', Bl w' u' → Calls Try.prog 14 #[mV R D p3 N c3, .int .i64 R, .int .i64 D, .slice p N cap] u' fun e w'' => e = .returned (.bool true) ∧ Bl u' w'') ∧ Bl u w') (by
              rintro e w' ⟨p, cap, rfl, hr, hb'⟩
              rw [← HN.out] at hr ⊢
              refine ⟨p, cap, rfl, fun u' hu' => ?_, hb'⟩
              refine same6_any R D p3 N c3 p cap (mk R D (mulI M fa fb)) u' (by rw [mk_map]; exact (HZ.out.later (b45.trans (b5V.trans (hu.trans (hb'.trans hu'))))).2.2) ((hr.later hu').q) (by rw [mk_len, HN.out]) (fun x hx => ?_) (by omega)
              have := mk_sml (A := 160000) (fun i k hi hk => by have := mulI_bound (A := 100) (B := 100) (by omega) (by omega) SM.out.1 SM.out.2 hi hk M (Nat.le_refl _); have := HDD.out.1.c2; constructor <;> omega) x hx
              exact ⟨by omega, by omega⟩))
            clear RM
            go_region_held3 (fun w' => w'.cell? ⟨w4.heap.size, 0, none⟩ = some (.int .i64 R) ∧ w'.cell? ⟨w4.heap.size, 1, none⟩ = some (.int .i64 D) ∧ w'.cell? ⟨w4.heap.size, 2, none⟩ = some (.slice p3 N c3) ∧ Bl V w') (exact KP.out _ (by repeat (first | exact Bl.refl _ | apply Bl.drew | (refine Bl.trans ?_ (by assumption)))))
              (first
                | (go_at_call 21; refine (SA.out _ (by repeat (first | exact Bl.refl _ | apply Bl.drew | (refine Bl.trans ?_ (by assumption))))).mono ?_; rintro e w' ⟨pr, cr, rfl, hsame, _⟩; have Hsame := hideP hsame)
                | (go_at_call 14; refine (Hsame.out _ (by repeat (first | exact Bl.refl _ | apply Bl.drew | (refine Bl.trans ?_ (by assumption))))).mono ?_; rintro e w' ⟨rfl, _⟩)
                | (go_at_call 11; refine (AW.out _).mono ?_; rintro e w' ⟨rfl, _⟩))
            rename_i hh
            obtain ⟨_, _, _, hBV⟩ := hh
            go_wp2
            go_ret
            exact ⟨rfl, (hB5.trans b5V).trans hBV⟩
end Go.Proofs.Ytokbmbgiimbkpaa
