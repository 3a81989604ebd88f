/- For every slice of ints and every two ints, HouseExact tells true: in fractions, where all roots are, the square of the triangle that Fold tells is the square of what was folded (P8.2). Conditions: none (every input). -/
import Derived.Test.YtafjmogkiohjgaaGE
import Derived.Test.YtafjmogkiohjgaaGD
import Derived.ProofKit
import Derived.OpenShut
import Derived.Carry
/- The walk of HouseExact. Written by genHe.py. -/
namespace Go.Proofs.Ytafjmogkiohjgaa
open Go.RowKit
set_option linter.unusedSimpArgs false
set_option linter.unusedVariables false

theorem idx8 {R j : Nat} (h : j < R * R) : ∃ i k, i < R ∧ k < R ∧ j = i * R + k := by
  have h0 : 0 < R := by
    rcases Nat.eq_zero_or_pos R with e | e
    · subst e; simp at h
    · exact e
  exact ⟨j / R, j % R, (Nat.div_lt_iff_lt_mul h0).2 h, Nat.mod_lt _ h0, by rw [Nat.mul_comm]; exact (Nat.div_add_mod j R).symm⟩
set_option maxRecDepth 100000 in
set_option maxHeartbeats 4000000 in
theorem walk_HouseExact (va : Value) (xa : List Int) (r c : Int) (w : World) (hal : Rq 1 cI w va xa ∧ xa.length ≤ 9223372036854775807) :
    Calls Try.prog 3 #[va, .int .i64 r, .int .i64 c] w fun e w' => e = .returned (.bool true) ∧ Bl w w' := by
  have fm : Try.prog.follows .mixedOrders = true := by kernel_rfl
  have egT := enters_of Try.func9 (by kernel_rfl) rfl
  have egM := enters_of Try.func8 (by kernel_rfl) rfl
  have AW := hideP awake8_any
  obtain ⟨ha, hlen⟩ := hal
  have HA := hideP ha
  rcases ha with ⟨p, cap, rfl, rfl, hpn⟩ | ⟨b, o, cap, rfl, hc, hb, hx⟩
  · have WN := hideP (mWholeF_no r c p 0 cap w (by
      cases hf : fitB r c (0 : Nat) with
      | false => rfl
      | true =>
        obtain ⟨R, C, _, _, hd, e⟩ := fitB_nat hf
        have := Mx.pos hd e
        omega))
    go_enter Try.func3, Try.ntmps3
    go_wp2_with fail
    go_loopw [20] (fun i wr => i = .int .i64 0 ∧ wr = w) (fun _ _ => 0)
    case atStart => exact ⟨rfl, rfl⟩
    case round =>
      obtain ⟨rfl, rfl⟩ := hrel
      go_wp2_with fail
      refine WN.out.mono ?_
      rintro e w1 ⟨rfl, h1⟩
      have bw : Bl wr (w1.alloc (.cells #[.int .i64 0, .int .i64 0, .slice none 0 0] 26)) := h1.alloc _
      go_wp2_with fail
      refine (AW.out _).mono ?_
      rintro e w99 ⟨rfl, h99⟩
      go_wp2
      go_ret
      exact ⟨rfl, bw.trans h99⟩
  · obtain ⟨la, hla⟩ : ∃ la, la = xa.length := ⟨_, rfl⟩
    rw [← hla] at hc hlen HA ⊢
    have HX0 := hideP hx
    have HLA := hideP hla
    clear hx hla
    go_enter Try.func3, Try.ntmps3
    go_wp2_with fail
    go_loopw [20] (fun i wr => ∃ k : Nat, i = .int .i64 k ∧ k ≤ la ∧ Sml 20 (xa.take k) ∧ wr = w) (fun i _ => la - (intOf i).toNat)
    case atStart => exact ⟨0, rfl, Nat.zero_le _, fun x hx => by simp at hx, rfl⟩
    case round =>
      obtain ⟨k, rfl, hk, hS, rfl⟩ := hrel
      have HS := hideP hS
      clear hS
      by_cases hlt : k < la
      · obtain ⟨x, hx⟩ : ∃ x, xa[k]? = some x := ⟨_, List.getElem?_eq_getElem (by rw [← HLA.out]; exact hlt)⟩
        have cx := cellI HX0.out hx (wr := wr)
        have HT := hideP (show xa.take (k + 1) = xa.take k ++ [x] by rw [List.take_add_one, hx]; rfl)
        clear hx
        by_cases h1 : x < -20
        · go_wp2_with fail
          refine (AW.out _).mono ?_
          rintro e w99 ⟨rfl, h99⟩
          go_wp2
          go_ret
          exact ⟨rfl, (Bl.refl _).trans h99⟩
        · by_cases h2 : 20 < x
          · go_wp2_with fail
            refine (AW.out _).mono ?_
            rintro e w99 ⟨rfl, h99⟩
            go_wp2
            go_ret
            exact ⟨rfl, (Bl.refl _).trans h99⟩
          · go_wp2
            go_roundw
            case rel =>
              refine ⟨k + 1, by simp, hlt, ?_, trivial⟩
              rw [HT.out]
              intro y hy
              rcases List.mem_append.1 hy with hy | hy
              · exact HS.out y hy
              · simp at hy; omega
            case measure => simp [intOf]; omega
      · have hk' : k = la := by omega
        subst hk'
        have hs20 : Sml 20 xa := by have := HS.out; rwa [HLA.out, List.take_length] at this
        cases hf : fitB r c k with
        | false =>
          have WN := hideP (mWholeF_no r c (some ⟨b, o, none⟩) k cap wr hf)
          go_wp2_with fail
          refine WN.out.mono ?_
          rintro e w1 ⟨rfl, h1⟩
          have bw : Bl wr (w1.alloc (.cells #[.int .i64 0, .int .i64 0, .slice none 0 0] 26)) := h1.alloc _
          go_wp2_with fail
          refine (AW.out _).mono ?_
          rintro e w99 ⟨rfl, h99⟩
          go_wp2
          go_ret
          exact ⟨rfl, bw.trans h99⟩
        | true =>
          obtain ⟨R, C, rfl, rfl, hd, hn⟩ := fitB_nat hf
          have WY := hideP (whole6_call R C (some ⟨b, o, none⟩) k cap xa wr HA.out hf HLA.out.symm (fun x hx => by have := hs20 x hx; omega))
          have HSM := hideP (show Sm2 20 R C (ofL C xa) from ofL_sml (by rw [← HLA.out, hn]) hs20)
          have hd4 := hd
          obtain ⟨r1, r2, q1, q2⟩ := hd
          have HDM := hideP hd4
          clear hd4 hn hf hs20 HS
          obtain ⟨la, rfl⟩ : ∃ la, la = k := ⟨_, rfl⟩
          go_wp2_with fail
          refine WY.out.mono ?_
          rintro e w1 ⟨p1, c1, rfl, hx1, h1⟩
          obtain ⟨f, hf⟩ : ∃ f : Nat → Nat → Fr, f = fun i k => itF (ofL C xa i k) := ⟨_, rfl⟩
          have HX := hideP (show Mx 3 cellsF w1 R C p1 la c1 f by rw [hf]; exact hx1)
          have HF := hideP hf
          have k1' := MBox.new w1 R C p1 la c1 26
          obtain ⟨W1, hW1⟩ : ∃ W1, W1 = w1.alloc (.cells #[.int .i64 R, .int .i64 C, .slice p1 la c1] 26) := ⟨_, rfl⟩
          have b1 : Bl w1 W1 := by rw [hW1]; exact (Bl.refl _).alloc _
          rw [← hW1] at k1'
          have HW1 := hideP hW1
          have B1 : Bl wr W1 := h1.trans b1
          clear hx1 hf hW1 WY
          rcases (by omega : 3 < R ∨ (R ≤ 3 ∧ 6 < C) ∨ (R ≤ 3 ∧ C ≤ 6 ∧ C < R) ∨ (R ≤ 3 ∧ C ≤ 6 ∧ R ≤ C)) with g1 | ⟨g1, g2⟩ | ⟨g1, g2, g3⟩ | ⟨g1, g2, g3⟩
          · go_wp2_with fail
            rw [← HW1.out]
            refine (AW.out _).mono ?_
            rintro e w99 ⟨rfl, h99⟩
            go_wp2
            go_ret
            exact ⟨rfl, B1.trans h99⟩
          · go_wp2_with fail
            rw [← HW1.out]
            refine (AW.out _).mono ?_
            rintro e w99 ⟨rfl, h99⟩
            go_wp2
            go_ret
            exact ⟨rfl, B1.trans h99⟩
          · go_wp2_with fail
            rw [← HW1.out]
            refine (AW.out _).mono ?_
            rintro e w99 ⟨rfl, h99⟩
            go_wp2
            go_ret
            exact ⟨rfl, B1.trans h99⟩
          · obtain ⟨rr, hrr⟩ : ∃ rr, rr = R * R := ⟨_, rfl⟩
            have HRR := hideP hrr
            have FO := hideP (hFoldAllF R C p1 la c1 f W1 (HX.out.later b1) g3)
            rw [← hrr] at FO
            clear hrr
            go_wp2_with fail
            rw [← HW1.out]
            refine FO.out.mono ?_
            rintro e w2 ⟨p2, c2, rfl, hx2, h2⟩
            have HS2 := hideP hx2
            have k1'' := k1'.later h2
            obtain ⟨W2, hW2⟩ : ∃ W2, W2 = w2.alloc (.cells #[.int .i64 R, .int .i64 R, .slice p2 rr c2] 26) := ⟨_, rfl⟩
            have b2 : Bl w2 W2 := by rw [hW2]; exact (Bl.refl _).alloc _
            have HW2 := hideP hW2
            clear hW2 hx2 FO
            go_wp2_with fail
            rw [← HW2.out]
            refine (tSqF R p2 rr c2 (foldF R C f) W2 (HS2.out.later b2)).mono ?_
            rintro e w3 ⟨p3, c3, rfl, ⟨hx3, _⟩, h3⟩
            have HP3 := hideP hx3
            have k3 := MBox.new w3 R R p3 rr c3 26
            obtain ⟨W4, hW4⟩ : ∃ W4, W4 = w3.alloc (.cells #[.int .i64 R, .int .i64 R, .slice p3 rr c3] 26) := ⟨_, rfl⟩
            have b34 : Bl w3 W4 := by rw [hW4]; exact (Bl.refl _).alloc _
            rw [← hW4] at k3
            have k1 := ((k1''.later b2).later h3).later b34
            have b14 : Bl w1 W4 := b1.trans (h2.trans (b2.trans (h3.trans b34)))
            have B4 : Bl wr W4 := h1.trans b14
            have HW4 := hideP hW4
            have rr9 : rr ≤ 9 := by rw [HRR.out]; exact Nat.mul_le_mul g1 g1
            obtain ⟨w, hww⟩ : ∃ w : World, w = wr := ⟨_, rfl⟩
            subst hww
            clear hW4 hx3 k1' k1''
            go_wp2_with fail
            rw [← HW4.out]
            refine (wpIn_wide (n := 8)).1 (region_q fm [some 66, some 67, some 68, some 69, some 65, some 70, some 71, some 15, none, some 16] (fun j => j == 6 || j == 9) 8 (by kernel_rfl) (by rfl)
          (fun j v u => match j with | 0 => v = mV R C p1 la c1 | 1 => v = mV R C p1 la c1 | 2 => ∃ q c, v = mV C R q la c ∧ Mx 3 cellsF u C R q la c (fun i k => f k i) | 3 => ∃ q c, v = .tuple #[mV R R q rr c, .bool true] ∧ Mx 3 cellsF u R R q rr c (mulMF C f (fun i k => f k i)) | 4 => ∃ q c, v = .tuple #[mV R R q rr c, .bool true] ∧ Mx 3 cellsF u R R q rr c (mulMF C f (fun i k => f k i)) | 5 => ∃ q c, v = mV R R q rr c ∧ Mx 3 cellsF u R R q rr c (mulMF C f (fun i k => f k i)) | 6 => v = .bool true | 7 => ∃ b, v = .pointer (some ⟨b, 0, none⟩) ∧ W4.heap.size ≤ b ∧ MBox u b 0 0 none 0 0 ∧ NoB u b | 9 => v = .bool true | _ => False)
          (by
          intro j v u u' hb h
          split at h <;> first | exact h | (obtain ⟨q, c, e, h1⟩ := h; exact ⟨q, c, e, h1.later hb⟩) | (obtain ⟨b, e, h1, h2, h3⟩ := h; exact ⟨b, e, h1, h2.later hb, h3.later hb h2.lt⟩)) (fun vs u0 u => ∃ b q c, vs 7 = .pointer (some ⟨b, 0, none⟩) ∧ MBox u b R R q rr c ∧ Mx 3 cellsF u R R q rr c (mulMF C f (fun i k => f k i)) ∧ Bl W4 u) ?step ?still ?store ?fin)
            case step =>
              intro j o t act u ho hdt hpu hsz hu hfr hin
              have hj : j < 10 := (Array.getElem?_eq_some_iff.1 ho).1
              obtain ⟨c0, c1', c2, _, _, _, _⟩ := k1.later hu
              rcases (by omega : j = 0 ∨ j = 1 ∨ j = 2 ∨ j = 3 ∨ j = 4 ∨ j = 5 ∨ j = 6 ∨ j = 7 ∨ j = 8 ∨ j = 9) with rfl | rfl | rfl | rfl | rfl | rfl | rfl | rfl | rfl | rfl
              · simp only [List.getElem?_toArray, List.getElem?_cons_zero, List.getElem?_cons_succ, Option.some.injEq] at ho
                subst ho
                obtain rfl := Option.some.inj hdt
                have i9 : act.eval (.tmp (9 : Nat)) = .pointer (some ⟨w1.heap.size, 0, none⟩) := hfr 9 (by decide)
                exact plain_wp (by intro c h; cases h) (fun _ _ => trivial) (by simp only [execOp, i9, evalC, evalF, evalG]; simp [go_sem, c0, c1', c2]) ⟨_, rfl, rfl, Bl.refl _⟩
              · simp only [List.getElem?_toArray, List.getElem?_cons_zero, List.getElem?_cons_succ, Option.some.injEq] at ho
                subst ho
                obtain rfl := Option.some.inj hdt
                have i9 : act.eval (.tmp (9 : Nat)) = .pointer (some ⟨w1.heap.size, 0, none⟩) := hfr 9 (by decide)
                exact plain_wp (by intro c h; cases h) (fun _ _ => trivial) (by simp only [execOp, i9, evalC, evalF, evalG]; simp [go_sem, c0, c1', c2]) ⟨_, rfl, rfl, Bl.refl _⟩
              · simp only [List.getElem?_toArray, List.getElem?_cons_zero, List.getElem?_cons_succ, Option.some.injEq] at ho
                subst ho
                obtain rfl := Option.some.inj hdt
                have i67 : (act.eval (.tmp (67 : Nat))) = mV R C p1 la c1 := hin ⟨1, .data⟩ (by simp) rfl 67 rfl
                refine enter_wp 9 #[mV R C p1 la c1] (by intro c h; cases h) (fun _ _ => trivial) (by simp only [execOp, evalC, evalF, evalG, resolve, i67, List.map_toArray, List.map_cons, List.map_nil]; simp [invoke, egT, Result.andThen, go_sem]) (by intro h; cases h) (callsIn_wide.2 (mTurnF R C p1 la c1 f u (HX.out.later (b14.trans hu)))) ?_
                rintro e w' ⟨q, c, rfl, ⟨hM, _, _⟩, hb⟩
                exact ⟨_, rfl, _, rfl, ⟨q, c, rfl, hM⟩, hb⟩
              · simp only [List.getElem?_toArray, List.getElem?_cons_zero, List.getElem?_cons_succ, Option.some.injEq] at ho
                subst ho
                obtain rfl := Option.some.inj hdt
                have i66 : (act.eval (.tmp (66 : Nat))) = mV R C p1 la c1 := hin ⟨0, .data⟩ (by simp) rfl 66 rfl
                have i68 : ∃ q c, (act.eval (.tmp (68 : Nat))) = mV C R q la c ∧ Mx 3 cellsF u C R q la c (fun i k => f k i) := hin ⟨2, .data⟩ (by simp) rfl 68 rfl
                obtain ⟨q0, c0', e1, hq⟩ := i68
                refine enter_wp 8 #[mV R C p1 la c1, mV C R q0 la c0'] (by intro c h; cases h) (fun _ _ => trivial) (by simp only [execOp, evalC, evalF, evalG, resolve, i66, e1, List.map_toArray, List.map_cons, List.map_nil]; simp [invoke, egM, Result.andThen, go_sem]) (by intro h; cases h) (callsIn_wide.2 (mMulF R C R p1 la c1 f q0 la c0' (fun i k => f k i) rr u (HX.out.later (b14.trans hu)) hq HRR.out)) ?_
                rintro e w' ⟨q, c, rfl, ⟨hM, _, _⟩, hb⟩
                exact ⟨_, rfl, _, rfl, ⟨q, c, rfl, hM⟩, hb⟩
              · simp only [List.getElem?_toArray, List.getElem?_cons_zero, List.getElem?_cons_succ, Option.some.injEq] at ho
                subst ho
                obtain rfl := Option.some.inj hdt
                have i69 : ∃ q c, (act.eval (.tmp (69 : Nat))) = .tuple #[mV R R q rr c, .bool true] ∧ Mx 3 cellsF u R R q rr c (mulMF C f (fun i k => f k i)) := hin ⟨3, .data⟩ (by simp) rfl 69 rfl
                obtain ⟨q0, c0', e1, hq⟩ := i69
                exact plain_wp (by intro c h; cases h) (fun _ _ => trivial) (by simp only [execOp, e1]; simp [go_sem]) ⟨_, rfl, ⟨q0, c0', rfl, hq⟩, Bl.refl _⟩
              · simp only [List.getElem?_toArray, List.getElem?_cons_zero, List.getElem?_cons_succ, Option.some.injEq] at ho
                subst ho
                obtain rfl := Option.some.inj hdt
                have i65 : ∃ q c, (act.eval (.tmp (65 : Nat))) = .tuple #[mV R R q rr c, .bool true] ∧ Mx 3 cellsF u R R q rr c (mulMF C f (fun i k => f k i)) := hin ⟨4, .data⟩ (by simp) rfl 65 rfl
                obtain ⟨q0, c0', e1, hq⟩ := i65
                exact plain_wp (by intro c h; cases h) (fun _ _ => trivial) (by simp only [execOp, e1]; simp [go_sem]) ⟨_, rfl, ⟨q0, c0', rfl, hq⟩, Bl.refl _⟩
              · cases hpu
              · simp only [List.getElem?_toArray, List.getElem?_cons_zero, List.getElem?_cons_succ, Option.some.injEq] at ho
                subst ho
                obtain rfl := Option.some.inj hdt
                exact plain_wp (by intro c h; cases h) (fun _ _ => trivial) (w' := u.alloc (.cells #[.int .i64 0, .int .i64 0, .slice none 0 0] 26)) (v := .pointer (some ⟨u.heap.size, 0, none⟩)) (by simp only [execOp]; simp [go_sem]) ⟨_, rfl, ⟨u.heap.size, rfl, hu.size, MBox.new u 0 0 none 0 0 _, noB_new u _⟩, (Bl.refl _).alloc _⟩
              · simp only [List.getElem?_toArray, List.getElem?_cons_zero, List.getElem?_cons_succ, Option.some.injEq] at ho
                subst ho
                cases hdt
              · cases hpu
            case still =>
              intro j o t act u0 u ho hdt hpu hsz hu hfr hin
              have hj : j < 10 := (Array.getElem?_eq_some_iff.1 ho).1
              obtain ⟨c0, c1', c2, _, _, _, _⟩ := k1.later hu
              rcases (by omega : j = 0 ∨ j = 1 ∨ j = 2 ∨ j = 3 ∨ j = 4 ∨ j = 5 ∨ j = 6 ∨ j = 7 ∨ j = 8 ∨ j = 9) with rfl | rfl | rfl | rfl | rfl | rfl | rfl | rfl | rfl | rfl
              · cases hpu
              · cases hpu
              · cases hpu
              · cases hpu
              · cases hpu
              · cases hpu
              · simp only [List.getElem?_toArray, List.getElem?_cons_zero, List.getElem?_cons_succ, Option.some.injEq] at ho
                subst ho
                obtain rfl := Option.some.inj hdt
                have i65 : ∃ q c, (act.eval (.tmp (65 : Nat))) = .tuple #[mV R R q rr c, .bool true] ∧ Mx 3 cellsF u0 R R q rr c (mulMF C f (fun i k => f k i)) := hin ⟨4, .data⟩ (by simp) rfl 65 rfl
                obtain ⟨q0, c0', e1, hq⟩ := i65
                exact plain_wp (by intro c h; cases h) (fun _ _ => trivial) (by simp only [execOp, e1]; simp [go_sem]) ⟨_, rfl, rfl, rfl⟩
              · cases hpu
              · cases hpu
              · simp only [List.getElem?_toArray, List.getElem?_cons_zero, List.getElem?_cons_succ, Option.some.injEq] at ho
                subst ho
                obtain rfl := Option.some.inj hdt
                have i71 : (act.eval (.tmp (71 : Nat))) = .bool true := hin ⟨6, .data⟩ (by simp) rfl 71 rfl
                exact plain_wp (by intro c h; cases h) (fun _ _ => trivial) (by simp only [execOp, i71, evalC, evalF, evalG]; simp [go_sem]) ⟨_, rfl, rfl, rfl⟩
            case store =>
              intro o act u vs ho hsz hu hfr hin
              simp only [List.getElem?_toArray, List.getElem?_cons_zero, List.getElem?_cons_succ, Option.some.injEq] at ho
              subst ho
              obtain ⟨i15, k15⟩ : act.eval (.tmp (15 : Nat)) = vs 7 ∧ (∃ b, (vs 7) = .pointer (some ⟨b, 0, none⟩) ∧ W4.heap.size ≤ b ∧ MBox u b 0 0 none 0 0 ∧ NoB u b) := hin 7 15 rfl rfl
              obtain ⟨i70, k70⟩ : act.eval (.tmp (70 : Nat)) = vs 5 ∧ (∃ q c, (vs 5) = mV R R q rr c ∧ Mx 3 cellsF u R R q rr c (mulMF C f (fun i k => f k i))) := hin 5 70 rfl rfl
              obtain ⟨b, e1, hb, bx, nb⟩ := k15
              obtain ⟨q0, c0', e2, hq⟩ := k70
              rw [e1] at i15
              rw [e2] at i70
              obtain ⟨c0, c1', c2, f0, f1, f2, ltb⟩ := id bx
              exact skip_wp (by intro c h; cases h) (fun _ _ => trivial) (by simp only [execOp, i15, i70]; simp [go_sem, c0, c1', c2, f0, f1, f2]) ⟨rfl, b, q0, c0', e1, bx.fill _ _ _ _ _, mx_ne7 hq (noB_mx boolF hq nb) _ _ _, Bl.put3 hu hb _ _ _⟩
            case fin =>
              intro vs vb u0 u hu hin hps
              have a0 := hin 0 66 rfl
              have a1 := hin 1 67 rfl
              have a2 := hin 2 68 rfl
              have a3 := hin 3 69 rfl
              have a4 := hin 4 65 rfl
              have a5 := hin 5 70 rfl
              have a6 := hin 6 71 rfl
              have a7 := hin 7 15 rfl
              have a9 := hin 9 16 rfl
              simp only [putL, Act.put, List.setIfInBounds_toArray, List.set_cons_zero, List.set_cons_succ, Nat.zero_add, Nat.reduceAdd, Nat.reduceBEq, Bool.or_false, Bool.or_true, Bool.false_or, Bool.true_or, Bool.false_eq_true, if_false, if_true, reduceIte, Nat.reduceEqDiff, beq_self_eq_true, Bool.or_self] at a0 a1 a2 a3 a4 a5 a6 a7 a9 ⊢
              rw [if_pos (by decide)] at hps
              simp only [a0, a1, a6, a9]
              obtain ⟨bq, q5, c5, e7, kq, hM5, h45⟩ := hps
              simp only [e7]
              clear a2 a3 a4 a5 a7
              have HQ5 := hideP hM5
              have kp := k3.later h45
              have hp5 := HP3.out.later (b34.trans h45)
              obtain ⟨bp, op, ep3, _, hbp, CP⟩ := hp5.cells
              subst ep3
              have HCP := hideP CP
              have BW5 : Bl w u := B4.trans h45
              clear hM5 CP
              obtain ⟨x0, x1, x2, _, _, _, ltx⟩ := id kp
              obtain ⟨y0, y1, y2, _, _, _, lty⟩ := id kq
              go_wp2_with fail
              go_loopw [81] (fun v wr => ∃ j : Nat, v = .int .i64 j ∧ j ≤ rr ∧ wr = u ∧ ∀ i k, i < R → k < R → i * R + k < j → (mirM (mulMF R (foldF R C f) (fun i k => foldF R C f k i)) i k).bad = false) (fun v _ => rr - (intOf v).toNat)
              case atStart => exact ⟨0, rfl, Nat.zero_le _, rfl, fun i k _ _ h => by omega⟩
              case round =>
                obtain ⟨j, rfl, hj, rfl, hall⟩ := hrel
                have HALL := hideP hall
                clear hall
                by_cases hlt : j < rr
                · obtain ⟨ji, jk, hji, hjk, hjj⟩ := idx8 (show j < R * R by rw [← HRR.out]; exact hlt)
                  obtain ⟨z, hz⟩ : ∃ z, z = mirM (mulMF R (foldF R C f) (fun i k => foldF R C f k i)) ji jk := ⟨_, rfl⟩
                  have cz : wr.cell? ⟨bp, op + j * 3 + 2, none⟩ = some (.bool z.bad) := by
                    have := HCP.out ji jk hji hjk 2 _ (by rw [← hz]; rfl)
                    rw [← hjj] at this
                    exact this
                  have HZ := hideP hz
                  have HJJ := hideP hjj
                  clear hz hjj
                  cases hb : z.bad with
                  | true =>
                    rw [hb] at cz
                    go_wp2_with fail
                    refine (AW.out _).mono ?_
                    rintro e w99 ⟨rfl, h99⟩
                    go_wp2
                    go_ret
                    exact ⟨rfl, BW5.trans h99⟩
                  | false =>
                    rw [hb] at cz
                    have HBF := hideP hb
                    clear hb
                    go_wp2
                    go_roundw
                    case rel =>
                      refine ⟨j + 1, by simp, hlt, trivial, fun i k hi hk h => ?_⟩
                      by_cases he : i * R + k < j
                      · exact HALL.out i k hi hk he
                      · obtain ⟨rfl, rfl⟩ := idx_inj7 hk hjk (show i * R + k = ji * R + jk by have := HJJ.out; omega)
                        rw [← HZ.out]; exact HBF.out
                    case measure => simp [intOf]; omega
                · obtain rfl : j = rr := by omega
                  have EX := hideP (show ∀ i k, i < R → k < R → mirM (mulMF R (foldF R C f) (fun i k => foldF R C f k i)) i k = mulMF C f (fun i k => f k i) i k from fun i k hi hk => by
                    have hal := fun i k hi hk => HALL.out i k hi hk (by rw [HRR.out]; exact mk_idx hi hk)
                    rw [HF.out] at hal ⊢
                    exact exact8 (by omega) (by omega) HSM.out hal hi hk)
                  have AL := hideP (alike_any R R (some ⟨bp, op, none⟩) q5 j c3 c5 (mk R R (mulMF C f (fun i k => f k i))) wr (by
                    rw [← mk_congr EX.out]
                    exact hp5.2.2) HQ5.out.2.2 (by rw [mk_len, ← HRR.out]) (by rw [HRR.out]; have := Nat.mul_le_mul (show R ≤ 16 by omega) (show R ≤ 16 by omega); omega))
                  go_wp2_with fail
                  refine AL.out.mono ?_
                  rintro e w6 ⟨rfl, h6⟩
                  go_wp2_with fail
                  refine (AW.out _).mono ?_
                  rintro e w99 ⟨rfl, h99⟩
                  go_wp2
                  go_ret
                  exact ⟨rfl, (BW5.trans h6).trans h99⟩
end Go.Proofs.Ytafjmogkiohjgaa

/- A slice of whole numbers as an argument: opened. -/
namespace Go.Proofs.Ytafjmogkiohjgaa
open Go.ChangeShapes Go.WideShapes Go.ChangeAt Go.RowKit
set_option linter.unusedVariables false

theorem Try.cellsInt : Try.prog.cellsOf 3 = 1 := by kernel_rfl
theorem cell_block_lt {W : World} {b o : Nat} {v : Value} (h : W.cell? ⟨b, o, none⟩ = some v) : b < W.heap.size := by
  rcases Nat.lt_or_ge b W.heap.size with h' | h'
  · exact h'
  · have : W.heap[b]? = none := Array.getElem?_eq_none h'
    simp [World.cell?, this] at h
set_option maxRecDepth 1000000 in
theorem open_row {H : Type} {enc : TypeId × Value → H} {W : World} {b0 : Nat} {v : Value} {d : DataW H} {p : List MemPlace}
    (hv : Value.okWide Try.prog W .any b0 22 v) (h : DataW.Trod enc Try.prog W 0 (fun _ => true) true 22 v d p) : ∃ ns : List Int, Rq 1 cI W v ns ∧ ∀ n ∈ ns, (Lit.int .i64 n).wf = true := by
  obtain ⟨a0, len, cap, rfl⟩ := okWide_slice Try.underlying22 hv
  obtain ⟨fuel, hf⟩ := h
  rcases open_ints Try.underlying22 Try.underlying3 Try.cellsInt hf with ⟨hcs, hx⟩ | ⟨a, len', cap', zs, hcs, _, hl, hm, hz, hx, hcell, hwz⟩
  · simp [Value.cells] at hcs
    obtain ⟨rfl, rfl, rfl⟩ := hcs
    exact ⟨[], .inl ⟨none, 0, rfl, rfl, fun _ => rfl⟩, fun n hn => by simp at hn⟩
  · simp [Value.cells] at hcs
    obtain ⟨rfl, rfl, rfl⟩ := hcs
    simp only [if_true] at hz
    refine ⟨zs.take len, ?_, fun n hn => hwz n (List.mem_of_mem_take hn)⟩
    by_cases h0 : len = 0
    · subst h0
      exact .inl ⟨some a, cap, rfl, by simp, nofun⟩
    · have c0 := hcell 0 (by omega)
      obtain ⟨b, off, rfl, hc⟩ := ints_at hcell (by omega)
      have hb : b < W.heap.size := by
        have := hc 0 (by omega)
        exact cell_block_lt this
      have hll : (zs.take len).length = len := by simp; omega
      refine .inr ⟨b, off, cap, by rw [hll], by omega, hb, fun j x hj k u hu => ?_⟩
      rcases k with _ | k
      · simp at hu
        subst hu
        have hj2 := (List.getElem?_eq_some_iff.1 hj).1
        have := hc j (by omega)
        rw [List.getElem?_take] at hj
        split at hj
        · have e : zs.getD j 0 = x := by simp [List.getD, hj]
          rw [e] at this
          simpa using this
        · cases hj
      · simp at hu
end Go.Proofs.Ytafjmogkiohjgaa

/- A slice of whole numbers as an argument, with a bound of its length: opened. -/
namespace Go.Proofs.Ytafjmogkiohjgaa
open Go.ChangeShapes Go.WideShapes Go.ChangeAt Go.RowKit
set_option linter.unusedVariables false

set_option maxRecDepth 1000000 in
theorem open_rowL {H : Type} {enc : TypeId × Value → H} {W : World} {b0 : Nat} {v : Value} {d : DataW H} {p : List MemPlace}
    (hv : Value.okWide Try.prog W .any b0 22 v) (h : DataW.Trod enc Try.prog W 0 (fun _ => true) true 22 v d p) : ∃ ns : List Int, (Rq 1 cI W v ns ∧ ns.length ≤ 9223372036854775807) ∧ ∀ n ∈ ns, (Lit.int .i64 n).wf = true := by
  obtain ⟨ns, hr, hw⟩ := open_row hv h
  refine ⟨ns, ⟨hr, ?_⟩, hw⟩
  obtain ⟨a0, len, cap, rfl⟩ := okWide_slice Try.underlying22 hv
  obtain ⟨p', cap', e, _, _⟩ := hr.cut
  obtain ⟨fuel, hf⟩ := h
  rcases open_ints Try.underlying22 Try.underlying3 Try.cellsInt hf with ⟨hcs, hx⟩ | ⟨a, len', cap'', zs, hcs, _, hl, hm, hz, hx, hcell, hwz⟩
  · simp [Value.cells] at hcs
    obtain ⟨rfl, rfl, rfl⟩ := hcs
    simp only [Value.slice.injEq] at e
    omega
  · simp [Value.cells] at hcs
    obtain ⟨rfl, rfl, rfl⟩ := hcs
    simp only [Value.slice.injEq] at e
    unfold maxLen at hm
    omega
end Go.Proofs.Ytafjmogkiohjgaa

/- For every slice of ints and every two ints, HouseExact tells true: in fractions, where all roots are, the square of the triangle that Fold tells is the square of what was folded (P8.2). Conditions: none (every input). -/
namespace Go.Proofs.Ytafjmogkiohjgaa
open Go.ChangeShapes Go.WideShapes Go.ChangeAt Go.RowKit
set_option linter.unusedVariables false

theorem own_HouseExact : ownKnob Try.prog.godebug = none := by kernel_rfl
theorem laid_HouseExact : laidOutB Try.prog = true := by kernel_rfl
set_option maxRecDepth 100000 in
theorem lifted_HouseExact (os : Os) (started : os.Started) (H : Type) (enc : TypeId × Value → H) :
    ReturnsInHanded {} Try.checked os 3 .any (Rows.houseExactSpec.pre6 enc Try.prog Try.f3 Rows.houseExactRow.domain false) (Rows.houseExactSpec.post enc Try.prog Try.f3 false true false false) := by
  refine returnsInHanded_of_change (C := Try.checked) own_HouseExact started (by kernel_rfl) Try.func3
    (ChangeSpec.witness6 (enc := enc) (C := Try.checked) false ⟨#[], #[.slice none 0 0, .int .i64 0, .int .i64 0], []⟩ 8 (by kernel_rfl) (by kernel_rfl) (by kernel_rfl) (by kernel_rfl)) ?_
  intro W base args ds gs before hval0 hW hcnd _
  have hval : ∀ (j : Nat) t v, Try.f3.params[j]? = some t → args[j]? = some v → Value.okWide Try.prog W .any base t v := hval0
  have hW' := hW
  obtain ⟨p, q, hA0, hV, rfl, hfz, hnd⟩ := hW
  have hA : DataW.TrodAll enc Try.prog W 0 (fun _ => true) true Try.f3.params.toList args.toList ds p := hA0
  rw [Try.params3] at hA hval
  obtain ⟨v0, vs0, d0, ds0, p0, q0, hargs, rfl, rfl, h0, r0⟩ := trodAll_cons hA
  obtain ⟨v1, vs1, d1, ds1, p1, q1, rfl, rfl, rfl, h1, r1⟩ := trodAll_cons r0
  obtain ⟨v2, vs2, d2, ds2, p2, q2, rfl, rfl, rfl, h2, r2⟩ := trodAll_cons r1
  obtain ⟨rfl, rfl, rfl⟩ := trodAll_nil r2
  obtain rfl : args = #[v0, v1, v2] := by cases args; simp_all
  obtain ⟨rfl, rfl⟩ := trodVars_none hV
  have hltA := fun x hx => hW'.lt x hx
  obtain ⟨a0, R0, w0⟩ := open_rowL (hval 0 22 v0 rfl rfl) h0
  obtain ⟨a1, e1, _, _, w1⟩ := open_int Try.underlying3 (hval 1 3 v1 rfl rfl) h1
  subst e1
  obtain ⟨a2, e2, _, _, w2⟩ := open_int Try.underlying3 (hval 2 3 v2 rfl rfl) h2
  subst e2
  clear hA0 hval0
  refine (walk_HouseExact v0 a0 a1 a2 W R0).mono fun e W' ⟨he, bel⟩ => ?_
  subst he
  exact ⟨_, rfl, _, _, _, [], _, [], hW', trodAll_mk1 (shut_bool Try.underlying4 _), (trodAll_cons_mk (Below.trod laid_HouseExact (by kernel_rfl) (of_decide_eq_true (by kernel_rfl)) h0 bel (fun x hx => by have := hltA x (by simp [hx]); simpa using this)) (trodAll_cons_mk (Below.trod laid_HouseExact (by kernel_rfl) (of_decide_eq_true (by kernel_rfl)) h1 bel (fun x hx => by have := hltA x (by simp [hx]); simpa using this)) (trodAll_cons_mk (Below.trod laid_HouseExact (by kernel_rfl) (of_decide_eq_true (by kernel_rfl)) h2 bel (fun x hx => by have := hltA x (by simp [hx]); simpa using this)) trodAll_mk0))), rfl, Below.frame bel _, fun h => by cases h⟩

theorem proved_HouseExact : Rows.HouseExactSaid :=
  OpenClaim.holds_of_wide 3 Try.f3 rfl rfl rfl rfl rfl rfl rfl ⟨rfl, rfl, rfl, rfl, rfl⟩ rfl rfl rfl rfl rfl (by kernel_rfl) Try.func3 (by kernel_rfl)
    (of_decide_eq_true (by kernel_rfl)) (by unfold Func.isWrapper; first | (rw [if_pos (by decide +kernel)]; kernel_rfl) | (rw [if_neg (by decide +kernel)]; exact ⟨rfl, rfl⟩))
    (fun os started H enc _ => lifted_HouseExact os started H enc)
#print axioms proved_HouseExact
end Go.Proofs.Ytafjmogkiohjgaa
