/- TriClears: cleared twice is cleared once; a triangle is left as it is; its diagonal stays (of 5 by 5 at most, numbers from -100 up to 100). Conditions: none (every input). -/
import Derived.Test.YtbfdkahbnfpabaaGU
import Derived.Test.YtbfdkahbnfpabaaVeI
import Derived.ProofKit
import Derived.OpenShut
import Derived.Carry
/- The walk of TriClears. Written by genTw.py. -/
namespace Go.Proofs.Ytbfdkahbnfpabaa
open Go.RowKit
set_option linter.unusedSimpArgs false
set_option linter.unusedVariables false

set_option maxRecDepth 100000 in
set_option maxHeartbeats 4000000 in
theorem walk_TriClears (va : Value) (xa : List Int) (n : Int) (w : World) (ha : Rq 1 cI w va xa) :
    Calls Try.prog 5 #[va, .int .i64 n] w fun e w' => e = .returned (.bool true) ∧ Bl w w' := by
  have AW := hideP awake7_any
  have F1 := hideP (sides_any va xa n w ha)
  obtain ⟨pa, ca, rfl, _, _⟩ := ha.cut
  obtain ⟨la, hla⟩ : ∃ la, la = xa.length := ⟨_, rfl⟩
  rw [← hla] at F1 ha ⊢
  have HA := hideP ha
  have HLA := hideP hla
  clear ha hla
  go_enter Try.func5, Try.ntmps5
  go_wp2_with fail
  refine F1.out.mono ?_
  rintro e w1 ⟨b1, rfl, hb1, rfl⟩
  clear F1
  cases b1 with
  | false =>
    go_wp2_with fail
    refine (AW.out _).mono ?_
    rintro e w9 ⟨rfl, h9⟩
    go_wp2
    go_ret
    exact ⟨rfl, (Bl.refl _).trans h9⟩
  | true =>
    obtain ⟨n1, n5, hl, s1⟩ := hb1 rfl
    clear hb1
    obtain ⟨m, rfl⟩ := Int.eq_ofNat_of_zero_le (show 0 ≤ n by omega)
    have hl2 : xa.length = m * m := by rw [← Int.natCast_mul] at hl; omega
    have hd : Dim m m := ⟨by omega, by omega, by omega, by omega⟩
    have hlam : la = m * m := by rw [HLA.out]; exact hl2
    have hfit : fitB m m la = true := fitB_dim hd hlam
    have WH := hideP (fun u (hu : Bl w1 u) => whole6_call m m pa la ca xa u (HA.out.later hu) hfit (by rw [← HLA.out]) s1)
    have SMA := hideP (ofL_sml hl2 s1)
    have HLM := hideP hlam
    have HL2 := hideP hl2
    have HD := hideP hd
    have S1 := hideP s1
    have m5 : m ≤ 5 := by omega
    have m1' : 1 ≤ m := by omega
    have hN25 : la ≤ 25 := by rw [hlam]; exact Nat.mul_le_mul m5 m5
    clear hl hl2 hd hlam hfit s1 n1 n5
    go_wp2_with fail
    refine (WH.out _ (Bl.refl _)).mono ?_
    rintro e w2 ⟨p1, c1, rfl, hx, h2⟩
    have HX := hideP hx
    clear hx WH
    have mx := MBox.new w2 m m p1 la c1 27
    obtain ⟨f, hf⟩ : ∃ f : Nat → Nat → Fr, f = fun i k => itF (ofL m xa i k) := ⟨_, rfl⟩
    have hx := HX.out
    rw [show MxI w2 m m p1 la c1 (ofL m xa) = Mx 3 cellsF w2 m m p1 la c1 (fun i k => itF (ofL m xa i k)) from rfl, ← hf] at hx
    have HX2 := hideP hx
    clear hx hf HX mx
    obtain ⟨W2, hW2⟩ : ∃ W2, W2 = w2.alloc (.cells #[.int .i64 m, .int .i64 m, .slice p1 la c1] 27) := ⟨_, rfl⟩
    have b2 : Bl w2 W2 := by rw [hW2]; exact (Bl.refl _).alloc _
    have k2 := MBox.new w2 m m p1 la c1 27
    rw [← hW2] at k2
    go_wp2_with fail
    rw [← hW2]
    have HW2 := hideP hW2
    clear hW2
    refine (tClearF m p1 la c1 f W2 (HX2.out.later b2)).mono ?_
    rintro e w3 ⟨p3, c3, rfl, ⟨hc, _⟩, h3⟩
    have HC := hideP hc
    clear hc
    obtain ⟨W3, hW3⟩ : ∃ W3, W3 = w3.alloc (.cells #[.int .i64 m, .int .i64 m, .slice p3 la c3] 27) := ⟨_, rfl⟩
    have b3 : Bl w3 W3 := by rw [hW3]; exact (Bl.refl _).alloc _
    have k3 := MBox.new w3 m m p3 la c3 27
    rw [← hW3] at k3
    go_wp2_with fail
    rw [← hW3]
    have HW3 := hideP hW3
    clear hW3
    refine (tClearF m p3 la c3 _ W3 (HC.out.later b3)).mono ?_
    rintro e w4 ⟨p4, c4, rfl, ⟨hd, _⟩, h4⟩
    have HDD := hideP (hd.congr (fun i k _ _ => (show clrF (clrF f) i k = clrF f i k by unfold clrF; split <;> rfl)))
    clear hd
    obtain ⟨W4, hW4⟩ : ∃ W4, W4 = w4.alloc (.cells #[.int .i64 m, .int .i64 m, .slice p4 la c4] 27) := ⟨_, rfl⟩
    have b4 : Bl w4 W4 := by rw [hW4]; exact (Bl.refl _).alloc _
    have k4 := MBox.new w4 m m p4 la c4 27
    rw [← hW4] at k4
    have fm : Try.prog.follows .mixedOrders = true := by kernel_rfl
    have egD := enters_of Try.func12 (by kernel_rfl) rfl
    obtain ⟨DL, hDL⟩ : ∃ DL, DL = (List.range m).map (fun i => f i i) := ⟨_, rfl⟩
    have hDL2 : (List.range m).map (fun i => clrF f i i) = DL := by rw [hDL]; exact List.map_congr_left fun i _ => by unfold clrF; rw [if_pos (Nat.le_refl _)]
    have hDl : DL.length = m := by rw [hDL]; simp
    have b24 : Bl W2 W4 := h3.trans (b3.trans (h4.trans b4))
    have b34 : Bl W3 W4 := h4.trans b4
    have k2' := k2.later b24
    have k3' := k3.later b34
    have hx4 := HX2.out.later (b2.trans b24)
    have hc4 := HC.out.later (b3.trans b34)
    have DI1 := hideP (fun u (hu : Bl W4 u) => tDiagF m p1 la c1 f u (hx4.later hu))
    have DI2 := hideP (fun u (hu : Bl W4 u) => tDiagF m p3 la c3 (clrF f) u (hc4.later hu))
    rw [hDL2] at DI2
    rw [← hDL] at DI1
    have HC4 := hideP hc4
    have HL := hideP hDl
    clear hx4 hc4 HX2 HC hDL hDL2 hDl
    go_wp2_with fail
    rw [← hW4]
    have HW4 := hideP hW4
    clear hW4
    refine (wpIn_wide (n := 8)).1 (region_q fm [some 36, some 37, some 38, some 39, some 11, some 12] (fun _ => false) 6 (by kernel_rfl) (by rfl)
      (fun j v u => match j with | 0 => v = mV m m p1 la c1 | 1 => ∃ q c, v = .slice q m c ∧ Rw 3 cellsF u (.slice q m c) DL | 2 => v = mV m m p3 la c3 | 3 => ∃ q c, v = .slice q m c ∧ Rw 3 cellsF u (.slice q m c) DL | 4 => ∃ q c, v = .slice q m c ∧ Rw 3 cellsF u (.slice q m c) DL | 5 => ∃ q c, v = .slice q m c ∧ Rw 3 cellsF u (.slice q m c) DL | _ => False)
      (by
          intro j v u u' hb h
          split at h <;> first | exact h | (obtain ⟨q, c, e, h1⟩ := h; exact ⟨q, c, e, h1.later hb⟩) | exact h.elim) (fun vs u0 u => u = u0) ?step ?still ?store ?fin)
    case step =>
      intro j o t act u ho hdt hpu hsz hu hfr hin
      have hj : j < 6 := (Array.getElem?_eq_some_iff.1 ho).1
      obtain ⟨cc0, cc1, cc2, _, _, _, _⟩ := k2'.later hu
      obtain ⟨d0, d1, d2, _, _, _, _⟩ := k3'.later hu
      rcases (by omega : j = 0 ∨ j = 1 ∨ j = 2 ∨ j = 3 ∨ j = 4 ∨ j = 5) with rfl | rfl | rfl | rfl | rfl | rfl
      · simp only [List.getElem?_toArray, List.getElem?_cons_zero, List.getElem?_cons_succ, Option.some.injEq] at ho
        subst ho
        obtain rfl := Option.some.inj hdt
        have i5 : act.eval (.tmp (5 : Nat)) = .pointer (some ⟨w2.heap.size, 0, none⟩) := hfr 5 (by decide)
        exact plain_wp (by intro c h; cases h) (fun _ _ => trivial) (by simp only [execOp, i5, evalC, evalF, evalG]; simp [go_sem, cc0, cc1, cc2, d0, d1, d2]) ⟨_, rfl, rfl, Bl.refl _⟩
      · simp only [List.getElem?_toArray, List.getElem?_cons_zero, List.getElem?_cons_succ, Option.some.injEq] at ho
        subst ho
        obtain rfl := Option.some.inj hdt
        have i36 : (act.eval (.tmp (36 : Nat))) = mV m m p1 la c1 := hin ⟨0, .data⟩ (by simp) rfl 36 rfl
        refine enter_wp 12 #[mV m m p1 la c1] (by intro c h; cases h) (fun _ _ => trivial) (by simp only [execOp, evalC, evalF, evalG, resolve, i36, List.map_toArray, List.map_cons, List.map_nil]; simp [invoke, egD, Result.andThen, go_sem]) (by intro h; cases h) (callsIn_wide.2 (DI1.out u hu)) ?_
        rintro e w' ⟨q, c, rfl, hr, hb⟩
        exact ⟨_, rfl, _, rfl, ⟨q, c, rfl, hr⟩, hb⟩
      · simp only [List.getElem?_toArray, List.getElem?_cons_zero, List.getElem?_cons_succ, Option.some.injEq] at ho
        subst ho
        obtain rfl := Option.some.inj hdt
        have i7 : act.eval (.tmp (7 : Nat)) = .pointer (some ⟨w3.heap.size, 0, none⟩) := hfr 7 (by decide)
        exact plain_wp (by intro c h; cases h) (fun _ _ => trivial) (by simp only [execOp, i7, evalC, evalF, evalG]; simp [go_sem, cc0, cc1, cc2, d0, d1, d2]) ⟨_, rfl, rfl, Bl.refl _⟩
      · simp only [List.getElem?_toArray, List.getElem?_cons_zero, List.getElem?_cons_succ, Option.some.injEq] at ho
        subst ho
        obtain rfl := Option.some.inj hdt
        have i38 : (act.eval (.tmp (38 : Nat))) = mV m m p3 la c3 := hin ⟨2, .data⟩ (by simp) rfl 38 rfl
        refine enter_wp 12 #[mV m m p3 la c3] (by intro c h; cases h) (fun _ _ => trivial) (by simp only [execOp, evalC, evalF, evalG, resolve, i38, List.map_toArray, List.map_cons, List.map_nil]; simp [invoke, egD, Result.andThen, go_sem]) (by intro h; cases h) (callsIn_wide.2 (DI2.out u hu)) ?_
        rintro e w' ⟨q, c, rfl, hr, hb⟩
        exact ⟨_, rfl, _, rfl, ⟨q, c, rfl, hr⟩, hb⟩
      · simp only [List.getElem?_toArray, List.getElem?_cons_zero, List.getElem?_cons_succ, Option.some.injEq] at ho
        subst ho
        obtain rfl := Option.some.inj hdt
        have i37 : ∃ q c, (act.eval (.tmp (37 : Nat))) = .slice q m c ∧ Rw 3 cellsF u (.slice q m c) DL := hin ⟨1, .data⟩ (by simp) rfl 37 rfl
        obtain ⟨q, c, e1, hr⟩ := i37
        exact plain_wp (by intro c h; cases h) (fun _ _ => trivial) (by simp only [execOp, e1, evalC, evalF, evalG]; simp [go_sem]) ⟨_, rfl, ⟨q, c, rfl, hr⟩, Bl.refl _⟩
      · simp only [List.getElem?_toArray, List.getElem?_cons_zero, List.getElem?_cons_succ, Option.some.injEq] at ho
        subst ho
        obtain rfl := Option.some.inj hdt
        have i39 : ∃ q c, (act.eval (.tmp (39 : Nat))) = .slice q m c ∧ Rw 3 cellsF u (.slice q m c) DL := hin ⟨3, .data⟩ (by simp) rfl 39 rfl
        obtain ⟨q, c, e1, hr⟩ := i39
        exact plain_wp (by intro c h; cases h) (fun _ _ => trivial) (by simp only [execOp, e1, evalC, evalF, evalG]; simp [go_sem]) ⟨_, rfl, ⟨q, c, rfl, hr⟩, Bl.refl _⟩
    case still =>
      intro j o t act u0 u ho hdt hpu
      cases hpu
    case store =>
      intro o act u vs ho
      cases ho
    case fin =>
      intro vs vb u0 u hu hin hps
      have a0 := hin 0 36 rfl
      have a1 := hin 1 37 rfl
      have a2 := hin 2 38 rfl
      have a3 := hin 3 39 rfl
      have a4 := hin 4 11 rfl
      have a5 := hin 5 12 rfl
      simp only [putL, Act.put, List.setIfInBounds_toArray, List.set_cons_zero, List.set_cons_succ, Nat.zero_add, Nat.reduceAdd, Nat.reduceBEq, Bool.or_false, Bool.or_true, Bool.false_or, Bool.true_or, Bool.false_eq_true, if_false, if_true, reduceIte, Nat.reduceEqDiff, beq_self_eq_true, Bool.or_self] at a0 a1 a2 a3 a4 a5 ⊢
      rw [if_neg (by decide)] at hps
      simp only [a0, a2]
      subst hps
      obtain ⟨q1, g1, e1, r1⟩ := a4
      obtain ⟨q2, g2, e2, r2⟩ := a5
      simp only [e1, e2]
      have R1 := hideP (rq_cells r1.q)
      have R2 := hideP (rq_cells r2.q)
      have k3u := k3'.later hu
      have k4u := k4.later hu
      clear a0 a1 a2 a3 r1 r2 e1 e2 k2' k3' k4 DI1 DI2
      go_wp2_with fail
      go_loopw [60] (fun v wr => ∃ j : Nat, v = .int .i64 j ∧ j ≤ m ∧ Bl u wr) (fun v _ => m - (intOf v).toNat)
      case atStart => exact ⟨0, rfl, Nat.zero_le _, Bl.refl _⟩
      case round =>
        obtain ⟨j, rfl, hj, bl⟩ := hrel
        by_cases hlt : j < m
        · obtain ⟨x, hx⟩ : ∃ x, DL[j]? = some x := ⟨_, List.getElem?_eq_getElem (by have := HL.out; omega)⟩
          obtain ⟨b, o, rfl, CX⟩ := R1.out j x hx
          obtain ⟨b', o', rfl, CY⟩ := R2.out j x hx
          have z0 := fun z : Wl wr => (CX z.w (bl.trans z.bl)).1
          have z1 := fun z : Wl wr => (CX z.w (bl.trans z.bl)).2.1
          have z2 := fun z : Wl wr => (CX z.w (bl.trans z.bl)).2.2
          have y0 := fun z : Wl wr => (CY z.w (bl.trans z.bl)).1
          have y1 := fun z : Wl wr => (CY z.w (bl.trans z.bl)).2.1
          have y2 := fun z : Wl wr => (CY z.w (bl.trans z.bl)).2.2
          have wne := wl_ne wr
          have ne1 := neq_selfV x
          clear CX CY
          go_wp2_with fail
          refine wl_region wr (Bl.refl _) (by kernel_rfl) (by kernel_rfl) ?_
          repeat (go_big_quiet_step (first | fail))
          refine wpQuiet_nil ?_
          intro _ hw'
          obtain ⟨z, hw''⟩ := hw'
          subst hw''
          clear wne z0 z1 z2 y0 y1 y2 ne1
          obtain ⟨w3', h3'⟩ := z
          dsimp only
          go_wp2
          go_roundw
          case rel => exact ⟨j + 1, by simp, hlt, bl.trans h3'⟩
          case measure => simp [intOf]; omega
        · obtain rfl : j = m := by omega
          obtain ⟨x0, x1, x2, _, _, _, lt1⟩ := k3u.later bl
          obtain ⟨y0, y1, y2, _, _, _, lt2⟩ := k4u.later bl
          go_wp2_with fail
          refine (alike_any j j p3 p4 la c3 c4 (mk j j (clrF f)) wr (HC4.out.later (hu.trans bl)).2.2 (HDD.out.later (b4.trans (hu.trans bl))).2.2 (by rw [mk_len, HLM.out]) (by omega)).mono ?_
          rintro e w8 ⟨rfl, h8⟩
          clear x0 x1 x2 y0 y1 y2
          go_wp2_with fail
          refine (AW.out _).mono ?_
          rintro e w9 ⟨rfl, h9⟩
          go_wp2
          go_ret
          exact ⟨rfl, ((h2.trans b2).trans (b24.trans (hu.trans bl))).trans (h8.trans h9)⟩
end Go.Proofs.Ytbfdkahbnfpabaa

/- A slice of whole numbers as an argument: opened. -/
namespace Go.Proofs.Ytbfdkahbnfpabaa
open Go.ChangeShapes Go.WideShapes Go.ChangeAt Go.RowKit
set_option linter.unusedVariables false

theorem Try.cellsInt : Try.prog.cellsOf 3 = 1 := by kernel_rfl
theorem cell_block_lt {W : World} {b o : Nat} {v : Value} (h : W.cell? ⟨b, o, none⟩ = some v) : b < W.heap.size := by
  rcases Nat.lt_or_ge b W.heap.size with h' | h'
  · exact h'
  · have : W.heap[b]? = none := Array.getElem?_eq_none h'
    simp [World.cell?, this] at h
set_option maxRecDepth 1000000 in
theorem open_row {H : Type} {enc : TypeId × Value → H} {W : World} {b0 : Nat} {v : Value} {d : DataW H} {p : List MemPlace}
    (hv : Value.okWide Try.prog W .any b0 22 v) (h : DataW.Trod enc Try.prog W 0 (fun _ => true) true 22 v d p) : ∃ ns : List Int, Rq 1 cI W v ns ∧ ∀ n ∈ ns, (Lit.int .i64 n).wf = true := by
  obtain ⟨a0, len, cap, rfl⟩ := okWide_slice Try.underlying22 hv
  obtain ⟨fuel, hf⟩ := h
  rcases open_ints Try.underlying22 Try.underlying3 Try.cellsInt hf with ⟨hcs, hx⟩ | ⟨a, len', cap', zs, hcs, _, hl, hm, hz, hx, hcell, hwz⟩
  · simp [Value.cells] at hcs
    obtain ⟨rfl, rfl, rfl⟩ := hcs
    exact ⟨[], .inl ⟨none, 0, rfl, rfl, fun _ => rfl⟩, fun n hn => by simp at hn⟩
  · simp [Value.cells] at hcs
    obtain ⟨rfl, rfl, rfl⟩ := hcs
    simp only [if_true] at hz
    refine ⟨zs.take len, ?_, fun n hn => hwz n (List.mem_of_mem_take hn)⟩
    by_cases h0 : len = 0
    · subst h0
      exact .inl ⟨some a, cap, rfl, by simp, nofun⟩
    · have c0 := hcell 0 (by omega)
      obtain ⟨b, off, rfl, hc⟩ := ints_at hcell (by omega)
      have hb : b < W.heap.size := by
        have := hc 0 (by omega)
        exact cell_block_lt this
      have hll : (zs.take len).length = len := by simp; omega
      refine .inr ⟨b, off, cap, by rw [hll], by omega, hb, fun j x hj k u hu => ?_⟩
      rcases k with _ | k
      · simp at hu
        subst hu
        have hj2 := (List.getElem?_eq_some_iff.1 hj).1
        have := hc j (by omega)
        rw [List.getElem?_take] at hj
        split at hj
        · have e : zs.getD j 0 = x := by simp [List.getD, hj]
          rw [e] at this
          simpa using this
        · cases hj
      · simp at hu
end Go.Proofs.Ytbfdkahbnfpabaa

/- TriClears: cleared twice is cleared once; a triangle is left as it is; its diagonal stays (of 5 by 5 at most, numbers from -100 up to 100). Conditions: none (every input). -/
namespace Go.Proofs.Ytbfdkahbnfpabaa
open Go.ChangeShapes Go.WideShapes Go.ChangeAt Go.RowKit
set_option linter.unusedVariables false

theorem own_TriClears : ownKnob Try.prog.godebug = none := by kernel_rfl
theorem laid_TriClears : laidOutB Try.prog = true := by kernel_rfl
set_option maxRecDepth 100000 in
theorem lifted_TriClears (os : Os) (started : os.Started) (H : Type) (enc : TypeId × Value → H) :
    ReturnsInHanded {} Try.checked os 5 .any (Rows.triClearsSpec.pre6 enc Try.prog Try.f5 Rows.triClearsRow.domain false) (Rows.triClearsSpec.post enc Try.prog Try.f5 false true false false) := by
  refine returnsInHanded_of_change (C := Try.checked) own_TriClears started (by kernel_rfl) Try.func5
    (ChangeSpec.witness6 (enc := enc) (C := Try.checked) false ⟨#[], #[.slice none 0 0, .int .i64 0], []⟩ 8 (by kernel_rfl) (by kernel_rfl) (by kernel_rfl) (by kernel_rfl)) ?_
  intro W base args ds gs before hval0 hW hcnd _
  have hval : ∀ (j : Nat) t v, Try.f5.params[j]? = some t → args[j]? = some v → Value.okWide Try.prog W .any base t v := hval0
  have hW' := hW
  obtain ⟨p, q, hA0, hV, rfl, hfz, hnd⟩ := hW
  have hA : DataW.TrodAll enc Try.prog W 0 (fun _ => true) true Try.f5.params.toList args.toList ds p := hA0
  rw [Try.params5] at hA hval
  obtain ⟨v0, vs0, d0, ds0, p0, q0, hargs, rfl, rfl, h0, r0⟩ := trodAll_cons hA
  obtain ⟨v1, vs1, d1, ds1, p1, q1, rfl, rfl, rfl, h1, r1⟩ := trodAll_cons r0
  obtain ⟨rfl, rfl, rfl⟩ := trodAll_nil r1
  obtain rfl : args = #[v0, v1] := by cases args; simp_all
  obtain ⟨rfl, rfl⟩ := trodVars_none hV
  have hltA := fun x hx => hW'.lt x hx
  obtain ⟨a0, R0, w0⟩ := open_row (hval 0 22 v0 rfl rfl) h0
  obtain ⟨a1, e1, _, _, w1⟩ := open_int Try.underlying3 (hval 1 3 v1 rfl rfl) h1
  subst e1
  clear hA0 hval0
  refine (walk_TriClears v0 a0 a1 W R0).mono fun e W' ⟨he, bel⟩ => ?_
  subst he
  exact ⟨_, rfl, _, _, _, [], _, [], hW', trodAll_mk1 (shut_bool Try.underlying4 _), (trodAll_cons_mk (Below.trod laid_TriClears (by kernel_rfl) (of_decide_eq_true (by kernel_rfl)) h0 bel (fun x hx => by have := hltA x (by simp [hx]); simpa using this)) (trodAll_cons_mk (Below.trod laid_TriClears (by kernel_rfl) (of_decide_eq_true (by kernel_rfl)) h1 bel (fun x hx => by have := hltA x (by simp [hx]); simpa using this)) trodAll_mk0)), rfl, Below.frame bel _, fun h => by cases h⟩

theorem proved_TriClears : Rows.TriClearsSaid :=
  OpenClaim.holds_of_wide 5 Try.f5 rfl rfl rfl rfl rfl rfl rfl ⟨rfl, rfl, rfl, rfl, rfl⟩ rfl rfl rfl rfl rfl (by kernel_rfl) Try.func5 (by kernel_rfl)
    (of_decide_eq_true (by kernel_rfl)) (by unfold Func.isWrapper; first | (rw [if_pos (by decide +kernel)]; kernel_rfl) | (rw [if_neg (by decide +kernel)]; exact ⟨rfl, rfl⟩))
    (fun os started H enc _ => lifted_TriClears os started H enc)
#print axioms proved_TriClears
end Go.Proofs.Ytbfdkahbnfpabaa
