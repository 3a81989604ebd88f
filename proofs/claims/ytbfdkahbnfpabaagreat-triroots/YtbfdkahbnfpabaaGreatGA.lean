/- TriRoots: the root of the square of a lower triangle of whole numbers with a diagonal above 0 is it, in fractions; enclosed ones enclose it, where they are not Bad (of 5 by 5 at most, numbers from -100 up to 100). Conditions: none (every input). -/
import Derived.Test.YtbfdkahbnfpabaaGreatG7
import Derived.Test.YtbfdkahbnfpabaaGreatG0
import Derived.ProofKit
import Derived.OpenShut
import Derived.Carry
/- The walk of TriRoots. Written by genTu.py. -/
namespace Go.Proofs.YtbfdkahbnfpabaaGreat
open Go.RowKit
set_option linter.unusedSimpArgs false
set_option linter.unusedVariables false

set_option maxRecDepth 100000 in
set_option maxHeartbeats 4000000 in
theorem walk_TriRoots (va : Value) (xa : List Int) (n : Int) (w : World) (ha : Rq 1 cI w va xa) :
    Calls Tryz.prog 3 #[va, .int .i64 n] w fun e w' => e = .returned (.bool true) ∧ Bl w w' := by
  have AW := hideP awake7_any
  have F1 := hideP (sides_any va xa n w ha)
  obtain ⟨pa, ca, rfl, _, _⟩ := ha.cut
  obtain ⟨la, hla⟩ : ∃ la, la = xa.length := ⟨_, rfl⟩
  rw [← hla] at F1 ha ⊢
  have HA := hideP ha
  have HLA := hideP hla
  clear ha hla
  by_cases hn1 : n < 1
  · go_enter Tryz.func3, Tryz.ntmps3
    go_wp2_with fail
    refine (AW.out _).mono ?_
    rintro e w99 ⟨rfl, h99⟩
    go_wp2
    go_ret
    exact ⟨rfl, (Bl.refl _).trans h99⟩
  by_cases hn5 : n > 5
  · go_enter Tryz.func3, Tryz.ntmps3
    go_wp2_with fail
    refine (AW.out _).mono ?_
    rintro e w99 ⟨rfl, h99⟩
    go_wp2
    go_ret
    exact ⟨rfl, (Bl.refl _).trans h99⟩
  go_enter Tryz.func3, Tryz.ntmps3
  go_wp2_with fail
  refine F1.out.mono ?_
  rintro e w1 ⟨b1, rfl, hb1, rfl⟩
  clear F1
  cases b1 with
  | false =>
    go_wp2_with fail
    refine (AW.out _).mono ?_
    rintro e w99 ⟨rfl, h99⟩
    go_wp2
    go_ret
    exact ⟨rfl, (Bl.refl _).trans h99⟩
  | true =>
    obtain ⟨n1, n5, hl, s1⟩ := hb1 rfl
    clear hb1 hn1 hn5
    obtain ⟨m, rfl⟩ := Int.eq_ofNat_of_zero_le (show 0 ≤ n by omega)
    have hl2 : xa.length = m * m := by rw [← Int.natCast_mul] at hl; omega
    have hd : Dim m m := ⟨by omega, by omega, by omega, by omega⟩
    have hlam : la = m * m := by rw [HLA.out]; exact hl2
    obtain ⟨s, hs⟩ : ∃ s, s = clrI (ofL m xa) := ⟨_, rfl⟩
    have sm : Sm2 100 m m s := by rw [hs]; exact clrI_sm (by omega) (ofL_sml hl2 s1)
    have slow : Low 0 s := by rw [hs]; exact clrI_low _
    have CLR := hideP (show _ from ref7Clear_any pa la ca xa m w1 hd HA.out hl2 hlam)
    rw [← hs, ← hlam] at CLR
    have HLM := hideP hlam
    have HD := hideP hd
    have SM := hideP sm
    have SL := hideP slow
    have m5 : m ≤ 5 := by omega
    have m1' : 1 ≤ m := by omega
    have hN25 : la ≤ 25 := by rw [hlam]; exact Nat.mul_le_mul m5 m5
    have hmm : (m : Int) * (m : Int) = (la : Int) := by rw [hlam, Int.natCast_mul]
    have hwn : wrap64 ((m : Int) * (m : Int)) = (la : Int) := by rw [hmm]; unfold wrap64; omega
    have HWN := hideP hwn
    clear hl hl2 hd hlam s1 n1 n5 hs sm slow hwn hmm
    go_wp2_with fail
    refine CLR.out.mono ?_
    rintro e w2 ⟨p2, c2, rfl, hlow, h2⟩
    have HLOW := hideP hlow
    obtain ⟨g, o, hp2, CL⟩ := cells7 hlow.q (by omega) (by omega)
    subst hp2
    have HCL := hideP CL
    clear hlow CL CLR
    go_wp2_with fail
    go_loopw [34] (fun v wr => ∃ j : Nat, v = .int .i64 j ∧ j ≤ m ∧ Bl w2 wr ∧ ∀ k, k < j → 0 < s k k) (fun v _ => m - (intOf v).toNat)
    case atStart => exact ⟨0, rfl, Nat.zero_le _, Bl.refl _, fun k hk => by omega⟩
    case round =>
      obtain ⟨j, rfl, hj, bl, hpos⟩ := hrel
      have HPOS := hideP hpos
      clear hpos
      by_cases hlt : j < m
      · obtain ⟨a1, q1, e1, e2, hq1, hq3, hq5, hq6⟩ := place HD.out hlt hlt
        have cy := HCL.out j j hlt hlt wr bl
        rw [← e2] at cy
        rw [← HLM.out] at hq5
        obtain ⟨y, hy⟩ : ∃ y, y = s j j := ⟨_, rfl⟩
        rw [← hy] at cy
        have HY := hideP hy
        clear e1 e2 hy
        by_cases hy1 : y < 1
        · go_wp2_with fail
          refine (AW.out _).mono ?_
          rintro e w99 ⟨rfl, h99⟩
          go_wp2
          go_ret
          exact ⟨rfl, (h2.trans bl).trans h99⟩
        · go_wp2
          go_roundw
          case rel =>
            refine ⟨j + 1, by simp, hlt, bl, fun k hk => ?_⟩
            by_cases hkj : k < j
            · exact HPOS.out k hkj
            · obtain rfl : k = j := by omega
              rw [← HY.out]; omega
          case measure => simp [intOf]; omega
      · obtain rfl : j = m := by omega
        have sml : Sml 100 (mk j j s) := mk_sml SM.out
        have SQ := hideP (fun (u : World) (hu : Bl w2 u) => (ref7Square_any (some ⟨g, o, none⟩) la c2 (mk j j s) j u HD.out (HLOW.out.q.later hu) (by rw [mk_len]) HLM.out sml).mono (R' := fun e w' => ∃ q c, e = .returned (.slice q la c) ∧ Rq 1 cI w' (.slice q la c) (mk j j (sqI j s)) ∧ Bl u w') (by
          rintro e w' ⟨q, c, rfl, hr, hb⟩
          rw [← HLM.out, show mk j j (sqI j (ofL j (mk j j s))) = mk j j (sqI j s) from mk_congr fun i k hi hk => mulI_congr7 (fun t ht => ofL_mk7 _ hi ht) (fun t ht => ofL_mk7 _ hk ht)] at hr
          rw [← HLM.out]
          exact ⟨q, c, rfl, hr.q, hb⟩))
        have SQB : ∀ i k, i < j → k < j → Wh (sqI j s i k) := fun i k hi hk => by
          have := mulI_bound (A := 100) (B := 100) (R := j) (M := j) (D := j) (a := s) (b := fun i k => s k i) (by omega) (by omega) SM.out (fun i k hi hk => SM.out k i hk hi) hi hk j (Nat.le_refl _)
          exact ⟨by unfold sqI; omega, by unfold sqI; omega⟩
        have HSQB := hideP SQB
        clear sml SQB
        go_wp2_with fail
        refine (SQ.out _ bl).mono ?_
        rintro e w3 ⟨q3, d3, rfl, hr3, h3⟩
        have HR3 := hideP hr3
        clear hr3
        go_wp2_with fail
        refine (whole7F_call j j q3 la d3 _ w3 HR3.out HD.out HLM.out HSQB.out).mono ?_
        rintro e w4 ⟨p4, c4, rfl, hx4, h4⟩
        have HX4 := hideP hx4
        clear hx4 HR3
        obtain ⟨W4, hW4⟩ : ∃ W4, W4 = w4.alloc (.cells #[.int .i64 j, .int .i64 j, .slice p4 la c4] 28) := ⟨_, rfl⟩
        have b4 : Bl w4 W4 := by rw [hW4]; exact (Bl.refl _).alloc _
        have k4 := MBox.new w4 j j p4 la c4 28
        rw [← hW4] at k4
        go_wp2_with fail
        rw [← hW4]
        have HW4 := hideP hW4
        clear hW4
        refine (root7_any j p4 la c4 s W4 (HX4.out.later b4) SM.out SL.out HPOS.out).mono ?_
        rintro e w5 ⟨p5, c5, rfl, hx5, h5⟩
        have HX5 := hideP hx5
        clear hx5 HX4 k4
        obtain ⟨W5, hW5⟩ : ∃ W5, W5 = w5.alloc (.cells #[.int .i64 j, .int .i64 j, .slice p5 la c5] 28) := ⟨_, rfl⟩
        have b5 : Bl w5 W5 := by rw [hW5]; exact (Bl.refl _).alloc _
        have k5 := MBox.new w5 j j p5 la c5 28
        rw [← hW5] at k5
        have b25 : Bl w2 W5 := bl.trans (h3.trans (h4.trans (b4.trans (h5.trans b5))))
        go_wp2_with fail
        rw [← hW5]
        have HW5 := hideP hW5
        clear hW5
        refine (SQ.out _ b25).mono ?_
        rintro e w6 ⟨q6, d6, rfl, hr6, h6⟩
        have HR6 := hideP hr6
        clear hr6 SQ
        go_wp2_with fail
        refine (whole7N_call j j q6 la d6 _ w6 HR6.out HD.out HLM.out).mono ?_
        rintro e w7 ⟨p7, c7, rfl, hx7, h7⟩
        have HX7 := hideP hx7
        clear hx7 HR6
        obtain ⟨W7, hW7⟩ : ∃ W7, W7 = w7.alloc (.cells #[.int .i64 j, .int .i64 j, .slice p7 la c7] 36) := ⟨_, rfl⟩
        have b7 : Bl w7 W7 := by rw [hW7]; exact (Bl.refl _).alloc _
        have k7 := MBox.new w7 j j p7 la c7 36
        rw [← hW7] at k7
        go_wp2_with fail
        rw [← hW7]
        have HW7 := hideP hW7
        clear hW7
        refine (tRootN j p7 la c7 _ W7 (HX7.out.later b7)).mono ?_
        rintro e w8 ⟨p8, c8, rfl, ⟨hx8, _⟩, h8⟩
        obtain ⟨E, hE⟩ : ∃ E, E = triT (rootVN (fun i k => wholeN (sqI j s i k))) (wholeN 0) j j := ⟨_, rfl⟩
        rw [← hE] at hx8
        have hEN : ∀ i k, i < j → k < j → (E i k).bad = false → enclB (E i k) (s i k) 1 = true := fun i k hi hk hb => by
          rw [hE] at hb ⊢
          exact root_encl (by have := HD.out.r2; omega) SM.out SL.out HPOS.out hi hk hb
        obtain ⟨g8, o8, hp8, _, hg8, CE⟩ := hx8.cells
        subst hp8
        have HEN := hideP hEN
        have HCE := hideP CE
        clear hx8 hE hEN HX7 k7 CE
        obtain ⟨W8, hW8⟩ : ∃ W8, W8 = w8.alloc (.cells #[.int .i64 j, .int .i64 j, .slice (some ⟨g8, o8, none⟩) la c8] 36) := ⟨_, rfl⟩
        have b8 : Bl w8 W8 := by rw [hW8]; exact (Bl.refl _).alloc _
        have k8 := MBox.new w8 j j (some ⟨g8, o8, none⟩) la c8 36
        rw [← hW8] at k8
        have b58 : Bl w5 W8 := b5.trans (h6.trans (h7.trans (b7.trans (h8.trans b8))))
        have b28 : Bl w2 W8 := b25.trans (h6.trans (h7.trans (b7.trans (h8.trans b8))))
        have k5' := k5.later (h6.trans (h7.trans (b7.trans (h8.trans b8))))
        obtain ⟨x0, x1, x2, _, _, _, lt5⟩ := id k5'
        obtain ⟨y0, y1, y2, _, _, _, lt8⟩ := id k8
        rw [hW8] at x0 x1 x2 y0 y1 y2
        have hwn := HWN.out
        go_wp2_with fail
        rw [← hW8]
        have HW8 := hideP hW8
        clear hW8 x0 x1 x2 y0 y1 y2 hwn
        refine (same6_any j j p5 la c5 (some ⟨g, o, none⟩) c2 (mk j j s) W8 (mxI_rq (HX5.out.later b58)) (HLOW.out.q.later b28) (by rw [mk_len, HLM.out]) (fun x hx => by have := mk_sml SM.out x hx; exact ⟨by omega, by omega⟩) (by omega)).mono ?_
        rintro e w9 ⟨rfl, h9⟩
        obtain ⟨y0, y1, y2, _, _, _, lt9⟩ := k8.later h9
        have b29 := b28.trans h9
        have b89 : Bl w8 w9 := b8.trans h9
        clear k5' k8
        go_wp2_with fail
        clear y0 y1 y2
        go_loopw [110] (fun v wr => ∃ t : Nat, v = .int .i64 t ∧ t ≤ la ∧ Bl w9 wr) (fun v _ => la - (intOf v).toNat)
        case atStart => exact ⟨0, rfl, Nat.zero_le _, Bl.refl _⟩
        case round =>
          clear bl
          obtain ⟨t, rfl, ht, bl⟩ := hrel
          by_cases hlt2 : t < la
          · obtain ⟨i, k, hi, hk, hijk⟩ : ∃ i k, i < j ∧ k < j ∧ i * j + k = t := by
              refine ⟨t / j, t % j, ?_, Nat.mod_lt _ (by omega), ?_⟩
              · rw [Nat.div_lt_iff_lt_mul (by omega)]; rw [← HLM.out]; exact hlt2
              · rw [Nat.mul_comm]; exact Nat.div_add_mod t j
            have CX := fun a u hu => (bl_cell (b89.trans bl) _ _ hg8).trans (HCE.out i k hi hk a u hu)
            have cy0 := fun u hu => HCL.out i k hi hk u hu
            rw [hijk] at CX cy0
            obtain ⟨y, hy⟩ : ∃ y, y = E i k := ⟨_, rfl⟩
            obtain ⟨v, hv⟩ : ∃ v, v = s i k := ⟨_, rfl⟩
            rw [← hy] at CX
            rw [← hv] at cy0
            have henc := HEN.out i k hi hk
            rw [← hy, ← hv] at henc
            have x0 : wr.cell? ⟨g8, o8 + t * 4, none⟩ = some (.int .i64 y.v) := by simpa using CX 0 _ rfl
            have x1 : wr.cell? ⟨g8, o8 + t * 4 + 1, none⟩ = some (.int .i64 y.l) := by simpa using CX 1 _ rfl
            have x2 : wr.cell? ⟨g8, o8 + t * 4 + 2, none⟩ = some (.int .i64 y.h) := by simpa using CX 2 _ rfl
            have x3 : wr.cell? ⟨g8, o8 + t * 4 + 3, none⟩ = some (.bool y.bad) := by simpa using CX 3 _ rfl
            obtain ⟨X, hX⟩ : ∃ X, X = wr.alloc (.cells #[.int .i64 y.v, .int .i64 y.l, .int .i64 y.h, .bool y.bad] 40) := ⟨_, rfl⟩
            have bX : Bl wr X := by rw [hX]; exact (Bl.refl _).alloc _
            have BX : Box X wr.heap.size y := by rw [hX]; exact Box.new wr y _
            have z0 := fun z : Wl X => (BX.later z.bl).c0
            have z1 := fun z : Wl X => (BX.later z.bl).c1
            have z2 := fun z : Wl X => (BX.later z.bl).c2
            have z3 := fun z : Wl X => (BX.later z.bl).c3
            have y0 := fun z : Wl X => cy0 z.w (b29.trans (bl.trans (bX.trans z.bl)))
            have wne := wl_ne X
            have EC0 := fun (z : Wl X) => encl_any y v 1 z.w
            clear CX cy0 hy hv BX
            obtain ⟨yv, yl, yh, yb⟩ := y
            dsimp only at x0 x1 x2 x3 hX z0 z1 z2 z3 henc
            cases yb with
            | true =>
              clear EC0 henc
              go_wp2_with fail
              rw [← hX]
              have HX := hideP hX
              clear hX x0 x1 x2 x3
              refine wl_region X (Bl.refl _) (by kernel_rfl) (by kernel_rfl) ?_
              repeat (go_big_quiet_step (first | fail))
              refine wpQuiet_nil ?_
              intro _ hw'
              obtain ⟨z, hw''⟩ := hw'
              subst hw''
              clear wne z0 z1 z2 z3 y0
              obtain ⟨wz, hz⟩ := z
              dsimp only
              go_wp2
              go_roundw
              case rel => exact ⟨t + 1, by simp, hlt2, bl.trans (bX.trans hz)⟩
              case measure => simp [intOf]; omega
            | false =>
              have EC := hideP (fun z : Wl X => by have := EC0 z; rw [henc rfl] at this; exact this)
              clear EC0 henc
              go_wp2_with fail
              rw [← hX]
              have HX := hideP hX
              clear hX x0 x1 x2 x3
              refine wl_region X (Bl.refl _) (by kernel_rfl) (by kernel_rfl) ?_
              repeat (go_big_quiet_step (first | (go_at_call 14; exact wl_call (EC.out _))))
              refine wpQuiet_nil ?_
              intro _ hw'
              obtain ⟨z, hw''⟩ := hw'
              subst hw''
              clear wne z0 z1 z2 z3 y0 EC
              obtain ⟨wz, hz⟩ := z
              dsimp only
              go_wp2
              go_roundw
              case rel => exact ⟨t + 1, by simp, hlt2, bl.trans (bX.trans hz)⟩
              case measure => simp [intOf]; omega
          · obtain rfl : t = la := by omega
            go_wp2_with fail
            refine (AW.out _).mono ?_
            rintro e w99 ⟨rfl, h99⟩
            go_wp2
            go_ret
            exact ⟨rfl, (h2.trans (b29.trans bl)).trans h99⟩
end Go.Proofs.YtbfdkahbnfpabaaGreat

/- A slice of whole numbers as an argument: opened. -/
namespace Go.Proofs.YtbfdkahbnfpabaaGreat
open Go.ChangeShapes Go.WideShapes Go.ChangeAt Go.RowKit
set_option linter.unusedVariables false

theorem Tryz.cellsInt : Tryz.prog.cellsOf 3 = 1 := by kernel_rfl
theorem cell_block_lt {W : World} {b o : Nat} {v : Value} (h : W.cell? ⟨b, o, none⟩ = some v) : b < W.heap.size := by
  rcases Nat.lt_or_ge b W.heap.size with h' | h'
  · exact h'
  · have : W.heap[b]? = none := Array.getElem?_eq_none h'
    simp [World.cell?, this] at h
set_option maxRecDepth 1000000 in
theorem open_row {H : Type} {enc : TypeId × Value → H} {W : World} {b0 : Nat} {v : Value} {d : DataW H} {p : List MemPlace}
    (hv : Value.okWide Tryz.prog W .any b0 22 v) (h : DataW.Trod enc Tryz.prog W 0 (fun _ => true) true 22 v d p) : ∃ ns : List Int, Rq 1 cI W v ns ∧ ∀ n ∈ ns, (Lit.int .i64 n).wf = true := by
  obtain ⟨a0, len, cap, rfl⟩ := okWide_slice Tryz.underlying22 hv
  obtain ⟨fuel, hf⟩ := h
  rcases open_ints Tryz.underlying22 Tryz.underlying3 Tryz.cellsInt hf with ⟨hcs, hx⟩ | ⟨a, len', cap', zs, hcs, _, hl, hm, hz, hx, hcell, hwz⟩
  · simp [Value.cells] at hcs
    obtain ⟨rfl, rfl, rfl⟩ := hcs
    exact ⟨[], .inl ⟨none, 0, rfl, rfl, fun _ => rfl⟩, fun n hn => by simp at hn⟩
  · simp [Value.cells] at hcs
    obtain ⟨rfl, rfl, rfl⟩ := hcs
    simp only [if_true] at hz
    refine ⟨zs.take len, ?_, fun n hn => hwz n (List.mem_of_mem_take hn)⟩
    by_cases h0 : len = 0
    · subst h0
      exact .inl ⟨some a, cap, rfl, by simp, nofun⟩
    · have c0 := hcell 0 (by omega)
      obtain ⟨b, off, rfl, hc⟩ := ints_at hcell (by omega)
      have hb : b < W.heap.size := by
        have := hc 0 (by omega)
        exact cell_block_lt this
      have hll : (zs.take len).length = len := by simp; omega
      refine .inr ⟨b, off, cap, by rw [hll], by omega, hb, fun j x hj k u hu => ?_⟩
      rcases k with _ | k
      · simp at hu
        subst hu
        have hj2 := (List.getElem?_eq_some_iff.1 hj).1
        have := hc j (by omega)
        rw [List.getElem?_take] at hj
        split at hj
        · have e : zs.getD j 0 = x := by simp [List.getD, hj]
          rw [e] at this
          simpa using this
        · cases hj
      · simp at hu
end Go.Proofs.YtbfdkahbnfpabaaGreat

/- TriRoots: the root of the square of a lower triangle of whole numbers with a diagonal above 0 is it, in fractions; enclosed ones enclose it, where they are not Bad (of 5 by 5 at most, numbers from -100 up to 100). Conditions: none (every input). -/
namespace Go.Proofs.YtbfdkahbnfpabaaGreat
open Go.ChangeShapes Go.WideShapes Go.ChangeAt Go.RowKit
set_option linter.unusedVariables false

theorem own_TriRoots : ownKnob Tryz.prog.godebug = none := by kernel_rfl
theorem laid_TriRoots : laidOutB Tryz.prog = true := by kernel_rfl
set_option maxRecDepth 100000 in
theorem lifted_TriRoots (os : Os) (started : os.Started) (H : Type) (enc : TypeId × Value → H) :
    ReturnsInHanded {} Tryz.checked os 3 .any (Rows.triRootsSpec.pre6 enc Tryz.prog Tryz.f3 Rows.triRootsRow.domain false) (Rows.triRootsSpec.post enc Tryz.prog Tryz.f3 false true false false) := by
  refine returnsInHanded_of_change (C := Tryz.checked) own_TriRoots started (by kernel_rfl) Tryz.func3
    (ChangeSpec.witness6 (enc := enc) (C := Tryz.checked) false ⟨#[], #[.slice none 0 0, .int .i64 0], []⟩ 8 (by kernel_rfl) (by kernel_rfl) (by kernel_rfl) (by kernel_rfl)) ?_
  intro W base args ds gs before hval0 hW hcnd _
  have hval : ∀ (j : Nat) t v, Tryz.f3.params[j]? = some t → args[j]? = some v → Value.okWide Tryz.prog W .any base t v := hval0
  have hW' := hW
  obtain ⟨p, q, hA0, hV, rfl, hfz, hnd⟩ := hW
  have hA : DataW.TrodAll enc Tryz.prog W 0 (fun _ => true) true Tryz.f3.params.toList args.toList ds p := hA0
  rw [Tryz.params3] at hA hval
  obtain ⟨v0, vs0, d0, ds0, p0, q0, hargs, rfl, rfl, h0, r0⟩ := trodAll_cons hA
  obtain ⟨v1, vs1, d1, ds1, p1, q1, rfl, rfl, rfl, h1, r1⟩ := trodAll_cons r0
  obtain ⟨rfl, rfl, rfl⟩ := trodAll_nil r1
  obtain rfl : args = #[v0, v1] := by cases args; simp_all
  obtain ⟨rfl, rfl⟩ := trodVars_none hV
  have hltA := fun x hx => hW'.lt x hx
  obtain ⟨a0, R0, w0⟩ := open_row (hval 0 22 v0 rfl rfl) h0
  obtain ⟨a1, e1, _, _, w1⟩ := open_int Tryz.underlying3 (hval 1 3 v1 rfl rfl) h1
  subst e1
  clear hA0 hval0
  refine (walk_TriRoots v0 a0 a1 W R0).mono fun e W' ⟨he, bel⟩ => ?_
  subst he
  exact ⟨_, rfl, _, _, _, [], _, [], hW', trodAll_mk1 (shut_bool Tryz.underlying4 _), (trodAll_cons_mk (Below.trod laid_TriRoots (by kernel_rfl) (of_decide_eq_true (by kernel_rfl)) h0 bel (fun x hx => by have := hltA x (by simp [hx]); simpa using this)) (trodAll_cons_mk (Below.trod laid_TriRoots (by kernel_rfl) (of_decide_eq_true (by kernel_rfl)) h1 bel (fun x hx => by have := hltA x (by simp [hx]); simpa using this)) trodAll_mk0)), rfl, Below.frame bel _, fun h => by cases h⟩

theorem proved_TriRoots : Rows.TriRootsSaid :=
  OpenClaim.holds_of_wide 3 Tryz.f3 rfl rfl rfl rfl rfl rfl rfl ⟨rfl, rfl, rfl, rfl, rfl⟩ rfl rfl rfl rfl rfl (by kernel_rfl) Tryz.func3 (by kernel_rfl)
    (of_decide_eq_true (by kernel_rfl)) (by unfold Func.isWrapper; first | (rw [if_pos (by decide +kernel)]; kernel_rfl) | (rw [if_neg (by decide +kernel)]; exact ⟨rfl, rfl⟩))
    (fun os started H enc _ => lifted_TriRoots os started H enc)
#print axioms proved_TriRoots
end Go.Proofs.YtbfdkahbnfpabaaGreat
