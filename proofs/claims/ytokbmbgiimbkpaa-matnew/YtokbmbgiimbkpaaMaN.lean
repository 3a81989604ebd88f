/- The walk of MatNew. Written by genMl.py. -/
import Derived.Test.YtokbmbgiimbkpaaMaI
import Derived.Test.YtokbmbgiimbkpaaMaLF
namespace Go.Proofs.Ytokbmbgiimbkpaa
open Go.RowKit
set_option linter.unusedSimpArgs false
set_option linter.unusedVariables false

/-- A row of whole numbers that came in, cell by cell. -/
theorem rqi_all {p : Option Addr} {n cap : Nat} {xs : List Int} {w : World} (h : Rq 1 cI w (.slice p n cap) xs) (hp : 0 < xs.length) : ∃ b o, p = some ⟨b, o, none⟩ ∧ ∀ k x, xs[k]? = some x → ∀ u, Bl w u → u.cell? ⟨b, o + k, none⟩ = some (.int .i64 x) := by
  rcases h with ⟨_, _, _, h0, _⟩ | ⟨b, o, cc, e, _, hlt, HX⟩
  · rw [h0] at hp; simp at hp
  · cases e
    exact ⟨b, o, rfl, fun k x hk u hu => (bl_cell hu _ _ hlt).trans (cellI HX hk (wr := w))⟩
/-- A row of whole numbers, as fractions, cell by cell. -/
theorem rwf_all {p : Option Addr} {n cap : Nat} {xs : List Fr} {w : World} (h : Rw 3 cellsF w (.slice p n cap) xs) (hp : 0 < xs.length) : ∃ b o, p = some ⟨b, o, none⟩ ∧ ∀ k x, xs[k]? = some x → ∀ u, Bl w u → u.cell? ⟨b, o + k * 3, none⟩ = some (.int .i64 x.n) ∧ u.cell? ⟨b, o + k * 3 + 1, none⟩ = some (.int .i64 x.d) ∧ u.cell? ⟨b, o + k * 3 + 2, none⟩ = some (.bool x.bad) := by
  rcases h with ⟨_, h0⟩ | ⟨b, o, cc, e, _, hlt, HX⟩
  · rw [h0] at hp; simp at hp
  · cases e
    exact ⟨b, o, rfl, fun k x hk u hu => ⟨(bl_cell hu _ _ hlt).trans (HX k _ hk 0 _ rfl), (bl_cell hu _ _ hlt).trans (HX k _ hk 1 _ rfl), (bl_cell hu _ _ hlt).trans (HX k _ hk 2 _ rfl)⟩⟩
theorem mxI_map {w : World} {R C : Nat} {p : Option Addr} {n cap : Nat} {xs : List Int} (h : MxI w R C p n cap (ofL C xs)) (hl : xs.length = R * C) : Rq 3 cellsF w (.slice p n cap) (xs.map itF) := by
  have e : xs.map itF = mk R C (fun i k => itF (ofL C xs i k)) := by rw [← mk_map, ← ofL_mk hl]
  rw [e]
  exact h.2.2
set_option maxRecDepth 100000 in
set_option maxHeartbeats 8000000 in
theorem walk_MatNew (rows cols : Int) (va : Value) (xa : List Int) (i k : Int) (w : World) (ha : Rq 1 cI w va xa) :
    Calls Try.prog 3 #[.int .i64 rows, .int .i64 cols, va, .int .i64 i, .int .i64 k] w fun e w' => e = .returned (.bool true) ∧ Bl w w' := by
  have AW := hideP awake6_any
  have EG := Try.frGuard
  have eZ : ∀ w, (binOp .eql 31 (frV zeroR) (.agg #[.int .i64 0, .int .i64 0, .bool false])).run Try.prog w = .ok (.bool true) w := fun w => eql_selfV zeroR w
  have F1 := hideP (few6_any va xa w ha)
  obtain ⟨pa, ca, rfl, _, _⟩ := ha.cut
  obtain ⟨la, hla⟩ : ∃ la, la = xa.length := ⟨_, rfl⟩
  rw [← hla] at F1 ha ⊢
  have HA := hideP ha
  have HLA := hideP hla
  clear ha hla
  cases hf : fitB rows cols la with
  | false =>
    go_enter Try.func3, Try.ntmps3
    go_wp2_with fail
    refine F1.out.mono ?_
    rintro e w1 ⟨b1, rfl, hb1, hw1⟩
    have hw2 := hw1.symm
    subst hw2
    clear F1 hw1
    cases b1 with
    | false =>
      go_wp2_with fail
      refine (AW.out _).mono ?_
      rintro e w9 ⟨rfl, h9⟩
      go_wp2
      go_ret
      exact ⟨rfl, (Bl.refl _).trans h9⟩
    | true =>
      have S1 := hideP (hb1 rfl).2
      clear hb1
      go_wp2_with fail
      refine (mWholeF_no _ _ _ _ _ _ hf).mono ?_
      rintro e w2 ⟨rfl, h2⟩
      have m1 := MBox.new w2 0 0 none 0 0 27
      go_wp2_with fail
      refine (ref6Right_any _ _ _ _).mono ?_
      rintro e w3 ⟨rfl, hw3⟩
      subst hw3
      rw [hf]
      go_wp2_with fail
      refine (same6_any 0 0 none 0 0 none 0 [] _ (.inl ⟨_, _, rfl, rfl, fun _ => rfl⟩) (.inl ⟨_, _, rfl, rfl, fun _ => rfl⟩) rfl (fun x hx => by simp at hx) (by omega)).mono ?_
      rintro e w5 ⟨rfl, h5⟩
      obtain ⟨x0, x1, x2, _, _, _, lt⟩ := m1.later h5
      go_wp2_with fail
      refine (mRightF _ _ _ _ _ _).mono ?_
      rintro e w6 ⟨rfl, h6⟩
      rw [show fitB 0 0 ((0 : Nat) : Int) = false by decide]
      clear x0 x1 x2
      have hB : Bl w w6 := (((h2.alloc _).trans h5).trans h6)
      go_wp2_with fail
      refine (AW.out _).mono ?_
      rintro e w9 ⟨rfl, h9⟩
      go_wp2
      go_ret
      exact ⟨rfl, hB.trans h9⟩
  | true =>
    obtain ⟨R, C, rfl, rfl, hd, hn⟩ := fitB_nat hf
    have hn256 := hd.lt
    rw [← hn] at hn256
    have HN := hideP hn
    clear hn
    have hC1 := hd.c1
    have hR1 := hd.r1
    have hC16 := hd.c2
    have hR16 := hd.r2
    by_cases hi : 0 ≤ i ∧ i < R
    · obtain ⟨i, rfl⟩ : ∃ i' : Nat, i = i' := ⟨i.toNat, by omega⟩
      replace hi : i < R := by omega
      have hi1 : ¬ ((i : Int) < 0) := by omega
      have hi2 : ¬ ((R : Int) ≤ (i : Int)) := by omega
      by_cases hk : 0 ≤ k ∧ k < C
      · obtain ⟨k, rfl⟩ : ∃ k' : Nat, k = k' := ⟨k.toNat, by omega⟩
        replace hk : k < C := by omega
        have hk1 : ¬ ((k : Int) < 0) := by omega
        have hk2 : ¬ ((C : Int) ≤ (k : Int)) := by omega
        go_enter Try.func3, Try.ntmps3
        go_wp2_with fail
        refine F1.out.mono ?_
        rintro e w1 ⟨b1, rfl, hb1, hw1⟩
        have hw2 := hw1.symm
        subst hw2
        clear F1 hw1
        cases b1 with
        | false =>
          go_wp2_with fail
          refine (AW.out _).mono ?_
          rintro e w9 ⟨rfl, h9⟩
          go_wp2
          go_ret
          exact ⟨rfl, (Bl.refl _).trans h9⟩
        | true =>
          have S1 := hideP (hb1 rfl).2
          clear hb1
          go_wp2_with fail
          refine (whole6_call R C pa la ca xa _ HA.out hf HLA.out.symm S1.out).mono ?_
          rintro e w2 ⟨p1, c1, rfl, hx, h2⟩
          have HX := hideP hx
          clear hx
          have m1 := MBox.new w2 R C p1 la c1 27
          go_wp2_with fail
          refine (ref6Right_any _ _ _ _).mono ?_
          rintro e w3 ⟨rfl, hw3⟩
          subst hw3
          rw [hf]
          go_wp2_with fail
          refine (mRightF _ _ _ _ _ _).mono ?_
          rintro e w3 ⟨rfl, h3⟩
          rw [hf]
          obtain ⟨x0, x1, x2, _, _, _, lt⟩ := m1.later h3
          go_wp2_with fail
          refine (same6_any R C p1 la c1 pa ca xa _ (mxI_map (HX.out.later (((Bl.refl _).alloc _).trans h3)) (by rw [← HLA.out, HN.out])) (HA.out.later ((h2.alloc _).trans h3)) HLA.out.symm (fun x hx => by have := S1.out x hx; exact ⟨by omega, by omega⟩) (by omega)).mono ?_
          rintro e w4 ⟨rfl, h4⟩
          clear x0 x1 x2
          have b24 : Bl w2 w4 := (((Bl.refl _).alloc _).trans h3).trans h4
          have m4 := (m1.later h3).later h4
          have hB4 : Bl w w4 := h2.trans b24
          have X4 := hideP (HX.out.later b24)
          clear HX
          have KP := hideP (fun (u : World) (hu : Bl w4 u) => (show u.cell? ⟨w2.heap.size, 0, none⟩ = some (.int .i64 R) ∧ u.cell? ⟨w2.heap.size, 1, none⟩ = some (.int .i64 C) ∧ u.cell? ⟨w2.heap.size, 2, none⟩ = some (.slice p1 la c1) ∧ Bl w4 u from ⟨(m4.later hu).c0, (m4.later hu).c1, (m4.later hu).c2, hu⟩))
          have RO := hideP (fun (u : World) (hu : Bl w4 u) => mRowF R C p1 la c1 _ u (X4.out.later hu) i hi)
          have CO := hideP (fun (u : World) (hu : Bl w4 u) => mColF R C p1 la c1 _ u (X4.out.later hu) k hk)
          go_wp2_with fail
          go_region_held3 (fun w' => w'.cell? ⟨w2.heap.size, 0, none⟩ = some (.int .i64 R) ∧ w'.cell? ⟨w2.heap.size, 1, none⟩ = some (.int .i64 C) ∧ w'.cell? ⟨w2.heap.size, 2, none⟩ = some (.slice p1 la c1) ∧ Bl w4 w') (exact KP.out _ (by repeat (first | exact Bl.refl _ | assumption | apply Bl.drew | apply Bl.alloc | (refine Bl.put3 ?_ (by omega) _ _ _) | (refine Bl.trans ?_ (by assumption)))))
            (first
              | (go_at_call 16; refine (RO.out _ (by repeat (first | exact Bl.refl _ | assumption | apply Bl.drew | apply Bl.alloc | (refine Bl.put3 ?_ (by omega) _ _ _) | (refine Bl.trans ?_ (by assumption))))).mono ?_; rintro e v1 ⟨p2, c2, rfl, ⟨g1, _, _⟩, h5⟩; have G1 := hideP g1; clear g1)
              | (go_at_call 17; refine (CO.out _ (by repeat (first | exact Bl.refl _ | assumption | apply Bl.drew | apply Bl.alloc | (refine Bl.put3 ?_ (by omega) _ _ _) | (refine Bl.trans ?_ (by assumption))))).mono ?_; rintro e v2 ⟨p3, c3, rfl, ⟨g2, _⟩, h6⟩; have G2 := hideP g2; clear g2))
          rename_i hh
          have b4 : Bl w4 v2 := hh.2.2.2
          clear hh KP RO CO
          obtain ⟨x0, x1, x2, _, _, _, lt⟩ := m4.later b4
          have hlen : xa.length = R * C := by rw [← HLA.out, HN.out]
          obtain ⟨ba, oa, rfl, CA⟩ := rqi_all HA.out (by rw [hlen]; exact Nat.mul_pos hd.r1 hd.c1)
          obtain ⟨bb, ob, rfl, CB⟩ := rwf_all G1.out (by rw [rowM_len]; exact hd.c1)
          obtain ⟨bc, oc, rfl, CC⟩ := rwf_all (G2.out) (by rw [colM_len]; exact hd.r1)
          have CB := fun (u : World) (hu : Bl v2 u) j (hj : j < C) => CB j _ (rowM_get _ i hj) u ((show Bl v1 v2 from h6).trans hu)
          have CC := fun (u : World) (hu : Bl v2 u) j (hj : j < R) => CC j _ (colM_get _ k hj) u hu
          have CA := fun (u : World) (hu : Bl v2 u) i k (hi : i < R) (hk : k < C) => CA (i * C + k) _ (ofL_get hlen hi hk) u ((hB4.trans b4).trans hu)
          have WX := hideP (show ∀ i k, i < R → k < C → Wh (ofL C xa i k) from fun i k hi hk => by have := ofL_sml hlen S1.out i k hi hk; exact ⟨by omega, by omega⟩)
          have HCA := hideP CA
          have HCB := hideP CB
          have HCC := hideP CC
          clear CA CB CC hlen G1 G2
          have AT := hideP (fun z : Wl v2 => mAtF R C p1 la c1 _ z.w (X4.out.later (b4.trans z.bl)) i k hi hk)
          generalize ofL C xa = fa at *
          obtain ⟨a, q, e1, e2, hq1, hq3, hq5, hq6⟩ := place hd hi hk
          rw [← HN.out] at hq5
          have z0 := fun z : Wl v2 => (m4.later (b4.trans z.bl)).c0
          have z1 := fun z : Wl v2 => (m4.later (b4.trans z.bl)).c1
          have z2 := fun z : Wl v2 => (m4.later (b4.trans z.bl)).c2
          have z3 := fun z : Wl v2 => HCA.out z.w z.bl i k hi hk
          rw [← e2] at z3
          have NW := hideP (fun z : Wl v2 => new_few (n := fa i k) (WX.out i k hi hk) z.w)
          have ne1 := neq_selfV (itF (fa i k))
          have wne := wl_ne v2
          clear x0 x1 x2 e1 e2
          generalize fa i k = x at AT NW ne1 z3
          generalize itF x = rr at AT NW ne1
          go_wp2_with fail
          refine wl_region v2 (Bl.refl _) (by kernel_rfl) (by kernel_rfl) ?_
          repeat (go_big_quiet_step (first | (go_at_call 19; exact wl_call (NW.out _)) | (go_at_call 18; exact wl_call (AT.out _))))
          refine wpQuiet_nil ?_
          intro _ hw'
          obtain ⟨z, hw''⟩ := hw'
          subst hw''
          clear wne z0 z1 z2 z3 ne1 AT NW hq1 hq3 hq5 hq6
          obtain ⟨v3, h7⟩ := z
          dsimp only
          go_wp2_with fail
          go_loopw [138] (fun v wr => ∃ j : Nat, v = .int .i64 j ∧ j ≤ C ∧ Bl v2 wr) (fun v _ => C - (intOf v).toNat)
          case atStart => exact ⟨0, rfl, Nat.zero_le _, h7⟩
          case round =>
            obtain ⟨j, rfl, hj, bl⟩ := hrel
            by_cases hlt : j < C
            · obtain ⟨a, q, e1, e2, hq1, hq3, hq5, hq6⟩ := place hd hi hlt
              rw [← HN.out] at hq5
              have z3 := fun z : Wl wr => HCA.out z.w (bl.trans z.bl) _ _ hi hlt
              rw [← e2] at z3
              have z0 := fun z : Wl wr => (HCB.out z.w (bl.trans z.bl) j hlt).1
              have z1 := fun z : Wl wr => (HCB.out z.w (bl.trans z.bl) j hlt).2.1
              have z2 := fun z : Wl wr => (HCB.out z.w (bl.trans z.bl) j hlt).2.2
              have NW := hideP (fun z : Wl wr => new_few (n := fa i j) (WX.out _ _ hi hlt) z.w)
              have ne1 := neq_selfV (itF (fa i j))
              have wne := wl_ne wr
              clear e1 e2
              generalize hgx : fa i j = x at z3 NW ne1 z0 z1 z2
              generalize hgr : itF x = rr at z0 z1 z2 NW ne1
              clear hgx hgr
              go_wp2_with fail
              refine wl_region wr (Bl.refl _) (by kernel_rfl) (by kernel_rfl) ?_
              repeat (go_big_quiet_step (first | (go_at_call 19; exact wl_call (NW.out _))))
              refine wpQuiet_nil ?_
              intro _ hw'
              obtain ⟨z, hw''⟩ := hw'
              subst hw''
              clear wne z0 z1 z2 z3 ne1 NW
              obtain ⟨v4, h8⟩ := z
              dsimp only
              go_wp2
              go_roundw
              case rel => exact ⟨j + 1, by simp, hlt, bl.trans h8⟩
              case measure => simp [intOf]; omega
            · obtain rfl : j = C := by omega
              go_wp2_with fail
              go_loopw [157] (fun v wr => ∃ j : Nat, v = .int .i64 j ∧ j ≤ R ∧ Bl v2 wr) (fun v _ => R - (intOf v).toNat)
              case atStart => exact ⟨0, rfl, Nat.zero_le _, bl⟩
              case round =>
                clear bl; obtain ⟨j, rfl, hj, bl⟩ := hrel
                by_cases hlt : j < R
                · obtain ⟨a, q, e1, e2, hq1, hq3, hq5, hq6⟩ := place hd hlt hk
                  rw [← HN.out] at hq5
                  have z3 := fun z : Wl wr => HCA.out z.w (bl.trans z.bl) _ _ hlt hk
                  rw [← e2] at z3
                  have z0 := fun z : Wl wr => (HCC.out z.w (bl.trans z.bl) j hlt).1
                  have z1 := fun z : Wl wr => (HCC.out z.w (bl.trans z.bl) j hlt).2.1
                  have z2 := fun z : Wl wr => (HCC.out z.w (bl.trans z.bl) j hlt).2.2
                  have NW := hideP (fun z : Wl wr => new_few (n := fa j k) (WX.out _ _ hlt hk) z.w)
                  have ne1 := neq_selfV (itF (fa j k))
                  have wne := wl_ne wr
                  clear e1 e2
                  generalize hgx : fa j k = x at z3 NW ne1 z0 z1 z2
                  generalize hgr : itF x = rr at z0 z1 z2 NW ne1
                  clear hgx hgr
                  go_wp2_with fail
                  refine wl_region wr (Bl.refl _) (by kernel_rfl) (by kernel_rfl) ?_
                  repeat (go_big_quiet_step (first | (go_at_call 19; exact wl_call (NW.out _))))
                  refine wpQuiet_nil ?_
                  intro _ hw'
                  obtain ⟨z, hw''⟩ := hw'
                  subst hw''
                  clear wne z0 z1 z2 z3 ne1 NW
                  obtain ⟨v4, h8⟩ := z
                  dsimp only
                  go_wp2
                  go_roundw
                  case rel => exact ⟨j + 1, by simp, hlt, bl.trans h8⟩
                  case measure => simp [intOf]; omega
                · obtain rfl : j = R := by omega
                  have hB : Bl w wr := (hB4.trans b4).trans bl
                  go_wp2_with fail
                  refine (AW.out _).mono ?_
                  rintro e w9 ⟨rfl, h9⟩
                  go_wp2
                  go_ret
                  exact ⟨rfl, hB.trans h9⟩
      · have hk0 : k < 0 ∨ (¬ k < 0 ∧ (C : Int) ≤ k) := by omega
        rcases hk0 with hk1 | ⟨hk1, hk2⟩
        · go_enter Try.func3, Try.ntmps3
          go_wp2_with fail
          refine F1.out.mono ?_
          rintro e w1 ⟨b1, rfl, hb1, hw1⟩
          have hw2 := hw1.symm
          subst hw2
          clear F1 hw1
          cases b1 with
          | false =>
            go_wp2_with fail
            refine (AW.out _).mono ?_
            rintro e w9 ⟨rfl, h9⟩
            go_wp2
            go_ret
            exact ⟨rfl, (Bl.refl _).trans h9⟩
          | true =>
            have S1 := hideP (hb1 rfl).2
            clear hb1
            go_wp2_with fail
            refine (whole6_call R C pa la ca xa _ HA.out hf HLA.out.symm S1.out).mono ?_
            rintro e w2 ⟨p1, c1, rfl, hx, h2⟩
            have HX := hideP hx
            clear hx
            have m1 := MBox.new w2 R C p1 la c1 27
            go_wp2_with fail
            refine (ref6Right_any _ _ _ _).mono ?_
            rintro e w3 ⟨rfl, hw3⟩
            subst hw3
            rw [hf]
            go_wp2_with fail
            refine (mRightF _ _ _ _ _ _).mono ?_
            rintro e w3 ⟨rfl, h3⟩
            rw [hf]
            obtain ⟨x0, x1, x2, _, _, _, lt⟩ := m1.later h3
            go_wp2_with fail
            refine (same6_any R C p1 la c1 pa ca xa _ (mxI_map (HX.out.later (((Bl.refl _).alloc _).trans h3)) (by rw [← HLA.out, HN.out])) (HA.out.later ((h2.alloc _).trans h3)) HLA.out.symm (fun x hx => by have := S1.out x hx; exact ⟨by omega, by omega⟩) (by omega)).mono ?_
            rintro e w4 ⟨rfl, h4⟩
            clear x0 x1 x2
            have b24 : Bl w2 w4 := (((Bl.refl _).alloc _).trans h3).trans h4
            have m4 := (m1.later h3).later h4
            have hB4 : Bl w w4 := h2.trans b24
            have X4 := hideP (HX.out.later b24)
            clear HX
            have KP := hideP (fun (u : World) (hu : Bl w4 u) => (show u.cell? ⟨w2.heap.size, 0, none⟩ = some (.int .i64 R) ∧ u.cell? ⟨w2.heap.size, 1, none⟩ = some (.int .i64 C) ∧ u.cell? ⟨w2.heap.size, 2, none⟩ = some (.slice p1 la c1) ∧ Bl w4 u from ⟨(m4.later hu).c0, (m4.later hu).c1, (m4.later hu).c2, hu⟩))
            have RO := hideP (fun (u : World) (hu : Bl w4 u) => mRowF R C p1 la c1 _ u (X4.out.later hu) i hi)
            have CO := hideP (fun (u : World) (hu : Bl w4 u) => mColF_no R C p1 la c1 u hf k hk)
            go_wp2_with fail
            go_region_held3 (fun w' => w'.cell? ⟨w2.heap.size, 0, none⟩ = some (.int .i64 R) ∧ w'.cell? ⟨w2.heap.size, 1, none⟩ = some (.int .i64 C) ∧ w'.cell? ⟨w2.heap.size, 2, none⟩ = some (.slice p1 la c1) ∧ Bl w4 w') (exact KP.out _ (by repeat (first | exact Bl.refl _ | assumption | apply Bl.drew | apply Bl.alloc | (refine Bl.put3 ?_ (by omega) _ _ _) | (refine Bl.trans ?_ (by assumption)))))
              (first
                | (go_at_call 16; refine (RO.out _ (by repeat (first | exact Bl.refl _ | assumption | apply Bl.drew | apply Bl.alloc | (refine Bl.put3 ?_ (by omega) _ _ _) | (refine Bl.trans ?_ (by assumption))))).mono ?_; rintro e v1 ⟨p2, c2, rfl, ⟨g1, _, _⟩, h5⟩; have G1 := hideP g1; clear g1)
                | (go_at_call 17; refine (CO.out _ (by repeat (first | exact Bl.refl _ | assumption | apply Bl.drew | apply Bl.alloc | (refine Bl.put3 ?_ (by omega) _ _ _) | (refine Bl.trans ?_ (by assumption))))).mono ?_; rintro e v2 ⟨rfl, h6⟩))
            rename_i hh
            have b4 : Bl w4 v2 := hh.2.2.2
            clear hh KP RO CO
            obtain ⟨x0, x1, x2, _, _, _, lt⟩ := m4.later b4
            go_wp2_with fail
            refine (mAtF_no R C p1 la c1 _ hf _ _ (fun h => hk h.2)).mono ?_
            rintro e v3 ⟨rfl, h7⟩
            clear x0 x1 x2
            have hB : Bl w v3 := (hB4.trans b4).trans h7
            go_wp2_with fail
            refine (AW.out _).mono ?_
            rintro e w9 ⟨rfl, h9⟩
            go_wp2
            go_ret
            exact ⟨rfl, hB.trans h9⟩
        · go_enter Try.func3, Try.ntmps3
          go_wp2_with fail
          refine F1.out.mono ?_
          rintro e w1 ⟨b1, rfl, hb1, hw1⟩
          have hw2 := hw1.symm
          subst hw2
          clear F1 hw1
          cases b1 with
          | false =>
            go_wp2_with fail
            refine (AW.out _).mono ?_
            rintro e w9 ⟨rfl, h9⟩
            go_wp2
            go_ret
            exact ⟨rfl, (Bl.refl _).trans h9⟩
          | true =>
            have S1 := hideP (hb1 rfl).2
            clear hb1
            go_wp2_with fail
            refine (whole6_call R C pa la ca xa _ HA.out hf HLA.out.symm S1.out).mono ?_
            rintro e w2 ⟨p1, c1, rfl, hx, h2⟩
            have HX := hideP hx
            clear hx
            have m1 := MBox.new w2 R C p1 la c1 27
            go_wp2_with fail
            refine (ref6Right_any _ _ _ _).mono ?_
            rintro e w3 ⟨rfl, hw3⟩
            subst hw3
            rw [hf]
            go_wp2_with fail
            refine (mRightF _ _ _ _ _ _).mono ?_
            rintro e w3 ⟨rfl, h3⟩
            rw [hf]
            obtain ⟨x0, x1, x2, _, _, _, lt⟩ := m1.later h3
            go_wp2_with fail
            refine (same6_any R C p1 la c1 pa ca xa _ (mxI_map (HX.out.later (((Bl.refl _).alloc _).trans h3)) (by rw [← HLA.out, HN.out])) (HA.out.later ((h2.alloc _).trans h3)) HLA.out.symm (fun x hx => by have := S1.out x hx; exact ⟨by omega, by omega⟩) (by omega)).mono ?_
            rintro e w4 ⟨rfl, h4⟩
            clear x0 x1 x2
            have b24 : Bl w2 w4 := (((Bl.refl _).alloc _).trans h3).trans h4
            have m4 := (m1.later h3).later h4
            have hB4 : Bl w w4 := h2.trans b24
            have X4 := hideP (HX.out.later b24)
            clear HX
            have KP := hideP (fun (u : World) (hu : Bl w4 u) => (show u.cell? ⟨w2.heap.size, 0, none⟩ = some (.int .i64 R) ∧ u.cell? ⟨w2.heap.size, 1, none⟩ = some (.int .i64 C) ∧ u.cell? ⟨w2.heap.size, 2, none⟩ = some (.slice p1 la c1) ∧ Bl w4 u from ⟨(m4.later hu).c0, (m4.later hu).c1, (m4.later hu).c2, hu⟩))
            have RO := hideP (fun (u : World) (hu : Bl w4 u) => mRowF R C p1 la c1 _ u (X4.out.later hu) i hi)
            have CO := hideP (fun (u : World) (hu : Bl w4 u) => mColF_no R C p1 la c1 u hf k hk)
            go_wp2_with fail
            go_region_held3 (fun w' => w'.cell? ⟨w2.heap.size, 0, none⟩ = some (.int .i64 R) ∧ w'.cell? ⟨w2.heap.size, 1, none⟩ = some (.int .i64 C) ∧ w'.cell? ⟨w2.heap.size, 2, none⟩ = some (.slice p1 la c1) ∧ Bl w4 w') (exact KP.out _ (by repeat (first | exact Bl.refl _ | assumption | apply Bl.drew | apply Bl.alloc | (refine Bl.put3 ?_ (by omega) _ _ _) | (refine Bl.trans ?_ (by assumption)))))
              (first
                | (go_at_call 16; refine (RO.out _ (by repeat (first | exact Bl.refl _ | assumption | apply Bl.drew | apply Bl.alloc | (refine Bl.put3 ?_ (by omega) _ _ _) | (refine Bl.trans ?_ (by assumption))))).mono ?_; rintro e v1 ⟨p2, c2, rfl, ⟨g1, _, _⟩, h5⟩; have G1 := hideP g1; clear g1)
                | (go_at_call 17; refine (CO.out _ (by repeat (first | exact Bl.refl _ | assumption | apply Bl.drew | apply Bl.alloc | (refine Bl.put3 ?_ (by omega) _ _ _) | (refine Bl.trans ?_ (by assumption))))).mono ?_; rintro e v2 ⟨rfl, h6⟩))
            rename_i hh
            have b4 : Bl w4 v2 := hh.2.2.2
            clear hh KP RO CO
            obtain ⟨x0, x1, x2, _, _, _, lt⟩ := m4.later b4
            go_wp2_with fail
            refine (mAtF_no R C p1 la c1 _ hf _ _ (fun h => hk h.2)).mono ?_
            rintro e v3 ⟨rfl, h7⟩
            clear x0 x1 x2
            have hB : Bl w v3 := (hB4.trans b4).trans h7
            go_wp2_with fail
            refine (AW.out _).mono ?_
            rintro e w9 ⟨rfl, h9⟩
            go_wp2
            go_ret
            exact ⟨rfl, hB.trans h9⟩
    · have hi0 : i < 0 ∨ (¬ i < 0 ∧ (R : Int) ≤ i) := by omega
      rcases hi0 with hi1 | ⟨hi1, hi2⟩
      · by_cases hk : 0 ≤ k ∧ k < C
        · obtain ⟨k, rfl⟩ : ∃ k' : Nat, k = k' := ⟨k.toNat, by omega⟩
          replace hk : k < C := by omega
          go_enter Try.func3, Try.ntmps3
          go_wp2_with fail
          refine F1.out.mono ?_
          rintro e w1 ⟨b1, rfl, hb1, hw1⟩
          have hw2 := hw1.symm
          subst hw2
          clear F1 hw1
          cases b1 with
          | false =>
            go_wp2_with fail
            refine (AW.out _).mono ?_
            rintro e w9 ⟨rfl, h9⟩
            go_wp2
            go_ret
            exact ⟨rfl, (Bl.refl _).trans h9⟩
          | true =>
            have S1 := hideP (hb1 rfl).2
            clear hb1
            go_wp2_with fail
            refine (whole6_call R C pa la ca xa _ HA.out hf HLA.out.symm S1.out).mono ?_
            rintro e w2 ⟨p1, c1, rfl, hx, h2⟩
            have HX := hideP hx
            clear hx
            have m1 := MBox.new w2 R C p1 la c1 27
            go_wp2_with fail
            refine (ref6Right_any _ _ _ _).mono ?_
            rintro e w3 ⟨rfl, hw3⟩
            subst hw3
            rw [hf]
            go_wp2_with fail
            refine (mRightF _ _ _ _ _ _).mono ?_
            rintro e w3 ⟨rfl, h3⟩
            rw [hf]
            obtain ⟨x0, x1, x2, _, _, _, lt⟩ := m1.later h3
            go_wp2_with fail
            refine (same6_any R C p1 la c1 pa ca xa _ (mxI_map (HX.out.later (((Bl.refl _).alloc _).trans h3)) (by rw [← HLA.out, HN.out])) (HA.out.later ((h2.alloc _).trans h3)) HLA.out.symm (fun x hx => by have := S1.out x hx; exact ⟨by omega, by omega⟩) (by omega)).mono ?_
            rintro e w4 ⟨rfl, h4⟩
            clear x0 x1 x2
            have b24 : Bl w2 w4 := (((Bl.refl _).alloc _).trans h3).trans h4
            have m4 := (m1.later h3).later h4
            have hB4 : Bl w w4 := h2.trans b24
            have X4 := hideP (HX.out.later b24)
            clear HX
            have KP := hideP (fun (u : World) (hu : Bl w4 u) => (show u.cell? ⟨w2.heap.size, 0, none⟩ = some (.int .i64 R) ∧ u.cell? ⟨w2.heap.size, 1, none⟩ = some (.int .i64 C) ∧ u.cell? ⟨w2.heap.size, 2, none⟩ = some (.slice p1 la c1) ∧ Bl w4 u from ⟨(m4.later hu).c0, (m4.later hu).c1, (m4.later hu).c2, hu⟩))
            have RO := hideP (fun (u : World) (hu : Bl w4 u) => mRowF_no R C p1 la c1 u hf i hi)
            have CO := hideP (fun (u : World) (hu : Bl w4 u) => mColF R C p1 la c1 _ u (X4.out.later hu) k hk)
            go_wp2_with fail
            go_region_held3 (fun w' => w'.cell? ⟨w2.heap.size, 0, none⟩ = some (.int .i64 R) ∧ w'.cell? ⟨w2.heap.size, 1, none⟩ = some (.int .i64 C) ∧ w'.cell? ⟨w2.heap.size, 2, none⟩ = some (.slice p1 la c1) ∧ Bl w4 w') (exact KP.out _ (by repeat (first | exact Bl.refl _ | assumption | apply Bl.drew | apply Bl.alloc | (refine Bl.put3 ?_ (by omega) _ _ _) | (refine Bl.trans ?_ (by assumption)))))
              (first
                | (go_at_call 16; refine (RO.out _ (by repeat (first | exact Bl.refl _ | assumption | apply Bl.drew | apply Bl.alloc | (refine Bl.put3 ?_ (by omega) _ _ _) | (refine Bl.trans ?_ (by assumption))))).mono ?_; rintro e v1 ⟨rfl, h5⟩)
                | (go_at_call 17; refine (CO.out _ (by repeat (first | exact Bl.refl _ | assumption | apply Bl.drew | apply Bl.alloc | (refine Bl.put3 ?_ (by omega) _ _ _) | (refine Bl.trans ?_ (by assumption))))).mono ?_; rintro e v2 ⟨p3, c3, rfl, ⟨g2, _⟩, h6⟩; have G2 := hideP g2; clear g2))
            rename_i hh
            have b4 : Bl w4 v2 := hh.2.2.2
            clear hh KP RO CO
            obtain ⟨x0, x1, x2, _, _, _, lt⟩ := m4.later b4
            go_wp2_with fail
            refine (mAtF_no R C p1 la c1 _ hf _ _ (fun h => hi h.1)).mono ?_
            rintro e v3 ⟨rfl, h7⟩
            clear x0 x1 x2
            have hB : Bl w v3 := (hB4.trans b4).trans h7
            go_wp2_with fail
            refine (AW.out _).mono ?_
            rintro e w9 ⟨rfl, h9⟩
            go_wp2
            go_ret
            exact ⟨rfl, hB.trans h9⟩
        · go_enter Try.func3, Try.ntmps3
          go_wp2_with fail
          refine F1.out.mono ?_
          rintro e w1 ⟨b1, rfl, hb1, hw1⟩
          have hw2 := hw1.symm
          subst hw2
          clear F1 hw1
          cases b1 with
          | false =>
            go_wp2_with fail
            refine (AW.out _).mono ?_
            rintro e w9 ⟨rfl, h9⟩
            go_wp2
            go_ret
            exact ⟨rfl, (Bl.refl _).trans h9⟩
          | true =>
            have S1 := hideP (hb1 rfl).2
            clear hb1
            go_wp2_with fail
            refine (whole6_call R C pa la ca xa _ HA.out hf HLA.out.symm S1.out).mono ?_
            rintro e w2 ⟨p1, c1, rfl, hx, h2⟩
            have HX := hideP hx
            clear hx
            have m1 := MBox.new w2 R C p1 la c1 27
            go_wp2_with fail
            refine (ref6Right_any _ _ _ _).mono ?_
            rintro e w3 ⟨rfl, hw3⟩
            subst hw3
            rw [hf]
            go_wp2_with fail
            refine (mRightF _ _ _ _ _ _).mono ?_
            rintro e w3 ⟨rfl, h3⟩
            rw [hf]
            obtain ⟨x0, x1, x2, _, _, _, lt⟩ := m1.later h3
            go_wp2_with fail
            refine (same6_any R C p1 la c1 pa ca xa _ (mxI_map (HX.out.later (((Bl.refl _).alloc _).trans h3)) (by rw [← HLA.out, HN.out])) (HA.out.later ((h2.alloc _).trans h3)) HLA.out.symm (fun x hx => by have := S1.out x hx; exact ⟨by omega, by omega⟩) (by omega)).mono ?_
            rintro e w4 ⟨rfl, h4⟩
            clear x0 x1 x2
            have b24 : Bl w2 w4 := (((Bl.refl _).alloc _).trans h3).trans h4
            have m4 := (m1.later h3).later h4
            have hB4 : Bl w w4 := h2.trans b24
            have X4 := hideP (HX.out.later b24)
            clear HX
            have KP := hideP (fun (u : World) (hu : Bl w4 u) => (show u.cell? ⟨w2.heap.size, 0, none⟩ = some (.int .i64 R) ∧ u.cell? ⟨w2.heap.size, 1, none⟩ = some (.int .i64 C) ∧ u.cell? ⟨w2.heap.size, 2, none⟩ = some (.slice p1 la c1) ∧ Bl w4 u from ⟨(m4.later hu).c0, (m4.later hu).c1, (m4.later hu).c2, hu⟩))
            have RO := hideP (fun (u : World) (hu : Bl w4 u) => mRowF_no R C p1 la c1 u hf i hi)
            have CO := hideP (fun (u : World) (hu : Bl w4 u) => mColF_no R C p1 la c1 u hf k hk)
            go_wp2_with fail
            go_region_held3 (fun w' => w'.cell? ⟨w2.heap.size, 0, none⟩ = some (.int .i64 R) ∧ w'.cell? ⟨w2.heap.size, 1, none⟩ = some (.int .i64 C) ∧ w'.cell? ⟨w2.heap.size, 2, none⟩ = some (.slice p1 la c1) ∧ Bl w4 w') (exact KP.out _ (by repeat (first | exact Bl.refl _ | assumption | apply Bl.drew | apply Bl.alloc | (refine Bl.put3 ?_ (by omega) _ _ _) | (refine Bl.trans ?_ (by assumption)))))
              (first
                | (go_at_call 16; refine (RO.out _ (by repeat (first | exact Bl.refl _ | assumption | apply Bl.drew | apply Bl.alloc | (refine Bl.put3 ?_ (by omega) _ _ _) | (refine Bl.trans ?_ (by assumption))))).mono ?_; rintro e v1 ⟨rfl, h5⟩)
                | (go_at_call 17; refine (CO.out _ (by repeat (first | exact Bl.refl _ | assumption | apply Bl.drew | apply Bl.alloc | (refine Bl.put3 ?_ (by omega) _ _ _) | (refine Bl.trans ?_ (by assumption))))).mono ?_; rintro e v2 ⟨rfl, h6⟩))
            rename_i hh
            have b4 : Bl w4 v2 := hh.2.2.2
            clear hh KP RO CO
            obtain ⟨x0, x1, x2, _, _, _, lt⟩ := m4.later b4
            go_wp2_with fail
            refine (mAtF_no R C p1 la c1 _ hf _ _ (fun h => hi h.1)).mono ?_
            rintro e v3 ⟨rfl, h7⟩
            clear x0 x1 x2
            have hB : Bl w v3 := (hB4.trans b4).trans h7
            go_wp2_with fail
            refine (AW.out _).mono ?_
            rintro e w9 ⟨rfl, h9⟩
            go_wp2
            go_ret
            exact ⟨rfl, hB.trans h9⟩
      · by_cases hk : 0 ≤ k ∧ k < C
        · obtain ⟨k, rfl⟩ : ∃ k' : Nat, k = k' := ⟨k.toNat, by omega⟩
          replace hk : k < C := by omega
          go_enter Try.func3, Try.ntmps3
          go_wp2_with fail
          refine F1.out.mono ?_
          rintro e w1 ⟨b1, rfl, hb1, hw1⟩
          have hw2 := hw1.symm
          subst hw2
          clear F1 hw1
          cases b1 with
          | false =>
            go_wp2_with fail
            refine (AW.out _).mono ?_
            rintro e w9 ⟨rfl, h9⟩
            go_wp2
            go_ret
            exact ⟨rfl, (Bl.refl _).trans h9⟩
          | true =>
            have S1 := hideP (hb1 rfl).2
            clear hb1
            go_wp2_with fail
            refine (whole6_call R C pa la ca xa _ HA.out hf HLA.out.symm S1.out).mono ?_
            rintro e w2 ⟨p1, c1, rfl, hx, h2⟩
            have HX := hideP hx
            clear hx
            have m1 := MBox.new w2 R C p1 la c1 27
            go_wp2_with fail
            refine (ref6Right_any _ _ _ _).mono ?_
            rintro e w3 ⟨rfl, hw3⟩
            subst hw3
            rw [hf]
            go_wp2_with fail
            refine (mRightF _ _ _ _ _ _).mono ?_
            rintro e w3 ⟨rfl, h3⟩
            rw [hf]
            obtain ⟨x0, x1, x2, _, _, _, lt⟩ := m1.later h3
            go_wp2_with fail
            refine (same6_any R C p1 la c1 pa ca xa _ (mxI_map (HX.out.later (((Bl.refl _).alloc _).trans h3)) (by rw [← HLA.out, HN.out])) (HA.out.later ((h2.alloc _).trans h3)) HLA.out.symm (fun x hx => by have := S1.out x hx; exact ⟨by omega, by omega⟩) (by omega)).mono ?_
            rintro e w4 ⟨rfl, h4⟩
            clear x0 x1 x2
            have b24 : Bl w2 w4 := (((Bl.refl _).alloc _).trans h3).trans h4
            have m4 := (m1.later h3).later h4
            have hB4 : Bl w w4 := h2.trans b24
            have X4 := hideP (HX.out.later b24)
            clear HX
            have KP := hideP (fun (u : World) (hu : Bl w4 u) => (show u.cell? ⟨w2.heap.size, 0, none⟩ = some (.int .i64 R) ∧ u.cell? ⟨w2.heap.size, 1, none⟩ = some (.int .i64 C) ∧ u.cell? ⟨w2.heap.size, 2, none⟩ = some (.slice p1 la c1) ∧ Bl w4 u from ⟨(m4.later hu).c0, (m4.later hu).c1, (m4.later hu).c2, hu⟩))
            have RO := hideP (fun (u : World) (hu : Bl w4 u) => mRowF_no R C p1 la c1 u hf i hi)
            have CO := hideP (fun (u : World) (hu : Bl w4 u) => mColF R C p1 la c1 _ u (X4.out.later hu) k hk)
            go_wp2_with fail
            go_region_held3 (fun w' => w'.cell? ⟨w2.heap.size, 0, none⟩ = some (.int .i64 R) ∧ w'.cell? ⟨w2.heap.size, 1, none⟩ = some (.int .i64 C) ∧ w'.cell? ⟨w2.heap.size, 2, none⟩ = some (.slice p1 la c1) ∧ Bl w4 w') (exact KP.out _ (by repeat (first | exact Bl.refl _ | assumption | apply Bl.drew | apply Bl.alloc | (refine Bl.put3 ?_ (by omega) _ _ _) | (refine Bl.trans ?_ (by assumption)))))
              (first
                | (go_at_call 16; refine (RO.out _ (by repeat (first | exact Bl.refl _ | assumption | apply Bl.drew | apply Bl.alloc | (refine Bl.put3 ?_ (by omega) _ _ _) | (refine Bl.trans ?_ (by assumption))))).mono ?_; rintro e v1 ⟨rfl, h5⟩)
                | (go_at_call 17; refine (CO.out _ (by repeat (first | exact Bl.refl _ | assumption | apply Bl.drew | apply Bl.alloc | (refine Bl.put3 ?_ (by omega) _ _ _) | (refine Bl.trans ?_ (by assumption))))).mono ?_; rintro e v2 ⟨p3, c3, rfl, ⟨g2, _⟩, h6⟩; have G2 := hideP g2; clear g2))
            rename_i hh
            have b4 : Bl w4 v2 := hh.2.2.2
            clear hh KP RO CO
            obtain ⟨x0, x1, x2, _, _, _, lt⟩ := m4.later b4
            go_wp2_with fail
            refine (mAtF_no R C p1 la c1 _ hf _ _ (fun h => hi h.1)).mono ?_
            rintro e v3 ⟨rfl, h7⟩
            clear x0 x1 x2
            have hB : Bl w v3 := (hB4.trans b4).trans h7
            go_wp2_with fail
            refine (AW.out _).mono ?_
            rintro e w9 ⟨rfl, h9⟩
            go_wp2
            go_ret
            exact ⟨rfl, hB.trans h9⟩
        · go_enter Try.func3, Try.ntmps3
          go_wp2_with fail
          refine F1.out.mono ?_
          rintro e w1 ⟨b1, rfl, hb1, hw1⟩
          have hw2 := hw1.symm
          subst hw2
          clear F1 hw1
          cases b1 with
          | false =>
            go_wp2_with fail
            refine (AW.out _).mono ?_
            rintro e w9 ⟨rfl, h9⟩
            go_wp2
            go_ret
            exact ⟨rfl, (Bl.refl _).trans h9⟩
          | true =>
            have S1 := hideP (hb1 rfl).2
            clear hb1
            go_wp2_with fail
            refine (whole6_call R C pa la ca xa _ HA.out hf HLA.out.symm S1.out).mono ?_
            rintro e w2 ⟨p1, c1, rfl, hx, h2⟩
            have HX := hideP hx
            clear hx
            have m1 := MBox.new w2 R C p1 la c1 27
            go_wp2_with fail
            refine (ref6Right_any _ _ _ _).mono ?_
            rintro e w3 ⟨rfl, hw3⟩
            subst hw3
            rw [hf]
            go_wp2_with fail
            refine (mRightF _ _ _ _ _ _).mono ?_
            rintro e w3 ⟨rfl, h3⟩
            rw [hf]
            obtain ⟨x0, x1, x2, _, _, _, lt⟩ := m1.later h3
            go_wp2_with fail
            refine (same6_any R C p1 la c1 pa ca xa _ (mxI_map (HX.out.later (((Bl.refl _).alloc _).trans h3)) (by rw [← HLA.out, HN.out])) (HA.out.later ((h2.alloc _).trans h3)) HLA.out.symm (fun x hx => by have := S1.out x hx; exact ⟨by omega, by omega⟩) (by omega)).mono ?_
            rintro e w4 ⟨rfl, h4⟩
            clear x0 x1 x2
            have b24 : Bl w2 w4 := (((Bl.refl _).alloc _).trans h3).trans h4
            have m4 := (m1.later h3).later h4
            have hB4 : Bl w w4 := h2.trans b24
            have X4 := hideP (HX.out.later b24)
            clear HX
            have KP := hideP (fun (u : World) (hu : Bl w4 u) => (show u.cell? ⟨w2.heap.size, 0, none⟩ = some (.int .i64 R) ∧ u.cell? ⟨w2.heap.size, 1, none⟩ = some (.int .i64 C) ∧ u.cell? ⟨w2.heap.size, 2, none⟩ = some (.slice p1 la c1) ∧ Bl w4 u from ⟨(m4.later hu).c0, (m4.later hu).c1, (m4.later hu).c2, hu⟩))
            have RO := hideP (fun (u : World) (hu : Bl w4 u) => mRowF_no R C p1 la c1 u hf i hi)
            have CO := hideP (fun (u : World) (hu : Bl w4 u) => mColF_no R C p1 la c1 u hf k hk)
            go_wp2_with fail
            go_region_held3 (fun w' => w'.cell? ⟨w2.heap.size, 0, none⟩ = some (.int .i64 R) ∧ w'.cell? ⟨w2.heap.size, 1, none⟩ = some (.int .i64 C) ∧ w'.cell? ⟨w2.heap.size, 2, none⟩ = some (.slice p1 la c1) ∧ Bl w4 w') (exact KP.out _ (by repeat (first | exact Bl.refl _ | assumption | apply Bl.drew | apply Bl.alloc | (refine Bl.put3 ?_ (by omega) _ _ _) | (refine Bl.trans ?_ (by assumption)))))
              (first
                | (go_at_call 16; refine (RO.out _ (by repeat (first | exact Bl.refl _ | assumption | apply Bl.drew | apply Bl.alloc | (refine Bl.put3 ?_ (by omega) _ _ _) | (refine Bl.trans ?_ (by assumption))))).mono ?_; rintro e v1 ⟨rfl, h5⟩)
                | (go_at_call 17; refine (CO.out _ (by repeat (first | exact Bl.refl _ | assumption | apply Bl.drew | apply Bl.alloc | (refine Bl.put3 ?_ (by omega) _ _ _) | (refine Bl.trans ?_ (by assumption))))).mono ?_; rintro e v2 ⟨rfl, h6⟩))
            rename_i hh
            have b4 : Bl w4 v2 := hh.2.2.2
            clear hh KP RO CO
            obtain ⟨x0, x1, x2, _, _, _, lt⟩ := m4.later b4
            go_wp2_with fail
            refine (mAtF_no R C p1 la c1 _ hf _ _ (fun h => hi h.1)).mono ?_
            rintro e v3 ⟨rfl, h7⟩
            clear x0 x1 x2
            have hB : Bl w v3 := (hB4.trans b4).trans h7
            go_wp2_with fail
            refine (AW.out _).mono ?_
            rintro e w9 ⟨rfl, h9⟩
            go_wp2
            go_ret
            exact ⟨rfl, hB.trans h9⟩
end Go.Proofs.Ytokbmbgiimbkpaa
