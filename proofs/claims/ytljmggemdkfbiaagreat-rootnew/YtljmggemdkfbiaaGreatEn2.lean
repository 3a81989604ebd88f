/- The contract of env.told (layer 3), for what is done of a pair, whatever it be. -/
import Derived.Test.YtljmggemdkfbiaaGreatEn1
namespace Go.Proofs.YtljmggemdkfbiaaGreat
open Go.RowKit
set_option linter.unusedSimpArgs false
set_option linter.unusedVariables false

abbrev prV (x y : Int) : Value := .agg #[.int .i64 x, .int .i64 y]
/-- The pairs of a slice, in a world. -/
def Prs (w : World) (blk : Nat) (ps : List (Int × Int)) : Prop :=
  blk < w.heap.size ∧ ∀ k, k < ps.length → w.cell? ⟨blk, k * 2, none⟩ = some (.int .i64 (ps.getD k (0, 0)).1) ∧ w.cell? ⟨blk, k * 2 + 1, none⟩ = some (.int .i64 (ps.getD k (0, 0)).2)
theorem Prs.later {w w' : World} {blk : Nat} {ps : List (Int × Int)} (h : Prs w blk ps) (k : Bl w w') : Prs w' blk ps := by
  refine ⟨by have := Below.size k; have := h.1; omega, fun j hj => ?_⟩
  rw [bl_cell k _ _ h.1, bl_cell k _ _ h.1]
  exact h.2 j hj
theorem take_getD (ps : List (Int × Int)) (k : Nat) (h : k < ps.length) : ps.take (k + 1) = ps.take k ++ [ps.getD k (0, 0)] := by
  rw [List.take_succ_eq_append_getElem h]
  simp [List.getD_eq_getElem?_getD, h]
theorem low_snoc (N : Int → Int → Int → Int) (ps : List (Int × Int)) (p : Int × Int) : lowF N (ps ++ [p]) = min (lowF N ps) (N p.1 p.2 1) := by
  unfold lowF; rw [List.foldl_append]; rfl
theorem high_snoc (N : Int → Int → Int → Int) (ps : List (Int × Int)) (p : Int × Int) : highF N (ps ++ [p]) = max (highF N ps) (N p.1 p.2 2) := by
  unfold highF; rw [List.foldl_append]; rfl
theorem ok_snoc (B : Int → Int → Int → Bool) (ps : List (Int × Int)) (p : Int × Int) : okF B (ps ++ [p]) = (okF B ps && (B p.1 p.2 1 && B p.1 p.2 2)) := by
  unfold okF; rw [List.all_append]; simp
theorem ok_no (B : Int → Int → Int → Bool) (ps : List (Int × Int)) (k : Nat) (h : k < ps.length) (hp : (B (ps.getD k (0, 0)).1 (ps.getD k (0, 0)).2 1 && B (ps.getD k (0, 0)).1 (ps.getD k (0, 0)).2 2) = false) : okF B ps = false := by
  unfold okF
  rw [Bool.eq_false_iff, ne_eq, List.all_eq_true]
  intro hall
  have := hall (ps[k]) (List.getElem_mem h)
  rw [List.getD_eq_getElem?_getD, List.getElem?_eq_getElem h] at hp
  simp [this] at hp

theorem told_bad {N : Int → Int → Int → Int} {B : Int → Int → Int → Bool} {a b : En} {ps : List (Int × Int)} (h : okE B a b ps = false) : toldE N B a b ps = wrongE := by
  unfold toldE; rw [h]; rfl
theorem told_ok {N : Int → Int → Int → Int} {B : Int → Int → Int → Bool} {a b : En} {ps : List (Int × Int)} (h : okE B a b ps = true) : toldE N B a b ps = ⟨N a.v b.v 0, lowF N ps, highF N ps, false⟩ := by
  unfold toldE; rw [h]; rfl

set_option maxHeartbeats 2000000 in
theorem toldE_any (K : Nat) (N : Int → Int → Int → Int) (B : Int → Int → Int → Bool) (a b : En) (ps : List (Int × Int)) (blk : Nat) (w : World)
    (eg : ∀ (args : Array Value) (w : World), (callFunc K args).run Tryz.prog w = .ok (.enter K args) w)
    (hf : ∀ x y m w', Calls Tryz.prog K #[prV x y, .int .i64 m] w' fun e w'' => e = .returned (.tuple #[.int .i64 (N x y m), .bool (B x y m)]) ∧ Bl w' w'')
    (hl : ps.length ≤ 4) (hp : Prs w blk ps) :
    Calls Tryz.prog 211 #[enV a, enV b, .func (.func K) #[] #[], .slice (some ⟨blk, 0, none⟩) ps.length ps.length] w fun e w' => e = .returned (enV (toldE N B a b ps)) ∧ Bl w w' := by
  obtain ⟨W, hW⟩ : ∃ W, W = ((w.alloc (.cells #[.int .i64 a.v, .int .i64 a.l, .int .i64 a.h, .bool a.bad] 52)).alloc (.cells #[.int .i64 b.v, .int .i64 b.l, .int .i64 b.h, .bool b.bad] 52)).alloc (.cells #[.int .i64 0, .int .i64 0, .int .i64 0, .bool false] 52) := ⟨_, rfl⟩
  have b0 : Bl w W := by rw [hW]; exact (((Bl.refl _).alloc _).alloc _).alloc _
  have xa : Box W w.heap.size a := by
    rw [hW]
    exact (Box.new w a 52).later (((Bl.refl _).alloc _).alloc _)
  have xb : Box W (w.heap.size + 1) b := by
    rw [hW]
    have := (Box.new (w.alloc (.cells #[.int .i64 a.v, .int .i64 a.l, .int .i64 a.h, .bool a.bad] 52)) b 52).later ((Bl.refl _).alloc (.cells #[.int .i64 0, .int .i64 0, .int .i64 0, .bool false] 52))
    simpa using this
  have xz : Box W (w.heap.size + 2) zeroE := by
    rw [hW]
    have := Box.new ((w.alloc (.cells #[.int .i64 a.v, .int .i64 a.l, .int .i64 a.h, .bool a.bad] 52)).alloc (.cells #[.int .i64 b.v, .int .i64 b.l, .int .i64 b.h, .bool b.bad] 52)) zeroE 52
    simpa [zeroE] using this
  have ca := xa.c0
  have cb := xb.c0
  have HW := hideP hW
  have HF := hideP hf
  have HP := hideP (hp.later b0)
  have XA := hideP xa
  have XB := hideP xb
  have XZ := hideP xz
  have HB0 := hideP b0
  clear hW hf hp xa xb xz b0
  have hbad : ∀ w1, Bl W w1 → okE B a b ps = false → True := fun _ _ _ => trivial
  clear hbad
  have FA := hideP (fine_any a)
  have FB := hideP (fine_any b)
  have TB : okE B a b ps = (B a.v b.v 0 && fineB a && fineB b && okF B ps) := rfl
  cases hv : B a.v b.v 0
  · have HT := hideP (told_bad (N := N) (show okE B a b ps = false by rw [TB, hv]; rfl))
    have F0 := HF.out a.v b.v 0
    rw [hv] at F0
    generalize N a.v b.v 0 = n at F0
    have HF0 := hideP F0
    clear F0 TB hv
    go_enter Tryz.func211, Tryz.ntmps211
    go_wp2_with fail
    rw [← HW.out]
    go_wp2_with fail
    refine (HF0.out _).mono ?_
    rintro e w1 ⟨rfl, h1⟩
    go_wp2_with fail
    refine (wrong_any _).mono ?_
    rintro e w2 ⟨rfl, h2⟩
    obtain ⟨c0, c1, c2, c3, f0, f1, f2, f3, lt⟩ := XZ.out.later (h1.trans h2)
    go_wp2
    rw [HT.out]
    simp [bodyPost, results, Tryz.results211, go_sem, c0, c1, c2, c3]
    exact Bl.set4 ((HB0.out.trans h1).trans h2) (by omega) _ _ _ _
  have F0 := HF.out a.v b.v 0
  rw [hv] at F0
  cases ha : fineB a
  · have HT := hideP (told_bad (N := N) (show okE B a b ps = false by rw [TB, ha]; simp))
    have A0 := FA.out
    rw [ha] at A0
    generalize N a.v b.v 0 = n at F0
    have HF0 := hideP F0
    have HA0 := hideP A0
    clear F0 A0 TB hv ha
    go_enter Tryz.func211, Tryz.ntmps211
    go_wp2_with fail
    rw [← HW.out]
    go_wp2_with fail
    refine (HF0.out _).mono ?_
    rintro e w1 ⟨rfl, h1⟩
    obtain ⟨a0, a1, a2, a3, _, _, _, _, _⟩ := XA.out.later h1
    go_wp2_with fail
    refine (HA0.out _).mono ?_
    rintro e w2 ⟨rfl, h2⟩
    go_wp2_with fail
    refine (wrong_any _).mono ?_
    rintro e w3 ⟨rfl, h3⟩
    obtain ⟨c0, c1, c2, c3, f0, f1, f2, f3, lt⟩ := XZ.out.later ((h1.trans h2).trans h3)
    go_wp2
    rw [HT.out]
    simp [bodyPost, results, Tryz.results211, go_sem, c0, c1, c2, c3]
    exact Bl.set4 (((HB0.out.trans h1).trans h2).trans h3) (by omega) _ _ _ _
  have A0 := FA.out
  rw [ha] at A0
  cases hb : fineB b
  · have HT := hideP (told_bad (N := N) (show okE B a b ps = false by rw [TB, hb]; simp))
    have B0 := FB.out
    rw [hb] at B0
    generalize N a.v b.v 0 = n at F0
    have HF0 := hideP F0
    have HA0 := hideP A0
    have HB1 := hideP B0
    clear F0 A0 B0 TB hv ha hb
    go_enter Tryz.func211, Tryz.ntmps211
    go_wp2_with fail
    rw [← HW.out]
    go_wp2_with fail
    refine (HF0.out _).mono ?_
    rintro e w1 ⟨rfl, h1⟩
    obtain ⟨a0, a1, a2, a3, _, _, _, _, _⟩ := XA.out.later h1
    go_wp2_with fail
    refine (HA0.out _).mono ?_
    rintro e w2 ⟨rfl, h2⟩
    obtain ⟨d0, d1, d2, d3, _, _, _, _, _⟩ := XB.out.later (h1.trans h2)
    go_wp2_with fail
    refine (HB1.out _).mono ?_
    rintro e w3 ⟨rfl, h3⟩
    go_wp2_with fail
    refine (wrong_any _).mono ?_
    rintro e w4 ⟨rfl, h4⟩
    obtain ⟨c0, c1, c2, c3, f0, f1, f2, f3, lt⟩ := XZ.out.later (((h1.trans h2).trans h3).trans h4)
    go_wp2
    rw [HT.out]
    simp [bodyPost, results, Tryz.results211, go_sem, c0, c1, c2, c3]
    exact Bl.set4 ((((HB0.out.trans h1).trans h2).trans h3).trans h4) (by omega) _ _ _ _
  have B0 := FB.out
  rw [hb] at B0
  have TT : okE B a b ps = okF B ps := by rw [TB, hv, ha, hb]; rfl
  have HTB := hideP (fun h => told_bad (N := N) (show okE B a b ps = false from TT.trans h))
  have HTO := hideP (fun h => told_ok (N := N) (show okE B a b ps = true from TT.trans h))
  generalize N a.v b.v 0 = n at F0 HTO
  have HF0 := hideP F0
  have HA0 := hideP A0
  have HB1 := hideP B0
  clear F0 A0 B0 TB TT hv ha hb FA FB
  go_enter Tryz.func211, Tryz.ntmps211
  go_wp2_with fail
  rw [← HW.out]
  go_wp2_with fail
  refine (HF0.out _).mono ?_
  rintro e w1 ⟨rfl, h1⟩
  obtain ⟨a0, a1, a2, a3, _, _, _, _, _⟩ := XA.out.later h1
  go_wp2_with fail
  refine (HA0.out _).mono ?_
  rintro e w2 ⟨rfl, h2⟩
  obtain ⟨d0, d1, d2, d3, _, _, _, _, _⟩ := XB.out.later (h1.trans h2)
  go_wp2_with fail
  refine (HB1.out _).mono ?_
  rintro e w3 ⟨rfl, h3⟩
  have HB3 := hideP ((h1.trans h2).trans h3)
  clear h1 h2 h3 a0 a1 a2 a3 d0 d1 d2 d3 ca cb
  go_wp2_with fail
  go_loopw [11, 12, 44] (fun lo hi i wr => ∃ k : Nat, k ≤ ps.length ∧ i = .int .i64 k ∧ lo = .int .i64 (lowF N (ps.take k)) ∧ hi = .int .i64 (highF N (ps.take k)) ∧ okF B (ps.take k) = true ∧ Bl w3 wr) (fun _ _ i _ => ps.length - (intOf i).toNat)
  case atStart => exact ⟨0, by omega, rfl, rfl, rfl, rfl, Bl.refl _⟩
  case round =>
    obtain ⟨k, hk, rfl, rfl, rfl, ho, hB⟩ := hrel
    by_cases hlt : k < ps.length
    · obtain ⟨p0, p1⟩ := (HP.out.later (HB3.out.trans hB)).2 k hlt
      have e1 := low_snoc N (ps.take k) (ps.getD k (0, 0))
      have e2 := high_snoc N (ps.take k) (ps.getD k (0, 0))
      have e3 := ok_snoc B (ps.take k) (ps.getD k (0, 0))
      rw [← take_getD ps k hlt] at e1 e2 e3
      have e4 := ok_no B ps k hlt
      have D := HF.out (ps.getD k (0, 0)).1 (ps.getD k (0, 0)).2 1
      have U := HF.out (ps.getD k (0, 0)).1 (ps.getD k (0, 0)).2 2
      rw [ho] at e3
      generalize (ps.getD k (0, 0)).1 = x at *
      generalize (ps.getD k (0, 0)).2 = y at *
      generalize N x y 1 = n1 at *
      generalize N x y 2 = n2 at *
      obtain ⟨V, hV⟩ : ∃ V, V = wr.alloc (.cells #[.int .i64 x, .int .i64 y] 215) := ⟨_, rfl⟩
      have bV : Bl wr V := by rw [hV]; exact (Bl.refl _).alloc _
      have v0 : V.cell? ⟨wr.heap.size, 0, none⟩ = some (.int .i64 x) := by rw [hV]; simp [go_sem]
      have v1 : V.cell? ⟨wr.heap.size, 1, none⟩ = some (.int .i64 y) := by rw [hV]; simp [go_sem]
      have lV : wr.heap.size < V.heap.size := by rw [hV]; simp
      have HV := hideP hV
      have HC := hideP (And.intro v0 v1)
      clear hV v0 v1
      have E4 := hideP e4
      clear e4
      have E1 := hideP e1
      have E2 := hideP e2
      have E3 := hideP e3
      clear e1 e2 e3 ho
      generalize lowF N (ps.take k) = lo at *
      generalize highF N (ps.take k) = hi at *
      cases hd : B x y 1
      · have HT := hideP (HTB.out (E4.out (by rw [hd]; rfl)))
        rw [hd] at D
        have HD := hideP D
        have HU := hideP U
        clear D U hd
        go_wp2_with fail
        rw [← HV.out]
        refine (HD.out _).mono ?_
        rintro e w4 ⟨rfl, h4⟩
        have v0 : w4.cell? ⟨wr.heap.size, 0, none⟩ = some (.int .i64 x) := by rw [bl_cell h4 _ _ lV]; exact HC.out.1
        have v1 : w4.cell? ⟨wr.heap.size, 1, none⟩ = some (.int .i64 y) := by rw [bl_cell h4 _ _ lV]; exact HC.out.2
        go_wp2_with fail
        refine (HU.out _).mono ?_
        rintro e w5 ⟨rfl, h5⟩
        go_wp2_with fail
        refine (wrong_any _).mono ?_
        rintro e w6 ⟨rfl, h6⟩
        obtain ⟨c0, c1, c2, c3, f0, f1, f2, f3, lt⟩ := XZ.out.later (((((HB3.out.trans hB).trans bV).trans h4).trans h5).trans h6)
        go_wp2
        rw [HT.out]
        simp [bodyPost, results, Tryz.results211, go_sem, c0, c1, c2, c3]
        exact Bl.set4 (((((((HB0.out.trans HB3.out)).trans hB).trans bV).trans h4).trans h5).trans h6) (by omega) _ _ _ _
      · cases hu : B x y 2
        · have HT := hideP (HTB.out (E4.out (by rw [hd, hu]; rfl)))
          rw [hd] at D
          rw [hu] at U
          have HD := hideP D
          have HU := hideP U
          clear D U hd hu
          go_wp2_with fail
          rw [← HV.out]
          refine (HD.out _).mono ?_
          rintro e w4 ⟨rfl, h4⟩
          have v0 : w4.cell? ⟨wr.heap.size, 0, none⟩ = some (.int .i64 x) := by rw [bl_cell h4 _ _ lV]; exact HC.out.1
          have v1 : w4.cell? ⟨wr.heap.size, 1, none⟩ = some (.int .i64 y) := by rw [bl_cell h4 _ _ lV]; exact HC.out.2
          go_wp2_with fail
          refine (HU.out _).mono ?_
          rintro e w5 ⟨rfl, h5⟩
          go_wp2_with fail
          refine (wrong_any _).mono ?_
          rintro e w6 ⟨rfl, h6⟩
          obtain ⟨c0, c1, c2, c3, f0, f1, f2, f3, lt⟩ := XZ.out.later (((((HB3.out.trans hB).trans bV).trans h4).trans h5).trans h6)
          go_wp2
          rw [HT.out]
          simp [bodyPost, results, Tryz.results211, go_sem, c0, c1, c2, c3]
          exact Bl.set4 (((((((HB0.out.trans HB3.out)).trans hB).trans bV).trans h4).trans h5).trans h6) (by omega) _ _ _ _
        · have HG := hideP (show okF B (ps.take (k + 1)) = true by rw [E3.out, hd, hu]; rfl)
          rw [hd] at D
          rw [hu] at U
          have HD := hideP D
          have HU := hideP U
          clear D U hd hu
          go_wp2_with fail
          rw [← HV.out]
          refine (HD.out _).mono ?_
          rintro e w4 ⟨rfl, h4⟩
          have v0 : w4.cell? ⟨wr.heap.size, 0, none⟩ = some (.int .i64 x) := by rw [bl_cell h4 _ _ lV]; exact HC.out.1
          have v1 : w4.cell? ⟨wr.heap.size, 1, none⟩ = some (.int .i64 y) := by rw [bl_cell h4 _ _ lV]; exact HC.out.2
          go_wp2_with fail
          refine (HU.out _).mono ?_
          rintro e w5 ⟨rfl, h5⟩
          go_wp2
          go_roundw
          case rel => exact ⟨k + 1, by omega, by go_num, by rw [E1.out], by rw [E2.out], HG.out, ((hB.trans bV).trans h4).trans h5⟩
          case measure => simp [intOf]; omega
    · have e : ps.take k = ps := List.take_of_length_le (by omega)
      rw [e] at ho ⊢
      have HO := hideP (HTO.out ho)
      obtain ⟨c0, c1, c2, c3, f0, f1, f2, f3, lt⟩ := XZ.out.later (HB3.out.trans hB)
      have HBB := hideP ((HB0.out.trans HB3.out).trans hB)
      clear ho e hB
      generalize lowF N ps = lo at *
      generalize highF N ps = hi at *
      go_wp2
      rw [HO.out]
      simp [bodyPost, results, Tryz.results211, go_sem, c0, c1, c2, c3]
      exact Bl.set4 HBB.out (by omega) _ _ _ _
end Go.Proofs.YtljmggemdkfbiaaGreat
