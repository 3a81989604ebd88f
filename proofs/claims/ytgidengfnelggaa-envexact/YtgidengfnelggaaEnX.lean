/- The walk of EnvExact. -/
import Derived.Test.YtgidengfnelggaaEn7
namespace Go.Proofs.Ytgidengfnelggaa
open Go.RowKit
set_option linter.unusedSimpArgs false
set_option linter.unusedVariables false

theorem encl_told {N : Int → Int → Int → Int} {B : Int → Int → Int → Bool} {a b : En} {ps : List (Int × Int)} (hs : Same ps a.v b.v) (hN : Bd N) (hok : okE B a b ps = true) (hf : FineOr (toldE N B a b ps)) {k d : Int}
    (hd : 1 ≤ d) (hk : rightB k = true) (hd' : rightB d = true) (h1 : N a.v b.v 1 * d ≤ k * 16777216) (h2 : k * 16777216 ≤ N a.v b.v 2 * d) : enclB (toldE N B a b ps) k d = true := by
  have e := told_ok (N := N) hok
  have hf' : fineB (toldE N B a b ps) = true := by
    rcases hf with h | h
    · rw [e] at h
      have := congrArg En.bad h
      cases this
    · exact h.2
  unfold enclB withinB
  rw [hf', hk, hd', decide_eq_true hd, e]
  show (true && true && true && true && (decide (lowF N ps * d ≤ k * 16777216) && decide (k * 16777216 ≤ highF N ps * d))) = true
  rw [hs.low hN, hs.high hN, decide_eq_true h1, decide_eq_true h2]; rfl
theorem prod_bd {n m : Int} (h1 : -1048576 ≤ n) (h2 : n ≤ 1048576) (h3 : -1048576 ≤ m) (h4 : m ≤ 1048576) : -1099511627776 ≤ n * m ∧ n * m ≤ 1099511627776 := by
  have k := lin (-1048576) 1048576 n m h1 h2
  omega
/-- Points of whole numbers. -/
abbrev wpt (n : Int) : En := ⟨n * 16777216, n * 16777216, n * 16777216, false⟩
theorem wpt_fine {n : Int} (h1 : -1048576 ≤ n) (h2 : n ≤ 1048576) : frB (n * 16777216) = true ∧ fineB (wpt n) = true := by
  have h : frB (n * 16777216) = true := frB_eq (by omega)
  exact ⟨h, pt_fine h⟩
theorem x_add {n m : Int} (h1 : -1048576 ≤ n) (h2 : n ≤ 1048576) (h3 : -1048576 ≤ m) (h4 : m ≤ 1048576) : enclB (addE (wpt n) (wpt m)) (n + m) 1 = true := by
  have fa := wpt_fine h1 h2
  have fb := wpt_fine h3 h4
  have t := fa_told fa.1 fb.1 (frB_eq (by omega))
  have ok : okE bA (wpt n) (wpt m) (prs2 (wpt n) (wpt m)) = true := okE_iff.2 ⟨t.1, fa.2, fb.2, by rw [(same_prs2 _ _).ok]; unfold bA; rw [t.1]; rfl⟩
  refine encl_told (same_prs2 _ _) bdA ok (fine_add _ _) (by decide) (rightB_eq (by omega)) (by decide) ?_ ?_
  · show faN (n * 16777216) (m * 16777216) * 1 ≤ _
    rw [t.2]; omega
  · show _ ≤ faN (n * 16777216) (m * 16777216) * 1
    rw [t.2]; omega
theorem x_sub {n m : Int} (h1 : -1048576 ≤ n) (h2 : n ≤ 1048576) (h3 : -1048576 ≤ m) (h4 : m ≤ 1048576) : enclB (subE (wpt n) (wpt m)) (n - m) 1 = true := by
  have fa := wpt_fine h1 h2
  have fb := wpt_fine h3 h4
  have t := fs_told fa.1 fb.1 (frB_eq (by omega))
  have ok : okE bS (wpt n) (wpt m) (prsX (wpt n) (wpt m)) = true := okE_iff.2 ⟨t.1, fa.2, fb.2, by rw [(same_prsX _ _).ok]; unfold bS; rw [t.1]; rfl⟩
  refine encl_told (same_prsX _ _) bdS ok (fine_sub _ _) (by decide) (rightB_eq (by omega)) (by decide) ?_ ?_
  · show fsN (n * 16777216) (m * 16777216) * 1 ≤ _
    rw [t.2]; omega
  · show _ ≤ fsN (n * 16777216) (m * 16777216) * 1
    rw [t.2]; omega
theorem x_mul {n m : Int} (h1 : -1048576 ≤ n) (h2 : n ≤ 1048576) (h3 : -1048576 ≤ m) (h4 : m ≤ 1048576) : (mulE (wpt n) (wpt m)).bad = true ∨ ((mulE (wpt n) (wpt m)).bad = false ∧ enclB (mulE (wpt n) (wpt m)) (n * m) 1 = true) := by
  cases ok : okE fmB (wpt n) (wpt m) (prs4 (wpt n) (wpt m))
  · left
    unfold mulE
    rw [told_bad ok]; rfl
  · right
    have e : mulE (wpt n) (wpt m) = ⟨fmN (n * 16777216) (m * 16777216) 0, lowF fmN (prs4 (wpt n) (wpt m)), highF fmN (prs4 (wpt n) (wpt m)), false⟩ := told_ok ok
    refine ⟨by rw [e], ?_⟩
    obtain ⟨_, _, _, hk⟩ := okE_iff.1 ok
    rw [(same_prs4 _ _).ok, Bool.and_eq_true] at hk
    have i1 := (fm_inv hk.1).2.2.1
    have i2 := (fm_inv hk.2).2.2.1
    have b := prod_bd h1 h2 h3 h4
    have ex : n * 16777216 * (m * 16777216) = n * m * 16777216 * 16777216 := by
      rw [← Int.mul_assoc, Int.mul_right_comm n 16777216 m]
    rw [ex, rnd_down, Int.mul_ediv_cancel _ (by decide)] at i1
    rw [ex, rnd_up, ← Int.neg_mul, Int.mul_ediv_cancel _ (by decide), Int.neg_neg] at i2
    refine encl_told (same_prs4 _ _) bdM ok (fine_mul _ _) (by decide) (rightB_eq (by omega)) (by decide) ?_ ?_
    · show fmN (n * 16777216) (m * 16777216) 1 * 1 ≤ _
      rw [i1]; omega
    · show _ ≤ fmN (n * 16777216) (m * 16777216) 2 * 1
      rw [i2]; omega
theorem q_bd (n m k : Int) (hm : 1 ≤ m) (h1 : -1048576 ≤ n) (h2 : n ≤ 1048576) (hk : MD k) : frB (rnd (n * 16777216) m k) = true := by
  have o := rnd_order (n * 16777216) m (by omega)
  rw [rnd_down] at o
  have l : -17592186044416 ≤ n * 16777216 / m := (Int.le_ediv_iff_mul_le (by omega)).2 (by omega)
  have u : n * 16777216 / m ≤ 17592186044416 := by
    have := Int.ediv_le_ediv (show (0 : Int) < m by omega) (show n * 16777216 ≤ 17592186044416 * m by omega)
    rw [Int.mul_ediv_cancel _ (by omega)] at this
    exact this
  apply frB_eq
  rcases hk with rfl | rfl | rfl
  · omega
  · rw [rnd_down]; omega
  · omega
theorem x_div {n m n' m' : Int} (h1 : -1048576 ≤ n) (h2 : n ≤ 1048576) (h3 : -1048576 ≤ m) (h4 : m ≤ 1048576) (h : (0 < m ∧ n' = n ∧ m' = m) ∨ (m < 0 ∧ n' = -n ∧ m' = -m)) : enclB (divE (wpt n) (wpt m)) n' m' = true := by
  have fa := wpt_fine h1 h2
  have fb := wpt_fine h3 h4
  have hm0 : m * 16777216 ≠ 0 := by omega
  have hm' : 1 ≤ m' := by omega
  have eq : qn (n * 16777216) (m * 16777216) = n' * 16777216 * 16777216 := by
    rcases h with ⟨k, rfl, rfl⟩ | ⟨k, rfl, rfl⟩
    · exact qn_pos (by omega)
    · rw [qn_neg (by omega)]; omega
  have es : szI (m * 16777216) = m' * 16777216 := by
    rcases h with ⟨k, rfl, rfl⟩ | ⟨k, rfl, rfl⟩
    · exact szI_pos' (by omega)
    · rw [szI_neg' (by omega), Int.neg_mul]
  have t : ∀ k, MD k → fdB (n * 16777216) (m * 16777216) k = true ∧ fdN (n * 16777216) (m * 16777216) k = rnd (n' * 16777216) m' k := by
    intro k hk
    have e : rnd (qn (n * 16777216) (m * 16777216)) (szI (m * 16777216)) k = rnd (n' * 16777216) m' k := by
      rw [eq, es]; exact rnd_scale _ _ _ _ (by omega) (by decide)
    have := fd_told fa.1 fb.1 hm0 hk (by rw [e]; exact q_bd n' m' k hm' (by omega) (by omega) hk)
    rw [e] at this
    exact this
  have t0 := t 0 (.inl rfl)
  have t1 := t 1 (.inr (.inl rfl))
  have t2 := t 2 (.inr (.inr rfl))
  have hz : zeroB (wpt m) = false := by
    unfold zeroB
    show (decide (m * 16777216 ≤ 0) && decide (0 ≤ m * 16777216)) = false
    rw [Bool.and_eq_false_iff]
    rcases h with ⟨k, _⟩ | ⟨k, _⟩
    · left; exact decide_eq_false (by omega)
    · right; exact decide_eq_false (by omega)
  have ok : okE fdB (wpt n) (wpt m) (prs4 (wpt n) (wpt m)) = true := okE_iff.2 ⟨t0.1, fa.2, fb.2, by rw [(same_prs4 _ _).ok, t1.1, t2.1]; rfl⟩
  have hfine := fine_div (wpt n) (wpt m)
  unfold divE at hfine ⊢
  rw [hz] at hfine ⊢
  refine encl_told (same_prs4 _ _) bdD ok hfine hm' (rightB_eq (by omega)) (rightB_eq (by omega)) ?_ ?_
  · show fdN (n * 16777216) (m * 16777216) 1 * m' ≤ _
    rw [t1.2, rnd_down]
    exact Int.ediv_mul_le _ (by omega)
  · show _ ≤ fdN (n * 16777216) (m * 16777216) 2 * m'
    rw [t2.2, rnd_up, Int.neg_mul]
    have := Int.ediv_mul_le (-(n' * 16777216)) (show m' ≠ 0 by omega)
    omega
theorem x_div0 (n : Int) : divE (wpt n) (wpt 0) = wrongE := rfl
theorem of_whole (n : Int) (h1 : -1048576 ≤ n) (h2 : n ≤ 1048576) (w : World) : Calls Try.prog 23 #[.agg #[.int .i64 0, .int .i64 0, .int .i64 0, .bool false], .int .i64 n] w fun e w' => e = .returned (enV (wpt n)) ∧ Bl w w' := by
  have := ofE_any zeroE n w
  have hf : foB n = true := by unfold foB; rw [decide_eq_true (by omega), decide_eq_true (by omega)]; rfl
  have hn : foN n = n * 16777216 := by unfold foN; rw [hf]; rfl
  rw [hf, hn] at this
  exact this
set_option maxHeartbeats 1000000 in
theorem exact_z (n m : Int) (w : World) (h1 : -1048576 ≤ n) (h2 : n ≤ 1048576) (h3 : -1048576 ≤ m) (h4 : m ≤ 1048576) (hm : m = 0) :
    Calls Try.prog 8 #[.int .i64 n, .int .i64 m] w fun e w' => e = .returned (.bool true) ∧ Bl w w' := by
  have b := prod_bd h1 h2 h3 h4
  obtain ⟨p1, p2⟩ := b
  have PA := hideP (of_whole n h1 h2)
  have PB := hideP (of_whole m h3 h4)
  have T1 := hideP (emul_any (wpt n) (wpt m))
  have T2 := hideP (eadd_any (wpt n) (wpt m))
  have T3 := hideP (esub_any (wpt n) (wpt m))
  have T4 := hideP (ediv_any (wpt n) (wpt m))
  have hx := x_mul h1 h2 h3 h4
  have EX := fun w => encl_any (mulE (wpt n) (wpt m)) (n * m) 1 w
  have EA := fun w => encl_any (addE (wpt n) (wpt m)) (n + m) 1 w
  have ES := fun w => encl_any (subE (wpt n) (wpt m)) (n - m) 1 w
  rw [x_add h1 h2 h3 h4] at EA
  rw [x_sub h1 h2 h3 h4] at ES
  have hy : (divE (wpt n) (wpt m)).bad = true := by subst hm; rw [x_div0]; rfl
  generalize mulE (wpt n) (wpt m) = x at *
  generalize addE (wpt n) (wpt m) = s at *
  generalize subE (wpt n) (wpt m) = d at *
  generalize divE (wpt n) (wpt m) = y at *
  have HEA := hideP EA
  have HES := hideP ES
  clear EA ES
  obtain ⟨yv, yl, yh, yb⟩ := y
  simp only at hy
  subst hy
  have HM := hideP hm
  clear hm
  have hxb : ∀ w, x.bad = false → Calls Try.prog 27 #[enV x, .int .i64 (n * m), .int .i64 1] w fun e w' => e = .returned (.bool true) ∧ Bl w w' := by
    intro w hb
    have := EX w
    rcases hx with h | h
    · rw [h] at hb; cases hb
    · rw [h.2] at this; exact this
  have HXB := hideP hxb
  clear hxb EX hx
  obtain ⟨xv, xl, xh, xb⟩ := x
  go_enter Try.func8, Try.ntmps8
  go_wp2_with fail
  refine (PA.out _).mono ?_
  rintro e w1 ⟨rfl, g1⟩
  go_wp2_with fail
  refine (PB.out _).mono ?_
  rintro e w2 ⟨rfl, g2⟩
  obtain ⟨W, X⟩ := ab_ex w2 (wpt n) (wpt m)
  have HX := hideP X
  have HW := hideP ((g1.trans g2).trans X.bl)
  clear X g1 g2
  go_wp2_with fail
  rw [← HX.out.eq]
  refine (T1.out _).mono ?_
  rintro e w3 ⟨rfl, g3⟩
  obtain ⟨V, hV⟩ : ∃ V, V = w3.alloc (.cells #[.int .i64 xv, .int .i64 xl, .int .i64 xh, .bool xb] 23) := ⟨_, rfl⟩
  have bV : Bl W V := by rw [hV]; exact g3.alloc _
  have xV : Box V w3.heap.size ⟨xv, xl, xh, xb⟩ := by rw [hV]; exact Box.new w3 ⟨xv, xl, xh, xb⟩ _
  have HV := hideP hV
  have HXV := hideP xV
  have HBV := hideP bV
  clear hV xV bV g3
  have hP : ∃ w4, True := ⟨w, trivial⟩
  clear hP
  cases xb
  · skip
    go_wp2_with fail
    rw [← HV.out]
    refine (HXB.out _ (by first | rfl | trivial)).mono ?_
    rintro e w4 ⟨rfl, g4⟩
    have H4 := hideP (HBV.out.trans g4)
    clear g4
    obtain ⟨a0, a1, a2, a3, _, _, _, _, _⟩ := HX.out.ba.later H4.out
    obtain ⟨b0, b1, b2, b3, _, _, _, _, _⟩ := HX.out.bb.later H4.out
    dsimp only at a0 a1 a2 a3 b0 b1 b2 b3
    go_wp2_with fail
    refine (T2.out _).mono ?_
    rintro e w5 ⟨rfl, g5⟩
    clear a0 a1 a2 a3 b0 b1 b2 b3
    have H5 := hideP (H4.out.trans g5)
    clear g5
    go_wp2_with fail
    refine (HEA.out _).mono ?_
    rintro e w6 ⟨rfl, g6⟩
    have H6 := hideP (H5.out.trans g6)
    clear g6
    obtain ⟨a0, a1, a2, a3, _, _, _, _, _⟩ := HX.out.ba.later H6.out
    obtain ⟨b0, b1, b2, b3, _, _, _, _, _⟩ := HX.out.bb.later H6.out
    dsimp only at a0 a1 a2 a3 b0 b1 b2 b3
    go_wp2_with fail
    refine (T3.out _).mono ?_
    rintro e w7 ⟨rfl, g7⟩
    clear a0 a1 a2 a3 b0 b1 b2 b3
    have H7 := hideP (H6.out.trans g7)
    clear g7
    go_wp2_with fail
    refine (HES.out _).mono ?_
    rintro e w8 ⟨rfl, g8⟩
    have H8 := hideP (H7.out.trans g8)
    clear g8
    obtain ⟨a0, a1, a2, a3, _, _, _, _, _⟩ := HX.out.ba.later H8.out
    obtain ⟨b0, b1, b2, b3, _, _, _, _, _⟩ := HX.out.bb.later H8.out
    dsimp only at a0 a1 a2 a3 b0 b1 b2 b3
    go_wp2_with fail
    refine (T4.out _).mono ?_
    rintro e w9 ⟨rfl, g9⟩
    clear a0 a1 a2 a3 b0 b1 b2 b3
    have H9 := hideP ((HW.out.trans H8.out).trans g9)
    clear g9
    have hm := HM.out
    go_wp2_with fail
    refine (awake3_any _).mono ?_
    rintro e w10 ⟨rfl, g10⟩
    go_wp2
    go_ret
    exact ⟨rfl, (H9.out.alloc _).trans g10⟩
  · clear HXB
    have H4 := HBV
    obtain ⟨a0, a1, a2, a3, _, _, _, _, _⟩ := HX.out.ba.later H4.out
    obtain ⟨b0, b1, b2, b3, _, _, _, _, _⟩ := HX.out.bb.later H4.out
    rw [HV.out] at a0 a1 a2 a3 b0 b1 b2 b3
    dsimp only at a0 a1 a2 a3 b0 b1 b2 b3
    go_wp2_with fail
    rw [← HV.out]
    refine (T2.out _).mono ?_
    rintro e w5 ⟨rfl, g5⟩
    clear a0 a1 a2 a3 b0 b1 b2 b3
    have H5 := hideP (H4.out.trans g5)
    clear g5
    go_wp2_with fail
    refine (HEA.out _).mono ?_
    rintro e w6 ⟨rfl, g6⟩
    have H6 := hideP (H5.out.trans g6)
    clear g6
    obtain ⟨a0, a1, a2, a3, _, _, _, _, _⟩ := HX.out.ba.later H6.out
    obtain ⟨b0, b1, b2, b3, _, _, _, _, _⟩ := HX.out.bb.later H6.out
    dsimp only at a0 a1 a2 a3 b0 b1 b2 b3
    go_wp2_with fail
    refine (T3.out _).mono ?_
    rintro e w7 ⟨rfl, g7⟩
    clear a0 a1 a2 a3 b0 b1 b2 b3
    have H7 := hideP (H6.out.trans g7)
    clear g7
    go_wp2_with fail
    refine (HES.out _).mono ?_
    rintro e w8 ⟨rfl, g8⟩
    have H8 := hideP (H7.out.trans g8)
    clear g8
    obtain ⟨a0, a1, a2, a3, _, _, _, _, _⟩ := HX.out.ba.later H8.out
    obtain ⟨b0, b1, b2, b3, _, _, _, _, _⟩ := HX.out.bb.later H8.out
    dsimp only at a0 a1 a2 a3 b0 b1 b2 b3
    go_wp2_with fail
    refine (T4.out _).mono ?_
    rintro e w9 ⟨rfl, g9⟩
    clear a0 a1 a2 a3 b0 b1 b2 b3
    have H9 := hideP ((HW.out.trans H8.out).trans g9)
    clear g9
    have hm := HM.out
    go_wp2_with fail
    refine (awake3_any _).mono ?_
    rintro e w10 ⟨rfl, g10⟩
    go_wp2
    go_ret
    exact ⟨rfl, (H9.out.alloc _).trans g10⟩
set_option maxHeartbeats 1000000 in
theorem exact_n (n m : Int) (w : World) (h1 : -1048576 ≤ n) (h2 : n ≤ 1048576) (h3 : -1048576 ≤ m) (h4 : m ≤ 1048576) (hm : m < 0) :
    Calls Try.prog 8 #[.int .i64 n, .int .i64 m] w fun e w' => e = .returned (.bool true) ∧ Bl w w' := by
  have b := prod_bd h1 h2 h3 h4
  obtain ⟨p1, p2⟩ := b
  have PA := hideP (of_whole n h1 h2)
  have PB := hideP (of_whole m h3 h4)
  have T1 := hideP (emul_any (wpt n) (wpt m))
  have T2 := hideP (eadd_any (wpt n) (wpt m))
  have T3 := hideP (esub_any (wpt n) (wpt m))
  have T4 := hideP (ediv_any (wpt n) (wpt m))
  have hx := x_mul h1 h2 h3 h4
  have EX := fun w => encl_any (mulE (wpt n) (wpt m)) (n * m) 1 w
  have EA := fun w => encl_any (addE (wpt n) (wpt m)) (n + m) 1 w
  have ES := fun w => encl_any (subE (wpt n) (wpt m)) (n - m) 1 w
  rw [x_add h1 h2 h3 h4] at EA
  rw [x_sub h1 h2 h3 h4] at ES
  have EY := fun w => encl_any (divE (wpt n) (wpt m)) (-n) (-m) w
  rw [x_div h1 h2 h3 h4 (.inr ⟨hm, rfl, rfl⟩)] at EY
  generalize mulE (wpt n) (wpt m) = x at *
  generalize addE (wpt n) (wpt m) = s at *
  generalize subE (wpt n) (wpt m) = d at *
  generalize divE (wpt n) (wpt m) = y at *
  have HEA := hideP EA
  have HES := hideP ES
  clear EA ES
  have HEY := hideP EY
  clear EY
  have hxb : ∀ w, x.bad = false → Calls Try.prog 27 #[enV x, .int .i64 (n * m), .int .i64 1] w fun e w' => e = .returned (.bool true) ∧ Bl w w' := by
    intro w hb
    have := EX w
    rcases hx with h | h
    · rw [h] at hb; cases hb
    · rw [h.2] at this; exact this
  have HXB := hideP hxb
  clear hxb EX hx
  obtain ⟨xv, xl, xh, xb⟩ := x
  go_enter Try.func8, Try.ntmps8
  go_wp2_with fail
  refine (PA.out _).mono ?_
  rintro e w1 ⟨rfl, g1⟩
  go_wp2_with fail
  refine (PB.out _).mono ?_
  rintro e w2 ⟨rfl, g2⟩
  obtain ⟨W, X⟩ := ab_ex w2 (wpt n) (wpt m)
  have HX := hideP X
  have HW := hideP ((g1.trans g2).trans X.bl)
  clear X g1 g2
  go_wp2_with fail
  rw [← HX.out.eq]
  refine (T1.out _).mono ?_
  rintro e w3 ⟨rfl, g3⟩
  obtain ⟨V, hV⟩ : ∃ V, V = w3.alloc (.cells #[.int .i64 xv, .int .i64 xl, .int .i64 xh, .bool xb] 23) := ⟨_, rfl⟩
  have bV : Bl W V := by rw [hV]; exact g3.alloc _
  have xV : Box V w3.heap.size ⟨xv, xl, xh, xb⟩ := by rw [hV]; exact Box.new w3 ⟨xv, xl, xh, xb⟩ _
  have HV := hideP hV
  have HXV := hideP xV
  have HBV := hideP bV
  clear hV xV bV g3
  have hP : ∃ w4, True := ⟨w, trivial⟩
  clear hP
  cases xb
  · skip
    go_wp2_with fail
    rw [← HV.out]
    refine (HXB.out _ (by first | rfl | trivial)).mono ?_
    rintro e w4 ⟨rfl, g4⟩
    have H4 := hideP (HBV.out.trans g4)
    clear g4
    obtain ⟨a0, a1, a2, a3, _, _, _, _, _⟩ := HX.out.ba.later H4.out
    obtain ⟨b0, b1, b2, b3, _, _, _, _, _⟩ := HX.out.bb.later H4.out
    dsimp only at a0 a1 a2 a3 b0 b1 b2 b3
    go_wp2_with fail
    refine (T2.out _).mono ?_
    rintro e w5 ⟨rfl, g5⟩
    clear a0 a1 a2 a3 b0 b1 b2 b3
    have H5 := hideP (H4.out.trans g5)
    clear g5
    go_wp2_with fail
    refine (HEA.out _).mono ?_
    rintro e w6 ⟨rfl, g6⟩
    have H6 := hideP (H5.out.trans g6)
    clear g6
    obtain ⟨a0, a1, a2, a3, _, _, _, _, _⟩ := HX.out.ba.later H6.out
    obtain ⟨b0, b1, b2, b3, _, _, _, _, _⟩ := HX.out.bb.later H6.out
    dsimp only at a0 a1 a2 a3 b0 b1 b2 b3
    go_wp2_with fail
    refine (T3.out _).mono ?_
    rintro e w7 ⟨rfl, g7⟩
    clear a0 a1 a2 a3 b0 b1 b2 b3
    have H7 := hideP (H6.out.trans g7)
    clear g7
    go_wp2_with fail
    refine (HES.out _).mono ?_
    rintro e w8 ⟨rfl, g8⟩
    have H8 := hideP (H7.out.trans g8)
    clear g8
    obtain ⟨a0, a1, a2, a3, _, _, _, _, _⟩ := HX.out.ba.later H8.out
    obtain ⟨b0, b1, b2, b3, _, _, _, _, _⟩ := HX.out.bb.later H8.out
    dsimp only at a0 a1 a2 a3 b0 b1 b2 b3
    go_wp2_with fail
    refine (T4.out _).mono ?_
    rintro e w9 ⟨rfl, g9⟩
    clear a0 a1 a2 a3 b0 b1 b2 b3
    have H9 := hideP ((HW.out.trans H8.out).trans g9)
    clear g9
    go_wp2_with fail
    refine (HEY.out _).mono ?_
    rintro e w10 ⟨rfl, g10⟩
    have H10 := hideP ((H9.out.alloc _).trans g10)
    clear g10
    go_wp2_with fail
    refine (awake3_any _).mono ?_
    rintro e w11 ⟨rfl, g11⟩
    go_wp2
    go_ret
    exact ⟨rfl, H10.out.trans g11⟩
  · clear HXB
    have H4 := HBV
    obtain ⟨a0, a1, a2, a3, _, _, _, _, _⟩ := HX.out.ba.later H4.out
    obtain ⟨b0, b1, b2, b3, _, _, _, _, _⟩ := HX.out.bb.later H4.out
    rw [HV.out] at a0 a1 a2 a3 b0 b1 b2 b3
    dsimp only at a0 a1 a2 a3 b0 b1 b2 b3
    go_wp2_with fail
    rw [← HV.out]
    refine (T2.out _).mono ?_
    rintro e w5 ⟨rfl, g5⟩
    clear a0 a1 a2 a3 b0 b1 b2 b3
    have H5 := hideP (H4.out.trans g5)
    clear g5
    go_wp2_with fail
    refine (HEA.out _).mono ?_
    rintro e w6 ⟨rfl, g6⟩
    have H6 := hideP (H5.out.trans g6)
    clear g6
    obtain ⟨a0, a1, a2, a3, _, _, _, _, _⟩ := HX.out.ba.later H6.out
    obtain ⟨b0, b1, b2, b3, _, _, _, _, _⟩ := HX.out.bb.later H6.out
    dsimp only at a0 a1 a2 a3 b0 b1 b2 b3
    go_wp2_with fail
    refine (T3.out _).mono ?_
    rintro e w7 ⟨rfl, g7⟩
    clear a0 a1 a2 a3 b0 b1 b2 b3
    have H7 := hideP (H6.out.trans g7)
    clear g7
    go_wp2_with fail
    refine (HES.out _).mono ?_
    rintro e w8 ⟨rfl, g8⟩
    have H8 := hideP (H7.out.trans g8)
    clear g8
    obtain ⟨a0, a1, a2, a3, _, _, _, _, _⟩ := HX.out.ba.later H8.out
    obtain ⟨b0, b1, b2, b3, _, _, _, _, _⟩ := HX.out.bb.later H8.out
    dsimp only at a0 a1 a2 a3 b0 b1 b2 b3
    go_wp2_with fail
    refine (T4.out _).mono ?_
    rintro e w9 ⟨rfl, g9⟩
    clear a0 a1 a2 a3 b0 b1 b2 b3
    have H9 := hideP ((HW.out.trans H8.out).trans g9)
    clear g9
    go_wp2_with fail
    refine (HEY.out _).mono ?_
    rintro e w10 ⟨rfl, g10⟩
    have H10 := hideP ((H9.out.alloc _).trans g10)
    clear g10
    go_wp2_with fail
    refine (awake3_any _).mono ?_
    rintro e w11 ⟨rfl, g11⟩
    go_wp2
    go_ret
    exact ⟨rfl, H10.out.trans g11⟩
set_option maxHeartbeats 1000000 in
theorem exact_p (n m : Int) (w : World) (h1 : -1048576 ≤ n) (h2 : n ≤ 1048576) (h3 : -1048576 ≤ m) (h4 : m ≤ 1048576) (hm : 0 < m) :
    Calls Try.prog 8 #[.int .i64 n, .int .i64 m] w fun e w' => e = .returned (.bool true) ∧ Bl w w' := by
  have b := prod_bd h1 h2 h3 h4
  obtain ⟨p1, p2⟩ := b
  have PA := hideP (of_whole n h1 h2)
  have PB := hideP (of_whole m h3 h4)
  have T1 := hideP (emul_any (wpt n) (wpt m))
  have T2 := hideP (eadd_any (wpt n) (wpt m))
  have T3 := hideP (esub_any (wpt n) (wpt m))
  have T4 := hideP (ediv_any (wpt n) (wpt m))
  have hx := x_mul h1 h2 h3 h4
  have EX := fun w => encl_any (mulE (wpt n) (wpt m)) (n * m) 1 w
  have EA := fun w => encl_any (addE (wpt n) (wpt m)) (n + m) 1 w
  have ES := fun w => encl_any (subE (wpt n) (wpt m)) (n - m) 1 w
  rw [x_add h1 h2 h3 h4] at EA
  rw [x_sub h1 h2 h3 h4] at ES
  have EY := fun w => encl_any (divE (wpt n) (wpt m)) n m w
  rw [x_div h1 h2 h3 h4 (.inl ⟨hm, rfl, rfl⟩)] at EY
  generalize mulE (wpt n) (wpt m) = x at *
  generalize addE (wpt n) (wpt m) = s at *
  generalize subE (wpt n) (wpt m) = d at *
  generalize divE (wpt n) (wpt m) = y at *
  have HEA := hideP EA
  have HES := hideP ES
  clear EA ES
  have HEY := hideP EY
  clear EY
  have hxb : ∀ w, x.bad = false → Calls Try.prog 27 #[enV x, .int .i64 (n * m), .int .i64 1] w fun e w' => e = .returned (.bool true) ∧ Bl w w' := by
    intro w hb
    have := EX w
    rcases hx with h | h
    · rw [h] at hb; cases hb
    · rw [h.2] at this; exact this
  have HXB := hideP hxb
  clear hxb EX hx
  obtain ⟨xv, xl, xh, xb⟩ := x
  go_enter Try.func8, Try.ntmps8
  go_wp2_with fail
  refine (PA.out _).mono ?_
  rintro e w1 ⟨rfl, g1⟩
  go_wp2_with fail
  refine (PB.out _).mono ?_
  rintro e w2 ⟨rfl, g2⟩
  obtain ⟨W, X⟩ := ab_ex w2 (wpt n) (wpt m)
  have HX := hideP X
  have HW := hideP ((g1.trans g2).trans X.bl)
  clear X g1 g2
  go_wp2_with fail
  rw [← HX.out.eq]
  refine (T1.out _).mono ?_
  rintro e w3 ⟨rfl, g3⟩
  obtain ⟨V, hV⟩ : ∃ V, V = w3.alloc (.cells #[.int .i64 xv, .int .i64 xl, .int .i64 xh, .bool xb] 23) := ⟨_, rfl⟩
  have bV : Bl W V := by rw [hV]; exact g3.alloc _
  have xV : Box V w3.heap.size ⟨xv, xl, xh, xb⟩ := by rw [hV]; exact Box.new w3 ⟨xv, xl, xh, xb⟩ _
  have HV := hideP hV
  have HXV := hideP xV
  have HBV := hideP bV
  clear hV xV bV g3
  have hP : ∃ w4, True := ⟨w, trivial⟩
  clear hP
  cases xb
  · skip
    go_wp2_with fail
    rw [← HV.out]
    refine (HXB.out _ (by first | rfl | trivial)).mono ?_
    rintro e w4 ⟨rfl, g4⟩
    have H4 := hideP (HBV.out.trans g4)
    clear g4
    obtain ⟨a0, a1, a2, a3, _, _, _, _, _⟩ := HX.out.ba.later H4.out
    obtain ⟨b0, b1, b2, b3, _, _, _, _, _⟩ := HX.out.bb.later H4.out
    dsimp only at a0 a1 a2 a3 b0 b1 b2 b3
    go_wp2_with fail
    refine (T2.out _).mono ?_
    rintro e w5 ⟨rfl, g5⟩
    clear a0 a1 a2 a3 b0 b1 b2 b3
    have H5 := hideP (H4.out.trans g5)
    clear g5
    go_wp2_with fail
    refine (HEA.out _).mono ?_
    rintro e w6 ⟨rfl, g6⟩
    have H6 := hideP (H5.out.trans g6)
    clear g6
    obtain ⟨a0, a1, a2, a3, _, _, _, _, _⟩ := HX.out.ba.later H6.out
    obtain ⟨b0, b1, b2, b3, _, _, _, _, _⟩ := HX.out.bb.later H6.out
    dsimp only at a0 a1 a2 a3 b0 b1 b2 b3
    go_wp2_with fail
    refine (T3.out _).mono ?_
    rintro e w7 ⟨rfl, g7⟩
    clear a0 a1 a2 a3 b0 b1 b2 b3
    have H7 := hideP (H6.out.trans g7)
    clear g7
    go_wp2_with fail
    refine (HES.out _).mono ?_
    rintro e w8 ⟨rfl, g8⟩
    have H8 := hideP (H7.out.trans g8)
    clear g8
    obtain ⟨a0, a1, a2, a3, _, _, _, _, _⟩ := HX.out.ba.later H8.out
    obtain ⟨b0, b1, b2, b3, _, _, _, _, _⟩ := HX.out.bb.later H8.out
    dsimp only at a0 a1 a2 a3 b0 b1 b2 b3
    go_wp2_with fail
    refine (T4.out _).mono ?_
    rintro e w9 ⟨rfl, g9⟩
    clear a0 a1 a2 a3 b0 b1 b2 b3
    have H9 := hideP ((HW.out.trans H8.out).trans g9)
    clear g9
    go_wp2_with fail
    refine (HEY.out _).mono ?_
    rintro e w10 ⟨rfl, g10⟩
    have H10 := hideP ((H9.out.alloc _).trans g10)
    clear g10
    go_wp2_with fail
    refine (awake3_any _).mono ?_
    rintro e w11 ⟨rfl, g11⟩
    go_wp2
    go_ret
    exact ⟨rfl, H10.out.trans g11⟩
  · clear HXB
    have H4 := HBV
    obtain ⟨a0, a1, a2, a3, _, _, _, _, _⟩ := HX.out.ba.later H4.out
    obtain ⟨b0, b1, b2, b3, _, _, _, _, _⟩ := HX.out.bb.later H4.out
    rw [HV.out] at a0 a1 a2 a3 b0 b1 b2 b3
    dsimp only at a0 a1 a2 a3 b0 b1 b2 b3
    go_wp2_with fail
    rw [← HV.out]
    refine (T2.out _).mono ?_
    rintro e w5 ⟨rfl, g5⟩
    clear a0 a1 a2 a3 b0 b1 b2 b3
    have H5 := hideP (H4.out.trans g5)
    clear g5
    go_wp2_with fail
    refine (HEA.out _).mono ?_
    rintro e w6 ⟨rfl, g6⟩
    have H6 := hideP (H5.out.trans g6)
    clear g6
    obtain ⟨a0, a1, a2, a3, _, _, _, _, _⟩ := HX.out.ba.later H6.out
    obtain ⟨b0, b1, b2, b3, _, _, _, _, _⟩ := HX.out.bb.later H6.out
    dsimp only at a0 a1 a2 a3 b0 b1 b2 b3
    go_wp2_with fail
    refine (T3.out _).mono ?_
    rintro e w7 ⟨rfl, g7⟩
    clear a0 a1 a2 a3 b0 b1 b2 b3
    have H7 := hideP (H6.out.trans g7)
    clear g7
    go_wp2_with fail
    refine (HES.out _).mono ?_
    rintro e w8 ⟨rfl, g8⟩
    have H8 := hideP (H7.out.trans g8)
    clear g8
    obtain ⟨a0, a1, a2, a3, _, _, _, _, _⟩ := HX.out.ba.later H8.out
    obtain ⟨b0, b1, b2, b3, _, _, _, _, _⟩ := HX.out.bb.later H8.out
    dsimp only at a0 a1 a2 a3 b0 b1 b2 b3
    go_wp2_with fail
    refine (T4.out _).mono ?_
    rintro e w9 ⟨rfl, g9⟩
    clear a0 a1 a2 a3 b0 b1 b2 b3
    have H9 := hideP ((HW.out.trans H8.out).trans g9)
    clear g9
    go_wp2_with fail
    refine (HEY.out _).mono ?_
    rintro e w10 ⟨rfl, g10⟩
    have H10 := hideP ((H9.out.alloc _).trans g10)
    clear g10
    go_wp2_with fail
    refine (awake3_any _).mono ?_
    rintro e w11 ⟨rfl, g11⟩
    go_wp2
    go_ret
    exact ⟨rfl, H10.out.trans g11⟩
set_option maxHeartbeats 1000000 in
theorem exact_out (n m : Int) (w : World) (h : n < -1048576 ∨ (-1048576 ≤ n ∧ 1048576 < n) ∨ (-1048576 ≤ n ∧ n ≤ 1048576 ∧ m < -1048576) ∨ (-1048576 ≤ n ∧ n ≤ 1048576 ∧ -1048576 ≤ m ∧ 1048576 < m)) :
    Calls Try.prog 8 #[.int .i64 n, .int .i64 m] w fun e w' => e = .returned (.bool true) ∧ Bl w w' := by
  rcases h with h | ⟨h, h2⟩ | ⟨h, h2, h3⟩ | ⟨h, h2, h3, h4⟩
  all_goals
    go_enter Try.func8, Try.ntmps8
    go_wp2_with fail
    refine (awake3_any _).mono ?_
    rintro e w1 ⟨rfl, g1⟩
    go_wp2
    go_ret
    exact ⟨rfl, g1⟩
theorem walk_EnvExact (n m : Int) (w : World) :
    Calls Try.prog 8 #[.int .i64 n, .int .i64 m] w fun e w' => e = .returned (.bool true) ∧ Bl w w' := by
  rcases (by omega : (n < -1048576 ∨ (-1048576 ≤ n ∧ 1048576 < n) ∨ (-1048576 ≤ n ∧ n ≤ 1048576 ∧ m < -1048576) ∨ (-1048576 ≤ n ∧ n ≤ 1048576 ∧ -1048576 ≤ m ∧ 1048576 < m)) ∨ ((-1048576 ≤ n ∧ n ≤ 1048576 ∧ -1048576 ≤ m ∧ m ≤ 1048576) ∧ (m = 0 ∨ m < 0 ∨ 0 < m))) with h | ⟨⟨h1, h2, h3, h4⟩, h | h | h⟩
  · exact exact_out n m w h
  · exact exact_z n m w h1 h2 h3 h4 h
  · exact exact_n n m w h1 h2 h3 h4 h
  · exact exact_p n m w h1 h2 h3 h4 h
end Go.Proofs.Ytgidengfnelggaa
