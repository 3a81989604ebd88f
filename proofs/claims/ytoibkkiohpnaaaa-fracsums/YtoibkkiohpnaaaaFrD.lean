/- The walk of FracRoots. -/
import Derived.Test.YtoibkkiohpnaaaaFr8
import Derived.Test.YtoibkkiohpnaaaaFrB
namespace Go.Proofs.Ytoibkkiohpnaaaa
open Go.RowKit
set_option linter.unusedSimpArgs false
set_option linter.unusedVariables false

theorem newR_one {n : Int} (h : smB n = true) : newR n 1 = ⟨n, 1, false⟩ := by
  have h' := smB_iff.1 h
  have f : fineR ⟨n, 1, false⟩ = true := fine_mk (by decide) (by decide) h'.1 h'.2 (Int.gcd_one)
  exact ((fine_new (a := ⟨n, 1, false⟩) rfl).1 f).symm
theorem newR_far {n : Int} (h : smB n = false) : newR n 1 = wrongR := by
  unfold newR
  cases hg : gvB n
  · rfl
  · show lowR n 1 = wrongR
    rw [lowR_pos n 1 (by decide) 1 (by simp), Int.tdiv_one, h]
    rfl
theorem flR_nn {n : Int} (h : 0 ≤ n) : flR n = rtF n := by unfold flR; rw [if_neg (by omega)]
theorem sqR_yes {n : Int} (h : ¬ sqR n < 0) : rtF n * rtF n = n ∧ sqR n = rtF n := by
  unfold sqR at h ⊢
  split
  · rename_i e; exact ⟨e, rfl⟩
  · rename_i e; rw [if_neg e] at h; omega
theorem sqR_no {n : Int} (h0 : 0 ≤ n) (h : sqR n < 0) : rtF n * rtF n ≠ n := by
  intro e
  unfold sqR at h
  rw [if_pos e] at h
  have := rtF_spec n h0
  omega
/-- All ways of a root: none, or of both parts. -/
theorem root_cases (a : Fr) :
    (fineR a = false ∧ rootR a = wrongR ∧ signR a = 0) ∨ (fineR a = true ∧ a.n < 0 ∧ rootR a = wrongR ∧ signR a = -1)
    ∨ (fineR a = true ∧ ¬ a.n < 0 ∧ sqR a.n < 0 ∧ rootR a = wrongR ∧ signR a = cmpI a.n 0) ∨ (fineR a = true ∧ ¬ a.n < 0 ∧ ¬ sqR a.n < 0 ∧ sqR a.d < 0 ∧ rootR a = wrongR ∧ signR a = cmpI a.n 0)
    ∨ (fineR a = true ∧ ¬ a.n < 0 ∧ ¬ sqR a.n < 0 ∧ ¬ sqR a.d < 0 ∧ rootR a = ⟨sqR a.n, sqR a.d, false⟩ ∧ mulR ⟨sqR a.n, sqR a.d, false⟩ ⟨sqR a.n, sqR a.d, false⟩ = a ∧ signR a = cmpI a.n 0) := by
  cases hf : fineR a
  · exact .inl ⟨rfl, bad_rootL hf, bad_signL hf⟩
  · have sg : signR a = cmpI a.n 0 := by unfold signR; rw [hf]; rfl
    have d1 := (fineR_iff.1 hf).2.1
    by_cases hn : a.n < 0
    · refine .inr (.inl ⟨rfl, hn, rootR_no hf ?_, ?_⟩)
      · rintro ⟨e, _⟩
        unfold flR at e
        rw [if_pos hn] at e
        omega
      · rw [sg]; exact cmpI_lt hn
    · by_cases h1 : sqR a.n < 0
      · exact .inr (.inr (.inl ⟨rfl, hn, h1, rootR_no hf (fun e => sqR_no (by omega) h1 (by rw [← flR_nn (by omega)]; exact e.1)), sg⟩))
      · by_cases h2 : sqR a.d < 0
        · exact .inr (.inr (.inr (.inl ⟨rfl, hn, h1, h2, rootR_no hf (fun e => sqR_no (by omega) h2 (by rw [← flR_nn (by omega)]; exact e.2)), sg⟩)))
        · obtain ⟨e1, s1⟩ := sqR_yes h1
          obtain ⟨e2, s2⟩ := sqR_yes h2
          have r := rootR_yes hf (sqR a.n) (sqR a.d) (by rw [s1, flR_nn (by omega)]) (by rw [s2, flR_nn (by omega)]) (by rw [s1]; exact e1) (by rw [s2]; exact e2)
          exact .inr (.inr (.inr (.inr ⟨rfl, hn, h1, h2, r.1, r.2, sg⟩)))

theorem blOf {f : FuncId} {args : Array Value} {w : World} {v : Value} (h : Calls Try.prog f args w fun e w' => e = .returned v ∧ w' = w) : Calls Try.prog f args w fun e w' => e = .returned v ∧ Bl w w' :=
  h.mono fun _ _ ⟨he, hw⟩ => ⟨he, by subst hw; exact Bl.refl _⟩

set_option maxHeartbeats 2000000 in
theorem walk_FracRoots_0_true (a : Fr) (n : Int) (w : World) (hf : fineR a = false) (hr : rootR a = ⟨0, 0, true⟩) (hs : signR a = 0) (hsm : smB n = true) (hnw : newR n 1 = ⟨n, 1, false⟩) :
    Calls Try.prog 6 #[frV a, .int .i64 n] w fun e w' => e = .returned (.bool true) ∧ Bl w w' := by
  obtain ⟨W, X⟩ := oneA_ex w a
  have HX := hideP X
  clear X
  have FL := fineL_any a
  have FM := fineR_any a
  rw [hf] at FL FM
  have FA := hideP FL
  have FI := hideP FM
  have SG := rsign_any a
  rw [hs] at SG
  have S := hideP SG
  have RT := rroot_any a
  rw [hr] at RT
  have R := hideP RT
  have OF0 := rof_any a n
  rw [hnw] at OF0
  have OF := hideP OF0
  have AW := hideP awake4_any
  have WR := hideP wrV_any
  have SM0 := fun w => blOf (small_any n w)
  rw [hsm] at SM0
  have SM := hideP SM0
  have EG := Try.frGuard
  have NQ := neq_self n 1 false
  have EW := eql_wr
  clear FL FM SG RT OF0 SM0 hsm hnw hr hs hf
  go_enter Try.func6, Try.ntmps6
  go_wp2_with fail
  rw [← HX.out.eq]
  obtain ⟨a0, a1, a2, af0, af1, af2, al⟩ := HX.out.ba.later (Bl.refl W)
  try dsimp only at a0 a1 a2
  go_wp2_with fail
  refine (R.out _).mono ?_
  rintro e w1 ⟨rfl, h1⟩
  have H1 := hideP h1
  clear h1
  clear a0 a1 a2 af0 af1 af2 al
  obtain ⟨a0, a1, a2, af0, af1, af2, al⟩ := HX.out.ba.later H1.out
  try dsimp only at a0 a1 a2
  go_wp2_with fail
  obtain ⟨w2, Y2⟩ := oneA_ex w1 ⟨0, 0, true⟩
  have e2 := Y2.eq
  try dsimp only at e2
  rw [← e2]
  have H2 := hideP Y2.bl
  have X2 := hideP Y2.ba
  clear Y2 e2
  clear a0 a1 a2 af0 af1 af2 al
  obtain ⟨a0, a1, a2, af0, af1, af2, al⟩ := HX.out.ba.later (H1.out.trans H2.out)
  try dsimp only at a0 a1 a2
  obtain ⟨x0, x1, x2, xf0, xf1, xf2, xl⟩ := X2.out.later (Bl.refl w2)
  try dsimp only at x0 x1 x2
  go_wp2_with fail
  refine (FA.out _).mono ?_
  rintro e w3 ⟨rfl, h3⟩
  have H3 := hideP h3
  clear h3
  clear a0 a1 a2 af0 af1 af2 al x0 x1 x2 xf0 xf1 xf2 xl
  obtain ⟨a0, a1, a2, af0, af1, af2, al⟩ := HX.out.ba.later ((H1.out.trans H2.out).trans H3.out)
  try dsimp only at a0 a1 a2
  obtain ⟨x0, x1, x2, xf0, xf1, xf2, xl⟩ := X2.out.later H3.out
  try dsimp only at x0 x1 x2
  go_wp2_with fail
  refine (FA.out _).mono ?_
  rintro e w4 ⟨rfl, h4⟩
  have H4 := hideP h4
  clear h4
  clear a0 a1 a2 af0 af1 af2 al x0 x1 x2 xf0 xf1 xf2 xl
  obtain ⟨a0, a1, a2, af0, af1, af2, al⟩ := HX.out.ba.later (((H1.out.trans H2.out).trans H3.out).trans H4.out)
  try dsimp only at a0 a1 a2
  obtain ⟨x0, x1, x2, xf0, xf1, xf2, xl⟩ := X2.out.later (H3.out.trans H4.out)
  try dsimp only at x0 x1 x2
  go_wp2_with fail
  refine (OF.out _).mono ?_
  rintro e w5 ⟨rfl, h5⟩
  have H5 := hideP h5
  clear h5
  clear a0 a1 a2 af0 af1 af2 al x0 x1 x2 xf0 xf1 xf2 xl
  obtain ⟨a0, a1, a2, af0, af1, af2, al⟩ := HX.out.ba.later ((((H1.out.trans H2.out).trans H3.out).trans H4.out).trans H5.out)
  try dsimp only at a0 a1 a2
  obtain ⟨x0, x1, x2, xf0, xf1, xf2, xl⟩ := X2.out.later ((H3.out.trans H4.out).trans H5.out)
  try dsimp only at x0 x1 x2
  go_wp2_with fail
  obtain ⟨w6, Y6⟩ := oneA_ex w5 ⟨n, 1, false⟩
  have e6 := Y6.eq
  try dsimp only at e6
  rw [← e6]
  have H6 := hideP Y6.bl
  have X6 := hideP Y6.ba
  clear Y6 e6
  clear a0 a1 a2 af0 af1 af2 al x0 x1 x2 xf0 xf1 xf2 xl
  obtain ⟨a0, a1, a2, af0, af1, af2, al⟩ := HX.out.ba.later (((((H1.out.trans H2.out).trans H3.out).trans H4.out).trans H5.out).trans H6.out)
  try dsimp only at a0 a1 a2
  obtain ⟨x0, x1, x2, xf0, xf1, xf2, xl⟩ := X2.out.later (((H3.out.trans H4.out).trans H5.out).trans H6.out)
  try dsimp only at x0 x1 x2
  obtain ⟨y0, y1, y2, yf0, yf1, yf2, yl⟩ := X6.out.later (Bl.refl w6)
  try dsimp only at y0 y1 y2
  go_wp2_with fail
  clear a0 a1 a2 af0 af1 af2 al x0 x1 x2 xf0 xf1 xf2 xl y0 y1 y2 yf0 yf1 yf2 yl
  have wne := wl_ne w6
  obtain ⟨a0, a1, a2⟩ := (HX.out.ba.later (((((H1.out.trans H2.out).trans H3.out).trans H4.out).trans H5.out).trans H6.out)).wl
  try dsimp only at a0 a1 a2
  obtain ⟨y0, y1, y2⟩ := (X6.out.later (Bl.refl w6)).wl
  try dsimp only at y0 y1 y2
  refine wl_region w6 (Bl.refl _) (by kernel_rfl) (by kernel_rfl) ?_
  repeat (go_big_quiet_step (first | (go_at_call 25; exact wl_call (S.out _)) | (go_at_call 14; exact wl_call (FI.out _)) | (go_at_call 13; exact wl_call (FA.out _)) | (go_at_call 16; exact wl_call (SM.out _))))
  refine wpQuiet_nil ?_
  intro _ hw'
  obtain ⟨z, hw''⟩ := hw'
  subst hw''
  clear wne
  obtain ⟨w7, h7⟩ := z
  dsimp only
  have H7 := hideP h7
  clear h7
  clear a0 a1 a2 y0 y1 y2
  obtain ⟨a0, a1, a2, af0, af1, af2, al⟩ := HX.out.ba.later ((((((H1.out.trans H2.out).trans H3.out).trans H4.out).trans H5.out).trans H6.out).trans H7.out)
  try dsimp only at a0 a1 a2
  obtain ⟨x0, x1, x2, xf0, xf1, xf2, xl⟩ := X2.out.later ((((H3.out.trans H4.out).trans H5.out).trans H6.out).trans H7.out)
  try dsimp only at x0 x1 x2
  go_wp2_with fail
  refine (FA.out _).mono ?_
  rintro e w8 ⟨rfl, h8⟩
  have H8 := hideP h8
  clear h8
  clear a0 a1 a2 af0 af1 af2 al x0 x1 x2 xf0 xf1 xf2 xl
  obtain ⟨a0, a1, a2, af0, af1, af2, al⟩ := HX.out.ba.later (((((((H1.out.trans H2.out).trans H3.out).trans H4.out).trans H5.out).trans H6.out).trans H7.out).trans H8.out)
  try dsimp only at a0 a1 a2
  obtain ⟨x0, x1, x2, xf0, xf1, xf2, xl⟩ := X2.out.later (((((H3.out.trans H4.out).trans H5.out).trans H6.out).trans H7.out).trans H8.out)
  try dsimp only at x0 x1 x2
  go_wp2_with fail
  clear a0 a1 a2 af0 af1 af2 al x0 x1 x2 xf0 xf1 xf2 xl
  have wne := wl_ne w8
  obtain ⟨x0, x1, x2⟩ := (X2.out.later (((((H3.out.trans H4.out).trans H5.out).trans H6.out).trans H7.out).trans H8.out)).wl
  try dsimp only at x0 x1 x2
  refine wl_region w8 (Bl.refl _) (by kernel_rfl) (by kernel_rfl) ?_
  repeat (go_big_quiet_step (first | (go_at_call 11; exact wl_call (WR.out _)) | (go_at_call 12; exact wl_call (AW.out _))))
  refine wpQuiet_nil ?_
  intro _ hw'
  obtain ⟨z, hw''⟩ := hw'
  subst hw''
  clear wne
  obtain ⟨w9, h9⟩ := z
  dsimp only
  have H9 := hideP h9
  clear h9
  clear x0 x1 x2
  go_wp2
  go_ret
  exact ⟨rfl, HX.out.bl.trans ((((((((H1.out.trans H2.out).trans H3.out).trans H4.out).trans H5.out).trans H6.out).trans H7.out).trans H8.out).trans H9.out)⟩
set_option maxHeartbeats 2000000 in
theorem walk_FracRoots_0_false (a : Fr) (n : Int) (w : World) (hf : fineR a = false) (hr : rootR a = ⟨0, 0, true⟩) (hs : signR a = 0) (hsm : smB n = false) (hnw : newR n 1 = ⟨0, 0, true⟩) :
    Calls Try.prog 6 #[frV a, .int .i64 n] w fun e w' => e = .returned (.bool true) ∧ Bl w w' := by
  obtain ⟨W, X⟩ := oneA_ex w a
  have HX := hideP X
  clear X
  have FL := fineL_any a
  have FM := fineR_any a
  rw [hf] at FL FM
  have FA := hideP FL
  have FI := hideP FM
  have SG := rsign_any a
  rw [hs] at SG
  have S := hideP SG
  have RT := rroot_any a
  rw [hr] at RT
  have R := hideP RT
  have OF0 := rof_any a n
  rw [hnw] at OF0
  have OF := hideP OF0
  have AW := hideP awake4_any
  have WR := hideP wrV_any
  have SM0 := fun w => blOf (small_any n w)
  rw [hsm] at SM0
  have SM := hideP SM0
  have EG := Try.frGuard
  have NQ := neq_self n 1 false
  have EW := eql_wr
  clear FL FM SG RT OF0 SM0 hsm hnw hr hs hf
  go_enter Try.func6, Try.ntmps6
  go_wp2_with fail
  rw [← HX.out.eq]
  obtain ⟨a0, a1, a2, af0, af1, af2, al⟩ := HX.out.ba.later (Bl.refl W)
  try dsimp only at a0 a1 a2
  go_wp2_with fail
  refine (R.out _).mono ?_
  rintro e w1 ⟨rfl, h1⟩
  have H1 := hideP h1
  clear h1
  clear a0 a1 a2 af0 af1 af2 al
  obtain ⟨a0, a1, a2, af0, af1, af2, al⟩ := HX.out.ba.later H1.out
  try dsimp only at a0 a1 a2
  go_wp2_with fail
  obtain ⟨w2, Y2⟩ := oneA_ex w1 ⟨0, 0, true⟩
  have e2 := Y2.eq
  try dsimp only at e2
  rw [← e2]
  have H2 := hideP Y2.bl
  have X2 := hideP Y2.ba
  clear Y2 e2
  clear a0 a1 a2 af0 af1 af2 al
  obtain ⟨a0, a1, a2, af0, af1, af2, al⟩ := HX.out.ba.later (H1.out.trans H2.out)
  try dsimp only at a0 a1 a2
  obtain ⟨x0, x1, x2, xf0, xf1, xf2, xl⟩ := X2.out.later (Bl.refl w2)
  try dsimp only at x0 x1 x2
  go_wp2_with fail
  refine (FA.out _).mono ?_
  rintro e w3 ⟨rfl, h3⟩
  have H3 := hideP h3
  clear h3
  clear a0 a1 a2 af0 af1 af2 al x0 x1 x2 xf0 xf1 xf2 xl
  obtain ⟨a0, a1, a2, af0, af1, af2, al⟩ := HX.out.ba.later ((H1.out.trans H2.out).trans H3.out)
  try dsimp only at a0 a1 a2
  obtain ⟨x0, x1, x2, xf0, xf1, xf2, xl⟩ := X2.out.later H3.out
  try dsimp only at x0 x1 x2
  go_wp2_with fail
  refine (FA.out _).mono ?_
  rintro e w4 ⟨rfl, h4⟩
  have H4 := hideP h4
  clear h4
  clear a0 a1 a2 af0 af1 af2 al x0 x1 x2 xf0 xf1 xf2 xl
  obtain ⟨a0, a1, a2, af0, af1, af2, al⟩ := HX.out.ba.later (((H1.out.trans H2.out).trans H3.out).trans H4.out)
  try dsimp only at a0 a1 a2
  obtain ⟨x0, x1, x2, xf0, xf1, xf2, xl⟩ := X2.out.later (H3.out.trans H4.out)
  try dsimp only at x0 x1 x2
  go_wp2_with fail
  refine (OF.out _).mono ?_
  rintro e w5 ⟨rfl, h5⟩
  have H5 := hideP h5
  clear h5
  clear a0 a1 a2 af0 af1 af2 al x0 x1 x2 xf0 xf1 xf2 xl
  obtain ⟨a0, a1, a2, af0, af1, af2, al⟩ := HX.out.ba.later ((((H1.out.trans H2.out).trans H3.out).trans H4.out).trans H5.out)
  try dsimp only at a0 a1 a2
  obtain ⟨x0, x1, x2, xf0, xf1, xf2, xl⟩ := X2.out.later ((H3.out.trans H4.out).trans H5.out)
  try dsimp only at x0 x1 x2
  go_wp2_with fail
  obtain ⟨w6, Y6⟩ := oneA_ex w5 ⟨0, 0, true⟩
  have e6 := Y6.eq
  try dsimp only at e6
  rw [← e6]
  have H6 := hideP Y6.bl
  have X6 := hideP Y6.ba
  clear Y6 e6
  clear a0 a1 a2 af0 af1 af2 al x0 x1 x2 xf0 xf1 xf2 xl
  obtain ⟨a0, a1, a2, af0, af1, af2, al⟩ := HX.out.ba.later (((((H1.out.trans H2.out).trans H3.out).trans H4.out).trans H5.out).trans H6.out)
  try dsimp only at a0 a1 a2
  obtain ⟨x0, x1, x2, xf0, xf1, xf2, xl⟩ := X2.out.later (((H3.out.trans H4.out).trans H5.out).trans H6.out)
  try dsimp only at x0 x1 x2
  obtain ⟨y0, y1, y2, yf0, yf1, yf2, yl⟩ := X6.out.later (Bl.refl w6)
  try dsimp only at y0 y1 y2
  go_wp2_with fail
  clear a0 a1 a2 af0 af1 af2 al x0 x1 x2 xf0 xf1 xf2 xl y0 y1 y2 yf0 yf1 yf2 yl
  have wne := wl_ne w6
  obtain ⟨a0, a1, a2⟩ := (HX.out.ba.later (((((H1.out.trans H2.out).trans H3.out).trans H4.out).trans H5.out).trans H6.out)).wl
  try dsimp only at a0 a1 a2
  obtain ⟨y0, y1, y2⟩ := (X6.out.later (Bl.refl w6)).wl
  try dsimp only at y0 y1 y2
  refine wl_region w6 (Bl.refl _) (by kernel_rfl) (by kernel_rfl) ?_
  repeat (go_big_quiet_step (first | (go_at_call 25; exact wl_call (S.out _)) | (go_at_call 14; exact wl_call (FI.out _)) | (go_at_call 13; exact wl_call (FA.out _)) | (go_at_call 16; exact wl_call (SM.out _))))
  refine wpQuiet_nil ?_
  intro _ hw'
  obtain ⟨z, hw''⟩ := hw'
  subst hw''
  clear wne
  obtain ⟨w7, h7⟩ := z
  dsimp only
  have H7 := hideP h7
  clear h7
  clear a0 a1 a2 y0 y1 y2
  obtain ⟨a0, a1, a2, af0, af1, af2, al⟩ := HX.out.ba.later ((((((H1.out.trans H2.out).trans H3.out).trans H4.out).trans H5.out).trans H6.out).trans H7.out)
  try dsimp only at a0 a1 a2
  obtain ⟨x0, x1, x2, xf0, xf1, xf2, xl⟩ := X2.out.later ((((H3.out.trans H4.out).trans H5.out).trans H6.out).trans H7.out)
  try dsimp only at x0 x1 x2
  go_wp2_with fail
  refine (FA.out _).mono ?_
  rintro e w8 ⟨rfl, h8⟩
  have H8 := hideP h8
  clear h8
  clear a0 a1 a2 af0 af1 af2 al x0 x1 x2 xf0 xf1 xf2 xl
  obtain ⟨a0, a1, a2, af0, af1, af2, al⟩ := HX.out.ba.later (((((((H1.out.trans H2.out).trans H3.out).trans H4.out).trans H5.out).trans H6.out).trans H7.out).trans H8.out)
  try dsimp only at a0 a1 a2
  obtain ⟨x0, x1, x2, xf0, xf1, xf2, xl⟩ := X2.out.later (((((H3.out.trans H4.out).trans H5.out).trans H6.out).trans H7.out).trans H8.out)
  try dsimp only at x0 x1 x2
  go_wp2_with fail
  clear a0 a1 a2 af0 af1 af2 al x0 x1 x2 xf0 xf1 xf2 xl
  have wne := wl_ne w8
  obtain ⟨x0, x1, x2⟩ := (X2.out.later (((((H3.out.trans H4.out).trans H5.out).trans H6.out).trans H7.out).trans H8.out)).wl
  try dsimp only at x0 x1 x2
  refine wl_region w8 (Bl.refl _) (by kernel_rfl) (by kernel_rfl) ?_
  repeat (go_big_quiet_step (first | (go_at_call 11; exact wl_call (WR.out _)) | (go_at_call 12; exact wl_call (AW.out _))))
  refine wpQuiet_nil ?_
  intro _ hw'
  obtain ⟨z, hw''⟩ := hw'
  subst hw''
  clear wne
  obtain ⟨w9, h9⟩ := z
  dsimp only
  have H9 := hideP h9
  clear h9
  clear x0 x1 x2
  go_wp2
  go_ret
  exact ⟨rfl, HX.out.bl.trans ((((((((H1.out.trans H2.out).trans H3.out).trans H4.out).trans H5.out).trans H6.out).trans H7.out).trans H8.out).trans H9.out)⟩
set_option maxHeartbeats 2000000 in
theorem walk_FracRoots_1_true (a : Fr) (n : Int) (w : World) (hf : fineR a = true) (hn : a.n < 0) (hr : rootR a = ⟨0, 0, true⟩) (hs : signR a = -1) (hsm : smB n = true) (hnw : newR n 1 = ⟨n, 1, false⟩) :
    Calls Try.prog 6 #[frV a, .int .i64 n] w fun e w' => e = .returned (.bool true) ∧ Bl w w' := by
  obtain ⟨W, X⟩ := oneA_ex w a
  have HX := hideP X
  clear X
  have FL := fineL_any a
  have FM := fineR_any a
  rw [hf] at FL FM
  have FA := hideP FL
  have FI := hideP FM
  have SG := rsign_any a
  rw [hs] at SG
  have S := hideP SG
  have RT := rroot_any a
  rw [hr] at RT
  have R := hideP RT
  have OF0 := rof_any a n
  rw [hnw] at OF0
  have OF := hideP OF0
  have AW := hideP awake4_any
  have WR := hideP wrV_any
  have SM0 := fun w => blOf (small_any n w)
  rw [hsm] at SM0
  have SM := hideP SM0
  have EG := Try.frGuard
  have NQ := neq_self n 1 false
  have EW := eql_wr
  have hn' : ¬ 0 < a.n := by omega
  clear FL FM SG RT OF0 SM0 hsm hnw hr hs hf
  go_enter Try.func6, Try.ntmps6
  go_wp2_with fail
  rw [← HX.out.eq]
  obtain ⟨a0, a1, a2, af0, af1, af2, al⟩ := HX.out.ba.later (Bl.refl W)
  try dsimp only at a0 a1 a2
  go_wp2_with fail
  refine (R.out _).mono ?_
  rintro e w1 ⟨rfl, h1⟩
  have H1 := hideP h1
  clear h1
  clear a0 a1 a2 af0 af1 af2 al
  obtain ⟨a0, a1, a2, af0, af1, af2, al⟩ := HX.out.ba.later H1.out
  try dsimp only at a0 a1 a2
  go_wp2_with fail
  obtain ⟨w2, Y2⟩ := oneA_ex w1 ⟨0, 0, true⟩
  have e2 := Y2.eq
  try dsimp only at e2
  rw [← e2]
  have H2 := hideP Y2.bl
  have X2 := hideP Y2.ba
  clear Y2 e2
  clear a0 a1 a2 af0 af1 af2 al
  obtain ⟨a0, a1, a2, af0, af1, af2, al⟩ := HX.out.ba.later (H1.out.trans H2.out)
  try dsimp only at a0 a1 a2
  obtain ⟨x0, x1, x2, xf0, xf1, xf2, xl⟩ := X2.out.later (Bl.refl w2)
  try dsimp only at x0 x1 x2
  go_wp2_with fail
  refine (FA.out _).mono ?_
  rintro e w3 ⟨rfl, h3⟩
  have H3 := hideP h3
  clear h3
  clear a0 a1 a2 af0 af1 af2 al x0 x1 x2 xf0 xf1 xf2 xl
  obtain ⟨a0, a1, a2, af0, af1, af2, al⟩ := HX.out.ba.later ((H1.out.trans H2.out).trans H3.out)
  try dsimp only at a0 a1 a2
  obtain ⟨x0, x1, x2, xf0, xf1, xf2, xl⟩ := X2.out.later H3.out
  try dsimp only at x0 x1 x2
  go_wp2_with fail
  refine (FA.out _).mono ?_
  rintro e w4 ⟨rfl, h4⟩
  have H4 := hideP h4
  clear h4
  clear a0 a1 a2 af0 af1 af2 al x0 x1 x2 xf0 xf1 xf2 xl
  obtain ⟨a0, a1, a2, af0, af1, af2, al⟩ := HX.out.ba.later (((H1.out.trans H2.out).trans H3.out).trans H4.out)
  try dsimp only at a0 a1 a2
  obtain ⟨x0, x1, x2, xf0, xf1, xf2, xl⟩ := X2.out.later (H3.out.trans H4.out)
  try dsimp only at x0 x1 x2
  go_wp2_with fail
  refine (OF.out _).mono ?_
  rintro e w5 ⟨rfl, h5⟩
  have H5 := hideP h5
  clear h5
  clear a0 a1 a2 af0 af1 af2 al x0 x1 x2 xf0 xf1 xf2 xl
  obtain ⟨a0, a1, a2, af0, af1, af2, al⟩ := HX.out.ba.later ((((H1.out.trans H2.out).trans H3.out).trans H4.out).trans H5.out)
  try dsimp only at a0 a1 a2
  obtain ⟨x0, x1, x2, xf0, xf1, xf2, xl⟩ := X2.out.later ((H3.out.trans H4.out).trans H5.out)
  try dsimp only at x0 x1 x2
  go_wp2_with fail
  obtain ⟨w6, Y6⟩ := oneA_ex w5 ⟨n, 1, false⟩
  have e6 := Y6.eq
  try dsimp only at e6
  rw [← e6]
  have H6 := hideP Y6.bl
  have X6 := hideP Y6.ba
  clear Y6 e6
  clear a0 a1 a2 af0 af1 af2 al x0 x1 x2 xf0 xf1 xf2 xl
  obtain ⟨a0, a1, a2, af0, af1, af2, al⟩ := HX.out.ba.later (((((H1.out.trans H2.out).trans H3.out).trans H4.out).trans H5.out).trans H6.out)
  try dsimp only at a0 a1 a2
  obtain ⟨x0, x1, x2, xf0, xf1, xf2, xl⟩ := X2.out.later (((H3.out.trans H4.out).trans H5.out).trans H6.out)
  try dsimp only at x0 x1 x2
  obtain ⟨y0, y1, y2, yf0, yf1, yf2, yl⟩ := X6.out.later (Bl.refl w6)
  try dsimp only at y0 y1 y2
  go_wp2_with fail
  clear a0 a1 a2 af0 af1 af2 al x0 x1 x2 xf0 xf1 xf2 xl y0 y1 y2 yf0 yf1 yf2 yl
  have wne := wl_ne w6
  obtain ⟨a0, a1, a2⟩ := (HX.out.ba.later (((((H1.out.trans H2.out).trans H3.out).trans H4.out).trans H5.out).trans H6.out)).wl
  try dsimp only at a0 a1 a2
  obtain ⟨y0, y1, y2⟩ := (X6.out.later (Bl.refl w6)).wl
  try dsimp only at y0 y1 y2
  refine wl_region w6 (Bl.refl _) (by kernel_rfl) (by kernel_rfl) ?_
  repeat (go_big_quiet_step (first | (go_at_call 25; exact wl_call (S.out _)) | (go_at_call 14; exact wl_call (FI.out _)) | (go_at_call 13; exact wl_call (FA.out _)) | (go_at_call 16; exact wl_call (SM.out _))))
  refine wpQuiet_nil ?_
  intro _ hw'
  obtain ⟨z, hw''⟩ := hw'
  subst hw''
  clear wne
  obtain ⟨w7, h7⟩ := z
  dsimp only
  have H7 := hideP h7
  clear h7
  clear a0 a1 a2 y0 y1 y2
  obtain ⟨a0, a1, a2, af0, af1, af2, al⟩ := HX.out.ba.later ((((((H1.out.trans H2.out).trans H3.out).trans H4.out).trans H5.out).trans H6.out).trans H7.out)
  try dsimp only at a0 a1 a2
  obtain ⟨x0, x1, x2, xf0, xf1, xf2, xl⟩ := X2.out.later ((((H3.out.trans H4.out).trans H5.out).trans H6.out).trans H7.out)
  try dsimp only at x0 x1 x2
  go_wp2_with fail
  refine (FA.out _).mono ?_
  rintro e w8 ⟨rfl, h8⟩
  have H8 := hideP h8
  clear h8
  clear a0 a1 a2 af0 af1 af2 al x0 x1 x2 xf0 xf1 xf2 xl
  obtain ⟨a0, a1, a2, af0, af1, af2, al⟩ := HX.out.ba.later (((((((H1.out.trans H2.out).trans H3.out).trans H4.out).trans H5.out).trans H6.out).trans H7.out).trans H8.out)
  try dsimp only at a0 a1 a2
  obtain ⟨x0, x1, x2, xf0, xf1, xf2, xl⟩ := X2.out.later (((((H3.out.trans H4.out).trans H5.out).trans H6.out).trans H7.out).trans H8.out)
  try dsimp only at x0 x1 x2
  go_wp2_with fail
  clear a0 a1 a2 af0 af1 af2 al x0 x1 x2 xf0 xf1 xf2 xl
  have wne := wl_ne w8
  obtain ⟨x0, x1, x2⟩ := (X2.out.later (((((H3.out.trans H4.out).trans H5.out).trans H6.out).trans H7.out).trans H8.out)).wl
  try dsimp only at x0 x1 x2
  refine wl_region w8 (Bl.refl _) (by kernel_rfl) (by kernel_rfl) ?_
  repeat (go_big_quiet_step (first | (go_at_call 11; exact wl_call (WR.out _)) | (go_at_call 12; exact wl_call (AW.out _))))
  refine wpQuiet_nil ?_
  intro _ hw'
  obtain ⟨z, hw''⟩ := hw'
  subst hw''
  clear wne
  obtain ⟨w9, h9⟩ := z
  dsimp only
  have H9 := hideP h9
  clear h9
  clear x0 x1 x2
  go_wp2
  go_ret
  exact ⟨rfl, HX.out.bl.trans ((((((((H1.out.trans H2.out).trans H3.out).trans H4.out).trans H5.out).trans H6.out).trans H7.out).trans H8.out).trans H9.out)⟩
set_option maxHeartbeats 2000000 in
theorem walk_FracRoots_1_false (a : Fr) (n : Int) (w : World) (hf : fineR a = true) (hn : a.n < 0) (hr : rootR a = ⟨0, 0, true⟩) (hs : signR a = -1) (hsm : smB n = false) (hnw : newR n 1 = ⟨0, 0, true⟩) :
    Calls Try.prog 6 #[frV a, .int .i64 n] w fun e w' => e = .returned (.bool true) ∧ Bl w w' := by
  obtain ⟨W, X⟩ := oneA_ex w a
  have HX := hideP X
  clear X
  have FL := fineL_any a
  have FM := fineR_any a
  rw [hf] at FL FM
  have FA := hideP FL
  have FI := hideP FM
  have SG := rsign_any a
  rw [hs] at SG
  have S := hideP SG
  have RT := rroot_any a
  rw [hr] at RT
  have R := hideP RT
  have OF0 := rof_any a n
  rw [hnw] at OF0
  have OF := hideP OF0
  have AW := hideP awake4_any
  have WR := hideP wrV_any
  have SM0 := fun w => blOf (small_any n w)
  rw [hsm] at SM0
  have SM := hideP SM0
  have EG := Try.frGuard
  have NQ := neq_self n 1 false
  have EW := eql_wr
  have hn' : ¬ 0 < a.n := by omega
  clear FL FM SG RT OF0 SM0 hsm hnw hr hs hf
  go_enter Try.func6, Try.ntmps6
  go_wp2_with fail
  rw [← HX.out.eq]
  obtain ⟨a0, a1, a2, af0, af1, af2, al⟩ := HX.out.ba.later (Bl.refl W)
  try dsimp only at a0 a1 a2
  go_wp2_with fail
  refine (R.out _).mono ?_
  rintro e w1 ⟨rfl, h1⟩
  have H1 := hideP h1
  clear h1
  clear a0 a1 a2 af0 af1 af2 al
  obtain ⟨a0, a1, a2, af0, af1, af2, al⟩ := HX.out.ba.later H1.out
  try dsimp only at a0 a1 a2
  go_wp2_with fail
  obtain ⟨w2, Y2⟩ := oneA_ex w1 ⟨0, 0, true⟩
  have e2 := Y2.eq
  try dsimp only at e2
  rw [← e2]
  have H2 := hideP Y2.bl
  have X2 := hideP Y2.ba
  clear Y2 e2
  clear a0 a1 a2 af0 af1 af2 al
  obtain ⟨a0, a1, a2, af0, af1, af2, al⟩ := HX.out.ba.later (H1.out.trans H2.out)
  try dsimp only at a0 a1 a2
  obtain ⟨x0, x1, x2, xf0, xf1, xf2, xl⟩ := X2.out.later (Bl.refl w2)
  try dsimp only at x0 x1 x2
  go_wp2_with fail
  refine (FA.out _).mono ?_
  rintro e w3 ⟨rfl, h3⟩
  have H3 := hideP h3
  clear h3
  clear a0 a1 a2 af0 af1 af2 al x0 x1 x2 xf0 xf1 xf2 xl
  obtain ⟨a0, a1, a2, af0, af1, af2, al⟩ := HX.out.ba.later ((H1.out.trans H2.out).trans H3.out)
  try dsimp only at a0 a1 a2
  obtain ⟨x0, x1, x2, xf0, xf1, xf2, xl⟩ := X2.out.later H3.out
  try dsimp only at x0 x1 x2
  go_wp2_with fail
  refine (FA.out _).mono ?_
  rintro e w4 ⟨rfl, h4⟩
  have H4 := hideP h4
  clear h4
  clear a0 a1 a2 af0 af1 af2 al x0 x1 x2 xf0 xf1 xf2 xl
  obtain ⟨a0, a1, a2, af0, af1, af2, al⟩ := HX.out.ba.later (((H1.out.trans H2.out).trans H3.out).trans H4.out)
  try dsimp only at a0 a1 a2
  obtain ⟨x0, x1, x2, xf0, xf1, xf2, xl⟩ := X2.out.later (H3.out.trans H4.out)
  try dsimp only at x0 x1 x2
  go_wp2_with fail
  refine (OF.out _).mono ?_
  rintro e w5 ⟨rfl, h5⟩
  have H5 := hideP h5
  clear h5
  clear a0 a1 a2 af0 af1 af2 al x0 x1 x2 xf0 xf1 xf2 xl
  obtain ⟨a0, a1, a2, af0, af1, af2, al⟩ := HX.out.ba.later ((((H1.out.trans H2.out).trans H3.out).trans H4.out).trans H5.out)
  try dsimp only at a0 a1 a2
  obtain ⟨x0, x1, x2, xf0, xf1, xf2, xl⟩ := X2.out.later ((H3.out.trans H4.out).trans H5.out)
  try dsimp only at x0 x1 x2
  go_wp2_with fail
  obtain ⟨w6, Y6⟩ := oneA_ex w5 ⟨0, 0, true⟩
  have e6 := Y6.eq
  try dsimp only at e6
  rw [← e6]
  have H6 := hideP Y6.bl
  have X6 := hideP Y6.ba
  clear Y6 e6
  clear a0 a1 a2 af0 af1 af2 al x0 x1 x2 xf0 xf1 xf2 xl
  obtain ⟨a0, a1, a2, af0, af1, af2, al⟩ := HX.out.ba.later (((((H1.out.trans H2.out).trans H3.out).trans H4.out).trans H5.out).trans H6.out)
  try dsimp only at a0 a1 a2
  obtain ⟨x0, x1, x2, xf0, xf1, xf2, xl⟩ := X2.out.later (((H3.out.trans H4.out).trans H5.out).trans H6.out)
  try dsimp only at x0 x1 x2
  obtain ⟨y0, y1, y2, yf0, yf1, yf2, yl⟩ := X6.out.later (Bl.refl w6)
  try dsimp only at y0 y1 y2
  go_wp2_with fail
  clear a0 a1 a2 af0 af1 af2 al x0 x1 x2 xf0 xf1 xf2 xl y0 y1 y2 yf0 yf1 yf2 yl
  have wne := wl_ne w6
  obtain ⟨a0, a1, a2⟩ := (HX.out.ba.later (((((H1.out.trans H2.out).trans H3.out).trans H4.out).trans H5.out).trans H6.out)).wl
  try dsimp only at a0 a1 a2
  obtain ⟨y0, y1, y2⟩ := (X6.out.later (Bl.refl w6)).wl
  try dsimp only at y0 y1 y2
  refine wl_region w6 (Bl.refl _) (by kernel_rfl) (by kernel_rfl) ?_
  repeat (go_big_quiet_step (first | (go_at_call 25; exact wl_call (S.out _)) | (go_at_call 14; exact wl_call (FI.out _)) | (go_at_call 13; exact wl_call (FA.out _)) | (go_at_call 16; exact wl_call (SM.out _))))
  refine wpQuiet_nil ?_
  intro _ hw'
  obtain ⟨z, hw''⟩ := hw'
  subst hw''
  clear wne
  obtain ⟨w7, h7⟩ := z
  dsimp only
  have H7 := hideP h7
  clear h7
  clear a0 a1 a2 y0 y1 y2
  obtain ⟨a0, a1, a2, af0, af1, af2, al⟩ := HX.out.ba.later ((((((H1.out.trans H2.out).trans H3.out).trans H4.out).trans H5.out).trans H6.out).trans H7.out)
  try dsimp only at a0 a1 a2
  obtain ⟨x0, x1, x2, xf0, xf1, xf2, xl⟩ := X2.out.later ((((H3.out.trans H4.out).trans H5.out).trans H6.out).trans H7.out)
  try dsimp only at x0 x1 x2
  go_wp2_with fail
  refine (FA.out _).mono ?_
  rintro e w8 ⟨rfl, h8⟩
  have H8 := hideP h8
  clear h8
  clear a0 a1 a2 af0 af1 af2 al x0 x1 x2 xf0 xf1 xf2 xl
  obtain ⟨a0, a1, a2, af0, af1, af2, al⟩ := HX.out.ba.later (((((((H1.out.trans H2.out).trans H3.out).trans H4.out).trans H5.out).trans H6.out).trans H7.out).trans H8.out)
  try dsimp only at a0 a1 a2
  obtain ⟨x0, x1, x2, xf0, xf1, xf2, xl⟩ := X2.out.later (((((H3.out.trans H4.out).trans H5.out).trans H6.out).trans H7.out).trans H8.out)
  try dsimp only at x0 x1 x2
  go_wp2_with fail
  clear a0 a1 a2 af0 af1 af2 al x0 x1 x2 xf0 xf1 xf2 xl
  have wne := wl_ne w8
  obtain ⟨x0, x1, x2⟩ := (X2.out.later (((((H3.out.trans H4.out).trans H5.out).trans H6.out).trans H7.out).trans H8.out)).wl
  try dsimp only at x0 x1 x2
  refine wl_region w8 (Bl.refl _) (by kernel_rfl) (by kernel_rfl) ?_
  repeat (go_big_quiet_step (first | (go_at_call 11; exact wl_call (WR.out _)) | (go_at_call 12; exact wl_call (AW.out _))))
  refine wpQuiet_nil ?_
  intro _ hw'
  obtain ⟨z, hw''⟩ := hw'
  subst hw''
  clear wne
  obtain ⟨w9, h9⟩ := z
  dsimp only
  have H9 := hideP h9
  clear h9
  clear x0 x1 x2
  go_wp2
  go_ret
  exact ⟨rfl, HX.out.bl.trans ((((((((H1.out.trans H2.out).trans H3.out).trans H4.out).trans H5.out).trans H6.out).trans H7.out).trans H8.out).trans H9.out)⟩
set_option maxHeartbeats 2000000 in
theorem walk_FracRoots_2_true (a : Fr) (n : Int) (w : World) (hf : fineR a = true) (hn : 0 < a.n) (k1 : sqR a.n < 0) (hr : rootR a = ⟨0, 0, true⟩) (hs : signR a = 1) (hsm : smB n = true) (hnw : newR n 1 = ⟨n, 1, false⟩) :
    Calls Try.prog 6 #[frV a, .int .i64 n] w fun e w' => e = .returned (.bool true) ∧ Bl w w' := by
  obtain ⟨W, X⟩ := oneA_ex w a
  have HX := hideP X
  clear X
  have FL := fineL_any a
  have FM := fineR_any a
  rw [hf] at FL FM
  have FA := hideP FL
  have FI := hideP FM
  have SG := rsign_any a
  rw [hs] at SG
  have S := hideP SG
  have RT := rroot_any a
  rw [hr] at RT
  have R := hideP RT
  have OF0 := rof_any a n
  rw [hnw] at OF0
  have OF := hideP OF0
  have AW := hideP awake4_any
  have WR := hideP wrV_any
  have SM0 := fun w => blOf (small_any n w)
  rw [hsm] at SM0
  have SM := hideP SM0
  have EG := Try.frGuard
  have NQ := neq_self n 1 false
  have EW := eql_wr
  have SQ1 := hideP (fun w => blOf (square_any a.n (by omega) (fine_n hf).2 w))
  have SQ2 := hideP (fun w => blOf (square_any a.d (by have := fineR_iff.1 hf; omega) (fine_dd hf).2 w))
  have hn' : ¬ a.n < 0 := by omega
  clear FL FM SG RT OF0 SM0 hsm hnw hr hs hf
  generalize sqR a.n = p at *
  generalize sqR a.d = q at *
  go_enter Try.func6, Try.ntmps6
  go_wp2_with fail
  rw [← HX.out.eq]
  obtain ⟨a0, a1, a2, af0, af1, af2, al⟩ := HX.out.ba.later (Bl.refl W)
  try dsimp only at a0 a1 a2
  go_wp2_with fail
  refine (R.out _).mono ?_
  rintro e w1 ⟨rfl, h1⟩
  have H1 := hideP h1
  clear h1
  clear a0 a1 a2 af0 af1 af2 al
  obtain ⟨a0, a1, a2, af0, af1, af2, al⟩ := HX.out.ba.later H1.out
  try dsimp only at a0 a1 a2
  go_wp2_with fail
  obtain ⟨w2, Y2⟩ := oneA_ex w1 ⟨0, 0, true⟩
  have e2 := Y2.eq
  try dsimp only at e2
  rw [← e2]
  have H2 := hideP Y2.bl
  have X2 := hideP Y2.ba
  clear Y2 e2
  clear a0 a1 a2 af0 af1 af2 al
  obtain ⟨a0, a1, a2, af0, af1, af2, al⟩ := HX.out.ba.later (H1.out.trans H2.out)
  try dsimp only at a0 a1 a2
  obtain ⟨x0, x1, x2, xf0, xf1, xf2, xl⟩ := X2.out.later (Bl.refl w2)
  try dsimp only at x0 x1 x2
  go_wp2_with fail
  refine (FA.out _).mono ?_
  rintro e w3 ⟨rfl, h3⟩
  have H3 := hideP h3
  clear h3
  clear a0 a1 a2 af0 af1 af2 al x0 x1 x2 xf0 xf1 xf2 xl
  obtain ⟨a0, a1, a2, af0, af1, af2, al⟩ := HX.out.ba.later ((H1.out.trans H2.out).trans H3.out)
  try dsimp only at a0 a1 a2
  obtain ⟨x0, x1, x2, xf0, xf1, xf2, xl⟩ := X2.out.later H3.out
  try dsimp only at x0 x1 x2
  go_wp2_with fail
  refine (FA.out _).mono ?_
  rintro e w4 ⟨rfl, h4⟩
  have H4 := hideP h4
  clear h4
  clear a0 a1 a2 af0 af1 af2 al x0 x1 x2 xf0 xf1 xf2 xl
  obtain ⟨a0, a1, a2, af0, af1, af2, al⟩ := HX.out.ba.later (((H1.out.trans H2.out).trans H3.out).trans H4.out)
  try dsimp only at a0 a1 a2
  obtain ⟨x0, x1, x2, xf0, xf1, xf2, xl⟩ := X2.out.later (H3.out.trans H4.out)
  try dsimp only at x0 x1 x2
  go_wp2_with fail
  refine (OF.out _).mono ?_
  rintro e w5 ⟨rfl, h5⟩
  have H5 := hideP h5
  clear h5
  clear a0 a1 a2 af0 af1 af2 al x0 x1 x2 xf0 xf1 xf2 xl
  obtain ⟨a0, a1, a2, af0, af1, af2, al⟩ := HX.out.ba.later ((((H1.out.trans H2.out).trans H3.out).trans H4.out).trans H5.out)
  try dsimp only at a0 a1 a2
  obtain ⟨x0, x1, x2, xf0, xf1, xf2, xl⟩ := X2.out.later ((H3.out.trans H4.out).trans H5.out)
  try dsimp only at x0 x1 x2
  go_wp2_with fail
  obtain ⟨w6, Y6⟩ := oneA_ex w5 ⟨n, 1, false⟩
  have e6 := Y6.eq
  try dsimp only at e6
  rw [← e6]
  have H6 := hideP Y6.bl
  have X6 := hideP Y6.ba
  clear Y6 e6
  clear a0 a1 a2 af0 af1 af2 al x0 x1 x2 xf0 xf1 xf2 xl
  obtain ⟨a0, a1, a2, af0, af1, af2, al⟩ := HX.out.ba.later (((((H1.out.trans H2.out).trans H3.out).trans H4.out).trans H5.out).trans H6.out)
  try dsimp only at a0 a1 a2
  obtain ⟨x0, x1, x2, xf0, xf1, xf2, xl⟩ := X2.out.later (((H3.out.trans H4.out).trans H5.out).trans H6.out)
  try dsimp only at x0 x1 x2
  obtain ⟨y0, y1, y2, yf0, yf1, yf2, yl⟩ := X6.out.later (Bl.refl w6)
  try dsimp only at y0 y1 y2
  go_wp2_with fail
  clear a0 a1 a2 af0 af1 af2 al x0 x1 x2 xf0 xf1 xf2 xl y0 y1 y2 yf0 yf1 yf2 yl
  have wne := wl_ne w6
  obtain ⟨a0, a1, a2⟩ := (HX.out.ba.later (((((H1.out.trans H2.out).trans H3.out).trans H4.out).trans H5.out).trans H6.out)).wl
  try dsimp only at a0 a1 a2
  obtain ⟨y0, y1, y2⟩ := (X6.out.later (Bl.refl w6)).wl
  try dsimp only at y0 y1 y2
  refine wl_region w6 (Bl.refl _) (by kernel_rfl) (by kernel_rfl) ?_
  repeat (go_big_quiet_step (first | (go_at_call 25; exact wl_call (S.out _)) | (go_at_call 14; exact wl_call (FI.out _)) | (go_at_call 13; exact wl_call (FA.out _)) | (go_at_call 16; exact wl_call (SM.out _))))
  refine wpQuiet_nil ?_
  intro _ hw'
  obtain ⟨z, hw''⟩ := hw'
  subst hw''
  clear wne
  obtain ⟨w7, h7⟩ := z
  dsimp only
  have H7 := hideP h7
  clear h7
  clear a0 a1 a2 y0 y1 y2
  obtain ⟨a0, a1, a2, af0, af1, af2, al⟩ := HX.out.ba.later ((((((H1.out.trans H2.out).trans H3.out).trans H4.out).trans H5.out).trans H6.out).trans H7.out)
  try dsimp only at a0 a1 a2
  obtain ⟨x0, x1, x2, xf0, xf1, xf2, xl⟩ := X2.out.later ((((H3.out.trans H4.out).trans H5.out).trans H6.out).trans H7.out)
  try dsimp only at x0 x1 x2
  go_wp2_with fail
  refine (FA.out _).mono ?_
  rintro e w8 ⟨rfl, h8⟩
  have H8 := hideP h8
  clear h8
  clear a0 a1 a2 af0 af1 af2 al x0 x1 x2 xf0 xf1 xf2 xl
  obtain ⟨a0, a1, a2, af0, af1, af2, al⟩ := HX.out.ba.later (((((((H1.out.trans H2.out).trans H3.out).trans H4.out).trans H5.out).trans H6.out).trans H7.out).trans H8.out)
  try dsimp only at a0 a1 a2
  obtain ⟨x0, x1, x2, xf0, xf1, xf2, xl⟩ := X2.out.later (((((H3.out.trans H4.out).trans H5.out).trans H6.out).trans H7.out).trans H8.out)
  try dsimp only at x0 x1 x2
  go_wp2_with fail
  refine (SQ1.out _).mono ?_
  rintro e w9 ⟨rfl, h9⟩
  have H9 := hideP h9
  clear h9
  clear a0 a1 a2 af0 af1 af2 al x0 x1 x2 xf0 xf1 xf2 xl
  obtain ⟨a0, a1, a2, af0, af1, af2, al⟩ := HX.out.ba.later ((((((((H1.out.trans H2.out).trans H3.out).trans H4.out).trans H5.out).trans H6.out).trans H7.out).trans H8.out).trans H9.out)
  try dsimp only at a0 a1 a2
  obtain ⟨x0, x1, x2, xf0, xf1, xf2, xl⟩ := X2.out.later ((((((H3.out.trans H4.out).trans H5.out).trans H6.out).trans H7.out).trans H8.out).trans H9.out)
  try dsimp only at x0 x1 x2
  go_wp2_with fail
  clear a0 a1 a2 af0 af1 af2 al x0 x1 x2 xf0 xf1 xf2 xl
  have wne := wl_ne w9
  obtain ⟨x0, x1, x2⟩ := (X2.out.later ((((((H3.out.trans H4.out).trans H5.out).trans H6.out).trans H7.out).trans H8.out).trans H9.out)).wl
  try dsimp only at x0 x1 x2
  refine wl_region w9 (Bl.refl _) (by kernel_rfl) (by kernel_rfl) ?_
  repeat (go_big_quiet_step (first | (go_at_call 11; exact wl_call (WR.out _)) | (go_at_call 12; exact wl_call (AW.out _))))
  refine wpQuiet_nil ?_
  intro _ hw'
  obtain ⟨z, hw''⟩ := hw'
  subst hw''
  clear wne
  obtain ⟨w10, h10⟩ := z
  dsimp only
  have H10 := hideP h10
  clear h10
  clear x0 x1 x2
  go_wp2
  go_ret
  exact ⟨rfl, HX.out.bl.trans (((((((((H1.out.trans H2.out).trans H3.out).trans H4.out).trans H5.out).trans H6.out).trans H7.out).trans H8.out).trans H9.out).trans H10.out)⟩
set_option maxHeartbeats 2000000 in
theorem walk_FracRoots_2_false (a : Fr) (n : Int) (w : World) (hf : fineR a = true) (hn : 0 < a.n) (k1 : sqR a.n < 0) (hr : rootR a = ⟨0, 0, true⟩) (hs : signR a = 1) (hsm : smB n = false) (hnw : newR n 1 = ⟨0, 0, true⟩) :
    Calls Try.prog 6 #[frV a, .int .i64 n] w fun e w' => e = .returned (.bool true) ∧ Bl w w' := by
  obtain ⟨W, X⟩ := oneA_ex w a
  have HX := hideP X
  clear X
  have FL := fineL_any a
  have FM := fineR_any a
  rw [hf] at FL FM
  have FA := hideP FL
  have FI := hideP FM
  have SG := rsign_any a
  rw [hs] at SG
  have S := hideP SG
  have RT := rroot_any a
  rw [hr] at RT
  have R := hideP RT
  have OF0 := rof_any a n
  rw [hnw] at OF0
  have OF := hideP OF0
  have AW := hideP awake4_any
  have WR := hideP wrV_any
  have SM0 := fun w => blOf (small_any n w)
  rw [hsm] at SM0
  have SM := hideP SM0
  have EG := Try.frGuard
  have NQ := neq_self n 1 false
  have EW := eql_wr
  have SQ1 := hideP (fun w => blOf (square_any a.n (by omega) (fine_n hf).2 w))
  have SQ2 := hideP (fun w => blOf (square_any a.d (by have := fineR_iff.1 hf; omega) (fine_dd hf).2 w))
  have hn' : ¬ a.n < 0 := by omega
  clear FL FM SG RT OF0 SM0 hsm hnw hr hs hf
  generalize sqR a.n = p at *
  generalize sqR a.d = q at *
  go_enter Try.func6, Try.ntmps6
  go_wp2_with fail
  rw [← HX.out.eq]
  obtain ⟨a0, a1, a2, af0, af1, af2, al⟩ := HX.out.ba.later (Bl.refl W)
  try dsimp only at a0 a1 a2
  go_wp2_with fail
  refine (R.out _).mono ?_
  rintro e w1 ⟨rfl, h1⟩
  have H1 := hideP h1
  clear h1
  clear a0 a1 a2 af0 af1 af2 al
  obtain ⟨a0, a1, a2, af0, af1, af2, al⟩ := HX.out.ba.later H1.out
  try dsimp only at a0 a1 a2
  go_wp2_with fail
  obtain ⟨w2, Y2⟩ := oneA_ex w1 ⟨0, 0, true⟩
  have e2 := Y2.eq
  try dsimp only at e2
  rw [← e2]
  have H2 := hideP Y2.bl
  have X2 := hideP Y2.ba
  clear Y2 e2
  clear a0 a1 a2 af0 af1 af2 al
  obtain ⟨a0, a1, a2, af0, af1, af2, al⟩ := HX.out.ba.later (H1.out.trans H2.out)
  try dsimp only at a0 a1 a2
  obtain ⟨x0, x1, x2, xf0, xf1, xf2, xl⟩ := X2.out.later (Bl.refl w2)
  try dsimp only at x0 x1 x2
  go_wp2_with fail
  refine (FA.out _).mono ?_
  rintro e w3 ⟨rfl, h3⟩
  have H3 := hideP h3
  clear h3
  clear a0 a1 a2 af0 af1 af2 al x0 x1 x2 xf0 xf1 xf2 xl
  obtain ⟨a0, a1, a2, af0, af1, af2, al⟩ := HX.out.ba.later ((H1.out.trans H2.out).trans H3.out)
  try dsimp only at a0 a1 a2
  obtain ⟨x0, x1, x2, xf0, xf1, xf2, xl⟩ := X2.out.later H3.out
  try dsimp only at x0 x1 x2
  go_wp2_with fail
  refine (FA.out _).mono ?_
  rintro e w4 ⟨rfl, h4⟩
  have H4 := hideP h4
  clear h4
  clear a0 a1 a2 af0 af1 af2 al x0 x1 x2 xf0 xf1 xf2 xl
  obtain ⟨a0, a1, a2, af0, af1, af2, al⟩ := HX.out.ba.later (((H1.out.trans H2.out).trans H3.out).trans H4.out)
  try dsimp only at a0 a1 a2
  obtain ⟨x0, x1, x2, xf0, xf1, xf2, xl⟩ := X2.out.later (H3.out.trans H4.out)
  try dsimp only at x0 x1 x2
  go_wp2_with fail
  refine (OF.out _).mono ?_
  rintro e w5 ⟨rfl, h5⟩
  have H5 := hideP h5
  clear h5
  clear a0 a1 a2 af0 af1 af2 al x0 x1 x2 xf0 xf1 xf2 xl
  obtain ⟨a0, a1, a2, af0, af1, af2, al⟩ := HX.out.ba.later ((((H1.out.trans H2.out).trans H3.out).trans H4.out).trans H5.out)
  try dsimp only at a0 a1 a2
  obtain ⟨x0, x1, x2, xf0, xf1, xf2, xl⟩ := X2.out.later ((H3.out.trans H4.out).trans H5.out)
  try dsimp only at x0 x1 x2
  go_wp2_with fail
  obtain ⟨w6, Y6⟩ := oneA_ex w5 ⟨0, 0, true⟩
  have e6 := Y6.eq
  try dsimp only at e6
  rw [← e6]
  have H6 := hideP Y6.bl
  have X6 := hideP Y6.ba
  clear Y6 e6
  clear a0 a1 a2 af0 af1 af2 al x0 x1 x2 xf0 xf1 xf2 xl
  obtain ⟨a0, a1, a2, af0, af1, af2, al⟩ := HX.out.ba.later (((((H1.out.trans H2.out).trans H3.out).trans H4.out).trans H5.out).trans H6.out)
  try dsimp only at a0 a1 a2
  obtain ⟨x0, x1, x2, xf0, xf1, xf2, xl⟩ := X2.out.later (((H3.out.trans H4.out).trans H5.out).trans H6.out)
  try dsimp only at x0 x1 x2
  obtain ⟨y0, y1, y2, yf0, yf1, yf2, yl⟩ := X6.out.later (Bl.refl w6)
  try dsimp only at y0 y1 y2
  go_wp2_with fail
  clear a0 a1 a2 af0 af1 af2 al x0 x1 x2 xf0 xf1 xf2 xl y0 y1 y2 yf0 yf1 yf2 yl
  have wne := wl_ne w6
  obtain ⟨a0, a1, a2⟩ := (HX.out.ba.later (((((H1.out.trans H2.out).trans H3.out).trans H4.out).trans H5.out).trans H6.out)).wl
  try dsimp only at a0 a1 a2
  obtain ⟨y0, y1, y2⟩ := (X6.out.later (Bl.refl w6)).wl
  try dsimp only at y0 y1 y2
  refine wl_region w6 (Bl.refl _) (by kernel_rfl) (by kernel_rfl) ?_
  repeat (go_big_quiet_step (first | (go_at_call 25; exact wl_call (S.out _)) | (go_at_call 14; exact wl_call (FI.out _)) | (go_at_call 13; exact wl_call (FA.out _)) | (go_at_call 16; exact wl_call (SM.out _))))
  refine wpQuiet_nil ?_
  intro _ hw'
  obtain ⟨z, hw''⟩ := hw'
  subst hw''
  clear wne
  obtain ⟨w7, h7⟩ := z
  dsimp only
  have H7 := hideP h7
  clear h7
  clear a0 a1 a2 y0 y1 y2
  obtain ⟨a0, a1, a2, af0, af1, af2, al⟩ := HX.out.ba.later ((((((H1.out.trans H2.out).trans H3.out).trans H4.out).trans H5.out).trans H6.out).trans H7.out)
  try dsimp only at a0 a1 a2
  obtain ⟨x0, x1, x2, xf0, xf1, xf2, xl⟩ := X2.out.later ((((H3.out.trans H4.out).trans H5.out).trans H6.out).trans H7.out)
  try dsimp only at x0 x1 x2
  go_wp2_with fail
  refine (FA.out _).mono ?_
  rintro e w8 ⟨rfl, h8⟩
  have H8 := hideP h8
  clear h8
  clear a0 a1 a2 af0 af1 af2 al x0 x1 x2 xf0 xf1 xf2 xl
  obtain ⟨a0, a1, a2, af0, af1, af2, al⟩ := HX.out.ba.later (((((((H1.out.trans H2.out).trans H3.out).trans H4.out).trans H5.out).trans H6.out).trans H7.out).trans H8.out)
  try dsimp only at a0 a1 a2
  obtain ⟨x0, x1, x2, xf0, xf1, xf2, xl⟩ := X2.out.later (((((H3.out.trans H4.out).trans H5.out).trans H6.out).trans H7.out).trans H8.out)
  try dsimp only at x0 x1 x2
  go_wp2_with fail
  refine (SQ1.out _).mono ?_
  rintro e w9 ⟨rfl, h9⟩
  have H9 := hideP h9
  clear h9
  clear a0 a1 a2 af0 af1 af2 al x0 x1 x2 xf0 xf1 xf2 xl
  obtain ⟨a0, a1, a2, af0, af1, af2, al⟩ := HX.out.ba.later ((((((((H1.out.trans H2.out).trans H3.out).trans H4.out).trans H5.out).trans H6.out).trans H7.out).trans H8.out).trans H9.out)
  try dsimp only at a0 a1 a2
  obtain ⟨x0, x1, x2, xf0, xf1, xf2, xl⟩ := X2.out.later ((((((H3.out.trans H4.out).trans H5.out).trans H6.out).trans H7.out).trans H8.out).trans H9.out)
  try dsimp only at x0 x1 x2
  go_wp2_with fail
  clear a0 a1 a2 af0 af1 af2 al x0 x1 x2 xf0 xf1 xf2 xl
  have wne := wl_ne w9
  obtain ⟨x0, x1, x2⟩ := (X2.out.later ((((((H3.out.trans H4.out).trans H5.out).trans H6.out).trans H7.out).trans H8.out).trans H9.out)).wl
  try dsimp only at x0 x1 x2
  refine wl_region w9 (Bl.refl _) (by kernel_rfl) (by kernel_rfl) ?_
  repeat (go_big_quiet_step (first | (go_at_call 11; exact wl_call (WR.out _)) | (go_at_call 12; exact wl_call (AW.out _))))
  refine wpQuiet_nil ?_
  intro _ hw'
  obtain ⟨z, hw''⟩ := hw'
  subst hw''
  clear wne
  obtain ⟨w10, h10⟩ := z
  dsimp only
  have H10 := hideP h10
  clear h10
  clear x0 x1 x2
  go_wp2
  go_ret
  exact ⟨rfl, HX.out.bl.trans (((((((((H1.out.trans H2.out).trans H3.out).trans H4.out).trans H5.out).trans H6.out).trans H7.out).trans H8.out).trans H9.out).trans H10.out)⟩
set_option maxHeartbeats 2000000 in
theorem walk_FracRoots_3p_true (a : Fr) (n : Int) (w : World) (hf : fineR a = true) (hn : 0 < a.n) (k1 : ¬ sqR a.n < 0) (k2 : sqR a.d < 0) (hr : rootR a = ⟨0, 0, true⟩) (hs : signR a = 1) (hsm : smB n = true) (hnw : newR n 1 = ⟨n, 1, false⟩) :
    Calls Try.prog 6 #[frV a, .int .i64 n] w fun e w' => e = .returned (.bool true) ∧ Bl w w' := by
  obtain ⟨W, X⟩ := oneA_ex w a
  have HX := hideP X
  clear X
  have FL := fineL_any a
  have FM := fineR_any a
  rw [hf] at FL FM
  have FA := hideP FL
  have FI := hideP FM
  have SG := rsign_any a
  rw [hs] at SG
  have S := hideP SG
  have RT := rroot_any a
  rw [hr] at RT
  have R := hideP RT
  have OF0 := rof_any a n
  rw [hnw] at OF0
  have OF := hideP OF0
  have AW := hideP awake4_any
  have WR := hideP wrV_any
  have SM0 := fun w => blOf (small_any n w)
  rw [hsm] at SM0
  have SM := hideP SM0
  have EG := Try.frGuard
  have NQ := neq_self n 1 false
  have EW := eql_wr
  have SQ1 := hideP (fun w => blOf (square_any a.n (by omega) (fine_n hf).2 w))
  have SQ2 := hideP (fun w => blOf (square_any a.d (by have := fineR_iff.1 hf; omega) (fine_dd hf).2 w))
  have hn' : ¬ a.n < 0 := by omega
  clear FL FM SG RT OF0 SM0 hsm hnw hr hs hf
  generalize sqR a.n = p at *
  generalize sqR a.d = q at *
  go_enter Try.func6, Try.ntmps6
  go_wp2_with fail
  rw [← HX.out.eq]
  obtain ⟨a0, a1, a2, af0, af1, af2, al⟩ := HX.out.ba.later (Bl.refl W)
  try dsimp only at a0 a1 a2
  go_wp2_with fail
  refine (R.out _).mono ?_
  rintro e w1 ⟨rfl, h1⟩
  have H1 := hideP h1
  clear h1
  clear a0 a1 a2 af0 af1 af2 al
  obtain ⟨a0, a1, a2, af0, af1, af2, al⟩ := HX.out.ba.later H1.out
  try dsimp only at a0 a1 a2
  go_wp2_with fail
  obtain ⟨w2, Y2⟩ := oneA_ex w1 ⟨0, 0, true⟩
  have e2 := Y2.eq
  try dsimp only at e2
  rw [← e2]
  have H2 := hideP Y2.bl
  have X2 := hideP Y2.ba
  clear Y2 e2
  clear a0 a1 a2 af0 af1 af2 al
  obtain ⟨a0, a1, a2, af0, af1, af2, al⟩ := HX.out.ba.later (H1.out.trans H2.out)
  try dsimp only at a0 a1 a2
  obtain ⟨x0, x1, x2, xf0, xf1, xf2, xl⟩ := X2.out.later (Bl.refl w2)
  try dsimp only at x0 x1 x2
  go_wp2_with fail
  refine (FA.out _).mono ?_
  rintro e w3 ⟨rfl, h3⟩
  have H3 := hideP h3
  clear h3
  clear a0 a1 a2 af0 af1 af2 al x0 x1 x2 xf0 xf1 xf2 xl
  obtain ⟨a0, a1, a2, af0, af1, af2, al⟩ := HX.out.ba.later ((H1.out.trans H2.out).trans H3.out)
  try dsimp only at a0 a1 a2
  obtain ⟨x0, x1, x2, xf0, xf1, xf2, xl⟩ := X2.out.later H3.out
  try dsimp only at x0 x1 x2
  go_wp2_with fail
  refine (FA.out _).mono ?_
  rintro e w4 ⟨rfl, h4⟩
  have H4 := hideP h4
  clear h4
  clear a0 a1 a2 af0 af1 af2 al x0 x1 x2 xf0 xf1 xf2 xl
  obtain ⟨a0, a1, a2, af0, af1, af2, al⟩ := HX.out.ba.later (((H1.out.trans H2.out).trans H3.out).trans H4.out)
  try dsimp only at a0 a1 a2
  obtain ⟨x0, x1, x2, xf0, xf1, xf2, xl⟩ := X2.out.later (H3.out.trans H4.out)
  try dsimp only at x0 x1 x2
  go_wp2_with fail
  refine (OF.out _).mono ?_
  rintro e w5 ⟨rfl, h5⟩
  have H5 := hideP h5
  clear h5
  clear a0 a1 a2 af0 af1 af2 al x0 x1 x2 xf0 xf1 xf2 xl
  obtain ⟨a0, a1, a2, af0, af1, af2, al⟩ := HX.out.ba.later ((((H1.out.trans H2.out).trans H3.out).trans H4.out).trans H5.out)
  try dsimp only at a0 a1 a2
  obtain ⟨x0, x1, x2, xf0, xf1, xf2, xl⟩ := X2.out.later ((H3.out.trans H4.out).trans H5.out)
  try dsimp only at x0 x1 x2
  go_wp2_with fail
  obtain ⟨w6, Y6⟩ := oneA_ex w5 ⟨n, 1, false⟩
  have e6 := Y6.eq
  try dsimp only at e6
  rw [← e6]
  have H6 := hideP Y6.bl
  have X6 := hideP Y6.ba
  clear Y6 e6
  clear a0 a1 a2 af0 af1 af2 al x0 x1 x2 xf0 xf1 xf2 xl
  obtain ⟨a0, a1, a2, af0, af1, af2, al⟩ := HX.out.ba.later (((((H1.out.trans H2.out).trans H3.out).trans H4.out).trans H5.out).trans H6.out)
  try dsimp only at a0 a1 a2
  obtain ⟨x0, x1, x2, xf0, xf1, xf2, xl⟩ := X2.out.later (((H3.out.trans H4.out).trans H5.out).trans H6.out)
  try dsimp only at x0 x1 x2
  obtain ⟨y0, y1, y2, yf0, yf1, yf2, yl⟩ := X6.out.later (Bl.refl w6)
  try dsimp only at y0 y1 y2
  go_wp2_with fail
  clear a0 a1 a2 af0 af1 af2 al x0 x1 x2 xf0 xf1 xf2 xl y0 y1 y2 yf0 yf1 yf2 yl
  have wne := wl_ne w6
  obtain ⟨a0, a1, a2⟩ := (HX.out.ba.later (((((H1.out.trans H2.out).trans H3.out).trans H4.out).trans H5.out).trans H6.out)).wl
  try dsimp only at a0 a1 a2
  obtain ⟨y0, y1, y2⟩ := (X6.out.later (Bl.refl w6)).wl
  try dsimp only at y0 y1 y2
  refine wl_region w6 (Bl.refl _) (by kernel_rfl) (by kernel_rfl) ?_
  repeat (go_big_quiet_step (first | (go_at_call 25; exact wl_call (S.out _)) | (go_at_call 14; exact wl_call (FI.out _)) | (go_at_call 13; exact wl_call (FA.out _)) | (go_at_call 16; exact wl_call (SM.out _))))
  refine wpQuiet_nil ?_
  intro _ hw'
  obtain ⟨z, hw''⟩ := hw'
  subst hw''
  clear wne
  obtain ⟨w7, h7⟩ := z
  dsimp only
  have H7 := hideP h7
  clear h7
  clear a0 a1 a2 y0 y1 y2
  obtain ⟨a0, a1, a2, af0, af1, af2, al⟩ := HX.out.ba.later ((((((H1.out.trans H2.out).trans H3.out).trans H4.out).trans H5.out).trans H6.out).trans H7.out)
  try dsimp only at a0 a1 a2
  obtain ⟨x0, x1, x2, xf0, xf1, xf2, xl⟩ := X2.out.later ((((H3.out.trans H4.out).trans H5.out).trans H6.out).trans H7.out)
  try dsimp only at x0 x1 x2
  go_wp2_with fail
  refine (FA.out _).mono ?_
  rintro e w8 ⟨rfl, h8⟩
  have H8 := hideP h8
  clear h8
  clear a0 a1 a2 af0 af1 af2 al x0 x1 x2 xf0 xf1 xf2 xl
  obtain ⟨a0, a1, a2, af0, af1, af2, al⟩ := HX.out.ba.later (((((((H1.out.trans H2.out).trans H3.out).trans H4.out).trans H5.out).trans H6.out).trans H7.out).trans H8.out)
  try dsimp only at a0 a1 a2
  obtain ⟨x0, x1, x2, xf0, xf1, xf2, xl⟩ := X2.out.later (((((H3.out.trans H4.out).trans H5.out).trans H6.out).trans H7.out).trans H8.out)
  try dsimp only at x0 x1 x2
  go_wp2_with fail
  refine (SQ1.out _).mono ?_
  rintro e w9 ⟨rfl, h9⟩
  have H9 := hideP h9
  clear h9
  clear a0 a1 a2 af0 af1 af2 al x0 x1 x2 xf0 xf1 xf2 xl
  obtain ⟨a0, a1, a2, af0, af1, af2, al⟩ := HX.out.ba.later ((((((((H1.out.trans H2.out).trans H3.out).trans H4.out).trans H5.out).trans H6.out).trans H7.out).trans H8.out).trans H9.out)
  try dsimp only at a0 a1 a2
  obtain ⟨x0, x1, x2, xf0, xf1, xf2, xl⟩ := X2.out.later ((((((H3.out.trans H4.out).trans H5.out).trans H6.out).trans H7.out).trans H8.out).trans H9.out)
  try dsimp only at x0 x1 x2
  go_wp2_with fail
  refine (SQ2.out _).mono ?_
  rintro e w10 ⟨rfl, h10⟩
  have H10 := hideP h10
  clear h10
  clear a0 a1 a2 af0 af1 af2 al x0 x1 x2 xf0 xf1 xf2 xl
  obtain ⟨a0, a1, a2, af0, af1, af2, al⟩ := HX.out.ba.later (((((((((H1.out.trans H2.out).trans H3.out).trans H4.out).trans H5.out).trans H6.out).trans H7.out).trans H8.out).trans H9.out).trans H10.out)
  try dsimp only at a0 a1 a2
  obtain ⟨x0, x1, x2, xf0, xf1, xf2, xl⟩ := X2.out.later (((((((H3.out.trans H4.out).trans H5.out).trans H6.out).trans H7.out).trans H8.out).trans H9.out).trans H10.out)
  try dsimp only at x0 x1 x2
  go_wp2_with fail
  clear a0 a1 a2 af0 af1 af2 al x0 x1 x2 xf0 xf1 xf2 xl
  have wne := wl_ne w10
  obtain ⟨x0, x1, x2⟩ := (X2.out.later (((((((H3.out.trans H4.out).trans H5.out).trans H6.out).trans H7.out).trans H8.out).trans H9.out).trans H10.out)).wl
  try dsimp only at x0 x1 x2
  refine wl_region w10 (Bl.refl _) (by kernel_rfl) (by kernel_rfl) ?_
  repeat (go_big_quiet_step (first | (go_at_call 11; exact wl_call (WR.out _)) | (go_at_call 12; exact wl_call (AW.out _))))
  refine wpQuiet_nil ?_
  intro _ hw'
  obtain ⟨z, hw''⟩ := hw'
  subst hw''
  clear wne
  obtain ⟨w11, h11⟩ := z
  dsimp only
  have H11 := hideP h11
  clear h11
  clear x0 x1 x2
  go_wp2
  go_ret
  exact ⟨rfl, HX.out.bl.trans ((((((((((H1.out.trans H2.out).trans H3.out).trans H4.out).trans H5.out).trans H6.out).trans H7.out).trans H8.out).trans H9.out).trans H10.out).trans H11.out)⟩
set_option maxHeartbeats 2000000 in
theorem walk_FracRoots_3p_false (a : Fr) (n : Int) (w : World) (hf : fineR a = true) (hn : 0 < a.n) (k1 : ¬ sqR a.n < 0) (k2 : sqR a.d < 0) (hr : rootR a = ⟨0, 0, true⟩) (hs : signR a = 1) (hsm : smB n = false) (hnw : newR n 1 = ⟨0, 0, true⟩) :
    Calls Try.prog 6 #[frV a, .int .i64 n] w fun e w' => e = .returned (.bool true) ∧ Bl w w' := by
  obtain ⟨W, X⟩ := oneA_ex w a
  have HX := hideP X
  clear X
  have FL := fineL_any a
  have FM := fineR_any a
  rw [hf] at FL FM
  have FA := hideP FL
  have FI := hideP FM
  have SG := rsign_any a
  rw [hs] at SG
  have S := hideP SG
  have RT := rroot_any a
  rw [hr] at RT
  have R := hideP RT
  have OF0 := rof_any a n
  rw [hnw] at OF0
  have OF := hideP OF0
  have AW := hideP awake4_any
  have WR := hideP wrV_any
  have SM0 := fun w => blOf (small_any n w)
  rw [hsm] at SM0
  have SM := hideP SM0
  have EG := Try.frGuard
  have NQ := neq_self n 1 false
  have EW := eql_wr
  have SQ1 := hideP (fun w => blOf (square_any a.n (by omega) (fine_n hf).2 w))
  have SQ2 := hideP (fun w => blOf (square_any a.d (by have := fineR_iff.1 hf; omega) (fine_dd hf).2 w))
  have hn' : ¬ a.n < 0 := by omega
  clear FL FM SG RT OF0 SM0 hsm hnw hr hs hf
  generalize sqR a.n = p at *
  generalize sqR a.d = q at *
  go_enter Try.func6, Try.ntmps6
  go_wp2_with fail
  rw [← HX.out.eq]
  obtain ⟨a0, a1, a2, af0, af1, af2, al⟩ := HX.out.ba.later (Bl.refl W)
  try dsimp only at a0 a1 a2
  go_wp2_with fail
  refine (R.out _).mono ?_
  rintro e w1 ⟨rfl, h1⟩
  have H1 := hideP h1
  clear h1
  clear a0 a1 a2 af0 af1 af2 al
  obtain ⟨a0, a1, a2, af0, af1, af2, al⟩ := HX.out.ba.later H1.out
  try dsimp only at a0 a1 a2
  go_wp2_with fail
  obtain ⟨w2, Y2⟩ := oneA_ex w1 ⟨0, 0, true⟩
  have e2 := Y2.eq
  try dsimp only at e2
  rw [← e2]
  have H2 := hideP Y2.bl
  have X2 := hideP Y2.ba
  clear Y2 e2
  clear a0 a1 a2 af0 af1 af2 al
  obtain ⟨a0, a1, a2, af0, af1, af2, al⟩ := HX.out.ba.later (H1.out.trans H2.out)
  try dsimp only at a0 a1 a2
  obtain ⟨x0, x1, x2, xf0, xf1, xf2, xl⟩ := X2.out.later (Bl.refl w2)
  try dsimp only at x0 x1 x2
  go_wp2_with fail
  refine (FA.out _).mono ?_
  rintro e w3 ⟨rfl, h3⟩
  have H3 := hideP h3
  clear h3
  clear a0 a1 a2 af0 af1 af2 al x0 x1 x2 xf0 xf1 xf2 xl
  obtain ⟨a0, a1, a2, af0, af1, af2, al⟩ := HX.out.ba.later ((H1.out.trans H2.out).trans H3.out)
  try dsimp only at a0 a1 a2
  obtain ⟨x0, x1, x2, xf0, xf1, xf2, xl⟩ := X2.out.later H3.out
  try dsimp only at x0 x1 x2
  go_wp2_with fail
  refine (FA.out _).mono ?_
  rintro e w4 ⟨rfl, h4⟩
  have H4 := hideP h4
  clear h4
  clear a0 a1 a2 af0 af1 af2 al x0 x1 x2 xf0 xf1 xf2 xl
  obtain ⟨a0, a1, a2, af0, af1, af2, al⟩ := HX.out.ba.later (((H1.out.trans H2.out).trans H3.out).trans H4.out)
  try dsimp only at a0 a1 a2
  obtain ⟨x0, x1, x2, xf0, xf1, xf2, xl⟩ := X2.out.later (H3.out.trans H4.out)
  try dsimp only at x0 x1 x2
  go_wp2_with fail
  refine (OF.out _).mono ?_
  rintro e w5 ⟨rfl, h5⟩
  have H5 := hideP h5
  clear h5
  clear a0 a1 a2 af0 af1 af2 al x0 x1 x2 xf0 xf1 xf2 xl
  obtain ⟨a0, a1, a2, af0, af1, af2, al⟩ := HX.out.ba.later ((((H1.out.trans H2.out).trans H3.out).trans H4.out).trans H5.out)
  try dsimp only at a0 a1 a2
  obtain ⟨x0, x1, x2, xf0, xf1, xf2, xl⟩ := X2.out.later ((H3.out.trans H4.out).trans H5.out)
  try dsimp only at x0 x1 x2
  go_wp2_with fail
  obtain ⟨w6, Y6⟩ := oneA_ex w5 ⟨0, 0, true⟩
  have e6 := Y6.eq
  try dsimp only at e6
  rw [← e6]
  have H6 := hideP Y6.bl
  have X6 := hideP Y6.ba
  clear Y6 e6
  clear a0 a1 a2 af0 af1 af2 al x0 x1 x2 xf0 xf1 xf2 xl
  obtain ⟨a0, a1, a2, af0, af1, af2, al⟩ := HX.out.ba.later (((((H1.out.trans H2.out).trans H3.out).trans H4.out).trans H5.out).trans H6.out)
  try dsimp only at a0 a1 a2
  obtain ⟨x0, x1, x2, xf0, xf1, xf2, xl⟩ := X2.out.later (((H3.out.trans H4.out).trans H5.out).trans H6.out)
  try dsimp only at x0 x1 x2
  obtain ⟨y0, y1, y2, yf0, yf1, yf2, yl⟩ := X6.out.later (Bl.refl w6)
  try dsimp only at y0 y1 y2
  go_wp2_with fail
  clear a0 a1 a2 af0 af1 af2 al x0 x1 x2 xf0 xf1 xf2 xl y0 y1 y2 yf0 yf1 yf2 yl
  have wne := wl_ne w6
  obtain ⟨a0, a1, a2⟩ := (HX.out.ba.later (((((H1.out.trans H2.out).trans H3.out).trans H4.out).trans H5.out).trans H6.out)).wl
  try dsimp only at a0 a1 a2
  obtain ⟨y0, y1, y2⟩ := (X6.out.later (Bl.refl w6)).wl
  try dsimp only at y0 y1 y2
  refine wl_region w6 (Bl.refl _) (by kernel_rfl) (by kernel_rfl) ?_
  repeat (go_big_quiet_step (first | (go_at_call 25; exact wl_call (S.out _)) | (go_at_call 14; exact wl_call (FI.out _)) | (go_at_call 13; exact wl_call (FA.out _)) | (go_at_call 16; exact wl_call (SM.out _))))
  refine wpQuiet_nil ?_
  intro _ hw'
  obtain ⟨z, hw''⟩ := hw'
  subst hw''
  clear wne
  obtain ⟨w7, h7⟩ := z
  dsimp only
  have H7 := hideP h7
  clear h7
  clear a0 a1 a2 y0 y1 y2
  obtain ⟨a0, a1, a2, af0, af1, af2, al⟩ := HX.out.ba.later ((((((H1.out.trans H2.out).trans H3.out).trans H4.out).trans H5.out).trans H6.out).trans H7.out)
  try dsimp only at a0 a1 a2
  obtain ⟨x0, x1, x2, xf0, xf1, xf2, xl⟩ := X2.out.later ((((H3.out.trans H4.out).trans H5.out).trans H6.out).trans H7.out)
  try dsimp only at x0 x1 x2
  go_wp2_with fail
  refine (FA.out _).mono ?_
  rintro e w8 ⟨rfl, h8⟩
  have H8 := hideP h8
  clear h8
  clear a0 a1 a2 af0 af1 af2 al x0 x1 x2 xf0 xf1 xf2 xl
  obtain ⟨a0, a1, a2, af0, af1, af2, al⟩ := HX.out.ba.later (((((((H1.out.trans H2.out).trans H3.out).trans H4.out).trans H5.out).trans H6.out).trans H7.out).trans H8.out)
  try dsimp only at a0 a1 a2
  obtain ⟨x0, x1, x2, xf0, xf1, xf2, xl⟩ := X2.out.later (((((H3.out.trans H4.out).trans H5.out).trans H6.out).trans H7.out).trans H8.out)
  try dsimp only at x0 x1 x2
  go_wp2_with fail
  refine (SQ1.out _).mono ?_
  rintro e w9 ⟨rfl, h9⟩
  have H9 := hideP h9
  clear h9
  clear a0 a1 a2 af0 af1 af2 al x0 x1 x2 xf0 xf1 xf2 xl
  obtain ⟨a0, a1, a2, af0, af1, af2, al⟩ := HX.out.ba.later ((((((((H1.out.trans H2.out).trans H3.out).trans H4.out).trans H5.out).trans H6.out).trans H7.out).trans H8.out).trans H9.out)
  try dsimp only at a0 a1 a2
  obtain ⟨x0, x1, x2, xf0, xf1, xf2, xl⟩ := X2.out.later ((((((H3.out.trans H4.out).trans H5.out).trans H6.out).trans H7.out).trans H8.out).trans H9.out)
  try dsimp only at x0 x1 x2
  go_wp2_with fail
  refine (SQ2.out _).mono ?_
  rintro e w10 ⟨rfl, h10⟩
  have H10 := hideP h10
  clear h10
  clear a0 a1 a2 af0 af1 af2 al x0 x1 x2 xf0 xf1 xf2 xl
  obtain ⟨a0, a1, a2, af0, af1, af2, al⟩ := HX.out.ba.later (((((((((H1.out.trans H2.out).trans H3.out).trans H4.out).trans H5.out).trans H6.out).trans H7.out).trans H8.out).trans H9.out).trans H10.out)
  try dsimp only at a0 a1 a2
  obtain ⟨x0, x1, x2, xf0, xf1, xf2, xl⟩ := X2.out.later (((((((H3.out.trans H4.out).trans H5.out).trans H6.out).trans H7.out).trans H8.out).trans H9.out).trans H10.out)
  try dsimp only at x0 x1 x2
  go_wp2_with fail
  clear a0 a1 a2 af0 af1 af2 al x0 x1 x2 xf0 xf1 xf2 xl
  have wne := wl_ne w10
  obtain ⟨x0, x1, x2⟩ := (X2.out.later (((((((H3.out.trans H4.out).trans H5.out).trans H6.out).trans H7.out).trans H8.out).trans H9.out).trans H10.out)).wl
  try dsimp only at x0 x1 x2
  refine wl_region w10 (Bl.refl _) (by kernel_rfl) (by kernel_rfl) ?_
  repeat (go_big_quiet_step (first | (go_at_call 11; exact wl_call (WR.out _)) | (go_at_call 12; exact wl_call (AW.out _))))
  refine wpQuiet_nil ?_
  intro _ hw'
  obtain ⟨z, hw''⟩ := hw'
  subst hw''
  clear wne
  obtain ⟨w11, h11⟩ := z
  dsimp only
  have H11 := hideP h11
  clear h11
  clear x0 x1 x2
  go_wp2
  go_ret
  exact ⟨rfl, HX.out.bl.trans ((((((((((H1.out.trans H2.out).trans H3.out).trans H4.out).trans H5.out).trans H6.out).trans H7.out).trans H8.out).trans H9.out).trans H10.out).trans H11.out)⟩
set_option maxHeartbeats 2000000 in
theorem walk_FracRoots_3z_true (a : Fr) (n : Int) (w : World) (hf : fineR a = true) (hn : a.n = 0) (k1 : ¬ sqR a.n < 0) (k2 : sqR a.d < 0) (hr : rootR a = ⟨0, 0, true⟩) (hs : signR a = 0) (hsm : smB n = true) (hnw : newR n 1 = ⟨n, 1, false⟩) :
    Calls Try.prog 6 #[frV a, .int .i64 n] w fun e w' => e = .returned (.bool true) ∧ Bl w w' := by
  obtain ⟨W, X⟩ := oneA_ex w a
  have HX := hideP X
  clear X
  have FL := fineL_any a
  have FM := fineR_any a
  rw [hf] at FL FM
  have FA := hideP FL
  have FI := hideP FM
  have SG := rsign_any a
  rw [hs] at SG
  have S := hideP SG
  have RT := rroot_any a
  rw [hr] at RT
  have R := hideP RT
  have OF0 := rof_any a n
  rw [hnw] at OF0
  have OF := hideP OF0
  have AW := hideP awake4_any
  have WR := hideP wrV_any
  have SM0 := fun w => blOf (small_any n w)
  rw [hsm] at SM0
  have SM := hideP SM0
  have EG := Try.frGuard
  have NQ := neq_self n 1 false
  have EW := eql_wr
  have SQ1 := hideP (fun w => blOf (square_any a.n (by omega) (fine_n hf).2 w))
  have SQ2 := hideP (fun w => blOf (square_any a.d (by have := fineR_iff.1 hf; omega) (fine_dd hf).2 w))
  have hn' : ¬ a.n < 0 := by omega
  have hn'' : ¬ 0 < a.n := by omega
  clear hn
  clear FL FM SG RT OF0 SM0 hsm hnw hr hs hf
  generalize sqR a.n = p at *
  generalize sqR a.d = q at *
  go_enter Try.func6, Try.ntmps6
  go_wp2_with fail
  rw [← HX.out.eq]
  obtain ⟨a0, a1, a2, af0, af1, af2, al⟩ := HX.out.ba.later (Bl.refl W)
  try dsimp only at a0 a1 a2
  go_wp2_with fail
  refine (R.out _).mono ?_
  rintro e w1 ⟨rfl, h1⟩
  have H1 := hideP h1
  clear h1
  clear a0 a1 a2 af0 af1 af2 al
  obtain ⟨a0, a1, a2, af0, af1, af2, al⟩ := HX.out.ba.later H1.out
  try dsimp only at a0 a1 a2
  go_wp2_with fail
  obtain ⟨w2, Y2⟩ := oneA_ex w1 ⟨0, 0, true⟩
  have e2 := Y2.eq
  try dsimp only at e2
  rw [← e2]
  have H2 := hideP Y2.bl
  have X2 := hideP Y2.ba
  clear Y2 e2
  clear a0 a1 a2 af0 af1 af2 al
  obtain ⟨a0, a1, a2, af0, af1, af2, al⟩ := HX.out.ba.later (H1.out.trans H2.out)
  try dsimp only at a0 a1 a2
  obtain ⟨x0, x1, x2, xf0, xf1, xf2, xl⟩ := X2.out.later (Bl.refl w2)
  try dsimp only at x0 x1 x2
  go_wp2_with fail
  refine (FA.out _).mono ?_
  rintro e w3 ⟨rfl, h3⟩
  have H3 := hideP h3
  clear h3
  clear a0 a1 a2 af0 af1 af2 al x0 x1 x2 xf0 xf1 xf2 xl
  obtain ⟨a0, a1, a2, af0, af1, af2, al⟩ := HX.out.ba.later ((H1.out.trans H2.out).trans H3.out)
  try dsimp only at a0 a1 a2
  obtain ⟨x0, x1, x2, xf0, xf1, xf2, xl⟩ := X2.out.later H3.out
  try dsimp only at x0 x1 x2
  go_wp2_with fail
  refine (FA.out _).mono ?_
  rintro e w4 ⟨rfl, h4⟩
  have H4 := hideP h4
  clear h4
  clear a0 a1 a2 af0 af1 af2 al x0 x1 x2 xf0 xf1 xf2 xl
  obtain ⟨a0, a1, a2, af0, af1, af2, al⟩ := HX.out.ba.later (((H1.out.trans H2.out).trans H3.out).trans H4.out)
  try dsimp only at a0 a1 a2
  obtain ⟨x0, x1, x2, xf0, xf1, xf2, xl⟩ := X2.out.later (H3.out.trans H4.out)
  try dsimp only at x0 x1 x2
  go_wp2_with fail
  refine (OF.out _).mono ?_
  rintro e w5 ⟨rfl, h5⟩
  have H5 := hideP h5
  clear h5
  clear a0 a1 a2 af0 af1 af2 al x0 x1 x2 xf0 xf1 xf2 xl
  obtain ⟨a0, a1, a2, af0, af1, af2, al⟩ := HX.out.ba.later ((((H1.out.trans H2.out).trans H3.out).trans H4.out).trans H5.out)
  try dsimp only at a0 a1 a2
  obtain ⟨x0, x1, x2, xf0, xf1, xf2, xl⟩ := X2.out.later ((H3.out.trans H4.out).trans H5.out)
  try dsimp only at x0 x1 x2
  go_wp2_with fail
  obtain ⟨w6, Y6⟩ := oneA_ex w5 ⟨n, 1, false⟩
  have e6 := Y6.eq
  try dsimp only at e6
  rw [← e6]
  have H6 := hideP Y6.bl
  have X6 := hideP Y6.ba
  clear Y6 e6
  clear a0 a1 a2 af0 af1 af2 al x0 x1 x2 xf0 xf1 xf2 xl
  obtain ⟨a0, a1, a2, af0, af1, af2, al⟩ := HX.out.ba.later (((((H1.out.trans H2.out).trans H3.out).trans H4.out).trans H5.out).trans H6.out)
  try dsimp only at a0 a1 a2
  obtain ⟨x0, x1, x2, xf0, xf1, xf2, xl⟩ := X2.out.later (((H3.out.trans H4.out).trans H5.out).trans H6.out)
  try dsimp only at x0 x1 x2
  obtain ⟨y0, y1, y2, yf0, yf1, yf2, yl⟩ := X6.out.later (Bl.refl w6)
  try dsimp only at y0 y1 y2
  go_wp2_with fail
  clear a0 a1 a2 af0 af1 af2 al x0 x1 x2 xf0 xf1 xf2 xl y0 y1 y2 yf0 yf1 yf2 yl
  have wne := wl_ne w6
  obtain ⟨a0, a1, a2⟩ := (HX.out.ba.later (((((H1.out.trans H2.out).trans H3.out).trans H4.out).trans H5.out).trans H6.out)).wl
  try dsimp only at a0 a1 a2
  obtain ⟨y0, y1, y2⟩ := (X6.out.later (Bl.refl w6)).wl
  try dsimp only at y0 y1 y2
  refine wl_region w6 (Bl.refl _) (by kernel_rfl) (by kernel_rfl) ?_
  repeat (go_big_quiet_step (first | (go_at_call 25; exact wl_call (S.out _)) | (go_at_call 14; exact wl_call (FI.out _)) | (go_at_call 13; exact wl_call (FA.out _)) | (go_at_call 16; exact wl_call (SM.out _))))
  refine wpQuiet_nil ?_
  intro _ hw'
  obtain ⟨z, hw''⟩ := hw'
  subst hw''
  clear wne
  obtain ⟨w7, h7⟩ := z
  dsimp only
  have H7 := hideP h7
  clear h7
  clear a0 a1 a2 y0 y1 y2
  obtain ⟨a0, a1, a2, af0, af1, af2, al⟩ := HX.out.ba.later ((((((H1.out.trans H2.out).trans H3.out).trans H4.out).trans H5.out).trans H6.out).trans H7.out)
  try dsimp only at a0 a1 a2
  obtain ⟨x0, x1, x2, xf0, xf1, xf2, xl⟩ := X2.out.later ((((H3.out.trans H4.out).trans H5.out).trans H6.out).trans H7.out)
  try dsimp only at x0 x1 x2
  go_wp2_with fail
  refine (FA.out _).mono ?_
  rintro e w8 ⟨rfl, h8⟩
  have H8 := hideP h8
  clear h8
  clear a0 a1 a2 af0 af1 af2 al x0 x1 x2 xf0 xf1 xf2 xl
  obtain ⟨a0, a1, a2, af0, af1, af2, al⟩ := HX.out.ba.later (((((((H1.out.trans H2.out).trans H3.out).trans H4.out).trans H5.out).trans H6.out).trans H7.out).trans H8.out)
  try dsimp only at a0 a1 a2
  obtain ⟨x0, x1, x2, xf0, xf1, xf2, xl⟩ := X2.out.later (((((H3.out.trans H4.out).trans H5.out).trans H6.out).trans H7.out).trans H8.out)
  try dsimp only at x0 x1 x2
  go_wp2_with fail
  refine (SQ1.out _).mono ?_
  rintro e w9 ⟨rfl, h9⟩
  have H9 := hideP h9
  clear h9
  clear a0 a1 a2 af0 af1 af2 al x0 x1 x2 xf0 xf1 xf2 xl
  obtain ⟨a0, a1, a2, af0, af1, af2, al⟩ := HX.out.ba.later ((((((((H1.out.trans H2.out).trans H3.out).trans H4.out).trans H5.out).trans H6.out).trans H7.out).trans H8.out).trans H9.out)
  try dsimp only at a0 a1 a2
  obtain ⟨x0, x1, x2, xf0, xf1, xf2, xl⟩ := X2.out.later ((((((H3.out.trans H4.out).trans H5.out).trans H6.out).trans H7.out).trans H8.out).trans H9.out)
  try dsimp only at x0 x1 x2
  go_wp2_with fail
  refine (SQ2.out _).mono ?_
  rintro e w10 ⟨rfl, h10⟩
  have H10 := hideP h10
  clear h10
  clear a0 a1 a2 af0 af1 af2 al x0 x1 x2 xf0 xf1 xf2 xl
  obtain ⟨a0, a1, a2, af0, af1, af2, al⟩ := HX.out.ba.later (((((((((H1.out.trans H2.out).trans H3.out).trans H4.out).trans H5.out).trans H6.out).trans H7.out).trans H8.out).trans H9.out).trans H10.out)
  try dsimp only at a0 a1 a2
  obtain ⟨x0, x1, x2, xf0, xf1, xf2, xl⟩ := X2.out.later (((((((H3.out.trans H4.out).trans H5.out).trans H6.out).trans H7.out).trans H8.out).trans H9.out).trans H10.out)
  try dsimp only at x0 x1 x2
  go_wp2_with fail
  clear a0 a1 a2 af0 af1 af2 al x0 x1 x2 xf0 xf1 xf2 xl
  have wne := wl_ne w10
  obtain ⟨x0, x1, x2⟩ := (X2.out.later (((((((H3.out.trans H4.out).trans H5.out).trans H6.out).trans H7.out).trans H8.out).trans H9.out).trans H10.out)).wl
  try dsimp only at x0 x1 x2
  refine wl_region w10 (Bl.refl _) (by kernel_rfl) (by kernel_rfl) ?_
  repeat (go_big_quiet_step (first | (go_at_call 11; exact wl_call (WR.out _)) | (go_at_call 12; exact wl_call (AW.out _))))
  refine wpQuiet_nil ?_
  intro _ hw'
  obtain ⟨z, hw''⟩ := hw'
  subst hw''
  clear wne
  obtain ⟨w11, h11⟩ := z
  dsimp only
  have H11 := hideP h11
  clear h11
  clear x0 x1 x2
  go_wp2
  go_ret
  exact ⟨rfl, HX.out.bl.trans ((((((((((H1.out.trans H2.out).trans H3.out).trans H4.out).trans H5.out).trans H6.out).trans H7.out).trans H8.out).trans H9.out).trans H10.out).trans H11.out)⟩
set_option maxHeartbeats 2000000 in
theorem walk_FracRoots_3z_false (a : Fr) (n : Int) (w : World) (hf : fineR a = true) (hn : a.n = 0) (k1 : ¬ sqR a.n < 0) (k2 : sqR a.d < 0) (hr : rootR a = ⟨0, 0, true⟩) (hs : signR a = 0) (hsm : smB n = false) (hnw : newR n 1 = ⟨0, 0, true⟩) :
    Calls Try.prog 6 #[frV a, .int .i64 n] w fun e w' => e = .returned (.bool true) ∧ Bl w w' := by
  obtain ⟨W, X⟩ := oneA_ex w a
  have HX := hideP X
  clear X
  have FL := fineL_any a
  have FM := fineR_any a
  rw [hf] at FL FM
  have FA := hideP FL
  have FI := hideP FM
  have SG := rsign_any a
  rw [hs] at SG
  have S := hideP SG
  have RT := rroot_any a
  rw [hr] at RT
  have R := hideP RT
  have OF0 := rof_any a n
  rw [hnw] at OF0
  have OF := hideP OF0
  have AW := hideP awake4_any
  have WR := hideP wrV_any
  have SM0 := fun w => blOf (small_any n w)
  rw [hsm] at SM0
  have SM := hideP SM0
  have EG := Try.frGuard
  have NQ := neq_self n 1 false
  have EW := eql_wr
  have SQ1 := hideP (fun w => blOf (square_any a.n (by omega) (fine_n hf).2 w))
  have SQ2 := hideP (fun w => blOf (square_any a.d (by have := fineR_iff.1 hf; omega) (fine_dd hf).2 w))
  have hn' : ¬ a.n < 0 := by omega
  have hn'' : ¬ 0 < a.n := by omega
  clear hn
  clear FL FM SG RT OF0 SM0 hsm hnw hr hs hf
  generalize sqR a.n = p at *
  generalize sqR a.d = q at *
  go_enter Try.func6, Try.ntmps6
  go_wp2_with fail
  rw [← HX.out.eq]
  obtain ⟨a0, a1, a2, af0, af1, af2, al⟩ := HX.out.ba.later (Bl.refl W)
  try dsimp only at a0 a1 a2
  go_wp2_with fail
  refine (R.out _).mono ?_
  rintro e w1 ⟨rfl, h1⟩
  have H1 := hideP h1
  clear h1
  clear a0 a1 a2 af0 af1 af2 al
  obtain ⟨a0, a1, a2, af0, af1, af2, al⟩ := HX.out.ba.later H1.out
  try dsimp only at a0 a1 a2
  go_wp2_with fail
  obtain ⟨w2, Y2⟩ := oneA_ex w1 ⟨0, 0, true⟩
  have e2 := Y2.eq
  try dsimp only at e2
  rw [← e2]
  have H2 := hideP Y2.bl
  have X2 := hideP Y2.ba
  clear Y2 e2
  clear a0 a1 a2 af0 af1 af2 al
  obtain ⟨a0, a1, a2, af0, af1, af2, al⟩ := HX.out.ba.later (H1.out.trans H2.out)
  try dsimp only at a0 a1 a2
  obtain ⟨x0, x1, x2, xf0, xf1, xf2, xl⟩ := X2.out.later (Bl.refl w2)
  try dsimp only at x0 x1 x2
  go_wp2_with fail
  refine (FA.out _).mono ?_
  rintro e w3 ⟨rfl, h3⟩
  have H3 := hideP h3
  clear h3
  clear a0 a1 a2 af0 af1 af2 al x0 x1 x2 xf0 xf1 xf2 xl
  obtain ⟨a0, a1, a2, af0, af1, af2, al⟩ := HX.out.ba.later ((H1.out.trans H2.out).trans H3.out)
  try dsimp only at a0 a1 a2
  obtain ⟨x0, x1, x2, xf0, xf1, xf2, xl⟩ := X2.out.later H3.out
  try dsimp only at x0 x1 x2
  go_wp2_with fail
  refine (FA.out _).mono ?_
  rintro e w4 ⟨rfl, h4⟩
  have H4 := hideP h4
  clear h4
  clear a0 a1 a2 af0 af1 af2 al x0 x1 x2 xf0 xf1 xf2 xl
  obtain ⟨a0, a1, a2, af0, af1, af2, al⟩ := HX.out.ba.later (((H1.out.trans H2.out).trans H3.out).trans H4.out)
  try dsimp only at a0 a1 a2
  obtain ⟨x0, x1, x2, xf0, xf1, xf2, xl⟩ := X2.out.later (H3.out.trans H4.out)
  try dsimp only at x0 x1 x2
  go_wp2_with fail
  refine (OF.out _).mono ?_
  rintro e w5 ⟨rfl, h5⟩
  have H5 := hideP h5
  clear h5
  clear a0 a1 a2 af0 af1 af2 al x0 x1 x2 xf0 xf1 xf2 xl
  obtain ⟨a0, a1, a2, af0, af1, af2, al⟩ := HX.out.ba.later ((((H1.out.trans H2.out).trans H3.out).trans H4.out).trans H5.out)
  try dsimp only at a0 a1 a2
  obtain ⟨x0, x1, x2, xf0, xf1, xf2, xl⟩ := X2.out.later ((H3.out.trans H4.out).trans H5.out)
  try dsimp only at x0 x1 x2
  go_wp2_with fail
  obtain ⟨w6, Y6⟩ := oneA_ex w5 ⟨0, 0, true⟩
  have e6 := Y6.eq
  try dsimp only at e6
  rw [← e6]
  have H6 := hideP Y6.bl
  have X6 := hideP Y6.ba
  clear Y6 e6
  clear a0 a1 a2 af0 af1 af2 al x0 x1 x2 xf0 xf1 xf2 xl
  obtain ⟨a0, a1, a2, af0, af1, af2, al⟩ := HX.out.ba.later (((((H1.out.trans H2.out).trans H3.out).trans H4.out).trans H5.out).trans H6.out)
  try dsimp only at a0 a1 a2
  obtain ⟨x0, x1, x2, xf0, xf1, xf2, xl⟩ := X2.out.later (((H3.out.trans H4.out).trans H5.out).trans H6.out)
  try dsimp only at x0 x1 x2
  obtain ⟨y0, y1, y2, yf0, yf1, yf2, yl⟩ := X6.out.later (Bl.refl w6)
  try dsimp only at y0 y1 y2
  go_wp2_with fail
  clear a0 a1 a2 af0 af1 af2 al x0 x1 x2 xf0 xf1 xf2 xl y0 y1 y2 yf0 yf1 yf2 yl
  have wne := wl_ne w6
  obtain ⟨a0, a1, a2⟩ := (HX.out.ba.later (((((H1.out.trans H2.out).trans H3.out).trans H4.out).trans H5.out).trans H6.out)).wl
  try dsimp only at a0 a1 a2
  obtain ⟨y0, y1, y2⟩ := (X6.out.later (Bl.refl w6)).wl
  try dsimp only at y0 y1 y2
  refine wl_region w6 (Bl.refl _) (by kernel_rfl) (by kernel_rfl) ?_
  repeat (go_big_quiet_step (first | (go_at_call 25; exact wl_call (S.out _)) | (go_at_call 14; exact wl_call (FI.out _)) | (go_at_call 13; exact wl_call (FA.out _)) | (go_at_call 16; exact wl_call (SM.out _))))
  refine wpQuiet_nil ?_
  intro _ hw'
  obtain ⟨z, hw''⟩ := hw'
  subst hw''
  clear wne
  obtain ⟨w7, h7⟩ := z
  dsimp only
  have H7 := hideP h7
  clear h7
  clear a0 a1 a2 y0 y1 y2
  obtain ⟨a0, a1, a2, af0, af1, af2, al⟩ := HX.out.ba.later ((((((H1.out.trans H2.out).trans H3.out).trans H4.out).trans H5.out).trans H6.out).trans H7.out)
  try dsimp only at a0 a1 a2
  obtain ⟨x0, x1, x2, xf0, xf1, xf2, xl⟩ := X2.out.later ((((H3.out.trans H4.out).trans H5.out).trans H6.out).trans H7.out)
  try dsimp only at x0 x1 x2
  go_wp2_with fail
  refine (FA.out _).mono ?_
  rintro e w8 ⟨rfl, h8⟩
  have H8 := hideP h8
  clear h8
  clear a0 a1 a2 af0 af1 af2 al x0 x1 x2 xf0 xf1 xf2 xl
  obtain ⟨a0, a1, a2, af0, af1, af2, al⟩ := HX.out.ba.later (((((((H1.out.trans H2.out).trans H3.out).trans H4.out).trans H5.out).trans H6.out).trans H7.out).trans H8.out)
  try dsimp only at a0 a1 a2
  obtain ⟨x0, x1, x2, xf0, xf1, xf2, xl⟩ := X2.out.later (((((H3.out.trans H4.out).trans H5.out).trans H6.out).trans H7.out).trans H8.out)
  try dsimp only at x0 x1 x2
  go_wp2_with fail
  refine (SQ1.out _).mono ?_
  rintro e w9 ⟨rfl, h9⟩
  have H9 := hideP h9
  clear h9
  clear a0 a1 a2 af0 af1 af2 al x0 x1 x2 xf0 xf1 xf2 xl
  obtain ⟨a0, a1, a2, af0, af1, af2, al⟩ := HX.out.ba.later ((((((((H1.out.trans H2.out).trans H3.out).trans H4.out).trans H5.out).trans H6.out).trans H7.out).trans H8.out).trans H9.out)
  try dsimp only at a0 a1 a2
  obtain ⟨x0, x1, x2, xf0, xf1, xf2, xl⟩ := X2.out.later ((((((H3.out.trans H4.out).trans H5.out).trans H6.out).trans H7.out).trans H8.out).trans H9.out)
  try dsimp only at x0 x1 x2
  go_wp2_with fail
  refine (SQ2.out _).mono ?_
  rintro e w10 ⟨rfl, h10⟩
  have H10 := hideP h10
  clear h10
  clear a0 a1 a2 af0 af1 af2 al x0 x1 x2 xf0 xf1 xf2 xl
  obtain ⟨a0, a1, a2, af0, af1, af2, al⟩ := HX.out.ba.later (((((((((H1.out.trans H2.out).trans H3.out).trans H4.out).trans H5.out).trans H6.out).trans H7.out).trans H8.out).trans H9.out).trans H10.out)
  try dsimp only at a0 a1 a2
  obtain ⟨x0, x1, x2, xf0, xf1, xf2, xl⟩ := X2.out.later (((((((H3.out.trans H4.out).trans H5.out).trans H6.out).trans H7.out).trans H8.out).trans H9.out).trans H10.out)
  try dsimp only at x0 x1 x2
  go_wp2_with fail
  clear a0 a1 a2 af0 af1 af2 al x0 x1 x2 xf0 xf1 xf2 xl
  have wne := wl_ne w10
  obtain ⟨x0, x1, x2⟩ := (X2.out.later (((((((H3.out.trans H4.out).trans H5.out).trans H6.out).trans H7.out).trans H8.out).trans H9.out).trans H10.out)).wl
  try dsimp only at x0 x1 x2
  refine wl_region w10 (Bl.refl _) (by kernel_rfl) (by kernel_rfl) ?_
  repeat (go_big_quiet_step (first | (go_at_call 11; exact wl_call (WR.out _)) | (go_at_call 12; exact wl_call (AW.out _))))
  refine wpQuiet_nil ?_
  intro _ hw'
  obtain ⟨z, hw''⟩ := hw'
  subst hw''
  clear wne
  obtain ⟨w11, h11⟩ := z
  dsimp only
  have H11 := hideP h11
  clear h11
  clear x0 x1 x2
  go_wp2
  go_ret
  exact ⟨rfl, HX.out.bl.trans ((((((((((H1.out.trans H2.out).trans H3.out).trans H4.out).trans H5.out).trans H6.out).trans H7.out).trans H8.out).trans H9.out).trans H10.out).trans H11.out)⟩
set_option maxHeartbeats 2000000 in
theorem walk_FracRoots_4p_true (a : Fr) (n : Int) (w : World) (hf : fineR a = true) (hn : 0 < a.n) (k1 : ¬ sqR a.n < 0) (k2 : ¬ sqR a.d < 0) (hr : rootR a = ⟨sqR a.n, sqR a.d, false⟩) (hm : mulR ⟨sqR a.n, sqR a.d, false⟩ ⟨sqR a.n, sqR a.d, false⟩ = a) (hs : signR a = 1) (hsm : smB n = true) (hnw : newR n 1 = ⟨n, 1, false⟩) :
    Calls Try.prog 6 #[frV a, .int .i64 n] w fun e w' => e = .returned (.bool true) ∧ Bl w w' := by
  obtain ⟨W, X⟩ := oneA_ex w a
  have HX := hideP X
  clear X
  have FL := fineL_any a
  have FM := fineR_any a
  rw [hf] at FL FM
  have FA := hideP FL
  have FI := hideP FM
  have SG := rsign_any a
  rw [hs] at SG
  have S := hideP SG
  have RT := rroot_any a
  rw [hr] at RT
  have R := hideP RT
  have OF0 := rof_any a n
  rw [hnw] at OF0
  have OF := hideP OF0
  have AW := hideP awake4_any
  have WR := hideP wrV_any
  have SM0 := fun w => blOf (small_any n w)
  rw [hsm] at SM0
  have SM := hideP SM0
  have EG := Try.frGuard
  have NQ := neq_self n 1 false
  have EW := eql_wr
  have SQ1 := hideP (fun w => blOf (square_any a.n (by omega) (fine_n hf).2 w))
  have SQ2 := hideP (fun w => blOf (square_any a.d (by have := fineR_iff.1 hf; omega) (fine_dd hf).2 w))
  have M0 := rmul_any ⟨sqR a.n, sqR a.d, false⟩ ⟨sqR a.n, sqR a.d, false⟩
  rw [hm] at M0
  have M := hideP M0
  have EQ := eql_self (sqR a.n) (sqR a.d) false
  have EA := eql_self a.n a.d a.bad
  clear hm M0
  have hn' : ¬ a.n < 0 := by omega
  clear FL FM SG RT OF0 SM0 hsm hnw hr hs hf
  generalize sqR a.n = p at *
  generalize sqR a.d = q at *
  go_enter Try.func6, Try.ntmps6
  go_wp2_with fail
  rw [← HX.out.eq]
  obtain ⟨a0, a1, a2, af0, af1, af2, al⟩ := HX.out.ba.later (Bl.refl W)
  try dsimp only at a0 a1 a2
  go_wp2_with fail
  refine (R.out _).mono ?_
  rintro e w1 ⟨rfl, h1⟩
  have H1 := hideP h1
  clear h1
  clear a0 a1 a2 af0 af1 af2 al
  obtain ⟨a0, a1, a2, af0, af1, af2, al⟩ := HX.out.ba.later H1.out
  try dsimp only at a0 a1 a2
  go_wp2_with fail
  obtain ⟨w2, Y2⟩ := oneA_ex w1 ⟨p, q, false⟩
  have e2 := Y2.eq
  try dsimp only at e2
  rw [← e2]
  have H2 := hideP Y2.bl
  have X2 := hideP Y2.ba
  clear Y2 e2
  clear a0 a1 a2 af0 af1 af2 al
  obtain ⟨a0, a1, a2, af0, af1, af2, al⟩ := HX.out.ba.later (H1.out.trans H2.out)
  try dsimp only at a0 a1 a2
  obtain ⟨x0, x1, x2, xf0, xf1, xf2, xl⟩ := X2.out.later (Bl.refl w2)
  try dsimp only at x0 x1 x2
  go_wp2_with fail
  refine (FA.out _).mono ?_
  rintro e w3 ⟨rfl, h3⟩
  have H3 := hideP h3
  clear h3
  clear a0 a1 a2 af0 af1 af2 al x0 x1 x2 xf0 xf1 xf2 xl
  obtain ⟨a0, a1, a2, af0, af1, af2, al⟩ := HX.out.ba.later ((H1.out.trans H2.out).trans H3.out)
  try dsimp only at a0 a1 a2
  obtain ⟨x0, x1, x2, xf0, xf1, xf2, xl⟩ := X2.out.later H3.out
  try dsimp only at x0 x1 x2
  go_wp2_with fail
  refine (FA.out _).mono ?_
  rintro e w4 ⟨rfl, h4⟩
  have H4 := hideP h4
  clear h4
  clear a0 a1 a2 af0 af1 af2 al x0 x1 x2 xf0 xf1 xf2 xl
  obtain ⟨a0, a1, a2, af0, af1, af2, al⟩ := HX.out.ba.later (((H1.out.trans H2.out).trans H3.out).trans H4.out)
  try dsimp only at a0 a1 a2
  obtain ⟨x0, x1, x2, xf0, xf1, xf2, xl⟩ := X2.out.later (H3.out.trans H4.out)
  try dsimp only at x0 x1 x2
  go_wp2_with fail
  refine (OF.out _).mono ?_
  rintro e w5 ⟨rfl, h5⟩
  have H5 := hideP h5
  clear h5
  clear a0 a1 a2 af0 af1 af2 al x0 x1 x2 xf0 xf1 xf2 xl
  obtain ⟨a0, a1, a2, af0, af1, af2, al⟩ := HX.out.ba.later ((((H1.out.trans H2.out).trans H3.out).trans H4.out).trans H5.out)
  try dsimp only at a0 a1 a2
  obtain ⟨x0, x1, x2, xf0, xf1, xf2, xl⟩ := X2.out.later ((H3.out.trans H4.out).trans H5.out)
  try dsimp only at x0 x1 x2
  go_wp2_with fail
  obtain ⟨w6, Y6⟩ := oneA_ex w5 ⟨n, 1, false⟩
  have e6 := Y6.eq
  try dsimp only at e6
  rw [← e6]
  have H6 := hideP Y6.bl
  have X6 := hideP Y6.ba
  clear Y6 e6
  clear a0 a1 a2 af0 af1 af2 al x0 x1 x2 xf0 xf1 xf2 xl
  obtain ⟨a0, a1, a2, af0, af1, af2, al⟩ := HX.out.ba.later (((((H1.out.trans H2.out).trans H3.out).trans H4.out).trans H5.out).trans H6.out)
  try dsimp only at a0 a1 a2
  obtain ⟨x0, x1, x2, xf0, xf1, xf2, xl⟩ := X2.out.later (((H3.out.trans H4.out).trans H5.out).trans H6.out)
  try dsimp only at x0 x1 x2
  obtain ⟨y0, y1, y2, yf0, yf1, yf2, yl⟩ := X6.out.later (Bl.refl w6)
  try dsimp only at y0 y1 y2
  go_wp2_with fail
  clear a0 a1 a2 af0 af1 af2 al x0 x1 x2 xf0 xf1 xf2 xl y0 y1 y2 yf0 yf1 yf2 yl
  have wne := wl_ne w6
  obtain ⟨a0, a1, a2⟩ := (HX.out.ba.later (((((H1.out.trans H2.out).trans H3.out).trans H4.out).trans H5.out).trans H6.out)).wl
  try dsimp only at a0 a1 a2
  obtain ⟨y0, y1, y2⟩ := (X6.out.later (Bl.refl w6)).wl
  try dsimp only at y0 y1 y2
  refine wl_region w6 (Bl.refl _) (by kernel_rfl) (by kernel_rfl) ?_
  repeat (go_big_quiet_step (first | (go_at_call 25; exact wl_call (S.out _)) | (go_at_call 14; exact wl_call (FI.out _)) | (go_at_call 13; exact wl_call (FA.out _)) | (go_at_call 16; exact wl_call (SM.out _))))
  refine wpQuiet_nil ?_
  intro _ hw'
  obtain ⟨z, hw''⟩ := hw'
  subst hw''
  clear wne
  obtain ⟨w7, h7⟩ := z
  dsimp only
  have H7 := hideP h7
  clear h7
  clear a0 a1 a2 y0 y1 y2
  obtain ⟨a0, a1, a2, af0, af1, af2, al⟩ := HX.out.ba.later ((((((H1.out.trans H2.out).trans H3.out).trans H4.out).trans H5.out).trans H6.out).trans H7.out)
  try dsimp only at a0 a1 a2
  obtain ⟨x0, x1, x2, xf0, xf1, xf2, xl⟩ := X2.out.later ((((H3.out.trans H4.out).trans H5.out).trans H6.out).trans H7.out)
  try dsimp only at x0 x1 x2
  go_wp2_with fail
  refine (FA.out _).mono ?_
  rintro e w8 ⟨rfl, h8⟩
  have H8 := hideP h8
  clear h8
  clear a0 a1 a2 af0 af1 af2 al x0 x1 x2 xf0 xf1 xf2 xl
  obtain ⟨a0, a1, a2, af0, af1, af2, al⟩ := HX.out.ba.later (((((((H1.out.trans H2.out).trans H3.out).trans H4.out).trans H5.out).trans H6.out).trans H7.out).trans H8.out)
  try dsimp only at a0 a1 a2
  obtain ⟨x0, x1, x2, xf0, xf1, xf2, xl⟩ := X2.out.later (((((H3.out.trans H4.out).trans H5.out).trans H6.out).trans H7.out).trans H8.out)
  try dsimp only at x0 x1 x2
  go_wp2_with fail
  refine (SQ1.out _).mono ?_
  rintro e w9 ⟨rfl, h9⟩
  have H9 := hideP h9
  clear h9
  clear a0 a1 a2 af0 af1 af2 al x0 x1 x2 xf0 xf1 xf2 xl
  obtain ⟨a0, a1, a2, af0, af1, af2, al⟩ := HX.out.ba.later ((((((((H1.out.trans H2.out).trans H3.out).trans H4.out).trans H5.out).trans H6.out).trans H7.out).trans H8.out).trans H9.out)
  try dsimp only at a0 a1 a2
  obtain ⟨x0, x1, x2, xf0, xf1, xf2, xl⟩ := X2.out.later ((((((H3.out.trans H4.out).trans H5.out).trans H6.out).trans H7.out).trans H8.out).trans H9.out)
  try dsimp only at x0 x1 x2
  go_wp2_with fail
  refine (SQ2.out _).mono ?_
  rintro e w10 ⟨rfl, h10⟩
  have H10 := hideP h10
  clear h10
  clear a0 a1 a2 af0 af1 af2 al x0 x1 x2 xf0 xf1 xf2 xl
  obtain ⟨a0, a1, a2, af0, af1, af2, al⟩ := HX.out.ba.later (((((((((H1.out.trans H2.out).trans H3.out).trans H4.out).trans H5.out).trans H6.out).trans H7.out).trans H8.out).trans H9.out).trans H10.out)
  try dsimp only at a0 a1 a2
  obtain ⟨x0, x1, x2, xf0, xf1, xf2, xl⟩ := X2.out.later (((((((H3.out.trans H4.out).trans H5.out).trans H6.out).trans H7.out).trans H8.out).trans H9.out).trans H10.out)
  try dsimp only at x0 x1 x2
  go_wp2_with fail
  clear a0 a1 a2 af0 af1 af2 al x0 x1 x2 xf0 xf1 xf2 xl
  have wne := wl_ne w10
  obtain ⟨a0, a1, a2⟩ := (HX.out.ba.later (((((((((H1.out.trans H2.out).trans H3.out).trans H4.out).trans H5.out).trans H6.out).trans H7.out).trans H8.out).trans H9.out).trans H10.out)).wl
  try dsimp only at a0 a1 a2
  obtain ⟨x0, x1, x2⟩ := (X2.out.later (((((((H3.out.trans H4.out).trans H5.out).trans H6.out).trans H7.out).trans H8.out).trans H9.out).trans H10.out)).wl
  try dsimp only at x0 x1 x2
  refine wl_region w10 (Bl.refl _) (by kernel_rfl) (by kernel_rfl) ?_
  repeat (go_big_quiet_step (first | (go_at_call_of 26 #[Value.int .i64 a.n]; exact wl_call (SQ1.out _)) | (go_at_call_of 26 #[Value.int .i64 a.d]; exact wl_call (SQ2.out _)) | (go_at_call 19; exact wl_call (M.out _)) | (go_at_call 12; exact wl_call (AW.out _))))
  refine wpQuiet_nil ?_
  intro _ hw'
  obtain ⟨z, hw''⟩ := hw'
  subst hw''
  clear wne
  obtain ⟨w11, h11⟩ := z
  dsimp only
  have H11 := hideP h11
  clear h11
  clear a0 a1 a2 x0 x1 x2
  go_wp2
  go_ret
  exact ⟨rfl, HX.out.bl.trans ((((((((((H1.out.trans H2.out).trans H3.out).trans H4.out).trans H5.out).trans H6.out).trans H7.out).trans H8.out).trans H9.out).trans H10.out).trans H11.out)⟩
set_option maxHeartbeats 2000000 in
theorem walk_FracRoots_4p_false (a : Fr) (n : Int) (w : World) (hf : fineR a = true) (hn : 0 < a.n) (k1 : ¬ sqR a.n < 0) (k2 : ¬ sqR a.d < 0) (hr : rootR a = ⟨sqR a.n, sqR a.d, false⟩) (hm : mulR ⟨sqR a.n, sqR a.d, false⟩ ⟨sqR a.n, sqR a.d, false⟩ = a) (hs : signR a = 1) (hsm : smB n = false) (hnw : newR n 1 = ⟨0, 0, true⟩) :
    Calls Try.prog 6 #[frV a, .int .i64 n] w fun e w' => e = .returned (.bool true) ∧ Bl w w' := by
  obtain ⟨W, X⟩ := oneA_ex w a
  have HX := hideP X
  clear X
  have FL := fineL_any a
  have FM := fineR_any a
  rw [hf] at FL FM
  have FA := hideP FL
  have FI := hideP FM
  have SG := rsign_any a
  rw [hs] at SG
  have S := hideP SG
  have RT := rroot_any a
  rw [hr] at RT
  have R := hideP RT
  have OF0 := rof_any a n
  rw [hnw] at OF0
  have OF := hideP OF0
  have AW := hideP awake4_any
  have WR := hideP wrV_any
  have SM0 := fun w => blOf (small_any n w)
  rw [hsm] at SM0
  have SM := hideP SM0
  have EG := Try.frGuard
  have NQ := neq_self n 1 false
  have EW := eql_wr
  have SQ1 := hideP (fun w => blOf (square_any a.n (by omega) (fine_n hf).2 w))
  have SQ2 := hideP (fun w => blOf (square_any a.d (by have := fineR_iff.1 hf; omega) (fine_dd hf).2 w))
  have M0 := rmul_any ⟨sqR a.n, sqR a.d, false⟩ ⟨sqR a.n, sqR a.d, false⟩
  rw [hm] at M0
  have M := hideP M0
  have EQ := eql_self (sqR a.n) (sqR a.d) false
  have EA := eql_self a.n a.d a.bad
  clear hm M0
  have hn' : ¬ a.n < 0 := by omega
  clear FL FM SG RT OF0 SM0 hsm hnw hr hs hf
  generalize sqR a.n = p at *
  generalize sqR a.d = q at *
  go_enter Try.func6, Try.ntmps6
  go_wp2_with fail
  rw [← HX.out.eq]
  obtain ⟨a0, a1, a2, af0, af1, af2, al⟩ := HX.out.ba.later (Bl.refl W)
  try dsimp only at a0 a1 a2
  go_wp2_with fail
  refine (R.out _).mono ?_
  rintro e w1 ⟨rfl, h1⟩
  have H1 := hideP h1
  clear h1
  clear a0 a1 a2 af0 af1 af2 al
  obtain ⟨a0, a1, a2, af0, af1, af2, al⟩ := HX.out.ba.later H1.out
  try dsimp only at a0 a1 a2
  go_wp2_with fail
  obtain ⟨w2, Y2⟩ := oneA_ex w1 ⟨p, q, false⟩
  have e2 := Y2.eq
  try dsimp only at e2
  rw [← e2]
  have H2 := hideP Y2.bl
  have X2 := hideP Y2.ba
  clear Y2 e2
  clear a0 a1 a2 af0 af1 af2 al
  obtain ⟨a0, a1, a2, af0, af1, af2, al⟩ := HX.out.ba.later (H1.out.trans H2.out)
  try dsimp only at a0 a1 a2
  obtain ⟨x0, x1, x2, xf0, xf1, xf2, xl⟩ := X2.out.later (Bl.refl w2)
  try dsimp only at x0 x1 x2
  go_wp2_with fail
  refine (FA.out _).mono ?_
  rintro e w3 ⟨rfl, h3⟩
  have H3 := hideP h3
  clear h3
  clear a0 a1 a2 af0 af1 af2 al x0 x1 x2 xf0 xf1 xf2 xl
  obtain ⟨a0, a1, a2, af0, af1, af2, al⟩ := HX.out.ba.later ((H1.out.trans H2.out).trans H3.out)
  try dsimp only at a0 a1 a2
  obtain ⟨x0, x1, x2, xf0, xf1, xf2, xl⟩ := X2.out.later H3.out
  try dsimp only at x0 x1 x2
  go_wp2_with fail
  refine (FA.out _).mono ?_
  rintro e w4 ⟨rfl, h4⟩
  have H4 := hideP h4
  clear h4
  clear a0 a1 a2 af0 af1 af2 al x0 x1 x2 xf0 xf1 xf2 xl
  obtain ⟨a0, a1, a2, af0, af1, af2, al⟩ := HX.out.ba.later (((H1.out.trans H2.out).trans H3.out).trans H4.out)
  try dsimp only at a0 a1 a2
  obtain ⟨x0, x1, x2, xf0, xf1, xf2, xl⟩ := X2.out.later (H3.out.trans H4.out)
  try dsimp only at x0 x1 x2
  go_wp2_with fail
  refine (OF.out _).mono ?_
  rintro e w5 ⟨rfl, h5⟩
  have H5 := hideP h5
  clear h5
  clear a0 a1 a2 af0 af1 af2 al x0 x1 x2 xf0 xf1 xf2 xl
  obtain ⟨a0, a1, a2, af0, af1, af2, al⟩ := HX.out.ba.later ((((H1.out.trans H2.out).trans H3.out).trans H4.out).trans H5.out)
  try dsimp only at a0 a1 a2
  obtain ⟨x0, x1, x2, xf0, xf1, xf2, xl⟩ := X2.out.later ((H3.out.trans H4.out).trans H5.out)
  try dsimp only at x0 x1 x2
  go_wp2_with fail
  obtain ⟨w6, Y6⟩ := oneA_ex w5 ⟨0, 0, true⟩
  have e6 := Y6.eq
  try dsimp only at e6
  rw [← e6]
  have H6 := hideP Y6.bl
  have X6 := hideP Y6.ba
  clear Y6 e6
  clear a0 a1 a2 af0 af1 af2 al x0 x1 x2 xf0 xf1 xf2 xl
  obtain ⟨a0, a1, a2, af0, af1, af2, al⟩ := HX.out.ba.later (((((H1.out.trans H2.out).trans H3.out).trans H4.out).trans H5.out).trans H6.out)
  try dsimp only at a0 a1 a2
  obtain ⟨x0, x1, x2, xf0, xf1, xf2, xl⟩ := X2.out.later (((H3.out.trans H4.out).trans H5.out).trans H6.out)
  try dsimp only at x0 x1 x2
  obtain ⟨y0, y1, y2, yf0, yf1, yf2, yl⟩ := X6.out.later (Bl.refl w6)
  try dsimp only at y0 y1 y2
  go_wp2_with fail
  clear a0 a1 a2 af0 af1 af2 al x0 x1 x2 xf0 xf1 xf2 xl y0 y1 y2 yf0 yf1 yf2 yl
  have wne := wl_ne w6
  obtain ⟨a0, a1, a2⟩ := (HX.out.ba.later (((((H1.out.trans H2.out).trans H3.out).trans H4.out).trans H5.out).trans H6.out)).wl
  try dsimp only at a0 a1 a2
  obtain ⟨y0, y1, y2⟩ := (X6.out.later (Bl.refl w6)).wl
  try dsimp only at y0 y1 y2
  refine wl_region w6 (Bl.refl _) (by kernel_rfl) (by kernel_rfl) ?_
  repeat (go_big_quiet_step (first | (go_at_call 25; exact wl_call (S.out _)) | (go_at_call 14; exact wl_call (FI.out _)) | (go_at_call 13; exact wl_call (FA.out _)) | (go_at_call 16; exact wl_call (SM.out _))))
  refine wpQuiet_nil ?_
  intro _ hw'
  obtain ⟨z, hw''⟩ := hw'
  subst hw''
  clear wne
  obtain ⟨w7, h7⟩ := z
  dsimp only
  have H7 := hideP h7
  clear h7
  clear a0 a1 a2 y0 y1 y2
  obtain ⟨a0, a1, a2, af0, af1, af2, al⟩ := HX.out.ba.later ((((((H1.out.trans H2.out).trans H3.out).trans H4.out).trans H5.out).trans H6.out).trans H7.out)
  try dsimp only at a0 a1 a2
  obtain ⟨x0, x1, x2, xf0, xf1, xf2, xl⟩ := X2.out.later ((((H3.out.trans H4.out).trans H5.out).trans H6.out).trans H7.out)
  try dsimp only at x0 x1 x2
  go_wp2_with fail
  refine (FA.out _).mono ?_
  rintro e w8 ⟨rfl, h8⟩
  have H8 := hideP h8
  clear h8
  clear a0 a1 a2 af0 af1 af2 al x0 x1 x2 xf0 xf1 xf2 xl
  obtain ⟨a0, a1, a2, af0, af1, af2, al⟩ := HX.out.ba.later (((((((H1.out.trans H2.out).trans H3.out).trans H4.out).trans H5.out).trans H6.out).trans H7.out).trans H8.out)
  try dsimp only at a0 a1 a2
  obtain ⟨x0, x1, x2, xf0, xf1, xf2, xl⟩ := X2.out.later (((((H3.out.trans H4.out).trans H5.out).trans H6.out).trans H7.out).trans H8.out)
  try dsimp only at x0 x1 x2
  go_wp2_with fail
  refine (SQ1.out _).mono ?_
  rintro e w9 ⟨rfl, h9⟩
  have H9 := hideP h9
  clear h9
  clear a0 a1 a2 af0 af1 af2 al x0 x1 x2 xf0 xf1 xf2 xl
  obtain ⟨a0, a1, a2, af0, af1, af2, al⟩ := HX.out.ba.later ((((((((H1.out.trans H2.out).trans H3.out).trans H4.out).trans H5.out).trans H6.out).trans H7.out).trans H8.out).trans H9.out)
  try dsimp only at a0 a1 a2
  obtain ⟨x0, x1, x2, xf0, xf1, xf2, xl⟩ := X2.out.later ((((((H3.out.trans H4.out).trans H5.out).trans H6.out).trans H7.out).trans H8.out).trans H9.out)
  try dsimp only at x0 x1 x2
  go_wp2_with fail
  refine (SQ2.out _).mono ?_
  rintro e w10 ⟨rfl, h10⟩
  have H10 := hideP h10
  clear h10
  clear a0 a1 a2 af0 af1 af2 al x0 x1 x2 xf0 xf1 xf2 xl
  obtain ⟨a0, a1, a2, af0, af1, af2, al⟩ := HX.out.ba.later (((((((((H1.out.trans H2.out).trans H3.out).trans H4.out).trans H5.out).trans H6.out).trans H7.out).trans H8.out).trans H9.out).trans H10.out)
  try dsimp only at a0 a1 a2
  obtain ⟨x0, x1, x2, xf0, xf1, xf2, xl⟩ := X2.out.later (((((((H3.out.trans H4.out).trans H5.out).trans H6.out).trans H7.out).trans H8.out).trans H9.out).trans H10.out)
  try dsimp only at x0 x1 x2
  go_wp2_with fail
  clear a0 a1 a2 af0 af1 af2 al x0 x1 x2 xf0 xf1 xf2 xl
  have wne := wl_ne w10
  obtain ⟨a0, a1, a2⟩ := (HX.out.ba.later (((((((((H1.out.trans H2.out).trans H3.out).trans H4.out).trans H5.out).trans H6.out).trans H7.out).trans H8.out).trans H9.out).trans H10.out)).wl
  try dsimp only at a0 a1 a2
  obtain ⟨x0, x1, x2⟩ := (X2.out.later (((((((H3.out.trans H4.out).trans H5.out).trans H6.out).trans H7.out).trans H8.out).trans H9.out).trans H10.out)).wl
  try dsimp only at x0 x1 x2
  refine wl_region w10 (Bl.refl _) (by kernel_rfl) (by kernel_rfl) ?_
  repeat (go_big_quiet_step (first | (go_at_call_of 26 #[Value.int .i64 a.n]; exact wl_call (SQ1.out _)) | (go_at_call_of 26 #[Value.int .i64 a.d]; exact wl_call (SQ2.out _)) | (go_at_call 19; exact wl_call (M.out _)) | (go_at_call 12; exact wl_call (AW.out _))))
  refine wpQuiet_nil ?_
  intro _ hw'
  obtain ⟨z, hw''⟩ := hw'
  subst hw''
  clear wne
  obtain ⟨w11, h11⟩ := z
  dsimp only
  have H11 := hideP h11
  clear h11
  clear a0 a1 a2 x0 x1 x2
  go_wp2
  go_ret
  exact ⟨rfl, HX.out.bl.trans ((((((((((H1.out.trans H2.out).trans H3.out).trans H4.out).trans H5.out).trans H6.out).trans H7.out).trans H8.out).trans H9.out).trans H10.out).trans H11.out)⟩
set_option maxHeartbeats 2000000 in
theorem walk_FracRoots_4z_true (a : Fr) (n : Int) (w : World) (hf : fineR a = true) (hn : a.n = 0) (k1 : ¬ sqR a.n < 0) (k2 : ¬ sqR a.d < 0) (hr : rootR a = ⟨sqR a.n, sqR a.d, false⟩) (hm : mulR ⟨sqR a.n, sqR a.d, false⟩ ⟨sqR a.n, sqR a.d, false⟩ = a) (hs : signR a = 0) (hsm : smB n = true) (hnw : newR n 1 = ⟨n, 1, false⟩) :
    Calls Try.prog 6 #[frV a, .int .i64 n] w fun e w' => e = .returned (.bool true) ∧ Bl w w' := by
  obtain ⟨W, X⟩ := oneA_ex w a
  have HX := hideP X
  clear X
  have FL := fineL_any a
  have FM := fineR_any a
  rw [hf] at FL FM
  have FA := hideP FL
  have FI := hideP FM
  have SG := rsign_any a
  rw [hs] at SG
  have S := hideP SG
  have RT := rroot_any a
  rw [hr] at RT
  have R := hideP RT
  have OF0 := rof_any a n
  rw [hnw] at OF0
  have OF := hideP OF0
  have AW := hideP awake4_any
  have WR := hideP wrV_any
  have SM0 := fun w => blOf (small_any n w)
  rw [hsm] at SM0
  have SM := hideP SM0
  have EG := Try.frGuard
  have NQ := neq_self n 1 false
  have EW := eql_wr
  have SQ1 := hideP (fun w => blOf (square_any a.n (by omega) (fine_n hf).2 w))
  have SQ2 := hideP (fun w => blOf (square_any a.d (by have := fineR_iff.1 hf; omega) (fine_dd hf).2 w))
  have M0 := rmul_any ⟨sqR a.n, sqR a.d, false⟩ ⟨sqR a.n, sqR a.d, false⟩
  rw [hm] at M0
  have M := hideP M0
  have EQ := eql_self (sqR a.n) (sqR a.d) false
  have EA := eql_self a.n a.d a.bad
  clear hm M0
  have hn' : ¬ a.n < 0 := by omega
  have hn'' : ¬ 0 < a.n := by omega
  clear hn
  clear FL FM SG RT OF0 SM0 hsm hnw hr hs hf
  generalize sqR a.n = p at *
  generalize sqR a.d = q at *
  go_enter Try.func6, Try.ntmps6
  go_wp2_with fail
  rw [← HX.out.eq]
  obtain ⟨a0, a1, a2, af0, af1, af2, al⟩ := HX.out.ba.later (Bl.refl W)
  try dsimp only at a0 a1 a2
  go_wp2_with fail
  refine (R.out _).mono ?_
  rintro e w1 ⟨rfl, h1⟩
  have H1 := hideP h1
  clear h1
  clear a0 a1 a2 af0 af1 af2 al
  obtain ⟨a0, a1, a2, af0, af1, af2, al⟩ := HX.out.ba.later H1.out
  try dsimp only at a0 a1 a2
  go_wp2_with fail
  obtain ⟨w2, Y2⟩ := oneA_ex w1 ⟨p, q, false⟩
  have e2 := Y2.eq
  try dsimp only at e2
  rw [← e2]
  have H2 := hideP Y2.bl
  have X2 := hideP Y2.ba
  clear Y2 e2
  clear a0 a1 a2 af0 af1 af2 al
  obtain ⟨a0, a1, a2, af0, af1, af2, al⟩ := HX.out.ba.later (H1.out.trans H2.out)
  try dsimp only at a0 a1 a2
  obtain ⟨x0, x1, x2, xf0, xf1, xf2, xl⟩ := X2.out.later (Bl.refl w2)
  try dsimp only at x0 x1 x2
  go_wp2_with fail
  refine (FA.out _).mono ?_
  rintro e w3 ⟨rfl, h3⟩
  have H3 := hideP h3
  clear h3
  clear a0 a1 a2 af0 af1 af2 al x0 x1 x2 xf0 xf1 xf2 xl
  obtain ⟨a0, a1, a2, af0, af1, af2, al⟩ := HX.out.ba.later ((H1.out.trans H2.out).trans H3.out)
  try dsimp only at a0 a1 a2
  obtain ⟨x0, x1, x2, xf0, xf1, xf2, xl⟩ := X2.out.later H3.out
  try dsimp only at x0 x1 x2
  go_wp2_with fail
  refine (FA.out _).mono ?_
  rintro e w4 ⟨rfl, h4⟩
  have H4 := hideP h4
  clear h4
  clear a0 a1 a2 af0 af1 af2 al x0 x1 x2 xf0 xf1 xf2 xl
  obtain ⟨a0, a1, a2, af0, af1, af2, al⟩ := HX.out.ba.later (((H1.out.trans H2.out).trans H3.out).trans H4.out)
  try dsimp only at a0 a1 a2
  obtain ⟨x0, x1, x2, xf0, xf1, xf2, xl⟩ := X2.out.later (H3.out.trans H4.out)
  try dsimp only at x0 x1 x2
  go_wp2_with fail
  refine (OF.out _).mono ?_
  rintro e w5 ⟨rfl, h5⟩
  have H5 := hideP h5
  clear h5
  clear a0 a1 a2 af0 af1 af2 al x0 x1 x2 xf0 xf1 xf2 xl
  obtain ⟨a0, a1, a2, af0, af1, af2, al⟩ := HX.out.ba.later ((((H1.out.trans H2.out).trans H3.out).trans H4.out).trans H5.out)
  try dsimp only at a0 a1 a2
  obtain ⟨x0, x1, x2, xf0, xf1, xf2, xl⟩ := X2.out.later ((H3.out.trans H4.out).trans H5.out)
  try dsimp only at x0 x1 x2
  go_wp2_with fail
  obtain ⟨w6, Y6⟩ := oneA_ex w5 ⟨n, 1, false⟩
  have e6 := Y6.eq
  try dsimp only at e6
  rw [← e6]
  have H6 := hideP Y6.bl
  have X6 := hideP Y6.ba
  clear Y6 e6
  clear a0 a1 a2 af0 af1 af2 al x0 x1 x2 xf0 xf1 xf2 xl
  obtain ⟨a0, a1, a2, af0, af1, af2, al⟩ := HX.out.ba.later (((((H1.out.trans H2.out).trans H3.out).trans H4.out).trans H5.out).trans H6.out)
  try dsimp only at a0 a1 a2
  obtain ⟨x0, x1, x2, xf0, xf1, xf2, xl⟩ := X2.out.later (((H3.out.trans H4.out).trans H5.out).trans H6.out)
  try dsimp only at x0 x1 x2
  obtain ⟨y0, y1, y2, yf0, yf1, yf2, yl⟩ := X6.out.later (Bl.refl w6)
  try dsimp only at y0 y1 y2
  go_wp2_with fail
  clear a0 a1 a2 af0 af1 af2 al x0 x1 x2 xf0 xf1 xf2 xl y0 y1 y2 yf0 yf1 yf2 yl
  have wne := wl_ne w6
  obtain ⟨a0, a1, a2⟩ := (HX.out.ba.later (((((H1.out.trans H2.out).trans H3.out).trans H4.out).trans H5.out).trans H6.out)).wl
  try dsimp only at a0 a1 a2
  obtain ⟨y0, y1, y2⟩ := (X6.out.later (Bl.refl w6)).wl
  try dsimp only at y0 y1 y2
  refine wl_region w6 (Bl.refl _) (by kernel_rfl) (by kernel_rfl) ?_
  repeat (go_big_quiet_step (first | (go_at_call 25; exact wl_call (S.out _)) | (go_at_call 14; exact wl_call (FI.out _)) | (go_at_call 13; exact wl_call (FA.out _)) | (go_at_call 16; exact wl_call (SM.out _))))
  refine wpQuiet_nil ?_
  intro _ hw'
  obtain ⟨z, hw''⟩ := hw'
  subst hw''
  clear wne
  obtain ⟨w7, h7⟩ := z
  dsimp only
  have H7 := hideP h7
  clear h7
  clear a0 a1 a2 y0 y1 y2
  obtain ⟨a0, a1, a2, af0, af1, af2, al⟩ := HX.out.ba.later ((((((H1.out.trans H2.out).trans H3.out).trans H4.out).trans H5.out).trans H6.out).trans H7.out)
  try dsimp only at a0 a1 a2
  obtain ⟨x0, x1, x2, xf0, xf1, xf2, xl⟩ := X2.out.later ((((H3.out.trans H4.out).trans H5.out).trans H6.out).trans H7.out)
  try dsimp only at x0 x1 x2
  go_wp2_with fail
  refine (FA.out _).mono ?_
  rintro e w8 ⟨rfl, h8⟩
  have H8 := hideP h8
  clear h8
  clear a0 a1 a2 af0 af1 af2 al x0 x1 x2 xf0 xf1 xf2 xl
  obtain ⟨a0, a1, a2, af0, af1, af2, al⟩ := HX.out.ba.later (((((((H1.out.trans H2.out).trans H3.out).trans H4.out).trans H5.out).trans H6.out).trans H7.out).trans H8.out)
  try dsimp only at a0 a1 a2
  obtain ⟨x0, x1, x2, xf0, xf1, xf2, xl⟩ := X2.out.later (((((H3.out.trans H4.out).trans H5.out).trans H6.out).trans H7.out).trans H8.out)
  try dsimp only at x0 x1 x2
  go_wp2_with fail
  refine (SQ1.out _).mono ?_
  rintro e w9 ⟨rfl, h9⟩
  have H9 := hideP h9
  clear h9
  clear a0 a1 a2 af0 af1 af2 al x0 x1 x2 xf0 xf1 xf2 xl
  obtain ⟨a0, a1, a2, af0, af1, af2, al⟩ := HX.out.ba.later ((((((((H1.out.trans H2.out).trans H3.out).trans H4.out).trans H5.out).trans H6.out).trans H7.out).trans H8.out).trans H9.out)
  try dsimp only at a0 a1 a2
  obtain ⟨x0, x1, x2, xf0, xf1, xf2, xl⟩ := X2.out.later ((((((H3.out.trans H4.out).trans H5.out).trans H6.out).trans H7.out).trans H8.out).trans H9.out)
  try dsimp only at x0 x1 x2
  go_wp2_with fail
  refine (SQ2.out _).mono ?_
  rintro e w10 ⟨rfl, h10⟩
  have H10 := hideP h10
  clear h10
  clear a0 a1 a2 af0 af1 af2 al x0 x1 x2 xf0 xf1 xf2 xl
  obtain ⟨a0, a1, a2, af0, af1, af2, al⟩ := HX.out.ba.later (((((((((H1.out.trans H2.out).trans H3.out).trans H4.out).trans H5.out).trans H6.out).trans H7.out).trans H8.out).trans H9.out).trans H10.out)
  try dsimp only at a0 a1 a2
  obtain ⟨x0, x1, x2, xf0, xf1, xf2, xl⟩ := X2.out.later (((((((H3.out.trans H4.out).trans H5.out).trans H6.out).trans H7.out).trans H8.out).trans H9.out).trans H10.out)
  try dsimp only at x0 x1 x2
  go_wp2_with fail
  clear a0 a1 a2 af0 af1 af2 al x0 x1 x2 xf0 xf1 xf2 xl
  have wne := wl_ne w10
  obtain ⟨a0, a1, a2⟩ := (HX.out.ba.later (((((((((H1.out.trans H2.out).trans H3.out).trans H4.out).trans H5.out).trans H6.out).trans H7.out).trans H8.out).trans H9.out).trans H10.out)).wl
  try dsimp only at a0 a1 a2
  obtain ⟨x0, x1, x2⟩ := (X2.out.later (((((((H3.out.trans H4.out).trans H5.out).trans H6.out).trans H7.out).trans H8.out).trans H9.out).trans H10.out)).wl
  try dsimp only at x0 x1 x2
  refine wl_region w10 (Bl.refl _) (by kernel_rfl) (by kernel_rfl) ?_
  repeat (go_big_quiet_step (first | (go_at_call_of 26 #[Value.int .i64 a.n]; exact wl_call (SQ1.out _)) | (go_at_call_of 26 #[Value.int .i64 a.d]; exact wl_call (SQ2.out _)) | (go_at_call 19; exact wl_call (M.out _)) | (go_at_call 12; exact wl_call (AW.out _))))
  refine wpQuiet_nil ?_
  intro _ hw'
  obtain ⟨z, hw''⟩ := hw'
  subst hw''
  clear wne
  obtain ⟨w11, h11⟩ := z
  dsimp only
  have H11 := hideP h11
  clear h11
  clear a0 a1 a2 x0 x1 x2
  go_wp2
  go_ret
  exact ⟨rfl, HX.out.bl.trans ((((((((((H1.out.trans H2.out).trans H3.out).trans H4.out).trans H5.out).trans H6.out).trans H7.out).trans H8.out).trans H9.out).trans H10.out).trans H11.out)⟩
set_option maxHeartbeats 2000000 in
theorem walk_FracRoots_4z_false (a : Fr) (n : Int) (w : World) (hf : fineR a = true) (hn : a.n = 0) (k1 : ¬ sqR a.n < 0) (k2 : ¬ sqR a.d < 0) (hr : rootR a = ⟨sqR a.n, sqR a.d, false⟩) (hm : mulR ⟨sqR a.n, sqR a.d, false⟩ ⟨sqR a.n, sqR a.d, false⟩ = a) (hs : signR a = 0) (hsm : smB n = false) (hnw : newR n 1 = ⟨0, 0, true⟩) :
    Calls Try.prog 6 #[frV a, .int .i64 n] w fun e w' => e = .returned (.bool true) ∧ Bl w w' := by
  obtain ⟨W, X⟩ := oneA_ex w a
  have HX := hideP X
  clear X
  have FL := fineL_any a
  have FM := fineR_any a
  rw [hf] at FL FM
  have FA := hideP FL
  have FI := hideP FM
  have SG := rsign_any a
  rw [hs] at SG
  have S := hideP SG
  have RT := rroot_any a
  rw [hr] at RT
  have R := hideP RT
  have OF0 := rof_any a n
  rw [hnw] at OF0
  have OF := hideP OF0
  have AW := hideP awake4_any
  have WR := hideP wrV_any
  have SM0 := fun w => blOf (small_any n w)
  rw [hsm] at SM0
  have SM := hideP SM0
  have EG := Try.frGuard
  have NQ := neq_self n 1 false
  have EW := eql_wr
  have SQ1 := hideP (fun w => blOf (square_any a.n (by omega) (fine_n hf).2 w))
  have SQ2 := hideP (fun w => blOf (square_any a.d (by have := fineR_iff.1 hf; omega) (fine_dd hf).2 w))
  have M0 := rmul_any ⟨sqR a.n, sqR a.d, false⟩ ⟨sqR a.n, sqR a.d, false⟩
  rw [hm] at M0
  have M := hideP M0
  have EQ := eql_self (sqR a.n) (sqR a.d) false
  have EA := eql_self a.n a.d a.bad
  clear hm M0
  have hn' : ¬ a.n < 0 := by omega
  have hn'' : ¬ 0 < a.n := by omega
  clear hn
  clear FL FM SG RT OF0 SM0 hsm hnw hr hs hf
  generalize sqR a.n = p at *
  generalize sqR a.d = q at *
  go_enter Try.func6, Try.ntmps6
  go_wp2_with fail
  rw [← HX.out.eq]
  obtain ⟨a0, a1, a2, af0, af1, af2, al⟩ := HX.out.ba.later (Bl.refl W)
  try dsimp only at a0 a1 a2
  go_wp2_with fail
  refine (R.out _).mono ?_
  rintro e w1 ⟨rfl, h1⟩
  have H1 := hideP h1
  clear h1
  clear a0 a1 a2 af0 af1 af2 al
  obtain ⟨a0, a1, a2, af0, af1, af2, al⟩ := HX.out.ba.later H1.out
  try dsimp only at a0 a1 a2
  go_wp2_with fail
  obtain ⟨w2, Y2⟩ := oneA_ex w1 ⟨p, q, false⟩
  have e2 := Y2.eq
  try dsimp only at e2
  rw [← e2]
  have H2 := hideP Y2.bl
  have X2 := hideP Y2.ba
  clear Y2 e2
  clear a0 a1 a2 af0 af1 af2 al
  obtain ⟨a0, a1, a2, af0, af1, af2, al⟩ := HX.out.ba.later (H1.out.trans H2.out)
  try dsimp only at a0 a1 a2
  obtain ⟨x0, x1, x2, xf0, xf1, xf2, xl⟩ := X2.out.later (Bl.refl w2)
  try dsimp only at x0 x1 x2
  go_wp2_with fail
  refine (FA.out _).mono ?_
  rintro e w3 ⟨rfl, h3⟩
  have H3 := hideP h3
  clear h3
  clear a0 a1 a2 af0 af1 af2 al x0 x1 x2 xf0 xf1 xf2 xl
  obtain ⟨a0, a1, a2, af0, af1, af2, al⟩ := HX.out.ba.later ((H1.out.trans H2.out).trans H3.out)
  try dsimp only at a0 a1 a2
  obtain ⟨x0, x1, x2, xf0, xf1, xf2, xl⟩ := X2.out.later H3.out
  try dsimp only at x0 x1 x2
  go_wp2_with fail
  refine (FA.out _).mono ?_
  rintro e w4 ⟨rfl, h4⟩
  have H4 := hideP h4
  clear h4
  clear a0 a1 a2 af0 af1 af2 al x0 x1 x2 xf0 xf1 xf2 xl
  obtain ⟨a0, a1, a2, af0, af1, af2, al⟩ := HX.out.ba.later (((H1.out.trans H2.out).trans H3.out).trans H4.out)
  try dsimp only at a0 a1 a2
  obtain ⟨x0, x1, x2, xf0, xf1, xf2, xl⟩ := X2.out.later (H3.out.trans H4.out)
  try dsimp only at x0 x1 x2
  go_wp2_with fail
  refine (OF.out _).mono ?_
  rintro e w5 ⟨rfl, h5⟩
  have H5 := hideP h5
  clear h5
  clear a0 a1 a2 af0 af1 af2 al x0 x1 x2 xf0 xf1 xf2 xl
  obtain ⟨a0, a1, a2, af0, af1, af2, al⟩ := HX.out.ba.later ((((H1.out.trans H2.out).trans H3.out).trans H4.out).trans H5.out)
  try dsimp only at a0 a1 a2
  obtain ⟨x0, x1, x2, xf0, xf1, xf2, xl⟩ := X2.out.later ((H3.out.trans H4.out).trans H5.out)
  try dsimp only at x0 x1 x2
  go_wp2_with fail
  obtain ⟨w6, Y6⟩ := oneA_ex w5 ⟨0, 0, true⟩
  have e6 := Y6.eq
  try dsimp only at e6
  rw [← e6]
  have H6 := hideP Y6.bl
  have X6 := hideP Y6.ba
  clear Y6 e6
  clear a0 a1 a2 af0 af1 af2 al x0 x1 x2 xf0 xf1 xf2 xl
  obtain ⟨a0, a1, a2, af0, af1, af2, al⟩ := HX.out.ba.later (((((H1.out.trans H2.out).trans H3.out).trans H4.out).trans H5.out).trans H6.out)
  try dsimp only at a0 a1 a2
  obtain ⟨x0, x1, x2, xf0, xf1, xf2, xl⟩ := X2.out.later (((H3.out.trans H4.out).trans H5.out).trans H6.out)
  try dsimp only at x0 x1 x2
  obtain ⟨y0, y1, y2, yf0, yf1, yf2, yl⟩ := X6.out.later (Bl.refl w6)
  try dsimp only at y0 y1 y2
  go_wp2_with fail
  clear a0 a1 a2 af0 af1 af2 al x0 x1 x2 xf0 xf1 xf2 xl y0 y1 y2 yf0 yf1 yf2 yl
  have wne := wl_ne w6
  obtain ⟨a0, a1, a2⟩ := (HX.out.ba.later (((((H1.out.trans H2.out).trans H3.out).trans H4.out).trans H5.out).trans H6.out)).wl
  try dsimp only at a0 a1 a2
  obtain ⟨y0, y1, y2⟩ := (X6.out.later (Bl.refl w6)).wl
  try dsimp only at y0 y1 y2
  refine wl_region w6 (Bl.refl _) (by kernel_rfl) (by kernel_rfl) ?_
  repeat (go_big_quiet_step (first | (go_at_call 25; exact wl_call (S.out _)) | (go_at_call 14; exact wl_call (FI.out _)) | (go_at_call 13; exact wl_call (FA.out _)) | (go_at_call 16; exact wl_call (SM.out _))))
  refine wpQuiet_nil ?_
  intro _ hw'
  obtain ⟨z, hw''⟩ := hw'
  subst hw''
  clear wne
  obtain ⟨w7, h7⟩ := z
  dsimp only
  have H7 := hideP h7
  clear h7
  clear a0 a1 a2 y0 y1 y2
  obtain ⟨a0, a1, a2, af0, af1, af2, al⟩ := HX.out.ba.later ((((((H1.out.trans H2.out).trans H3.out).trans H4.out).trans H5.out).trans H6.out).trans H7.out)
  try dsimp only at a0 a1 a2
  obtain ⟨x0, x1, x2, xf0, xf1, xf2, xl⟩ := X2.out.later ((((H3.out.trans H4.out).trans H5.out).trans H6.out).trans H7.out)
  try dsimp only at x0 x1 x2
  go_wp2_with fail
  refine (FA.out _).mono ?_
  rintro e w8 ⟨rfl, h8⟩
  have H8 := hideP h8
  clear h8
  clear a0 a1 a2 af0 af1 af2 al x0 x1 x2 xf0 xf1 xf2 xl
  obtain ⟨a0, a1, a2, af0, af1, af2, al⟩ := HX.out.ba.later (((((((H1.out.trans H2.out).trans H3.out).trans H4.out).trans H5.out).trans H6.out).trans H7.out).trans H8.out)
  try dsimp only at a0 a1 a2
  obtain ⟨x0, x1, x2, xf0, xf1, xf2, xl⟩ := X2.out.later (((((H3.out.trans H4.out).trans H5.out).trans H6.out).trans H7.out).trans H8.out)
  try dsimp only at x0 x1 x2
  go_wp2_with fail
  refine (SQ1.out _).mono ?_
  rintro e w9 ⟨rfl, h9⟩
  have H9 := hideP h9
  clear h9
  clear a0 a1 a2 af0 af1 af2 al x0 x1 x2 xf0 xf1 xf2 xl
  obtain ⟨a0, a1, a2, af0, af1, af2, al⟩ := HX.out.ba.later ((((((((H1.out.trans H2.out).trans H3.out).trans H4.out).trans H5.out).trans H6.out).trans H7.out).trans H8.out).trans H9.out)
  try dsimp only at a0 a1 a2
  obtain ⟨x0, x1, x2, xf0, xf1, xf2, xl⟩ := X2.out.later ((((((H3.out.trans H4.out).trans H5.out).trans H6.out).trans H7.out).trans H8.out).trans H9.out)
  try dsimp only at x0 x1 x2
  go_wp2_with fail
  refine (SQ2.out _).mono ?_
  rintro e w10 ⟨rfl, h10⟩
  have H10 := hideP h10
  clear h10
  clear a0 a1 a2 af0 af1 af2 al x0 x1 x2 xf0 xf1 xf2 xl
  obtain ⟨a0, a1, a2, af0, af1, af2, al⟩ := HX.out.ba.later (((((((((H1.out.trans H2.out).trans H3.out).trans H4.out).trans H5.out).trans H6.out).trans H7.out).trans H8.out).trans H9.out).trans H10.out)
  try dsimp only at a0 a1 a2
  obtain ⟨x0, x1, x2, xf0, xf1, xf2, xl⟩ := X2.out.later (((((((H3.out.trans H4.out).trans H5.out).trans H6.out).trans H7.out).trans H8.out).trans H9.out).trans H10.out)
  try dsimp only at x0 x1 x2
  go_wp2_with fail
  clear a0 a1 a2 af0 af1 af2 al x0 x1 x2 xf0 xf1 xf2 xl
  have wne := wl_ne w10
  obtain ⟨a0, a1, a2⟩ := (HX.out.ba.later (((((((((H1.out.trans H2.out).trans H3.out).trans H4.out).trans H5.out).trans H6.out).trans H7.out).trans H8.out).trans H9.out).trans H10.out)).wl
  try dsimp only at a0 a1 a2
  obtain ⟨x0, x1, x2⟩ := (X2.out.later (((((((H3.out.trans H4.out).trans H5.out).trans H6.out).trans H7.out).trans H8.out).trans H9.out).trans H10.out)).wl
  try dsimp only at x0 x1 x2
  refine wl_region w10 (Bl.refl _) (by kernel_rfl) (by kernel_rfl) ?_
  repeat (go_big_quiet_step (first | (go_at_call_of 26 #[Value.int .i64 a.n]; exact wl_call (SQ1.out _)) | (go_at_call_of 26 #[Value.int .i64 a.d]; exact wl_call (SQ2.out _)) | (go_at_call 19; exact wl_call (M.out _)) | (go_at_call 12; exact wl_call (AW.out _))))
  refine wpQuiet_nil ?_
  intro _ hw'
  obtain ⟨z, hw''⟩ := hw'
  subst hw''
  clear wne
  obtain ⟨w11, h11⟩ := z
  dsimp only
  have H11 := hideP h11
  clear h11
  clear a0 a1 a2 x0 x1 x2
  go_wp2
  go_ret
  exact ⟨rfl, HX.out.bl.trans ((((((((((H1.out.trans H2.out).trans H3.out).trans H4.out).trans H5.out).trans H6.out).trans H7.out).trans H8.out).trans H9.out).trans H10.out).trans H11.out)⟩
theorem walk_FracRoots (a : Fr) (n : Int) (w : World) :
    Calls Try.prog 6 #[frV a, .int .i64 n] w fun e w' => e = .returned (.bool true) ∧ Bl w w' := by
  cases hsm : smB n
  · rcases root_cases a with ⟨h1, h2, h3⟩ | ⟨h1, h2, h3, h4⟩ | ⟨h1, h2, h3, h4, h5⟩ | ⟨h1, h2, h3, h4, h5, h6⟩ | ⟨h1, h2, h3, h4, h5, h6, h7⟩
    · exact walk_FracRoots_0_false a n w h1 h2 h3 hsm (newR_far hsm)
    · exact walk_FracRoots_1_false a n w h1 h2 h3 h4 hsm (newR_far hsm)
    · rcases (by omega : a.n = 0 ∨ 0 < a.n) with z | z
      · exact absurd h3 (by rw [z]; unfold sqR; rw [← root_one 0 0 (by omega) (by omega) (by omega)]; decide)
      · exact walk_FracRoots_2_false a n w h1 z h3 h4 (h5.trans (cmpI_gt z)) hsm (newR_far hsm)
    · rcases (by omega : a.n = 0 ∨ 0 < a.n) with z | z
      · exact walk_FracRoots_3z_false a n w h1 z h3 h4 h5 (h6.trans (cmpI_eq z)) hsm (newR_far hsm)
      · exact walk_FracRoots_3p_false a n w h1 z h3 h4 h5 (h6.trans (cmpI_gt z)) hsm (newR_far hsm)
    · rcases (by omega : a.n = 0 ∨ 0 < a.n) with z | z
      · exact walk_FracRoots_4z_false a n w h1 z h3 h4 h5 h6 (h7.trans (cmpI_eq z)) hsm (newR_far hsm)
      · exact walk_FracRoots_4p_false a n w h1 z h3 h4 h5 h6 (h7.trans (cmpI_gt z)) hsm (newR_far hsm)
  · rcases root_cases a with ⟨h1, h2, h3⟩ | ⟨h1, h2, h3, h4⟩ | ⟨h1, h2, h3, h4, h5⟩ | ⟨h1, h2, h3, h4, h5, h6⟩ | ⟨h1, h2, h3, h4, h5, h6, h7⟩
    · exact walk_FracRoots_0_true a n w h1 h2 h3 hsm (newR_one hsm)
    · exact walk_FracRoots_1_true a n w h1 h2 h3 h4 hsm (newR_one hsm)
    · rcases (by omega : a.n = 0 ∨ 0 < a.n) with z | z
      · exact absurd h3 (by rw [z]; unfold sqR; rw [← root_one 0 0 (by omega) (by omega) (by omega)]; decide)
      · exact walk_FracRoots_2_true a n w h1 z h3 h4 (h5.trans (cmpI_gt z)) hsm (newR_one hsm)
    · rcases (by omega : a.n = 0 ∨ 0 < a.n) with z | z
      · exact walk_FracRoots_3z_true a n w h1 z h3 h4 h5 (h6.trans (cmpI_eq z)) hsm (newR_one hsm)
      · exact walk_FracRoots_3p_true a n w h1 z h3 h4 h5 (h6.trans (cmpI_gt z)) hsm (newR_one hsm)
    · rcases (by omega : a.n = 0 ∨ 0 < a.n) with z | z
      · exact walk_FracRoots_4z_true a n w h1 z h3 h4 h5 h6 (h7.trans (cmpI_eq z)) hsm (newR_one hsm)
      · exact walk_FracRoots_4p_true a n w h1 z h3 h4 h5 h6 (h7.trans (cmpI_gt z)) hsm (newR_one hsm)
end Go.Proofs.Ytoibkkiohpnaaaa
