/- The walk of EnvTells. -/
import Derived.Test.YtgidengfnelggaaEnR
import Derived.Test.YtgidengfnelggaaEn7
import Derived.Deep.DeepCutAuto
namespace Go.Proofs.Ytgidengfnelggaa
open Go.RowKit
set_option linter.unusedSimpArgs false
set_option linter.unusedVariables false

theorem of_gen (a : En) (n : Int) (w : World) : Calls Try.prog 23 #[enV a, .int .i64 n] w fun e w' => e = .returned (enV (ptE (n * 16777216) (foB n))) ∧ Bl w w' := by
  have := ofE_any a n w
  cases h : foB n
  · rw [h] at this; exact this
  · have e : foN n = n * 16777216 := by unfold foN; rw [h]; rfl
    rw [h, e] at this; exact this
theorem fo_iff {n : Int} (h : foB n = true) : -67108864 ≤ n ∧ n ≤ 67108864 := by simpa [foB] using h
theorem not_fo {n : Int} (h : foB n = false) : n < -67108864 ∨ (-67108864 ≤ n ∧ 67108864 < n) := by
  unfold foB at h
  rw [Bool.and_eq_false_iff] at h
  rcases h with h | h <;> have := of_decide_eq_false h <;> omega
theorem not_fr {n : Int} (h : frB n = false) : n < -1125899906842624 ∨ (-1125899906842624 ≤ n ∧ 1125899906842624 < n) := by
  unfold frB at h
  rw [Bool.and_eq_false_iff] at h
  rcases h with h | h <;> have := of_decide_eq_false h <;> omega
theorem nn_ways {n : Int} (h : n < -1125899906842624 ∨ (-1125899906842624 ≤ n ∧ 1125899906842624 < n)) (k : n < -67108864 ∨ (-67108864 ≤ n ∧ 67108864 < n)) :
    (n < -1125899906842624 ∧ n < -67108864 ∧ decide (-1125899906842624 ≤ n) = false) ∨ (-1125899906842624 ≤ n ∧ 1125899906842624 < n ∧ -67108864 ≤ n ∧ 67108864 < n ∧ decide (n ≤ 1125899906842624) = false) := by
  rcases h with h | h
  · left; exact ⟨h, by omega, decide_eq_false (by omega)⟩
  · right; exact ⟨h.1, h.2, by omega, by omega, decide_eq_false (by omega)⟩
theorem pu_any (n : Int) (h : foB n = true) (w : World) : Calls Try.prog 21 #[.int .i64 (n * 16777216)] w fun e w' => e = .returned (.agg #[.int .i64 (n * 16777216), .int .i64 (n * 16777216), .int .i64 (n * 16777216), .bool false]) ∧ Bl w w' := by
  have := pointE_any (n * 16777216) w
  have k := fo_iff h
  rw [frB_eq (by omega)] at this
  exact this
theorem sign_ways (av al ah : Int) (ab : Bool) : (ab = true ∧ signE ⟨av, al, ah, ab⟩ = 0) ∨ (ab = false ∧ av < 0 ∧ signE ⟨av, al, ah, ab⟩ = -1) ∨ (ab = false ∧ av = 0 ∧ signE ⟨av, al, ah, ab⟩ = 0) ∨ (ab = false ∧ 0 < av ∧ signE ⟨av, al, ah, ab⟩ = 1) := by
  unfold signE
  cases ab
  · right
    rcases cmpI_three av 0 with ⟨h, e⟩ | ⟨h, e⟩ | ⟨h, e⟩
    · left; exact ⟨rfl, h, e⟩
    · right; left; exact ⟨rfl, h, e⟩
    · right; right; exact ⟨rfl, h, e⟩
  · left; exact ⟨rfl, rfl⟩

set_option maxHeartbeats 2000000 in
set_option maxRecDepth 1000000 in
theorem tells_yy (av al ah : Int) (ab : Bool) (n : Int) (w : World) (hf : frB n = true) (ho : foB n = true) :
    Calls Try.prog 4 #[enV ⟨av, al, ah, ab⟩, .int .i64 n] w fun e w' => e = .returned (.bool true) ∧ Bl w w' := by
  obtain ⟨W, hW⟩ : ∃ W, W = w.alloc (.cells #[.int .i64 av, .int .i64 al, .int .i64 ah, .bool ab] 23) := ⟨_, rfl⟩
  have bW : Bl w W := by rw [hW]; exact (Bl.refl _).alloc _
  have xW : Box W w.heap.size ⟨av, al, ah, ab⟩ := by rw [hW]; exact Box.new w ⟨av, al, ah, ab⟩ _
  have HW := hideP hW
  have XW := hideP xW
  clear hW xW
  have SG := hideP (signE_any ⟨av, al, ah, ab⟩)
  have NG := hideP (eneg_any ⟨av, al, ah, ab⟩)
  have DO := hideP (show ∀ w, Calls Try.prog 17 #[.int .i64 1, .agg #[.int .i64 0, .int .i64 0, .int .i64 0, .bool false], enV ⟨av, al, ah, ab⟩] w fun e w' => e = .returned (enV (negE ⟨av, al, ah, ab⟩)) ∧ Bl w w' from do1 zeroE ⟨av, al, ah, ab⟩)
  generalize negE ⟨av, al, ah, ab⟩ = ng at *
  have G1 := hideP (given_any ng)
  have G2 := hideP (given_any ⟨av, al, ah, ab⟩)
  have OF := hideP (of_gen ⟨av, al, ah, ab⟩ n)
  have PT := hideP (pointE_any n)
  rw [hf] at PT
  rw [ho] at OF
  have PU := hideP (pu_any n ho)
  have hn := frB_iff.1 hf
  obtain ⟨n1, n2⟩ := hn
  have hm := fo_iff ho
  obtain ⟨m1, m2⟩ := hm
  clear hf ho
  go_enter Try.func4, Try.ntmps4
  go_wp2_with fail
  rw [← HW.out]
  refine (PT.out _).mono ?_
  rintro e w1 ⟨rfl, g1⟩
  have B1 := hideP (bW.trans g1)
  have C1 := hideP g1
  clear g1
  unfold ptE
  obtain ⟨V, hV⟩ : ∃ V, V = w1.alloc (.cells #[.int .i64 n, .int .i64 n, .int .i64 n, .bool false] 23) := ⟨_, rfl⟩
  have bV : Bl w1 V := by rw [hV]; exact (Bl.refl _).alloc _
  have xV : Box V w1.heap.size ⟨n, n, n, false⟩ := by rw [hV]; exact Box.new w1 ⟨n, n, n, false⟩ _
  have HV := hideP hV
  have XV := hideP xV
  clear hV xV
  obtain ⟨p0, p1, p2, p3⟩ := XV.out.wl
  dsimp only at p0 p1 p2 p3
  go_upto_region 3 with fail
  rw [← HV.out]
  have wne := wl_ne V
  refine wl_region V (Bl.refl _) (by kernel_rfl) (by kernel_rfl) ?_
  repeat (go_big_quiet_step (first | (go_at_call 22; exact wl_call (wrongU _))))
  refine wpQuiet_nil ?_
  intro _ hw'
  obtain ⟨z, hw''⟩ := hw'
  subst hw''
  clear wne
  obtain ⟨w2, g2⟩ := z
  dsimp only
  have C2 := hideP ((C1.out.trans bV).trans g2)
  clear g2 p0 p1 p2 p3
  obtain ⟨a0, a1, a2, a3, _, _, _, _, _⟩ := XW.out.later C2.out
  dsimp only at a0 a1 a2 a3
  go_wp2_with fail
  refine (OF.out _).mono ?_
  rintro e w3 ⟨rfl, g3⟩
  have C3 := hideP (C2.out.trans g3)
  clear g3 a0 a1 a2 a3
  unfold ptE
  obtain ⟨U, hU⟩ : ∃ U, U = w3.alloc (.cells #[.int .i64 (n * 16777216), .int .i64 (n * 16777216), .int .i64 (n * 16777216), .bool false] 23) := ⟨_, rfl⟩
  have bU : Bl w3 U := by rw [hU]; exact (Bl.refl _).alloc _
  have xU : Box U w3.heap.size ⟨(n * 16777216), (n * 16777216), (n * 16777216), false⟩ := by rw [hU]; exact Box.new w3 ⟨(n * 16777216), (n * 16777216), (n * 16777216), false⟩ _
  have HU := hideP hU
  have XU := hideP xU
  clear hU xU
  obtain ⟨p0, p1, p2, p3⟩ := XU.out.wl
  dsimp only at p0 p1 p2 p3
  go_upto_region 7 with fail
  rw [← HU.out]
  have wne := wl_ne U
  refine wl_region U (Bl.refl _) (by kernel_rfl) (by kernel_rfl) ?_
  repeat (go_big_quiet_step (first | (go_at_call 21; exact wl_call (PU.out _))))
  refine wpQuiet_nil ?_
  intro _ hw'
  obtain ⟨z, hw''⟩ := hw'
  subst hw''
  clear wne
  obtain ⟨w4, g4⟩ := z
  dsimp only
  have C4 := hideP ((C3.out.trans bU).trans g4)
  clear g4 p0 p1 p2 p3
  obtain ⟨a0, a1, a2, a3, _, _, _, _, _⟩ := XW.out.later C4.out
  dsimp only at a0 a1 a2 a3
  obtain ⟨q0, q1, q2, q3⟩ := (XW.out.later C4.out).wl
  dsimp only at q0 q1 q2 q3
  rcases sign_ways av al ah ab with ⟨k1, k⟩ | ⟨k1, k2, k⟩ | ⟨k1, k2, k⟩ | ⟨k1, k2, k⟩
  all_goals
    rw [k] at SG
    subst k1
    clear k
    try subst k2
    go_upto_region 16 with fail
    have wne := wl_ne w4
    refine wl_region w4 (Bl.refl _) (by kernel_rfl) (by kernel_rfl) ?_
    repeat (go_big_quiet_step (first | (go_at_call 24; exact wl_call (SG.out _)) | (go_at_call 25; exact wl_call (NG.out _)) | (go_at_call_of 16 #[enV ng]; exact wl_call (G1.out _)) | (go_at_call 16; exact wl_call (G2.out _)) | (go_at_call 17; exact wl_call (DO.out _)) | (go_at_call 20; exact wl_call (awake3_any _))))
    refine wpQuiet_nil ?_
    intro _ hw'
    obtain ⟨z, hw''⟩ := hw'
    subst hw''
    clear wne
    obtain ⟨w5, g5⟩ := z
    dsimp only
    have C5 := hideP ((bW.trans C4.out).trans g5)
    clear g5 q0 q1 q2 q3
    go_wp2
    go_ret
    exact ⟨rfl, C5.out⟩
set_option maxHeartbeats 2000000 in
set_option maxRecDepth 1000000 in
theorem tells_yn (av al ah : Int) (ab : Bool) (n : Int) (w : World) (hf : frB n = true) (ho : foB n = false) :
    Calls Try.prog 4 #[enV ⟨av, al, ah, ab⟩, .int .i64 n] w fun e w' => e = .returned (.bool true) ∧ Bl w w' := by
  obtain ⟨W, hW⟩ : ∃ W, W = w.alloc (.cells #[.int .i64 av, .int .i64 al, .int .i64 ah, .bool ab] 23) := ⟨_, rfl⟩
  have bW : Bl w W := by rw [hW]; exact (Bl.refl _).alloc _
  have xW : Box W w.heap.size ⟨av, al, ah, ab⟩ := by rw [hW]; exact Box.new w ⟨av, al, ah, ab⟩ _
  have HW := hideP hW
  have XW := hideP xW
  clear hW xW
  have SG := hideP (signE_any ⟨av, al, ah, ab⟩)
  have NG := hideP (eneg_any ⟨av, al, ah, ab⟩)
  have DO := hideP (show ∀ w, Calls Try.prog 17 #[.int .i64 1, .agg #[.int .i64 0, .int .i64 0, .int .i64 0, .bool false], enV ⟨av, al, ah, ab⟩] w fun e w' => e = .returned (enV (negE ⟨av, al, ah, ab⟩)) ∧ Bl w w' from do1 zeroE ⟨av, al, ah, ab⟩)
  generalize negE ⟨av, al, ah, ab⟩ = ng at *
  have G1 := hideP (given_any ng)
  have G2 := hideP (given_any ⟨av, al, ah, ab⟩)
  have OF := hideP (of_gen ⟨av, al, ah, ab⟩ n)
  have PT := hideP (pointE_any n)
  rw [hf] at PT
  rw [ho] at OF
  have hn := frB_iff.1 hf
  obtain ⟨n1, n2⟩ := hn
  have hm := not_fo ho
  clear hf ho
  rcases hm with hm | ⟨hm, hm'⟩
  all_goals
    go_enter Try.func4, Try.ntmps4
    go_wp2_with fail
    rw [← HW.out]
    refine (PT.out _).mono ?_
    rintro e w1 ⟨rfl, g1⟩
    have B1 := hideP (bW.trans g1)
    have C1 := hideP g1
    clear g1
    unfold ptE
    obtain ⟨V, hV⟩ : ∃ V, V = w1.alloc (.cells #[.int .i64 n, .int .i64 n, .int .i64 n, .bool false] 23) := ⟨_, rfl⟩
    have bV : Bl w1 V := by rw [hV]; exact (Bl.refl _).alloc _
    have xV : Box V w1.heap.size ⟨n, n, n, false⟩ := by rw [hV]; exact Box.new w1 ⟨n, n, n, false⟩ _
    have HV := hideP hV
    have XV := hideP xV
    clear hV xV
    obtain ⟨p0, p1, p2, p3⟩ := XV.out.wl
    dsimp only at p0 p1 p2 p3
    go_upto_region 3 with fail
    rw [← HV.out]
    have wne := wl_ne V
    refine wl_region V (Bl.refl _) (by kernel_rfl) (by kernel_rfl) ?_
    repeat (go_big_quiet_step (first | (go_at_call 22; exact wl_call (wrongU _))))
    refine wpQuiet_nil ?_
    intro _ hw'
    obtain ⟨z, hw''⟩ := hw'
    subst hw''
    clear wne
    obtain ⟨w2, g2⟩ := z
    dsimp only
    have C2 := hideP ((C1.out.trans bV).trans g2)
    clear g2 p0 p1 p2 p3
    obtain ⟨a0, a1, a2, a3, _, _, _, _, _⟩ := XW.out.later C2.out
    dsimp only at a0 a1 a2 a3
    go_wp2_with fail
    refine (OF.out _).mono ?_
    rintro e w3 ⟨rfl, g3⟩
    have C3 := hideP (C2.out.trans g3)
    clear g3 a0 a1 a2 a3
    unfold ptE wrongE
    obtain ⟨U, hU⟩ : ∃ U, U = w3.alloc (.cells #[.int .i64 0, .int .i64 0, .int .i64 0, .bool true] 23) := ⟨_, rfl⟩
    have bU : Bl w3 U := by rw [hU]; exact (Bl.refl _).alloc _
    have xU : Box U w3.heap.size ⟨0, 0, 0, true⟩ := by rw [hU]; exact Box.new w3 ⟨0, 0, 0, true⟩ _
    have HU := hideP hU
    have XU := hideP xU
    clear hU xU
    obtain ⟨p0, p1, p2, p3⟩ := XU.out.wl
    dsimp only at p0 p1 p2 p3
    go_upto_region 9 with fail
    rw [← HU.out]
    have wne := wl_ne U
    refine wl_region U (Bl.refl _) (by kernel_rfl) (by kernel_rfl) ?_
    repeat (go_big_quiet_step (first | (go_at_call 22; exact wl_call (wrongU _))))
    refine wpQuiet_nil ?_
    intro _ hw'
    obtain ⟨z, hw''⟩ := hw'
    subst hw''
    clear wne
    obtain ⟨w4, g4⟩ := z
    dsimp only
    have C4 := hideP ((C3.out.trans bU).trans g4)
    clear g4 p0 p1 p2 p3
    obtain ⟨a0, a1, a2, a3, _, _, _, _, _⟩ := XW.out.later C4.out
    dsimp only at a0 a1 a2 a3
    obtain ⟨q0, q1, q2, q3⟩ := (XW.out.later C4.out).wl
    dsimp only at q0 q1 q2 q3
    rcases sign_ways av al ah ab with ⟨k1, k⟩ | ⟨k1, k2, k⟩ | ⟨k1, k2, k⟩ | ⟨k1, k2, k⟩
    all_goals
      rw [k] at SG
      subst k1
      clear k
      try subst k2
      go_upto_region 16 with fail
      have wne := wl_ne w4
      refine wl_region w4 (Bl.refl _) (by kernel_rfl) (by kernel_rfl) ?_
      repeat (go_big_quiet_step (first | (go_at_call 24; exact wl_call (SG.out _)) | (go_at_call 25; exact wl_call (NG.out _)) | (go_at_call_of 16 #[enV ng]; exact wl_call (G1.out _)) | (go_at_call 16; exact wl_call (G2.out _)) | (go_at_call 17; exact wl_call (DO.out _)) | (go_at_call 20; exact wl_call (awake3_any _))))
      refine wpQuiet_nil ?_
      intro _ hw'
      obtain ⟨z, hw''⟩ := hw'
      subst hw''
      clear wne
      obtain ⟨w5, g5⟩ := z
      dsimp only
      have C5 := hideP ((bW.trans C4.out).trans g5)
      clear g5 q0 q1 q2 q3
      go_wp2
      go_ret
      exact ⟨rfl, C5.out⟩
set_option maxHeartbeats 2000000 in
set_option maxRecDepth 1000000 in
theorem tells_nn (av al ah : Int) (ab : Bool) (n : Int) (w : World) (hf : frB n = false) (ho : foB n = false) :
    Calls Try.prog 4 #[enV ⟨av, al, ah, ab⟩, .int .i64 n] w fun e w' => e = .returned (.bool true) ∧ Bl w w' := by
  obtain ⟨W, hW⟩ : ∃ W, W = w.alloc (.cells #[.int .i64 av, .int .i64 al, .int .i64 ah, .bool ab] 23) := ⟨_, rfl⟩
  have bW : Bl w W := by rw [hW]; exact (Bl.refl _).alloc _
  have xW : Box W w.heap.size ⟨av, al, ah, ab⟩ := by rw [hW]; exact Box.new w ⟨av, al, ah, ab⟩ _
  have HW := hideP hW
  have XW := hideP xW
  clear hW xW
  have SG := hideP (signE_any ⟨av, al, ah, ab⟩)
  have NG := hideP (eneg_any ⟨av, al, ah, ab⟩)
  have DO := hideP (show ∀ w, Calls Try.prog 17 #[.int .i64 1, .agg #[.int .i64 0, .int .i64 0, .int .i64 0, .bool false], enV ⟨av, al, ah, ab⟩] w fun e w' => e = .returned (enV (negE ⟨av, al, ah, ab⟩)) ∧ Bl w w' from do1 zeroE ⟨av, al, ah, ab⟩)
  generalize negE ⟨av, al, ah, ab⟩ = ng at *
  have G1 := hideP (given_any ng)
  have G2 := hideP (given_any ⟨av, al, ah, ab⟩)
  have OF := hideP (of_gen ⟨av, al, ah, ab⟩ n)
  have PT := hideP (pointE_any n)
  rw [hf] at PT
  rw [ho] at OF
  have hn := not_fr hf
  have hm := not_fo ho
  clear hf ho
  rcases nn_ways hn hm with ⟨e1, e2, e3⟩ | ⟨e1, e2, e3, e4, e5⟩
  all_goals
    clear hn hm
    go_enter Try.func4, Try.ntmps4
    go_wp2_with fail
    rw [← HW.out]
    refine (PT.out _).mono ?_
    rintro e w1 ⟨rfl, g1⟩
    have B1 := hideP (bW.trans g1)
    have C1 := hideP g1
    clear g1
    unfold ptE wrongE
    obtain ⟨V, hV⟩ : ∃ V, V = w1.alloc (.cells #[.int .i64 0, .int .i64 0, .int .i64 0, .bool true] 23) := ⟨_, rfl⟩
    have bV : Bl w1 V := by rw [hV]; exact (Bl.refl _).alloc _
    have xV : Box V w1.heap.size ⟨0, 0, 0, true⟩ := by rw [hV]; exact Box.new w1 ⟨0, 0, 0, true⟩ _
    have HV := hideP hV
    have XV := hideP xV
    clear hV xV
    obtain ⟨p0, p1, p2, p3⟩ := XV.out.wl
    dsimp only at p0 p1 p2 p3
    go_upto_region 3 with fail
    rw [← HV.out]
    have wne := wl_ne V
    refine wl_region V (Bl.refl _) (by kernel_rfl) (by kernel_rfl) ?_
    repeat (go_big_quiet_step (first | (go_at_call 22; exact wl_call (wrongU _))))
    refine wpQuiet_nil ?_
    intro _ hw'
    obtain ⟨z, hw''⟩ := hw'
    subst hw''
    clear wne
    obtain ⟨w2, g2⟩ := z
    dsimp only
    have C2 := hideP ((C1.out.trans bV).trans g2)
    clear g2 p0 p1 p2 p3
    obtain ⟨a0, a1, a2, a3, _, _, _, _, _⟩ := XW.out.later C2.out
    dsimp only at a0 a1 a2 a3
    go_wp2_with fail
    refine (OF.out _).mono ?_
    rintro e w3 ⟨rfl, g3⟩
    have C3 := hideP (C2.out.trans g3)
    clear g3 a0 a1 a2 a3
    unfold ptE wrongE
    obtain ⟨U, hU⟩ : ∃ U, U = w3.alloc (.cells #[.int .i64 0, .int .i64 0, .int .i64 0, .bool true] 23) := ⟨_, rfl⟩
    have bU : Bl w3 U := by rw [hU]; exact (Bl.refl _).alloc _
    have xU : Box U w3.heap.size ⟨0, 0, 0, true⟩ := by rw [hU]; exact Box.new w3 ⟨0, 0, 0, true⟩ _
    have HU := hideP hU
    have XU := hideP xU
    clear hU xU
    obtain ⟨p0, p1, p2, p3⟩ := XU.out.wl
    dsimp only at p0 p1 p2 p3
    go_upto_region 9 with fail
    rw [← HU.out]
    have wne := wl_ne U
    refine wl_region U (Bl.refl _) (by kernel_rfl) (by kernel_rfl) ?_
    repeat (go_big_quiet_step (first | (go_at_call 22; exact wl_call (wrongU _))))
    refine wpQuiet_nil ?_
    intro _ hw'
    obtain ⟨z, hw''⟩ := hw'
    subst hw''
    clear wne
    obtain ⟨w4, g4⟩ := z
    dsimp only
    have C4 := hideP ((C3.out.trans bU).trans g4)
    clear g4 p0 p1 p2 p3
    obtain ⟨a0, a1, a2, a3, _, _, _, _, _⟩ := XW.out.later C4.out
    dsimp only at a0 a1 a2 a3
    obtain ⟨q0, q1, q2, q3⟩ := (XW.out.later C4.out).wl
    dsimp only at q0 q1 q2 q3
    rcases sign_ways av al ah ab with ⟨k1, k⟩ | ⟨k1, k2, k⟩ | ⟨k1, k2, k⟩ | ⟨k1, k2, k⟩
    all_goals
      rw [k] at SG
      subst k1
      clear k
      try subst k2
      go_upto_region 16 with fail
      have wne := wl_ne w4
      refine wl_region w4 (Bl.refl _) (by kernel_rfl) (by kernel_rfl) ?_
      repeat (go_big_quiet_step (first | (go_at_call 24; exact wl_call (SG.out _)) | (go_at_call 25; exact wl_call (NG.out _)) | (go_at_call_of 16 #[enV ng]; exact wl_call (G1.out _)) | (go_at_call 16; exact wl_call (G2.out _)) | (go_at_call 17; exact wl_call (DO.out _)) | (go_at_call 20; exact wl_call (awake3_any _))))
      refine wpQuiet_nil ?_
      intro _ hw'
      obtain ⟨z, hw''⟩ := hw'
      subst hw''
      clear wne
      obtain ⟨w5, g5⟩ := z
      dsimp only
      have C5 := hideP ((bW.trans C4.out).trans g5)
      clear g5 q0 q1 q2 q3
      go_wp2
      go_ret
      exact ⟨rfl, C5.out⟩
theorem walk_EnvTells (a : En) (n : Int) (w : World) :
    Calls Try.prog 4 #[enV a, .int .i64 n] w fun e w' => e = .returned (.bool true) ∧ Bl w w' := by
  obtain ⟨av, al, ah, ab⟩ := a
  cases hf : frB n
  · have ho : foB n = false := by
      cases h : foB n
      · rfl
      · have k := fo_iff h
        rw [frB_eq (by omega)] at hf; cases hf
    exact tells_nn av al ah ab n w hf ho
  · cases ho : foB n
    · exact tells_yn av al ah ab n w hf ho
    · exact tells_yy av al ah ab n w hf ho
end Go.Proofs.Ytgidengfnelggaa
