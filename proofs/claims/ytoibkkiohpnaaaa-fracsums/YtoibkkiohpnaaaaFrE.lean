/- The walk of FracNew. -/
import Derived.Test.YtoibkkiohpnaaaaFr8
import Derived.Test.YtoibkkiohpnaaaaFrD
namespace Go.Proofs.Ytoibkkiohpnaaaa
open Go.RowKit
set_option linter.unusedSimpArgs false
set_option linter.unusedVariables false

theorem lowR_bad {n d : Int} (h : (lowR n d).bad = true) : lowR n d = wrongR := by
  unfold lowR at h ⊢
  split
  · rfl
  · rename_i hd
    rw [if_neg hd, ofQ_bad] at h
    exact ofQ_no (by simpa using h)
theorem small_as (x y : Int) (h : x = y) (w : World) : Calls Try.prog 16 #[.int .i64 x] w fun e w' => e = .returned (.bool (smB y)) ∧ Bl w w' := by
  subst h; exact blOf (small_any x w)
theorem lowR_bad_parts {n d : Int} (hd : 0 < d) (h : (lowR n d).bad = true) (g : Int) (hg : g = (Int.gcd n d : Int)) : (smB (n.tdiv g) && smB (d.tdiv g)) = false := by
  rw [lowR_pos n d hd g hg] at h
  split at h
  · cases h
  · rename_i hc; simpa using hc
set_option maxHeartbeats 2000000 in
theorem new_out (n d : Int) (w : World) (h : 1152921504606846976 < n ∨ (¬ 1152921504606846976 < n ∧ n < -1152921504606846976) ∨ (¬ 1152921504606846976 < n ∧ ¬ n < -1152921504606846976 ∧ 1152921504606846976 < d) ∨ (¬ 1152921504606846976 < n ∧ ¬ n < -1152921504606846976 ∧ ¬ 1152921504606846976 < d ∧ d < -1152921504606846976) ∨ (¬ 1152921504606846976 < n ∧ ¬ n < -1152921504606846976 ∧ ¬ 1152921504606846976 < d ∧ ¬ d < -1152921504606846976 ∧ (d == 0) = true)) :
    Calls Try.prog 3 #[.int .i64 n, .int .i64 d] w fun e w' => e = .returned (.bool true) ∧ Bl w w' := by
  have NW0 := new_any n d
  have hr : newR n d = ⟨0, 0, true⟩ := by
    unfold newR
    cases h1 : gvB n
    · rfl
    · cases h2 : gvB d
      · rfl
      · have e1 := gvB_iff.1 h1
        have e2 := gvB_iff.1 h2
        rcases h with h | h | h | h | ⟨_, _, _, _, h⟩
        · omega
        · omega
        · omega
        · omega
        · have h0 : d = 0 := by simpa using h
          subst h0
          rfl
  rw [hr] at NW0
  have NW := hideP NW0
  have AW := hideP awake4_any
  have WR := hideP wrV_any
  have EG := Try.frGuard
  have EW := eql_wr
  have BW := Bl.refl w
  obtain ⟨W, hW⟩ : ∃ W, W = w := ⟨_, rfl⟩
  have HW := hideP hW
  clear NW0 hr
  rcases h with c1 | ⟨c1, c2⟩ | ⟨c1, c2, c3⟩ | ⟨c1, c2, c3, c4⟩ | ⟨c1, c2, c3, c4, c5⟩
  all_goals
    go_enter Try.func3, Try.ntmps3
    rw [← hW]
    clear hW
    go_wp2_with fail
    refine (NW.out _).mono ?_
    rintro e w1 ⟨rfl, h1⟩
    have H1 := hideP h1
    clear h1
    go_wp2_with fail
    obtain ⟨w2, Y2⟩ := oneA_ex w1 ⟨0, 0, true⟩
    have e2 := Y2.eq
    try dsimp only at e2
    rw [← e2]
    have H2 := hideP Y2.bl
    have X2 := hideP Y2.ba
    clear Y2 e2
    obtain ⟨x0, x1, x2, xf0, xf1, xf2, xl⟩ := X2.out.later (Bl.refl w2)
    try dsimp only at x0 x1 x2
    go_wp2_with fail
    clear x0 x1 x2 xf0 xf1 xf2 xl
    have wne := wl_ne w2
    obtain ⟨x0, x1, x2⟩ := (X2.out.later (Bl.refl w2)).wl
    try dsimp only at x0 x1 x2
    refine wl_region w2 (Bl.refl _) (by kernel_rfl) (by kernel_rfl) ?_
    repeat (go_big_quiet_step (first | ((go_at_call 11); exact wl_call (WR.out _)) | ((go_at_call 12); exact wl_call (AW.out _))))
    refine wpQuiet_nil ?_
    intro _ hw'
    obtain ⟨z, hw''⟩ := hw'
    subst hw''
    clear wne
    obtain ⟨w3, h3⟩ := z
    dsimp only
    have H3 := hideP h3
    clear h3
    clear x0 x1 x2
    go_wp2
    go_ret
    exact ⟨rfl, ((H1.out.trans H2.out).trans H3.out)⟩
set_option maxHeartbeats 2000000 in
theorem new_pos_fine (n d : Int) (h1 : -1152921504606846976 ≤ n) (h2 : n ≤ 1152921504606846976) (h3 : -1152921504606846976 ≤ d) (h4 : d ≤ 1152921504606846976) (hd : 0 < d) (w : World) (rn rd : Int) (hr : lowR n d = ⟨rn, rd, false⟩) :
    Calls Try.prog 3 #[.int .i64 n, .int .i64 d] w fun e w' => e = .returned (.bool true) ∧ Bl w w' := by
  have NW0 := new_any n d
  rw [newR_low h1 h2 h3 h4, hr] at NW0
  have NW := hideP NW0
  have hf : fineR ⟨rn, rd, false⟩ = true := by rw [← hr]; exact lowR_fine (by rw [hr])
  have f := fineR_iff.1 hf
  dsimp only at f
  have FL := fineL_any ⟨rn, rd, false⟩
  have FM := fineR_any ⟨rn, rd, false⟩
  rw [hf] at FL FM
  have FA := hideP FL
  have FI := hideP FM
  have LS := lowR_same (n := n) (d := d) (by omega) (by rw [hr])
  rw [hr] at LS
  dsimp only at LS
  have S := same_any n d rn rd
  have s1 : sameB n d rn rd = true := sameB_iff.2 (LS)
  rw [s1] at S
  have SA := hideP (fun w => S w (right_in (by omega) (by omega)) (right_in (by omega) (by omega)) (right_in (by omega) (by omega)) (right_in (by omega) (by omega)))
  have c1 : ¬ 1152921504606846976 < n := by omega
  have c2 : ¬ n < -1152921504606846976 := by omega
  have c3 : ¬ 1152921504606846976 < d := by omega
  have c4 : ¬ d < -1152921504606846976 := by omega
  have c5 : (d == 0) = false := by simpa using (show d ≠ 0 by omega)
  have c6 : ¬ d < 0 := by omega
  have AW := hideP awake4_any
  have WR := hideP wrV_any
  have EG := Try.frGuard
  have EW := eql_wr
  obtain ⟨W, hW⟩ : ∃ W, W = w := ⟨_, rfl⟩
  have HW := hideP hW
  clear NW0 hf f FL FM LS S s1 hr
  go_enter Try.func3, Try.ntmps3
  rw [← hW]
  clear hW
  go_wp2_with fail
  refine (NW.out _).mono ?_
  rintro e w1 ⟨rfl, h1⟩
  have H1 := hideP h1
  clear h1
  go_wp2_with fail
  obtain ⟨w2, Y2⟩ := oneA_ex w1 ⟨rn, rd, false⟩
  have e2 := Y2.eq
  try dsimp only at e2
  rw [← e2]
  have H2 := hideP Y2.bl
  have X2 := hideP Y2.ba
  clear Y2 e2
  obtain ⟨x0, x1, x2, xf0, xf1, xf2, xl⟩ := X2.out.later (Bl.refl w2)
  try dsimp only at x0 x1 x2
  go_wp2_with fail
  refine (FA.out _).mono ?_
  rintro e w3 ⟨rfl, h3⟩
  have H3 := hideP h3
  clear h3
  clear x0 x1 x2 xf0 xf1 xf2 xl
  obtain ⟨x0, x1, x2, xf0, xf1, xf2, xl⟩ := X2.out.later H3.out
  try dsimp only at x0 x1 x2
  go_wp2_with fail
  refine (FI.out _).mono ?_
  rintro e w4 ⟨rfl, h4⟩
  have H4 := hideP h4
  clear h4
  clear x0 x1 x2 xf0 xf1 xf2 xl
  obtain ⟨x0, x1, x2, xf0, xf1, xf2, xl⟩ := X2.out.later (H3.out.trans H4.out)
  try dsimp only at x0 x1 x2
  go_wp2_with fail
  refine (SA.out _).mono ?_
  rintro e w5 ⟨rfl, h5⟩
  have H5 := hideP h5
  clear h5
  clear x0 x1 x2 xf0 xf1 xf2 xl
  go_wp2_with fail
  refine (AW.out _).mono ?_
  rintro e w6 ⟨rfl, h6⟩
  have H6 := hideP h6
  clear h6
  go_wp2
  go_ret
  exact ⟨rfl, (((((H1.out.trans H2.out).trans H3.out).trans H4.out).trans H5.out).trans H6.out)⟩
set_option maxHeartbeats 2000000 in
theorem new_pos_bad (n d m : Int) (hm : (m = -n ∧ n < -n) ∨ (m = n ∧ ¬ n < -n)) (h1 : -1152921504606846976 ≤ n) (h2 : n ≤ 1152921504606846976) (h3 : -1152921504606846976 ≤ d) (h4 : d ≤ 1152921504606846976) (hd : 0 < d) (w : World) (hr : (lowR n d).bad = true) :
    Calls Try.prog 3 #[.int .i64 n, .int .i64 d] w fun e w' => e = .returned (.bool true) ∧ Bl w w' := by
  have NW0 := new_any n d
  rw [newR_low h1 h2 h3 h4, lowR_bad hr] at NW0
  have NW : Hid (∀ w, Calls Try.prog 10 #[.int .i64 n, .int .i64 d] w fun e w' => e = .returned (frV ⟨0, 0, true⟩) ∧ Bl w w') := hideP NW0
  have hg : (Int.gcd m d : Int) = (Int.gcd n d : Int) := by
    rcases hm with ⟨rfl, _⟩ | ⟨rfl, _⟩
    · rw [Int.neg_gcd]
    · rfl
  have hp := lowR_bad_parts (n := n) (d := d) (by omega) hr _ rfl
  rw [← hg] at hp
  have g0 : 0 < (Int.gcd m d : Int) := by have := Int.gcd_pos_of_ne_zero_right m (show d ≠ 0 by omega); omega
  generalize hgg : (Int.gcd m d : Int) = g at *
  have HG := hideP hgg
  clear hgg
  have c1 : ¬ 1152921504606846976 < n := by omega
  have c2 : ¬ n < -1152921504606846976 := by omega
  have c3 : ¬ 1152921504606846976 < d := by omega
  have c4 : ¬ d < -1152921504606846976 := by omega
  have c5 : (d == 0) = false := by simpa using (show d ≠ 0 by omega)
  have c6 : ¬ d < 0 := by omega
  have AW := hideP awake4_any
  have WR := hideP wrV_any
  have EG := Try.frGuard
  have EW := eql_wr
  obtain ⟨W, hW⟩ : ∃ W, W = w := ⟨_, rfl⟩
  have HW := hideP hW
  have hg0 : (g == 0) = false := by simpa using (show g ≠ 0 by omega)
  have hc : smB (n.tdiv g) = false ∨ (smB (n.tdiv g) = true ∧ smB (d.tdiv g) = false) := by
    cases h : smB (n.tdiv g)
    · exact .inl rfl
    · rw [h] at hp; exact .inr ⟨rfl, by simpa using hp⟩
  clear hp hg NW0 hr
  have m0 : 0 ≤ m := by omega
  obtain ⟨N, hN⟩ : ∃ N, N = if n < -n then n.tdiv g else n / g := ⟨_, rfl⟩
  have SM1 := fun w => small_as N (n.tdiv g) (by rw [hN]; split; · rfl
                                                 · exact (Int.tdiv_eq_ediv_of_nonneg (by omega)).symm) w
  have SM2 := fun w => small_as (d / g) (d.tdiv g) (Int.tdiv_eq_ediv_of_nonneg (by omega)).symm w
  rcases hc with k1 | ⟨k1, k2⟩
  all_goals
    try rw [k1] at SM1
    try rw [k2] at SM2
    rcases hm with ⟨hme, hm⟩ | ⟨hme, hm⟩
    all_goals
      have hme' := hme.symm
      clear hme
      subst hme'
      try rw [if_pos hm] at hN
      try rw [if_neg hm] at hN
      try subst hN
      have S1 := hideP SM1
      have S2 := hideP SM2
      clear SM1 SM2
      go_enter Try.func3, Try.ntmps3
      rw [← hW]
      clear hW
      go_wp2_with fail
      refine (NW.out _).mono ?_
      rintro e w1 ⟨rfl, h1⟩
      have H1 := hideP h1
      clear h1
      go_wp2_with fail
      obtain ⟨w2, Y2⟩ := oneA_ex w1 ⟨0, 0, true⟩
      have e2 := Y2.eq
      try dsimp only at e2
      rw [← e2]
      have H2 := hideP Y2.bl
      have X2 := hideP Y2.ba
      clear Y2 e2
      obtain ⟨x0, x1, x2, xf0, xf1, xf2, xl⟩ := X2.out.later (Bl.refl w2)
      try dsimp only at x0 x1 x2
      go_wp2_with fail
      clear x0 x1 x2 xf0 xf1 xf2 xl
      go_loopw [6, 7] (fun x y wr => ∃ (p q : Int), x = .int .i64 p ∧ y = .int .i64 q ∧ 0 ≤ p ∧ 0 ≤ q ∧ (Int.gcd p q : Int) = g ∧ Bl w2 wr) (fun _ y _ => (intOf y).toNat)
      case atStart => exact ⟨_, _, rfl, rfl, by omega, by omega, HG.out, Bl.refl _⟩
      case round =>
        obtain ⟨p, q, rfl, rfl, hp, hq, hg, hB⟩ := hrel
        have HG2 := hideP hg
        clear hg
        by_cases h : 0 < q
        · have hq0 : (q == 0) = false := by simpa using (show q ≠ 0 by omega)
          go_wp2
          go_quiet (fail)
          go_wp2
          go_roundw
          case rel => exact ⟨q, p % q, rfl, rfl, hq, Int.emod_nonneg _ (by omega), by rw [gcd_step p q hp h]; exact HG2.out, hB.trans (drewN_bl _ _)⟩
          case measure =>
            have := Int.emod_nonneg p (show q ≠ 0 by omega)
            have := Int.emod_lt_of_pos p h
            simp [intOf]
            omega
        · obtain rfl : q = 0 := by omega
          obtain rfl : g = p := by rw [← HG2.out, Int.gcd_zero]; omega
          have H3 := hideP hB
          clear hB
          rename_i wr _
          go_wp2_with fail
          have wne := wl_ne wr
          obtain ⟨x0, x1, x2⟩ := (X2.out.later H3.out).wl
          try dsimp only at x0 x1 x2
          refine wl_region wr (Bl.refl _) (by kernel_rfl) (by kernel_rfl) ?_
          repeat (go_big_quiet_step (first | ((first | go_at_call_of 16 #[Value.int .i64 (n.tdiv g)] | go_at_call_of 16 #[Value.int .i64 (n / g)]); exact wl_call (S1.out _)) | ((go_at_call_of 16 #[Value.int .i64 (d / g)]); exact wl_call (S2.out _)) | ((go_at_call 11); exact wl_call (WR.out _)) | ((go_at_call 12); exact wl_call (AW.out _))))
          refine wpQuiet_nil ?_
          intro _ hw'
          obtain ⟨z, hw''⟩ := hw'
          subst hw''
          clear wne
          obtain ⟨w4, h4⟩ := z
          dsimp only
          have H4 := hideP h4
          clear h4
          clear x0 x1 x2
          go_wp2
          go_ret
          exact ⟨rfl, (((H1.out.trans H2.out).trans H3.out).trans H4.out)⟩
set_option maxHeartbeats 2000000 in
theorem new_neg_fine (n d : Int) (h1 : -1152921504606846976 ≤ n) (h2 : n ≤ 1152921504606846976) (h3 : -1152921504606846976 ≤ d) (h4 : d ≤ 1152921504606846976) (hd : d < 0) (w : World) (rn rd : Int) (hr : lowR n d = ⟨rn, rd, false⟩) :
    Calls Try.prog 3 #[.int .i64 n, .int .i64 d] w fun e w' => e = .returned (.bool true) ∧ Bl w w' := by
  have NW0 := new_any n d
  rw [newR_low h1 h2 h3 h4, hr] at NW0
  have NW := hideP NW0
  have hf : fineR ⟨rn, rd, false⟩ = true := by rw [← hr]; exact lowR_fine (by rw [hr])
  have f := fineR_iff.1 hf
  dsimp only at f
  have FL := fineL_any ⟨rn, rd, false⟩
  have FM := fineR_any ⟨rn, rd, false⟩
  rw [hf] at FL FM
  have FA := hideP FL
  have FI := hideP FM
  have LS := lowR_same (n := n) (d := d) (by omega) (by rw [hr])
  rw [hr] at LS
  dsimp only at LS
  have S := same_any (-n) (-d) rn rd
  have s1 : sameB (-n) (-d) rn rd = true := sameB_iff.2 (by rw [Int.neg_mul, Int.mul_neg]; exact congrArg _ LS)
  rw [s1] at S
  have SA := hideP (fun w => S w (right_in (by omega) (by omega)) (right_in (by omega) (by omega)) (right_in (by omega) (by omega)) (right_in (by omega) (by omega)))
  have c1 : ¬ 1152921504606846976 < n := by omega
  have c2 : ¬ n < -1152921504606846976 := by omega
  have c3 : ¬ 1152921504606846976 < d := by omega
  have c4 : ¬ d < -1152921504606846976 := by omega
  have c5 : (d == 0) = false := by simpa using (show d ≠ 0 by omega)
  have c6 : d < 0 := by omega
  have AW := hideP awake4_any
  have WR := hideP wrV_any
  have EG := Try.frGuard
  have EW := eql_wr
  obtain ⟨W, hW⟩ : ∃ W, W = w := ⟨_, rfl⟩
  have HW := hideP hW
  clear NW0 hf f FL FM LS S s1 hr
  go_enter Try.func3, Try.ntmps3
  rw [← hW]
  clear hW
  go_wp2_with fail
  refine (NW.out _).mono ?_
  rintro e w1 ⟨rfl, h1⟩
  have H1 := hideP h1
  clear h1
  go_wp2_with fail
  obtain ⟨w2, Y2⟩ := oneA_ex w1 ⟨rn, rd, false⟩
  have e2 := Y2.eq
  try dsimp only at e2
  rw [← e2]
  have H2 := hideP Y2.bl
  have X2 := hideP Y2.ba
  clear Y2 e2
  obtain ⟨x0, x1, x2, xf0, xf1, xf2, xl⟩ := X2.out.later (Bl.refl w2)
  try dsimp only at x0 x1 x2
  go_wp2_with fail
  refine (FA.out _).mono ?_
  rintro e w3 ⟨rfl, h3⟩
  have H3 := hideP h3
  clear h3
  clear x0 x1 x2 xf0 xf1 xf2 xl
  obtain ⟨x0, x1, x2, xf0, xf1, xf2, xl⟩ := X2.out.later H3.out
  try dsimp only at x0 x1 x2
  go_wp2_with fail
  refine (FI.out _).mono ?_
  rintro e w4 ⟨rfl, h4⟩
  have H4 := hideP h4
  clear h4
  clear x0 x1 x2 xf0 xf1 xf2 xl
  obtain ⟨x0, x1, x2, xf0, xf1, xf2, xl⟩ := X2.out.later (H3.out.trans H4.out)
  try dsimp only at x0 x1 x2
  go_wp2_with fail
  refine (SA.out _).mono ?_
  rintro e w5 ⟨rfl, h5⟩
  have H5 := hideP h5
  clear h5
  clear x0 x1 x2 xf0 xf1 xf2 xl
  go_wp2_with fail
  refine (AW.out _).mono ?_
  rintro e w6 ⟨rfl, h6⟩
  have H6 := hideP h6
  clear h6
  go_wp2
  go_ret
  exact ⟨rfl, (((((H1.out.trans H2.out).trans H3.out).trans H4.out).trans H5.out).trans H6.out)⟩
set_option maxHeartbeats 2000000 in
theorem new_neg_bad (n d m : Int) (hm : (m = n ∧ -n < n) ∨ (m = -n ∧ ¬ -n < n)) (h1 : -1152921504606846976 ≤ n) (h2 : n ≤ 1152921504606846976) (h3 : -1152921504606846976 ≤ d) (h4 : d ≤ 1152921504606846976) (hd : d < 0) (w : World) (hr : (lowR n d).bad = true) :
    Calls Try.prog 3 #[.int .i64 n, .int .i64 d] w fun e w' => e = .returned (.bool true) ∧ Bl w w' := by
  have NW0 := new_any n d
  rw [newR_low h1 h2 h3 h4, lowR_bad hr] at NW0
  have NW : Hid (∀ w, Calls Try.prog 10 #[.int .i64 n, .int .i64 d] w fun e w' => e = .returned (frV ⟨0, 0, true⟩) ∧ Bl w w') := hideP NW0
  have hg : (Int.gcd m (-d) : Int) = (Int.gcd (-n) (-d) : Int) := by
    rcases hm with ⟨rfl, _⟩ | ⟨rfl, _⟩
    · rw [Int.neg_gcd]
    · rfl
  rw [lowR_neg n d hd] at hr
  have hp := lowR_bad_parts (n := (-n)) (d := (-d)) (by omega) hr _ rfl
  rw [← hg] at hp
  have g0 : 0 < (Int.gcd m (-d) : Int) := by have := Int.gcd_pos_of_ne_zero_right m (show (-d) ≠ 0 by omega); omega
  generalize hgg : (Int.gcd m (-d) : Int) = g at *
  have HG := hideP hgg
  clear hgg
  have c1 : ¬ 1152921504606846976 < n := by omega
  have c2 : ¬ n < -1152921504606846976 := by omega
  have c3 : ¬ 1152921504606846976 < d := by omega
  have c4 : ¬ d < -1152921504606846976 := by omega
  have c5 : (d == 0) = false := by simpa using (show d ≠ 0 by omega)
  have c6 : d < 0 := by omega
  have AW := hideP awake4_any
  have WR := hideP wrV_any
  have EG := Try.frGuard
  have EW := eql_wr
  obtain ⟨W, hW⟩ : ∃ W, W = w := ⟨_, rfl⟩
  have HW := hideP hW
  have hg0 : (g == 0) = false := by simpa using (show g ≠ 0 by omega)
  have hc : smB ((-n).tdiv g) = false ∨ (smB ((-n).tdiv g) = true ∧ smB ((-d).tdiv g) = false) := by
    cases h : smB ((-n).tdiv g)
    · exact .inl rfl
    · rw [h] at hp; exact .inr ⟨rfl, by simpa using hp⟩
  clear hp hg NW0 hr
  have m0 : 0 ≤ m := by omega
  have e1 := tdiv_neg_wrap n g (by omega) (by omega)
  have e2 := tdiv_neg_wrap d g (by omega) (by omega)
  have SM1 := fun w => small_as (wrap64 (-(n.tdiv g))) ((-n).tdiv g) e1 w
  have SM2 := fun w => small_as (wrap64 (-(d.tdiv g))) ((-d).tdiv g) e2 w
  clear e1 e2
  rcases hc with k1 | ⟨k1, k2⟩
  all_goals
    try rw [k1] at SM1
    try rw [k2] at SM2
    rcases hm with ⟨hme, hm⟩ | ⟨hme, hm⟩
    all_goals
      have hme' := hme.symm
      clear hme
      subst hme'
      try rw [if_pos hm] at hN
      try rw [if_neg hm] at hN
      try subst hN
      have S1 := hideP SM1
      have S2 := hideP SM2
      clear SM1 SM2
      go_enter Try.func3, Try.ntmps3
      rw [← hW]
      clear hW
      go_wp2_with fail
      refine (NW.out _).mono ?_
      rintro e w1 ⟨rfl, h1⟩
      have H1 := hideP h1
      clear h1
      go_wp2_with fail
      obtain ⟨w2, Y2⟩ := oneA_ex w1 ⟨0, 0, true⟩
      have e2 := Y2.eq
      try dsimp only at e2
      rw [← e2]
      have H2 := hideP Y2.bl
      have X2 := hideP Y2.ba
      clear Y2 e2
      obtain ⟨x0, x1, x2, xf0, xf1, xf2, xl⟩ := X2.out.later (Bl.refl w2)
      try dsimp only at x0 x1 x2
      go_wp2_with fail
      clear x0 x1 x2 xf0 xf1 xf2 xl
      go_loopw [6, 7] (fun x y wr => ∃ (p q : Int), x = .int .i64 p ∧ y = .int .i64 q ∧ 0 ≤ p ∧ 0 ≤ q ∧ (Int.gcd p q : Int) = g ∧ Bl w2 wr) (fun _ y _ => (intOf y).toNat)
      case atStart => exact ⟨_, _, rfl, rfl, by omega, by omega, HG.out, Bl.refl _⟩
      case round =>
        obtain ⟨p, q, rfl, rfl, hp, hq, hg, hB⟩ := hrel
        have HG2 := hideP hg
        clear hg
        by_cases h : 0 < q
        · have hq0 : (q == 0) = false := by simpa using (show q ≠ 0 by omega)
          go_wp2
          go_quiet (fail)
          go_wp2
          go_roundw
          case rel => exact ⟨q, p % q, rfl, rfl, hq, Int.emod_nonneg _ (by omega), by rw [gcd_step p q hp h]; exact HG2.out, hB.trans (drewN_bl _ _)⟩
          case measure =>
            have := Int.emod_nonneg p (show q ≠ 0 by omega)
            have := Int.emod_lt_of_pos p h
            simp [intOf]
            omega
        · obtain rfl : q = 0 := by omega
          obtain rfl : g = p := by rw [← HG2.out, Int.gcd_zero]; omega
          have H3 := hideP hB
          clear hB
          rename_i wr _
          go_wp2_with fail
          have wne := wl_ne wr
          obtain ⟨x0, x1, x2⟩ := (X2.out.later H3.out).wl
          try dsimp only at x0 x1 x2
          refine wl_region wr (Bl.refl _) (by kernel_rfl) (by kernel_rfl) ?_
          repeat (go_big_quiet_step (first | ((go_at_call_of 16 #[Value.int .i64 (wrap64 (-(n.tdiv g)))]); exact wl_call (S1.out _)) | ((go_at_call_of 16 #[Value.int .i64 (wrap64 (-(d.tdiv g)))]); exact wl_call (S2.out _)) | ((go_at_call 11); exact wl_call (WR.out _)) | ((go_at_call 12); exact wl_call (AW.out _))))
          refine wpQuiet_nil ?_
          intro _ hw'
          obtain ⟨z, hw''⟩ := hw'
          subst hw''
          clear wne
          obtain ⟨w4, h4⟩ := z
          dsimp only
          have H4 := hideP h4
          clear h4
          clear x0 x1 x2
          go_wp2
          go_ret
          exact ⟨rfl, (((H1.out.trans H2.out).trans H3.out).trans H4.out)⟩
theorem walk_FracNew (n d : Int) (w : World) :
    Calls Try.prog 3 #[.int .i64 n, .int .i64 d] w fun e w' => e = .returned (.bool true) ∧ Bl w w' := by
  by_cases h : -1152921504606846976 ≤ n ∧ n ≤ 1152921504606846976 ∧ -1152921504606846976 ≤ d ∧ d ≤ 1152921504606846976 ∧ d ≠ 0
  · obtain ⟨h1, h2, h3, h4, h5⟩ := h
    cases hr : lowR n d with
    | mk rn rd rb =>
    rcases (by omega : d < 0 ∨ 0 < d) with hd | hd
    · cases rb
      · exact new_neg_fine n d h1 h2 h3 h4 hd w rn rd hr
      · by_cases hn : -n < n
        · exact new_neg_bad n d n (.inl ⟨rfl, hn⟩) h1 h2 h3 h4 hd w (by rw [hr])
        · exact new_neg_bad n d (-n) (.inr ⟨rfl, hn⟩) h1 h2 h3 h4 hd w (by rw [hr])
    · cases rb
      · exact new_pos_fine n d h1 h2 h3 h4 hd w rn rd hr
      · by_cases hn : n < -n
        · exact new_pos_bad n d (-n) (.inl ⟨rfl, hn⟩) h1 h2 h3 h4 hd w (by rw [hr])
        · exact new_pos_bad n d n (.inr ⟨rfl, hn⟩) h1 h2 h3 h4 hd w (by rw [hr])
  · refine new_out n d w ?_
    by_cases h5 : d = 0
    · subst h5
      simp
      omega
    · have : (d == 0) = false := by simpa using h5
      rw [this]
      omega
end Go.Proofs.Ytoibkkiohpnaaaa
