/- Contracts of frac's Of, Neg, Sign, floorRoot (layer 4). -/
import Derived.Test.YtljmggemdkfbiaaGreatFr4
namespace Go.Proofs.YtljmggemdkfbiaaGreat
open Go.RowKit
set_option linter.unusedSimpArgs false
set_option linter.unusedVariables false

/-- The world behind the box of one fraction, and of another one that is yet to be told. -/
structure TwoR (w W : World) (a : Fr) : Prop where
  eq : W = (w.alloc (.cells #[.int .i64 a.n, .int .i64 a.d, .bool a.bad] 34)).alloc (.cells #[.int .i64 0, .int .i64 0, .bool false] 34)
  bl : Bl w W
  ba : FBox W w.heap.size a
  bz : FBox W (w.heap.size + 1) zeroR
  size : W.heap.size = w.heap.size + 1 + 1
theorem twoR_ex (w : World) (a : Fr) : ∃ W, TwoR w W a := by
  refine ⟨_, rfl, ((Bl.refl _).alloc _).alloc _, (FBox.new w a 34).later ((Bl.refl _).alloc _), ?_, by simp⟩
  have := FBox.new (w.alloc (.cells #[.int .i64 a.n, .int .i64 a.d, .bool a.bad] 34)) zeroR 34
  simpa [zeroR] using this

theorem rof_any (a : Fr) (n : Int) (w : World) :
    Calls Tryz.prog 189 #[frV a, .int .i64 n] w fun e w' => e = .returned (frV (newR n 1)) ∧ Bl w w' := by
  obtain ⟨W, X⟩ := twoR_ex w a
  have HX := hideP X
  clear X
  have T := hideP (new_any n 1)
  generalize newR n 1 = r at *
  go_enter Tryz.func189, Tryz.ntmps189
  go_wp2_with fail
  rw [← HX.out.eq]
  refine (T.out _).mono ?_
  rintro e w1 ⟨rfl, h1⟩
  obtain ⟨c0, c1, c2, f0, f1, f2, lt⟩ := HX.out.bz.later h1
  go_wp2
  simp [bodyPost, results, Tryz.results189, go_sem, c0, c1, c2]
  exact Bl.set3 (HX.out.bl.trans h1) (by omega) _ _ _

def signR (a : Fr) : Int := if fineR a then cmpI a.n 0 else 0
theorem rsign_any (a : Fr) (w : World) :
    Calls Tryz.prog 191 #[frV a] w fun e w' => e = .returned (.int .i64 (signR a)) ∧ Bl w w' := by
  obtain ⟨W, X⟩ := oneA_ex w a
  have HX := hideP X
  clear X
  have T := hideP (fineR_any a)
  unfold signR
  cases hf : fineR a
  · rw [hf] at T
    go_enter Tryz.func191, Tryz.ntmps191
    go_wp2_with fail
    rw [← HX.out.eq]
    refine (T.out _).mono ?_
    rintro e w1 ⟨rfl, h1⟩
    go_wp2
    go_ret
    exact ⟨rfl, HX.out.bl.trans h1⟩
  · rw [hf] at T
    have C := hideP (cmpInt_any a.n 0)
    generalize cmpI a.n 0 = c at *
    go_enter Tryz.func191, Tryz.ntmps191
    go_wp2_with fail
    rw [← HX.out.eq]
    refine (T.out _).mono ?_
    rintro e w1 ⟨rfl, h1⟩
    obtain ⟨c0, c1, c2, f0, f1, f2, lt⟩ := HX.out.ba.later h1
    go_wp2_with fail
    refine (C.out _).mono ?_
    rintro e w2 ⟨rfl, rfl⟩
    go_wp2
    go_ret
    exact ⟨rfl, HX.out.bl.trans h1⟩

def zR : Fr := ⟨0, 1, false⟩
theorem new01 : newR 0 1 = zR := by
  unfold newR lowR
  rw [if_pos (by decide), if_neg (by decide), Rat.zero_divInt]
  rfl
theorem rof0 (a : Fr) (w : World) : Calls Tryz.prog 189 #[frV a, .int .i64 0] w fun e w' => e = .returned (frV zR) ∧ Bl w w' := by
  have := rof_any a 0 w
  rwa [new01] at this
def negR (a : Fr) : Fr := subR zR a
theorem rneg_any (a : Fr) (w : World) :
    Calls Tryz.prog 188 #[frV a] w fun e w' => e = .returned (frV (negR a)) ∧ Bl w w' := by
  obtain ⟨W, X⟩ := twoR_ex w a
  have HX := hideP X
  have KP := hideP (fun w' (h : Bl W w') => (⟨(X.ba.later h).c0, (X.ba.later h).c1, (X.ba.later h).c2, (X.bz.later h).f0, (X.bz.later h).f1, (X.bz.later h).f2, (X.bz.later h).c0, (X.bz.later h).c1, (X.bz.later h).c2⟩ :
    w'.cell? ⟨w.heap.size, 0, none⟩ = some (.int .i64 a.n) ∧ w'.cell? ⟨w.heap.size, 1, none⟩ = some (.int .i64 a.d) ∧ w'.cell? ⟨w.heap.size, 2, none⟩ = some (.bool a.bad) ∧ w'.frozen? ⟨w.heap.size + 1, 0, none⟩ = false ∧ w'.frozen? ⟨w.heap.size + 1, 1, none⟩ = false ∧ w'.frozen? ⟨w.heap.size + 1, 2, none⟩ = false ∧ w'.cell? ⟨w.heap.size + 1, 0, none⟩ = some (.int .i64 0) ∧ w'.cell? ⟨w.heap.size + 1, 1, none⟩ = some (.int .i64 0) ∧ w'.cell? ⟨w.heap.size + 1, 2, none⟩ = some (.bool false)))
  clear X
  have T := hideP (rsub_any zR a)
  unfold negR
  generalize subR zR a = r at *
  have O := hideP (rof0 a)
  go_enter Tryz.func188, Tryz.ntmps188
  go_wp2_with fail
  rw [← HX.out.eq]
  obtain ⟨a0, a1, a2, _, _, _, _⟩ := HX.out.ba
  go_region_with
    (first
      | (go_at_call 189; refine (O.out _).mono ?_; rintro e w1 ⟨rfl, h1⟩; obtain ⟨p0, p1, p2, _⟩ := KP.out _ (Bl.trans (by repeat (first | exact Bl.refl _ | apply Bl.drew)) h1))
      | (go_at_call 192; refine (T.out _).mono ?_; rintro e w2 ⟨rfl, h2⟩; obtain ⟨_, _, _, f0, f1, f2, c0, c1, c2⟩ := KP.out _ (Bl.trans (Bl.trans (by repeat (first | exact Bl.refl _ | apply Bl.drew)) h1) h2)))
  all_goals
    go_wp2
    simp [bodyPost, results, Tryz.results188, go_sem, c0, c1, c2]
    exact Bl.set3 (Bl.trans (Bl.trans (by repeat (first | exact HX.out.bl | apply Bl.drew)) h1) h2) (by omega) _ _ _

theorem half16 (r D : Int) (i : Nat) (hi : i < 16) (hD : D = 2 ^ (15 - i)) (hr0 : 0 ≤ r) (hrm : r % 2 ^ (16 - i) = 0) (hr3 : r + 2 ^ (16 - i) ≤ 65536) :
    (2 : Int) ^ (16 - i) = D + D ∧ 1 ≤ D ∧ r % D = 0 ∧ (r + D) % D = 0 ∧ bits .or .i64 r (wrap64 (2 ^ (15 - i))) = r + D := by
  have e : (2 : Int) ^ (16 - i) = D + D := by
    rw [show 16 - i = (15 - i) + 1 from by omega, Int.pow_succ, ← hD]; omega
  have hp : (0 : Int) < D := by rw [hD]; exact Int.pow_pos (by decide)
  have hd : D ∣ r := by
    have h1 : (D + D) ∣ r := by rw [← e]; exact Int.dvd_of_emod_eq_zero hrm
    obtain ⟨c, hc⟩ := h1
    exact ⟨2 * c, by rw [hc, Int.add_mul, ← Int.mul_assoc, Int.mul_comm D 2]; rw [Int.mul_assoc]; omega⟩
  refine ⟨e, by omega, Int.emod_eq_zero_of_dvd hd, ?_, ?_⟩
  · exact Int.emod_eq_zero_of_dvd (Int.dvd_add hd (Int.dvd_refl D))
  · rw [e] at hr3
    rw [← hD]
    have hw : wrap64 D = D := IntWalk.wrap64_in _ (by omega)
    rw [hw]
    have e63 : (2 : Int) ^ 62 = 4611686018427387904 := by decide
    refine bits_join .i64 62 (by decide) (fun n h h' => ?_) (16 - i) r D hr0 hrm (by omega) (by omega) (by omega) (by omega)
    rw [e63] at h'
    rw [IntWalk.i64_left]
    have := IntWalk.wrap64_in n (by omega)
    exact this

theorem pow16 : ∀ j : Nat, j ≤ 16 → (2 : Int) ^ j ≤ 65536 := by decide
theorem floorNeg_any (n : Int) (h : n < 0) (w : World) :
    Calls Tryz.prog 197 #[.int .i64 n] w fun e w' => e = .returned (.int .i64 0) ∧ w' = w := by
  go_enter Tryz.func197, Tryz.ntmps197
  go_wp2
  go_loop [3, 6] (fun r i => ∃ k : Nat, k ≤ 16 ∧ r = .int .i64 0 ∧ i = .int .i64 k) (fun _ i => 16 - (intOf i).toNat)
  case atStart => exact ⟨0, by omega, rfl, rfl⟩
  case round =>
    obtain ⟨k, hk, rfl, rfl⟩ := hrel
    by_cases hlt : k < 16
    · obtain ⟨D, hD⟩ : ∃ D : Int, D = 2 ^ (15 - k) := ⟨_, rfl⟩
      have hle : (2 : Int) ^ (16 - k) ≤ 65536 := pow16 _ (by omega)
      obtain ⟨eD, D1, m1, m2, hor⟩ := half16 0 D k hlt hD (by omega) (by simp) (by omega)
      have hor' : bits .or .i64 0 (wrap64 (2 ^ (15 - k))) = D := by rw [hor]; omega
      have hDle : D ≤ 65536 := by omega
      have hsq : 0 ≤ D * D ∧ D * D ≤ 65536 * 65536 := ⟨Int.mul_nonneg (by omega) (by omega), Int.mul_le_mul hDle hDle (by omega) (by decide)⟩
      have hwr : wrap64 (D * D) = D * D := IntWalk.wrap64_in _ (by omega)
      have hno : ¬ D * D ≤ n := by omega
      clear hor m1 m2 eD hle hsq hD D1 hDle
      go_wp2
      go_round
      case rel => exact ⟨k + 1, by omega, rfl, by go_num⟩
      case measure => simp [intOf]; omega
    · obtain rfl : k = 16 := by omega
      go_wp2
      go_ret
      exact ⟨rfl, rfl⟩

theorem floorR_any (n : Int) (h0 : 0 ≤ n) (h1 : n ≤ 1073741824) (w : World) :
    Calls Tryz.prog 197 #[.int .i64 n] w fun e w' => e = .returned (.int .i64 (rtF n)) ∧ w' = w := by
  go_enter Tryz.func197, Tryz.ntmps197
  go_wp2
  go_loop [3, 6] (fun a b => ∃ (r : Int) (i : Nat), a = .int .i64 r ∧ b = .int .i64 i ∧ i ≤ 16 ∧ 0 ≤ r ∧ r % 2 ^ (16 - i) = 0 ∧ r * r ≤ n ∧ n < (r + 2 ^ (16 - i)) * (r + 2 ^ (16 - i)) ∧ r + 2 ^ (16 - i) ≤ 65536) (fun _ i => 16 - (intOf i).toNat)
  case atStart =>
    have e16 : (2 : Int) ^ 16 = 65536 := by decide
    refine ⟨0, 0, rfl, rfl, by omega, by omega, by simp, by simpa using h0, ?_, ?_⟩
    · rw [show 16 - 0 = 16 from rfl, e16]; omega
    · rw [show 16 - 0 = 16 from rfl, e16]; omega
  case round =>
    obtain ⟨r, i, rfl, rfl, hi, hr0, hrm, hr1, hr2, hr3⟩ := hrel
    by_cases hlt : i < 16
    · obtain ⟨D, hD⟩ : ∃ D : Int, D = 2 ^ (15 - i) := ⟨_, rfl⟩
      obtain ⟨eD, D1, m1, m2, hor⟩ := half16 r D i hlt hD hr0 hrm hr3
      rw [eD] at hr2 hr3
      have HD := hideP hD
      have HN := hideP (show 16 - (i + 1) = 15 - i by omega)
      have Hm1 := hideP m1
      have Hm2 := hideP m2
      have Hr2 := hideP hr2
      have Hr1 := hideP hr1
      have hsq : 0 ≤ (r + D) * (r + D) ∧ (r + D) * (r + D) ≤ 65536 * 65536 := ⟨Int.mul_nonneg (by omega) (by omega), Int.mul_le_mul (by omega) (by omega) (by omega) (by decide)⟩
      have hwr : wrap64 ((r + D) * (r + D)) = (r + D) * (r + D) := IntWalk.wrap64_in _ (by omega)
      clear hD hrm eD m1 m2 hr2 hsq hr1
      by_cases hc : (r + D) * (r + D) ≤ n
      · generalize hmr : r + D = m at *
        have HMR := hideP hmr
        clear hmr
        go_wp2
        go_round
        case rel =>
          refine ⟨m, i + 1, rfl, by go_num, by omega, by have := HMR.out; omega, ?_, hc, ?_, ?_⟩
          · rw [HN.out, ← HD.out]; exact Hm2.out
          · rw [HN.out, ← HD.out, show m + D = r + (D + D) from by have := HMR.out; omega]; exact Hr2.out
          · rw [HN.out, ← HD.out]; have := HMR.out; omega
        case measure => simp [intOf]; omega
      · generalize hmr : r + D = m at *
        have HMR := hideP hmr
        clear hmr
        go_wp2
        go_round
        case rel =>
          refine ⟨r, i + 1, rfl, by go_num, by omega, hr0, ?_, Hr1.out, ?_, ?_⟩
          · rw [HN.out, ← HD.out]; exact Hm1.out
          · rw [HN.out, ← HD.out, HMR.out]; omega
          · rw [HN.out, ← HD.out]; omega
        case measure => simp [intOf]; omega
    · obtain rfl : i = 16 := by omega
      have H := root_one n r hr0 hr1 (by simpa using hr2)
      clear hrm hr1 hr2 hr3
      subst H
      go_wp2
      go_ret
      exact ⟨rfl, rfl⟩
def flR (n : Int) : Int := if n < 0 then 0 else rtF n
theorem flR_any (n : Int) (h1 : n ≤ 1073741824) (w : World) :
    Calls Tryz.prog 197 #[.int .i64 n] w fun e w' => e = .returned (.int .i64 (flR n)) ∧ w' = w := by
  unfold flR
  by_cases h : n < 0
  · rw [if_pos h]; exact floorNeg_any n h w
  · rw [if_neg h]; exact floorR_any n (by omega) h1 w
end Go.Proofs.YtljmggemdkfbiaaGreat
