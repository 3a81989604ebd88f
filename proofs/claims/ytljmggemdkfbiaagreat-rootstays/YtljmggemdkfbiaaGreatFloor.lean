/- The contract of wide.floorRoot. -/
import Derived.Test.YtljmggemdkfbiaaGreatCmp
namespace Go.Proofs.YtljmggemdkfbiaaGreat
open Go.RowKit
set_option linter.unusedSimpArgs false
set_option linter.unusedVariables false

theorem half_step (r D : Int) (i : Nat) (hi : i < 62) (hD : D = 2 ^ (61 - i)) (hr0 : 0 ≤ r) (hrm : r % 2 ^ (62 - i) = 0) (hr3 : r + 2 ^ (62 - i) ≤ 4611686018427387904) :
    (2 : Int) ^ (62 - i) = D + D ∧ 1 ≤ D ∧ r % D = 0 ∧ (r + D) % D = 0 ∧ bits .or .u64 r (IntKind.u64.wrap (2 ^ (61 - i))) = r + D := by
  have e : (2 : Int) ^ (62 - i) = D + D := by
    rw [show 62 - i = (61 - i) + 1 from by omega, Int.pow_succ, ← hD]; omega
  have hp : (0 : Int) < D := by rw [hD]; exact Int.pow_pos (by decide)
  have hd : D ∣ r := by
    have h1 : (D + D) ∣ r := by rw [← e]; exact Int.dvd_of_emod_eq_zero hrm
    obtain ⟨c, hc⟩ := h1
    exact ⟨2 * c, by rw [hc, Int.add_mul, ← Int.mul_assoc, Int.mul_comm D 2]; rw [Int.mul_assoc]; omega⟩
  refine ⟨e, by omega, Int.emod_eq_zero_of_dvd hd, ?_, ?_⟩
  · exact Int.emod_eq_zero_of_dvd (Int.dvd_add hd (Int.dvd_refl D))
  · rw [e] at hr3
    rw [← hD]
    have hw : IntKind.u64.wrap D = D := by rw [IntKind.wrap_u64]; omega
    rw [hw]
    have e64 : (2 : Int) ^ 64 = 18446744073709551616 := by decide
    refine bits_join .u64 64 (by decide) (fun n h h' => ?_) (62 - i) r D hr0 hrm (by omega) (by omega) (by omega) (by omega)
    rw [IntKind.wrap_u64]
    rw [e64] at h'
    omega

set_option maxHeartbeats 1000000 in
theorem floorRoot_any (p : Int) (w : World) (h0 : 0 ≤ p) (h1 : p ≤ 21267647932558653957237540927630737409) :
    Calls Tryz.prog 221 #[wd p] w fun e w' => (∃ r : Int, e = .returned (.int .u64 r) ∧ 0 ≤ r ∧ r * r ≤ p ∧ p < (r + 1) * (r + 1)) ∧ Bl w w' := by
  unfold wd
  have hpw : U64 (p / 18446744073709551616) := hi_word ⟨h0, h1⟩
  go_enter Tryz.func221, Tryz.ntmps221
  go_wp2_with fail
  go_loopw [3, 6] (fun a b wr => ∃ (r : Int) (i : Nat), a = .int .u64 r ∧ b = .int .i64 i ∧ i ≤ 62 ∧ 0 ≤ r ∧ r % 2 ^ (62 - i) = 0 ∧ r * r ≤ p ∧ p < (r + 2 ^ (62 - i)) * (r + 2 ^ (62 - i)) ∧ r + 2 ^ (62 - i) ≤ 4611686018427387904 ∧ Bl (w.alloc (.cells #[.int .u64 (p / 18446744073709551616), .int .u64 (p % 18446744073709551616)] 175)) wr) (fun _ b _ => 62 - (intOf b).toNat)
  case atStart =>
    have e62 : (2 : Int) ^ 62 = 4611686018427387904 := by decide
    refine ⟨0, 0, rfl, rfl, by omega, by omega, by simp, by simpa using h0, ?_, ?_, Bl.refl _⟩
    · rw [show 62 - 0 = 62 from rfl, e62]; omega
    · rw [show 62 - 0 = 62 from rfl, e62]; omega
  case round =>
    obtain ⟨r, i, rfl, rfl, hi, hr0, hrm, hr1, hr2, hr3, hB⟩ := hrel
    have g0 := bl_cell hB w.heap.size 0 (by simp)
    have g1 := bl_cell hB w.heap.size 1 (by simp)
    simp [go_sem] at g0 g1
    have hsz : w.heap.size < _ := Nat.lt_of_lt_of_le (by simp : w.heap.size < (w.alloc (.cells #[.int .u64 (p / 18446744073709551616), .int .u64 (p % 18446744073709551616)] 175)).heap.size) hB.size
    have keep : ∀ W, Bl wr W → W.cell? ⟨w.heap.size, 0, none⟩ = some (.int .u64 (p / 18446744073709551616)) ∧ W.cell? ⟨w.heap.size, 1, none⟩ = some (.int .u64 (p % 18446744073709551616)) :=
      fun W h => ⟨(bl_cell h _ _ hsz).trans g0, (bl_cell h _ _ hsz).trans g1⟩
    have KP : Hid _ := keep
    clear keep
    by_cases hlt : i < 62
    · obtain ⟨D, hD⟩ : ∃ D : Int, D = 2 ^ (61 - i) := ⟨_, rfl⟩
      obtain ⟨eD, D1, m1, m2, hor⟩ := half_step r D i hlt hD hr0 hrm hr3
      rw [eD] at hr2 hr3
      have hm : U64 (r + D) := by unfold U64; omega
      have hmm := hi_word (mul_hi (x := r + D) (y := r + D) (by omega) (by omega))
      have hmm0 := (mul_hi (x := r + D) (y := r + D) (by omega) (by omega)).1
      have HD : Hid (D = 2 ^ (61 - i)) := hD
      have nx : 62 - (i + 1) = 61 - i := by omega
      have HN : Hid (62 - (i + 1) = 61 - i) := nx
      have Hm1 : Hid (r % D = 0) := m1
      have Hm2 : Hid ((r + D) % D = 0) := m2
      have Hr2 : Hid (p < (r + (D + D)) * (r + (D + D))) := hr2
      have C := cmpI_three ((r + D) * (r + D)) p
      have O := order_ex ((r + D) * (r + D)) p
      have T := times_ex (r + D) (r + D) hm hm
      unfold wd at O T
      clear hD hrm eD nx m1 m2 hr2
      have hC : (cmpI ((r + D) * (r + D)) p ≤ 0 ∧ (r + D) * (r + D) ≤ p) ∨ (0 < cmpI ((r + D) * (r + D)) p ∧ p < (r + D) * (r + D)) := by
        rcases C with ⟨a, b⟩ | ⟨a, b⟩ | ⟨a, b⟩ <;> rw [b] <;> omega
      generalize hq : cmpI ((r + D) * (r + D)) p = q at *
      have HO : Hid _ := O
      have HT : Hid _ := T
      clear O T C hq
      generalize hmr : r + D = m at *
      have HMR : Hid (r + D = m) := hmr
      clear hmr
      rcases hC with ⟨hc1, hc2⟩ | ⟨hc1, hc2⟩
      · go_wp2_with fail
        go_region_held3 (fun w' => w'.cell? ⟨w.heap.size, 0, none⟩ = some (.int .u64 (p / 18446744073709551616)) ∧ w'.cell? ⟨w.heap.size, 1, none⟩ = some (.int .u64 (p % 18446744073709551616))) (exact KP.out _ (by repeat (first | exact Bl.refl _ | apply Bl.drew | apply Bl.alloc)))
          (first
            | (go_at_call 159; refine (HT.out _).mono ?_; rintro e w' ⟨rfl, o, rfl⟩)
            | (go_at_call 222; refine (HO.out _ hmm hpw).mono ?_; rintro e w' ⟨rfl, o1, o2, o3, rfl⟩))
        go_wp2
        go_roundw
        case rel =>
          refine ⟨m, i + 1, rfl, by go_num, by omega, by have := HMR.out; omega, ?_, hc2, ?_, ?_, ?_⟩
          · rw [HN.out, ← HD.out]; exact Hm2.out
          · rw [HN.out, ← HD.out, show m + D = r + (D + D) from by have := HMR.out; omega]; exact Hr2.out
          · rw [HN.out, ← HD.out]; have := HMR.out; omega
          · exact hB.trans (by repeat (first | exact Bl.refl _ | apply Bl.drew | apply Bl.alloc))
        case measure => simp [intOf]; omega
      · go_wp2_with fail
        go_region_held3 (fun w' => w'.cell? ⟨w.heap.size, 0, none⟩ = some (.int .u64 (p / 18446744073709551616)) ∧ w'.cell? ⟨w.heap.size, 1, none⟩ = some (.int .u64 (p % 18446744073709551616))) (exact KP.out _ (by repeat (first | exact Bl.refl _ | apply Bl.drew | apply Bl.alloc)))
          (first
            | (go_at_call 159; refine (HT.out _).mono ?_; rintro e w' ⟨rfl, o, rfl⟩)
            | (go_at_call 222; refine (HO.out _ hmm hpw).mono ?_; rintro e w' ⟨rfl, o1, o2, o3, rfl⟩))
        go_wp2
        go_roundw
        case rel =>
          refine ⟨r, i + 1, rfl, by go_num, by omega, hr0, ?_, hr1, ?_, ?_, ?_⟩
          · rw [HN.out, ← HD.out]; exact Hm1.out
          · rw [HN.out, ← HD.out, HMR.out]; exact hc2
          · rw [HN.out, ← HD.out]; omega
          · exact hB.trans (by repeat (first | exact Bl.refl _ | apply Bl.drew | apply Bl.alloc))
        case measure => simp [intOf]; omega
    · have e : i = 62 := by omega
      subst e
      go_wp2
      go_ret
      refine ⟨⟨r, rfl, hr0, hr1, ?_⟩, ((Bl.refl _).alloc _).trans hB⟩
      simpa using hr2
end Go.Proofs.YtljmggemdkfbiaaGreat
