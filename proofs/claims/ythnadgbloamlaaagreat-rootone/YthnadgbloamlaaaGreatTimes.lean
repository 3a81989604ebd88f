/- The contracts of the document's Times, Root, Compare. -/
import Derived.Test.YthnadgbloamlaaaGreatBits2
import Derived.Test.YthnadgbloamlaaaGreatBits3
import Derived.Test.YthnadgbloamlaaaGreatRoot
namespace Go.Proofs.YthnadgbloamlaaaGreat
open Go.RowKit
set_option linter.unusedSimpArgs false
set_option linter.unusedVariables false

theorem hideP {p : Prop} (h : p) : Hid p := h
theorem mul_pow_lt {a : Int} (k : Nat) (h0 : 0 ≤ a) (h1 : a ≤ 9223372036854775807) (hk : k ≤ 63) : 0 ≤ a * 2 ^ k ∧ a * 2 ^ k < 680564733841876926926749214863536422912 := by
  have hp := pow_pos2 k
  have h2 : (2 : Int) ^ k ≤ 9223372036854775808 := by
    have : (2 : Nat) ^ k ≤ 2 ^ 63 := Nat.pow_le_pow_right (by decide) hk
    have e : ((2 ^ k : Nat) : Int) ≤ ((2 ^ 63 : Nat) : Int) := by exact_mod_cast this
    simpa using e
  refine ⟨Int.mul_nonneg h0 (by omega), ?_⟩
  have := Int.mul_le_mul h1 h2 (by omega) (by omega : (0 : Int) ≤ 9223372036854775807)
  omega
theorem mul_bd63 {a b : Int} (h0 : 0 ≤ a) (h1 : a ≤ 9223372036854775807) (k0 : 0 ≤ b) (k1 : b ≤ 9223372036854775808) : 0 ≤ a * b ∧ a * b < 680564733841876926926749214863536422912 := by
  refine ⟨Int.mul_nonneg h0 k0, ?_⟩
  have := Int.mul_le_mul h1 k1 k0 (by omega : (0 : Int) ≤ 9223372036854775807)
  omega
theorem take63 (ys : List Int) (h : AllBits ys) (l : ys.length = 130) (hb : bval ys ≤ 9223372036854775807) : bval (ys.take 63) = bval ys := by
  have a := bval_split ys 63 (by omega)
  have b := bval_bd _ (h.take 63)
  have c := bval_bd _ (h.drop 63)
  have e63 : (2 : Int) ^ 63 = 9223372036854775808 := by decide
  rw [e63] at a
  omega
theorem take_bd (ys : List Int) (h : AllBits ys) (l : ys.length = 130) (k : Nat) (hk : k ≤ 63) : 0 ≤ bval (ys.take k) ∧ bval (ys.take k) ≤ 9223372036854775808 := by
  have b := bval_bd _ (h.take k)
  rw [List.length_take, Nat.min_eq_left (by omega)] at b
  have h2 : (2 : Int) ^ k ≤ 9223372036854775808 := by
    have : (2 : Nat) ^ k ≤ 2 ^ 63 := Nat.pow_le_pow_right (by decide) hk
    have e : ((2 ^ k : Nat) : Int) ≤ ((2 ^ 63 : Nat) : Int) := by exact_mod_cast this
    simpa using e
  omega

set_option maxHeartbeats 1000000 in
set_option maxRecDepth 1000000 in
theorem rtimes_any (a b : Int) (w : World) (a0 : 0 ≤ a) (a1 : a ≤ 9223372036854775807) (b0 : 0 ≤ b) (b1 : b ≤ 9223372036854775807) :
    Calls Tryz.prog 187 #[.int .i64 a, .int .i64 b] w fun e w' => ∃ v, e = .returned v ∧ Row w' v (a * b) ∧ Bl w w' := by
  go_enter Tryz.func187, Tryz.ntmps187
  go_wp2_with fail
  refine (bits_any 0 _ (by omega) (by omega)).mono ?_
  rintro e w1 ⟨vo, rfl, ro, h1⟩
  go_wp2_with fail
  refine (bits_any a _ a0 a1).mono ?_
  rintro e w2 ⟨vx, rfl, rx, h2⟩
  have ro := ro.later h2
  go_wp2_with fail
  refine (bits_any b _ b0 b1).mono ?_
  rintro e w3 ⟨vy, rfl, ry, h3⟩
  have ro := ro.later h3
  have rx := rx.later h3
  have hB : Bl w w3 := (h1.trans h2).trans h3
  obtain ⟨yb, oy, cy, ys, rfl, hcy, hyb, ly, ay, hy, celly⟩ := ry
  have CY := hideP celly
  have HY : Hid (bval ys = b) := hy
  have HO := hideP ro
  have HX := hideP rx
  clear celly hy ro rx h1 h2 h3
  go_wp2_with fail
  go_loopw [5, 6, 8] (fun o x i wr => ∃ k : Nat, i = .int .i64 k ∧ k ≤ 63 ∧ Row wr o (a * bval (ys.take k)) ∧ Row wr x (a * 2 ^ k) ∧ Bl w3 wr) (fun _ _ i _ => 63 - (intOf i).toNat)
  case atStart => exact ⟨0, rfl, by omega, by rw [List.take_zero, show bval ([] : List Int) = 0 from rfl, Int.mul_zero]; exact HO.out, by rw [Int.pow_zero, Int.mul_one]; exact HX.out, Bl.refl _⟩
  case round =>
    obtain ⟨k, rfl, hk, hro, hrx, hBr⟩ := hrel
    have HRO := hideP hro
    have HRX := hideP hrx
    clear hro hrx
    by_cases hlt : k < 63
    · have gy := (bl_cell hBr _ (oy + k) hyb).trans (CY.out k (by omega))
      have T := bval_take_succ ys k (by omega)
      have x01 := ay.getD k
      have M1 := mul_pow_lt k a0 a1 hk
      have M2 := mul_pow_lt (k + 1) a0 a1 (by omega)
      have tb := take_bd ys ay ly k hk
      have M3 := mul_bd63 a0 a1 tb.1 tb.2
      have hpw : a * 2 ^ (k + 1) = 2 * (a * 2 ^ k) := by rw [Int.pow_succ, ← Int.mul_assoc, Int.mul_comm]
      generalize ys.getD k 0 = y at *
      have HT : Hid (bval (ys.take (k + 1)) = bval (ys.take k) + 2 ^ k * y) := T
      have HPW : Hid (a * 2 ^ (k + 1) = 2 * (a * 2 ^ k)) := hpw
      clear T hpw
      have hkI : (k : Int) < 63 := by omega
      have hkI2 : (k : Int) < 130 := by omega
      rcases x01 with rfl | rfl
      · go_wp2_with fail
        refine (up_any _ _ 0 _ HRX.out (.inl rfl)).mono ?_
        rintro e w4 ⟨vx', rfl, rx', h4⟩
        have HX' := hideP rx'
        clear rx'
        go_wp2
        go_roundw
        case rel =>
          refine ⟨k + 1, by go_num, by omega, ?_, ?_, hBr.trans h4⟩
          · rw [HT.out, Int.mul_zero, Int.add_zero]; exact HRO.out.later h4
          · have := HX'.out
            rw [HPW.out]
            rw [HPW.out] at M2
            rwa [Int.add_zero, Int.emod_eq_of_lt (by omega) (by omega)] at this
        case measure => simp [intOf]; omega
      · go_wp2_with fail
        refine (add_any _ _ _ _ _ HRO.out HRX.out).mono ?_
        rintro e w4 ⟨vo', rfl, ro', h4⟩
        have HO' := hideP ro'
        clear ro'
        go_wp2_with fail
        refine (up_any _ _ 0 _ (HRX.out.later h4) (.inl rfl)).mono ?_
        rintro e w5 ⟨vx', rfl, rx', h5⟩
        have HX' := hideP rx'
        clear rx'
        go_wp2
        go_roundw
        case rel =>
          refine ⟨k + 1, by go_num, by omega, ?_, ?_, (hBr.trans h4).trans h5⟩
          · have := HO'.out.later h5
            rw [HT.out, Int.mul_one, Int.mul_add]
            rwa [Int.emod_eq_of_lt (by omega) (by omega)] at this
          · have := HX'.out
            rw [HPW.out]
            rw [HPW.out] at M2
            rwa [Int.add_zero, Int.emod_eq_of_lt (by omega) (by omega)] at this
        case measure => simp [intOf]; omega
    · have e : k = 63 := by omega
      subst e
      have hv := take63 ys ay ly (by rw [HY.out]; exact b1)
      rw [HY.out] at hv
      have HV := hideP hv
      clear hv
      go_wp2
      go_ret
      refine ⟨_, rfl, ?_, hB.trans hBr⟩
      rw [← HV.out]
      exact HRO.out
end Go.Proofs.YthnadgbloamlaaaGreat
