/- The contract of math/bits.Div64. -/
import Derived.Test.YtljmggemdkfbiaaGreatLen
import Derived.Test.YtljmggemdkfbiaaGreatDivM
import Derived.BigQuiet
namespace Go.Proofs.YtljmggemdkfbiaaGreat
open Go.RowKit
set_option linter.unusedSimpArgs false
set_option linter.unusedVariables false

theorem SmallBl (B : Nat) (w : World) (n : Nat) : Below B w (w.drewN n) := ⟨rfl, rfl, rfl, Nat.le_refl _, fun _ _ => rfl⟩
theorem div64_low (lo y : Int) (w : World) (hl : U64 lo) (hy : U64 y) (hlt : 0 < y) :
    Calls Tryz.prog 127 #[.int .u64 0, .int .u64 lo, .int .u64 y] w fun e w' =>
      (e = .returned (.tuple #[.int .u64 (lo / y), .int .u64 (lo % y)])) ∧ Below w.heap.size w w' := by
  obtain ⟨l0, l1⟩ := hl
  obtain ⟨y0, y1⟩ := hy
  have h1 : (y == 0) = false := by simp; omega
  have h2 : ¬ y ≤ 0 := by omega
  go_enter Tryz.func127, Tryz.ntmps127
  go_wp2
  go_quiet (fail)
  go_wp2
  go_ret2
  exact ⟨rfl, SmallBl _ _ _⟩

set_option maxHeartbeats 1000000 in
theorem div64_high (hi lo y : Int) (w : World) (hl : U64 lo) (hy : U64 y) (h0 : 0 < hi) (hlt : hi < y) :
    Calls Tryz.prog 127 #[.int .u64 hi, .int .u64 lo, .int .u64 y] w fun e w' =>
      (e = .returned (.tuple #[.int .u64 ((hi * 18446744073709551616 + lo) / y), .int .u64 ((hi * 18446744073709551616 + lo) % y)])) ∧ Below w.heap.size w w' := by
  obtain ⟨l0, l1⟩ := hl
  obtain ⟨y0, y1⟩ := hy
  have h1 : (y == 0) = false := by simp; omega
  have h2 : ¬ y ≤ hi := by omega
  have h3 : (hi == 0) = false := by simp; omega
  go_enter Tryz.func127, Tryz.ntmps127
  go_wp2_with fail
  refine (lz64_any y _ (by omega) y1).mono ?_
  rintro e w' ⟨⟨s, rfl, hs⟩, rfl⟩
  obtain ⟨k, rfl, hk, b1, b2⟩ := hs
  have hp : (0 : Int) < 2 ^ k := Int.pow_pos (by decide)
  have n1 : 0 ≤ hi * 2 ^ k := Int.mul_nonneg (by omega) (by omega)
  have n2 : hi * 2 ^ k + 2 ^ k ≤ y * 2 ^ k := by
    have := Int.mul_le_mul_of_nonneg_right (show hi + 1 ≤ y by omega) (Int.le_of_lt hp)
    rw [Int.add_mul, Int.one_mul] at this; exact this
  have hor := or_words hi lo k (by omega) (by omega) (by omega) l0 l1
  obtain ⟨n3, n4⟩ := up_low lo k (by omega) l0 l1
  have hwd := up_words lo k (by omega)
  have hUV : (hi * 18446744073709551616 + lo) * 2 ^ k = (hi * 2 ^ k + lo / 2 ^ (64 - k)) * 18446744073709551616 + IntKind.u64.wrap (lo * 2 ^ k) := by
    rw [IntKind.wrap_u64, Int.add_mul, Int.add_mul, Int.mul_assoc, Int.mul_comm 18446744073709551616 (2 ^ k), ← Int.mul_assoc, hwd]
    omega
  have hV : 0 ≤ IntKind.u64.wrap (lo * 2 ^ k) ∧ IntKind.u64.wrap (lo * 2 ^ k) < 18446744073709551616 := by rw [IntKind.wrap_u64]; omega
  rw [← hor] at hUV
  have hU : 0 ≤ bits .or .u64 (hi * 2 ^ k) (lo / 2 ^ (64 - k)) ∧ bits .or .u64 (hi * 2 ^ k) (lo / 2 ^ (64 - k)) < y * 2 ^ k := by rw [hor]; omega
  have HH : Hid ((hi * 18446744073709551616 + lo) * 2 ^ k = bits .or .u64 (hi * 2 ^ k) (lo / 2 ^ (64 - k)) * 18446744073709551616 + IntKind.u64.wrap (lo * 2 ^ k)) := hUV
  clear hUV hwd hor n4
  have hYa := and_low32 (y * 2 ^ k) (by omega) b1
  have hVa := and_low32 (IntKind.u64.wrap (lo * 2 ^ k)) hV.1 hV.2
  have hw1 : IntKind.u64.wrap (hi * 2 ^ k) = hi * 2 ^ k := by rw [IntKind.wrap_u64]; omega
  clear n3 n1 n2
  generalize gY : y * 2 ^ k = Y at *
  generalize gU : bits .or .u64 (hi * 2 ^ k) (lo / 2 ^ (64 - k)) = U at *
  generalize gV : IntKind.u64.wrap (lo * 2 ^ k) = V at *
  obtain ⟨U0, U1⟩ := hU
  obtain ⟨V0, V1⟩ := hV
  have HY : Hid (Y = Y / 4294967296 * 4294967296 + Y % 4294967296) := by show _ = _; omega
  have HV : Hid (V = V / 4294967296 * 4294967296 + V % 4294967296) := by show _ = _; omega
  have a1 : 2147483648 ≤ Y / 4294967296 ∧ Y / 4294967296 < 4294967296 := by omega
  have a0 : 0 ≤ Y % 4294967296 ∧ Y % 4294967296 < 4294967296 := by omega
  have c1 : 0 ≤ V / 4294967296 ∧ V / 4294967296 < 4294967296 := by omega
  have c0 : 0 ≤ V % 4294967296 ∧ V % 4294967296 < 4294967296 := by omega
  generalize gy1 : Y / 4294967296 = y1 at *
  generalize gy0 : Y % 4294967296 = y0 at *
  generalize gv1 : V / 4294967296 = v1 at *
  generalize gv0 : V % 4294967296 = v0 at *
  obtain ⟨a1, a1'⟩ := a1
  obtain ⟨a0, a0'⟩ := a0
  obtain ⟨c1, c1'⟩ := c1
  obtain ⟨c0, c0'⟩ := c0
  obtain ⟨Q1, R1, D1⟩ := digit_mk (U := U) (d := v1) HY.out a0 a0' a1 a1' c1 c1' U0 U1
  obtain ⟨Q0, R0, D0⟩ := digit_mk (U := R1) (d := v0) HY.out a0 a0' a1 a1' c0 c0' D1.Rn D1.Rl
  have fin := two_digits (by omega) gY HH.out HV.out D1 D0
  have HF : Hid ((hi * 18446744073709551616 + lo) / y = Q1 * 4294967296 + Q0 ∧ (hi * 18446744073709551616 + lo) % y = R0 / 2 ^ k) := fin
  clear fin HY HV HH
  obtain ⟨f1, f2, f3, f4, f5⟩ := D1.first
  obtain ⟨s1, s2, s3, s4, s5⟩ := D0.first
  have rR1 := D1.rest b1
  have rR0 := D0.rest b1
  have q1n := D1.Qn
  have q1l := D1.Ql
  have q0n := D0.Qn
  have q0l := D0.Ql
  have r1n := D1.Rn
  have r1l := D1.Rl
  have r0n := D0.Rn
  have r0l := D0.Rl
  generalize gq : U / y1 = qq at *
  generalize gp : R1 / y1 = pp at *
  go_wp2_with fail
  clear gU gV gy0 gv1 gv0 hYa hVa hw1
  go_loop [15, 16] (fun a b => ∃ q r : Int, a = .int .u64 q ∧ b = .int .u64 r ∧ r = U - q * y1 ∧ 0 ≤ r ∧ r < 4294967296 ∧ Q1 ≤ q ∧ q ≤ 4294967297) (fun a _ => (intOf a).toNat)
  case atStart => exact ⟨qq, U - qq * y1, by rw [← gq], by rw [← gq], rfl, by omega, by omega, f1, f2⟩
  case round =>
    clear f1 f2 f3 f4 f5
    obtain ⟨q, r, rfl, rfl, hr, hr0, hr1, hq1, hq2⟩ := hrel
    have HR : Hid (r = U - q * y1) := hr
    clear hr
    by_cases hb : 4294967296 ≤ q
    · have hm := D1.more q r HR.out hq1 (.inl hb)
      have HR' : Hid (r + y1 = U - (q - 1) * y1) := by show _ = _; rw [Int.sub_mul, Int.one_mul]; have := HR.out; omega
      by_cases hbr : 4294967296 ≤ r + y1
      · have hd := D1.broke (q - 1) (r + y1) HR'.out hm (by omega) hbr
        go_wp2_with fail
        clear hq1 hq2 hr0 hr1 hb
        try clear hm hbr hc
        go_loop [18, 16] (fun a b => ∃ q r : Int, a = .int .u64 q ∧ b = .int .u64 r ∧ r = R1 - q * y1 ∧ 0 ≤ r ∧ r < 4294967296 ∧ Q0 ≤ q ∧ q ≤ 4294967297) (fun a _ => (intOf a).toNat)
        case atStart => exact ⟨pp, R1 - pp * y1, rfl, rfl, rfl, by omega, by omega, s1, s2⟩
        case round =>
          obtain ⟨q, r, rfl, rfl, hr, hr0, hr1, hq1, hq2⟩ := hrel
          have HR : Hid (r = R1 - q * y1) := hr
          clear hr
          by_cases hb : 4294967296 ≤ q
          · have hm := D0.more q r HR.out hq1 (.inl hb)
            have HR' : Hid (r + y1 = R1 - (q - 1) * y1) := by show _ = _; rw [Int.sub_mul, Int.one_mul]; have := HR.out; omega
            by_cases hbr : 4294967296 ≤ r + y1
            · have hd := D0.broke (q - 1) (r + y1) HR'.out hm (by omega) hbr
              go_wp2
              go_ret2
              refine ⟨?_, Below.refl _ _⟩
              rw [HF.out.1, HF.out.2]
              rfl
            · go_wp2
              go_round
              case rel => exact ⟨q - 1, r + y1, rfl, rfl, HR'.out, by omega, by omega, hm, by omega⟩
              case measure => simp [intOf]; omega
          · obtain ⟨m0, m1⟩ := D0.q_mul q (by omega) (by omega)
            by_cases hc : 4294967296 * r + v0 < q * y0
            · have hm := D0.more q r HR.out hq1 (.inr hc)
              have HR' : Hid (r + y1 = R1 - (q - 1) * y1) := by show _ = _; rw [Int.sub_mul, Int.one_mul]; have := HR.out; omega
              by_cases hbr : 4294967296 ≤ r + y1
              · have hd := D0.broke (q - 1) (r + y1) HR'.out hm (by omega) hbr
                go_wp2
                go_ret2
                refine ⟨?_, Below.refl _ _⟩
                rw [HF.out.1, HF.out.2]
                rfl
              · go_wp2
                go_round
                case rel => exact ⟨q - 1, r + y1, rfl, rfl, HR'.out, by omega, by omega, hm, by omega⟩
                case measure => simp [intOf]; omega
            · have hd := D0.done q r HR.out hq1 hc
              subst hd
              go_wp2
              go_ret2
              refine ⟨?_, Below.refl _ _⟩
              rw [HF.out.1, HF.out.2]
              rfl
      · go_wp2
        go_round
        case rel => exact ⟨q - 1, r + y1, rfl, rfl, HR'.out, by omega, by omega, hm, by omega⟩
        case measure => simp [intOf]; omega
    · obtain ⟨m0, m1⟩ := D1.q_mul q (by omega) (by omega)
      by_cases hc : 4294967296 * r + v1 < q * y0
      · have hm := D1.more q r HR.out hq1 (.inr hc)
        have HR' : Hid (r + y1 = U - (q - 1) * y1) := by show _ = _; rw [Int.sub_mul, Int.one_mul]; have := HR.out; omega
        by_cases hbr : 4294967296 ≤ r + y1
        · have hd := D1.broke (q - 1) (r + y1) HR'.out hm (by omega) hbr
          go_wp2_with fail
          clear hq1 hq2 hr0 hr1 hb
          try clear hm hbr hc
          go_loop [18, 16] (fun a b => ∃ q r : Int, a = .int .u64 q ∧ b = .int .u64 r ∧ r = R1 - q * y1 ∧ 0 ≤ r ∧ r < 4294967296 ∧ Q0 ≤ q ∧ q ≤ 4294967297) (fun a _ => (intOf a).toNat)
          case atStart => exact ⟨pp, R1 - pp * y1, rfl, rfl, rfl, by omega, by omega, s1, s2⟩
          case round =>
            obtain ⟨q, r, rfl, rfl, hr, hr0, hr1, hq1, hq2⟩ := hrel
            have HR : Hid (r = R1 - q * y1) := hr
            clear hr
            by_cases hb : 4294967296 ≤ q
            · have hm := D0.more q r HR.out hq1 (.inl hb)
              have HR' : Hid (r + y1 = R1 - (q - 1) * y1) := by show _ = _; rw [Int.sub_mul, Int.one_mul]; have := HR.out; omega
              by_cases hbr : 4294967296 ≤ r + y1
              · have hd := D0.broke (q - 1) (r + y1) HR'.out hm (by omega) hbr
                go_wp2
                go_ret2
                refine ⟨?_, Below.refl _ _⟩
                rw [HF.out.1, HF.out.2]
                rfl
              · go_wp2
                go_round
                case rel => exact ⟨q - 1, r + y1, rfl, rfl, HR'.out, by omega, by omega, hm, by omega⟩
                case measure => simp [intOf]; omega
            · obtain ⟨m0, m1⟩ := D0.q_mul q (by omega) (by omega)
              by_cases hc : 4294967296 * r + v0 < q * y0
              · have hm := D0.more q r HR.out hq1 (.inr hc)
                have HR' : Hid (r + y1 = R1 - (q - 1) * y1) := by show _ = _; rw [Int.sub_mul, Int.one_mul]; have := HR.out; omega
                by_cases hbr : 4294967296 ≤ r + y1
                · have hd := D0.broke (q - 1) (r + y1) HR'.out hm (by omega) hbr
                  go_wp2
                  go_ret2
                  refine ⟨?_, Below.refl _ _⟩
                  rw [HF.out.1, HF.out.2]
                  rfl
                · go_wp2
                  go_round
                  case rel => exact ⟨q - 1, r + y1, rfl, rfl, HR'.out, by omega, by omega, hm, by omega⟩
                  case measure => simp [intOf]; omega
              · have hd := D0.done q r HR.out hq1 hc
                subst hd
                go_wp2
                go_ret2
                refine ⟨?_, Below.refl _ _⟩
                rw [HF.out.1, HF.out.2]
                rfl
        · go_wp2
          go_round
          case rel => exact ⟨q - 1, r + y1, rfl, rfl, HR'.out, by omega, by omega, hm, by omega⟩
          case measure => simp [intOf]; omega
      · have hd := D1.done q r HR.out hq1 hc
        subst hd
        go_wp2_with fail
        clear hq1 hq2 hr0 hr1 hb
        try clear hm hbr hc
        go_loop [18, 16] (fun a b => ∃ q r : Int, a = .int .u64 q ∧ b = .int .u64 r ∧ r = R1 - q * y1 ∧ 0 ≤ r ∧ r < 4294967296 ∧ Q0 ≤ q ∧ q ≤ 4294967297) (fun a _ => (intOf a).toNat)
        case atStart => exact ⟨pp, R1 - pp * y1, rfl, rfl, rfl, by omega, by omega, s1, s2⟩
        case round =>
          obtain ⟨q, r, rfl, rfl, hr, hr0, hr1, hq1, hq2⟩ := hrel
          have HR : Hid (r = R1 - q * y1) := hr
          clear hr
          by_cases hb : 4294967296 ≤ q
          · have hm := D0.more q r HR.out hq1 (.inl hb)
            have HR' : Hid (r + y1 = R1 - (q - 1) * y1) := by show _ = _; rw [Int.sub_mul, Int.one_mul]; have := HR.out; omega
            by_cases hbr : 4294967296 ≤ r + y1
            · have hd := D0.broke (q - 1) (r + y1) HR'.out hm (by omega) hbr
              go_wp2
              go_ret2
              refine ⟨?_, Below.refl _ _⟩
              rw [HF.out.1, HF.out.2]
              rfl
            · go_wp2
              go_round
              case rel => exact ⟨q - 1, r + y1, rfl, rfl, HR'.out, by omega, by omega, hm, by omega⟩
              case measure => simp [intOf]; omega
          · obtain ⟨m0, m1⟩ := D0.q_mul q (by omega) (by omega)
            by_cases hc : 4294967296 * r + v0 < q * y0
            · have hm := D0.more q r HR.out hq1 (.inr hc)
              have HR' : Hid (r + y1 = R1 - (q - 1) * y1) := by show _ = _; rw [Int.sub_mul, Int.one_mul]; have := HR.out; omega
              by_cases hbr : 4294967296 ≤ r + y1
              · have hd := D0.broke (q - 1) (r + y1) HR'.out hm (by omega) hbr
                go_wp2
                go_ret2
                refine ⟨?_, Below.refl _ _⟩
                rw [HF.out.1, HF.out.2]
                rfl
              · go_wp2
                go_round
                case rel => exact ⟨q - 1, r + y1, rfl, rfl, HR'.out, by omega, by omega, hm, by omega⟩
                case measure => simp [intOf]; omega
            · have hd := D0.done q r HR.out hq1 hc
              subst hd
              go_wp2
              go_ret2
              refine ⟨?_, Below.refl _ _⟩
              rw [HF.out.1, HF.out.2]
              rfl
end Go.Proofs.YtljmggemdkfbiaaGreat
