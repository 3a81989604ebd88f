/- The contract of wide.MulDiv. -/
import Derived.Test.YtljmggemdkfbiaaGreatCmp
import Derived.Test.YtljmggemdkfbiaaGreatDiv
namespace Go.Proofs.YtljmggemdkfbiaaGreat
open Go.RowKit
set_option linter.unusedSimpArgs false
set_option linter.unusedVariables false

theorem div64_any (p y : Int) (w : World) (hp : 0 ≤ p) (hy : U64 y) (hlt : p / 18446744073709551616 < y) :
    Calls Tryz.prog 127 #[.int .u64 (p / 18446744073709551616), .int .u64 (p % 18446744073709551616), .int .u64 y] w fun e w' =>
      (e = .returned (.tuple #[.int .u64 (p / y), .int .u64 (p % y)])) ∧ Bl w w' := by
  have hl : U64 (p % 18446744073709551616) := ⟨by omega, by omega⟩
  have e : p = p / 18446744073709551616 * 18446744073709551616 + p % 18446744073709551616 := by omega
  rcases (by omega : p / 18446744073709551616 = 0 ∨ 0 < p / 18446744073709551616) with h | h
  · have := div64_low (p % 18446744073709551616) y w hl hy (by omega)
    rw [h]
    rw [h, Int.zero_mul, Int.zero_add] at e
    rw [← e] at this
    rw [← e]
    exact this
  · have := div64_high (p / 18446744073709551616) (p % 18446744073709551616) y w hl hy h hlt
    rw [← e] at this
    exact this

/-- Is a times b by c below 0? -/
def belB (a b c : Int) : Bool := decide (a * b * c < 0)
/-- What is left of a times b by c, without signs, rounded. -/
def mdC (a b c mode : Int) : Int := upI (szI a * szI b / szI c) (outB (szI a * szI b / szI c) (szI a * szI b % szI c) (szI c) (belB a b c) mode)
def mdG (a b c mode : Int) : Bool := rightB a && rightB b && rightB c && !(c == 0) && modeB mode
/-- P1.1: MulDiv. -/
def mdN (a b c mode : Int) : Int := if mdG a b c mode then rdN (mdC a b c mode) (belB a b c) else 0
def mdB (a b c mode : Int) : Bool := mdG a b c mode && rdB (mdC a b c mode)

theorem upI_le (q : Int) (o : Bool) : q ≤ upI q o := by unfold upI; split <;> omega

set_option maxHeartbeats 1000000 in
theorem mulDiv_good (a b c mode : Int) (ha : rightB a = true) (hb : rightB b = true) (hc : rightB c = true) (hz : (c == 0) = false) (hm : modeB mode = true) (w : World) :
    Calls Tryz.prog 124 #[.int .i64 a, .int .i64 b, .int .i64 c, .int .i64 mode] w fun e w' =>
      e = .returned (.tuple #[.int .i64 (rdN (mdC a b c mode) (belB a b c)), .bool (rdB (mdC a b c mode))]) ∧ Bl w w' := by
  have e1 : wrap64 (cmpI a 0 * cmpI b 0) = cmpI (a * b) 0 := by rw [sgn_mul]; exact wrap64_unit (cmpI_bd _ _)
  have e2 : wrap64 (cmpI (a * b) 0 * cmpI c 0) = cmpI (a * b * c) 0 := by rw [sgn_mul]; exact wrap64_unit (cmpI_bd _ _)
  have e3 : decide (cmpI (a * b * c) 0 < 0) = belB a b c := by
    unfold belB
    rcases cmpI_three (a * b * c) 0 with ⟨h, e⟩ | ⟨h, e⟩ | ⟨h, e⟩ <;> rw [e] <;> simp <;> omega
  have hp := mul_hi (szI_right ha) (szI_right hb)
  have hd := szI_right hc
  have hd0 : 0 < szI c := by
    have : c ≠ 0 := by simpa using hz
    unfold szI; split <;> omega
  have ia := right_i64 ha
  have ib := right_i64 hb
  have ic := right_i64 hc
  unfold mdC
  have P := product_any a b ia ib
  have S := size_any c ic
  generalize szI a * szI b = p at *
  generalize szI c = d at *
  generalize belB a b c = bl at *
  have HP : Hid _ := P
  have HS : Hid _ := S
  clear P S
  by_cases hbig : d ≤ p / 18446744073709551616
  · have hq : 4611686018427387903 < p / d := by
      have := (Int.le_ediv_iff_mul_le (c := d) (a := 18446744073709551616) (b := p) hd0).2 (by omega)
      omega
    have hu := upI_le (p / d) (outB (p / d) (p % d) d bl mode)
    have r1 : rdN (upI (p / d) (outB (p / d) (p % d) d bl mode)) bl = 0 := by unfold rdN; rw [if_pos (by omega)]
    have r2 : rdB (upI (p / d) (outB (p / d) (p % d) d bl mode)) = false := by unfold rdB; exact decide_eq_false (by omega)
    rw [r1, r2]
    clear r1 r2 hu hq e1 e2 e3
    go_enter Tryz.func124, Tryz.ntmps124
    go_wp2_with (first
      | (go_at_call 145; refine (right_any _ _).mono ?_; rintro e w' ⟨rfl, rfl⟩)
      | (go_at_call 146; refine (isMode_any _ _).mono ?_; rintro e w' ⟨rfl, rfl⟩))
    refine (HP.out _).mono ?_
    rintro e w1 ⟨rfl, h1⟩
    go_wp2_with fail
    refine (HS.out _).mono ?_
    rintro e w2 ⟨rfl, rfl⟩
    go_wp2
    go_ret2
    exact ⟨rfl, h1.alloc _⟩
  · go_enter Tryz.func124, Tryz.ntmps124
    go_wp2_with (first
      | (go_at_call 145; refine (right_any _ _).mono ?_; rintro e w' ⟨rfl, rfl⟩)
      | (go_at_call 146; refine (isMode_any _ _).mono ?_; rintro e w' ⟨rfl, rfl⟩))
    refine (HP.out _).mono ?_
    rintro e w1 ⟨rfl, h1⟩
    go_wp2_with fail
    refine (HS.out _).mono ?_
    rintro e w2 ⟨rfl, rfl⟩
    go_wp2_with fail
    refine (div64_any p d _ hp.1 (by unfold U64; omega) (by omega)).mono ?_
    rintro e w3 ⟨rfl, h3⟩
    have q0 : 0 ≤ p / d := Int.ediv_nonneg hp.1 (by omega)
    have r0 : 0 ≤ p % d := Int.emod_nonneg _ (by omega)
    have r1 : p % d < d := Int.emod_lt_of_pos _ hd0
    have R := rounded_any (p / d) (p % d) d mode bl r0 (by omega) q0 hm
    have HR : Hid _ := R
    clear R
    go_wp2_with (go_at_call 149; refine (sign_any _ _).mono ?_; rintro e w' ⟨rfl, rfl⟩)
    refine (HR.out _).mono ?_
    rintro e w4 ⟨rfl, rfl⟩
    go_wp2
    go_ret2
    exact ⟨rfl, (h1.alloc _).trans h3⟩

theorem mulDiv_any (a b c mode : Int) (w : World) :
    Calls Tryz.prog 124 #[.int .i64 a, .int .i64 b, .int .i64 c, .int .i64 mode] w fun e w' =>
      e = .returned (.tuple #[.int .i64 (mdN a b c mode), .bool (mdB a b c mode)]) ∧ Bl w w' := by
  unfold mdN mdB mdG
  cases ha : rightB a
  · go_enter Tryz.func124, Tryz.ntmps124
    go_wp2_with (first
      | (go_at_call 145; refine (right_any _ _).mono ?_; rintro e w' ⟨rfl, rfl⟩)
      | (go_at_call 146; refine (isMode_any _ _).mono ?_; rintro e w' ⟨rfl, rfl⟩))
    go_ret2
    exact ⟨rfl, Bl.refl _⟩
  cases hb : rightB b
  · go_enter Tryz.func124, Tryz.ntmps124
    go_wp2_with (first
      | (go_at_call 145; refine (right_any _ _).mono ?_; rintro e w' ⟨rfl, rfl⟩)
      | (go_at_call 146; refine (isMode_any _ _).mono ?_; rintro e w' ⟨rfl, rfl⟩))
    go_ret2
    exact ⟨rfl, Bl.refl _⟩
  cases hc : rightB c
  · go_enter Tryz.func124, Tryz.ntmps124
    go_wp2_with (first
      | (go_at_call 145; refine (right_any _ _).mono ?_; rintro e w' ⟨rfl, rfl⟩)
      | (go_at_call 146; refine (isMode_any _ _).mono ?_; rintro e w' ⟨rfl, rfl⟩))
    go_ret2
    exact ⟨rfl, Bl.refl _⟩
  cases hz : (c == 0)
  case true =>
    go_enter Tryz.func124, Tryz.ntmps124
    go_wp2_with (first
      | (go_at_call 145; refine (right_any _ _).mono ?_; rintro e w' ⟨rfl, rfl⟩)
      | (go_at_call 146; refine (isMode_any _ _).mono ?_; rintro e w' ⟨rfl, rfl⟩))
    go_ret2
    exact ⟨rfl, Bl.refl _⟩
  case false =>
    cases hm : modeB mode
    case false =>
      go_enter Tryz.func124, Tryz.ntmps124
      go_wp2_with (first
        | (go_at_call 145; refine (right_any _ _).mono ?_; rintro e w' ⟨rfl, rfl⟩)
        | (go_at_call 146; refine (isMode_any _ _).mono ?_; rintro e w' ⟨rfl, rfl⟩))
      go_ret2
      exact ⟨rfl, Bl.refl _⟩
    case true => exact mulDiv_good a b c mode ha hb hc hz hm w
end Go.Proofs.YtljmggemdkfbiaaGreat
