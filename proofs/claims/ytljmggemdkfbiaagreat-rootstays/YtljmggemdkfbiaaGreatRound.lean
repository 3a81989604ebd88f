/- Contracts of wide.outward, rounded, Compare. -/
import Derived.Test.YtljmggemdkfbiaaGreatMid
namespace Go.Proofs.YtljmggemdkfbiaaGreat
open Go.RowKit
set_option linter.unusedSimpArgs false
set_option linter.unusedVariables false

/-- Does rounding go away from 0? -/
def outB (cut rest gap : Int) (below : Bool) (mode : Int) : Bool :=
  if mode = 1 then below && decide (0 < rest) else if mode = 2 then !below && decide (0 < rest) else
    decide (gap < 2 * rest) || (decide (2 * rest = gap) && decide (cut % 2 = 1))

theorem outward_any (cut rest gap mode : Int) (below : Bool) (h0 : 0 ≤ rest) (h1 : 2 * rest < 18446744073709551616) (hc : 0 ≤ cut) (hm : modeB mode = true) (w : World) :
    Calls Tryz.prog 161 #[.int .u64 cut, .int .u64 rest, .int .u64 gap, .bool below, .int .i64 mode] w fun e w' =>
      e = .returned (.bool (outB cut rest gap below mode)) ∧ w' = w := by
  have hm' : mode = 1 ∨ mode = 2 ∨ mode = 0 := by
    simp [modeB] at hm; omega
  clear hm
  rcases hm' with rfl | rfl | rfl
  · have e : outB cut rest gap below 1 = (below && decide (0 < rest)) := by simp [outB]
    rw [e]; clear e
    cases below
    · go_enter Tryz.func161, Tryz.ntmps161
      go_wp2
      go_ret
      exact ⟨rfl, rfl⟩
    · go_enter Tryz.func161, Tryz.ntmps161
      go_wp2
      all_goals (go_ret; exact ⟨by simp [*], rfl⟩)
  · have e : outB cut rest gap below 2 = (!below && decide (0 < rest)) := by simp [outB]
    rw [e]; clear e
    cases below
    · go_enter Tryz.func161, Tryz.ntmps161
      go_wp2
      all_goals (go_ret; exact ⟨by simp [*], rfl⟩)
    · go_enter Tryz.func161, Tryz.ntmps161
      go_wp2
      go_ret
      exact ⟨rfl, rfl⟩
  · have e : outB cut rest gap below 0 = (decide (gap < 2 * rest) || (decide (2 * rest = gap) && decide (cut % 2 = 1))) := by simp [outB]
    rw [e]; clear e
    rcases (by omega : gap < 2 * rest ∨ 2 * rest = gap ∨ 2 * rest < gap) with h | h | h
    · have e : (decide (gap < 2 * rest) || (decide (2 * rest = gap) && decide (cut % 2 = 1))) = true := by simp [h]
      rw [e]; clear e
      have hh : cmpI (2 * rest) gap = 1 := by unfold cmpI; rw [if_neg (by omega), if_pos h]
      have H : Hid _ := hh
      clear hh
      go_enter Tryz.func161, Tryz.ntmps161
      go_wp2_with (go_at_call 165; refine (cmpU_any _ _ _).mono ?_; rw [H.out]; rintro e w' ⟨rfl, rfl⟩)
      go_ret
      exact ⟨rfl, rfl⟩
    · have e : (decide (gap < 2 * rest) || (decide (2 * rest = gap) && decide (cut % 2 = 1))) = (cut % 2 == 1) := by
        rw [decide_eq_false (by omega : ¬ gap < 2 * rest), decide_eq_true h]; rfl
      rw [e]; clear e
      have hh : cmpI (2 * rest) gap = 0 := by unfold cmpI; rw [if_neg (by omega), if_neg (by omega)]
      have H : Hid _ := hh
      clear hh
      have hd : decide ((0 : Int) < 0) = false := by decide
      clear h
      go_enter Tryz.func161, Tryz.ntmps161
      go_wp2_with (go_at_call 165; refine (cmpU_any _ _ _).mono ?_; rw [H.out]; rintro e w' ⟨rfl, rfl⟩)
      go_ret
      exact ⟨rfl, rfl⟩
    · have e : (decide (gap < 2 * rest) || (decide (2 * rest = gap) && decide (cut % 2 = 1))) = false := by
        rw [decide_eq_false (by omega : ¬ gap < 2 * rest), decide_eq_false (by omega : ¬ 2 * rest = gap)]; rfl
      rw [e]; clear e
      have hh : cmpI (2 * rest) gap = -1 := by unfold cmpI; rw [if_pos h]
      have H : Hid _ := hh
      clear hh
      go_enter Tryz.func161, Tryz.ntmps161
      go_wp2_with (go_at_call 165; refine (cmpU_any _ _ _).mono ?_; rw [H.out]; rintro e w' ⟨rfl, rfl⟩)
      go_ret
      exact ⟨rfl, rfl⟩

/-- What is left of a size that was cut off, rounded; and whether it may be. -/
def upI (cut : Int) (o : Bool) : Int := if o then cut + 1 else cut
def rdN (c : Int) (below : Bool) : Int := if 4611686018427387903 < c then 0 else if below then -c else c
def rdB (c : Int) : Bool := decide (c ≤ 4611686018427387903)

theorem rounded_any (cut rest gap mode : Int) (below : Bool) (h0 : 0 ≤ rest) (h1 : 2 * rest < 18446744073709551616) (hc : 0 ≤ cut) (hm : modeB mode = true) (w : World) :
    Calls Tryz.prog 150 #[.int .u64 cut, .int .u64 rest, .int .u64 gap, .bool below, .int .i64 mode] w fun e w' =>
      e = .returned (.tuple #[.int .i64 (rdN (upI cut (outB cut rest gap below mode)) below), .bool (rdB (upI cut (outB cut rest gap below mode)))]) ∧ w' = w := by
  have C := outward_any cut rest gap mode below h0 h1 hc hm
  generalize outB cut rest gap below mode = o at *
  have HC : Hid _ := C
  clear C
  by_cases hb : 4611686018427387903 < cut
  · have e1 : rdN (upI cut o) below = 0 := by unfold rdN upI; cases o <;> simp <;> omega
    have e2 : rdB (upI cut o) = false := by unfold rdB upI; cases o <;> simp <;> omega
    rw [e1, e2]; clear e1 e2
    go_enter Tryz.func150, Tryz.ntmps150
    go_wp2
    go_ret2
    exact ⟨rfl, rfl⟩
  · cases o
    · have e1 : rdN (upI cut false) below = if below then -cut else cut := by unfold rdN upI; simp; omega
      have e2 : rdB (upI cut false) = true := by unfold rdB upI; simp; omega
      rw [e1, e2]; clear e1 e2
      cases below
      all_goals
        go_enter Tryz.func150, Tryz.ntmps150
        go_wp2_with (go_at_call 161; refine (HC.out _).mono ?_; rintro e w' ⟨rfl, rfl⟩)
        go_ret2
        exact ⟨rfl, rfl⟩
    · by_cases hb2 : cut + 1 ≤ 4611686018427387903
      · have e1 : rdN (upI cut true) below = if below then -(cut + 1) else cut + 1 := by unfold rdN upI; simp; omega
        have e2 : rdB (upI cut true) = true := by unfold rdB upI; simp; omega
        rw [e1, e2]; clear e1 e2
        cases below
        all_goals
          go_enter Tryz.func150, Tryz.ntmps150
          go_wp2_with (go_at_call 161; refine (HC.out _).mono ?_; rintro e w' ⟨rfl, rfl⟩)
          go_ret2
          exact ⟨rfl, rfl⟩
      · have e1 : rdN (upI cut true) below = 0 := by unfold rdN upI; simp; omega
        have e2 : rdB (upI cut true) = false := by unfold rdB upI; simp; omega
        rw [e1, e2]; clear e1 e2
        go_enter Tryz.func150, Tryz.ntmps150
        go_wp2_with (go_at_call 161; refine (HC.out _).mono ?_; rintro e w' ⟨rfl, rfl⟩)
        go_ret2
        exact ⟨rfl, rfl⟩
end Go.Proofs.YtljmggemdkfbiaaGreat
