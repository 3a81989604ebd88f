/- Contracts of what the statements of layer 4 ask with: small, Lowest, fine, Same, Square. -/
import Derived.Test.YtoibkkiohpnaaaaFr5
import Derived.Test.YtoibkkiohpnaaaaRefC
namespace Go.Proofs.Ytoibkkiohpnaaaa
open Go.RowKit
set_option linter.unusedSimpArgs false
set_option linter.unusedVariables false

theorem small_any (n : Int) (w : World) :
    Calls Try.prog 16 #[.int .i64 n] w fun e w' => e = .returned (.bool (smB n)) ∧ w' = w := by
  unfold smB
  by_cases h : -1073741824 ≤ n
  · by_cases h2 : n ≤ 1073741824
    · go_enter Try.func16, Try.ntmps16
      go_wp2
      go_ret
      exact ⟨by simp [h, h2], rfl⟩
    · go_enter Try.func16, Try.ntmps16
      go_wp2
      go_ret
      exact ⟨by simp [h, h2], rfl⟩
  · go_enter Try.func16, Try.ntmps16
    go_wp2
    go_ret
    exact ⟨by simp; omega, rfl⟩

theorem ret_bool {a b : Bool} (h : a = b) : Ending.returned (.bool a) = .returned (.bool b) := by rw [h]
theorem lowest_loop (n d : Int) (h1 : -1073741824 ≤ n) (h2 : n ≤ 1073741824) (h3 : 0 ≤ d) (w : World) :
    Calls Try.prog 29 #[.int .i64 n, .int .i64 d] w fun e w' => e = .returned (.bool (decide (Int.gcd n d = 1))) ∧ Bl w w' := by
  by_cases hs : n < 0
  all_goals
    go_enter Try.func29, Try.ntmps29
    go_wp2
    go_loopw [0, 1] (fun x y wr => ∃ (p q : Int), x = .int .i64 p ∧ y = .int .i64 q ∧ 0 ≤ p ∧ 0 ≤ q ∧ Int.gcd p q = Int.gcd n d ∧ Bl w wr) (fun _ y _ => (intOf y).toNat)
    case atStart => first | exact ⟨-n, d, rfl, rfl, by omega, h3, Int.neg_gcd, Bl.refl _⟩ | exact ⟨n, d, rfl, rfl, by omega, h3, rfl, Bl.refl _⟩
    case round =>
      obtain ⟨p, q, rfl, rfl, hp, hq, hg, hB⟩ := hrel
      have HG := hideP hg
      clear hg
      by_cases h : 0 < q
      · have hq0 : (q == 0) = false := by simpa using (show q ≠ 0 by omega)
        go_wp2
        go_roundw
        case rel => exact ⟨q, p % q, rfl, rfl, hq, Int.emod_nonneg _ (by omega), by rw [gcd_step p q hp h]; exact HG.out, hB⟩
        case measure =>
          have := Int.emod_nonneg p (show q ≠ 0 by omega)
          have := Int.emod_lt_of_pos p h
          simp [intOf]
          omega
      · obtain rfl : q = 0 := by omega
        go_wp2
        go_ret
        refine ⟨?_, hB⟩
        rw [← HG.out, Int.gcd_zero]
        exact ret_bool (by rw [Bool.eq_iff_iff, beq_iff_eq, decide_eq_true_eq]; omega)

theorem fineL_any (a : Fr) (w : World) :
    Calls Try.prog 13 #[frV a] w fun e w' => e = .returned (.bool (fineR a)) ∧ Bl w w' := by
  obtain ⟨W, X⟩ := oneA_ex w a
  have HX := hideP X
  clear X
  obtain ⟨n, d, bd⟩ := a
  have L := hideP (lowest_loop n d)
  have hc : (bd = true ∧ fineR ⟨n, d, bd⟩ = false) ∨ (bd = false ∧ ¬ 1 ≤ d ∧ fineR ⟨n, d, bd⟩ = false) ∨ (bd = false ∧ 1 ≤ d ∧ smB d = false ∧ fineR ⟨n, d, bd⟩ = false) ∨ (bd = false ∧ 1 ≤ d ∧ smB d = true ∧ smB n = false ∧ fineR ⟨n, d, bd⟩ = false)
      ∨ (bd = false ∧ 1 ≤ d ∧ smB d = true ∧ smB n = true ∧ fineR ⟨n, d, bd⟩ = decide (Int.gcd n d = 1)) := by
    unfold fineR
    cases bd
    · by_cases h : 1 ≤ d
      · cases h2 : smB d
        · exact .inr (.inr (.inl ⟨rfl, h, rfl, by simp⟩))
        · cases h3 : smB n
          · exact .inr (.inr (.inr (.inl ⟨rfl, h, rfl, rfl, by simp⟩)))
          · exact .inr (.inr (.inr (.inr ⟨rfl, h, rfl, rfl, by simp [h]⟩)))
      · exact .inr (.inl ⟨rfl, h, by simp [h]⟩)
    · exact .inl ⟨rfl, rfl⟩
  have sm : smB n = true → -1073741824 ≤ n ∧ n ≤ 1073741824 := fun h => smB_iff.1 h
  have SM := hideP sm
  clear sm
  generalize fineR ⟨n, d, bd⟩ = r at *
  rcases hc with ⟨rfl, rfl⟩ | ⟨rfl, h1, rfl⟩ | ⟨rfl, h1, h2, rfl⟩ | ⟨rfl, h1, h2, h3, rfl⟩ | ⟨rfl, h1, h2, h3, rfl⟩
  · go_enter Try.func13, Try.ntmps13
    go_wp2
    go_ret
    exact ⟨rfl, (Bl.refl _).alloc _⟩
  · go_enter Try.func13, Try.ntmps13
    go_wp2
    go_ret
    exact ⟨rfl, (Bl.refl _).alloc _⟩
  · go_enter Try.func13, Try.ntmps13
    go_wp2_with (go_at_call 16; refine (small_any _ _).mono ?_; rintro e w' ⟨rfl, rfl⟩)
    go_ret
    exact ⟨rfl, (Bl.refl _).alloc _⟩
  · go_enter Try.func13, Try.ntmps13
    go_wp2_with (go_at_call 16; refine (small_any _ _).mono ?_; rintro e w' ⟨rfl, rfl⟩)
    go_ret
    exact ⟨rfl, (Bl.refl _).alloc _⟩
  · have L2 := hideP (L.out (SM.out h3).1 (SM.out h3).2 (by omega))
    generalize decide (Int.gcd n d = 1) = g at *
    go_enter Try.func13, Try.ntmps13
    go_wp2_with (first
      | (go_at_call 16; refine (small_any _ _).mono ?_; rintro e w' ⟨rfl, rfl⟩)
      | (go_at_call 29; refine (L2.out _).mono ?_; rintro e w2 ⟨rfl, h2⟩))
    go_ret
    exact ⟨rfl, ((Bl.refl _).alloc _).trans h2⟩

/-- Is n by d the same as m by e? -/
def sameB (n d m e : Int) : Bool := cmpI (n * e) (m * d) == 0
theorem cmpI_zero {x y : Int} : cmpI x y = 0 ↔ x = y := by
  constructor
  · intro h; rcases cmpI_three x y with ⟨a, b⟩ | ⟨a, b⟩ | ⟨a, b⟩ <;> omega
  · intro h; exact cmpI_eq h
theorem sameB_iff {n d m e : Int} : sameB n d m e = true ↔ n * e = m * d := by
  unfold sameB; rw [beq_iff_eq, cmpI_zero]
theorem same_any (n d m e : Int) (w : World) (h1 : rightB n = true) (h2 : rightB d = true) (h3 : rightB m = true) (h4 : rightB e = true) :
    Calls Try.prog 15 #[.int .i64 n, .int .i64 d, .int .i64 m, .int .i64 e] w fun r w' => r = .returned (.bool (sameB n d m e)) ∧ Bl w w' := by
  have C := hideP (refCompare_any n e m d w h1 h4 h3 h2)
  unfold sameB
  generalize cmpI (n * e) (m * d) = c at *
  go_enter Try.func15, Try.ntmps15
  go_wp2_with fail
  refine (C.out).mono ?_
  rintro e w1 ⟨rfl, h1⟩
  go_wp2
  go_ret
  exact ⟨rfl, h1⟩

/-- The root of a square; -1, if it is none. -/
def sqR (n : Int) : Int := if rtF n * rtF n = n then rtF n else -1
theorem square_any (n : Int) (h0 : 0 ≤ n) (h1 : n ≤ 1073741824) (w : World) :
    Calls Try.prog 26 #[.int .i64 n] w fun e w' => e = .returned (.int .i64 (sqR n)) ∧ w' = w := by
  go_enter Try.func26, Try.ntmps26
  go_wp2
  go_loop [3, 4] (fun x y => ∃ (p q : Int), x = .int .i64 p ∧ y = .int .i64 q ∧ 0 ≤ p ∧ p < q ∧ q ≤ 32769 ∧ p * p ≤ n ∧ n < q * q) (fun x y => (intOf y).toNat - (intOf x).toNat)
  case atStart => exact ⟨0, 32769, rfl, rfl, by omega, by omega, by omega, by omega, by omega⟩
  case round =>
    obtain ⟨p, q, rfl, rfl, hp, hpq, hq, hl, hh⟩ := hrel
    by_cases hlt : p + 1 < q
    · have hm1 : p < (p + q) / 2 := by omega
      have hm2 : (p + q) / 2 < q := by omega
      have HL := hideP hl
      have HH := hideP hh
      clear hl hh
      have hsq : 0 ≤ (p + q) / 2 * ((p + q) / 2) ∧ (p + q) / 2 * ((p + q) / 2) ≤ 32769 * 32769 := ⟨Int.mul_nonneg (by omega) (by omega), Int.mul_le_mul (by omega) (by omega) (by omega) (by decide)⟩
      have hwr : wrap64 ((p + q) / 2 * ((p + q) / 2)) = (p + q) / 2 * ((p + q) / 2) := IntWalk.wrap64_in _ (by omega)
      clear hsq
      by_cases hc : (p + q) / 2 * ((p + q) / 2) ≤ n
      · go_wp2
        go_round
        case rel => exact ⟨(p + q) / 2, q, rfl, rfl, by omega, by omega, hq, hc, HH.out⟩
        case measure => simp [intOf]; omega
      · go_wp2
        go_round
        case rel => exact ⟨p, (p + q) / 2, rfl, rfl, by omega, by omega, by omega, HL.out, by omega⟩
        case measure => simp [intOf]; omega
    · obtain rfl : q = p + 1 := by omega
      have H := root_one n p hp hl hh
      have hsq : 0 ≤ p * p ∧ p * p ≤ 32769 * 32769 := ⟨Int.mul_nonneg (by omega) (by omega), Int.mul_le_mul (by omega) (by omega) (by omega) (by decide)⟩
      have hwr : wrap64 (p * p) = p * p := IntWalk.wrap64_in _ (by omega)
      by_cases he : p * p = n
      · have hb : (p * p == n) = true := by simpa using he
        have hS := hideP (show p = sqR n by unfold sqR; rw [← H, if_pos he])
        clear hl hh H hsq he
        go_wp2
        go_ret
        exact ⟨ret_int hS.out, rfl⟩
      · have hb : (p * p == n) = false := by simpa using he
        have hS := hideP (show -1 = sqR n by unfold sqR; rw [← H, if_neg he])
        clear hl hh H hsq he
        go_wp2
        go_ret
        exact ⟨ret_int hS.out, rfl⟩
end Go.Proofs.Ytoibkkiohpnaaaa
