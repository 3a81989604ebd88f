/- Contracts of frac's Of, Neg, Sign, floorRoot (layer 4). -/
import Derived.Test.YthnadgbloamlaaaFr4
namespace Go.Proofs.Ythnadgbloamlaaa
open Go.RowKit
set_option linter.unusedSimpArgs false
set_option linter.unusedVariables false

/-- The world behind the box of one fraction, and of another one that is yet to be told. -/
structure TwoR (w W : World) (a : Fr) : Prop where
  eq : W = (w.alloc (.cells #[.int .i64 a.n, .int .i64 a.d, .bool a.bad] 35)).alloc (.cells #[.int .i64 0, .int .i64 0, .bool false] 35)
  bl : Bl w W
  ba : FBox W w.heap.size a
  bz : FBox W (w.heap.size + 1) zeroR
  size : W.heap.size = w.heap.size + 1 + 1
theorem twoR_ex (w : World) (a : Fr) : ∃ W, TwoR w W a := by
  refine ⟨_, rfl, ((Bl.refl _).alloc _).alloc _, (FBox.new w a 35).later ((Bl.refl _).alloc _), ?_, by simp⟩
  have := FBox.new (w.alloc (.cells #[.int .i64 a.n, .int .i64 a.d, .bool a.bad] 35)) zeroR 35
  simpa [zeroR] using this

theorem rof_any (a : Fr) (n : Int) (w : World) :
    Calls Try.prog 87 #[frV a, .int .i64 n] w fun e w' => e = .returned (frV (newR n 1)) ∧ Bl w w' := by
  obtain ⟨W, X⟩ := twoR_ex w a
  have HX := hideP X
  clear X
  have T := hideP (new_any n 1)
  generalize newR n 1 = r at *
  go_enter Try.func87, Try.ntmps87
  go_wp2_with fail
  rw [← HX.out.eq]
  refine (T.out _).mono ?_
  rintro e w1 ⟨rfl, h1⟩
  obtain ⟨c0, c1, c2, f0, f1, f2, lt⟩ := HX.out.bz.later h1
  go_wp2
  simp [bodyPost, results, Try.results87, go_sem, c0, c1, c2]
  exact Bl.set3 (HX.out.bl.trans h1) (by omega) _ _ _

def signR (a : Fr) : Int := if fineR a then cmpI a.n 0 else 0
def zR : Fr := ⟨0, 1, false⟩
theorem new01 : newR 0 1 = zR := by
  unfold newR lowR
  rw [if_pos (by decide), if_neg (by decide), Rat.zero_divInt]
  rfl
theorem rof0 (a : Fr) (w : World) : Calls Try.prog 87 #[frV a, .int .i64 0] w fun e w' => e = .returned (frV zR) ∧ Bl w w' := by
  have := rof_any a 0 w
  rwa [new01] at this
def negR (a : Fr) : Fr := subR zR a
theorem half16 (r D : Int) (i : Nat) (hi : i < 16) (hD : D = 2 ^ (15 - i)) (hr0 : 0 ≤ r) (hrm : r % 2 ^ (16 - i) = 0) (hr3 : r + 2 ^ (16 - i) ≤ 65536) :
    (2 : Int) ^ (16 - i) = D + D ∧ 1 ≤ D ∧ r % D = 0 ∧ (r + D) % D = 0 ∧ bits .or .i64 r (wrap64 (2 ^ (15 - i))) = r + D := by
  have e : (2 : Int) ^ (16 - i) = D + D := by
    rw [show 16 - i = (15 - i) + 1 from by omega, Int.pow_succ, ← hD]; omega
  have hp : (0 : Int) < D := by rw [hD]; exact Int.pow_pos (by decide)
  have hd : D ∣ r := by
    have h1 : (D + D) ∣ r := by rw [← e]; exact Int.dvd_of_emod_eq_zero hrm
    obtain ⟨c, hc⟩ := h1
    exact ⟨2 * c, by rw [hc, Int.add_mul, ← Int.mul_assoc, Int.mul_comm D 2]; rw [Int.mul_assoc]; omega⟩
  refine ⟨e, by omega, Int.emod_eq_zero_of_dvd hd, ?_, ?_⟩
  · exact Int.emod_eq_zero_of_dvd (Int.dvd_add hd (Int.dvd_refl D))
  · rw [e] at hr3
    rw [← hD]
    have hw : wrap64 D = D := IntWalk.wrap64_in _ (by omega)
    rw [hw]
    have e63 : (2 : Int) ^ 62 = 4611686018427387904 := by decide
    refine bits_join .i64 62 (by decide) (fun n h h' => ?_) (16 - i) r D hr0 hrm (by omega) (by omega) (by omega) (by omega)
    rw [e63] at h'
    rw [IntWalk.i64_left]
    have := IntWalk.wrap64_in n (by omega)
    exact this

theorem pow16 : ∀ j : Nat, j ≤ 16 → (2 : Int) ^ j ≤ 65536 := by decide
def flR (n : Int) : Int := if n < 0 then 0 else rtF n
end Go.Proofs.Ythnadgbloamlaaa
