/- Squares of whole numbers, as fractions (layer 7): contract, mathematics. Written by genTw.py. -/
import Derived.Test.YtljmggemdkfbiaaGreatTrW
import Derived.Test.YtljmggemdkfbiaaGreatTrCF
namespace Go.Proofs.YtljmggemdkfbiaaGreat
open Go.RowKit
set_option linter.unusedSimpArgs false
set_option linter.unusedVariables false

theorem sqI_symm (n : Nat) (f : Nat → Nat → Int) (i k : Nat) : sqI n f i k = sqI n f k i := dotI_comm _ _
theorem sqI_mir (n : Nat) (f : Nat → Nat → Int) (i k : Nat) : sqI n f (max i k) (min i k) = sqI n f i k := by
  by_cases h : k ≤ i
  · rw [Nat.max_eq_left h, Nat.min_eq_right h]
  · rw [Nat.max_eq_right (by omega), Nat.min_eq_left (by omega), sqI_symm]
theorem sqI_nn : ∀ (n : Nat) (f : Nat → Nat → Int) (i : Nat), 0 ≤ sqI n f i i
  | 0, f, i => by show 0 ≤ mulI 0 f _ i i; rw [mulI_zero]; omega
  | n + 1, f, i => by
    show 0 ≤ mulI (n + 1) f _ i i
    rw [mulI_succ]
    have h1 := sqI_nn n f i
    have h2 : 0 ≤ f i n * f i n := by
      rcases Int.le_total 0 (f i n) with h | h
      · exact Int.mul_nonneg h h
      · exact Int.mul_nonneg_of_nonpos_of_nonpos h h
    show 0 ≤ sqI n f i i + f i n * f i n
    omega
theorem sq7_any (n : Nat) (p : Option Addr) (N cap : Nat) (s : Nat → Nat → Int) (w : World) (h : MxI w n n p N cap s) (hs : Sm2 100 n n s) :
    Calls Tryz.prog 45 #[mV n n p N cap] w fun e w' => ∃ p' cap', e = .returned (.tuple #[mV n n p' N cap', .bool true]) ∧ MxI w' n n p' N cap' (sqI n s) ∧ Bl w w' := by
  refine (tSqF n p N cap _ w h).mono ?_
  rintro e w' ⟨p', cap', rfl, ⟨hm, _⟩, hb⟩
  refine ⟨p', cap', rfl, hm.congr fun i k hi hk => ?_, hb⟩
  unfold mirM
  have e := mulM_it (a := s) (b := fun i k => s k i) (A := 100) (B := 100) (R := n) (M := n) (D := n) hs (fun i k hi hk => hs k i hk hi) h.1.r2 (by omega) (by omega) (by omega) (i := max i k) (k := min i k) (by omega) (by omega)
  refine e.trans ?_
  rw [show mulI n s (fun i k => s k i) (max i k) (min i k) = sqI n s (max i k) (min i k) from rfl, sqI_mir]
theorem sqI_bound {n : Nat} {s : Nat → Nat → Int} (hn : n ≤ 16) (hs : Sm2 100 n n s) {i k : Nat} (hi : i < n) (hk : k < n) : -160000 ≤ sqI n s i k ∧ sqI n s i k ≤ 160000 := by
  have := mulI_bound (A := 100) (B := 100) (R := n) (M := n) (D := n) (a := s) (b := fun i k => s k i) (by omega) (by omega) hs (fun i k hi hk => hs k i hk hi) hi hk n (Nat.le_refl _)
  unfold sqI
  constructor <;> omega
theorem sqI_mk {n : Nat} {s : Nat → Nat → Int} (hn : n ≤ 16) (hs : Sm2 100 n n s) : ∀ x ∈ mk n n (sqI n s), Wh x := fun x hx => by
  have := mk_sml (A := 160000) (fun i k hi hk => sqI_bound hn hs hi hk) x hx
  exact ⟨by omega, by omega⟩
theorem sign_nn {v : Int} (h : 0 ≤ v) : 0 ≤ signR (itF v) := by
  unfold signR
  split
  · show 0 ≤ cmpI v 0
    unfold cmpI
    split
    · omega
    · split <;> omega
  · omega
end Go.Proofs.YtljmggemdkfbiaaGreat
