/- awake of layer 7's laws; whether a number is 0, as the laws' closures tell it. -/
import Derived.Test.YtbfdkahbnfpabaaGreatTrG
import Derived.Test.YtbfdkahbnfpabaaGreatTrIF
import Derived.Test.YtbfdkahbnfpabaaGreatTrDF
namespace Go.Proofs.YtbfdkahbnfpabaaGreat
open Go.RowKit
set_option linter.unusedSimpArgs false
set_option linter.unusedVariables false

def zeroN (x : Fr) : Bool := x.n == 0
theorem zero1_any (x : Fr) (w : World) : Calls Tryz.prog 24 #[frV x] w fun e w' => e = .returned (.bool (zeroN x)) ∧ Bl w w' := by
  unfold zeroN
  go_enter Tryz.func24, Tryz.ntmps24
  go_wp2
  go_ret
  exact ⟨rfl, (Bl.refl _).alloc _⟩
theorem aboveB_low {n : Nat} {s : Nat → Nat → Int} (hl : Low 0 s) : aboveB n (fun i k => itF (s i k)) zeroN = true :=
  aboveB_iff.2 fun i k h _ => by
    unfold zeroN itF
    rw [hl i k h]
    rfl
/-- A matrix of whole numbers, as layer 6's Same is asked of it. -/
theorem mxI_rq {w : World} {R C : Nat} {p : Option Addr} {n cap : Nat} {s : Nat → Nat → Int} (h : MxI w R C p n cap s) : Rq 3 cellsF w (.slice p n cap) ((mk R C s).map itF) := by
  rw [mk_map]; exact h.2.2
set_option maxHeartbeats 1000000 in
theorem awake7_any (w : World) : Calls Tryz.prog 6 #[] w fun e w' => e = .returned (.bool true) ∧ Bl w w' := by
  have s1 : Sml 100 [4, 2, 2, 5] := by intro x hx; simp at hx; omega
  have s2 : Sml 100 [2, 0, 1, 2] := by intro x hx; simp at hx; omega
  obtain ⟨s, hs⟩ : ∃ s, s = clrI (ofL 2 [2, 0, 1, 2]) := ⟨_, rfl⟩
  have hlow : Low 0 s := by rw [hs]; exact clrI_low _
  have hsm : Sm2 100 2 2 s := by rw [hs]; exact clrI_sm (by omega) (ofL_sml rfl s2)
  have hpos : ∀ k, k < 2 → 0 < s k k := by
    intro k hk
    rw [hs]
    obtain rfl | rfl : k = 0 ∨ k = 1 := by omega
    · decide
    · decide
  have hsq : ∀ i k, i < 2 → k < 2 → itF (ofL 2 [4, 2, 2, 5] i k) = itF (sqI 2 s i k) := by
    intro i k hi hk
    rw [hs]
    obtain ⟨rfl | rfl, rfl | rfl⟩ : (i = 0 ∨ i = 1) ∧ (k = 0 ∨ k = 1) := by omega
    · rfl
    · rfl
    · rfl
    · rfl
  have hmk : mk 2 2 s = [2, 0, 1, 2] := by rw [hs]; rfl
  have hab := aboveB_low (n := 2) hlow
  have HS := hideP hs
  have HLOW := hideP hlow
  have HSM := hideP hsm
  have HPOS := hideP hpos
  have HSQ := hideP hsq
  have HMK := hideP hmk
  have HAB := hideP hab
  clear hs hlow hsm hpos hsq hmk hab
  go_enter Tryz.func6, Tryz.ntmps6
  go_wp2_with fail
  refine (whole22 4 2 2 5 w _ s1 _ rfl).mono ?_
  rintro e w1 ⟨p1, c1, rfl, hx, h1⟩
  have HX := hideP (hx.congr HSQ.out)
  clear hx
  have m1 := MBox.new w1 2 2 p1 4 c1 28
  go_wp2_with fail
  refine (root7_any 2 p1 4 c1 s _ (HX.out.later ((Bl.refl _).alloc _)) HSM.out HLOW.out HPOS.out).mono ?_
  rintro e w2 ⟨p2, c2, rfl, hy, h2⟩
  have HY := hideP hy
  clear hy
  have m2 := MBox.new w2 2 2 p2 4 c2 28
  obtain ⟨x0, x1, x2, _, _, _, lt2⟩ := id m2
  have SA := hideP (fun (o : Obj) (t : TypeId) => same6_any 2 2 p2 4 c2 (some ⟨w2.heap.size + 1, 0, none⟩) 4 [2, 0, 1, 2] ((w2.alloc o).alloc (.cells #[.int .i64 2, .int .i64 0, .int .i64 1, .int .i64 2] t)) (by rw [← HMK.out]; exact mxI_rq (HY.out.later (((Bl.refl _).alloc _).alloc _))) (by have := rq_new4 (w2.alloc o) 2 0 1 2 t; rwa [World.size_alloc] at this) rfl (fun x hx => by have := s2 x hx; exact ⟨by omega, by omega⟩) (by omega))
  go_wp2_with fail
  refine (SA.out _ _).mono ?_
  rintro e w3 ⟨rfl, h3⟩
  clear x0 x1 x2 SA
  obtain ⟨x0, x1, x2, _, _, _, lt3⟩ := m2.later (((Bl.refl _).alloc _).trans h3)
  have b23 : Bl w2 w3 := (((Bl.refl _).alloc _).alloc _).trans h3
  go_wp2_with fail
  refine (tIsF 2 p2 4 c2 _ 24 zeroN w3 (HY.out.later b23) (enters_of Tryz.func24 (by kernel_rfl) rfl) (fun x u _ => zero1_any x u)).mono ?_
  rintro e w4 ⟨rfl, h4⟩
  rw [HAB.out]
  clear x0 x1 x2
  obtain ⟨x0, x1, x2, _, _, _, lt4⟩ := (m2.later (((Bl.refl _).alloc _).trans h3)).later h4
  go_wp2_with fail
  refine (tDiagF 2 p2 4 c2 _ w4 (HY.out.later (b23.trans h4))).mono ?_
  rintro e w5 ⟨p5, c5, rfl, hr5, h5⟩
  clear hr5 x0 x1 x2
  go_wp2
  go_ret
  exact ⟨rfl, ((((((Bl.refl w).alloc _).trans h1).alloc _).trans h2).trans b23).trans (h4.trans h5)⟩
end Go.Proofs.YtbfdkahbnfpabaaGreat
