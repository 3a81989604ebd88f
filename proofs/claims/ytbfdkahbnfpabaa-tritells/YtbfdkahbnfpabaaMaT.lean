/- Contract of layer 6's Alike. -/
import Derived.Test.YtbfdkahbnfpabaaMaS
namespace Go.Proofs.Ytbfdkahbnfpabaa
open Go.RowKit
set_option linter.unusedSimpArgs false
set_option linter.unusedVariables false

/-- Two rows of the same numbers, cell by cell. -/
theorem rq_cells {p : Option Addr} {n cap : Nat} {xs : List Fr} {w : World} (h : Rq 3 cellsF w (.slice p n cap) xs) : ∀ k x, xs[k]? = some x → ∃ b o, p = some ⟨b, o, none⟩ ∧ ∀ u, Bl w u → u.cell? ⟨b, o + k * 3, none⟩ = some (.int .i64 x.n) ∧ u.cell? ⟨b, o + k * 3 + 1, none⟩ = some (.int .i64 x.d) ∧ u.cell? ⟨b, o + k * 3 + 2, none⟩ = some (.bool x.bad) := by
  intro k x hk
  rcases h with ⟨_, _, _, h0, _⟩ | ⟨b, o, cc, e, _, hlt, HX⟩
  · rw [h0] at hk; simp at hk
  · cases e
    exact ⟨b, o, rfl, fun u hu => ⟨(bl_cell hu _ _ hlt).trans (HX k _ hk 0 _ rfl), (bl_cell hu _ _ hlt).trans (HX k _ hk 1 _ rfl), (bl_cell hu _ _ hlt).trans (HX k _ hk 2 _ rfl)⟩⟩
set_option maxHeartbeats 1000000 in
theorem alike_any (r c : Int) (p q : Option Addr) (n cap cap2 : Nat) (xs : List Fr) (w : World) (h : Rq 3 cellsF w (.slice p n cap) xs) (h2 : Rq 3 cellsF w (.slice q n cap2) xs) (hn : xs.length = n) (hl : n ≤ 1000) :
    Calls Try.prog 25 #[mV r c p n cap, mV r c q n cap2] w fun e w' => e = .returned (.bool true) ∧ Bl w w' := by
  have EG := Try.frGuard
  obtain ⟨W, hW⟩ : ∃ W, W = (w.alloc (.cells #[.int .i64 r, .int .i64 c, .slice p n cap] 27)).alloc (.cells #[.int .i64 r, .int .i64 c, .slice q n cap2] 27) := ⟨_, rfl⟩
  have b0 : Bl w W := by rw [hW]; exact ((Bl.refl _).alloc _).alloc _
  have mx0 : MBox W w.heap.size r c p n cap := by rw [hW]; exact (MBox.new w _ _ _ _ _ _).later ((Bl.refl _).alloc _)
  have my0 : MBox W (w.heap.size + 1) r c q n cap2 := by rw [hW]; have := (MBox.new (w.alloc (.cells #[.int .i64 r, .int .i64 c, .slice p n cap] 27)) r c q n cap2 27); rw [World.size_alloc] at this; exact this
  have HA := hideP (rq_cells h)
  have HB := hideP (rq_cells h2)
  have HN := hideP hn
  have HW := hideP hW
  clear h h2 hn hW
  go_enter Try.func25, Try.ntmps25
  go_wp2_with fail
  rw [← HW.out]
  go_loopw [30] (fun i wr => ∃ k : Nat, i = .int .i64 k ∧ k ≤ n ∧ Bl W wr) (fun i _ => n - (intOf i).toNat)
  case atStart => exact ⟨0, rfl, Nat.zero_le _, Bl.refl _⟩
  case round =>
    obtain ⟨k, rfl, hk, bl⟩ := hrel
    by_cases hlt : k < n
    · obtain ⟨x, hx⟩ : ∃ x, xs[k]? = some x := ⟨_, List.getElem?_eq_getElem (by have := HN.out; omega)⟩
      obtain ⟨b, o, rfl, CX⟩ := HA.out k x hx
      obtain ⟨b', o', rfl, CY⟩ := HB.out k x hx
      have z0 := fun z : Wl wr => (CX z.w (b0.trans (bl.trans z.bl))).1
      have z1 := fun z : Wl wr => (CX z.w (b0.trans (bl.trans z.bl))).2.1
      have z2 := fun z : Wl wr => (CX z.w (b0.trans (bl.trans z.bl))).2.2
      have y0 := fun z : Wl wr => (CY z.w (b0.trans (bl.trans z.bl))).1
      have y1 := fun z : Wl wr => (CY z.w (b0.trans (bl.trans z.bl))).2.1
      have y2 := fun z : Wl wr => (CY z.w (b0.trans (bl.trans z.bl))).2.2
      have m2 := fun z : Wl wr => (mx0.later (bl.trans z.bl)).c2
      have n2 := fun z : Wl wr => (my0.later (bl.trans z.bl)).c2
      have wne := wl_ne wr
      have ne1 := neq_selfV x
      clear CX CY
      go_wp2_with fail
      refine wl_region wr (Bl.refl _) (by kernel_rfl) (by kernel_rfl) ?_
      repeat (go_big_quiet_step (first | fail))
      refine wpQuiet_nil ?_
      intro _ hw'
      obtain ⟨z, hw''⟩ := hw'
      subst hw''
      clear wne z0 z1 z2 y0 y1 y2 m2 n2 ne1
      obtain ⟨w3, h3⟩ := z
      dsimp only
      go_wp2
      go_roundw
      case rel => exact ⟨k + 1, by simp, hlt, bl.trans h3⟩
      case measure => simp [intOf]; omega
    · obtain rfl : k = n := by omega
      go_wp2
      go_ret
      exact ⟨rfl, b0.trans bl⟩
end Go.Proofs.Ytbfdkahbnfpabaa
