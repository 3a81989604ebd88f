/- Contracts of env.Wrong, point, Point, Of, Fine, Sign, Meet (layer 3), and of the document's Fine. -/
import Derived.Test.YtljmggemdkfbiaaGreatEnM
namespace Go.Proofs.YtljmggemdkfbiaaGreat
open Go.RowKit
set_option linter.unusedSimpArgs false
set_option linter.unusedVariables false

/-- An enclosed number, as the program has it. -/
abbrev enV (x : En) : Value := .agg #[.int .i64 x.v, .int .i64 x.l, .int .i64 x.h, .bool x.bad]

theorem wrong_any (w : World) :
    Calls Tryz.prog 110 #[] w fun e w' => e = .returned (enV wrongE) ∧ Bl w w' := by
  go_enter Tryz.func110, Tryz.ntmps110
  go_wp2
  simp [bodyPost, results, Tryz.results110, go_sem, wrongE]
  exact (Bl.refl _).alloc _

/-- A block of four cells that holds an enclosed number. -/
structure Box (w : World) (b : Nat) (x : En) : Prop where
  c0 : w.cell? ⟨b, 0, none⟩ = some (.int .i64 x.v)
  c1 : w.cell? ⟨b, 1, none⟩ = some (.int .i64 x.l)
  c2 : w.cell? ⟨b, 2, none⟩ = some (.int .i64 x.h)
  c3 : w.cell? ⟨b, 3, none⟩ = some (.bool x.bad)
  f0 : w.frozen? ⟨b, 0, none⟩ = false
  f1 : w.frozen? ⟨b, 1, none⟩ = false
  f2 : w.frozen? ⟨b, 2, none⟩ = false
  f3 : w.frozen? ⟨b, 3, none⟩ = false
  lt : b < w.heap.size
theorem Box.later {w w' : World} {b : Nat} {x : En} (h : Box w b x) (k : Bl w w') : Box w' b x := by
  have := h.lt
  refine ⟨?_, ?_, ?_, ?_, ?_, ?_, ?_, ?_, by have := Below.size k; omega⟩
  · rw [bl_cell k _ _ this]; exact h.c0
  · rw [bl_cell k _ _ this]; exact h.c1
  · rw [bl_cell k _ _ this]; exact h.c2
  · rw [bl_cell k _ _ this]; exact h.c3
  · rw [bl_froz k _ _ this]; exact h.f0
  · rw [bl_froz k _ _ this]; exact h.f1
  · rw [bl_froz k _ _ this]; exact h.f2
  · rw [bl_froz k _ _ this]; exact h.f3
theorem Box.new (w : World) (x : En) (t : TypeId) : Box (w.alloc (.cells #[.int .i64 x.v, .int .i64 x.l, .int .i64 x.h, .bool x.bad] t)) w.heap.size x := by
  refine ⟨?_, ?_, ?_, ?_, ?_, ?_, ?_, ?_, by simp⟩ <;> simp [go_sem]
theorem Bl.set4 {a b : World} (h : Bl a b) {n : Nat} (hn : a.heap.size ≤ n) (v0 v1 v2 v3 : Value) : Bl a ((((b.setCell ⟨n, 0, none⟩ v0).setCell ⟨n, 1, none⟩ v1).setCell ⟨n, 2, none⟩ v2).setCell ⟨n, 3, none⟩ v3) :=
  Bl.set (Bl.set (Bl.set (Bl.set h hn _) hn _) hn _) hn _
/-- One that is laid, and not yet filled. -/
def zeroE : En := ⟨0, 0, 0, false⟩

theorem point_any (n : Int) (is : Bool) (w : World) :
    Calls Tryz.prog 62 #[.int .i64 n, .bool is] w fun e w' => e = .returned (enV (ptE n is)) ∧ Bl w w' := by
  cases is
  · obtain ⟨W, hW⟩ : ∃ W, W = w.alloc (.cells #[.int .i64 0, .int .i64 0, .int .i64 0, .bool false] 52) := ⟨_, rfl⟩
    have b0 : Bl w W := by rw [hW]; exact (Bl.refl _).alloc _
    have x0 : Box W w.heap.size zeroE := by rw [hW]; exact Box.new w zeroE _
    have HW := hideP hW
    clear hW
    go_enter Tryz.func62, Tryz.ntmps62
    go_wp2_with fail
    rw [← HW.out]
    refine (wrong_any _).mono ?_
    rintro e w1 ⟨rfl, h1⟩
    obtain ⟨c0, c1, c2, c3, f0, f1, f2, f3, lt⟩ := x0.later h1
    go_wp2
    simp [bodyPost, results, Tryz.results62, go_sem, c0, c1, c2, c3, ptE]
    exact Bl.set (Bl.set (Bl.set (Bl.set (b0.trans h1) (Nat.le_refl _) _) (Nat.le_refl _) _) (Nat.le_refl _) _) (Nat.le_refl _) _
  · go_enter Tryz.func62, Tryz.ntmps62
    go_wp2
    simp [bodyPost, results, Tryz.results62, go_sem, ptE]
    exact (Bl.refl _).alloc _

theorem fine_any (a : En) (w : World) :
    Calls Tryz.prog 82 #[enV a] w fun e w' => e = .returned (.bool (fineB a)) ∧ Bl w w' := by
  obtain ⟨v, l, h, bd⟩ := a
  unfold fineB
  simp only
  cases bd
  · by_cases h1 : l ≤ v
    · by_cases h2 : v ≤ h
      · rw [decide_eq_true h1, decide_eq_true h2]
        cases h3 : frB l
        · go_enter Tryz.func82, Tryz.ntmps82
          go_wp2_with (go_at_call 63; refine (fright_any _ _).mono ?_; rintro e w' ⟨rfl, rfl⟩)
          go_ret
          exact ⟨rfl, (Bl.refl _).alloc _⟩
        · go_enter Tryz.func82, Tryz.ntmps82
          go_wp2_with (go_at_call 63; refine (fright_any _ _).mono ?_; rintro e w' ⟨rfl, rfl⟩)
          go_ret
          exact ⟨rfl, (Bl.refl _).alloc _⟩
      · rw [decide_eq_false h2]
        go_enter Tryz.func82, Tryz.ntmps82
        go_wp2
        go_ret
        exact ⟨by simp, (Bl.refl _).alloc _⟩
    · rw [decide_eq_false h1]
      go_enter Tryz.func82, Tryz.ntmps82
      go_wp2
      go_ret
      exact ⟨by simp, (Bl.refl _).alloc _⟩
  · go_enter Tryz.func82, Tryz.ntmps82
    go_wp2
    go_ret
    exact ⟨by simp, (Bl.refl _).alloc _⟩

theorem pointE_any (n : Int) (w : World) :
    Calls Tryz.prog 24 #[.int .i64 n] w fun e w' => e = .returned (enV (ptE n (frB n))) ∧ Bl w w' := by
  obtain ⟨W, hW⟩ : ∃ W, W = w.alloc (.cells #[.int .i64 0, .int .i64 0, .int .i64 0, .bool false] 52) := ⟨_, rfl⟩
  have b0 : Bl w W := by rw [hW]; exact (Bl.refl _).alloc _
  have x0 : Box W w.heap.size zeroE := by rw [hW]; exact Box.new w zeroE _
  have HW := hideP hW
  clear hW
  go_enter Tryz.func24, Tryz.ntmps24
  go_wp2_with fail
  rw [← HW.out]
  refine (fright_any _ _).mono ?_
  rintro e w1 ⟨rfl, rfl⟩
  go_wp2_with fail
  refine (point_any _ _ _).mono ?_
  rintro e w1 ⟨rfl, h1⟩
  obtain ⟨c0, c1, c2, c3, f0, f1, f2, f3, lt⟩ := x0.later h1
  go_wp2
  simp [bodyPost, results, Tryz.results24, go_sem, c0, c1, c2, c3]
  exact Bl.set (Bl.set (Bl.set (Bl.set (b0.trans h1) (Nat.le_refl _) _) (Nat.le_refl _) _) (Nat.le_refl _) _) (Nat.le_refl _) _

theorem ofE_any (a : En) (n : Int) (w : World) :
    Calls Tryz.prog 37 #[enV a, .int .i64 n] w fun e w' => e = .returned (enV (ptE (foN n) (foB n))) ∧ Bl w w' := by
  obtain ⟨W, hW⟩ : ∃ W, W = (w.alloc (.cells #[.int .i64 a.v, .int .i64 a.l, .int .i64 a.h, .bool a.bad] 52)).alloc (.cells #[.int .i64 0, .int .i64 0, .int .i64 0, .bool false] 52) := ⟨_, rfl⟩
  have b0 : Bl w W := by rw [hW]; exact ((Bl.refl _).alloc _).alloc _
  have x0 : Box W (w.heap.size + 1) zeroE := by rw [hW]; have := Box.new (w.alloc (.cells #[.int .i64 a.v, .int .i64 a.l, .int .i64 a.h, .bool a.bad] 52)) zeroE 52; simpa [zeroE] using this
  have HW := hideP hW
  clear hW
  go_enter Tryz.func37, Tryz.ntmps37
  go_wp2_with fail
  rw [← HW.out]
  refine (fof_any _ _).mono ?_
  rintro e w1 ⟨rfl, h1⟩
  go_wp2_with fail
  refine (point_any _ _ _).mono ?_
  rintro e w2 ⟨rfl, h2⟩
  obtain ⟨c0, c1, c2, c3, f0, f1, f2, f3, lt⟩ := x0.later (h1.trans h2)
  go_wp2
  simp [bodyPost, results, Tryz.results37, go_sem, c0, c1, c2, c3]
  exact Bl.set (Bl.set (Bl.set (Bl.set ((b0.trans h1).trans h2) (by simp) _) (by simp) _) (by simp) _) (by simp) _

def signE (a : En) : Int := match a.bad with
  | true => 0
  | false => cmpI a.v 0
theorem signE_any (a : En) (w : World) :
    Calls Tryz.prog 207 #[enV a] w fun e w' => e = .returned (.int .i64 (signE a)) ∧ Bl w w' := by
  obtain ⟨v, l, h, bd⟩ := a
  unfold signE
  cases bd
  · go_enter Tryz.func207, Tryz.ntmps207
    go_wp2_with (go_at_call 160; refine (cmpInt_any _ _ _).mono ?_; rintro e w' ⟨rfl, rfl⟩)
    go_ret
    exact ⟨rfl, (Bl.refl _).alloc _⟩
  · go_enter Tryz.func207, Tryz.ntmps207
    go_wp2
    go_ret
    exact ⟨rfl, (Bl.refl _).alloc _⟩

def meetB (a b : En) : Bool := !a.bad && (!b.bad && decide (max a.l b.l ≤ min a.h b.h))
end Go.Proofs.YtljmggemdkfbiaaGreat
