/- The contract of env's Neg (layer 3). -/
import Derived.Test.YtljmggemdkfbiaaGreatEn3
namespace Go.Proofs.YtljmggemdkfbiaaGreat
open Go.RowKit
set_option linter.unusedSimpArgs false
set_option linter.unusedVariables false

def negE (a : En) : En := subE (ptE 0 true) a
theorem point0 (w : World) : Calls Tryz.prog 24 #[.int .i64 0] w fun e w' => e = .returned (enV (ptE 0 true)) ∧ Bl w w' := pointE_any 0 w
theorem eneg_any (a : En) (w : World) :
    Calls Tryz.prog 205 #[enV a] w fun e w' => e = .returned (enV (negE a)) ∧ Bl w w' := by
  obtain ⟨W, X⟩ := two_ex w a
  have HX := hideP X
  have KP := hideP (fun w' (h : Bl W w') => (⟨(X.ba.later h).c0, (X.ba.later h).c1, (X.ba.later h).c2, (X.ba.later h).c3, (X.bz.later h).f0, (X.bz.later h).f1, (X.bz.later h).f2, (X.bz.later h).f3, (X.bz.later h).c0, (X.bz.later h).c1, (X.bz.later h).c2, (X.bz.later h).c3⟩ :
    w'.cell? ⟨w.heap.size, 0, none⟩ = some (.int .i64 a.v) ∧ w'.cell? ⟨w.heap.size, 1, none⟩ = some (.int .i64 a.l) ∧ w'.cell? ⟨w.heap.size, 2, none⟩ = some (.int .i64 a.h) ∧ w'.cell? ⟨w.heap.size, 3, none⟩ = some (.bool a.bad) ∧ w'.frozen? ⟨w.heap.size + 1, 0, none⟩ = false ∧ w'.frozen? ⟨w.heap.size + 1, 1, none⟩ = false ∧ w'.frozen? ⟨w.heap.size + 1, 2, none⟩ = false ∧ w'.frozen? ⟨w.heap.size + 1, 3, none⟩ = false ∧ w'.cell? ⟨w.heap.size + 1, 0, none⟩ = some (.int .i64 0) ∧ w'.cell? ⟨w.heap.size + 1, 1, none⟩ = some (.int .i64 0) ∧ w'.cell? ⟨w.heap.size + 1, 2, none⟩ = some (.int .i64 0) ∧ w'.cell? ⟨w.heap.size + 1, 3, none⟩ = some (.bool false)))
  clear X
  have T := hideP (esub_any (ptE 0 true) a)
  unfold negE
  generalize subE (ptE 0 true) a = r at *
  go_enter Tryz.func205, Tryz.ntmps205
  go_wp2_with fail
  rw [← HX.out.eq]
  obtain ⟨a0, a1, a2, a3, _, _, _, _, _⟩ := HX.out.ba
  go_region_with
    (first
      | (go_at_call 24; refine (point0 _).mono ?_; rintro e w1 ⟨rfl, h1⟩; obtain ⟨p0, p1, p2, p3, _⟩ := KP.out _ (Bl.trans (by repeat (first | exact Bl.refl _ | apply Bl.drew)) h1))
      | (go_at_call 208; refine (T.out _).mono ?_; rintro e w2 ⟨rfl, h2⟩; obtain ⟨_, _, _, _, f0, f1, f2, f3, c0, c1, c2, c3⟩ := KP.out _ (Bl.trans (Bl.trans (by repeat (first | exact Bl.refl _ | apply Bl.drew)) h1) h2)))
  all_goals
    go_wp2
    simp [bodyPost, results, Tryz.results205, go_sem, c0, c1, c2, c3]
    exact Bl.set4 (Bl.trans (Bl.trans (by repeat (first | exact HX.out.bl | apply Bl.drew)) h1) h2) (by omega) _ _ _ _
end Go.Proofs.YtljmggemdkfbiaaGreat
