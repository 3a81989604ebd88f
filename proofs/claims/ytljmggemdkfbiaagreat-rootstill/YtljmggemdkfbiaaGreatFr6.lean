/- The contract of frac's Root (layer 4). -/
import Derived.Test.YtljmggemdkfbiaaGreatFr5
namespace Go.Proofs.YtljmggemdkfbiaaGreat
open Go.RowKit
set_option linter.unusedSimpArgs false
set_option linter.unusedVariables false

theorem neq_fr (a b : Fr) (w : World) : (binOp .neq 34 (frV a) (frV b)).run Tryz.prog w = .ok (.bool (!eqR a b)) w := by
  rw [run_neq_struct, run_equalIn_agg _ _ _ _ _ Tryz.frFields Tryz.frHeld]
  rw [eqFields_map 9999 #[.int .i64 a.n, .int .i64 a.d, .bool a.bad] #[.int .i64 b.n, .int .i64 b.d, .bool b.bad] _ [{ name := "N", type := 3, offset := 0, embedded := false, tag := "", pkgPath := "", byteOffset := 0 }, { name := "D", type := 3, offset := 1, embedded := false, tag := "", pkgPath := "", byteOffset := 0 }, { name := "Bad", type := 4, offset := 2, embedded := false, tag := "", pkgPath := "", byteOffset := 0 }] Tryz.frList]
  cases h1 : (a.n == b.n) <;> cases h2 : (a.d == b.d) <;> cases h3 : (a.bad == b.bad) <;> simp [Op.eqFields, part, go_sem, eqR, h1, h2, h3]

/-- The root, as it is tried. -/
def tryR (a : Fr) : Fr := ⟨flR a.n, flR a.d, false⟩
def rootR (a : Fr) : Fr := if fineR a then (if eqR (mulR (tryR a) (tryR a)) a then tryR a else wrongR) else wrongR

set_option maxRecDepth 100000 in
set_option maxHeartbeats 1000000 in
theorem rroot_any (a : Fr) (w : World) :
    Calls Tryz.prog 190 #[frV a] w fun e w' => e = .returned (frV (rootR a)) ∧ Bl w w' := by
  obtain ⟨W, X⟩ := twoR_ex w a
  have HX := hideP X
  clear X
  have T := hideP (fineR_any a)
  unfold rootR
  cases hf : fineR a
  · rw [hf] at T
    go_enter Tryz.func190, Tryz.ntmps190
    go_wp2_with fail
    rw [← HX.out.eq]
    refine (T.out _).mono ?_
    rintro e w1 ⟨rfl, h1⟩
    go_wp2_with fail
    refine (wrongR_any _).mono ?_
    rintro e w2 ⟨rfl, h2⟩
    obtain ⟨c0, c1, c2, f0, f1, f2, lt⟩ := HX.out.bz.later (h1.trans h2)
    go_wp2
    simp [bodyPost, results, Tryz.results190, go_sem, c0, c1, c2]
    exact Bl.set3 (HX.out.bl.trans (h1.trans h2)) (by omega) _ _ _
  · rw [hf] at T
    have R1 := hideP (flR_any a.n (fine_n hf).2)
    have R2 := hideP (flR_any a.d (fine_dd hf).2)
    have M := hideP (rmul_any (tryR a) (tryR a))
    have NQ := neq_fr (mulR (tryR a) (tryR a)) a
    have EG := Tryz.frGuard
    generalize mulR (tryR a) (tryR a) = m at *
    obtain ⟨x, hx⟩ : ∃ x, flR a.n = x := ⟨_, rfl⟩
    obtain ⟨y, hy⟩ : ∃ y, flR a.d = y := ⟨_, rfl⟩
    have hr : tryR a = ⟨x, y, false⟩ := by unfold tryR; rw [hx, hy]
    rw [hr] at M ⊢
    rw [hx] at R1
    rw [hy] at R2
    clear hx hy hr
    go_enter Tryz.func190, Tryz.ntmps190
    go_wp2_with fail
    rw [← HX.out.eq]
    refine (T.out _).mono ?_
    rintro e w1 ⟨rfl, h1⟩
    have KP := hideP (fun w' (h : Bl w1 w') => HX.out.ba.later (h1.trans h))
    go_wp2_with fail
    go_region_held3 (fun w' => w'.cell? ⟨w.heap.size, 0, none⟩ = some (.int .i64 a.n) ∧ w'.cell? ⟨w.heap.size, 1, none⟩ = some (.int .i64 a.d)) (exact ⟨(KP.out _ (by repeat (first | exact Bl.refl _ | apply Bl.drew | apply Bl.alloc))).c0, (KP.out _ (by repeat (first | exact Bl.refl _ | apply Bl.drew | apply Bl.alloc))).c1⟩)
      (first
        | (go_at_call_of 197 #[Value.int .i64 a.n]; refine (R1.out _).mono ?_; rintro e w' ⟨rfl, rfl⟩)
        | (go_at_call_of 197 #[Value.int .i64 a.d]; refine (R2.out _).mono ?_; rintro e w' ⟨rfl, rfl⟩))
    all_goals
      obtain ⟨V, hV⟩ : ∃ V, V = (w1.alloc (Obj.cells #[Value.int .i64 x, Value.int .i64 y, Value.bool false] 34)).drew := ⟨_, rfl⟩
      have bV : Bl w1 V := by rw [hV]; exact ((Bl.refl _).alloc _).drew
      have xr : FBox V w1.heap.size ⟨x, y, false⟩ := by rw [hV]; exact (FBox.new w1 ⟨x, y, false⟩ 34).later ((Bl.refl _).drew)
      have xa := HX.out.ba.later (h1.trans bV)
      have xz := HX.out.bz.later (h1.trans bV)
      rw [← hV]
      have HB := hideP (HX.out.bl.trans (h1.trans bV))
      have XZ := hideP xz
      have XR := hideP xr
      obtain ⟨a0, a1, a2⟩ := xa.wl
      obtain ⟨r0, r1, r2⟩ := xr.wl
      clear hV bV xr xa xz KP
      dsimp only at r0 r1 r2
      go_wp2_with fail
      have wne := wl_ne V
      refine wl_region V (Bl.refl _) (by kernel_rfl) (by kernel_rfl) ?_
      repeat (go_big_quiet_step (first | (go_at_call 187; exact wl_call (M.out _))))
      refine wpQuiet_nil ?_
      intro _ hw'
      obtain ⟨z, hw''⟩ := hw'
      subst hw''
      clear wne
      obtain ⟨w2, h2⟩ := z
      dsimp only
      clear a0 a1 a2 r0 r1 r2
      cases he : eqR m a
      · simp only [he, Bool.not_false]
        go_wp2_with fail
        refine (wrongR_any _).mono ?_
        rintro e w3 ⟨rfl, h3⟩
        obtain ⟨c0, c1, c2, f0, f1, f2, lt⟩ := XZ.out.later (h2.trans h3)
        go_wp2
        simp [bodyPost, results, Tryz.results190, go_sem, c0, c1, c2]
        exact Bl.set3 (HB.out.trans (h2.trans h3)) (by omega) _ _ _
      · simp only [he, Bool.not_true]
        obtain ⟨r0, r1, r2, _, _, _, _⟩ := XR.out.later h2
        obtain ⟨c0, c1, c2, f0, f1, f2, lt⟩ := XZ.out.later h2
        dsimp only at r0 r1 r2
        go_wp2
        simp [bodyPost, results, Tryz.results190, go_sem, c0, c1, c2]
        exact Bl.set3 (HB.out.trans h2) (by omega) _ _ _
end Go.Proofs.YtljmggemdkfbiaaGreat
