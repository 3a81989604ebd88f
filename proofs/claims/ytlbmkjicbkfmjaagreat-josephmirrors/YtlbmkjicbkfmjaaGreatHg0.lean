/- HouseSigns: mathematics; two enclosed numbers that are the same, compared. -/
import Derived.Test.YtlbmkjicbkfmjaaGreatHuGN
import Derived.Test.YtlbmkjicbkfmjaaGreatFr3
namespace Go.Proofs.YtlbmkjicbkfmjaaGreat
open Go.RowKit
set_option linter.unusedSimpArgs false
set_option linter.unusedVariables false

theorem Tryz.nnFields : Tryz.prog.underlying 28 = some (.struct (Tryz.prog.fieldsOf 28)) := by kernel_rfl
theorem Tryz.nnHeld : Tryz.prog.stoodInHeld 28 = false := by kernel_rfl
theorem Tryz.nnGuard : Tryz.prog.eqGuardType Tryz.prog.depth 28 = false := by kernel_rfl
theorem Tryz.nnList : (Tryz.prog.fieldsOf 28).toList.map (fun f => (f.name, f.type, f.offset)) = [("V", 3, 0), ("Low", 3, 1), ("High", 3, 2), ("Bad", 4, 3)] := by kernel_rfl
theorem neq_nn (a : En) (w : World) : (binOp .neq 28 (enV a) (enV a)).run Tryz.prog w = .ok (.bool false) w := by
  rw [run_neq_struct, run_equalIn_agg _ _ _ _ _ Tryz.nnFields Tryz.nnHeld]
  rw [eqFields_map 9999 #[.int .i64 a.v, .int .i64 a.l, .int .i64 a.h, .bool a.bad] #[.int .i64 a.v, .int .i64 a.l, .int .i64 a.h, .bool a.bad] _ [{ name := "V", type := 3, offset := 0, embedded := false, tag := "", pkgPath := "", byteOffset := 0 }, { name := "Low", type := 3, offset := 1, embedded := false, tag := "", pkgPath := "", byteOffset := 0 }, { name := "High", type := 3, offset := 2, embedded := false, tag := "", pkgPath := "", byteOffset := 0 }, { name := "Bad", type := 4, offset := 3, embedded := false, tag := "", pkgPath := "", byteOffset := 0 }] Tryz.nnList]
  simp [Op.eqFields, part, go_sem]
theorem neg_high8 {a : En} (h : lowN a = true) : lowN (negE a) = false := by
  obtain ⟨v, l, hh, b⟩ := a
  cases b with
  | true => cases h
  | false =>
    have hv : v < 0 := by
      have h1 : signE ⟨v, l, hh, false⟩ < 0 := of_decide_eq_true h
      have h2 : cmpI v 0 < 0 := h1
      unfold cmpI at h2
      split at h2
      · assumption
      · split at h2 <;> omega
    unfold negE subE
    cases hk : okE bS (ptE 0 true) ⟨v, l, hh, false⟩ (prsX (ptE 0 true) ⟨v, l, hh, false⟩) with
    | false => rw [told_bad hk]; rfl
    | true =>
      rw [told_ok hk]
      refine decide_eq_false ?_
      show ¬ cmpI (fsN 0 v) 0 < 0
      unfold fsN toN cmpI
      split <;> split <;> first | omega | (split <;> omega)
theorem signs_high8 (f : Nat → Nat → En) (k : Nat) : lowN (signsH kdN (fun j => lowN (f j j)) f k k) = false := by
  unfold signsH
  by_cases h : lowN (f k k) = true
  · rw [if_pos ⟨Nat.le_refl _, h⟩]
    exact neg_high8 h
  · rw [if_neg (fun x => h x.2)]
    simpa using h
end Go.Proofs.YtlbmkjicbkfmjaaGreat
