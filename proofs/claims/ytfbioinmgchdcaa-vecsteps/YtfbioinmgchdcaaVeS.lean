/- Steps of layer 5's VecSteps: equality of the document's numbers; sums, dots, one by one. -/
import Derived.Test.YtfbioinmgchdcaaVeL
import Derived.Test.YtfbioinmgchdcaaEnR
import Derived.Test.YtfbioinmgchdcaaFr6
namespace Go.Proofs.Ytfbioinmgchdcaa
open Go.RowKit
set_option linter.unusedSimpArgs false
set_option linter.unusedVariables false

theorem Try.rnFields : Try.prog.underlying 43 = some (.struct (Try.prog.fieldsOf 43)) := by kernel_rfl
theorem Try.rnHeld : Try.prog.stoodInHeld 43 = false := by kernel_rfl
theorem Try.rnGuard : Try.prog.eqGuardType Try.prog.depth 43 = false := by kernel_rfl
theorem Try.rnList : (Try.prog.fieldsOf 43).toList.map (fun f => (f.name, f.type, f.offset)) = [("V", 3, 0), ("Low", 3, 1), ("High", 3, 2), ("Bad", 4, 3)] := by kernel_rfl
theorem eql_rn (a : En) (w : World) : (binOp .eql 43 (enV a) (enV a)).run Try.prog w = .ok (.bool true) w := by
  rw [run_eql_struct, run_equalIn_agg _ _ _ _ _ Try.rnFields Try.rnHeld]
  rw [eqFields_map 9999 #[.int .i64 a.v, .int .i64 a.l, .int .i64 a.h, .bool a.bad] #[.int .i64 a.v, .int .i64 a.l, .int .i64 a.h, .bool a.bad] _ [{ name := "V", type := 3, offset := 0, embedded := false, tag := "", pkgPath := "", byteOffset := 0 }, { name := "Low", type := 3, offset := 1, embedded := false, tag := "", pkgPath := "", byteOffset := 0 }, { name := "High", type := 3, offset := 2, embedded := false, tag := "", pkgPath := "", byteOffset := 0 }, { name := "Bad", type := 4, offset := 3, embedded := false, tag := "", pkgPath := "", byteOffset := 0 }] Try.rnList]
  simp [Op.eqFields, part, go_sem]
theorem sumN_nil : sumN [] = zeroE := by
  unfold sumN
  exact ofN_it (n := 0) ⟨by omega, by omega⟩
theorem dotN_snoc (xs ys : List En) (k : Nat) (x y : En) (hx : xs[k]? = some x) (hy : ys[k]? = some y) : dotN (xs.take (k + 1)) (ys.take (k + 1)) = addE (dotN (xs.take k) (ys.take k)) (mulE x y) := by
  have h1 := (List.getElem?_eq_some_iff.1 hx).1
  have h2 := (List.getElem?_eq_some_iff.1 hy).1
  unfold dotN sumN
  rw [List.take_add_one, List.take_add_one, hx, hy, List.zipWith_append (by simp; omega)]
  simp
theorem dotN_take (xs ys : List En) (k : Nat) (h : k = min xs.length ys.length) : dotN (xs.take k) (ys.take k) = dotN xs ys := by
  unfold dotN
  congr 1
  subst h
  rw [List.zipWith_eq_zipWith_take_min (l₁ := xs)]
theorem rqN_at {w : World} {p : Option Addr} {cap l : Nat} {xs : List En} (h : Rq 4 cellsN w (.slice p l cap) xs) {k : Nat} {x : En} (hk : xs[k]? = some x) : ∃ b o, p = some ⟨b, o, none⟩ ∧ ∀ u, Bl w u → u.cell? ⟨b, o + k * 4, none⟩ = some (.int .i64 x.v) ∧ u.cell? ⟨b, o + k * 4 + 1, none⟩ = some (.int .i64 x.l) ∧ u.cell? ⟨b, o + k * 4 + 2, none⟩ = some (.int .i64 x.h) ∧ u.cell? ⟨b, o + k * 4 + 3, none⟩ = some (.bool x.bad) := by
  rcases h with ⟨_, _, _, h0, _⟩ | ⟨b, o, c, e, _, hlt, HX⟩
  · rw [h0] at hk; simp at hk
  · cases e
    exact ⟨b, o, rfl, fun u hu => ⟨(bl_cell hu _ _ hlt).trans (HX k x hk 0 _ rfl), (bl_cell hu _ _ hlt).trans (HX k x hk 1 _ rfl), (bl_cell hu _ _ hlt).trans (HX k x hk 2 _ rfl), (bl_cell hu _ _ hlt).trans (HX k x hk 3 _ rfl)⟩⟩
end Go.Proofs.Ytfbioinmgchdcaa
