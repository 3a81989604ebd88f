/- Two enclosed numbers that are the same, compared; Whole of enclosed numbers. -/
import Derived.Test.YtljmggemdkfbiaaGreatFr3
import Derived.Test.YtljmggemdkfbiaaGreatMaAN
import Derived.Test.YtljmggemdkfbiaaGreatMaH
namespace Go.Proofs.YtljmggemdkfbiaaGreat
open Go.RowKit
set_option linter.unusedSimpArgs false
set_option linter.unusedVariables false

theorem Tryz.nnFields : Tryz.prog.underlying 52 = some (.struct (Tryz.prog.fieldsOf 52)) := by kernel_rfl
theorem Tryz.nnHeld : Tryz.prog.stoodInHeld 52 = false := by kernel_rfl
theorem Tryz.nnGuard : Tryz.prog.eqGuardType Tryz.prog.depth 52 = false := by kernel_rfl
theorem Tryz.nnList : (Tryz.prog.fieldsOf 52).toList.map (fun f => (f.name, f.type, f.offset)) = [("V", 3, 0), ("Low", 3, 1), ("High", 3, 2), ("Bad", 4, 3)] := by kernel_rfl
theorem neq_nn (a : En) (w : World) : (binOp .neq 52 (enV a) (enV a)).run Tryz.prog w = .ok (.bool false) w := by
  rw [run_neq_struct, run_equalIn_agg _ _ _ _ _ Tryz.nnFields Tryz.nnHeld]
  rw [eqFields_map 9999 #[.int .i64 a.v, .int .i64 a.l, .int .i64 a.h, .bool a.bad] #[.int .i64 a.v, .int .i64 a.l, .int .i64 a.h, .bool a.bad] _ [{ name := "V", type := 3, offset := 0, embedded := false, tag := "", pkgPath := "", byteOffset := 0 }, { name := "Low", type := 3, offset := 1, embedded := false, tag := "", pkgPath := "", byteOffset := 0 }, { name := "High", type := 3, offset := 2, embedded := false, tag := "", pkgPath := "", byteOffset := 0 }, { name := "Bad", type := 4, offset := 3, embedded := false, tag := "", pkgPath := "", byteOffset := 0 }] Tryz.nnList]
  simp [Op.eqFields, part, go_sem]
theorem whole8N_call (R C : Nat) (p : Option Addr) (n cap : Nat) (ns : List Int) (w : World) (hr : Rq 1 cI w (.slice p n cap) ns) (hd : Dim R C) (hn : n = R * C) (hl : ns.length = n) :
    Calls Tryz.prog 33 #[.int .i64 R, .int .i64 C, .slice p n cap] w fun e w' => ∃ p' cap', e = .returned (.tuple #[mV R C p' n cap', .bool true]) ∧ Mx 4 cellsN w' R C p' n cap' (fun i k => wholeN (ofL C ns i k)) ∧ Bl w w' := by
  refine (mWholeN R C p n cap ns w hr (fitB_dim hd hn) hl).mono ?_
  rintro e w' ⟨p', cap', rfl, hR, hb⟩
  refine ⟨p', cap', rfl, ⟨hd, hn, ?_⟩, hb⟩
  have e := ofL_mk (R := R) (M := C) (ns := ns) (by rw [hl, hn])
  rw [e, mk_map] at hR
  exact hR.q
end Go.Proofs.YtljmggemdkfbiaaGreat
