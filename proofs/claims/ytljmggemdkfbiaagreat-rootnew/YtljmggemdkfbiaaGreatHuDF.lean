/- Contract of house's fold, of fractions (layer 8). Written by genHu.py. -/
import Derived.Test.YtljmggemdkfbiaaGreatHuLF
import Derived.Test.YtljmggemdkfbiaaGreatTrAF
namespace Go.Proofs.YtljmggemdkfbiaaGreat
open Go.RowKit Go.Shelf
set_option linter.unusedSimpArgs false
set_option linter.unusedVariables false
attribute [local go_sem] Oper.semAt_some

theorem FBox.but {w w' : World} {b : Nat} {x : Fr} {S : Nat → Prop} (h : FBox w b x) (k : But S w w') (hs : ¬ S b) : FBox w' b x := by
  obtain ⟨c0, c1, c2, f0, f1, f2, lt⟩ := h
  refine ⟨(k.cell _ _ lt hs).trans c0, (k.cell _ _ lt hs).trans c1, (k.cell _ _ lt hs).trans c2, (k.froz _ _ lt hs).trans f0, (k.froz _ _ lt hs).trans f1, (k.froz _ _ lt hs).trans f2, Nat.lt_of_lt_of_le lt k.size⟩
theorem FBox.setc {w : World} {b g : Nat} {x : Fr} (h : FBox w b x) (hne : b ≠ g) (vs : List Value) (o : Nat) : FBox (w.setCells g o vs) b x :=
  h.but (S := fun i => i = g) (but_setCells (S := fun i => i = g) (b := g) rfl vs o w w (But.refl _ _)) hne
/-- A row from a place on, as the program takes it. -/
theorem Tryz.restF (b n cap lo : Nat) (w : World) (h1 : lo ≤ n) (h3 : n ≤ cap) (h4 : lo < cap) : (Instr.sliceAt 28 (.slice (some ⟨b, 0, none⟩) n cap) (some (.int .i64 lo)) none none).run Tryz.prog w = .ok (.slice (some ⟨b, lo * 3, none⟩) (n - lo) (cap - lo)) w := by
  have hu : Tryz.prog.underlying 28 = some (.slice (Tryz.prog.elem 28)) := by kernel_rfl
  obtain ⟨i0, hi0, hz0, hz1, hz2⟩ := info_parts Tryz.info_F
  have he : Tryz.prog.elem 28 = 34 := by kernel_rfl
  rw [run_sliceAt_slice (h := hu), run_slice_l (ht := hu) (h0 := by omega) (h1 := by omega), he]
  have hcm : ¬ cap = lo := by omega
  have hcm' : ¬ cap ≤ lo := by omega
  simp [sizeOf, typeInfo, hi0, sliced, Result.andThen, hz1, hcm, hcm', Addr.add]
  omega
theorem Tryz.info_TF : (Tryz.prog.info? 28).map (fun i => (i.zero, i.size, i.bytes)) = some (some (.slice none 0 0), 1, 24) := by kernel_rfl
theorem Tryz.sizeF : (Tryz.prog.info? 34).map (·.size) = some 3 := by kernel_rfl
end Go.Proofs.YtljmggemdkfbiaaGreat
