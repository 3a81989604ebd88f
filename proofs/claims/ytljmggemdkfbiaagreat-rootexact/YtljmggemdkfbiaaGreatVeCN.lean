/- Contracts of vec's Clone, Pairs, of enclosed numbers (layer 5). Written by genVe.py. -/
import Derived.Test.YtljmggemdkfbiaaGreatVeBN
namespace Go.Proofs.YtljmggemdkfbiaaGreat
open Go.RowKit
set_option linter.unusedSimpArgs false
set_option linter.unusedVariables false

theorem Tryz.nil0N (w : World) : (binOp .eql 46 (.slice none 0 0) (.slice none 0 0)).run Tryz.prog w = .ok (.bool true) w := by kernel_rfl
theorem Tryz.nil1N (a : Addr) (n cap : Nat) (w : World) : (binOp .eql 46 (.slice (some a) n cap) (.slice none 0 0)).run Tryz.prog w = .ok (.bool false) w := by kernel_rfl
set_option maxHeartbeats 1000000 in
theorem vCloneN (v : Value) (xs : List En) (w : World) (h : Rq 4 cellsN w v xs) (hl : xs.length ≤ 1000000) :
    Calls Tryz.prog 72 #[v] w fun e w' => ∃ u, e = .returned u ∧ Rw 4 cellsN w' u xs ∧ Fresh w.heap.size u ∧ Bl w w' := by
  have n0 := Tryz.nil0N
  have n1 := Tryz.nil1N
  obtain ⟨i0, hi, hz0, hz1, hz2⟩ := info_parts Tryz.info_N
  rcases h with ⟨p, cap, rfl, rfl, hpn⟩ | ⟨b, o, cap, rfl, hc, hb, hx⟩
  · rcases p with _ | ad
    · obtain rfl := hpn rfl
      go_enter Tryz.func72, Tryz.ntmps72
      go_wp2
      go_ret
      exact ⟨_, rfl, .inl ⟨rfl, rfl⟩, nofun, Bl.refl _⟩
    · clear n0
      go_enter Tryz.func72, Tryz.ntmps72
      go_wp2_with (at_builtin; refine wpList_append_own _ rfl _ _ 46 rfl w.heap.size 52 i0 (.agg #[.int .i64 0, .int .i64 0, .int .i64 0, .bool false]) 4 32 Tryz.underlying46 hi hz0 hz1 hz2 rfl (by decide) _ 0 [] rfl (World.ownsRow_made w #[] 0 (Nat.le_refl _) (by decide) rfl) ad 0 cap [] rfl (by simp) nofun nofun (by unfold maxLen; omega) (by omega) (by simp) ?_; intro v' w1 hown' hgrow _)
      have R := hideP (Rw.of_own (xs := []) cellsN_len (by simpa using hown'))
      have FR := hideP (show Fresh w.heap.size v' from fun g hg => (hown'.lt g hg).1)
      have hB : Bl w w1 := Below.grown (Below.alloc (Bl.refl w) (Nat.le_refl _) _) hgrow (by simp) (fun k e => by cases e; exact Nat.le_refl _)
      clear hown' hgrow
      go_wp2
      go_ret
      exact ⟨_, rfl, R.out, FR.out, hB⟩
  · have HX := hideP hx
    clear hx n0
    go_enter Tryz.func72, Tryz.ntmps72
    go_wp2_with (at_builtin; refine wpList_append_own _ rfl _ _ 46 rfl w.heap.size 52 i0 (.agg #[.int .i64 0, .int .i64 0, .int .i64 0, .bool false]) 4 32 Tryz.underlying46 hi hz0 hz1 hz2 rfl (by decide) _ 0 [] rfl (World.ownsRow_made w #[] 0 (Nat.le_refl _) (by decide) rfl) ⟨b, o, none⟩ xs.length cap (xs.flatMap cellsN) rfl (flat_len cellsN_len xs) (flat_cells cellsN_len ((Rw_cells_later HX.out hb ((Bl.refl _).alloc _)))) (flat_one oneN_cells xs) (by unfold maxLen; omega) (by omega) (by simp) ?_; intro v' w1 hown' hgrow _)
    have R := hideP (Rw.of_own (xs := xs) cellsN_len (by simpa using hown'))
    have FR := hideP (show Fresh w.heap.size v' from fun g hg => (hown'.lt g hg).1)
    have hB : Bl w w1 := Below.grown (Below.alloc (Bl.refl w) (Nat.le_refl _) _) hgrow (by simp) (fun k e => by cases e; exact Nat.le_refl _)
    clear hown' hgrow
    go_wp2
    go_ret
    exact ⟨_, rfl, R.out, FR.out, hB⟩
end Go.Proofs.YtljmggemdkfbiaaGreat
