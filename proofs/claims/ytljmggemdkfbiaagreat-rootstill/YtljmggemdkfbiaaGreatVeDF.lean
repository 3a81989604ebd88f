/- Contracts of vec's Pairs, of fractions (layer 5). Written by genVe.py. -/
import Derived.Test.YtljmggemdkfbiaaGreatVeCF
import Derived.Deep.RegionHeld3
import Derived.Deep.RegionWith
namespace Go.Proofs.YtljmggemdkfbiaaGreat
open Go.RowKit
set_option linter.unusedSimpArgs false
set_option linter.unusedVariables false

theorem Tryz.cutF (p : Option Addr) (n cap m : Nat) (w : World) (h : m ≤ cap) : (Instr.sliceAt 28 (.slice p n cap) none (some (.int .i64 m)) none).run Tryz.prog w = .ok (.slice p m cap) w := by
  have hu : Tryz.prog.underlying 28 = some (.slice (Tryz.prog.elem 28)) := by kernel_rfl
  obtain ⟨i0, hi, hz0, hz1, hz2⟩ := info_parts Tryz.info_F
  have he : Tryz.prog.elem 28 = 34 := by kernel_rfl
  rw [run_sliceAt_slice (h := hu), run_slice_h (ht := hu) (h0 := by omega) (h2 := by omega), he]
  have e0 : p.map (fun a => a.add 0) = p := by cases p <;> simp [Addr.add]
  simp [sizeOf, typeInfo, hi, sliced, e0, Result.andThen]
theorem cloneF_cut {p : Option Addr} {cap : Nat} {xs : List Fr} {w W : World} (hb : Bl w W) (CA : ∀ m, m ≤ xs.length → Rq 3 cellsF w (.slice p m cap) (xs.take m)) (hl : xs.length ≤ 1000000) :
    ∀ m, m ≤ xs.length → ∀ u, Bl W u → Calls Tryz.prog 66 #[.slice p m cap] u fun e w' => ∃ p1 k1, e = .returned (.slice p1 m k1) ∧ (Rw 3 cellsF w' (.slice p1 m k1) (xs.take m) ∧ Fresh u.heap.size (.slice p1 m k1)) ∧ Bl u w' := by
  intro m h u hu
  refine (vCloneF (.slice p m cap) (xs.take m) u ((CA m h).later (hb.trans hu)) (by simp; omega)).mono ?_
  rintro e w' ⟨v, rfl, hr, hf, hbl⟩
  obtain ⟨p1, k1, rfl, _, _⟩ := hr.cut
  have hl' : (xs.take m).length = m := by simp; omega
  rw [hl'] at hr hf ⊢
  exact ⟨p1, k1, rfl, ⟨hr, hf⟩, hbl⟩
set_option maxHeartbeats 1000000 in
theorem vPairsF (va vb : Value) (xs ys : List Fr) (w : World) (ha : Rq 3 cellsF w va xs) (hb : Rq 3 cellsF w vb ys) (hl : xs.length ≤ 1000000) (hm : ys.length ≤ 1000000) :
    Calls Tryz.prog 134 #[va, vb] w fun e w' => e = .returned (.func (.func 152) #[] #[.pointer (some ⟨w.heap.size, 0, none⟩), .pointer (some ⟨w.heap.size + 1, 0, none⟩)]) ∧
      PairsIn 3 cellsF w' w.heap.size w'.heap.size w.heap.size (w.heap.size + 1) (xs.take (min xs.length ys.length)) (ys.take (min xs.length ys.length)) ∧ Bl w w' := by
  obtain ⟨p, cap, rfl, hc, CA⟩ := ha.cut
  obtain ⟨q, dap, rfl, hd, CB⟩ := hb.cut
  obtain ⟨W, X⟩ := twoS_ex w (.slice p xs.length cap) (.slice q ys.length dap) 28
  have HX := hideP X
  have sl1 := fun m u (h : m ≤ cap) => Tryz.cutF p xs.length cap m u h
  have sl2 := fun m u (h : m ≤ dap) => Tryz.cutF q ys.length dap m u h
  have HA := hideP (cloneF_cut X.bl CA hl)
  have HB := hideP (cloneF_cut X.bl CB hm)
  clear CA CB ha hb X
  by_cases hlt : ys.length < xs.length
  · rw [show min xs.length ys.length = ys.length by omega]
    have A := hideP (HA.out ys.length (by omega))
    have B := hideP (HB.out ys.length (by omega))
    have s1 := fun u => sl1 ys.length u (by omega)
    have s2 := fun u => sl2 ys.length u (by omega)
    have hm0 : min (xs.length : Int) (ys.length : Int) = (ys.length : Int) := by omega
    clear HA HB sl1 sl2
    go_enter Tryz.func134, Tryz.ntmps134
    go_wp2_with fail
    rw [← HX.out.eq]
    obtain ⟨c0, c1, f0, f1⟩ := HX.out.k _ ((Bl.refl _).drew)
    go_region_with (first
      | (go_at_call_of 66 #[Value.slice p ys.length cap]; refine (A.out _ ((Bl.refl _).drew)).mono ?_; rintro e w1 ⟨p1, k1, rfl, R1, h1⟩; obtain ⟨d0, d1, g0, g1⟩ := HX.out.k _ (((Bl.refl _).drew).trans h1))
      | (go_at_call_of 66 #[Value.slice q ys.length dap]; refine (B.out _ (((Bl.refl _).drew).trans h1)).mono ?_; rintro e w2 ⟨p2, k2, rfl, R2, h2⟩; obtain ⟨e0, e1, l0, l1⟩ := HX.out.k _ ((((Bl.refl _).drew).trans h1).trans h2)))
    all_goals
      clear c0 c1 f0 f1 d0 d1 g0 g1 s1 s2 A B
      go_wp2
      go_ret
      refine ⟨rfl, ?_, ?_⟩
      · have hs := HX.out.size
        have h1s := Below.size h1
        have h2s := Below.size h2
        have hd : W.drew.heap.size = W.heap.size := rfl
        have q1 : Rw 3 cellsF ((w2.setCell ⟨w.heap.size, 0, none⟩ (.slice p1 ys.length k1)).setCell ⟨w.heap.size + 1, 0, none⟩ (.slice p2 ys.length k2)) (.slice p1 ys.length k1) _ := ((R1.1.later h2).set _ (fun g hg => by have := R1.2 g hg; show w.heap.size + 1 ≤ g; omega)).set _ (fun g hg => by have := R1.2 g hg; show w.heap.size + 1 + 1 ≤ g; omega)
        have q2 : Rw 3 cellsF ((w2.setCell ⟨w.heap.size, 0, none⟩ (.slice p1 ys.length k1)).setCell ⟨w.heap.size + 1, 0, none⟩ (.slice p2 ys.length k2)) (.slice p2 ys.length k2) _ := (R2.1.set _ (fun g hg => by have := R2.2 g hg; show w.heap.size + 1 ≤ g; omega)).set _ (fun g hg => by have := R2.2 g hg; show w.heap.size + 1 + 1 ≤ g; omega)
        refine ⟨_, _, Nat.le_refl _, by simp; omega, by omega, by simp; omega, ?_, ?_, q1, q2, fun g hg => ⟨by have := R1.2 g hg; omega, q1.lt g hg⟩, fun g hg => ⟨by have := R2.2 g hg; omega, q2.lt g hg⟩, by simp; omega⟩
        · simp [go_sem, e0, e1]
        · simp [go_sem, e0, e1]
      · exact Bl.set (Bl.set ((HX.out.bl.trans (((Bl.refl _).drew).trans h1)).trans h2) (Nat.le_refl _) _) (by show w.heap.size ≤ w.heap.size + 1; omega) _
  · rw [show min xs.length ys.length = xs.length by omega]
    have A := hideP (HA.out xs.length (by omega))
    have B := hideP (HB.out xs.length (by omega))
    have s1 := fun u => sl1 xs.length u (by omega)
    have s2 := fun u => sl2 xs.length u (by omega)
    have hm0 : min (xs.length : Int) (ys.length : Int) = (xs.length : Int) := by omega
    clear HA HB sl1 sl2
    go_enter Tryz.func134, Tryz.ntmps134
    go_wp2_with fail
    rw [← HX.out.eq]
    obtain ⟨c0, c1, f0, f1⟩ := HX.out.k _ ((Bl.refl _).drew)
    go_region_with (first
      | (go_at_call_of 66 #[Value.slice p xs.length cap]; refine (A.out _ ((Bl.refl _).drew)).mono ?_; rintro e w1 ⟨p1, k1, rfl, R1, h1⟩; obtain ⟨d0, d1, g0, g1⟩ := HX.out.k _ (((Bl.refl _).drew).trans h1))
      | (go_at_call_of 66 #[Value.slice q xs.length dap]; refine (B.out _ (((Bl.refl _).drew).trans h1)).mono ?_; rintro e w2 ⟨p2, k2, rfl, R2, h2⟩; obtain ⟨e0, e1, l0, l1⟩ := HX.out.k _ ((((Bl.refl _).drew).trans h1).trans h2)))
    all_goals
      clear c0 c1 f0 f1 d0 d1 g0 g1 s1 s2 A B
      go_wp2
      go_ret
      refine ⟨rfl, ?_, ?_⟩
      · have hs := HX.out.size
        have h1s := Below.size h1
        have h2s := Below.size h2
        have hd : W.drew.heap.size = W.heap.size := rfl
        have q1 : Rw 3 cellsF ((w2.setCell ⟨w.heap.size, 0, none⟩ (.slice p1 xs.length k1)).setCell ⟨w.heap.size + 1, 0, none⟩ (.slice p2 xs.length k2)) (.slice p1 xs.length k1) _ := ((R1.1.later h2).set _ (fun g hg => by have := R1.2 g hg; show w.heap.size + 1 ≤ g; omega)).set _ (fun g hg => by have := R1.2 g hg; show w.heap.size + 1 + 1 ≤ g; omega)
        have q2 : Rw 3 cellsF ((w2.setCell ⟨w.heap.size, 0, none⟩ (.slice p1 xs.length k1)).setCell ⟨w.heap.size + 1, 0, none⟩ (.slice p2 xs.length k2)) (.slice p2 xs.length k2) _ := (R2.1.set _ (fun g hg => by have := R2.2 g hg; show w.heap.size + 1 ≤ g; omega)).set _ (fun g hg => by have := R2.2 g hg; show w.heap.size + 1 + 1 ≤ g; omega)
        refine ⟨_, _, Nat.le_refl _, by simp; omega, by omega, by simp; omega, ?_, ?_, q1, q2, fun g hg => ⟨by have := R1.2 g hg; omega, q1.lt g hg⟩, fun g hg => ⟨by have := R2.2 g hg; omega, q2.lt g hg⟩, by simp; omega⟩
        · simp [go_sem, e0, e1]
        · simp [go_sem, e0, e1]
      · exact Bl.set (Bl.set ((HX.out.bl.trans (((Bl.refl _).drew).trans h1)).trans h2) (Nat.le_refl _) _) (by show w.heap.size ≤ w.heap.size + 1; omega) _
end Go.Proofs.YtljmggemdkfbiaaGreat
