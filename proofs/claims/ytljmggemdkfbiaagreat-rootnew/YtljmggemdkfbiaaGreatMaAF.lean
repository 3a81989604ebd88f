/- Contracts of mat's Right, New, Whole, of fractions (layer 6). Written by genMa.py. -/
import Derived.Test.YtljmggemdkfbiaaGreatMa0
import Derived.Test.YtljmggemdkfbiaaGreatVeHF
namespace Go.Proofs.YtljmggemdkfbiaaGreat
open Go.RowKit
set_option linter.unusedSimpArgs false
set_option linter.unusedVariables false

theorem mRightF (r c : Int) (p : Option Addr) (n cap : Nat) (w : World) :
    Calls Tryz.prog 85 #[mV r c p n cap] w fun e w' => e = .returned (.bool (fitB r c n)) ∧ Bl w w' := by
  go_enter Tryz.func85, Tryz.ntmps85
  go_wp2_with fail
  refine (fits_any _ _ _ _).mono ?_
  rintro e w1 ⟨rfl, rfl⟩
  go_wp2
  go_ret
  exact ⟨rfl, (Bl.refl _).alloc _⟩
theorem mNewF_no (r c : Int) (p : Option Addr) (n cap : Nat) (w : World) (h : fitB r c n = false) :
    Calls Tryz.prog 98 #[.int .i64 r, .int .i64 c, .slice p n cap] w fun e w' => e = .returned (.tuple #[mV 0 0 none 0 0, .bool false]) ∧ Bl w w' := by
  go_enter Tryz.func98, Tryz.ntmps98
  go_wp2_with fail
  refine (fits_any _ _ _ _).mono ?_
  rintro e w1 ⟨rfl, rfl⟩
  rw [h]
  go_wp2
  simp [bodyPost, results, Tryz.results98, go_sem]
  exact (Bl.refl _).alloc _
theorem mNewF (r c : Int) (p : Option Addr) (n cap : Nat) (xs : List Fr) (w : World) (hr : Rq 3 cellsF w (.slice p n cap) xs) (h : fitB r c n = true) (hn : xs.length = n) :
    Calls Tryz.prog 98 #[.int .i64 r, .int .i64 c, .slice p n cap] w fun e w' => ∃ p' cap', e = .returned (.tuple #[mV r c p' n cap', .bool true]) ∧ (Rw 3 cellsF w' (.slice p' n cap') xs ∧ Fresh w.heap.size (.slice p' n cap')) ∧ Bl w w' := by
  have hl : n ≤ 1000000 := by obtain ⟨R, C, _, _, hd, rfl⟩ := fitB_nat h; have := hd.lt; omega
  obtain ⟨W, hW⟩ : ∃ W, W = w.alloc (.cells #[.int .i64 0, .int .i64 0, .slice none 0 0] 30) := ⟨_, rfl⟩
  have b0 : Bl w W := by rw [hW]; exact (Bl.refl _).alloc _
  have x0 : MBox W w.heap.size 0 0 none 0 0 := by rw [hW]; exact MBox.new w 0 0 none 0 0 _
  have hsz : W.heap.size = w.heap.size + 1 := by rw [hW]; simp
  have CL := hideP (vCloneF (.slice p n cap) xs W (hr.later b0) (by omega))
  have HW := hideP hW
  clear hW hr
  go_enter Tryz.func98, Tryz.ntmps98
  go_wp2_with fail
  rw [← HW.out]
  refine (fits_any _ _ _ _).mono ?_
  rintro e w1 ⟨rfl, rfl⟩
  rw [h]
  go_wp2_with fail
  refine CL.out.mono ?_
  rintro e w2 ⟨u, rfl, hR, hF, h2⟩
  obtain ⟨p', cap', rfl, _, _⟩ := hR.cut
  rw [hn] at hR hF ⊢
  have HR := hideP hR
  have HF := hideP hF
  obtain ⟨c0, c1, c2, f0, f1, f2, lt⟩ := x0.later h2
  clear hR hF CL
  go_wp2
  simp [bodyPost, results, Tryz.results98, go_sem, c0, c1, c2]
  refine ⟨p', cap', ⟨rfl, rfl⟩, ⟨((HR.out.set _ ?_).set _ ?_).set _ ?_, fun g hg => ?_⟩, Bl.put3 (b0.trans h2) (Nat.le_refl _) _ _ _⟩
  · exact fun g hg => by have := HF.out g hg; show w.heap.size + 1 ≤ g; omega
  · exact fun g hg => by have := HF.out g hg; show w.heap.size + 1 ≤ g; omega
  · exact fun g hg => by have := HF.out g hg; show w.heap.size + 1 ≤ g; omega
  · have := HF.out g hg; omega
theorem mWholeF_no (r c : Int) (p : Option Addr) (n cap : Nat) (w : World) (h : fitB r c n = false) :
    Calls Tryz.prog 12 #[.int .i64 r, .int .i64 c, .slice p n cap] w fun e w' => e = .returned (.tuple #[mV 0 0 none 0 0, .bool false]) ∧ Bl w w' := by
  go_enter Tryz.func12, Tryz.ntmps12
  go_wp2_with fail
  refine (fits_any _ _ _ _).mono ?_
  rintro e w1 ⟨rfl, rfl⟩
  rw [h]
  go_wp2
  simp [bodyPost, results, Tryz.results12, go_sem]
  exact (Bl.refl _).alloc _
theorem mWholeF (r c : Int) (p : Option Addr) (n cap : Nat) (ns : List Int) (w : World) (hr : Rq 1 (fun n => [.int .i64 n]) w (.slice p n cap) ns) (h : fitB r c n = true) (hn : ns.length = n) :
    Calls Tryz.prog 12 #[.int .i64 r, .int .i64 c, .slice p n cap] w fun e w' => ∃ p' cap', e = .returned (.tuple #[mV r c p' n cap', .bool true]) ∧ Rw 3 cellsF w' (.slice p' n cap') (ns.map wholeF) ∧ Bl w w' := by
  have hl : n ≤ 1000000 := by obtain ⟨R, C, _, _, hd, rfl⟩ := fitB_nat h; have := hd.lt; omega
  obtain ⟨W, hW⟩ : ∃ W, W = w.alloc (.cells #[.int .i64 0, .int .i64 0, .slice none 0 0] 30) := ⟨_, rfl⟩
  have b0 : Bl w W := by rw [hW]; exact (Bl.refl _).alloc _
  have x0 : MBox W w.heap.size 0 0 none 0 0 := by rw [hW]; exact MBox.new w 0 0 none 0 0 _
  have hsz : W.heap.size = w.heap.size + 1 := by rw [hW]; simp
  have CL := hideP (vWholeF' (.slice p n cap) ns W (hr.later b0) (by omega))
  have HW := hideP hW
  clear hW hr
  go_enter Tryz.func12, Tryz.ntmps12
  go_wp2_with fail
  rw [← HW.out]
  refine (fits_any _ _ _ _).mono ?_
  rintro e w1 ⟨rfl, rfl⟩
  rw [h]
  go_wp2_with fail
  refine CL.out.mono ?_
  rintro e w2 ⟨u, rfl, hR, hF, h2⟩
  obtain ⟨p', cap', rfl, _, _⟩ := hR.cut
  rw [List.length_map, hn] at hR hF ⊢
  have HR := hideP hR
  have HF := hideP hF
  obtain ⟨c0, c1, c2, f0, f1, f2, lt⟩ := x0.later h2
  clear hR hF CL
  go_wp2
  simp [bodyPost, results, Tryz.results12, go_sem, c0, c1, c2]
  refine ⟨p', cap', ⟨rfl, rfl⟩, ((HR.out.set _ ?_).set _ ?_).set _ ?_, Bl.put3 (b0.trans h2) (Nat.le_refl _) _ _ _⟩
  · exact fun g hg => by have := HF.out g hg; show w.heap.size + 1 ≤ g; omega
  · exact fun g hg => by have := HF.out g hg; show w.heap.size + 1 ≤ g; omega
  · exact fun g hg => by have := HF.out g hg; show w.heap.size + 1 ≤ g; omega
end Go.Proofs.YtljmggemdkfbiaaGreat
