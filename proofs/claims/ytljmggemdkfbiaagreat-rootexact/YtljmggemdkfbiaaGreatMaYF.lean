/- Contracts of mat's Unit, and of Whole with new memory, of fractions (layer 6). Written by genMa.py. -/
import Derived.Test.YtljmggemdkfbiaaGreatMaY0
import Derived.Test.YtljmggemdkfbiaaGreatMaAF
namespace Go.Proofs.YtljmggemdkfbiaaGreat
open Go.RowKit
set_option linter.unusedSimpArgs false
set_option linter.unusedVariables false

theorem mWholeF' (r c : Int) (p : Option Addr) (n cap : Nat) (ns : List Int) (w : World) (hr : Rq 1 (fun n => [.int .i64 n]) w (.slice p n cap) ns) (h : fitB r c n = true) (hn : ns.length = n) :
    Calls Tryz.prog 12 #[.int .i64 r, .int .i64 c, .slice p n cap] w fun e w' => ∃ p' cap', e = .returned (.tuple #[mV r c p' n cap', .bool true]) ∧ (Rw 3 cellsF w' (.slice p' n cap') (ns.map wholeF) ∧ Fresh w.heap.size (.slice p' n cap')) ∧ Bl w w' := by
  have hl : n ≤ 1000000 := by obtain ⟨R, C, _, _, hd, rfl⟩ := fitB_nat h; have := hd.lt; omega
  obtain ⟨W, hW⟩ : ∃ W, W = w.alloc (.cells #[.int .i64 0, .int .i64 0, .slice none 0 0] 30) := ⟨_, rfl⟩
  have b0 : Bl w W := by rw [hW]; exact (Bl.refl _).alloc _
  have x0 : MBox W w.heap.size 0 0 none 0 0 := by rw [hW]; exact MBox.new w 0 0 none 0 0 _
  have hsz : W.heap.size = w.heap.size + 1 := by rw [hW]; simp
  have CL := hideP (vWholeF' (.slice p n cap) ns W (hr.later b0) (by omega))
  have HW := hideP hW
  clear hW hr
  go_enter Tryz.func12, Tryz.ntmps12
  go_wp2_with fail
  rw [← HW.out]
  refine (fits_any _ _ _ _).mono ?_
  rintro e w1 ⟨rfl, rfl⟩
  rw [h]
  go_wp2_with fail
  refine CL.out.mono ?_
  rintro e w2 ⟨u, rfl, hR, hF, h2⟩
  obtain ⟨p', cap', rfl, _, _⟩ := hR.cut
  rw [List.length_map, hn] at hR hF ⊢
  have HR := hideP hR
  have HF := hideP hF
  obtain ⟨c0, c1, c2, f0, f1, f2, lt⟩ := x0.later h2
  clear hR hF CL
  go_wp2
  simp [bodyPost, results, Tryz.results12, go_sem, c0, c1, c2]
  refine ⟨p', cap', ⟨rfl, rfl⟩, ⟨((HR.out.set _ ?_).set _ ?_).set _ ?_, fun g hg => ?_⟩, Bl.put3 (b0.trans h2) (Nat.le_refl _) _ _ _⟩
  · exact fun g hg => by have := HF.out g hg; show w.heap.size + 1 ≤ g; omega
  · exact fun g hg => by have := HF.out g hg; show w.heap.size + 1 ≤ g; omega
  · exact fun g hg => by have := HF.out g hg; show w.heap.size + 1 ≤ g; omega
  · have := HF.out g hg; omega
set_option maxHeartbeats 1000000 in
theorem mUnitF (m n : Nat) (h1 : 1 ≤ m) (h2 : m ≤ 16) (hn : n = m * m) (w : World) :
    Calls Tryz.prog 96 #[.int .i64 m] w fun e w' => ∃ p' cap', e = .returned (.tuple #[mV m m p' n cap', .bool true]) ∧ Mx 3 cellsF w' m m p' n cap' (fun i k => wholeF (unitI i k)) ∧ Bl w w' := by
  obtain ⟨i0, hi, hz0, hz1, hz2⟩ := info_parts Tryz.info_I
  have hs : sideB m = true := decide_eq_true ⟨by omega, by omega⟩
  have hd : Dim m m := ⟨h1, h2, h1, h2⟩
  have hmm : (m : Int) * (m : Int) = n := by rw [hn]; simp
  have hn256 : n ≤ 256 := by rw [hn]; exact hd.lt
  have hfit := hideP (fitB_dim hd hn)
  have HN := hideP hn
  clear hn
  have z0 := MBox.new w 0 0 none 0 0 30
  go_enter Tryz.func96, Tryz.ntmps96
  go_wp2_with fail
  refine (side_any _ _).mono ?_
  rintro e w1 ⟨rfl, rfl⟩
  rw [hs]
  go_wp2_with (at_make; refine wpList_make_full _ rfl _ _ 22 rfl (w.heap.size + 1) 3 i0 (.int .i64 0) 1 Tryz.underlying22 hi hz0 hz1 .i64 .i64 _ _ n rfl rfl (by simp) (by simp) (by rw [hz2]; omega) (by unfold maxLen; omega) (by simp) ?_; intro w0 hown0 hgrow0)
  rw [unit_made m n HN.out] at hown0
  have hB0 : Bl w w0 := ((Bl.refl w).alloc _).grown hgrow0 (by simp) (fun k e => by cases e)
  have hz : MBox w0 w.heap.size 0 0 none 0 0 := mbox_block z0 (hgrow0.block _ z0.lt nofun) hgrow0.size
  clear hgrow0 z0
  try simp only [World.size_alloc] at hown0 ⊢
  go_loopw [15] (fun i wr => ∃ j : Nat, i = .int .i64 j ∧ j ≤ m ∧ wr.ownsRow (w.heap.size + 1) 3 1 (.slice (some ⟨w.heap.size + 1, 0, none⟩) n n) n ((mk m m (unitTo j)).flatMap cellsI) ∧ MBox wr w.heap.size 0 0 none 0 0 ∧ Bl w wr) (fun i _ => m - (intOf i).toNat)
  case atStart => exact ⟨0, rfl, Nat.zero_le _, hown0, hz, hB0⟩
  case round =>
    clear hown0 hz hB0
    obtain ⟨j, rfl, hj, hown, hz, hB⟩ := hrel
    by_cases hlt : j < m
    · obtain ⟨a, q, e1, e2, hq1, hq3, hq5, hq6⟩ := place hd hlt hlt
      rw [← HN.out] at hq5
      have cq : wr.cell? ⟨w.heap.size + 1, q, none⟩ = some (.int .i64 (unitTo j j j)) := by
        rw [hown.cellAt q (by omega), flatI_map, List.getElem?_map, e2, mk_get _ hlt hlt]; rfl
      have fq := hown.frozenAt q
      have ST := hideP (hown.stored q (.int .i64 1))
      have EQ := hideP e2
      clear hown e1 e2
      generalize unitTo j j j = x at *
      go_wp2
      go_roundw
      case rel =>
        refine ⟨j + 1, by simp, hlt, ?_, mbox_block hz (ST.out.2.block _ hz.lt (by simp)) ST.out.2.size, Bl.set hB (Nat.le_succ _) _⟩
        have := ST.out.1
        rw [EQ.out] at this ⊢
        rw [unitTo_cells m j hlt] at this
        exact this
      case measure => simp [intOf]; omega
    · obtain rfl : j = m := by omega
      have hr : Rq 1 cI wr (.slice (some ⟨w.heap.size + 1, 0, none⟩) n n) (mk j j unitI) := by
        rw [← unitTo_all]
        exact (Rw.of_own cellsI_len (xs := mk j j (unitTo j)) (by rw [mk_len, ← HN.out]; exact hown)).q
      have WH := hideP (mWholeF' j j _ n n (mk j j unitI) wr hr hfit.out (by rw [mk_len, HN.out]))
      clear hr hown
      go_wp2_with fail
      refine WH.out.mono ?_
      rintro e w2 ⟨p', cap', rfl, ⟨hR, hF⟩, h2⟩
      have HR := hideP hR
      have HF := hideP (show Fresh (w.heap.size + 1) (.slice p' n cap') from fun g hg => by have := hF g hg; have := hz.lt; omega)
      clear hR hF WH
      obtain ⟨c0, c1, c2, f0, f1, f2, lt⟩ := hz.later h2
      go_wp2
      simp [bodyPost, results, Tryz.results96, go_sem, c0, c1, c2]
      have q := ((HR.out.set (p := ⟨w.heap.size, 0, none⟩) (.int .i64 j) HF.out).set (p := ⟨w.heap.size, 1, none⟩) (.int .i64 j) HF.out).set (p := ⟨w.heap.size, 2, none⟩) (.slice p' n cap') HF.out
      rw [mk_map] at q
      exact ⟨p', cap', ⟨rfl, rfl⟩, ⟨hd, HN.out, q.q⟩, Bl.put3 (hB.trans h2) (Nat.le_refl _) _ _ _⟩
end Go.Proofs.YtljmggemdkfbiaaGreat
