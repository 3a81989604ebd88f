/- Contracts of mat's filled, Turn, of fractions (layer 6). Written by genMa.py. -/
import Derived.Test.YtljmggemdkfbiaaGreatMaDF
namespace Go.Proofs.YtljmggemdkfbiaaGreat
open Go.RowKit
set_option linter.unusedSimpArgs false
set_option linter.unusedVariables false

set_option maxHeartbeats 1000000 in
/-- A matrix that is filled by what a function tells of each place. -/
theorem mFilledF (G mb : Nat) (eg : ∀ (args : Array Value) (w : World), (callFunc G args).run Tryz.prog w = .ok (.enter G args) w) (f : Nat → Nat → Fr) (R C n : Nat) (hd : Dim R C) (hn : n = R * C) (w : World)
    (hG : ∀ i k u, i < R → k < C → Bl w u → Calls Tryz.prog G #[.int .i64 i, .int .i64 k, .pointer (some ⟨mb, 0, none⟩)] u fun e w' => e = .returned (frV (f i k)) ∧ Bl u w') :
    Calls Tryz.prog 130 #[.int .i64 R, .int .i64 C, .func (.func G) #[] #[.pointer (some ⟨mb, 0, none⟩)]] w fun e w' => ∃ p' cap', e = .returned (mV R C p' n cap') ∧ (Rw 3 cellsF w' (.slice p' n cap') (mk R C f) ∧ Fresh w.heap.size (.slice p' n cap')) ∧ Bl w w' := by
  obtain ⟨i0, hi, hz0, hz1, hz2⟩ := info_parts Tryz.info_F
  have hRC : (R : Int) * (C : Int) = n := by rw [hn]; simp
  have hn256 : n ≤ 256 := by rw [hn]; exact hd.lt
  have hR16 := hd.r2
  have hC16 := hd.c2
  have HG := hideP hG
  have HN := hideP hn
  clear hG hn
  have z0 := MBox.new w 0 0 none 0 0 30
  go_enter Tryz.func130, Tryz.ntmps130
  go_wp2_with (at_make; refine wpList_make_own _ rfl _ _ 28 rfl (w.heap.size + 1) 34 i0 (.agg #[.int .i64 0, .int .i64 0, .bool false]) 3 Tryz.underlying28 hi hz0 hz1 .i64 .i64 _ n rfl rfl (by simp) (by rw [hz2]; omega) (by unfold maxLen; omega) (by simp) ?_; intro w0 hown0 hgrow0)
  have hB0 : Bl w w0 := ((Bl.refl w).alloc _).grown hgrow0 (by simp) (fun k e => by cases e)
  have hz : MBox w0 w.heap.size 0 0 none 0 0 := mbox_block z0 (hgrow0.block _ z0.lt nofun) hgrow0.size
  clear hgrow0 z0
  go_loopw [7, 15] (fun v i wr => ∃ j : Nat, i = .int .i64 j ∧ j ≤ R ∧ wr.ownsRow (w.heap.size + 1) 34 3 v (mk j C f).length ((mk j C f).flatMap cellsF) ∧ MBox wr w.heap.size 0 0 none 0 0 ∧ Bl w wr) (fun _ i _ => R - (intOf i).toNat)
  case atStart => exact ⟨0, rfl, Nat.zero_le _, by rw [World.size_alloc] at hown0; exact hown0, hz, hB0⟩
  case round =>
    clear hown0 hz hB0
    obtain ⟨j, rfl, hj, hown, hz, hB⟩ := hrel
    by_cases hlt : j < R
    · go_wp2_with fail
      go_loopw [7, 19] (fun v i wr => ∃ k : Nat, i = .int .i64 k ∧ k ≤ C ∧ wr.ownsRow (w.heap.size + 1) 34 3 v (mk j C f ++ rowM k f j).length ((mk j C f ++ rowM k f j).flatMap cellsF) ∧ MBox wr w.heap.size 0 0 none 0 0 ∧ Bl w wr) (fun _ i _ => C - (intOf i).toNat)
      case atStart => exact ⟨0, rfl, Nat.zero_le _, by simpa [rowM] using hown, hz, hB⟩
      case round =>
        clear hown hz hB
        obtain ⟨k, rfl, hk, hown, hz, hB⟩ := hrel
        by_cases hlt2 : k < C
        · have HT := hideP (show mk j C f ++ rowM (k + 1) f j = (mk j C f ++ rowM k f j) ++ [f j k] by rw [rowM_succ, List.append_assoc])
          have hlen : (mk j C f ++ rowM k f j).length ≤ 256 := by
            have h1 : j * C + k < R * C := mk_idx hlt hlt2
            have := HN.out
            rw [List.length_append, mk_len, rowM_len]
            omega
          have G1 := hideP (HG.out j k _ hlt hlt2 hB)
          generalize mk j C f ++ rowM k f j = ys at *
          generalize f j k = x at *
          go_wp2_with fail
          refine G1.out.mono ?_
          rintro e w2 ⟨rfl, h2⟩
          replace hown := own_blF hown h2
          replace hz := hz.later h2
          replace hB := hB.trans h2
          have hys := hlen
          clear G1
          go_wp2_with (at_builtin; refine wpList_append_own _ rfl _ _ 28 rfl (w.heap.size + 1) 34 i0 (.agg #[.int .i64 0, .int .i64 0, .bool false]) 3 24 Tryz.underlying28 hi hz0 hz1 hz2 rfl (by decide) _ _ _ rfl (hown.alloc _) ⟨_, 0, none⟩ 1 1 (cellsF x) rfl rfl (newF_cells _ _ _) (oneF_cells _) (by unfold maxLen; omega) (by omega) (by have := hB.size; have := hz.lt; simp; omega) ?_; intro v' w1 hown' hgrow _)
          have R1 := own_more (ys := [x]) (hB.alloc _) (Nat.le_succ _) (hown.alloc _) (by simpa using hown') rfl hgrow
          have Z1 := (hz.later ((Bl.refl _).alloc _)).grown (hown.alloc _) hgrow (Nat.lt_succ_self _)
          clear hown hown' hgrow hz
          go_wp2
          go_roundw
          case rel => exact ⟨k + 1, by simp, hlt2, by rw [HT.out]; exact R1.2, Z1, R1.1⟩
          case measure => simp [intOf]; omega
        · obtain rfl : k = C := by omega
          have HT := hideP (mk_succ j k f)
          go_wp2_with fail
          go_roundw
          case rel => exact ⟨j + 1, by simp, hlt, by rw [HT.out]; exact hown, hz, hB⟩
          case measure => simp [intOf]; omega
    · obtain rfl : j = R := by omega
      have RW := hideP (Rw.of_own cellsF_len hown)
      have FR := hideP (show Fresh (w.heap.size + 1) _ from fun g hg => (hown.lt g hg).1)
      obtain ⟨p', cap', hv, hcc, _⟩ := RW.out.cut
      rw [mk_len, ← HN.out] at hv
      have HV := hideP hv
      clear hv
      obtain ⟨c0, c1, c2, f0, f1, f2, lt⟩ := hz
      clear hown
      rename_i v
      obtain rfl := HV.out
      go_wp2
      simp [bodyPost, results, Tryz.results130, go_sem, c0, c1, c2]
      refine ⟨p', cap', ⟨rfl, rfl⟩, ⟨((RW.out.set _ FR.out).set _ FR.out).set _ FR.out, fun g hg => by have := FR.out g hg; omega⟩, Bl.put3 hB (Nat.le_refl _) _ _ _⟩
theorem mTurn1F (R C : Nat) (p : Option Addr) (n cap : Nat) (f : Nat → Nat → Fr) (w : World) (h : Mx 3 cellsF w R C p n cap f) (mb : Nat) (hm : MBox w mb R C p n cap) (i k : Nat) (hi : i < C) (hk : k < R) :
    Calls Tryz.prog 131 #[.int .i64 i, .int .i64 k, .pointer (some ⟨mb, 0, none⟩)] w fun e w' => e = .returned (frV (f k i)) ∧ Bl w w' := by
  have A := hideP (fun u (hu : Bl w u) => mAtF R C p n cap f u (h.later hu) k i hk hi)
  obtain ⟨W, hW⟩ : ∃ W, W = w.alloc (.cells #[.int .i64 0, .int .i64 0, .bool false] 34) := ⟨_, rfl⟩
  have b0 : Bl w W := by rw [hW]; exact (Bl.refl _).alloc _
  have x0 : FBox W w.heap.size zeroR := by rw [hW]; exact FBox.new w zeroR 34
  obtain ⟨c0, c1, c2, f0, f1, f2, lt⟩ := hm
  have HW := hideP hW
  clear hW h
  generalize f k i = x at *
  go_enter Tryz.func131, Tryz.ntmps131
  go_wp2_with fail
  rw [← HW.out]
  refine (A.out _ b0).mono ?_
  rintro e w1 ⟨rfl, h1⟩
  clear c0 c1 c2 f0 f1 f2 A
  obtain ⟨d0, d1, d2, g0, g1, g2, lt2⟩ := x0.later h1
  go_wp2
  simp [bodyPost, results, Tryz.results131, go_sem, d0, d1, d2]
  exact Bl.set3 (b0.trans h1) (Nat.le_refl _) _ _ _
theorem mTurnF (R C : Nat) (p : Option Addr) (n cap : Nat) (f : Nat → Nat → Fr) (w : World) (h : Mx 3 cellsF w R C p n cap f) :
    Calls Tryz.prog 88 #[mV R C p n cap] w fun e w' => ∃ p' cap', e = .returned (mV C R p' n cap') ∧ (Mx 3 cellsF w' C R p' n cap' (fun i k => f k i) ∧ Rw 3 cellsF w' (.slice p' n cap') (mk C R (fun i k => f k i)) ∧ Fresh w.heap.size (.slice p' n cap')) ∧ Bl w w' := by
  have hfit := h.fit
  obtain ⟨W, hW⟩ : ∃ W, W = (w.alloc (.cells #[.int .i64 R, .int .i64 C, .slice p n cap] 30)).alloc (.cells #[.int .i64 0, .int .i64 0, .slice none 0 0] 30) := ⟨_, rfl⟩
  have b0 : Bl w W := by rw [hW]; exact ((Bl.refl _).alloc _).alloc _
  have m0 : MBox W w.heap.size R C p n cap := by rw [hW]; exact (MBox.new w _ _ _ _ _ _).later ((Bl.refl _).alloc _)
  have x0 : MBox W (w.heap.size + 1) 0 0 none 0 0 := by rw [hW]; have := MBox.new (w.alloc (.cells #[.int .i64 R, .int .i64 C, .slice p n cap] 30)) 0 0 none 0 0 30; rw [World.size_alloc] at this; exact this
  have hs : W.heap.size = w.heap.size + 1 + 1 := by rw [hW]; simp
  have FI := hideP (fun u (hu : Bl W u) => mFilledF 131 w.heap.size (enters_of Tryz.func131 (by kernel_rfl) rfl) (fun i k => f k i) C R n h.1.turn (by rw [h.2.1, Nat.mul_comm]) u
    (fun i k v hi hk hv => mTurn1F R C p n cap f v (h.later (b0.trans (hu.trans hv))) _ (m0.later (hu.trans hv)) i k hi hk))
  have HD := hideP h
  have HW := hideP hW
  clear hW h
  go_enter Tryz.func88, Tryz.ntmps88
  go_wp2_with fail
  rw [← HW.out]
  refine (mRightF _ _ _ _ _ _).mono ?_
  rintro e w1 ⟨rfl, h1⟩
  rw [hfit]
  obtain ⟨c0, c1, c2, f0, f1, f2, lt⟩ := m0.later h1
  go_wp2_with fail
  refine (FI.out _ h1).mono ?_
  rintro e w2 ⟨p', cap', rfl, ⟨hR, hF⟩, h2⟩
  have HR := hideP hR
  have HF := hideP (show Fresh (w.heap.size + 1 + 1) (.slice p' n cap') from fun g hg => by have := hF g hg; have := h1.size; omega)
  clear hR hF FI c0 c1 c2 f0 f1 f2
  obtain ⟨c0, c1, c2, f0, f1, f2, lt2⟩ := x0.later (h1.trans h2)
  go_wp2
  simp [bodyPost, results, Tryz.results88, go_sem, c0, c1, c2]
  have q := ((HR.out.set (p := ⟨w.heap.size + 1, 0, none⟩) (.int .i64 C) HF.out).set (p := ⟨w.heap.size + 1, 1, none⟩) (.int .i64 R) HF.out).set (p := ⟨w.heap.size + 1, 2, none⟩) (.slice p' n cap') HF.out
  refine ⟨p', cap', ⟨rfl, rfl⟩, ⟨⟨HD.out.1.turn, by rw [HD.out.2.1, Nat.mul_comm], q.q⟩, q, fun g hg => by have := HF.out g hg; omega⟩, Bl.put3 ((b0.trans h1).trans h2) (Nat.le_succ _) _ _ _⟩
end Go.Proofs.YtljmggemdkfbiaaGreat
