/- Contract of the document's Mul (layer 6). -/
import Derived.Test.YtljmggemdkfbiaaGreatMaH
namespace Go.Proofs.YtljmggemdkfbiaaGreat
open Go.RowKit
set_option linter.unusedSimpArgs false
set_option linter.unusedVariables false

theorem own_blI {w w' : World} {B n : Nat} {v : Value} {l : List Value} (h : w.ownsRow B 3 1 v n l) (k : Bl w w') : w'.ownsRow B 3 1 v n l := by
  refine ⟨h.1, ?_⟩
  rcases h.2 with hn | ⟨g, cap, cur, rfl, hb, hg, rest⟩
  · exact .inl hn
  · exact .inr ⟨g, cap, cur, rfl, hb, (Below.block k g (Array.getElem?_eq_some_iff.1 hg).1).trans hg, rest⟩
theorem newI_cells (w : World) (x : Int) (t : TypeId) : ∀ j u, (cellsI x)[j]? = some u → (w.alloc (.cells #[.int .i64 x] t)).cell? ((⟨w.heap.size, 0, none⟩ : Addr).add j) = some u := by
  intro j u hu
  unfold cellsI at hu
  rcases j with _ | j
  · simp at hu
    subst hu
    simp [go_sem, Addr.add]
  · simp at hu
set_option maxHeartbeats 2000000 in
theorem ref6Mul_any (pa qa : Option Addr) (na ca nb cb : Nat) (xa xb : List Int) (R M D : Nat) (w : World) (hd : Dim R M) (he : Dim M D) (ha : Rq 1 cI w (.slice pa na ca) xa) (hb : Rq 1 cI w (.slice qa nb cb) xb) (la : xa.length = R * M) (lb : xb.length = M * D) (lna : na = R * M) (lnb : nb = M * D) (sa : Sml 100 xa) (sb : Sml 100 xb) :
    Calls Tryz.prog 69 #[.slice pa na ca, .int .i64 R, .int .i64 M, .slice qa nb cb, .int .i64 D] w fun e w' => ∃ p cap, e = .returned (.slice p (R * D) cap) ∧ Rw 1 cellsI w' (.slice p (R * D) cap) (mk R D (mulI M (ofL M xa) (ofL D xb))) ∧ Bl w w' := by
  obtain ⟨i0, hi, hz0, hz1, hz2⟩ := info_parts Tryz.info_I
  have fm : Tryz.prog.follows .mixedOrders = true := by kernel_rfl
  have CA : ∀ i j, i < R → j < M → ∃ b o, pa = some ⟨b, o, none⟩ ∧ ∀ u, Bl w u → u.cell? ⟨b, o + (i * M + j), none⟩ = some (.int .i64 (ofL M xa i j)) := by
    intro i j hi' hj
    have hg := ofL_get la hi' hj
    rcases ha with ⟨_, _, _, h0, _⟩ | ⟨b, o, cc, e, _, hlt, HX⟩
    · rw [h0] at hg; simp at hg
    · cases e
      exact ⟨b, o, rfl, fun u hu => (bl_cell hu _ _ hlt).trans (cellI HX hg (wr := w))⟩
  have CB : ∀ j k, j < M → k < D → ∃ b o, qa = some ⟨b, o, none⟩ ∧ ∀ u, Bl w u → u.cell? ⟨b, o + (j * D + k), none⟩ = some (.int .i64 (ofL D xb j k)) := by
    intro i j hi' hj
    have hg := ofL_get lb hi' hj
    rcases hb with ⟨_, _, _, h0, _⟩ | ⟨b, o, cc, e, _, hlt, HX⟩
    · rw [h0] at hg; simp at hg
    · cases e
      exact ⟨b, o, rfl, fun u hu => (bl_cell hu _ _ hlt).trans (cellI HX hg (wr := w))⟩
  have BA := ofL_sml la sa
  have BB := ofL_sml lb sb
  have BM := fun (i k : Nat) (hi : i < R) (hk : k < D) => mulI_bound (A := 100) (B := 100) (by omega) (by omega) BA BB hi hk
  have HCA := hideP CA
  have HCB := hideP CB
  have HBA := hideP BA
  have HBB := hideP BB
  have HBM := hideP BM
  have hR16 := hd.r2
  have hM16 := hd.c2
  have hD16 := he.c2
  have HLA := hideP lna
  have HLB := hideP lnb
  clear CA CB BA BB BM ha hb la lb sa sb lna lnb
  generalize ofL M xa = fa at *
  generalize ofL D xb = fb at *
  go_enter Tryz.func69, Tryz.ntmps69
  go_wp2_with fail
  go_loopw [11, 12] (fun v i wr => ∃ j : Nat, i = .int .i64 j ∧ j ≤ R ∧ wr.ownsRow w.heap.size 3 1 v (mk j D (mulI M fa fb)).length ((mk j D (mulI M fa fb)).flatMap cellsI) ∧ Bl w wr) (fun _ i _ => R - (intOf i).toNat)
  case atStart => exact ⟨0, rfl, Nat.zero_le _, World.ownsRow_nil _ _ _ _, Bl.refl _⟩
  case round =>
    obtain ⟨j, rfl, hj, hown, hB⟩ := hrel
    by_cases hlt : j < R
    · go_wp2_with fail
      go_loopw [11, 13] (fun v i wr => ∃ k : Nat, i = .int .i64 k ∧ k ≤ D ∧ wr.ownsRow w.heap.size 3 1 v (mk j D (mulI M fa fb) ++ rowM k (mulI M fa fb) j).length ((mk j D (mulI M fa fb) ++ rowM k (mulI M fa fb) j).flatMap cellsI) ∧ Bl w wr) (fun _ i _ => D - (intOf i).toNat)
      case atStart => exact ⟨0, rfl, Nat.zero_le _, by simpa [rowM] using hown, hB⟩
      case round =>
        clear hown hB
        obtain ⟨k, rfl, hk, hown, hB⟩ := hrel
        by_cases hlt2 : k < D
        · have HO := hideP hown
          clear hown
          go_wp2_with fail
          go_loopw [14, 15] (fun s i wr' => ∃ m : Nat, i = .int .i64 m ∧ m ≤ M ∧ s = .int .i64 (mulI m fa fb j k) ∧ Bl wr wr') (fun _ i _ => M - (intOf i).toNat)
          case atStart => exact ⟨0, rfl, Nat.zero_le _, rfl, Bl.refl _⟩
          case round =>
            obtain ⟨m, rfl, hm, rfl, hB3⟩ := hrel
            by_cases hlt3 : m < M
            · obtain ⟨b, o, rfl, CX⟩ := HCA.out j m hlt hlt3
              obtain ⟨b', o', rfl, CY⟩ := HCB.out m k hlt3 hlt2
              obtain ⟨a1, q1, e1, e2, hq1, hq3, hq5, hq6⟩ := place hd hlt hlt3
              obtain ⟨a2, q2, e3, e4, hp1, hp3, hp5, hp6⟩ := place he hlt3 hlt2
              rw [← e2] at CX
              rw [← e4] at CY
              rw [← HLA.out] at hq5
              rw [← HLB.out] at hp5
              have cx := CX wr.drew (hB.trans hB3).drew
              have cy := CY wr.drew (hB.trans hB3).drew
              have bx := HBA.out j m hlt hlt3
              have bY := HBB.out m k hlt3 hlt2
              have bm := mul_bound bx bY
              have bd := HBM.out j k hlt hlt2 m hm
              have HS := hideP (mulI_succ m fa fb j k)
              clear CX CY e1 e2 e3 e4
              generalize mulI m fa fb j k = d at *
              generalize fa j m = x at *
              generalize fb m k = y at *
              generalize hxy : x * y = z at *
              go_wp2
              go_region
              go_wp2
              go_roundw
              case rel => exact ⟨m + 1, by simp, hlt3, by rw [HS.out], hB3.drew⟩
              case measure => simp [intOf]; omega
            · obtain rfl : m = M := by omega
              have hB4 := hB.trans hB3
              have hown := own_blI HO.out hB3
              have HT := hideP (show mk j D (mulI m fa fb) ++ rowM (k + 1) (mulI m fa fb) j = (mk j D (mulI m fa fb) ++ rowM k (mulI m fa fb) j) ++ [mulI m fa fb j k] by rw [rowM_succ, List.append_assoc])
              have hlen : (mk j D (mulI m fa fb) ++ rowM k (mulI m fa fb) j).length ≤ 256 := by
                have h1 : j * D + k < R * D := mk_idx hlt hlt2
                have h2 : R * D ≤ 256 := Nat.mul_le_mul hR16 hD16
                rw [List.length_append, mk_len, rowM_len]
                omega
              generalize mk j D (mulI m fa fb) ++ rowM k (mulI m fa fb) j = ys at *
              generalize mulI m fa fb j k = x at *
              go_wp2_with (at_builtin; refine wpList_append_own _ rfl _ _ 22 rfl w.heap.size 3 i0 (.int .i64 0) 1 8 Tryz.underlying22 hi hz0 hz1 hz2 rfl (by decide) _ _ _ rfl (hown.alloc _) ⟨_, 0, none⟩ 1 1 (cellsI x) rfl rfl (newI_cells _ _ _) (oneI_cells _) (by unfold maxLen; omega) (by omega) (by have := hB4.size; simp; omega) ?_; intro v' w1 hown' hgrow _)
              have R1 := own_more (ys := [x]) (hB4.alloc _) (Nat.le_refl _) (hown.alloc _) (by simpa using hown') rfl hgrow
              clear hown hown' hgrow
              go_wp2
              go_roundw
              case rel => exact ⟨k + 1, by simp, hlt2, by rw [HT.out]; exact R1.2, R1.1⟩
              case measure => simp [intOf]; omega
        · obtain rfl : k = D := by omega
          have HT := hideP (mk_succ j k (mulI M fa fb))
          go_wp2_with fail
          go_roundw
          case rel => exact ⟨j + 1, by simp, hlt, by rw [HT.out]; exact hown, hB⟩
          case measure => simp [intOf]; omega
    · obtain rfl : j = R := by omega
      have RW := hideP (Rw.of_own cellsI_len hown)
      obtain ⟨p', cap', hv, _, _⟩ := RW.out.cut
      rw [mk_len] at hv
      clear hown
      subst hv
      go_wp2
      go_ret
      exact ⟨p', cap', rfl, RW.out, hB⟩
end Go.Proofs.YtljmggemdkfbiaaGreat
