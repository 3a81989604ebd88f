/- Few of layer 9's laws. Written by genJf.py. -/
import Derived.Test.YtljmggemdkfbiaaGreatVeI
import Derived.Test.YtljmggemdkfbiaaGreatMa0
namespace Go.Proofs.YtljmggemdkfbiaaGreat
open Go.RowKit
set_option linter.unusedSimpArgs false
set_option linter.unusedVariables false

theorem rq_cellJ {w : World} {p : Option Addr} {n cap : Nat} {xs : List Int} (h : Rq 1 cI w (.slice p n cap) xs) : ∀ k x, xs[k]? = some x → ∃ b o, p = some ⟨b, o, none⟩ ∧ ∀ u, Bl w u → u.cell? ⟨b, o + k, none⟩ = some (.int .i64 x) := by
  intro k x hx
  rcases h with ⟨_, _, _, e, _⟩ | ⟨b, o, c, e, _, hlt, hc⟩
  · rw [e] at hx; simp at hx
  · simp only [Value.slice.injEq] at e
    exact ⟨b, o, e.1, fun u hu => (bl_cell hu _ _ hlt).trans (by have := hc k x hx 0 (.int .i64 x) rfl; simpa using this)⟩
theorem Tryz.idx5_0 (p0 p1 p2 p3 p4 : Option Addr) (l0 c0 l1 c1 l2 c2 l3 c3 l4 c4 : Nat) (w : World) : (Instr.index 82 (.agg #[.slice p0 l0 c0, .slice p1 l1 c1, .slice p2 l2 c2, .slice p3 l3 c3, .slice p4 l4 c4]) (.int .i64 0)).run Tryz.prog w = .ok (.slice p0 l0 c0) w := by kernel_rfl
theorem Tryz.idx5_1 (p0 p1 p2 p3 p4 : Option Addr) (l0 c0 l1 c1 l2 c2 l3 c3 l4 c4 : Nat) (w : World) : (Instr.index 82 (.agg #[.slice p0 l0 c0, .slice p1 l1 c1, .slice p2 l2 c2, .slice p3 l3 c3, .slice p4 l4 c4]) (.int .i64 1)).run Tryz.prog w = .ok (.slice p1 l1 c1) w := by kernel_rfl
theorem Tryz.idx5_2 (p0 p1 p2 p3 p4 : Option Addr) (l0 c0 l1 c1 l2 c2 l3 c3 l4 c4 : Nat) (w : World) : (Instr.index 82 (.agg #[.slice p0 l0 c0, .slice p1 l1 c1, .slice p2 l2 c2, .slice p3 l3 c3, .slice p4 l4 c4]) (.int .i64 2)).run Tryz.prog w = .ok (.slice p2 l2 c2) w := by kernel_rfl
theorem Tryz.idx5_3 (p0 p1 p2 p3 p4 : Option Addr) (l0 c0 l1 c1 l2 c2 l3 c3 l4 c4 : Nat) (w : World) : (Instr.index 82 (.agg #[.slice p0 l0 c0, .slice p1 l1 c1, .slice p2 l2 c2, .slice p3 l3 c3, .slice p4 l4 c4]) (.int .i64 3)).run Tryz.prog w = .ok (.slice p3 l3 c3) w := by kernel_rfl
theorem Tryz.idx5_4 (p0 p1 p2 p3 p4 : Option Addr) (l0 c0 l1 c1 l2 c2 l3 c3 l4 c4 : Nat) (w : World) : (Instr.index 82 (.agg #[.slice p0 l0 c0, .slice p1 l1 c1, .slice p2 l2 c2, .slice p3 l3 c3, .slice p4 l4 c4]) (.int .i64 4)).run Tryz.prog w = .ok (.slice p4 l4 c4) w := by kernel_rfl
/-- A case that may be gone through. -/
structure FewJ (m : Nat) (X Ro Fm Gm H : List Int) (r z : Int) : Prop where
  m1 : 1 ≤ m
  m3 : m ≤ 3
  x : X.length = m
  h : H.length = m
  ro : Ro.length = m * m
  f : Fm.length = m * m
  g : Gm.length = m * m
  r1 : 1 ≤ r
  r5 : r ≤ 5
  z1 : -5 ≤ z
  z5 : z ≤ 5
  sx : Sml 5 X
  sh : Sml 5 H
  sro : Sml 5 Ro
  sf : Sml 5 Fm
  sg : Sml 5 Gm
theorem take_all9 {L : List Int} {n : Nat} (h : Sml 5 (L.take 10)) (hl : L.length = n) (hn : n ≤ 9) : Sml 5 L := by
  rw [List.take_of_length_le (by omega)] at h
  exact h
def FewR (n r z : Int) (X Ro Fm Gm H : List Int) (w : World) (e : Ending) (w' : World) : Prop := ∃ b, e = .returned (.bool b) ∧ (b = true → ∃ m : Nat, n = m ∧ FewJ m X Ro Fm Gm H r z) ∧ Bl w w'
theorem fewR {n r z : Int} {X Ro Fm Gm H : List Int} {w w' : World} (b : Bool) (h : b = true → ∃ m : Nat, n = m ∧ FewJ m X Ro Fm Gm H r z) (k : Bl w w') : FewR n r z X Ro Fm Gm H w (.returned (.bool b)) w' := ⟨b, rfl, h, k⟩
set_option maxRecDepth 100000 in
set_option maxHeartbeats 8000000 in
theorem few9_any (n r z : Int) (px pr pf pg ph : Option Addr) (lx cx lr cr lf cf lg cg lh ch : Nat) (X Ro Fm Gm H : List Int) (w : World) (hX : Rq 1 cI w (.slice px lx cx) X) (hR : Rq 1 cI w (.slice pr lr cr) Ro) (hF : Rq 1 cI w (.slice pf lf cf) Fm) (hG : Rq 1 cI w (.slice pg lg cg) Gm) (hH : Rq 1 cI w (.slice ph lh ch) H)
    (eX : X.length = lx) (eR : Ro.length = lr) (eF : Fm.length = lf) (eG : Gm.length = lg) (eH : H.length = lh) :
    Calls Tryz.prog 9 #[.agg #[.int .i64 n, .slice px lx cx, .slice pr lr cr, .slice pf lf cf, .slice pg lg cg, .slice ph lh ch, .int .i64 r, .int .i64 z]] w (FewR n r z X Ro Fm Gm H w) := by
  obtain ⟨W, hW⟩ : ∃ W, W = w.alloc (.cells #[.int .i64 n, .slice px lx cx, .slice pr lr cr, .slice pf lf cf, .slice pg lg cg, .slice ph lh ch, .int .i64 r, .int .i64 z] 24) := ⟨_, rfl⟩
  have b0 : Bl w W := by rw [hW]; exact (Bl.refl _).alloc _
  have BW := hideP b0
  have B0 := hideP b0
  have HR0 := hideP (rq_cellJ hX)
  have HR1 := hideP (rq_cellJ hH)
  have HR2 := hideP (rq_cellJ hR)
  have HR3 := hideP (rq_cellJ hF)
  have HR4 := hideP (rq_cellJ hG)
  have HL0 := hideP eX
  have HL1 := hideP eH
  have HL2 := hideP eR
  have HL3 := hideP eF
  have HL4 := hideP eG
  have d0 : W.cell? ⟨w.heap.size, 0, none⟩ = some (.int .i64 n) := by rw [hW]; simp [go_sem]
  have d1 : W.cell? ⟨w.heap.size, 1, none⟩ = some (.slice px lx cx) := by rw [hW]; simp [go_sem]
  have d2 : W.cell? ⟨w.heap.size, 2, none⟩ = some (.slice pr lr cr) := by rw [hW]; simp [go_sem]
  have d3 : W.cell? ⟨w.heap.size, 3, none⟩ = some (.slice pf lf cf) := by rw [hW]; simp [go_sem]
  have d4 : W.cell? ⟨w.heap.size, 4, none⟩ = some (.slice pg lg cg) := by rw [hW]; simp [go_sem]
  have d5 : W.cell? ⟨w.heap.size, 5, none⟩ = some (.slice ph lh ch) := by rw [hW]; simp [go_sem]
  have d6 : W.cell? ⟨w.heap.size, 6, none⟩ = some (.int .i64 r) := by rw [hW]; simp [go_sem]
  have d7 : W.cell? ⟨w.heap.size, 7, none⟩ = some (.int .i64 z) := by rw [hW]; simp [go_sem]
  have HD0 := hideP d0
  have HD1 := hideP d1
  have HD2 := hideP d2
  have HD3 := hideP d3
  have HD4 := hideP d4
  have HD5 := hideP d5
  have HW := hideP hW
  clear hX hR hF hG hH eX eR eF eG eH b0
  go_enter Tryz.func9, Tryz.ntmps9
  clear hW d0 d1 d2 d3 d4 d5 d6 d7
  by_cases g1 : n < 1
  · go_wp2
    go_ret
    exact fewR false nofun ((Bl.refl _).alloc _)
  by_cases g2 : 3 < n
  · go_wp2
    go_ret
    exact fewR false nofun ((Bl.refl _).alloc _)
  obtain ⟨m, rfl⟩ := Int.eq_ofNat_of_zero_le (show 0 ≤ n by omega)
  by_cases g3 : lx = m
  · by_cases g4 : lh = m
    · by_cases g5 : r < 1
      · go_wp2
        go_ret
        exact fewR false nofun ((Bl.refl _).alloc _)
      by_cases g6 : 5 < r
      · go_wp2
        go_ret
        exact fewR false nofun ((Bl.refl _).alloc _)
      by_cases g7 : z < -5
      · go_wp2
        go_ret
        exact fewR false nofun ((Bl.refl _).alloc _)
      by_cases g8 : 5 < z
      · go_wp2
        go_ret
        exact fewR false nofun ((Bl.refl _).alloc _)
      have e3 : ((lx : Int) != (m : Int)) = false := by simp; omega
      have e4 : ((lh : Int) != (m : Int)) = false := by simp; omega
      have G3 := hideP g3
      have G4 := hideP g4
      clear g3 g4
      go_wp2_with fail
      rw [← HW.out]
      have d0 := HD0.out
      have d1 := HD1.out
      have d2 := HD2.out
      have d3 := HD3.out
      have d4 := HD4.out
      have d5 := HD5.out
      go_loopw [61] (fun v wr => ∃ i : Nat, v = .int .i64 i ∧ i ≤ 5 ∧ ((0 < i → Sml 5 (X.take 10)) ∧ (1 < i → Sml 5 (H.take 10)) ∧ (2 < i → Sml 5 (Ro.take 10)) ∧ (3 < i → Sml 5 (Fm.take 10)) ∧ (4 < i → Sml 5 (Gm.take 10))) ∧ wr = W) (fun v _ => 5 - (intOf v).toNat)
      case atStart => exact ⟨0, rfl, by omega, ⟨fun h => absurd h (by omega), fun h => absurd h (by omega), fun h => absurd h (by omega), fun h => absurd h (by omega), fun h => absurd h (by omega)⟩, rfl⟩
      case round =>
        obtain ⟨i, rfl, hi, ⟨i0, i1, i2, i3, i4⟩, rfl⟩ := hrel
        have HI0 := hideP i0
        have HI1 := hideP i1
        have HI2 := hideP i2
        have HI3 := hideP i3
        have HI4 := hideP i4
        clear i0 i1 i2 i3 i4
        obtain ⟨wq, hwq⟩ : ∃ wq : World, wq = wr := ⟨_, rfl⟩
        subst hwq
        by_cases hlt : i < 5
        · rcases (by omega : i = 0 ∨ i = 1 ∨ i = 2 ∨ i = 3 ∨ i = 4) with rfl | rfl | rfl | rfl | rfl
          · have IX := Tryz.idx5_0 px ph pr pf pg lx cx lh ch lr cr lf cf lg cg wq
            go_wp2_with fail
            go_loopw [5] (fun v wr => ∃ k : Nat, v = .int .i64 k ∧ k ≤ X.length ∧ k ≤ 10 ∧ Sml 5 (X.take k) ∧ wr = wq) (fun v _ => 10 - (intOf v).toNat)
            case atStart => exact ⟨0, rfl, Nat.zero_le _, by omega, fun x hx => by simp at hx, rfl⟩
            case round =>
              obtain ⟨k, rfl, hk, hk2, hS, rfl⟩ := hrel
              have HS0 := hideP hS
              have hlen := HL0.out
              clear hS
              by_cases hlt : k < X.length ∧ k ≤ 9
              · obtain ⟨hlt, hlt2⟩ := hlt
                obtain ⟨x, hx⟩ : ∃ x, X[k]? = some x := ⟨_, List.getElem?_eq_getElem hlt⟩
                obtain ⟨b, o, hp, hcell⟩ := HR0.out k x hx
                have cx9 := hcell wr BW.out
                have HT := hideP (show X.take (k + 1) = X.take k ++ [x] by rw [List.take_add_one, hx]; rfl)
                subst hp
                clear hcell hx
                by_cases g1 : x < -5
                · go_wp2
                  go_ret
                  exact fewR false nofun B0.out
                · by_cases g2 : 5 < x
                  · go_wp2
                    go_ret
                    exact fewR false nofun B0.out
                  · go_wp2
                    go_roundw
                    case rel =>
                      refine ⟨k + 1, by simp, by omega, by omega, ?_⟩
                      rw [HT.out]
                      intro y hy
                      rcases List.mem_append.1 hy with hy | hy
                      · exact HS0.out y hy
                      · simp at hy; omega
                    case measure => simp [intOf]; omega
              · have HS := hideP (show Sml 5 (X.take 10) from by
                  by_cases h9 : k ≤ 9
                  · have e : X.take 10 = X.take k := by rw [List.take_of_length_le (by omega), List.take_of_length_le (by omega)]
                    rw [e]; exact HS0.out
                  · obtain rfl : k = 10 := by omega
                    exact HS0.out)
                by_cases h9 : k < X.length
                · have h10 : ¬ k ≤ 9 := fun h => hlt ⟨h9, h⟩
                  go_wp2_with fail
                  go_roundw
                  case rel => exact ⟨1, by simp, by omega, ⟨fun h => HS.out, fun h => absurd h (by omega), fun h => absurd h (by omega), fun h => absurd h (by omega), fun h => absurd h (by omega)⟩, trivial⟩
                  case measure => simp [intOf]
                · go_wp2_with fail
                  go_roundw
                  case rel => exact ⟨1, by simp, by omega, ⟨fun h => HS.out, fun h => absurd h (by omega), fun h => absurd h (by omega), fun h => absurd h (by omega), fun h => absurd h (by omega)⟩, trivial⟩
                  case measure => simp [intOf]
          · have IX := Tryz.idx5_1 px ph pr pf pg lx cx lh ch lr cr lf cf lg cg wq
            go_wp2_with fail
            go_loopw [5] (fun v wr => ∃ k : Nat, v = .int .i64 k ∧ k ≤ H.length ∧ k ≤ 10 ∧ Sml 5 (H.take k) ∧ wr = wq) (fun v _ => 10 - (intOf v).toNat)
            case atStart => exact ⟨0, rfl, Nat.zero_le _, by omega, fun x hx => by simp at hx, rfl⟩
            case round =>
              obtain ⟨k, rfl, hk, hk2, hS, rfl⟩ := hrel
              have HS0 := hideP hS
              have hlen := HL1.out
              clear hS
              by_cases hlt : k < H.length ∧ k ≤ 9
              · obtain ⟨hlt, hlt2⟩ := hlt
                obtain ⟨x, hx⟩ : ∃ x, H[k]? = some x := ⟨_, List.getElem?_eq_getElem hlt⟩
                obtain ⟨b, o, hp, hcell⟩ := HR1.out k x hx
                have cx9 := hcell wr BW.out
                have HT := hideP (show H.take (k + 1) = H.take k ++ [x] by rw [List.take_add_one, hx]; rfl)
                subst hp
                clear hcell hx
                by_cases g1 : x < -5
                · go_wp2
                  go_ret
                  exact fewR false nofun B0.out
                · by_cases g2 : 5 < x
                  · go_wp2
                    go_ret
                    exact fewR false nofun B0.out
                  · go_wp2
                    go_roundw
                    case rel =>
                      refine ⟨k + 1, by simp, by omega, by omega, ?_⟩
                      rw [HT.out]
                      intro y hy
                      rcases List.mem_append.1 hy with hy | hy
                      · exact HS0.out y hy
                      · simp at hy; omega
                    case measure => simp [intOf]; omega
              · have HS := hideP (show Sml 5 (H.take 10) from by
                  by_cases h9 : k ≤ 9
                  · have e : H.take 10 = H.take k := by rw [List.take_of_length_le (by omega), List.take_of_length_le (by omega)]
                    rw [e]; exact HS0.out
                  · obtain rfl : k = 10 := by omega
                    exact HS0.out)
                by_cases h9 : k < H.length
                · have h10 : ¬ k ≤ 9 := fun h => hlt ⟨h9, h⟩
                  go_wp2_with fail
                  go_roundw
                  case rel => exact ⟨2, by simp, by omega, ⟨fun h => (HI0.out (by omega)), fun h => HS.out, fun h => absurd h (by omega), fun h => absurd h (by omega), fun h => absurd h (by omega)⟩, trivial⟩
                  case measure => simp [intOf]
                · go_wp2_with fail
                  go_roundw
                  case rel => exact ⟨2, by simp, by omega, ⟨fun h => (HI0.out (by omega)), fun h => HS.out, fun h => absurd h (by omega), fun h => absurd h (by omega), fun h => absurd h (by omega)⟩, trivial⟩
                  case measure => simp [intOf]
          · have IX := Tryz.idx5_2 px ph pr pf pg lx cx lh ch lr cr lf cf lg cg wq
            go_wp2_with fail
            go_loopw [5] (fun v wr => ∃ k : Nat, v = .int .i64 k ∧ k ≤ Ro.length ∧ k ≤ 10 ∧ Sml 5 (Ro.take k) ∧ wr = wq) (fun v _ => 10 - (intOf v).toNat)
            case atStart => exact ⟨0, rfl, Nat.zero_le _, by omega, fun x hx => by simp at hx, rfl⟩
            case round =>
              obtain ⟨k, rfl, hk, hk2, hS, rfl⟩ := hrel
              have HS0 := hideP hS
              have hlen := HL2.out
              clear hS
              by_cases hlt : k < Ro.length ∧ k ≤ 9
              · obtain ⟨hlt, hlt2⟩ := hlt
                obtain ⟨x, hx⟩ : ∃ x, Ro[k]? = some x := ⟨_, List.getElem?_eq_getElem hlt⟩
                obtain ⟨b, o, hp, hcell⟩ := HR2.out k x hx
                have cx9 := hcell wr BW.out
                have HT := hideP (show Ro.take (k + 1) = Ro.take k ++ [x] by rw [List.take_add_one, hx]; rfl)
                subst hp
                clear hcell hx
                by_cases g1 : x < -5
                · go_wp2
                  go_ret
                  exact fewR false nofun B0.out
                · by_cases g2 : 5 < x
                  · go_wp2
                    go_ret
                    exact fewR false nofun B0.out
                  · go_wp2
                    go_roundw
                    case rel =>
                      refine ⟨k + 1, by simp, by omega, by omega, ?_⟩
                      rw [HT.out]
                      intro y hy
                      rcases List.mem_append.1 hy with hy | hy
                      · exact HS0.out y hy
                      · simp at hy; omega
                    case measure => simp [intOf]; omega
              · have HS := hideP (show Sml 5 (Ro.take 10) from by
                  by_cases h9 : k ≤ 9
                  · have e : Ro.take 10 = Ro.take k := by rw [List.take_of_length_le (by omega), List.take_of_length_le (by omega)]
                    rw [e]; exact HS0.out
                  · obtain rfl : k = 10 := by omega
                    exact HS0.out)
                by_cases h9 : k < Ro.length
                · have h10 : ¬ k ≤ 9 := fun h => hlt ⟨h9, h⟩
                  go_wp2_with fail
                  go_roundw
                  case rel => exact ⟨3, by simp, by omega, ⟨fun h => (HI0.out (by omega)), fun h => (HI1.out (by omega)), fun h => HS.out, fun h => absurd h (by omega), fun h => absurd h (by omega)⟩, trivial⟩
                  case measure => simp [intOf]
                · go_wp2_with fail
                  go_roundw
                  case rel => exact ⟨3, by simp, by omega, ⟨fun h => (HI0.out (by omega)), fun h => (HI1.out (by omega)), fun h => HS.out, fun h => absurd h (by omega), fun h => absurd h (by omega)⟩, trivial⟩
                  case measure => simp [intOf]
          · have IX := Tryz.idx5_3 px ph pr pf pg lx cx lh ch lr cr lf cf lg cg wq
            go_wp2_with fail
            go_loopw [5] (fun v wr => ∃ k : Nat, v = .int .i64 k ∧ k ≤ Fm.length ∧ k ≤ 10 ∧ Sml 5 (Fm.take k) ∧ wr = wq) (fun v _ => 10 - (intOf v).toNat)
            case atStart => exact ⟨0, rfl, Nat.zero_le _, by omega, fun x hx => by simp at hx, rfl⟩
            case round =>
              obtain ⟨k, rfl, hk, hk2, hS, rfl⟩ := hrel
              have HS0 := hideP hS
              have hlen := HL3.out
              clear hS
              by_cases hlt : k < Fm.length ∧ k ≤ 9
              · obtain ⟨hlt, hlt2⟩ := hlt
                obtain ⟨x, hx⟩ : ∃ x, Fm[k]? = some x := ⟨_, List.getElem?_eq_getElem hlt⟩
                obtain ⟨b, o, hp, hcell⟩ := HR3.out k x hx
                have cx9 := hcell wr BW.out
                have HT := hideP (show Fm.take (k + 1) = Fm.take k ++ [x] by rw [List.take_add_one, hx]; rfl)
                subst hp
                clear hcell hx
                by_cases g1 : x < -5
                · go_wp2
                  go_ret
                  exact fewR false nofun B0.out
                · by_cases g2 : 5 < x
                  · go_wp2
                    go_ret
                    exact fewR false nofun B0.out
                  · go_wp2
                    go_roundw
                    case rel =>
                      refine ⟨k + 1, by simp, by omega, by omega, ?_⟩
                      rw [HT.out]
                      intro y hy
                      rcases List.mem_append.1 hy with hy | hy
                      · exact HS0.out y hy
                      · simp at hy; omega
                    case measure => simp [intOf]; omega
              · have HS := hideP (show Sml 5 (Fm.take 10) from by
                  by_cases h9 : k ≤ 9
                  · have e : Fm.take 10 = Fm.take k := by rw [List.take_of_length_le (by omega), List.take_of_length_le (by omega)]
                    rw [e]; exact HS0.out
                  · obtain rfl : k = 10 := by omega
                    exact HS0.out)
                by_cases h9 : k < Fm.length
                · have h10 : ¬ k ≤ 9 := fun h => hlt ⟨h9, h⟩
                  go_wp2_with fail
                  go_roundw
                  case rel => exact ⟨4, by simp, by omega, ⟨fun h => (HI0.out (by omega)), fun h => (HI1.out (by omega)), fun h => (HI2.out (by omega)), fun h => HS.out, fun h => absurd h (by omega)⟩, trivial⟩
                  case measure => simp [intOf]
                · go_wp2_with fail
                  go_roundw
                  case rel => exact ⟨4, by simp, by omega, ⟨fun h => (HI0.out (by omega)), fun h => (HI1.out (by omega)), fun h => (HI2.out (by omega)), fun h => HS.out, fun h => absurd h (by omega)⟩, trivial⟩
                  case measure => simp [intOf]
          · have IX := Tryz.idx5_4 px ph pr pf pg lx cx lh ch lr cr lf cf lg cg wq
            go_wp2_with fail
            go_loopw [5] (fun v wr => ∃ k : Nat, v = .int .i64 k ∧ k ≤ Gm.length ∧ k ≤ 10 ∧ Sml 5 (Gm.take k) ∧ wr = wq) (fun v _ => 10 - (intOf v).toNat)
            case atStart => exact ⟨0, rfl, Nat.zero_le _, by omega, fun x hx => by simp at hx, rfl⟩
            case round =>
              obtain ⟨k, rfl, hk, hk2, hS, rfl⟩ := hrel
              have HS0 := hideP hS
              have hlen := HL4.out
              clear hS
              by_cases hlt : k < Gm.length ∧ k ≤ 9
              · obtain ⟨hlt, hlt2⟩ := hlt
                obtain ⟨x, hx⟩ : ∃ x, Gm[k]? = some x := ⟨_, List.getElem?_eq_getElem hlt⟩
                obtain ⟨b, o, hp, hcell⟩ := HR4.out k x hx
                have cx9 := hcell wr BW.out
                have HT := hideP (show Gm.take (k + 1) = Gm.take k ++ [x] by rw [List.take_add_one, hx]; rfl)
                subst hp
                clear hcell hx
                by_cases g1 : x < -5
                · go_wp2
                  go_ret
                  exact fewR false nofun B0.out
                · by_cases g2 : 5 < x
                  · go_wp2
                    go_ret
                    exact fewR false nofun B0.out
                  · go_wp2
                    go_roundw
                    case rel =>
                      refine ⟨k + 1, by simp, by omega, by omega, ?_⟩
                      rw [HT.out]
                      intro y hy
                      rcases List.mem_append.1 hy with hy | hy
                      · exact HS0.out y hy
                      · simp at hy; omega
                    case measure => simp [intOf]; omega
              · have HS := hideP (show Sml 5 (Gm.take 10) from by
                  by_cases h9 : k ≤ 9
                  · have e : Gm.take 10 = Gm.take k := by rw [List.take_of_length_le (by omega), List.take_of_length_le (by omega)]
                    rw [e]; exact HS0.out
                  · obtain rfl : k = 10 := by omega
                    exact HS0.out)
                by_cases h9 : k < Gm.length
                · have h10 : ¬ k ≤ 9 := fun h => hlt ⟨h9, h⟩
                  go_wp2_with fail
                  go_roundw
                  case rel => exact ⟨5, by simp, by omega, ⟨fun h => (HI0.out (by omega)), fun h => (HI1.out (by omega)), fun h => (HI2.out (by omega)), fun h => (HI3.out (by omega)), fun h => HS.out⟩, trivial⟩
                  case measure => simp [intOf]
                · go_wp2_with fail
                  go_roundw
                  case rel => exact ⟨5, by simp, by omega, ⟨fun h => (HI0.out (by omega)), fun h => (HI1.out (by omega)), fun h => (HI2.out (by omega)), fun h => (HI3.out (by omega)), fun h => HS.out⟩, trivial⟩
                  case measure => simp [intOf]
        · obtain rfl : i = 5 := by omega
          obtain ⟨mm, hmm⟩ : ∃ mm, mm = m * m := ⟨_, rfl⟩
          have hMM : (m : Int) * (m : Int) = (mm : Int) := by rw [hmm, Int.natCast_mul]
          have m3 : m ≤ 3 := by omega
          have mm9 : mm ≤ 9 := by rw [hmm]; exact Nat.mul_le_mul m3 m3
          have HMM := hideP hmm
          clear hmm
          by_cases k1 : lr = mm
          · by_cases k2 : lf = mm
            · by_cases k3 : lg = mm
              · have f1 : ((lr : Int) == (mm : Int)) = true := by simp; omega
                have f2 : ((lf : Int) == (mm : Int)) = true := by simp; omega
                have f3 : ((lg : Int) == (mm : Int)) = true := by simp; omega
                go_wp2
                go_ret
                refine fewR _ (fun _ => ⟨m, rfl, ⟨by omega, by omega, by rw [HL0.out, G3.out], by rw [HL1.out, G4.out], by rw [HL2.out, k1, HMM.out], by rw [HL3.out, k2, HMM.out], by rw [HL4.out, k3, HMM.out], by omega, by omega, by omega, by omega, ?_, ?_, ?_, ?_, ?_⟩⟩) B0.out
                · exact take_all9 (HI0.out (by omega)) HL0.out (by have := G3.out; omega)
                · exact take_all9 (HI1.out (by omega)) HL1.out (by have := G4.out; omega)
                · exact take_all9 (HI2.out (by omega)) HL2.out (by omega)
                · exact take_all9 (HI3.out (by omega)) HL3.out (by omega)
                · exact take_all9 (HI4.out (by omega)) HL4.out (by omega)
              · have f1 : ((lr : Int) == (mm : Int)) = true := by simp; omega
                have f2 : ((lf : Int) == (mm : Int)) = true := by simp; omega
                have f3 : ((lg : Int) == (mm : Int)) = false := by simp; omega
                go_wp2
                go_ret
                exact fewR false nofun B0.out
            · have f1 : ((lr : Int) == (mm : Int)) = true := by simp; omega
              have f2 : ((lf : Int) == (mm : Int)) = false := by simp; omega
              go_wp2
              go_ret
              exact fewR false nofun B0.out
          · have f1 : ((lr : Int) == (mm : Int)) = false := by simp; omega
            go_wp2
            go_ret
            exact fewR false nofun B0.out
    · have e3 : ((lx : Int) != (m : Int)) = false := by simp; omega
      have e4 : ((lh : Int) != (m : Int)) = true := by simp; omega
      go_wp2
      go_ret
      exact fewR false nofun ((Bl.refl _).alloc _)
  · have e3 : ((lx : Int) != (m : Int)) = true := by simp; omega
    go_wp2
    go_ret
    exact fewR false nofun ((Bl.refl _).alloc _)
end Go.Proofs.YtljmggemdkfbiaaGreat
