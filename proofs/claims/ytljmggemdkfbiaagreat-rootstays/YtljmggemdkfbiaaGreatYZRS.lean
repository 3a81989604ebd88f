/- Behind any steps the triangle has points of 0 above its diagonal. Conditions: none (every input). -/
import Derived.Test.YtljmggemdkfbiaaGreatYB
import Derived.Test.YtljmggemdkfbiaaGreatYK
import Derived.Test.YtljmggemdkfbiaaGreatYL
import Derived.ProofKit
import Derived.OpenShut
import Derived.Lib.SmallJoins
import Derived.Carry
namespace Go.Proofs.YtljmggemdkfbiaaGreat
open Go.RowKit
set_option linter.unusedSimpArgs false
set_option linter.unusedVariables false
theorem rq_cellJ {w : World} {p : Option Addr} {n cap : Nat} {xs : List Int} (h : Rq 1 cI w (.slice p n cap) xs) : ∀ k x, xs[k]? = some x → ∃ b o, p = some ⟨b, o, none⟩ ∧ ∀ u, Bl w u → u.cell? ⟨b, o + k, none⟩ = some (.int .i64 x) := by
 intro k x hx
 rcases h with ⟨_, _, _, e, _⟩ | ⟨b, o, c, e, _, hlt, hc⟩
 ·rw [e] at hx; simp at hx
 ·simp only [Value.slice.injEq] at e
  exact ⟨b, o, e.1, fun u hu => (bl_cell hu _ _ hlt).trans (by have := hc k x hx 0 (.int .i64 x) rfl; simpa using this)⟩
theorem Tryz.idx5_0 (p0 p1 p2 p3 p4 : Option Addr) (l0 c0 l1 c1 l2 c2 l3 c3 l4 c4 : Nat) (w : World) : (Instr.index 82 (.agg #[.slice p0 l0 c0, .slice p1 l1 c1, .slice p2 l2 c2, .slice p3 l3 c3, .slice p4 l4 c4]) (.int .i64 0)).run Tryz.prog w = .ok (.slice p0 l0 c0) w := by kernel_rfl
theorem Tryz.idx5_1 (p0 p1 p2 p3 p4 : Option Addr) (l0 c0 l1 c1 l2 c2 l3 c3 l4 c4 : Nat) (w : World) : (Instr.index 82 (.agg #[.slice p0 l0 c0, .slice p1 l1 c1, .slice p2 l2 c2, .slice p3 l3 c3, .slice p4 l4 c4]) (.int .i64 1)).run Tryz.prog w = .ok (.slice p1 l1 c1) w := by kernel_rfl
theorem Tryz.idx5_2 (p0 p1 p2 p3 p4 : Option Addr) (l0 c0 l1 c1 l2 c2 l3 c3 l4 c4 : Nat) (w : World) : (Instr.index 82 (.agg #[.slice p0 l0 c0, .slice p1 l1 c1, .slice p2 l2 c2, .slice p3 l3 c3, .slice p4 l4 c4]) (.int .i64 2)).run Tryz.prog w = .ok (.slice p2 l2 c2) w := by kernel_rfl
theorem Tryz.idx5_3 (p0 p1 p2 p3 p4 : Option Addr) (l0 c0 l1 c1 l2 c2 l3 c3 l4 c4 : Nat) (w : World) : (Instr.index 82 (.agg #[.slice p0 l0 c0, .slice p1 l1 c1, .slice p2 l2 c2, .slice p3 l3 c3, .slice p4 l4 c4]) (.int .i64 3)).run Tryz.prog w = .ok (.slice p3 l3 c3) w := by kernel_rfl
theorem Tryz.idx5_4 (p0 p1 p2 p3 p4 : Option Addr) (l0 c0 l1 c1 l2 c2 l3 c3 l4 c4 : Nat) (w : World) : (Instr.index 82 (.agg #[.slice p0 l0 c0, .slice p1 l1 c1, .slice p2 l2 c2, .slice p3 l3 c3, .slice p4 l4 c4]) (.int .i64 4)).run Tryz.prog w = .ok (.slice p4 l4 c4) w := by kernel_rfl
structure FewJ (m : Nat) (X Ro Fm Gm H : List Int) (r z : Int) : Prop where
 m1 : 1 ≤ m
 m3 : m ≤ 3
 x : X.length = m
 h : H.length = m
 ro : Ro.length = m * m
 f : Fm.length = m * m
 g : Gm.length = m * m
 r1 : 1 ≤ r
 r5 : r ≤ 5
 z1 : -5 ≤ z
 z5 : z ≤ 5
 sx : Sml 5 X
 sh : Sml 5 H
 sro : Sml 5 Ro
 sf : Sml 5 Fm
 sg : Sml 5 Gm
theorem take_all9 {L : List Int} {n : Nat} (h : Sml 5 (L.take 10)) (hl : L.length = n) (hn : n ≤ 9) : Sml 5 L := by
 rw [List.take_of_length_le (by omega)] at h
 exact h
def FewR (n r z : Int) (X Ro Fm Gm H : List Int) (w : World) (e : Ending) (w' : World) : Prop := ∃ b, e = .returned (.bool b) ∧ (b = true → ∃ m : Nat, n = m ∧ FewJ m X Ro Fm Gm H r z) ∧ Bl w w'
theorem fewR {n r z : Int} {X Ro Fm Gm H : List Int} {w w' : World} (b : Bool) (h : b = true → ∃ m : Nat, n = m ∧ FewJ m X Ro Fm Gm H r z) (k : Bl w w') : FewR n r z X Ro Fm Gm H w (.returned (.bool b)) w' := ⟨b, rfl, h, k⟩
set_option maxRecDepth 100000 in
set_option maxHeartbeats 8000000 in
theorem few9_any (n r z : Int) (px pr pf pg ph : Option Addr) (lx cx lr cr lf cf lg cg lh ch : Nat) (X Ro Fm Gm H : List Int) (w : World) (hX : Rq 1 cI w (.slice px lx cx) X) (hR : Rq 1 cI w (.slice pr lr cr) Ro) (hF : Rq 1 cI w (.slice pf lf cf) Fm) (hG : Rq 1 cI w (.slice pg lg cg) Gm) (hH : Rq 1 cI w (.slice ph lh ch) H)
  (eX : X.length = lx) (eR : Ro.length = lr) (eF : Fm.length = lf) (eG : Gm.length = lg) (eH : H.length = lh) :
  Calls Tryz.prog 9 #[.agg #[.int .i64 n, .slice px lx cx, .slice pr lr cr, .slice pf lf cf, .slice pg lg cg, .slice ph lh ch, .int .i64 r, .int .i64 z]] w (FewR n r z X Ro Fm Gm H w) := by
 obtain ⟨W, hW⟩ : ∃ W, W = w.alloc (.cells #[.int .i64 n, .slice px lx cx, .slice pr lr cr, .slice pf lf cf, .slice pg lg cg, .slice ph lh ch, .int .i64 r, .int .i64 z] 24) := ⟨_, rfl⟩
 have b0 : Bl w W := by rw [hW]; exact (Bl.refl _).alloc _
 have BW := hideP b0
 have B0 := hideP b0
 have HR0 := hideP (rq_cellJ hX)
 have HR1 := hideP (rq_cellJ hH)
 have HR2 := hideP (rq_cellJ hR)
 have HR3 := hideP (rq_cellJ hF)
 have HR4 := hideP (rq_cellJ hG)
 have HL0 := hideP eX
 have HL1 := hideP eH
 have HL2 := hideP eR
 have HL3 := hideP eF
 have HL4 := hideP eG
 have d0 : W.cell? ⟨w.heap.size, 0, none⟩ = some (.int .i64 n) := by rw [hW]; simp [go_sem]
 have d1 : W.cell? ⟨w.heap.size, 1, none⟩ = some (.slice px lx cx) := by rw [hW]; simp [go_sem]
 have d2 : W.cell? ⟨w.heap.size, 2, none⟩ = some (.slice pr lr cr) := by rw [hW]; simp [go_sem]
 have d3 : W.cell? ⟨w.heap.size, 3, none⟩ = some (.slice pf lf cf) := by rw [hW]; simp [go_sem]
 have d4 : W.cell? ⟨w.heap.size, 4, none⟩ = some (.slice pg lg cg) := by rw [hW]; simp [go_sem]
 have d5 : W.cell? ⟨w.heap.size, 5, none⟩ = some (.slice ph lh ch) := by rw [hW]; simp [go_sem]
 have d6 : W.cell? ⟨w.heap.size, 6, none⟩ = some (.int .i64 r) := by rw [hW]; simp [go_sem]
 have d7 : W.cell? ⟨w.heap.size, 7, none⟩ = some (.int .i64 z) := by rw [hW]; simp [go_sem]
 have HD0 := hideP d0
 have HD1 := hideP d1
 have HD2 := hideP d2
 have HD3 := hideP d3
 have HD4 := hideP d4
 have HD5 := hideP d5
 have HW := hideP hW
 clear hX hR hF hG hH eX eR eF eG eH b0
 go_enter Tryz.func9, Tryz.ntmps9
 clear hW d0 d1 d2 d3 d4 d5 d6 d7
 by_cases g1 : n < 1
 ·go_wp2
  go_ret
  exact fewR false nofun ((Bl.refl _).alloc _)
 by_cases g2 : 3 < n
 ·go_wp2
  go_ret
  exact fewR false nofun ((Bl.refl _).alloc _)
 obtain ⟨m, rfl⟩ := Int.eq_ofNat_of_zero_le (show 0 ≤ n by omega)
 by_cases g3 : lx = m
 ·by_cases g4 : lh = m
  ·by_cases g5 : r < 1
   ·go_wp2
    go_ret
    exact fewR false nofun ((Bl.refl _).alloc _)
   by_cases g6 : 5 < r
   ·go_wp2
    go_ret
    exact fewR false nofun ((Bl.refl _).alloc _)
   by_cases g7 : z < -5
   ·go_wp2
    go_ret
    exact fewR false nofun ((Bl.refl _).alloc _)
   by_cases g8 : 5 < z
   ·go_wp2
    go_ret
    exact fewR false nofun ((Bl.refl _).alloc _)
   have e3 : ((lx : Int) != (m : Int)) = false := by simp; omega
   have e4 : ((lh : Int) != (m : Int)) = false := by simp; omega
   have G3 := hideP g3
   have G4 := hideP g4
   clear g3 g4
   go_wp2_with fail
   rw [← HW.out]
   have d0 := HD0.out
   have d1 := HD1.out
   have d2 := HD2.out
   have d3 := HD3.out
   have d4 := HD4.out
   have d5 := HD5.out
   go_loopw [61] (fun v wr => ∃ i : Nat, v = .int .i64 i ∧ i ≤ 5 ∧ ((0 < i → Sml 5 (X.take 10)) ∧ (1 < i → Sml 5 (H.take 10)) ∧ (2 < i → Sml 5 (Ro.take 10)) ∧ (3 < i → Sml 5 (Fm.take 10)) ∧ (4 < i → Sml 5 (Gm.take 10))) ∧ wr = W) (fun v _ => 5 - (intOf v).toNat)
   case atStart => exact ⟨0, rfl, by omega, ⟨fun h => absurd h (by omega), fun h => absurd h (by omega), fun h => absurd h (by omega), fun h => absurd h (by omega), fun h => absurd h (by omega)⟩, rfl⟩
   case round =>
    obtain ⟨i, rfl, hi, ⟨i0, i1, i2, i3, i4⟩, rfl⟩ := hrel
    have HI0 := hideP i0
    have HI1 := hideP i1
    have HI2 := hideP i2
    have HI3 := hideP i3
    have HI4 := hideP i4
    clear i0 i1 i2 i3 i4
    obtain ⟨wq, hwq⟩ : ∃ wq : World, wq = wr := ⟨_, rfl⟩
    subst hwq
    by_cases hlt : i < 5
    ·rcases (by omega : i = 0 ∨ i = 1 ∨ i = 2 ∨ i = 3 ∨ i = 4) with rfl | rfl | rfl | rfl | rfl
     ·have IX := Tryz.idx5_0 px ph pr pf pg lx cx lh ch lr cr lf cf lg cg wq
      go_wp2_with fail
      go_loopw [5] (fun v wr => ∃ k : Nat, v = .int .i64 k ∧ k ≤ X.length ∧ k ≤ 10 ∧ Sml 5 (X.take k) ∧ wr = wq) (fun v _ => 10 - (intOf v).toNat)
      case atStart => exact ⟨0, rfl, Nat.zero_le _, by omega, fun x hx => by simp at hx, rfl⟩
      case round =>
       obtain ⟨k, rfl, hk, hk2, hS, rfl⟩ := hrel
       have HS0 := hideP hS
       have hlen := HL0.out
       clear hS
       by_cases hlt : k < X.length ∧ k ≤ 9
       ·obtain ⟨hlt, hlt2⟩ := hlt
        obtain ⟨x, hx⟩ : ∃ x, X[k]? = some x := ⟨_, List.getElem?_eq_getElem hlt⟩
        obtain ⟨b, o, hp, hcell⟩ := HR0.out k x hx
        have cx9 := hcell wr BW.out
        have HT := hideP (show X.take (k + 1) = X.take k ++ [x] by rw [List.take_add_one, hx]; rfl)
        subst hp
        clear hcell hx
        by_cases g1 : x < -5
        ·go_wp2
         go_ret
         exact fewR false nofun B0.out
        ·by_cases g2 : 5 < x
         ·go_wp2
          go_ret
          exact fewR false nofun B0.out
         ·go_wp2
          go_roundw
          case rel =>
           refine ⟨k + 1, by simp, by omega, by omega, ?_⟩
           rw [HT.out]
           intro y hy
           rcases List.mem_append.1 hy with hy | hy
           ·exact HS0.out y hy
           ·simp at hy; omega
          case measure => simp [intOf]; omega
       ·have HS := hideP (show Sml 5 (X.take 10) from by
         by_cases h9 : k ≤ 9
         ·have e : X.take 10 = X.take k := by rw [List.take_of_length_le (by omega), List.take_of_length_le (by omega)]
          rw [e]; exact HS0.out
         ·obtain rfl : k = 10 := by omega
          exact HS0.out)
        by_cases h9 : k < X.length
        ·have h10 : ¬ k ≤ 9 := fun h => hlt ⟨h9, h⟩
         go_wp2_with fail
         go_roundw
         case rel => exact ⟨1, by simp, by omega, ⟨fun h => HS.out, fun h => absurd h (by omega), fun h => absurd h (by omega), fun h => absurd h (by omega), fun h => absurd h (by omega)⟩, trivial⟩
         case measure => simp [intOf]
        ·go_wp2_with fail
         go_roundw
         case rel => exact ⟨1, by simp, by omega, ⟨fun h => HS.out, fun h => absurd h (by omega), fun h => absurd h (by omega), fun h => absurd h (by omega), fun h => absurd h (by omega)⟩, trivial⟩
         case measure => simp [intOf]
     ·have IX := Tryz.idx5_1 px ph pr pf pg lx cx lh ch lr cr lf cf lg cg wq
      go_wp2_with fail
      go_loopw [5] (fun v wr => ∃ k : Nat, v = .int .i64 k ∧ k ≤ H.length ∧ k ≤ 10 ∧ Sml 5 (H.take k) ∧ wr = wq) (fun v _ => 10 - (intOf v).toNat)
      case atStart => exact ⟨0, rfl, Nat.zero_le _, by omega, fun x hx => by simp at hx, rfl⟩
      case round =>
       obtain ⟨k, rfl, hk, hk2, hS, rfl⟩ := hrel
       have HS0 := hideP hS
       have hlen := HL1.out
       clear hS
       by_cases hlt : k < H.length ∧ k ≤ 9
       ·obtain ⟨hlt, hlt2⟩ := hlt
        obtain ⟨x, hx⟩ : ∃ x, H[k]? = some x := ⟨_, List.getElem?_eq_getElem hlt⟩
        obtain ⟨b, o, hp, hcell⟩ := HR1.out k x hx
        have cx9 := hcell wr BW.out
        have HT := hideP (show H.take (k + 1) = H.take k ++ [x] by rw [List.take_add_one, hx]; rfl)
        subst hp
        clear hcell hx
        by_cases g1 : x < -5
        ·go_wp2
         go_ret
         exact fewR false nofun B0.out
        ·by_cases g2 : 5 < x
         ·go_wp2
          go_ret
          exact fewR false nofun B0.out
         ·go_wp2
          go_roundw
          case rel =>
           refine ⟨k + 1, by simp, by omega, by omega, ?_⟩
           rw [HT.out]
           intro y hy
           rcases List.mem_append.1 hy with hy | hy
           ·exact HS0.out y hy
           ·simp at hy; omega
          case measure => simp [intOf]; omega
       ·have HS := hideP (show Sml 5 (H.take 10) from by
         by_cases h9 : k ≤ 9
         ·have e : H.take 10 = H.take k := by rw [List.take_of_length_le (by omega), List.take_of_length_le (by omega)]
          rw [e]; exact HS0.out
         ·obtain rfl : k = 10 := by omega
          exact HS0.out)
        by_cases h9 : k < H.length
        ·have h10 : ¬ k ≤ 9 := fun h => hlt ⟨h9, h⟩
         go_wp2_with fail
         go_roundw
         case rel => exact ⟨2, by simp, by omega, ⟨fun h => (HI0.out (by omega)), fun h => HS.out, fun h => absurd h (by omega), fun h => absurd h (by omega), fun h => absurd h (by omega)⟩, trivial⟩
         case measure => simp [intOf]
        ·go_wp2_with fail
         go_roundw
         case rel => exact ⟨2, by simp, by omega, ⟨fun h => (HI0.out (by omega)), fun h => HS.out, fun h => absurd h (by omega), fun h => absurd h (by omega), fun h => absurd h (by omega)⟩, trivial⟩
         case measure => simp [intOf]
     ·have IX := Tryz.idx5_2 px ph pr pf pg lx cx lh ch lr cr lf cf lg cg wq
      go_wp2_with fail
      go_loopw [5] (fun v wr => ∃ k : Nat, v = .int .i64 k ∧ k ≤ Ro.length ∧ k ≤ 10 ∧ Sml 5 (Ro.take k) ∧ wr = wq) (fun v _ => 10 - (intOf v).toNat)
      case atStart => exact ⟨0, rfl, Nat.zero_le _, by omega, fun x hx => by simp at hx, rfl⟩
      case round =>
       obtain ⟨k, rfl, hk, hk2, hS, rfl⟩ := hrel
       have HS0 := hideP hS
       have hlen := HL2.out
       clear hS
       by_cases hlt : k < Ro.length ∧ k ≤ 9
       ·obtain ⟨hlt, hlt2⟩ := hlt
        obtain ⟨x, hx⟩ : ∃ x, Ro[k]? = some x := ⟨_, List.getElem?_eq_getElem hlt⟩
        obtain ⟨b, o, hp, hcell⟩ := HR2.out k x hx
        have cx9 := hcell wr BW.out
        have HT := hideP (show Ro.take (k + 1) = Ro.take k ++ [x] by rw [List.take_add_one, hx]; rfl)
        subst hp
        clear hcell hx
        by_cases g1 : x < -5
        ·go_wp2
         go_ret
         exact fewR false nofun B0.out
        ·by_cases g2 : 5 < x
         ·go_wp2
          go_ret
          exact fewR false nofun B0.out
         ·go_wp2
          go_roundw
          case rel =>
           refine ⟨k + 1, by simp, by omega, by omega, ?_⟩
           rw [HT.out]
           intro y hy
           rcases List.mem_append.1 hy with hy | hy
           ·exact HS0.out y hy
           ·simp at hy; omega
          case measure => simp [intOf]; omega
       ·have HS := hideP (show Sml 5 (Ro.take 10) from by
         by_cases h9 : k ≤ 9
         ·have e : Ro.take 10 = Ro.take k := by rw [List.take_of_length_le (by omega), List.take_of_length_le (by omega)]
          rw [e]; exact HS0.out
         ·obtain rfl : k = 10 := by omega
          exact HS0.out)
        by_cases h9 : k < Ro.length
        ·have h10 : ¬ k ≤ 9 := fun h => hlt ⟨h9, h⟩
         go_wp2_with fail
         go_roundw
         case rel => exact ⟨3, by simp, by omega, ⟨fun h => (HI0.out (by omega)), fun h => (HI1.out (by omega)), fun h => HS.out, fun h => absurd h (by omega), fun h => absurd h (by omega)⟩, trivial⟩
         case measure => simp [intOf]
        ·go_wp2_with fail
         go_roundw
         case rel => exact ⟨3, by simp, by omega, ⟨fun h => (HI0.out (by omega)), fun h => (HI1.out (by omega)), fun h => HS.out, fun h => absurd h (by omega), fun h => absurd h (by omega)⟩, trivial⟩
         case measure => simp [intOf]
     ·have IX := Tryz.idx5_3 px ph pr pf pg lx cx lh ch lr cr lf cf lg cg wq
      go_wp2_with fail
      go_loopw [5] (fun v wr => ∃ k : Nat, v = .int .i64 k ∧ k ≤ Fm.length ∧ k ≤ 10 ∧ Sml 5 (Fm.take k) ∧ wr = wq) (fun v _ => 10 - (intOf v).toNat)
      case atStart => exact ⟨0, rfl, Nat.zero_le _, by omega, fun x hx => by simp at hx, rfl⟩
      case round =>
       obtain ⟨k, rfl, hk, hk2, hS, rfl⟩ := hrel
       have HS0 := hideP hS
       have hlen := HL3.out
       clear hS
       by_cases hlt : k < Fm.length ∧ k ≤ 9
       ·obtain ⟨hlt, hlt2⟩ := hlt
        obtain ⟨x, hx⟩ : ∃ x, Fm[k]? = some x := ⟨_, List.getElem?_eq_getElem hlt⟩
        obtain ⟨b, o, hp, hcell⟩ := HR3.out k x hx
        have cx9 := hcell wr BW.out
        have HT := hideP (show Fm.take (k + 1) = Fm.take k ++ [x] by rw [List.take_add_one, hx]; rfl)
        subst hp
        clear hcell hx
        by_cases g1 : x < -5
        ·go_wp2
         go_ret
         exact fewR false nofun B0.out
        ·by_cases g2 : 5 < x
         ·go_wp2
          go_ret
          exact fewR false nofun B0.out
         ·go_wp2
          go_roundw
          case rel =>
           refine ⟨k + 1, by simp, by omega, by omega, ?_⟩
           rw [HT.out]
           intro y hy
           rcases List.mem_append.1 hy with hy | hy
           ·exact HS0.out y hy
           ·simp at hy; omega
          case measure => simp [intOf]; omega
       ·have HS := hideP (show Sml 5 (Fm.take 10) from by
         by_cases h9 : k ≤ 9
         ·have e : Fm.take 10 = Fm.take k := by rw [List.take_of_length_le (by omega), List.take_of_length_le (by omega)]
          rw [e]; exact HS0.out
         ·obtain rfl : k = 10 := by omega
          exact HS0.out)
        by_cases h9 : k < Fm.length
        ·have h10 : ¬ k ≤ 9 := fun h => hlt ⟨h9, h⟩
         go_wp2_with fail
         go_roundw
         case rel => exact ⟨4, by simp, by omega, ⟨fun h => (HI0.out (by omega)), fun h => (HI1.out (by omega)), fun h => (HI2.out (by omega)), fun h => HS.out, fun h => absurd h (by omega)⟩, trivial⟩
         case measure => simp [intOf]
        ·go_wp2_with fail
         go_roundw
         case rel => exact ⟨4, by simp, by omega, ⟨fun h => (HI0.out (by omega)), fun h => (HI1.out (by omega)), fun h => (HI2.out (by omega)), fun h => HS.out, fun h => absurd h (by omega)⟩, trivial⟩
         case measure => simp [intOf]
     ·have IX := Tryz.idx5_4 px ph pr pf pg lx cx lh ch lr cr lf cf lg cg wq
      go_wp2_with fail
      go_loopw [5] (fun v wr => ∃ k : Nat, v = .int .i64 k ∧ k ≤ Gm.length ∧ k ≤ 10 ∧ Sml 5 (Gm.take k) ∧ wr = wq) (fun v _ => 10 - (intOf v).toNat)
      case atStart => exact ⟨0, rfl, Nat.zero_le _, by omega, fun x hx => by simp at hx, rfl⟩
      case round =>
       obtain ⟨k, rfl, hk, hk2, hS, rfl⟩ := hrel
       have HS0 := hideP hS
       have hlen := HL4.out
       clear hS
       by_cases hlt : k < Gm.length ∧ k ≤ 9
       ·obtain ⟨hlt, hlt2⟩ := hlt
        obtain ⟨x, hx⟩ : ∃ x, Gm[k]? = some x := ⟨_, List.getElem?_eq_getElem hlt⟩
        obtain ⟨b, o, hp, hcell⟩ := HR4.out k x hx
        have cx9 := hcell wr BW.out
        have HT := hideP (show Gm.take (k + 1) = Gm.take k ++ [x] by rw [List.take_add_one, hx]; rfl)
        subst hp
        clear hcell hx
        by_cases g1 : x < -5
        ·go_wp2
         go_ret
         exact fewR false nofun B0.out
        ·by_cases g2 : 5 < x
         ·go_wp2
          go_ret
          exact fewR false nofun B0.out
         ·go_wp2
          go_roundw
          case rel =>
           refine ⟨k + 1, by simp, by omega, by omega, ?_⟩
           rw [HT.out]
           intro y hy
           rcases List.mem_append.1 hy with hy | hy
           ·exact HS0.out y hy
           ·simp at hy; omega
          case measure => simp [intOf]; omega
       ·have HS := hideP (show Sml 5 (Gm.take 10) from by
         by_cases h9 : k ≤ 9
         ·have e : Gm.take 10 = Gm.take k := by rw [List.take_of_length_le (by omega), List.take_of_length_le (by omega)]
          rw [e]; exact HS0.out
         ·obtain rfl : k = 10 := by omega
          exact HS0.out)
        by_cases h9 : k < Gm.length
        ·have h10 : ¬ k ≤ 9 := fun h => hlt ⟨h9, h⟩
         go_wp2_with fail
         go_roundw
         case rel => exact ⟨5, by simp, by omega, ⟨fun h => (HI0.out (by omega)), fun h => (HI1.out (by omega)), fun h => (HI2.out (by omega)), fun h => (HI3.out (by omega)), fun h => HS.out⟩, trivial⟩
         case measure => simp [intOf]
        ·go_wp2_with fail
         go_roundw
         case rel => exact ⟨5, by simp, by omega, ⟨fun h => (HI0.out (by omega)), fun h => (HI1.out (by omega)), fun h => (HI2.out (by omega)), fun h => (HI3.out (by omega)), fun h => HS.out⟩, trivial⟩
         case measure => simp [intOf]
    ·obtain rfl : i = 5 := by omega
     obtain ⟨mm, hmm⟩ : ∃ mm, mm = m * m := ⟨_, rfl⟩
     have hMM : (m : Int) * (m : Int) = (mm : Int) := by rw [hmm, Int.natCast_mul]
     have m3 : m ≤ 3 := by omega
     have mm9 : mm ≤ 9 := by rw [hmm]; exact Nat.mul_le_mul m3 m3
     have HMM := hideP hmm
     clear hmm
     by_cases k1 : lr = mm
     ·by_cases k2 : lf = mm
      ·by_cases k3 : lg = mm
       ·have f1 : ((lr : Int) == (mm : Int)) = true := by simp; omega
        have f2 : ((lf : Int) == (mm : Int)) = true := by simp; omega
        have f3 : ((lg : Int) == (mm : Int)) = true := by simp; omega
        go_wp2
        go_ret
        refine fewR _ (fun _ => ⟨m, rfl, ⟨by omega, by omega, by rw [HL0.out, G3.out], by rw [HL1.out, G4.out], by rw [HL2.out, k1, HMM.out], by rw [HL3.out, k2, HMM.out], by rw [HL4.out, k3, HMM.out], by omega, by omega, by omega, by omega, ?_, ?_, ?_, ?_, ?_⟩⟩) B0.out
        ·exact take_all9 (HI0.out (by omega)) HL0.out (by have := G3.out; omega)
        ·exact take_all9 (HI1.out (by omega)) HL1.out (by have := G4.out; omega)
        ·exact take_all9 (HI2.out (by omega)) HL2.out (by omega)
        ·exact take_all9 (HI3.out (by omega)) HL3.out (by omega)
        ·exact take_all9 (HI4.out (by omega)) HL4.out (by omega)
       ·have f1 : ((lr : Int) == (mm : Int)) = true := by simp; omega
        have f2 : ((lf : Int) == (mm : Int)) = true := by simp; omega
        have f3 : ((lg : Int) == (mm : Int)) = false := by simp; omega
        go_wp2
        go_ret
        exact fewR false nofun B0.out
      ·have f1 : ((lr : Int) == (mm : Int)) = true := by simp; omega
       have f2 : ((lf : Int) == (mm : Int)) = false := by simp; omega
       go_wp2
       go_ret
       exact fewR false nofun B0.out
     ·have f1 : ((lr : Int) == (mm : Int)) = false := by simp; omega
      go_wp2
      go_ret
      exact fewR false nofun B0.out
  ·have e3 : ((lx : Int) != (m : Int)) = false := by simp; omega
   have e4 : ((lh : Int) != (m : Int)) = true := by simp; omega
   go_wp2
   go_ret
   exact fewR false nofun ((Bl.refl _).alloc _)
 ·have e3 : ((lx : Int) != (m : Int)) = true := by simp; omega
  go_wp2
  go_ret
  exact fewR false nofun ((Bl.refl _).alloc _)
set_option maxRecDepth 100000 in
set_option maxHeartbeats 16000000 in
theorem walk_RootStays (n r z : Int) (vx vr vf vg vh : Value) (X Ro Fm Gm H : List Int) (w : World) (hX : Rq 1 cI w vx X) (hR : Rq 1 cI w vr Ro) (hF : Rq 1 cI w vf Fm) (hG : Rq 1 cI w vg Gm) (hH : Rq 1 cI w vh H) :
  Calls Tryz.prog 4 #[.agg #[.int .i64 n, vx, vr, vf, vg, vh, .int .i64 r, .int .i64 z]] w fun e w' => e = .returned (.bool true) ∧ Bl w w' := by
 have fm : Tryz.prog.follows .mixedOrders = true := by kernel_rfl
 have AW := hideP awake10_any
 obtain ⟨px, cx, rfl, _, _⟩ := hX.cut
 obtain ⟨pr, cr, rfl, _, _⟩ := hR.cut
 obtain ⟨pf, cf, rfl, _, _⟩ := hF.cut
 obtain ⟨pg, cg, rfl, _, _⟩ := hG.cut
 obtain ⟨ph, ch, rfl, _, _⟩ := hH.cut
 obtain ⟨lx, hlx⟩ : ∃ l, l = X.length := ⟨_, rfl⟩
 obtain ⟨lr, hlr⟩ : ∃ l, l = Ro.length := ⟨_, rfl⟩
 obtain ⟨lf, hlf⟩ : ∃ l, l = Fm.length := ⟨_, rfl⟩
 obtain ⟨lg, hlg⟩ : ∃ l, l = Gm.length := ⟨_, rfl⟩
 obtain ⟨lh, hlh⟩ : ∃ l, l = H.length := ⟨_, rfl⟩
 rw [← hlx] at hX
 rw [← hlr] at hR
 rw [← hlf] at hF
 rw [← hlg] at hG
 rw [← hlh] at hH
 rw [← hlx, ← hlr, ← hlf, ← hlg, ← hlh]
 obtain ⟨W, hW⟩ : ∃ W, W = w.alloc (.cells #[.int .i64 n, .slice px lx cx, .slice pr lr cr, .slice pf lf cf, .slice pg lg cg, .slice ph lh ch, .int .i64 r, .int .i64 z] 24) := ⟨_, rfl⟩
 have b0 : Bl w W := by rw [hW]; exact (Bl.refl _).alloc _
 have lt0 : w.heap.size < W.heap.size := by rw [hW]; simp
 have HC := hideP (show ∀ u, Bl W u → u.cell? ⟨w.heap.size, 0, none⟩ = some (.int .i64 n) ∧ u.cell? ⟨w.heap.size, 1, none⟩ = some (.slice px lx cx) ∧ u.cell? ⟨w.heap.size, 2, none⟩ = some (.slice pr lr cr) ∧ u.cell? ⟨w.heap.size, 3, none⟩ = some (.slice pf lf cf) ∧ u.cell? ⟨w.heap.size, 4, none⟩ = some (.slice pg lg cg) ∧ u.cell? ⟨w.heap.size, 5, none⟩ = some (.slice ph lh ch) ∧ u.cell? ⟨w.heap.size, 6, none⟩ = some (.int .i64 r) ∧ u.cell? ⟨w.heap.size, 7, none⟩ = some (.int .i64 z) from fun u hu => by
  refine ⟨?_, ?_, ?_, ?_, ?_, ?_, ?_, ?_⟩ <;> (rw [bl_cell hu _ _ lt0, hW]; simp [go_sem]))
 have FE := hideP (few9_any n r z px pr pf pg ph lx cx lr cr lf cf lg cg lh ch X Ro Fm Gm H W (hX.later b0) (hR.later b0) (hF.later b0) (hG.later b0) (hH.later b0) hlx.symm hlr.symm hlf.symm hlg.symm hlh.symm)
 have HW := hideP hW
 have HXR0 := hideP hX
 have HHR0 := hideP hH
 have HRR := hideP hR
 have HFR := hideP hF
 have HGR := hideP hG
 have hlx' := hideP hlx.symm
 have hlr' := hideP hlr.symm
 have hlf' := hideP hlf.symm
 have hlg' := hideP hlg.symm
 have hlh' := hideP hlh.symm
 clear hW hX hR hF hG hH hlx hlr hlf hlg hlh
 go_enter Tryz.func4, Tryz.ntmps4
 go_wp2_with fail
 rw [← HW.out]
 refine FE.out.mono ?_
 rintro e w1 ⟨b1, rfl, hb1, h1⟩
 clear FE
 cases b1 with
 | false =>
  go_wp2_with fail
  refine (AW.out _).mono ?_
  rintro e w99 ⟨rfl, h99⟩
  go_wp2
  go_ret
  exact ⟨rfl, (b0.trans h1).trans h99⟩
 | true =>
  obtain ⟨m, rfl, fw⟩ := hb1 rfl
  clear hb1
  obtain ⟨N, hN⟩ : ∃ N, N = m * m := ⟨_, rfl⟩
  obtain rfl : lx = m := by rw [← hlx'.out]; exact fw.x
  obtain ⟨m, rfl⟩ : ∃ m, m = lx := ⟨_, rfl⟩
  obtain rfl : lh = m := by rw [← hlh'.out]; exact fw.h
  obtain ⟨m, rfl⟩ : ∃ m, m = lh := ⟨_, rfl⟩
  obtain rfl : lr = N := by rw [← hlr'.out, hN]; exact fw.ro
  obtain ⟨N, rfl⟩ : ∃ N, N = lr := ⟨_, rfl⟩
  obtain rfl : lf = N := by rw [← hlf'.out, hN]; exact fw.f
  obtain ⟨N, rfl⟩ : ∃ N, N = lf := ⟨_, rfl⟩
  obtain rfl : lg = N := by rw [← hlg'.out, hN]; exact fw.g
  obtain ⟨N, rfl⟩ : ∃ N, N = lg := ⟨_, rfl⟩
  have m1 := fw.m1
  have m3 := fw.m3
  have hm4 : m ≤ 4 := by omega
  have hN9 : N ≤ 9 := by rw [hN]; exact Nat.mul_le_mul m3 m3
  have mN : m ≤ N := by rw [hN]; exact Nat.le_mul_of_pos_left m m1
  have HNN := hideP hN
  have HD := hideP (dim_le4 m1 hm4)
  have HFW := hideP fw
  have HXR := hideP (show Rq 1 cI w (.slice px m cx) (linJ m fun i => X.getD i 0) from by rw [← linJ_of (n := m) 0 X hlx'.out]; exact HXR0.out)
  have HHR := hideP (show Rq 1 cI w (.slice ph m ch) (linJ m fun i => H.getD i 0) from by rw [← linJ_of (n := m) 0 H hlh'.out]; exact HHR0.out)
  have b1w : Bl W w1 := h1
  clear hN fw HHR0
  obtain ⟨Rr, hRr⟩ : ∃ x : En, ptE (foN r) (foB r) = x := ⟨_, rfl⟩
  obtain ⟨Zz, hZz⟩ : ∃ x : En, ptE (foN z) (foB z) = x := ⟨_, rfl⟩
  have LN := hideP (lanes10_any m N r z px pr pf pg ph cx cr cf cg ch X Ro Fm Gm H w1 (HXR0.out.later (b0.trans b1w)) (HRR.out.later (b0.trans b1w)) (HFR.out.later (b0.trans b1w)) (HGR.out.later (b0.trans b1w)) (by have := HHR.out.later (b0.trans b1w); rw [← linJ_of (n := m) 0 H hlh'.out] at this; exact this) hlx'.out hlr'.out hlf'.out hlg'.out hlh'.out m1 m3 HNN.out Rr Zz hRr hZz)
  clear hRr hZz
  obtain ⟨c0, c1, c2, c3, c4, c5, c6, c7⟩ := HC.out w1 (b1w)
  go_wp2_with fail
  refine LN.out.mono ?_
  rintro e w2 ⟨q2, cq2, p2, c2', rfl, ⟨hR, hM⟩, h2⟩
  clear c0 c1 c2 c3 c4 c5 c6 c7
  clear LN hR
  obtain ⟨E, hE⟩ : ∃ e : En, e = laneE m X Fm H Zz := ⟨_, rfl⟩
  obtain ⟨A, hA⟩ : ∃ e : En, e = (laneR m Ro Fm Gm H Rr).a := ⟨_, rfl⟩
  rw [← hE, ← hA]
  obtain ⟨S, hS⟩ : ∃ e : Nat → Nat → En, e = (laneR m Ro Fm Gm H Rr).s := ⟨_, rfl⟩
  rw [← hS] at hM
  have HAB := hideP (show aboveBN m S (fun x => eqN x (ptE 0 (frB 0))) = true from by rw [hS]; exact stays_math m Ro Fm Gm H Rr)
  clear hE hA hS
  obtain ⟨W2, hW2⟩ : ∃ W2, W2 = (w2.alloc (.cells #[.slice q2 m cq2, .int .i64 m, .int .i64 m, .slice p2 N c2'] 50)).alloc (.cells #[.int .i64 E.v, .int .i64 E.l, .int .i64 E.h, .bool E.bad, .int .i64 A.v, .int .i64 A.l, .int .i64 A.h, .bool A.bad] 54) := ⟨_, rfl⟩
  have b2 : Bl w2 W2 := by rw [hW2]; exact ((Bl.refl _).alloc _).alloc _
  have k2 : SBox W2 w2.heap.size q2 m cq2 m m p2 N c2' := by rw [hW2]; exact (SBox.new w2 _ _ _ _ _ _ _ _ _).later ((Bl.refl _).alloc _)
  have HM2 := hideP (Mx.later hM b2)
  have b2w : Bl W W2 := b1w.trans (h2.trans b2)
  have RT := hideP (fun u => by have := rRightN q2 m cq2 m m p2 N c2' u; rw [fitJ_dim HM2.out.1 HM2.out.2.1 hm4] at this; exact this)
  have IS := hideP (fun u (hu : Bl W2 u) => by have := tIsN m p2 N c2' S 23 (fun x => eqN x (ptE 0 (frB 0))) u (HM2.out.later hu) (enters_of Tryz.func23 (by kernel_rfl) rfl) (fun x u _ => stays1_any x u); rw [HAB.out] at this; exact this)
  have HW2 := hideP hW2
  obtain ⟨s0, s1, s2, s3, _, _, _, _, _⟩ := id k2
  rw [hW2] at s0 s1 s2 s3
  clear hW2 hM
  go_wp2_with fail
  rw [← HW2.out]
  refine (RT.out _).mono ?_
  rintro e w3 ⟨rfl, h3⟩
  clear s0 s1 s2 s3
  obtain ⟨s0, s1, s2, s3, _, _, _, _, _⟩ := k2.later h3
  go_wp2_with fail
  refine (IS.out _ h3).mono ?_
  rintro e w4 ⟨rfl, h4⟩
  clear s0 s1 s2 s3
  go_wp2_with fail
  refine (AW.out _).mono ?_
  rintro e w5 ⟨rfl, h5⟩
  go_wp2
  go_ret
  exact ⟨rfl, (b0.trans (b2w.trans (h3.trans h4))).trans h5⟩
end Go.Proofs.YtljmggemdkfbiaaGreat
namespace Go.Proofs.YtljmggemdkfbiaaGreat
open Go.ChangeShapes Go.WideShapes Go.ChangeAt Go.RowKit
set_option linter.unusedVariables false
theorem Tryz.cellsInt : Tryz.prog.cellsOf 3 = 1 := by kernel_rfl
theorem cell_block_lt {W : World} {b o : Nat} {v : Value} (h : W.cell? ⟨b, o, none⟩ = some v) : b < W.heap.size := by
 rcases Nat.lt_or_ge b W.heap.size with h' | h'
 ·exact h'
 ·have : W.heap[b]? = none := Array.getElem?_eq_none h'
  simp [World.cell?, this] at h
end Go.Proofs.YtljmggemdkfbiaaGreat
namespace Go.Proofs.YtljmggemdkfbiaaGreat
open Go.ChangeShapes Go.WideShapes Go.ChangeAt Go.RowKit Go.Joins
set_option linter.unusedVariables false
abbrev caseV (n : Int) (x root f g h : Value) (r z : Int) : Value := .agg #[.int .i64 n, x, root, f, g, h, .int .i64 r, .int .i64 z]
theorem array8 {α : Type} {cs : Array α} (h : cs.size = 8) : ∃ c0 c1 c2 c3 c4 c5 c6 c7, cs = #[c0, c1, c2, c3, c4, c5, c6, c7] := by
 obtain ⟨l⟩ := cs
 match l, h with
 | [c0, c1, c2, c3, c4, c5, c6, c7], _ => exact ⟨c0, c1, c2, c3, c4, c5, c6, c7, rfl⟩
theorem cellsCase : Tryz.prog.cellsOf 24 = 8 := by kernel_rfl
set_option maxRecDepth 1000000 in
theorem row_trod {H : Type} {enc : TypeId × Value → H} {W : World} {n : Nat} {v : Value} {y : DataW H × List MemPlace}
  (hf : DataW.trod enc Tryz.prog W 0 (fun _ => true) true n 22 [v] = some y) : ∃ ns : List Int, Rq 1 cI W v ns ∧ ∀ n ∈ ns, (Lit.int .i64 n).wf = true := by
 obtain ⟨d, p⟩ := y
 rcases open_ints Tryz.underlying22 Tryz.underlying3 Tryz.cellsInt hf with ⟨hcs, hx⟩ | ⟨a, len', cap', zs, hcs, _, hl, hm, hz, hx, hcell, hwz⟩
 ·simp at hcs
  subst hcs
  exact ⟨[], .inl ⟨none, 0, rfl, rfl, fun _ => rfl⟩, fun n hn => by simp at hn⟩
 ·simp at hcs
  subst hcs
  simp only [if_true] at hz
  refine ⟨zs.take len', ?_, fun n hn => hwz n (List.mem_of_mem_take hn)⟩
  by_cases h0 : len' = 0
  ·subst h0
   exact .inl ⟨some a, cap', rfl, by simp, nofun⟩
  ·have c0 := hcell 0 (by omega)
   obtain ⟨b, off, rfl, hc⟩ := ints_at hcell (by omega)
   have hb : b < W.heap.size := by
    have := hc 0 (by omega)
    exact cell_block_lt this
   have hll : (zs.take len').length = len' := by simp; omega
   refine .inr ⟨b, off, cap', by rw [hll], by omega, hb, fun j x hj k u hu => ?_⟩
   rcases k with _ | k
   ·simp at hu
    subst hu
    have hj2 := (List.getElem?_eq_some_iff.1 hj).1
    have := hc j (by omega)
    rw [List.getElem?_take] at hj
    split at hj
    ·have e : zs.getD j 0 = x := by simp [List.getD, hj]
     rw [e] at this
     simpa using this
    ·cases hj
   ·simp at hu
set_option maxRecDepth 1000000 in
theorem open_case {H : Type} {enc : TypeId × Value → H} {W : World} {b0 : Nat} {v : Value} {d : DataW H} {p : List MemPlace}
  (hv : Value.okWide Tryz.prog W .any b0 24 v) (h : DataW.Trod enc Tryz.prog W 0 (fun _ => true) true 24 v d p) :
  ∃ (n r z : Int) (x root f g h' : Value) (X Root F G H' : List Int), v = caseV n x root f g h' r z ∧ Rq 1 cI W x X ∧ Rq 1 cI W root Root ∧ Rq 1 cI W f F ∧ Rq 1 cI W g G ∧ Rq 1 cI W h' H' := by
 obtain ⟨cs, rfl, hsz⟩ := okWide_struct Tryz.underlying24 hv
 obtain ⟨c0, c1, c2, c3, c4, c5, c6, c7, rfl⟩ := array8 (hsz.trans cellsCase)
 obtain ⟨fuel, hf⟩ := h
 obtain ⟨xs, n, _, hxx, hl, hlen, hall⟩ := DataW.trod_struct Tryz.underlying24 hf
 match xs, hlen with
 | [y0, y1, y2, y3, y4, y5, y6, y7], _ =>
  have h0 := hall 0 _ rfl
  have h1 := hall 1 _ rfl
  have h2 := hall 2 _ rfl
  have h3 := hall 3 _ rfl
  have h4 := hall 4 _ rfl
  have h5 := hall 5 _ rfl
  have h6 := hall 6 _ rfl
  have h7 := hall 7 _ rfl
  simp only [Value.cells] at h0 h1 h2 h3 h4 h5 h6 h7
  simp at h0 h1 h2 h3 h4 h5 h6 h7
  have k1 : Tryz.prog.cellsOf 3 = 1 := by kernel_rfl
  have k2 : Tryz.prog.cellsOf 22 = 1 := by kernel_rfl
  rw [k1] at h0 h6 h7
  rw [k2] at h1 h2 h3 h4 h5
  simp only [List.take_succ_cons, List.take_zero] at h0 h1 h2 h3 h4 h5 h6 h7
  obtain ⟨n0, e0, _, _⟩ := DataW.trod_int Tryz.underlying3 h0
  obtain ⟨r0, e6, _, _⟩ := DataW.trod_int Tryz.underlying3 h6
  obtain ⟨z0, e7, _, _⟩ := DataW.trod_int Tryz.underlying3 h7
  obtain ⟨X, hX, _⟩ := row_trod h1
  obtain ⟨Root, hRoot, _⟩ := row_trod h2
  obtain ⟨F, hF, _⟩ := row_trod h3
  obtain ⟨G, hG, _⟩ := row_trod h4
  obtain ⟨H', hH, _⟩ := row_trod h5
  simp only [List.cons.injEq, and_true] at e0 e6 e7
  subst e0 e6 e7
  exact ⟨n0, r0, z0, c1, c2, c3, c4, c5, X, Root, F, G, H', rfl, hX, hRoot, hF, hG, hH⟩
end Go.Proofs.YtljmggemdkfbiaaGreat
namespace Go.Proofs.YtljmggemdkfbiaaGreat
open Go.ChangeShapes Go.WideShapes Go.ChangeAt Go.RowKit
set_option linter.unusedVariables false
theorem own_RootStays : ownKnob Tryz.prog.godebug = none := by kernel_rfl
theorem laid_RootStays : laidOutB Tryz.prog = true := by kernel_rfl
set_option maxRecDepth 100000 in
theorem lifted_RootStays (os : Os) (started : os.Started) (H : Type) (enc : TypeId × Value → H) :
  ReturnsInHanded {} Tryz.checked os 4 .any (Rows.rootStaysSpec.pre6 enc Tryz.prog Tryz.f4 Rows.rootStaysRow.domain false) (Rows.rootStaysSpec.post enc Tryz.prog Tryz.f4 false true false false) := by
 refine returnsInHanded_of_change (C := Tryz.checked) own_RootStays started (by kernel_rfl) Tryz.func4
  (ChangeSpec.witness6 (enc := enc) (C := Tryz.checked) false ⟨#[], #[.agg #[.int .i64 0, .slice none 0 0, .slice none 0 0, .slice none 0 0, .slice none 0 0, .slice none 0 0, .int .i64 0, .int .i64 0]], []⟩ 8 (by kernel_rfl) (by kernel_rfl) (by kernel_rfl) (by kernel_rfl)) ?_
 intro W base args ds gs before hval0 hW hcnd _
 have hval : ∀ (j : Nat) t v, Tryz.f4.params[j]? = some t → args[j]? = some v → Value.okWide Tryz.prog W .any base t v := hval0
 have hW' := hW
 obtain ⟨p, q, hA0, hV, rfl, hfz, hnd⟩ := hW
 have hA : DataW.TrodAll enc Tryz.prog W 0 (fun _ => true) true Tryz.f4.params.toList args.toList ds p := hA0
 rw [Tryz.params4] at hA hval
 obtain ⟨v0, vs0, d0, ds0, p0, q0, hargs, rfl, rfl, h0, r0⟩ := trodAll_cons hA
 obtain ⟨rfl, rfl, rfl⟩ := trodAll_nil r0
 obtain rfl : args = #[v0] := by cases args; simp_all
 obtain ⟨rfl, rfl⟩ := trodVars_none hV
 have hltA := fun x hx => hW'.lt x hx
 obtain ⟨n0, r0x, z0, x0, o0, f0, g0, k0, X0, O0, F0, G0, K0, e0, R0a, R0b, R0c, R0d, R0e⟩ := open_case (hval 0 24 v0 rfl rfl) h0
 subst e0
 clear hA0 hval0
 refine (walk_RootStays n0 r0x z0 x0 o0 f0 g0 k0 X0 O0 F0 G0 K0 W R0a R0b R0c R0d R0e).mono fun e W' ⟨he, bel⟩ => ?_
 subst he
 exact ⟨_, rfl, _, _, _, [], _, [], hW', trodAll_mk1 (shut_bool Tryz.underlying4 _), (trodAll_cons_mk (Below.trod laid_RootStays (by kernel_rfl) (of_decide_eq_true (by kernel_rfl)) h0 bel (fun x hx => by have := hltA x (by simp [hx]); simpa using this)) trodAll_mk0), rfl, Below.frame bel _, fun h => by cases h⟩
theorem proved_RootStays : Rows.RootStaysSaid :=
 OpenClaim.holds_of_wide 4 Tryz.f4 rfl rfl rfl rfl rfl rfl rfl ⟨rfl, rfl, rfl, rfl, rfl⟩ rfl rfl rfl rfl rfl (by kernel_rfl) Tryz.func4 (by kernel_rfl)
  (of_decide_eq_true (by kernel_rfl)) (by unfold Func.isWrapper; first | (rw [if_pos (by decide +kernel)]; kernel_rfl) | (rw [if_neg (by decide +kernel)]; exact ⟨rfl, rfl⟩))
  (fun os started H enc _ => lifted_RootStays os started H enc)
#print axioms proved_RootStays
end Go.Proofs.YtljmggemdkfbiaaGreat
