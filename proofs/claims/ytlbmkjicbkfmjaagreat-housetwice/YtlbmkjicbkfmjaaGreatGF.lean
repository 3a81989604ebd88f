/- Enclosed numbers beside fractions: the same steps of both; what is told of enclosed numbers encloses what is told of fractions, where that may be one. Mathematics alone. -/
import Derived.Test.YtlbmkjicbkfmjaaGreatVeR
import Derived.Test.YtlbmkjicbkfmjaaGreatGE
import Derived.Deep.RegionHeld3
import Derived.Deep.RegionWith
import Derived.RangeFuncNested
import Derived.RangeFuncBound
import Derived.RangeFuncCalls
import Derived.RangeFuncLeaves
import Derived.Shelf.Abstract
import Derived.Shelf.RegionOpen
import Derived.OwnWalkIn
import Derived.TacticsInMore
import Derived.LoopNIn
import Derived.LoopIn
import Derived.Test.YtlbmkjicbkfmjaaGreatVeG
import Derived.Test.YtlbmkjicbkfmjaaGreatGA
import Derived.Test.YtlbmkjicbkfmjaaGreatFrN
/- Contracts of vec's whole, Sum, Whole, Scale, of enclosed numbers (layer 5). Written by genVe.py. -/
namespace Go.Proofs.YtlbmkjicbkfmjaaGreat
open Go.RowKit
set_option linter.unusedSimpArgs false
set_option linter.unusedVariables false

theorem Tryz.mOfN (x : Value) (w : World) : (method 332 28 x "Of").run Tryz.prog w = .ok (25, x) w := by kernel_rfl
theorem Tryz.mAddN (x : Value) (w : World) : (method 332 28 x "Add").run Tryz.prog w = .ok (201, x) w := by kernel_rfl
theorem Tryz.mSubN (x : Value) (w : World) : (method 332 28 x "Sub").run Tryz.prog w = .ok (207, x) w := by kernel_rfl
theorem Tryz.mMulN (x : Value) (w : World) : (method 332 28 x "Mul").run Tryz.prog w = .ok (203, x) w := by kernel_rfl
theorem Tryz.info_N : (Tryz.prog.info? 28).map (fun i => (i.zero, i.size, i.bytes)) = some (some (.agg #[.int .i64 0, .int .i64 0, .int .i64 0, .bool false]), 4, 32) := by kernel_rfl

/-- A number's cells. -/
def cellsN (x : En) : List Value := [.int .i64 x.v, .int .i64 x.l, .int .i64 x.h, .bool x.bad]
theorem cellsN_len (x : En) : (cellsN x).length = 4 := rfl
theorem Box.fill {u : World} {p : Nat} {r : En} (h : Box u p r) (x : En) : Box ((((u.setCell ⟨p, 0, none⟩ (.int .i64 x.v)).setCell ⟨p, 1, none⟩ (.int .i64 x.l)).setCell ⟨p, 2, none⟩ (.int .i64 x.h)).setCell ⟨p, 3, none⟩ (.bool x.bad)) p x := by
  obtain ⟨c0, c1, c2, c3, f0, f1, f2, f3, lt⟩ := h
  refine ⟨?_, ?_, ?_, ?_, ?_, ?_, ?_, ?_, ?_⟩ <;> simp [go_sem, *]
theorem Box.oth {u : World} {p q : Nat} {r : En} (h : Box u p r) (hne : p ≠ q) (y0 y1 y2 y3 : Value) : Box ((((u.setCell ⟨q, 0, none⟩ (y0)).setCell ⟨q, 1, none⟩ (y1)).setCell ⟨q, 2, none⟩ (y2)).setCell ⟨q, 3, none⟩ (y3)) p r := by
  obtain ⟨c0, c1, c2, c3, f0, f1, f2, f3, lt⟩ := h
  have hne' := hne.symm
  refine ⟨?_, ?_, ?_, ?_, ?_, ?_, ?_, ?_, ?_⟩ <;> simp [go_sem, *]

theorem vwholeN (n : Int) (w : World) :
    Calls Tryz.prog 63 #[.int .i64 n] w fun e w' => e = .returned (enV (ptE (foN n) (foB n))) ∧ Bl w w' := by
  have iv := Tryz.mOfN
  obtain ⟨W, hW⟩ : ∃ W, W = (w.alloc (.cells #[.int .i64 0, .int .i64 0, .int .i64 0, .bool false] 28)).alloc (.cells #[.int .i64 0, .int .i64 0, .int .i64 0, .bool false] 28) := ⟨_, rfl⟩
  have b0 : Bl w W := by rw [hW]; exact ((Bl.refl _).alloc _).alloc _
  have x0 : Box W w.heap.size zeroE := by rw [hW]; exact (Box.new w zeroE _).later ((Bl.refl _).alloc _)
  have HW := hideP hW
  clear hW
  have OF := hideP (ofE_any zeroE n)
  generalize (ptE (foN n) (foB n)) = r at *
  go_enter Tryz.func63, Tryz.ntmps63
  go_wp2_with fail
  rw [← HW.out]
  refine (OF.out _).mono ?_
  rintro e w1 ⟨rfl, h1⟩
  obtain ⟨c0, c1, c2, c3, f0, f1, f2, f3, lt⟩ := x0.later h1
  clear iv
  go_wp2
  simp [bodyPost, results, Tryz.results63, go_sem, c0, c1, c2, c3]
  exact Bl.set4 (b0.trans h1) (Nat.le_refl _) _ _ _ _

/-- The sum of all, from 0 on. -/
def sumN (xs : List En) : En := xs.foldl addE (ptE (foN 0) (foB 0))
theorem sumN_snoc (xs : List En) (k : Nat) (x : En) (h : xs[k]? = some x) : sumN (xs.take (k + 1)) = addE (sumN (xs.take k)) x := by
  unfold sumN
  rw [List.take_add_one, h]
  simp

set_option maxHeartbeats 1000000 in
theorem vsumN (v : Value) (xs : List En) (w : World) (h : Rq 4 cellsN w v xs) (hl : xs.length ≤ 1000000) :
    Calls Tryz.prog 101 #[v] w fun e w' => e = .returned (enV (sumN xs)) ∧ Bl w w' := by
  have iv := Tryz.mAddN
  obtain ⟨W, hW⟩ : ∃ W, W = w.alloc (.cells #[.int .i64 0, .int .i64 0, .int .i64 0, .bool false] 28) := ⟨_, rfl⟩
  have b0 : Bl w W := by rw [hW]; exact (Bl.refl _).alloc _
  have x0 : Box W w.heap.size zeroE := by rw [hW]; exact Box.new w zeroE _
  have HW := hideP hW
  clear hW
  rcases h with ⟨p, cap, rfl, rfl, hpn⟩ | ⟨b, o, cap, rfl, hc, hb, hx⟩
  · go_enter Tryz.func101, Tryz.ntmps101
    go_wp2_with fail
    rw [← HW.out]
    refine (vwholeN 0 _).mono ?_
    rintro e w1 ⟨rfl, h1⟩
    go_wp2_with fail
    go_loopw [9] (fun i wr => i = .int .i64 0 ∧ Box wr w1.heap.size (sumN []) ∧ Box wr w.heap.size zeroE ∧ Bl w wr) (fun i _ => 0)
    case atStart => exact ⟨rfl, Box.new w1 (ptE (foN 0) (foB 0)) _, (x0.later h1).later ((Bl.refl _).alloc _), (b0.trans h1).alloc _⟩
    case round =>
      obtain ⟨rfl, bs, bz, bl⟩ := hrel
      obtain ⟨c0, c1, c2, c3, f0, f1, f2, f3, lt⟩ := bs
      obtain ⟨d0, d1, d2, d3, g0, g1, g2, g3, zlt⟩ := bz
      go_wp2
      simp [bodyPost, results, Tryz.results101, go_sem, d0, d1, d2, d3]
      exact Bl.set4 bl (Nat.le_refl _) _ _ _ _
  · have HX := hideP hx
    clear hx
    go_enter Tryz.func101, Tryz.ntmps101
    go_wp2_with fail
    rw [← HW.out]
    refine (vwholeN 0 _).mono ?_
    rintro e w1 ⟨rfl, h1⟩
    generalize hz : (ptE (foN 0) (foB 0)) = z at *
    go_wp2_with fail
    go_loopw [9] (fun i wr => ∃ k : Nat, i = .int .i64 k ∧ k ≤ xs.length ∧ Box wr w1.heap.size (sumN (xs.take k)) ∧ Box wr w.heap.size zeroE ∧ Bl w wr) (fun i _ => xs.length - (intOf i).toNat)
    case atStart =>
      refine ⟨0, rfl, Nat.zero_le _, ?_, (x0.later h1).later ((Bl.refl _).alloc _), (b0.trans h1).alloc _⟩
      have : sumN (xs.take 0) = z := by rw [← hz]; rfl
      rw [this]
      exact Box.new w1 z _
    case round =>
      obtain ⟨k, rfl, hk, bs, bz, bl⟩ := hrel
      by_cases hlt : k < xs.length
      · obtain ⟨x, hx⟩ : ∃ x, xs[k]? = some x := ⟨_, List.getElem?_eq_getElem hlt⟩
        obtain ⟨c0, c1, c2, c3, f0, f1, f2, f3, lt⟩ := bs
        have CX : ∀ j u, (cellsN x)[j]? = some u → wr.cell? ⟨b, o + k * 4 + j, none⟩ = some u := fun j u hu => (bl_cell bl _ _ hb).trans (HX.out k x hx j u hu)
        have y0 : wr.cell? ⟨b, o + k * 4, none⟩ = some (.int .i64 x.v) := CX 0 _ rfl
        have y1 : wr.cell? ⟨b, o + k * 4 + 1, none⟩ = some (.int .i64 x.l) := CX 1 _ rfl
        have y2 : wr.cell? ⟨b, o + k * 4 + 2, none⟩ = some (.int .i64 x.h) := CX 2 _ rfl
        have y3 : wr.cell? ⟨b, o + k * 4 + 3, none⟩ = some (.bool x.bad) := CX 3 _ rfl
        clear CX
        go_wp2_with fail
        refine (eadd_any _ _ _).mono ?_
        rintro e w2 ⟨rfl, h2⟩
        have bl2 : Bl wr w2 := ((Bl.refl _).alloc _).trans h2
        have bs2 := (⟨c0, c1, c2, c3, f0, f1, f2, f3, lt⟩ : Box wr w1.heap.size (sumN (xs.take k))).later bl2
        have bz2 := bz.later bl2
        clear c0 c1 c2 c3 f0 f1 f2 f3 y0 y1 y2 y3
        obtain ⟨c0, c1, c2, c3, f0, f1, f2, f3, lt2⟩ := id bs2
        have SN := hideP (sumN_snoc xs k x hx)
        generalize hS : addE (sumN (xs.take k)) x = S at *
        go_wp2
        go_roundw
        case rel =>
          refine ⟨k + 1, by simp, hlt, ?_, ?_, ?_⟩
          · rw [SN.out]; exact bs2.fill S
          · exact bz2.oth (by have := b0.size; have := h1.size; have := x0.lt; omega) _ _ _ _
          · exact Bl.set4 (bl.trans bl2) (by have := b0.size; have := h1.size; omega) _ _ _ _
        case measure => simp [intOf]; omega
      · have hk' : k = xs.length := by omega
        subst hk'
        rw [List.take_length] at bs
        obtain ⟨c0, c1, c2, c3, f0, f1, f2, f3, lt⟩ := bs
        obtain ⟨d0, d1, d2, d3, g0, g1, g2, g3, zlt⟩ := bz
        go_wp2
        simp [bodyPost, results, Tryz.results101, go_sem, d0, d1, d2, d3]
        exact Bl.set4 bl (Nat.le_refl _) _ _ _ _

/-- The relation behind an append of one number. -/
theorem ownN_step {w wr w1 : World} {v v' : Value} {xs : List En} {x : En} {o : Obj} (hb : Bl w wr) (hown : wr.ownsRow w.heap.size 28 4 v xs.length (xs.flatMap cellsN))
    (hown' : w1.ownsRow w.heap.size 28 4 v' (xs.length + 1) (xs.flatMap cellsN ++ cellsN x)) (hg : (wr.alloc o).grownBy w1 v.ownBlock) :
    Bl w w1 ∧ w1.ownsRow w.heap.size 28 4 v' (xs ++ [x]).length ((xs ++ [x]).flatMap cellsN) := by
  refine ⟨Below.grown (Below.alloc hb hb.size o) hg (by have := hb.size; simp; omega) (fun k hk => (hown.lt k hk).1), ?_⟩
  simpa [List.flatMap_append] using hown'
/-- What is owned is so behind a call that turns nothing. -/
theorem own_blN {w w' : World} {B n : Nat} {v : Value} {l : List Value} (h : w.ownsRow B 28 4 v n l) (k : Bl w w') : w'.ownsRow B 28 4 v n l := by
  refine ⟨h.1, ?_⟩
  rcases h.2 with hn | ⟨g, cap, cur, rfl, hb, hg, rest⟩
  · exact .inl hn
  · exact .inr ⟨g, cap, cur, rfl, hb, (Below.block k g (Array.getElem?_eq_some_iff.1 hg).1).trans hg, rest⟩
/-- As ownN_step, of a row that lies at or beyond n₀. -/
theorem ownN_step' {n₀ : Nat} {w wr w1 : World} {v v' : Value} {xs : List En} {x : En} {o : Obj} (hb : Bl w wr) (hn : w.heap.size ≤ n₀) (hown : wr.ownsRow n₀ 28 4 v xs.length (xs.flatMap cellsN))
    (hown' : w1.ownsRow n₀ 28 4 v' (xs.length + 1) (xs.flatMap cellsN ++ cellsN x)) (hg : (wr.alloc o).grownBy w1 v.ownBlock) :
    Bl w w1 ∧ w1.ownsRow n₀ 28 4 v' (xs ++ [x]).length ((xs ++ [x]).flatMap cellsN) := by
  refine ⟨Below.grown (Below.alloc hb hb.size o) hg (by have := hb.size; simp; omega) (fun k hk => by have := (hown.lt k hk).1; omega), ?_⟩
  simpa [List.flatMap_append] using hown'
/-- A number's block that lies below n₀ abides an append to a row that lies at or beyond it. -/
theorem Box.grown {n₀ n p : Nat} {w wr w1 : World} {v : Value} {l : List Value} {x : En} (h : Box w p x) (hb : Bl w wr) (hown : w.ownsRow n₀ 28 4 v n l) (hg : wr.grownBy w1 v.ownBlock) (hp : p < n₀) : Box w1 p x := by
  have h' := h.later hb
  have hk : w1.heap[p]? = wr.heap[p]? := hg.block p h'.lt (fun e => by have := (hown.lt p e.symm).1; omega)
  obtain ⟨c0, c1, c2, c3, f0, f1, f2, f3, lt⟩ := h'
  exact ⟨(World.cell?_of_block (a := ⟨p, 0, none⟩) hk).trans c0, (World.cell?_of_block (a := ⟨p, 1, none⟩) hk).trans c1, (World.cell?_of_block (a := ⟨p, 2, none⟩) hk).trans c2, (World.cell?_of_block (a := ⟨p, 3, none⟩) hk).trans c3, (World.frozen?_of_block (a := ⟨p, 0, none⟩) hk).trans f0, (World.frozen?_of_block (a := ⟨p, 1, none⟩) hk).trans f1, (World.frozen?_of_block (a := ⟨p, 2, none⟩) hk).trans f2, (World.frozen?_of_block (a := ⟨p, 3, none⟩) hk).trans f3, by have := hg.size; omega⟩
/-- The cells of a number that was just laid. -/
theorem newN_cells (w : World) (x : En) (t : TypeId) : ∀ j u, (cellsN x)[j]? = some u → (w.alloc (.cells #[.int .i64 x.v, .int .i64 x.l, .int .i64 x.h, .bool x.bad] t)).cell? ((⟨w.heap.size, 0, none⟩ : Addr).add j) = some u := by
  intro j u hu
  have hadd : (⟨w.heap.size, 0, none⟩ : Addr).add j = ⟨w.heap.size, j, none⟩ := by unfold Addr.add; split <;> simp_all
  rw [hadd]
  have h := Box.new w x t
  unfold cellsN at hu
  rcases j with _ | _ | _ | _ | j
  · simp at hu; rw [← hu]; exact h.c0
  · simp at hu; rw [← hu]; exact h.c1
  · simp at hu; rw [← hu]; exact h.c2
  · simp at hu; rw [← hu]; exact h.c3
  · simp at hu
theorem oneN_cells (x : En) : ∀ u ∈ cellsN x, u.oneCell' = true := by
  intro u hu
  unfold cellsN at hu
  simp only [List.mem_cons, List.not_mem_nil, or_false] at hu
  rcases hu with rfl | rfl | rfl | rfl <;> rfl

/-- Whole numbers, of this kind. -/
def wholeN (n : Int) : En := ptE (foN n) (foB n)
set_option maxHeartbeats 1000000 in
theorem vWholeN' (v : Value) (ns : List Int) (w : World) (h : Rq 1 (fun n => [.int .i64 n]) w v ns) (hl : ns.length ≤ 1000000) :
    Calls Tryz.prog 23 #[v] w fun e w' => ∃ u, e = .returned u ∧ Rw 4 cellsN w' u (ns.map wholeN) ∧ Fresh w.heap.size u ∧ Bl w w' := by
  obtain ⟨i0, hi, hz0, hz1, hz2⟩ := info_parts Tryz.info_N
  rcases h with ⟨p, cap, rfl, rfl, hpn⟩ | ⟨b, o, cap, rfl, hc, hb, hx⟩
  · go_enter Tryz.func23, Tryz.ntmps23
    go_wp2_with (at_make; refine wpList_make_own _ rfl _ _ 22 rfl w.heap.size 28 i0 (.agg #[.int .i64 0, .int .i64 0, .int .i64 0, .bool false]) 4 Tryz.underlying22 hi hz0 hz1 .i64 .i64 _ 0 rfl rfl (by simp) (by rw [hz2]; omega) (by unfold maxLen; omega) (Nat.le_refl _) ?_; intro w0 hown0 hgrow0)
    have hB0 : Bl w w0 := (Bl.refl w).grown hgrow0 (by omega) (fun k e => by cases e)
    go_loopw [3, 11] (fun v i wr => i = .int .i64 0 ∧ wr.ownsRow w.heap.size 28 4 v 0 [] ∧ Bl w wr) (fun _ _ _ => 0)
    case atStart => exact ⟨rfl, hown0, hB0⟩
    case round =>
      obtain ⟨rfl, hown, hB⟩ := hrel
      go_wp2
      go_ret
      exact ⟨_, rfl, Rw.of_own cellsN_len (xs := []) hown, fun g hg => (hown.lt g hg).1, hB⟩
  · have HX := hideP hx
    clear hx
    go_enter Tryz.func23, Tryz.ntmps23
    go_wp2_with (at_make; refine wpList_make_own _ rfl _ _ 22 rfl w.heap.size 28 i0 (.agg #[.int .i64 0, .int .i64 0, .int .i64 0, .bool false]) 4 Tryz.underlying22 hi hz0 hz1 .i64 .i64 _ ns.length rfl rfl (by simp) (by rw [hz2]; omega) (by unfold maxLen; omega) (Nat.le_refl _) ?_; intro w0 hown0 hgrow0)
    have hB0 : Bl w w0 := (Bl.refl w).grown hgrow0 (by omega) (fun k e => by cases e)
    go_loopw [3, 11] (fun v i wr => ∃ k : Nat, i = .int .i64 k ∧ k ≤ ns.length ∧ wr.ownsRow w.heap.size 28 4 v ((ns.take k).map wholeN).length (((ns.take k).map wholeN).flatMap cellsN) ∧ Bl w wr) (fun _ i _ => ns.length - (intOf i).toNat)
    case atStart => exact ⟨0, rfl, Nat.zero_le _, hown0, hB0⟩
    case round =>
      obtain ⟨k, rfl, hk, hown, hB⟩ := hrel
      by_cases hlt : k < ns.length
      · obtain ⟨x, hx⟩ : ∃ x, ns[k]? = some x := ⟨_, List.getElem?_eq_getElem hlt⟩
        have y0 : wr.cell? ⟨b, o + k, none⟩ = some (.int .i64 x) := by
          have := (bl_cell hB _ _ hb).trans (HX.out k x hx 0 _ rfl)
          simpa using this
        have hT : (ns.take (k + 1)).map wholeN = (ns.take k).map wholeN ++ [wholeN x] := by rw [List.take_add_one, hx]; simp
        have hkl : ((ns.take k).map wholeN).length = k := by simp; omega
        have HK := hideP hkl
        clear hkl
        have HT := hideP hT
        clear hT
        generalize hys : (ns.take k).map wholeN = ys at *
        clear hys
        go_wp2_with fail
        refine (vwholeN x _).mono ?_
        rintro e w2 ⟨rfl, h2⟩
        have hr : wholeN x = (ptE (foN x) (foB x)) := rfl
        generalize (ptE (foN x) (foB x)) = r at *
        rw [hr] at HT
        clear hr y0
        replace hown := own_blN hown h2
        replace hB := hB.trans h2
        have hkk := HK.out
        go_wp2_with (at_builtin; refine wpList_append_own _ rfl _ _ 22 rfl w.heap.size 28 i0 (.agg #[.int .i64 0, .int .i64 0, .int .i64 0, .bool false]) 4 32 Tryz.underlying22 hi hz0 hz1 hz2 rfl (by decide) _ _ _ rfl (hown.alloc _) ⟨_, 0, none⟩ 1 1 (cellsN r) rfl rfl (newN_cells _ _ _) (oneN_cells _) (by unfold maxLen; omega) (by omega) (by have := hB.size; simp; omega) ?_; intro v' w1 hown' hgrow _)
        have R := ownN_step hB hown hown' hgrow
        clear hown hown' hgrow
        go_wp2
        go_roundw
        case rel => exact ⟨k + 1, by simp, hlt, by rw [HT.out]; exact R.2, R.1⟩
        case measure => simp [intOf]; omega
      · have hk' : k = ns.length := by omega
        subst hk'
        rw [List.take_length] at hown
        have R := hideP (Rw.of_own cellsN_len hown)
        have FR := hideP (show Fresh w.heap.size _ from fun g hg => (hown.lt g hg).1)
        clear hown
        go_wp2
        go_ret
        exact ⟨_, rfl, R.out, FR.out, hB⟩
theorem vWholeN (v : Value) (ns : List Int) (w : World) (h : Rq 1 (fun n => [.int .i64 n]) w v ns) (hl : ns.length ≤ 1000000) :
    Calls Tryz.prog 23 #[v] w fun e w' => ∃ u, e = .returned u ∧ Rw 4 cellsN w' u (ns.map wholeN) ∧ Bl w w' :=
  (vWholeN' v ns w h hl).mono fun _ _ ⟨u, h1, h2, _, h3⟩ => ⟨u, h1, h2, h3⟩
end Go.Proofs.YtlbmkjicbkfmjaaGreat

/- Contracts of vec's Scale, Clone, and of what is done of a pair, of enclosed numbers (layer 5). Written by genVe.py. -/
namespace Go.Proofs.YtlbmkjicbkfmjaaGreat
open Go.RowKit
set_option linter.unusedSimpArgs false
set_option linter.unusedVariables false

set_option maxHeartbeats 1000000 in
theorem vScaleN (v : Value) (xs : List En) (by_ : En) (w : World) (h : Rw 4 cellsN w v xs) (hl : xs.length ≤ 1000000) :
    Calls Tryz.prog 57 #[v, enV by_] w fun e w' => ∃ u, e = .returned u ∧ Rw 4 cellsN w' u (xs.map fun x => mulE x by_) ∧ Bl w w' := by
  have iv := Tryz.mMulN
  obtain ⟨i0, hi, hz0, hz1, hz2⟩ := info_parts Tryz.info_N
  have x0 := Box.new w by_ 28
  rcases h with ⟨rfl, rfl⟩ | ⟨b, o, cap, rfl, hc, hb, hx⟩
  · go_enter Tryz.func57, Tryz.ntmps57
    go_wp2_with (at_make; refine wpList_make_own _ rfl _ _ 22 rfl w.heap.size 28 i0 (.agg #[.int .i64 0, .int .i64 0, .int .i64 0, .bool false]) 4 Tryz.underlying22 hi hz0 hz1 .i64 .i64 _ 0 rfl rfl (by simp) (by rw [hz2]; omega) (by unfold maxLen; omega) (by simp) ?_; intro w0 hown0 hgrow0)
    rw [World.size_alloc] at hown0
    have hB0 : Bl w w0 := Below.grown (Below.alloc (Bl.refl w) (Nat.le_refl _) _) hgrow0 (by simp) (fun k e => by cases e)
    go_loopw [5, 13] (fun v i wr => i = .int .i64 0 ∧ wr.ownsRow w.heap.size 28 4 v 0 [] ∧ Bl w wr) (fun _ _ _ => 0)
    case atStart => exact ⟨rfl, hown0, hB0⟩
    case round =>
      obtain ⟨rfl, hown, hB⟩ := hrel
      go_wp2
      go_ret
      exact ⟨_, rfl, Rw.of_own cellsN_len (xs := []) hown, hB⟩
  · have HX := hideP hx
    clear hx
    go_enter Tryz.func57, Tryz.ntmps57
    go_wp2_with (at_make; refine wpList_make_own _ rfl _ _ 22 rfl (w.heap.size + 1) 28 i0 (.agg #[.int .i64 0, .int .i64 0, .int .i64 0, .bool false]) 4 Tryz.underlying22 hi hz0 hz1 .i64 .i64 _ xs.length rfl rfl (by simp) (by rw [hz2]; omega) (by unfold maxLen; omega) (by simp) ?_; intro w0 hown0 hgrow0)
    rw [World.size_alloc] at hown0
    have hB1 : Bl (w.alloc (.cells #[.int .i64 by_.v, .int .i64 by_.l, .int .i64 by_.h, .bool by_.bad] 28)) w0 := Below.grown (Bl.refl _) hgrow0 (Nat.le_refl _) (fun k e => by cases e)
    have hB0 : Bl w w0 := ((Bl.refl w).alloc _).trans hB1
    go_loopw [5, 13] (fun v i wr => ∃ k : Nat, i = .int .i64 k ∧ k ≤ xs.length ∧ Box wr w.heap.size by_ ∧ wr.ownsRow (w.heap.size + 1) 28 4 v ((xs.take k).map fun x => mulE x by_).length (((xs.take k).map fun x => mulE x by_).flatMap cellsN) ∧ Bl w wr) (fun _ i _ => xs.length - (intOf i).toNat)
    case atStart => exact ⟨0, rfl, Nat.zero_le _, x0.later hB1, hown0, hB0⟩
    case round =>
      obtain ⟨k, rfl, hk, bx, hown, hB⟩ := hrel
      by_cases hlt : k < xs.length
      · obtain ⟨x, hx⟩ : ∃ x, xs[k]? = some x := ⟨_, List.getElem?_eq_getElem hlt⟩
        have CX : ∀ j u, (cellsN x)[j]? = some u → wr.cell? ⟨b, o + k * 4 + j, none⟩ = some u := fun j u hu => (bl_cell hB _ _ hb).trans (HX.out k x hx j u hu)
        have y0 : wr.cell? ⟨b, o + k * 4, none⟩ = some (.int .i64 x.v) := CX 0 _ rfl
        have y1 : wr.cell? ⟨b, o + k * 4 + 1, none⟩ = some (.int .i64 x.l) := CX 1 _ rfl
        have y2 : wr.cell? ⟨b, o + k * 4 + 2, none⟩ = some (.int .i64 x.h) := CX 2 _ rfl
        have y3 : wr.cell? ⟨b, o + k * 4 + 3, none⟩ = some (.bool x.bad) := CX 3 _ rfl
        clear CX
        obtain ⟨c0, c1, c2, c3, f0, f1, f2, f3, lt⟩ := id bx
        have HT := hideP (show (xs.take (k + 1)).map (fun x => mulE x by_) = (xs.take k).map (fun x => mulE x by_) ++ [mulE x by_] by rw [List.take_add_one, hx]; simp)
        have HK := hideP (show ((xs.take k).map fun x => mulE x by_).length = k by simp; omega)
        generalize hys : (xs.take k).map (fun x => mulE x by_) = ys at *
        clear hys
        go_wp2_with fail
        refine (emul_any _ _ _).mono ?_
        rintro e w2 ⟨rfl, h2⟩
        have bl2 : Bl wr w2 := ((Bl.refl _).alloc _).trans h2
        generalize mulE x by_ = r at *
        clear y0 y1 y2 y3 c0 c1 c2 c3
        replace hown := own_blN hown bl2
        replace hB := hB.trans bl2
        have bx2 := bx.later bl2
        have hkk := HK.out
        go_wp2_with (at_builtin; refine wpList_append_own _ rfl _ _ 22 rfl (w.heap.size + 1) 28 i0 (.agg #[.int .i64 0, .int .i64 0, .int .i64 0, .bool false]) 4 32 Tryz.underlying22 hi hz0 hz1 hz2 rfl (by decide) _ _ _ rfl (hown.alloc _) ⟨_, 0, none⟩ 1 1 (cellsN r) rfl rfl (newN_cells _ _ _) (oneN_cells _) (by unfold maxLen; omega) (by omega) (by have := bx2.lt; simp; omega) ?_; intro v' w1 hown' hgrow _)
        have R := ownN_step' (n₀ := w.heap.size + 1) hB (by omega) hown hown' hgrow
        have bx3 := bx2.grown ((Bl.refl _).alloc _) hown hgrow (by omega)
        clear hown hown' hgrow
        go_wp2
        go_roundw
        case rel => exact ⟨k + 1, by simp, hlt, bx3, by rw [HT.out]; exact R.2, R.1⟩
        case measure => simp [intOf]; omega
      · have hk' : k = xs.length := by omega
        subst hk'
        rw [List.take_length] at hown
        have R := hideP (Rw.of_own cellsN_len hown)
        clear hown
        go_wp2
        go_ret
        exact ⟨_, rfl, R.out, hB⟩

theorem dAddN (a b : En) (w : World) :
    Calls Tryz.prog 104 #[enV a, enV b] w fun e w' => e = .returned (enV (addE a b)) ∧ Bl w w' := by
  have iv := Tryz.mAddN
  obtain ⟨W, X⟩ := three_ex w a b
  have T := hideP (eadd_any a b)
  have HX := hideP X
  clear X
  generalize addE a b = r at *
  go_enter Tryz.func104, Tryz.ntmps104
  go_wp2_with fail
  rw [← HX.out.eq]
  refine (T.out _).mono ?_
  rintro e w1 ⟨rfl, h1⟩
  obtain ⟨c0, c1, c2, c3, f0, f1, f2, f3, lt⟩ := HX.out.bz.later h1
  clear iv
  go_wp2
  simp [bodyPost, results, Tryz.results104, go_sem, c0, c1, c2, c3]
  exact Bl.set4 (HX.out.bl.trans h1) (by omega) _ _ _ _

theorem dSubN (a b : En) (w : World) :
    Calls Tryz.prog 167 #[enV a, enV b] w fun e w' => e = .returned (enV (subE a b)) ∧ Bl w w' := by
  have iv := Tryz.mSubN
  obtain ⟨W, X⟩ := three_ex w a b
  have T := hideP (esub_any a b)
  have HX := hideP X
  clear X
  generalize subE a b = r at *
  go_enter Tryz.func167, Tryz.ntmps167
  go_wp2_with fail
  rw [← HX.out.eq]
  refine (T.out _).mono ?_
  rintro e w1 ⟨rfl, h1⟩
  obtain ⟨c0, c1, c2, c3, f0, f1, f2, f3, lt⟩ := HX.out.bz.later h1
  clear iv
  go_wp2
  simp [bodyPost, results, Tryz.results167, go_sem, c0, c1, c2, c3]
  exact Bl.set4 (HX.out.bl.trans h1) (by omega) _ _ _ _

theorem dMulN (a b : En) (w : World) :
    Calls Tryz.prog 103 #[enV a, enV b] w fun e w' => e = .returned (enV (mulE a b)) ∧ Bl w w' := by
  have iv := Tryz.mMulN
  obtain ⟨W, X⟩ := three_ex w a b
  have T := hideP (emul_any a b)
  have HX := hideP X
  clear X
  generalize mulE a b = r at *
  go_enter Tryz.func103, Tryz.ntmps103
  go_wp2_with fail
  rw [← HX.out.eq]
  refine (T.out _).mono ?_
  rintro e w1 ⟨rfl, h1⟩
  obtain ⟨c0, c1, c2, c3, f0, f1, f2, f3, lt⟩ := HX.out.bz.later h1
  clear iv
  go_wp2
  simp [bodyPost, results, Tryz.results103, go_sem, c0, c1, c2, c3]
  exact Bl.set4 (HX.out.bl.trans h1) (by omega) _ _ _ _

end Go.Proofs.YtlbmkjicbkfmjaaGreat

/- Contracts of vec's Clone, Pairs, of enclosed numbers (layer 5). Written by genVe.py. -/
namespace Go.Proofs.YtlbmkjicbkfmjaaGreat
open Go.RowKit
set_option linter.unusedSimpArgs false
set_option linter.unusedVariables false

theorem Tryz.nil0N (w : World) : (binOp .eql 22 (.slice none 0 0) (.slice none 0 0)).run Tryz.prog w = .ok (.bool true) w := by kernel_rfl
theorem Tryz.nil1N (a : Addr) (n cap : Nat) (w : World) : (binOp .eql 22 (.slice (some a) n cap) (.slice none 0 0)).run Tryz.prog w = .ok (.bool false) w := by kernel_rfl
set_option maxHeartbeats 1000000 in
theorem vCloneN (v : Value) (xs : List En) (w : World) (h : Rq 4 cellsN w v xs) (hl : xs.length ≤ 1000000) :
    Calls Tryz.prog 40 #[v] w fun e w' => ∃ u, e = .returned u ∧ Rw 4 cellsN w' u xs ∧ Fresh w.heap.size u ∧ Bl w w' := by
  have n0 := Tryz.nil0N
  have n1 := Tryz.nil1N
  obtain ⟨i0, hi, hz0, hz1, hz2⟩ := info_parts Tryz.info_N
  rcases h with ⟨p, cap, rfl, rfl, hpn⟩ | ⟨b, o, cap, rfl, hc, hb, hx⟩
  · rcases p with _ | ad
    · obtain rfl := hpn rfl
      go_enter Tryz.func40, Tryz.ntmps40
      go_wp2
      go_ret
      exact ⟨_, rfl, .inl ⟨rfl, rfl⟩, nofun, Bl.refl _⟩
    · clear n0
      go_enter Tryz.func40, Tryz.ntmps40
      go_wp2_with (at_builtin; refine wpList_append_own _ rfl _ _ 22 rfl w.heap.size 28 i0 (.agg #[.int .i64 0, .int .i64 0, .int .i64 0, .bool false]) 4 32 Tryz.underlying22 hi hz0 hz1 hz2 rfl (by decide) _ 0 [] rfl (World.ownsRow_made w #[] 0 (Nat.le_refl _) (by decide) rfl) ad 0 cap [] rfl (by simp) nofun nofun (by unfold maxLen; omega) (by omega) (by simp) ?_; intro v' w1 hown' hgrow _)
      have R := hideP (Rw.of_own (xs := []) cellsN_len (by simpa using hown'))
      have FR := hideP (show Fresh w.heap.size v' from fun g hg => (hown'.lt g hg).1)
      have hB : Bl w w1 := Below.grown (Below.alloc (Bl.refl w) (Nat.le_refl _) _) hgrow (by simp) (fun k e => by cases e; exact Nat.le_refl _)
      clear hown' hgrow
      go_wp2
      go_ret
      exact ⟨_, rfl, R.out, FR.out, hB⟩
  · have HX := hideP hx
    clear hx n0
    go_enter Tryz.func40, Tryz.ntmps40
    go_wp2_with (at_builtin; refine wpList_append_own _ rfl _ _ 22 rfl w.heap.size 28 i0 (.agg #[.int .i64 0, .int .i64 0, .int .i64 0, .bool false]) 4 32 Tryz.underlying22 hi hz0 hz1 hz2 rfl (by decide) _ 0 [] rfl (World.ownsRow_made w #[] 0 (Nat.le_refl _) (by decide) rfl) ⟨b, o, none⟩ xs.length cap (xs.flatMap cellsN) rfl (flat_len cellsN_len xs) (flat_cells cellsN_len ((Rw_cells_later HX.out hb ((Bl.refl _).alloc _)))) (flat_one oneN_cells xs) (by unfold maxLen; omega) (by omega) (by simp) ?_; intro v' w1 hown' hgrow _)
    have R := hideP (Rw.of_own (xs := xs) cellsN_len (by simpa using hown'))
    have FR := hideP (show Fresh w.heap.size v' from fun g hg => (hown'.lt g hg).1)
    have hB : Bl w w1 := Below.grown (Below.alloc (Bl.refl w) (Nat.le_refl _) _) hgrow (by simp) (fun k e => by cases e; exact Nat.le_refl _)
    clear hown' hgrow
    go_wp2
    go_ret
    exact ⟨_, rfl, R.out, FR.out, hB⟩
end Go.Proofs.YtlbmkjicbkfmjaaGreat

/- Contracts of vec's Pairs, of enclosed numbers (layer 5). Written by genVe.py. -/
namespace Go.Proofs.YtlbmkjicbkfmjaaGreat
open Go.RowKit
set_option linter.unusedSimpArgs false
set_option linter.unusedVariables false

theorem Tryz.cutN (p : Option Addr) (n cap m : Nat) (w : World) (h : m ≤ cap) : (Instr.sliceAt 22 (.slice p n cap) none (some (.int .i64 m)) none).run Tryz.prog w = .ok (.slice p m cap) w := by
  have hu : Tryz.prog.underlying 22 = some (.slice (Tryz.prog.elem 22)) := by kernel_rfl
  obtain ⟨i0, hi, hz0, hz1, hz2⟩ := info_parts Tryz.info_N
  have he : Tryz.prog.elem 22 = 28 := by kernel_rfl
  rw [run_sliceAt_slice (h := hu), run_slice_h (ht := hu) (h0 := by omega) (h2 := by omega), he]
  have e0 : p.map (fun a => a.add 0) = p := by cases p <;> simp [Addr.add]
  simp [sizeOf, typeInfo, hi, sliced, e0, Result.andThen]
theorem cloneN_cut {p : Option Addr} {cap : Nat} {xs : List En} {w W : World} (hb : Bl w W) (CA : ∀ m, m ≤ xs.length → Rq 4 cellsN w (.slice p m cap) (xs.take m)) (hl : xs.length ≤ 1000000) :
    ∀ m, m ≤ xs.length → ∀ u, Bl W u → Calls Tryz.prog 40 #[.slice p m cap] u fun e w' => ∃ p1 k1, e = .returned (.slice p1 m k1) ∧ (Rw 4 cellsN w' (.slice p1 m k1) (xs.take m) ∧ Fresh u.heap.size (.slice p1 m k1)) ∧ Bl u w' := by
  intro m h u hu
  refine (vCloneN (.slice p m cap) (xs.take m) u ((CA m h).later (hb.trans hu)) (by simp; omega)).mono ?_
  rintro e w' ⟨v, rfl, hr, hf, hbl⟩
  obtain ⟨p1, k1, rfl, _, _⟩ := hr.cut
  have hl' : (xs.take m).length = m := by simp; omega
  rw [hl'] at hr hf ⊢
  exact ⟨p1, k1, rfl, ⟨hr, hf⟩, hbl⟩
set_option maxHeartbeats 1000000 in
theorem vPairsN (va vb : Value) (xs ys : List En) (w : World) (ha : Rq 4 cellsN w va xs) (hb : Rq 4 cellsN w vb ys) (hl : xs.length ≤ 1000000) (hm : ys.length ≤ 1000000) :
    Calls Tryz.prog 138 #[va, vb] w fun e w' => e = .returned (.func (.func 166) #[] #[.pointer (some ⟨w.heap.size, 0, none⟩), .pointer (some ⟨w.heap.size + 1, 0, none⟩)]) ∧
      PairsIn 4 cellsN w' w.heap.size w'.heap.size w.heap.size (w.heap.size + 1) (xs.take (min xs.length ys.length)) (ys.take (min xs.length ys.length)) ∧ Bl w w' := by
  obtain ⟨p, cap, rfl, hc, CA⟩ := ha.cut
  obtain ⟨q, dap, rfl, hd, CB⟩ := hb.cut
  obtain ⟨W, X⟩ := twoS_ex w (.slice p xs.length cap) (.slice q ys.length dap) 22
  have HX := hideP X
  have sl1 := fun m u (h : m ≤ cap) => Tryz.cutN p xs.length cap m u h
  have sl2 := fun m u (h : m ≤ dap) => Tryz.cutN q ys.length dap m u h
  have HA := hideP (cloneN_cut X.bl CA hl)
  have HB := hideP (cloneN_cut X.bl CB hm)
  clear CA CB ha hb X
  by_cases hlt : ys.length < xs.length
  · rw [show min xs.length ys.length = ys.length by omega]
    have A := hideP (HA.out ys.length (by omega))
    have B := hideP (HB.out ys.length (by omega))
    have s1 := fun u => sl1 ys.length u (by omega)
    have s2 := fun u => sl2 ys.length u (by omega)
    have hm0 : min (xs.length : Int) (ys.length : Int) = (ys.length : Int) := by omega
    clear HA HB sl1 sl2
    go_enter Tryz.func138, Tryz.ntmps138
    go_wp2_with fail
    rw [← HX.out.eq]
    obtain ⟨c0, c1, f0, f1⟩ := HX.out.k _ ((Bl.refl _).drew)
    go_region_with (first
      | (go_at_call_of 40 #[Value.slice p ys.length cap]; refine (A.out _ ((Bl.refl _).drew)).mono ?_; rintro e w1 ⟨p1, k1, rfl, R1, h1⟩; obtain ⟨d0, d1, g0, g1⟩ := HX.out.k _ (((Bl.refl _).drew).trans h1))
      | (go_at_call_of 40 #[Value.slice q ys.length dap]; refine (B.out _ (((Bl.refl _).drew).trans h1)).mono ?_; rintro e w2 ⟨p2, k2, rfl, R2, h2⟩; obtain ⟨e0, e1, l0, l1⟩ := HX.out.k _ ((((Bl.refl _).drew).trans h1).trans h2)))
    all_goals
      clear c0 c1 f0 f1 d0 d1 g0 g1 s1 s2 A B
      go_wp2
      go_ret
      refine ⟨rfl, ?_, ?_⟩
      · have hs := HX.out.size
        have h1s := Below.size h1
        have h2s := Below.size h2
        have hd : W.drew.heap.size = W.heap.size := rfl
        have q1 : Rw 4 cellsN ((w2.setCell ⟨w.heap.size, 0, none⟩ (.slice p1 ys.length k1)).setCell ⟨w.heap.size + 1, 0, none⟩ (.slice p2 ys.length k2)) (.slice p1 ys.length k1) _ := ((R1.1.later h2).set _ (fun g hg => by have := R1.2 g hg; show w.heap.size + 1 ≤ g; omega)).set _ (fun g hg => by have := R1.2 g hg; show w.heap.size + 1 + 1 ≤ g; omega)
        have q2 : Rw 4 cellsN ((w2.setCell ⟨w.heap.size, 0, none⟩ (.slice p1 ys.length k1)).setCell ⟨w.heap.size + 1, 0, none⟩ (.slice p2 ys.length k2)) (.slice p2 ys.length k2) _ := (R2.1.set _ (fun g hg => by have := R2.2 g hg; show w.heap.size + 1 ≤ g; omega)).set _ (fun g hg => by have := R2.2 g hg; show w.heap.size + 1 + 1 ≤ g; omega)
        refine ⟨_, _, Nat.le_refl _, by simp; omega, by omega, by simp; omega, ?_, ?_, q1, q2, fun g hg => ⟨by have := R1.2 g hg; omega, q1.lt g hg⟩, fun g hg => ⟨by have := R2.2 g hg; omega, q2.lt g hg⟩, by simp; omega⟩
        · simp [go_sem, e0, e1]
        · simp [go_sem, e0, e1]
      · exact Bl.set (Bl.set ((HX.out.bl.trans (((Bl.refl _).drew).trans h1)).trans h2) (Nat.le_refl _) _) (by show w.heap.size ≤ w.heap.size + 1; omega) _
  · rw [show min xs.length ys.length = xs.length by omega]
    have A := hideP (HA.out xs.length (by omega))
    have B := hideP (HB.out xs.length (by omega))
    have s1 := fun u => sl1 xs.length u (by omega)
    have s2 := fun u => sl2 xs.length u (by omega)
    have hm0 : min (xs.length : Int) (ys.length : Int) = (xs.length : Int) := by omega
    clear HA HB sl1 sl2
    go_enter Tryz.func138, Tryz.ntmps138
    go_wp2_with fail
    rw [← HX.out.eq]
    obtain ⟨c0, c1, f0, f1⟩ := HX.out.k _ ((Bl.refl _).drew)
    go_region_with (first
      | (go_at_call_of 40 #[Value.slice p xs.length cap]; refine (A.out _ ((Bl.refl _).drew)).mono ?_; rintro e w1 ⟨p1, k1, rfl, R1, h1⟩; obtain ⟨d0, d1, g0, g1⟩ := HX.out.k _ (((Bl.refl _).drew).trans h1))
      | (go_at_call_of 40 #[Value.slice q xs.length dap]; refine (B.out _ (((Bl.refl _).drew).trans h1)).mono ?_; rintro e w2 ⟨p2, k2, rfl, R2, h2⟩; obtain ⟨e0, e1, l0, l1⟩ := HX.out.k _ ((((Bl.refl _).drew).trans h1).trans h2)))
    all_goals
      clear c0 c1 f0 f1 d0 d1 g0 g1 s1 s2 A B
      go_wp2
      go_ret
      refine ⟨rfl, ?_, ?_⟩
      · have hs := HX.out.size
        have h1s := Below.size h1
        have h2s := Below.size h2
        have hd : W.drew.heap.size = W.heap.size := rfl
        have q1 : Rw 4 cellsN ((w2.setCell ⟨w.heap.size, 0, none⟩ (.slice p1 xs.length k1)).setCell ⟨w.heap.size + 1, 0, none⟩ (.slice p2 xs.length k2)) (.slice p1 xs.length k1) _ := ((R1.1.later h2).set _ (fun g hg => by have := R1.2 g hg; show w.heap.size + 1 ≤ g; omega)).set _ (fun g hg => by have := R1.2 g hg; show w.heap.size + 1 + 1 ≤ g; omega)
        have q2 : Rw 4 cellsN ((w2.setCell ⟨w.heap.size, 0, none⟩ (.slice p1 xs.length k1)).setCell ⟨w.heap.size + 1, 0, none⟩ (.slice p2 xs.length k2)) (.slice p2 xs.length k2) _ := (R2.1.set _ (fun g hg => by have := R2.2 g hg; show w.heap.size + 1 ≤ g; omega)).set _ (fun g hg => by have := R2.2 g hg; show w.heap.size + 1 + 1 ≤ g; omega)
        refine ⟨_, _, Nat.le_refl _, by simp; omega, by omega, by simp; omega, ?_, ?_, q1, q2, fun g hg => ⟨by have := R1.2 g hg; omega, q1.lt g hg⟩, fun g hg => ⟨by have := R2.2 g hg; omega, q2.lt g hg⟩, by simp; omega⟩
        · simp [go_sem, e0, e1]
        · simp [go_sem, e0, e1]
      · exact Bl.set (Bl.set ((HX.out.bl.trans (((Bl.refl _).drew).trans h1)).trans h2) (Nat.le_refl _) _) (by show w.heap.size ≤ w.heap.size + 1; omega) _
end Go.Proofs.YtlbmkjicbkfmjaaGreat

/- Contracts of the function that vec's Pairs tells: an iterator over the pairs of two rows, of enclosed numbers (layer 5). Written by genVe.py. -/
namespace Go.Proofs.YtlbmkjicbkfmjaaGreat
open Go.RowKit Go.Shelf
set_option linter.unusedSimpArgs false
set_option linter.unusedVariables false
attribute [local go_sem] Oper.semAt_some
theorem Tryz.yieldN (l : Nat) (w : World) : (binOp .eql 191 (.func (.yield l) #[] #[]) .nilFunc).run Tryz.prog w = .ok (.bool false) w := by kernel_rfl
set_option maxRecDepth 100000 in
set_option maxHeartbeats 2000000 in
theorem iterN (n l A B lo hi : Nat) (xs ys : List En) (hl : xs.length ≤ 1000000) (J Jx : List (En × En) → World → Prop) (W : World) (hJ : AbidesFrom W.heap.size J) (hh : hi ≤ W.heap.size)
    (hY : ∀ pre x W1, J pre W1 → pre.length < xs.length → YieldAt Fence.wide (n - 1) Tryz.prog l #[enV x.1, enV x.2] W1 fun e W' =>
      (e = .returned (.bool true) ∧ J (pre ++ [x]) W' ∧ Span lo hi W1 W') ∨ (e = .returned (.bool false) ∧ Jx (pre ++ [x]) W'))
    (hP : PairsIn 4 cellsN W lo hi A B xs ys) (h0 : J [] W) :
    CallsIn Fence.wide n Tryz.prog 166 #[.func (.yield l) #[] #[], .pointer (some ⟨A, 0, none⟩), .pointer (some ⟨B, 0, none⟩)] W fun e W' => (∃ v, e = .returned v) ∧
      ((∃ zs, zs = xs.zip ys ∧ J zs W') ∨ (∃ pre, pre <+: xs.zip ys ∧ Jx pre W')) := by
  have yn := Tryz.yieldN l
  obtain ⟨u, v, a1, a2, b1, b2, cu, cv, ru, rv, fu, fv, hxy⟩ := hP
  rcases ru with ⟨rfl, rfl⟩ | ⟨b, o, cap, rfl, hc, hb, hx⟩
  · clear hY
    refine callsIn_of_wp Tryz.func166 rfl trivial ?_ rfl
    simp only [Tryz.ntmps166, List.size_toArray, List.length_cons, List.length_nil, Nat.reduceAdd, Nat.reduceSub, Array.replicate_succ, Array.replicate_zero, List.push_toArray, List.append_toArray, List.nil_append, List.cons_append]
    gi_wp2
    gi_loopw [10] (fun i wr => i = .int .i64 0 ∧ J [] wr) (fun _ _ => 0)
    case atStart => exact ⟨rfl, h0⟩
    case round =>
      obtain ⟨rfl, hJs⟩ := hrel
      gi_wp2
      go_end0
      exact ⟨⟨_, rfl⟩, .inl ⟨_, rfl, hJs⟩⟩
  · have hb' := fu b rfl
    have HX := hideP hx
    have HV := hideP rv
    have HXY := hideP hxy
    clear hx rv hxy
    refine callsIn_of_wp Tryz.func166 rfl trivial ?_ rfl
    simp only [Tryz.ntmps166, List.size_toArray, List.length_cons, List.length_nil, Nat.reduceAdd, Nat.reduceSub, Array.replicate_succ, Array.replicate_zero, List.push_toArray, List.append_toArray, List.nil_append, List.cons_append]
    gi_wp2
    gi_loopw [10] (fun i wr => ∃ k : Nat, k ≤ xs.length ∧ i = .int .i64 k ∧ J ((xs.zip ys).take k) wr ∧ Span lo hi W wr ∧ W.heap.size ≤ wr.heap.size)
      (fun i _ => xs.length - (intOf i).toNat)
    case atStart => exact ⟨0, Nat.zero_le _, rfl, h0, Span.refl _ _ _, Nat.le_refl _⟩
    case round =>
      obtain ⟨k, hk, rfl, hJs, hsp, hsz⟩ := hrel
      by_cases hlt : k < xs.length
      · obtain ⟨x, hx⟩ : ∃ x, xs[k]? = some x := ⟨_, List.getElem?_eq_getElem hlt⟩
        obtain ⟨y, hy⟩ : ∃ y, ys[k]? = some y := ⟨_, List.getElem?_eq_getElem (by have := HXY.out; omega)⟩
        rcases HV.out with ⟨rfl, e0⟩ | ⟨b', o', cap', rfl, hc', hbb, hy'⟩
        · have := HXY.out; rw [e0] at this; simp at this; rw [this] at hlt; simp at hlt
        have HY := hideP hy'
        have hb2 := fv b' rfl
        have hlt' : k < ys.length := by have := HXY.out; omega
        clear hy'
        have CX : ∀ j u, (cellsN x)[j]? = some u → wr.cell? ⟨b, o + k * 4 + j, none⟩ = some u := fun j u hu => (hsp.cell b _ hb'.1 hb'.2).trans (HX.out k x hx j u hu)
        have x0 : wr.cell? ⟨b, o + k * 4, none⟩ = some (.int .i64 x.v) := CX 0 _ rfl
        have x1 : wr.cell? ⟨b, o + k * 4 + 1, none⟩ = some (.int .i64 x.l) := CX 1 _ rfl
        have x2 : wr.cell? ⟨b, o + k * 4 + 2, none⟩ = some (.int .i64 x.h) := CX 2 _ rfl
        have x3 : wr.cell? ⟨b, o + k * 4 + 3, none⟩ = some (.bool x.bad) := CX 3 _ rfl
        clear CX
        obtain ⟨V, hV⟩ : ∃ V, V = wr.alloc (.cells #[.int .i64 x.v, .int .i64 x.l, .int .i64 x.h, .bool x.bad] 28) := ⟨_, rfl⟩
        have bV : Bl wr V.drew := by rw [hV]; exact ((Bl.refl _).alloc _).drew
        have BX : Box V.drew wr.heap.size x := by rw [hV]; exact (Box.new wr x _).later ((Bl.refl _).drew)
        have sV : Span lo hi W V.drew := hsp.trans (bV.span (by omega))
        have jV : J ((xs.zip ys).take k) V.drew := by
          refine hJ _ _ _ none hJs ?_ nofun
          rw [hV]
          exact ⟨rfl, rfl, rfl, by simp, fun i hi _ => by have := (((Bl.refl wr).alloc (.cells #[.int .i64 x.v, .int .i64 x.l, .int .i64 x.h, .bool x.bad] 28)).drew).block i hi; exact this⟩
        have CY : ∀ j u, (cellsN y)[j]? = some u → V.drew.cell? ⟨b', o' + k * 4 + j, none⟩ = some u := fun j u hu => (sV.cell b' _ hb2.1 hb2.2).trans (HY.out k y hy j u hu)
        have y0 : V.drew.cell? ⟨b', o' + k * 4, none⟩ = some (.int .i64 y.v) := CY 0 _ rfl
        have y1 : V.drew.cell? ⟨b', o' + k * 4 + 1, none⟩ = some (.int .i64 y.l) := CY 1 _ rfl
        have y2 : V.drew.cell? ⟨b', o' + k * 4 + 2, none⟩ = some (.int .i64 y.h) := CY 2 _ rfl
        have y3 : V.drew.cell? ⟨b', o' + k * 4 + 3, none⟩ = some (.bool y.bad) := CY 3 _ rfl
        have yb : V.drew.cell? ⟨B, 0, none⟩ = some (.slice (some ⟨b', o', none⟩) ys.length cap') := (sV.cell B 0 b1 b2).trans cv
        obtain ⟨z0, z1, z2, z3, _, _, _, _, _⟩ := BX
        have hlen : ((xs.zip ys).take k).length = k := by have := HXY.out; simp; omega
        obtain ⟨fn, tmps, assign, body, hyd, hR⟩ := hY _ (x, y) V.drew jV (by omega)
        dsimp only at hyd
        have HT := hideP (show (xs.zip ys).take (k + 1) = (xs.zip ys).take k ++ [(x, y)] by
          rw [List.take_add_one, (List.getElem?_zip_eq_some (z := (x, y))).2 ⟨hx, hy⟩]; rfl)
        have HW := hideP hV
        clear CY hV hJs
        gi_wp2
        rw [← HW.out]
        have hR2 : RoundIn Fence.wide (n - 1) Tryz.prog l fn tmps assign body V.drew fun e W' => ∃ r : Bool, e = .returned (.bool r) ∧ ((r = true ∧ J ((xs.zip ys).take k ++ [(x, y)]) W' ∧ Span lo hi V.drew W') ∨ (r = false ∧ Jx ((xs.zip ys).take k ++ [(x, y)]) W')) := by
          refine hR.mono ?_
          rintro e W' (⟨rfl, h1, h2⟩ | ⟨rfl, h1⟩)
          · exact ⟨true, rfl, .inl ⟨rfl, h1, h2⟩⟩
          · exact ⟨false, rfl, .inr ⟨rfl, h1⟩⟩
        have fm : Tryz.prog.follows .mixedOrders = true := by kernel_rfl
        gi_region_with_o (refine ⟨fun h => (by cases h), ?_⟩; refine hR2.mono ?_; rintro e W3 ⟨r, rfl, hr⟩)
        all_goals
          rcases hr with ⟨rfl, hJ3, hk3⟩ | ⟨rfl, hJx3⟩
          · gi_wp2
            go_roundw
            case rel => exact ⟨k + 1, by omega, by simp, by rw [HT.out]; exact hJ3, sV.trans hk3, by have := (bV.size); have := hk3.size; omega⟩
            case measure => simp [intOf]; omega
          · gi_wp2
            refine bodyPost_ret (results_none rfl _ _ _) rfl ?_
            exact ⟨⟨_, rfl⟩, .inr ⟨_, by rw [← HT.out]; exact List.take_prefix _ _, hJx3⟩⟩
      · have hk' : k = xs.length := by omega
        subst hk'
        have HJ := hideP hJs
        clear hJs
        gi_wp2
        go_end0
        refine ⟨⟨_, rfl⟩, .inl ⟨_, ?_, HJ.out⟩⟩
        have := HXY.out
        exact List.take_of_length_le (by rw [List.length_zip]; exact Nat.min_le_left _ _)
/-- Pairs' function as what a loop goes through: all pairs in their order, or the first ones, where a round has said that it is enough. -/
theorem seqN (n A B lo hi : Nat) (xs ys : List En) (hl : xs.length ≤ 1000000) (w : World) (hh : hi ≤ w.heap.size) (hP : PairsIn 4 cellsN w lo hi A B xs ys) :
    SeqStopsK Fence.wide n Tryz.prog 166 #[.pointer (some ⟨A, 0, none⟩), .pointer (some ⟨B, 0, none⟩)] (fun x : En × En => #[enV x.1, enV x.2]) (Span lo hi) (fun zs => zs = xs.zip ys) (fun pre => pre <+: xs.zip ys) xs.length w :=
  fun l J Jx W hW hJ _ hY h0 => iterN n l A B lo hi xs ys hl J Jx W hJ (Nat.le_trans hh hW.size) hY (hP.later (Bl.span hW hh)) h0
end Go.Proofs.YtlbmkjicbkfmjaaGreat

/- What is done of all pairs of two rows, of enclosed numbers: vec's each (layer 5). Written by genVe.py. -/
namespace Go.Proofs.YtlbmkjicbkfmjaaGreat
open Go.RowKit Go.Shelf
set_option linter.unusedSimpArgs false
set_option linter.unusedVariables false
attribute [local go_sem] Oper.semAt_some

theorem Box.own {X Y : World} {b : Nat} {x : En} {row : Option Nat} (h : Box X b x) (hg : X.grownBy Y row) (hr : ∀ r, row = some r → ∃ o : Obj, X.heap[r]? = some o ∧ o.isCells = false) : Box Y b x :=
  ⟨cell_kept h.c0 hg hr, cell_kept h.c1 hg hr, cell_kept h.c2 hg hr, cell_kept h.c3 hg hr, (frozen_kept h.c0 hg hr).trans h.f0, (frozen_kept h.c1 hg hr).trans h.f1, (frozen_kept h.c2 hg hr).trans h.f2, (frozen_kept h.c3 hg hr).trans h.f3, by have := h.lt; have := hg.size; omega⟩
theorem Box.cells {w : World} {b : Nat} {x : En} (h : Box w b x) : ∀ j u, (cellsN x)[j]? = some u → w.cell? ((⟨b, 0, none⟩ : Addr).add j) = some u := by
  intro j u hu
  have hadd : (⟨b, 0, none⟩ : Addr).add j = ⟨b, j, none⟩ := by unfold Addr.add; split <;> simp_all
  rw [hadd]
  unfold cellsN at hu
  rcases j with _ | _ | _ | _ | j
  · simp at hu; rw [← hu]; exact h.c0
  · simp at hu; rw [← hu]; exact h.c1
  · simp at hu; rw [← hu]; exact h.c2
  · simp at hu; rw [← hu]; exact h.c3
  · simp at hu
/-- The frame while a pair's result is appended. -/
def eachActN (t0 t1 t2 t6 t10 t11 t12 t13 t14 t15 t16 t17 t18 t19 t20 : Value) (D R X Y : Nat) (v21 v22 v23 v24 v25 v26 : Value) : Act :=
  { tmps := #[t0, t1, t2, undef, undef, .pointer (some ⟨D, 0, none⟩), t6, .pointer (some ⟨R, 0, none⟩), .pointer (some ⟨X, 0, none⟩), .pointer (some ⟨Y, 0, none⟩), t10, t11, t12, t13, t14, t15, t16, t17, t18, t19, t20, v21, v22, v23, v24, v25, v26, undef, undef], defers := [] }
/-- Between two of its operations. -/
def EachIN (A : Value → Value → Value → Value → Value → Value → Act) (v f : Value) (x y z : En) (W : World) (k : Nat) (l : Array Bool) (act : Act) (u : World) : Prop :=
  ∃ (l0 l1 l2 l3 l4 l5 : Bool) (v21 v22 v23 v24 v25 v26 : Value) (g : Nat), l = #[l0, l1, l2, l3, l4, l5, false, false] ∧ k = one' l0 + one' l1 + one' l2 + one' l3 + one' l4 + one' l5 ∧ act = A v21 v22 v23 v24 v25 v26
    ∧ (l0 = true → v21 = v) ∧ (l1 = true → v22 = f) ∧ (l2 = true → v23 = enV x) ∧ (l3 = true → v24 = enV y) ∧ (l4 = true → v25 = enV z) ∧ (l5 = true → v26 = .slice (some ⟨g, 0, none⟩) 1 1 ∧ Box u g z)
    ∧ (l4 = true → l1 = true ∧ l2 = true ∧ l3 = true) ∧ (l5 = true → l4 = true) ∧ Bl W u
set_option maxRecDepth 100000 in
set_option maxHeartbeats 2000000 in
theorem eachN' (K : Nat) (op : En → En → En) (hK : ∀ a b w, Calls Tryz.prog K #[enV a, enV b] w fun e w' => e = .returned (enV (op a b)) ∧ Bl w w') (eg : ∀ args w, (callFunc K args).run Tryz.prog w = .ok (.enter K args) w)
    (va vb : Value) (xs ys : List En) (w : World) (ha : Rq 4 cellsN w va xs) (hb : Rq 4 cellsN w vb ys) (hl : xs.length ≤ 1000000) (hm : ys.length ≤ 1000000) :
    Calls Tryz.prog 102 #[va, vb, .func (.func K) #[] #[]] w fun e w' => ∃ u, e = .returned u ∧ Rw 4 cellsN w' u (List.zipWith op xs ys) ∧ Fresh w.heap.size u ∧ Bl w w' := by
  obtain ⟨i0, hi, hz0, hz1, hz2⟩ := info_parts Tryz.info_N
  refine (callsIn_wide (n := 6)).1 ?_
  obtain ⟨p, cap, rfl, hc, _⟩ := ha.cut
  obtain ⟨q, dap, rfl, hd, _⟩ := hb.cut
  have HA := hideP ha
  have HB := hideP hb
  clear ha hb
  have HK := hideP hK
  clear hK
  obtain ⟨m, hmin⟩ : ∃ m, m = min xs.length ys.length := ⟨_, rfl⟩
  have hm0 : min (xs.length : Int) (ys.length : Int) = (m : Int) := by omega
  have hm1 : (if ys.length < xs.length then (ys.length : Int) else (xs.length : Int)) = (m : Int) := by split <;> omega
  have hml : m ≤ 1000000 := by omega
  have HM := hideP hmin
  clear hmin
  refine callsIn_of_wp_marks Tryz.func102 rfl trivial ?_ rfl
  simp only [Tryz.ntmps102, List.size_toArray, List.length_cons, List.length_nil, Nat.reduceAdd, Nat.reduceSub, Array.replicate_succ, Array.replicate_zero, List.push_toArray, List.append_toArray, List.nil_append, List.cons_append]
  gi_wp2_with (first
    | (gi_at_make; refine wpListIn_make_own _ rfl _ _ 22 rfl w.heap.size 28 i0 (.agg #[.int .i64 0, .int .i64 0, .int .i64 0, .bool false]) 4 Tryz.underlying22 hi hz0 hz1 .i64 .i64 _ m rfl rfl (by simp) (by rw [hz2]; omega) (by unfold maxLen; omega) (by simp) ?_; intro w0 hown0 hgrow0; have hB0 : Bl w w0 := ((Bl.refl w).alloc _).grown hgrow0 (by simp) (fun k e => by cases e))
    | (refine ⟨trivial, ?_⟩; refine (callsIn_wide.2 (vPairsN _ _ xs ys _ (HA.out.later (hB0.alloc _)) (HB.out.later (hB0.alloc _)) hl hm)).mono ?_; rintro e w3 ⟨rfl, hP, hB3⟩))
  simp only [World.size_alloc] at hP hown0
  have hszl : w0.heap.size + 1 ≤ w3.heap.size := by have := hB3.size; simpa using this
  have hsz0 : w.heap.size + 1 ≤ w0.heap.size := by have := hgrow0.size; simpa using this
  have hB : Bl w w3 := (hB0.alloc _).trans hB3
  have bD : Boxed w3 w.heap.size 135 (.func (.func K) #[] #[]) := boxed_bl (((Boxed.new w 135 (.func (.func K) #[] #[])).kept hgrow0 (by simp)).alloc _) hB3
  have bR : Boxed w3 w0.heap.size 22 (.slice (some ⟨w.heap.size + 1, 0, none⟩) 0 m) := boxed_bl (Boxed.new w0 22 _) hB3
  have hrow : w3.ownsRow w.heap.size 28 4 (.slice (some ⟨w.heap.size + 1, 0, none⟩) 0 m) 0 [] := own_blN (hown0.alloc _) hB3
  clear hown0
  have HP := hideP hP
  clear hP
  refine wpIn_rangeFunc_ownH rfl (by omega) (gf := 166) (lb := #[.pointer (some ⟨w0.heap.size + 1, 0, none⟩), .pointer (some ⟨w0.heap.size + 1 + 1, 0, none⟩)]) rfl trivial (enters_of Tryz.func166 (by kernel_rfl) rfl)
    (seqN 5 _ _ _ w3.heap.size _ _ (by simp; omega) w3 (Nat.le_refl _) HP.out) (fun h k => h.trans k) (span_b (Nat.le_refl _)) (Below.refl _ _) (fun _ => rfl)
    (fun pre W => (∃ v, Boxed W w0.heap.size 22 v ∧ W.ownsRow w.heap.size 28 4 v (opL op pre).length ((opL op pre).flatMap cellsN) ∧ (∀ g, v.ownBlock = some g → g < w0.heap.size + 1 ∨ w3.heap.size ≤ g)) ∧ (Boxed W w.heap.size 135 (.func (.func K) #[] #[]) ∧ (Below w.heap.size w W ∧ w3.heap.size ≤ W.heap.size)))
    (fun _ _ _ => False)
    (OwnFrom.and (Own.from (holdsRow_own w.heap.size w0.heap.size 22 28 4 (fun pre => (opL op pre).length) (fun pre => (opL op pre).flatMap cellsN) (fun pre v => ∀ g, v.ownBlock = some g → g < w0.heap.size + 1 ∨ w3.heap.size ≤ g)) _) (OwnFrom.and (Own.from (boxed_own _ _ _) _) (OwnFrom.and (ownFrom_below (Nat.le_refl _) hB.size) (fun _ _ _ _ h hg _ => Nat.le_trans h hg.size))))
    (fun _ _ _ _ _ hs _ _ => hs)
    ⟨⟨_, bR, hrow, fun g hg => by cases hg; exact .inl (by show w.heap.size + 1 < _; omega)⟩, bD, hB, Nat.le_refl _⟩
    (fun x a' W => ∃ Bx, w3.heap.size ≤ Bx ∧ Box W Bx x.1 ∧ Box W (Bx + 1) x.2 ∧ a' = eachActN (.slice p xs.length cap) (.slice q ys.length dap) (.func (.func K) #[] #[]) (.slice none 0 0) (.slice p xs.length cap) (.int .i64 xs.length) (.slice q ys.length dap) (.int .i64 ys.length) (.int .i64 m) (.slice (some ⟨w.heap.size + 1, 0, none⟩) 0 m) (.slice p xs.length cap) (.slice q ys.length dap) (.func (.func 166) #[] #[.pointer (some ⟨w0.heap.size + 1, 0, none⟩), .pointer (some ⟨w0.heap.size + 1 + 1, 0, none⟩)]) (enV x.1) (enV x.2) w.heap.size w0.heap.size Bx (Bx + 1) undef undef undef undef undef undef)
    (fun x a' _ X Y row hs hg hr => by obtain ⟨Bx, h0, h1, h2, h3⟩ := hs; exact ⟨Bx, h0, h1.own hg (fun r e => (hr r e).2), h2.own hg (fun r e => (hr r e).2), h3⟩)
    ?assign ?body ?done ?stop
  case assign =>
    rintro l pre x W K' ⟨⟨v, hv, hr, hg⟩, hd, hBW, hsW⟩ hK'
    have HK2 := hideP hK'
    clear hK'
    gi_wp2
    have hb2 : Bl W ((W.alloc (.cells #[.int .i64 x.1.v, .int .i64 x.1.l, .int .i64 x.1.h, .bool x.1.bad] 28)).alloc (.cells #[.int .i64 x.2.v, .int .i64 x.2.l, .int .i64 x.2.h, .bool x.2.bad] 28)) := ((Bl.refl W).alloc _).alloc _
    exact HK2.out _ _ (hb2.keeps _) (hb2.span hsW) ⟨⟨v, (hv.alloc _).alloc _, (hr.alloc _).alloc _, hg⟩, (hd.alloc _).alloc _, hBW.trans (hb2.mono hBW.size), by have := hb2.size; omega⟩
      ⟨W.heap.size, hsW, (Box.new W x.1 _).later ((Bl.refl _).alloc _), by have := Box.new (W.alloc (.cells #[.int .i64 x.1.v, .int .i64 x.1.l, .int .i64 x.1.h, .bool x.1.bad] 28)) x.2 28; simpa using this, rfl⟩
  case body =>
    rintro l pre ⟨x, y⟩ a' W hl' ⟨r, hr'⟩ ⟨⟨v, hv, hrow, hg⟩, hd, hBW, hsW⟩ ⟨Bx, hBx, b1, b2, rfl⟩ hlt
    have fm : Tryz.prog.follows .mixedOrders = true := by kernel_rfl
    have HV := hideP hv
    have HD := hideP hd
    have HR := hideP hrow
    have B1 := hideP b1
    have B2 := hideP b2
    have HG := hideP hg
    have HBW := hideP hBW
    clear hv hd hrow b1 b2 hg hBW
    obtain ⟨z, hz⟩ : ∃ z, z = op x y := ⟨_, rfl⟩
    have HK3 := hideP (fun u => HK.out x y u)
    rw [← hz] at HK3
    have HZ := hideP hz
    clear hz
    have hpl : (opL op pre).length = pre.length := by simp [opL]
    have hlt' : pre.length ≤ 1000000 := by simp at hlt; omega
    obtain ⟨A, hA⟩ : ∃ A, A = eachActN (.slice p xs.length cap) (.slice q ys.length dap) (.func (.func K) #[] #[]) (.slice none 0 0) (.slice p xs.length cap) (.int .i64 xs.length) (.slice q ys.length dap) (.int .i64 ys.length) (.int .i64 m) (.slice (some ⟨w.heap.size + 1, 0, none⟩) 0 m) (.slice p xs.length cap) (.slice q ys.length dap) (.func (.func 166) #[] #[.pointer (some ⟨w0.heap.size + 1, 0, none⟩), .pointer (some ⟨w0.heap.size + 1 + 1, 0, none⟩)]) (enV x) (enV y) w.heap.size w0.heap.size Bx (Bx + 1) := ⟨_, rfl⟩
    show Code.wpIn _ _ _ _ _ (eachActN _ _ _ _ _ _ _ _ _ _ _ _ _ (enV x) (enV y) _ _ _ _ _ _ _ _ _ _) W
    rw [← hA]
    have HAct := hideP hA
    clear hA
    gi_wp2
    refine wpIn_region_any fm ?_
    change wpAnyIn _ _ _ _ _ _ _ _ _ (World.drew _)
    refine wpAnyIn_phase (fuel := 2) (EachIN A v (.func (.func K) #[] #[]) x y z W) ?fin ?live ?step 6 _ _ _ ⟨false, false, false, false, false, false, undef, undef, undef, undef, undef, undef, 0, rfl, rfl, rfl, nofun, nofun, nofun, nofun, nofun, nofun, nofun, nofun, (Bl.refl _).drew⟩
    case live =>
      intro k l act u h h0
      obtain ⟨l0, l1, l2, l3, l4, l5, v21, v22, v23, v24, v25, v26, g, rfl, hk, rfl, e0, e1, e2, e3, e4, e5, c4, c5, hB⟩ := h
      rw [List.eq_nil_iff_forall_not_mem] at h0
      cases l0
      · exact h0 0 (mem_ready.2 ⟨rfl, _, rfl, fun e he => by simp at he⟩)
      cases l1
      · exact h0 1 (mem_ready.2 ⟨rfl, _, rfl, fun e he => by simp at he⟩)
      cases l2
      · exact h0 2 (mem_ready.2 ⟨rfl, _, rfl, fun e he => by simp at he⟩)
      cases l3
      · exact h0 3 (mem_ready.2 ⟨rfl, _, rfl, fun e he => by simp at he⟩)
      cases l4
      · exact h0 4 (mem_ready.2 ⟨rfl, _, rfl, fun e he hb => by simp at he; rcases he with rfl | rfl | rfl <;> rfl⟩)
      cases l5
      · exact h0 5 (mem_ready.2 ⟨rfl, _, rfl, fun e he hb => by simp at he; rcases he with rfl; rfl⟩)
      simp [one'] at hk
    case step =>
      intro k l act u i h hi' hall
      obtain ⟨l0, l1, l2, l3, l4, l5, v21, v22, v23, v24, v25, v26, g, rfl, hk, rfl, e0, e1, e2, e3, e4, e5, c4, c5, hB⟩ := h
      have hlt2 := getD_lt' hi'
      simp only [List.size_toArray, List.length_cons, List.length_nil] at hlt2
      have cR : u.cell? ⟨w0.heap.size, 0, none⟩ = some v := (boxed_bl HV.out hB).cell
      have cD : u.cell? ⟨w.heap.size, 0, none⟩ = some (.func (.func K) #[] #[]) := (boxed_bl HD.out hB).cell
      obtain ⟨c0, c1, c2, c3, f0, f1, f2, f3, lt1⟩ := B1.out.later hB
      obtain ⟨d0, d1, d2, d3, g0, g1, g2, g3, lt2⟩ := B2.out.later hB
      rcases (by omega : i = 0 ∨ i = 1 ∨ i = 2 ∨ i = 3 ∨ i = 4 ∨ i = 5 ∨ i = 6 ∨ i = 7) with rfl | rfl | rfl | rfl | rfl | rfl | rfl | rfl
      · skip
        have hl0 : l0 = false := hi'
        subst hl0
        have E0 := hideP e0
        have E1 := hideP e1
        have E2 := hideP e2
        have E3 := hideP e3
        have E4 := hideP e4
        have E5 := hideP e5
        have C4 := hideP c4
        have C5 := hideP c5
        have HKk := hideP hk
        have HBu := hideP hB
        clear e0 e1 e2 e3 e4 e5 c4 c5 hk hB hi' hall
        refine wpOpIn_step (o := _) rfl (fun K' hK0 => ?_)
        have hK' := hideP hK0
        clear hK0
        rw [HAct.out]
        unfold eachActN
        try simp only [List.getElem_toArray, List.getElem_cons_zero, List.getElem_cons_succ]
        go_simp
        exact hK'.out _ _ ⟨true, l1, l2, l3, l4, l5, (v), v22, v23, v24, v25, v26, g, rfl, by have := HKk.out; simp [one'] at this ⊢; omega, by rw [HAct.out]; rfl, fun _ => rfl, E1.out, E2.out, E3.out, E4.out, E5.out, C4.out, C5.out, HBu.out⟩
      · skip
        have hl0 : l1 = false := hi'
        subst hl0
        have E0 := hideP e0
        have E1 := hideP e1
        have E2 := hideP e2
        have E3 := hideP e3
        have E4 := hideP e4
        have E5 := hideP e5
        have C4 := hideP c4
        have C5 := hideP c5
        have HKk := hideP hk
        have HBu := hideP hB
        clear e0 e1 e2 e3 e4 e5 c4 c5 hk hB hi' hall
        refine wpOpIn_step (o := _) rfl (fun K' hK0 => ?_)
        have hK' := hideP hK0
        clear hK0
        rw [HAct.out]
        unfold eachActN
        try simp only [List.getElem_toArray, List.getElem_cons_zero, List.getElem_cons_succ]
        go_simp
        exact hK'.out _ _ ⟨l0, true, l2, l3, l4, l5, v21, (.func (.func K) #[] #[]), v23, v24, v25, v26, g, rfl, by have := HKk.out; simp [one'] at this ⊢; omega, by rw [HAct.out]; rfl, E0.out, fun _ => rfl, E2.out, E3.out, E4.out, E5.out, fun h => ⟨rfl, (C4.out h).2.1, (C4.out h).2.2⟩, C5.out, HBu.out⟩
      · skip
        have hl0 : l2 = false := hi'
        subst hl0
        have E0 := hideP e0
        have E1 := hideP e1
        have E2 := hideP e2
        have E3 := hideP e3
        have E4 := hideP e4
        have E5 := hideP e5
        have C4 := hideP c4
        have C5 := hideP c5
        have HKk := hideP hk
        have HBu := hideP hB
        clear e0 e1 e2 e3 e4 e5 c4 c5 hk hB hi' hall
        refine wpOpIn_step (o := _) rfl (fun K' hK0 => ?_)
        have hK' := hideP hK0
        clear hK0
        rw [HAct.out]
        unfold eachActN
        try simp only [List.getElem_toArray, List.getElem_cons_zero, List.getElem_cons_succ]
        go_simp
        exact hK'.out _ _ ⟨l0, l1, true, l3, l4, l5, v21, v22, (enV x), v24, v25, v26, g, rfl, by have := HKk.out; simp [one'] at this ⊢; omega, by rw [HAct.out]; rfl, E0.out, E1.out, fun _ => rfl, E3.out, E4.out, E5.out, fun h => ⟨(C4.out h).1, rfl, (C4.out h).2.2⟩, C5.out, HBu.out⟩
      · skip
        have hl0 : l3 = false := hi'
        subst hl0
        have E0 := hideP e0
        have E1 := hideP e1
        have E2 := hideP e2
        have E3 := hideP e3
        have E4 := hideP e4
        have E5 := hideP e5
        have C4 := hideP c4
        have C5 := hideP c5
        have HKk := hideP hk
        have HBu := hideP hB
        clear e0 e1 e2 e3 e4 e5 c4 c5 hk hB hi' hall
        refine wpOpIn_step (o := _) rfl (fun K' hK0 => ?_)
        have hK' := hideP hK0
        clear hK0
        rw [HAct.out]
        unfold eachActN
        try simp only [List.getElem_toArray, List.getElem_cons_zero, List.getElem_cons_succ]
        go_simp
        exact hK'.out _ _ ⟨l0, l1, l2, true, l4, l5, v21, v22, v23, (enV y), v25, v26, g, rfl, by have := HKk.out; simp [one'] at this ⊢; omega, by rw [HAct.out]; rfl, E0.out, E1.out, E2.out, fun _ => rfl, E4.out, E5.out, fun h => ⟨(C4.out h).1, (C4.out h).2.1, rfl⟩, C5.out, HBu.out⟩
      · skip
        have hl0 : l4 = false := hi'
        subst hl0
        have h1 : l1 = true := hall ⟨1, .data⟩ ⟨_, rfl, by simp⟩ rfl
        have h2 : l2 = true := hall ⟨2, .data⟩ ⟨_, rfl, by simp⟩ rfl
        have h3 : l3 = true := hall ⟨3, .data⟩ ⟨_, rfl, by simp⟩ rfl
        obtain rfl := e1 h1
        obtain rfl := e2 h2
        obtain rfl := e3 h3
        have E0 := hideP e0
        have E1 := hideP e1
        have E2 := hideP e2
        have E3 := hideP e3
        have E4 := hideP e4
        have E5 := hideP e5
        have C4 := hideP c4
        have C5 := hideP c5
        have HKk := hideP hk
        have HBu := hideP hB
        have H1 := hideP h1
        have H2 := hideP h2
        have H3 := hideP h3
        clear h1 h2 h3
        clear e0 e1 e2 e3 e4 e5 c4 c5 hk hB hi' hall
        refine wpOpIn_step (o := _) rfl (fun K' hK0 => ?_)
        have hK' := hideP hK0
        clear hK0
        rw [HAct.out]
        unfold eachActN
        try simp only [List.getElem_toArray, List.getElem_cons_zero, List.getElem_cons_succ]
        go_simp
        refine ⟨trivial, ?_⟩
        refine (CallsIn.inRound l (callsIn_wide.2 (HK3.out _))).mono ?_
        rintro e w4 ⟨rfl, h4⟩
        try gi_wp2
        exact hK'.out _ _ ⟨l0, l1, l2, l3, true, l5, v21, (.func (.func K) #[] #[]), (enV x), (enV y), (enV z), v26, g, rfl, by have := HKk.out; simp [one'] at this ⊢; omega, by rw [HAct.out]; rfl, E0.out, fun _ => rfl, fun _ => rfl, fun _ => rfl, fun _ => rfl, fun h => absurd (C5.out h) (by simp), fun _ => ⟨H1.out, H2.out, H3.out⟩, fun _ => rfl, HBu.out.trans h4⟩
      · skip
        have hl0 : l5 = false := hi'
        subst hl0
        have h4 : l4 = true := hall ⟨4, .data⟩ ⟨_, rfl, by simp⟩ rfl
        obtain rfl := e4 h4
        have E0 := hideP e0
        have E1 := hideP e1
        have E2 := hideP e2
        have E3 := hideP e3
        have E4 := hideP e4
        have E5 := hideP e5
        have C4 := hideP c4
        have C5 := hideP c5
        have HKk := hideP hk
        have HBu := hideP hB
        have H4 := hideP h4
        clear h4
        clear e0 e1 e2 e3 e4 e5 c4 c5 hk hB hi' hall
        refine wpOpIn_step (o := _) rfl (fun K' hK0 => ?_)
        have hK' := hideP hK0
        clear hK0
        rw [HAct.out]
        unfold eachActN
        try simp only [List.getElem_toArray, List.getElem_cons_zero, List.getElem_cons_succ]
        go_simp
        exact hK'.out _ _ ⟨l0, l1, l2, l3, l4, true, v21, v22, v23, v24, (enV z), (.slice (some ⟨u.heap.size, 0, none⟩) 1 1), u.heap.size, rfl, by have := HKk.out; simp [one'] at this ⊢; omega, by rw [HAct.out]; rfl, E0.out, E1.out, E2.out, E3.out, fun _ => rfl, fun _ => ⟨rfl, Box.new u z _⟩, C4.out, fun _ => H4.out, HBu.out.alloc _⟩
      · exfalso
        have h0 : l0 = true := hall ⟨0, .data⟩ ⟨_, rfl, by simp⟩ rfl
        have h4 : l4 = true := hall ⟨4, .chain⟩ ⟨_, rfl, by simp⟩ rfl
        have h5 : l5 = true := hall ⟨5, .data⟩ ⟨_, rfl, by simp⟩ rfl
        obtain ⟨h1, h2, h3⟩ := c4 h4
        rw [h0, h1, h2, h3, h4, h5] at hk
        simp [one'] at hk
      · exact Bool.noConfusion (show false = true from hall ⟨6, .data⟩ ⟨_, rfl, by simp⟩ rfl)
    case fin =>
      intro l act u h
      obtain ⟨l0, l1, l2, l3, l4, l5, v21, v22, v23, v24, v25, v26, g, rfl, hk, rfl, e0, e1, e2, e3, e4, e5, c4, c5, hB⟩ := h
      obtain ⟨rfl, rfl, rfl, rfl, rfl, rfl⟩ : l0 = true ∧ l1 = true ∧ l2 = true ∧ l3 = true ∧ l4 = true ∧ l5 = true := by
        cases l0 <;> cases l1 <;> cases l2 <;> cases l3 <;> cases l4 <;> cases l5 <;> first | exact ⟨rfl, rfl, rfl, rfl, rfl, rfl⟩ | (simp [one'] at hk)
      obtain rfl := e0 rfl
      obtain rfl := e1 rfl
      obtain rfl := e2 rfl
      obtain rfl := e3 rfl
      obtain rfl := e4 rfl
      obtain ⟨rfl, bz⟩ := e5 rfl
      clear e0 e1 e2 e3 e4 e5 c4 c5 hk
      have hvu := boxed_bl HV.out hB
      have hru := own_blN HR.out hB
      have hus : w.heap.size ≤ u.heap.size := by have := HBW.out.size; have := hB.size; omega
      refine wpAnyIn_ready (rs := [6]) (by kernel_rfl) (by simp) ?_
      refine AllReadyIn.cons (i := 6) (o := _) rfl (fun K' hK' => ?_) AllReadyIn.nil
      rw [if_pos (by rfl)]
      refine stepIn_append (Operand.tmp 21) (Operand.tmp 26) 22 rfl w.heap.size 28 i0 (.agg #[.int .i64 0, .int .i64 0, .int .i64 0, .bool false]) 4 32 Tryz.underlying22 hi hz0 hz1 hz2 rfl (by decide) v21 _ _ (by rw [HAct.out]; rfl) hru ⟨g, 0, none⟩ 1 1 (cellsN z) (by rw [HAct.out]; rfl) rfl bz.cells (oneN_cells _) (by unfold maxLen; omega) (by omega) hus ?_
      intro v' w5 hown' hgrow hat
      refine hK' _ _ ?_
      clear hK' K'
      obtain ⟨g', cap', rfl⟩ := ownsRow_succ hown'
      obtain ⟨hv5, hv6, hr6, hk6, hb6⟩ := boxed_appended hvu (by decide) hru hus (by omega) hown' hgrow
      have cv5 := hv5.cell
      have fv5 := hv5.frozen
      have HV6 := hideP hv6
      have HR6 := hideP hr6
      have HSP := hideP (span_appended (R := w0.heap.size) (v' := .slice (some ⟨g', 0, none⟩) ((opL op pre).length + 1) cap') hB hsW HG.out hgrow (Nat.lt_succ_self _))
      have HG' := hideP (show ∀ b, (Value.slice (some ⟨g', 0, none⟩) ((opL op pre).length + 1) cap').ownBlock = some b → b < w0.heap.size + 1 ∨ w3.heap.size ≤ b by
        intro b hb
        rcases hat with h | h
        · exact HG.out b (h.symm.trans hb)
        · rw [h] at hb
          cases hb
          exact .inr (by have := hB.size; omega))
      clear hv5 hv6 hr6 hown' hvu hru hat hpl
      rw [HAct.out]
      unfold eachActN
      refine wpAnyIn_ready (rs := [7]) (by kernel_rfl) (by simp) ?_
      refine AllReadyIn.cons (i := 7) (o := _) rfl (fun K' hK' => ?_) AllReadyIn.nil
      have HK4 := hideP hK'
      clear hK'
      try simp only [List.getElem_toArray, List.getElem_cons_zero, List.getElem_cons_succ]
      go_simp
      refine HK4.out _ _ ?_
      refine wpAnyIn_done (by kernel_rfl) ?_ _
      gi_wp2
      have hBf := hB.keeps w3.heap.size
      refine ⟨hBf.trans (hk6.from _), HSP.out, ⟨_, HV6.out, ?_, HG'.out⟩, ?_, HBW.out.trans ((hB.mono HBW.out.size).trans hb6), ?_⟩
      · have := HR6.out
        rw [opL_snoc, ← HZ.out]
        simpa [List.flatMap_append] using this
      · exact ((boxed_bl HD.out hB).kept hgrow ((boxed_bl HD.out hB).not_row (by decide) (own_blN HR.out hB))).other (by omega) _
      · have := hB.size; have := hgrow.size; simp; omega
  case done =>
    rintro D zs W hD rfl ⟨⟨v, hv, hrow, _⟩, _, hBW, hsW⟩ hKD
    have hc := hv.cell
    gi_wp2
    refine ⟨by simp, .inl ⟨_, _, rfl, run_takeDeferred hKD, ?_⟩⟩
    refine ⟨_, results_tmp rfl _ _ _, v, rfl, ?_, fun g hg => (hrow.lt g hg).1, hBW.trans (belowK_b (w := w) (Nat.le_refl _) W D _ _ (by omega) hKD rfl rfl)⟩
    have := ownsRow_putObj hrow (.deferred none) hKD rfl
    rw [← HM.out, opL_zip op xs ys m HM.out] at this
    exact Rw.of_own cellsN_len this
  case stop =>
    rintro D c pre W _ _ h _
    exact h.elim
theorem eachN (K : Nat) (op : En → En → En) (hK : ∀ a b w, Calls Tryz.prog K #[enV a, enV b] w fun e w' => e = .returned (enV (op a b)) ∧ Bl w w') (eg : ∀ args w, (callFunc K args).run Tryz.prog w = .ok (.enter K args) w)
    (va vb : Value) (xs ys : List En) (w : World) (ha : Rq 4 cellsN w va xs) (hb : Rq 4 cellsN w vb ys) (hl : xs.length ≤ 1000000) (hm : ys.length ≤ 1000000) :
    Calls Tryz.prog 102 #[va, vb, .func (.func K) #[] #[]] w fun e w' => ∃ u, e = .returned u ∧ Rw 4 cellsN w' u (List.zipWith op xs ys) ∧ Bl w w' :=
  (eachN' K op hK eg va vb xs ys w ha hb hl hm).mono fun _ _ ⟨u, h1, h2, _, h3⟩ => ⟨u, h1, h2, h3⟩
end Go.Proofs.YtlbmkjicbkfmjaaGreat

/- Contracts of vec's Add, Sub, Dot, of enclosed numbers (layer 5). Written by genVe.py. -/
namespace Go.Proofs.YtlbmkjicbkfmjaaGreat
open Go.RowKit Go.Shelf
set_option linter.unusedSimpArgs false
set_option linter.unusedVariables false

theorem vAddN' (va vb : Value) (xs ys : List En) (w : World) (ha : Rq 4 cellsN w va xs) (hb : Rq 4 cellsN w vb ys) (hl : xs.length ≤ 1000000) (hm : ys.length ≤ 1000000) :
    Calls Tryz.prog 56 #[va, vb] w fun e w' => ∃ u, e = .returned u ∧ Rw 4 cellsN w' u (List.zipWith addE xs ys) ∧ Fresh w.heap.size u ∧ Bl w w' := by
  have E := hideP (eachN' 104 addE dAddN (enters_of Tryz.func104 (by kernel_rfl) rfl) va vb xs ys w ha hb hl hm)
  clear ha hb
  go_enter Tryz.func56, Tryz.ntmps56
  go_wp2_with fail
  refine E.out.mono ?_
  rintro e w1 ⟨u, rfl, hr, hf, h1⟩
  go_wp2
  go_ret
  exact ⟨_, rfl, hr, hf, h1⟩
theorem vAddN (va vb : Value) (xs ys : List En) (w : World) (ha : Rq 4 cellsN w va xs) (hb : Rq 4 cellsN w vb ys) (hl : xs.length ≤ 1000000) (hm : ys.length ≤ 1000000) :
    Calls Tryz.prog 56 #[va, vb] w fun e w' => ∃ u, e = .returned u ∧ Rw 4 cellsN w' u (List.zipWith addE xs ys) ∧ Bl w w' :=
  (vAddN' va vb xs ys w ha hb hl hm).mono fun _ _ ⟨u, h1, h2, _, h3⟩ => ⟨u, h1, h2, h3⟩

theorem vSubN' (va vb : Value) (xs ys : List En) (w : World) (ha : Rq 4 cellsN w va xs) (hb : Rq 4 cellsN w vb ys) (hl : xs.length ≤ 1000000) (hm : ys.length ≤ 1000000) :
    Calls Tryz.prog 139 #[va, vb] w fun e w' => ∃ u, e = .returned u ∧ Rw 4 cellsN w' u (List.zipWith subE xs ys) ∧ Fresh w.heap.size u ∧ Bl w w' := by
  have E := hideP (eachN' 167 subE dSubN (enters_of Tryz.func167 (by kernel_rfl) rfl) va vb xs ys w ha hb hl hm)
  clear ha hb
  go_enter Tryz.func139, Tryz.ntmps139
  go_wp2_with fail
  refine E.out.mono ?_
  rintro e w1 ⟨u, rfl, hr, hf, h1⟩
  go_wp2
  go_ret
  exact ⟨_, rfl, hr, hf, h1⟩
theorem vSubN (va vb : Value) (xs ys : List En) (w : World) (ha : Rq 4 cellsN w va xs) (hb : Rq 4 cellsN w vb ys) (hl : xs.length ≤ 1000000) (hm : ys.length ≤ 1000000) :
    Calls Tryz.prog 139 #[va, vb] w fun e w' => ∃ u, e = .returned u ∧ Rw 4 cellsN w' u (List.zipWith subE xs ys) ∧ Bl w w' :=
  (vSubN' va vb xs ys w ha hb hl hm).mono fun _ _ ⟨u, h1, h2, _, h3⟩ => ⟨u, h1, h2, h3⟩

/-- The sum of the products of all pairs. -/
def dotN (xs ys : List En) : En := sumN (List.zipWith mulE xs ys)
theorem vDotN (va vb : Value) (xs ys : List En) (w : World) (ha : Rq 4 cellsN w va xs) (hb : Rq 4 cellsN w vb ys) (hl : xs.length ≤ 1000000) (hm : ys.length ≤ 1000000) :
    Calls Tryz.prog 54 #[va, vb] w fun e w' => e = .returned (enV (dotN xs ys)) ∧ Bl w w' := by
  obtain ⟨W, hW⟩ : ∃ W, W = w.alloc (.cells #[.int .i64 0, .int .i64 0, .int .i64 0, .bool false] 28) := ⟨_, rfl⟩
  have b0 : Bl w W := by rw [hW]; exact (Bl.refl _).alloc _
  have x0 : Box W w.heap.size zeroE := by rw [hW]; exact Box.new w zeroE _
  have E := hideP (eachN 103 mulE dMulN (enters_of Tryz.func103 (by kernel_rfl) rfl) va vb xs ys W (ha.later b0) (hb.later b0) hl hm)
  have HL := hideP (show (List.zipWith mulE xs ys).length ≤ 1000000 by simp; omega)
  generalize hr0 : dotN xs ys = r
  have HR0 := hideP hr0
  clear hr0
  have HW := hideP hW
  clear ha hb hW
  go_enter Tryz.func54, Tryz.ntmps54
  go_wp2_with fail
  rw [← HW.out]
  refine E.out.mono ?_
  rintro e w1 ⟨u, rfl, hr, h1⟩
  have S0 := vsumN u _ w1 hr.q HL.out
  rw [show sumN (List.zipWith mulE xs ys) = r from HR0.out] at S0
  have S := hideP S0
  clear hr S0
  go_wp2_with fail
  refine S.out.mono ?_
  rintro e w2 ⟨rfl, h2⟩
  obtain ⟨c0, c1, c2, c3, f0, f1, f2, f3, lt⟩ := x0.later (h1.trans h2)
  go_wp2
  simp [bodyPost, results, Tryz.results54, go_sem, c0, c1, c2, c3]
  exact Bl.set4 (b0.trans (h1.trans h2)) (Nat.le_refl _) _ _ _ _
end Go.Proofs.YtlbmkjicbkfmjaaGreat

/- Whole numbers as points: their sums, products and dots, enclosed (layer 5's laws). Mathematics alone. -/
namespace Go.Proofs.YtlbmkjicbkfmjaaGreat
open Go.RowKit
set_option linter.unusedSimpArgs false
set_option linter.unusedVariables false

/-- The point of a whole number. -/
def itN (n : Int) : En := ⟨n * 16777216, n * 16777216, n * 16777216, false⟩
/-- It may be one. -/
def Wn (n : Int) : Prop := -67108864 ≤ n ∧ n ≤ 67108864
theorem fr_it {n : Int} (h : Wn n) : frB (n * 16777216) = true := frB_eq (by unfold Wn at h; omega)
theorem fineN_it {n : Int} (h : Wn n) : fineB (itN n) = true := pt_fine (fr_it h)
theorem ofN_it {n : Int} (h : Wn n) : ptE (foN n) (foB n) = itN n := by
  have h1 : foB n = true := by unfold foB; unfold Wn at h; simp; omega
  rw [h1]
  unfold foN
  rw [h1]
  rfl
theorem addN_it {a b : Int} (ha : Wn a) (hb : Wn b) (h : Wn (a + b)) : addE (itN a) (itN b) = itN (a + b) := by
  have e : a * 16777216 + b * 16777216 = (a + b) * 16777216 := by omega
  have t := fa_told (fr_it ha) (fr_it hb) (by rw [e]; exact fr_it h)
  have ok : okE bA (itN a) (itN b) (prs2 (itN a) (itN b)) = true := okE_iff.2 ⟨t.1, fineN_it ha, fineN_it hb, by rw [show prs2 (itN a) (itN b) = prs2 ⟨a * 16777216, a * 16777216, a * 16777216, false⟩ ⟨b * 16777216, b * 16777216, b * 16777216, false⟩ from rfl, (same_prs2 _ _).ok]; unfold bA; rw [t.1]; rfl⟩
  have e1 := told_ok (N := nA) ok
  unfold addE
  rw [e1]
  have hs : Same (prs2 (itN a) (itN b)) (a * 16777216) (b * 16777216) := same_prs2 _ _
  rw [hs.low bdA, hs.high bdA]
  have hn : ∀ m, nA (a * 16777216) (b * 16777216) m = (a + b) * 16777216 := fun m => by show faN _ _ = _; rw [t.2, e]
  show (⟨nA (a * 16777216) (b * 16777216) 0, _, _, false⟩ : En) = _
  rw [hn, hn, hn]
  rfl
theorem rnd_it (x c m : Int) (hc : 0 < c) : rnd (x * c) c m = x := by
  unfold rnd
  have h1 : x * c / c = x := Int.mul_ediv_cancel _ (by omega)
  have h2 : -(-(x * c) / c) = x := by rw [← Int.neg_mul, Int.mul_ediv_cancel _ (by omega), Int.neg_neg]
  split
  · exact h1
  · split
    · exact h2
    · unfold evn
      have h3 : x * c % c = 0 := Int.mul_emod_left x c
      rw [h1, h3]
      simp
      omega
theorem mulN_it {a b : Int} (ha : Wn a) (hb : Wn b) (h : Wn (a * b)) : mulE (itN a) (itN b) = itN (a * b) := by
  have ex : a * 16777216 * (b * 16777216) = a * b * 16777216 * 16777216 := by rw [← Int.mul_assoc, Int.mul_right_comm a 16777216 b]
  have t : ∀ m, MD m → fmB (a * 16777216) (b * 16777216) m = true ∧ fmN (a * 16777216) (b * 16777216) m = a * b * 16777216 := fun m hm => by
    have := fm_told (fr_it ha) (fr_it hb) hm (by rw [ex, rnd_it _ _ _ (by decide)]; exact fr_it h)
    rw [ex, rnd_it _ _ _ (by decide)] at this
    exact this
  have hs : Same (prs4 (itN a) (itN b)) (a * 16777216) (b * 16777216) := same_prs4 _ _
  have ok : okE fmB (itN a) (itN b) (prs4 (itN a) (itN b)) = true := okE_iff.2 ⟨(t 0 (.inl rfl)).1, fineN_it ha, fineN_it hb, by rw [hs.ok, (t 1 (.inr (.inl rfl))).1, (t 2 (.inr (.inr rfl))).1]; rfl⟩
  have e1 := told_ok (N := fmN) ok
  unfold mulE
  rw [e1, hs.low bdM, hs.high bdM]
  show (⟨fmN (a * 16777216) (b * 16777216) 0, _, _, false⟩ : En) = _
  rw [(t 0 (.inl rfl)).2, (t 1 (.inr (.inl rfl))).2, (t 2 (.inr (.inr rfl))).2]
  rfl
theorem foldN_it {B : Int} : ∀ (ns : List Int) (s : Int), Sml B ns → 0 ≤ B → -67108864 + B * ns.length ≤ s → s ≤ 67108864 - B * ns.length → (ns.map itN).foldl addE (itN s) = itN (s + ns.sum)
  | [], s, _, _, _, _ => by simp
  | n :: ns, s, h, hB, h1, h2 => by
    have hn := h.head
    simp only [List.length_cons, Int.natCast_add, Int.mul_add] at h1 h2
    have hp : 0 ≤ B * ns.length := Int.mul_nonneg hB (by omega)
    rw [List.map_cons, List.foldl_cons, addN_it ⟨by omega, by omega⟩ ⟨by omega, by omega⟩ ⟨by omega, by omega⟩, foldN_it ns (s + n) h.tail hB (by omega) (by omega), List.sum_cons]
    congr 1
    omega
theorem sumN_it {B : Int} (ns : List Int) (h : Sml B ns) (hB : 0 ≤ B) (hb : B * ns.length ≤ 67108864) : sumN (ns.map itN) = itN ns.sum := by
  unfold sumN
  rw [ofN_it (n := 0) ⟨by omega, by omega⟩, foldN_it ns 0 h hB (by omega) (by omega)]
  simp
theorem wholesN_it {B : Int} (ns : List Int) (h : Sml B ns) (hb : B ≤ 67108864) : ns.map wholeN = ns.map itN :=
  List.map_congr_left fun x hx => ofN_it (by have := h x hx; exact ⟨by omega, by omega⟩)
theorem mulsN_it {A B : Int} (hA : A ≤ 67108864) (hB : B ≤ 67108864) (hAB : A * B ≤ 67108864) : ∀ (xs ys : List Int), Sml A xs → Sml B ys → List.zipWith mulE (xs.map itN) (ys.map itN) = (List.zipWith (· * ·) xs ys).map itN
  | [], _, _, _ => by simp
  | _ :: _, [], _, _ => by simp
  | x :: xs, y :: ys, h, k => by
    have h1 := h.head
    have h2 := k.head
    have h3 := mul_bound h1 h2
    rw [List.map_cons, List.map_cons, List.zipWith_cons_cons, List.zipWith_cons_cons, List.map_cons, mulN_it ⟨by omega, by omega⟩ ⟨by omega, by omega⟩ ⟨by omega, by omega⟩, mulsN_it hA hB hAB xs ys h.tail k.tail]
theorem dotN_it {xs ys : List Int} (h : Sml 1000 xs) (k : Sml 1000 ys) (hl : xs.length ≤ 20) : dotN (xs.map itN) (ys.map itN) = itN (dotI xs ys) := by
  unfold dotN dotI
  rw [mulsN_it (by omega) (by omega) (by omega) xs ys h k]
  refine sumN_it (B := 1000 * 1000) _ (muls_sml h k) (by omega) ?_
  have hln : (List.zipWith (· * ·) xs ys).length ≤ 20 := by simp; omega
  omega
theorem encl_it {n : Int} (h : Wn n) : enclB (itN n) n 1 = true := by
  unfold enclB withinB
  rw [fineN_it h, rightB_eq (by unfold Wn at h; omega), rightB_eq (n := 1) (by omega)]
  simp [itN]
end Go.Proofs.YtlbmkjicbkfmjaaGreat

/- Enclosed numbers beside fractions: the same steps of both; what is told of enclosed numbers encloses what is told of fractions, where that may be one. Mathematics alone. -/
namespace Go.Proofs.YtlbmkjicbkfmjaaGreat
open Go.RowKit
set_option linter.unusedSimpArgs false
set_option linter.unusedVariables false

/-- It encloses the fraction, if that may be one; or it is Bad. -/
def EncF (e : En) (f : Fr) : Prop := fineR f = true → Enq e f.n f.d
theorem encF_wrong (e : En) : EncF e wrongR := fun h => by cases h
theorem fine_dp {f : Fr} (h : fineR f = true) : 0 < f.d := by have := fineR_iff.1 h; omega
theorem encF_of {e : En} {q : Rat} {n d : Int} (hd : 0 < d) (hq : q = Rat.divInt n d) (h : Enq e n d) : EncF e (ofQ q) := by
  intro hf
  have hr := fine_dp hf
  have ok : okR q = true := by rw [← ofQ_fine]; exact hf
  have e1 := toQ_ofQ ok
  unfold toQ at e1
  have e2 := (Rat.divInt_eq_divInt_iff (by omega) (by omega)).1 (e1.trans hq)
  exact h.same hd hr e2.symm
theorem encF_add {a b : En} {f g : Fr} (ha : EncF a f) (hb : EncF b g) : EncF (addE a b) (addR f g) := by
  unfold addR
  cases hf : fineR f
  · exact encF_wrong _
  cases hg : fineR g
  · exact encF_wrong _
  have d1 := fine_dp hf
  have d2 := fine_dp hg
  exact encF_of (Int.mul_pos d1 d2) (by unfold toQ; rw [Rat.divInt_add_divInt _ _ (by omega) (by omega)]) (enq_add d1 d2 (ha hf) (hb hg))
theorem encF_sub {a b : En} {f g : Fr} (ha : EncF a f) (hb : EncF b g) : EncF (subE a b) (subR f g) := by
  unfold subR
  cases hf : fineR f
  · exact encF_wrong _
  cases hg : fineR g
  · exact encF_wrong _
  have d1 := fine_dp hf
  have d2 := fine_dp hg
  exact encF_of (Int.mul_pos d1 d2) (by unfold toQ; rw [Rat.divInt_sub_divInt _ _ (by omega) (by omega)]) (enq_sub d1 d2 (ha hf) (hb hg))
theorem encF_mul {a b : En} {f g : Fr} (ha : EncF a f) (hb : EncF b g) : EncF (mulE a b) (mulR f g) := by
  unfold mulR
  cases hf : fineR f
  · exact encF_wrong _
  cases hg : fineR g
  · exact encF_wrong _
  have d1 := fine_dp hf
  have d2 := fine_dp hg
  exact encF_of (Int.mul_pos d1 d2) (by unfold toQ; rw [Rat.divInt_mul_divInt]) (enq_mul d1 d2 (ha hf) (hb hg))
theorem encF_div {a b : En} {f g : Fr} (ha : EncF a f) (hb : EncF b g) : EncF (divE a b) (divR f g) := by
  cases hf : fineR f
  · unfold divR; rw [hf]; exact encF_wrong _
  cases hg : fineR g
  · unfold divR; rw [hf, hg]; exact encF_wrong _
  by_cases h0 : g.n = 0
  · unfold divR; rw [hf, hg, show decide (g.n ≠ 0) = false by simp [h0]]; exact encF_wrong _
  have d1 := fine_dp hf
  have d2 := fine_dp hg
  rw [divR_fine hf hg h0]
  refine encF_of (Int.mul_pos d1 (szI_pp h0)) ?_ (enq_div d1 d2 (ha hf) (hb hg))
  unfold toQ
  rw [Rat.div_def, Rat.inv_divInt, Rat.divInt_mul_divInt]
  unfold sgI szI
  by_cases hn : g.n < 0
  · rw [if_pos hn, if_pos hn, ← Rat.neg_divInt_neg]
    rw [Int.mul_neg, Int.mul_neg, Int.mul_one, Int.neg_mul]
  · rw [if_neg hn, if_neg hn, Int.mul_one]
theorem encF_root {a : En} {f : Fr} (ha : EncF a f) : EncF (rootE a) (rootR f) := by
  cases hf : fineR f
  · unfold rootR; rw [hf]; exact encF_wrong _
  unfold rootR
  rw [hf, if_pos rfl]
  cases he : eqR (mulR (tryR f) (tryR f)) f
  · rw [if_neg (by simp)]; exact encF_wrong _
  rw [if_pos rfl]
  intro ht
  have e := eqR_iff.1 he
  rw [mulR_fine ht ht] at e
  have ok : okR (toQ (tryR f) * toQ (tryR f)) = true := by rw [← ofQ_fine, e]; exact hf
  have q := toQ_ofQ ok
  rw [e] at q
  unfold toQ at q
  rw [Rat.divInt_mul_divInt] at q
  have d1 := fine_dp hf
  have d2 := fine_dp ht
  have hdd := Int.mul_pos d2 d2
  have e2 := (Rat.divInt_eq_divInt_iff (by omega) (by omega)).1 q
  exact enq_root d1 d2 (flR_le (fineR_iff.1 hf).2.2.2.2.1).1 (ha hf) e2
theorem encF_whole (n : Int) : EncF (wholeN n) (wholeF n) := by
  unfold wholeF newR lowR
  by_cases hg : (gvB n && gvB 1) = true
  · rw [if_pos hg, if_neg (by decide)]
    refine encF_of (d := 1) (by decide) rfl ?_
    unfold wholeN
    cases hb : foB n
    · exact .inl rfl
    · have hw : Wn n := by unfold foB at hb; simp at hb; exact ⟨by omega, by omega⟩
      rw [show foN n = n * 16777216 by unfold foN; rw [hb]; rfl]
      exact enq_pt (fr_it hw) (by omega)
  · rw [if_neg hg]; exact encF_wrong _
/-- Row beside row. -/
def EncL : List En → List Fr → Prop
  | [], [] => True
  | e :: es, f :: fs => EncF e f ∧ EncL es fs
  | _, _ => False
theorem encL_len : ∀ {es : List En} {fs : List Fr}, EncL es fs → es.length = fs.length
  | [], [], _ => rfl
  | _ :: es, _ :: fs, h => by have := encL_len h.2; simp [this]
  | [], _ :: _, h => h.elim
  | _ :: _, [], h => h.elim
theorem encL_get : ∀ {es : List En} {fs : List Fr}, EncL es fs → ∀ (k : Nat) (e : En) (f : Fr), es[k]? = some e → fs[k]? = some f → EncF e f
  | [], _, _, k, e, f, h1, _ => by simp at h1
  | _ :: es, _ :: fs, h, 0, e, f, h1, h2 => by simp at h1 h2; subst h1 h2; exact h.1
  | _ :: es, _ :: fs, h, k + 1, e, f, h1, h2 => encL_get h.2 k e f (by simpa using h1) (by simpa using h2)
  | _ :: _, [], h, _, _, _, _, _ => h.elim
theorem encL_of : ∀ {es : List En} {fs : List Fr}, es.length = fs.length → (∀ (k : Nat) (e : En) (f : Fr), es[k]? = some e → fs[k]? = some f → EncF e f) → EncL es fs
  | [], [], _, _ => trivial
  | e :: es, f :: fs, hl, h => ⟨h 0 e f rfl rfl, encL_of (by simpa using hl) fun k e' f' h1 h2 => h (k + 1) e' f' (by simpa using h1) (by simpa using h2)⟩
  | [], _ :: _, hl, _ => by simp at hl
  | _ :: _, [], hl, _ => by simp at hl
theorem encL_mul : ∀ {us : List En} {fs : List Fr} {bs : List En} {gs : List Fr}, EncL us fs → EncL bs gs → EncL (List.zipWith mulE us bs) (List.zipWith mulR fs gs)
  | [], [], _, _, _, _ => trivial
  | _ :: _, _ :: _, [], [], _, _ => trivial
  | _ :: us, _ :: fs, _ :: bs, _ :: gs, h, k => ⟨encF_mul h.1 k.1, encL_mul h.2 k.2⟩
  | [], _ :: _, _, _, h, _ => h.elim
  | _ :: _, [], _, _, h, _ => h.elim
  | _ :: _, _ :: _, [], _ :: _, _, k => k.elim
  | _ :: _, _ :: _, _ :: _, [], _, k => k.elim
theorem encF_fold : ∀ {es : List En} {fs : List Fr} {e : En} {f : Fr}, EncL es fs → EncF e f → EncF (es.foldl addE e) (fs.foldl addR f)
  | [], [], _, _, _, h => h
  | _ :: es, _ :: fs, _, _, hl, h => by simp only [List.foldl_cons]; exact encF_fold hl.2 (encF_add h hl.1)
  | [], _ :: _, _, _, h, _ => h.elim
  | _ :: _, [], _, _, h, _ => h.elim
theorem encF_sum {es : List En} {fs : List Fr} (h : EncL es fs) : EncF (sumN es) (sumF fs) := encF_fold h (encF_whole 0)
theorem encF_dot {us : List En} {fs : List Fr} {bs : List En} {gs : List Fr} (h : EncL us fs) (k : EncL bs gs) : EncF (dotN us bs) (dotF fs gs) := encF_sum (encL_mul h k)
theorem encL_take {es : List En} {fs : List Fr} (h : EncL es fs) (m : Nat) : EncL (es.take m) (fs.take m) := by
  refine encL_of (by rw [List.length_take, List.length_take, encL_len h]) fun k e f h1 h2 => ?_
  rw [List.getElem?_take] at h1 h2
  split at h1
  · rename_i hk
    rw [if_pos hk] at h2
    exact encL_get h k e f h1 h2
  · cases h1
/-- What env.Encloses asks, of a fraction. -/
theorem EncF.told {e : En} {f : Fr} (h : EncF e f) (hf : fineR f = true) (hb : e ≠ wrongE) : fineB e = true ∧ e.l * f.d ≤ f.n * 16777216 ∧ f.n * 16777216 ≤ e.h * f.d := by
  rcases h hf with h | ⟨h1, h2⟩
  · exact absurd h hb
  · exact ⟨h1, h2.1, h2.2⟩
end Go.Proofs.YtlbmkjicbkfmjaaGreat
