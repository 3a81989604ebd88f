/- Rows that lie in blocks of their own and are changed in place: copies of elements of several cells, a table of rows in memory (layer 8). -/
import Derived.Test.YtlbmkjicbkfmjaaGreatVeR
import Derived.Test.YtlbmkjicbkfmjaaGreatFr5
import Derived.Deep.RegionHeld3
import Derived.Deep.RegionWith
import Derived.RangeFuncNested
import Derived.RangeFuncBound
import Derived.RangeFuncCalls
import Derived.RangeFuncLeaves
import Derived.Shelf.Abstract
import Derived.Shelf.RegionOpen
import Derived.OwnWalkIn
import Derived.TacticsInMore
import Derived.LoopNIn
import Derived.LoopIn
import Derived.Test.YtlbmkjicbkfmjaaGreatVeG
import Derived.Test.YtlbmkjicbkfmjaaGreatFrN
import Derived.Test.YtlbmkjicbkfmjaaGreatTr0
import Derived.Laws.IdiomCopy
/- Contracts of vec's whole, Sum, Whole, Scale, of fractions (layer 5). Written by genVe.py. -/
namespace Go.Proofs.YtlbmkjicbkfmjaaGreat
open Go.RowKit
set_option linter.unusedSimpArgs false
set_option linter.unusedVariables false

theorem Tryz.mOfF (x : Value) (w : World) : (method 332 66 x "Of").run Tryz.prog w = .ok (228, x) w := by kernel_rfl
theorem Tryz.mAddF (x : Value) (w : World) : (method 332 66 x "Add").run Tryz.prog w = .ok (223, x) w := by kernel_rfl
theorem Tryz.mSubF (x : Value) (w : World) : (method 332 66 x "Sub").run Tryz.prog w = .ok (231, x) w := by kernel_rfl
theorem Tryz.mMulF (x : Value) (w : World) : (method 332 66 x "Mul").run Tryz.prog w = .ok (226, x) w := by kernel_rfl
theorem Tryz.info_F : (Tryz.prog.info? 66).map (fun i => (i.zero, i.size, i.bytes)) = some (some (.agg #[.int .i64 0, .int .i64 0, .bool false]), 3, 24) := by kernel_rfl

/-- A number's cells. -/
def cellsF (x : Fr) : List Value := [.int .i64 x.n, .int .i64 x.d, .bool x.bad]
theorem cellsF_len (x : Fr) : (cellsF x).length = 3 := rfl
theorem FBox.fill {u : World} {p : Nat} {r : Fr} (h : FBox u p r) (x : Fr) : FBox (((u.setCell ⟨p, 0, none⟩ (.int .i64 x.n)).setCell ⟨p, 1, none⟩ (.int .i64 x.d)).setCell ⟨p, 2, none⟩ (.bool x.bad)) p x := by
  obtain ⟨c0, c1, c2, f0, f1, f2, lt⟩ := h
  refine ⟨?_, ?_, ?_, ?_, ?_, ?_, ?_⟩ <;> simp [go_sem, *]
theorem FBox.oth {u : World} {p q : Nat} {r : Fr} (h : FBox u p r) (hne : p ≠ q) (y0 y1 y2 : Value) : FBox (((u.setCell ⟨q, 0, none⟩ (y0)).setCell ⟨q, 1, none⟩ (y1)).setCell ⟨q, 2, none⟩ (y2)) p r := by
  obtain ⟨c0, c1, c2, f0, f1, f2, lt⟩ := h
  have hne' := hne.symm
  refine ⟨?_, ?_, ?_, ?_, ?_, ?_, ?_⟩ <;> simp [go_sem, *]

theorem vwholeF (n : Int) (w : World) :
    Calls Tryz.prog 82 #[.int .i64 n] w fun e w' => e = .returned (frV (newR n 1)) ∧ Bl w w' := by
  have iv := Tryz.mOfF
  obtain ⟨W, hW⟩ : ∃ W, W = (w.alloc (.cells #[.int .i64 0, .int .i64 0, .bool false] 66)).alloc (.cells #[.int .i64 0, .int .i64 0, .bool false] 66) := ⟨_, rfl⟩
  have b0 : Bl w W := by rw [hW]; exact ((Bl.refl _).alloc _).alloc _
  have x0 : FBox W w.heap.size zeroR := by rw [hW]; exact (FBox.new w zeroR _).later ((Bl.refl _).alloc _)
  have HW := hideP hW
  clear hW
  have OF := hideP (rof_any zeroR n)
  generalize (newR n 1) = r at *
  go_enter Tryz.func82, Tryz.ntmps82
  go_wp2_with fail
  rw [← HW.out]
  refine (OF.out _).mono ?_
  rintro e w1 ⟨rfl, h1⟩
  obtain ⟨c0, c1, c2, f0, f1, f2, lt⟩ := x0.later h1
  clear iv
  go_wp2
  simp [bodyPost, results, Tryz.results82, go_sem, c0, c1, c2]
  exact Bl.set3 (b0.trans h1) (Nat.le_refl _) _ _ _

/-- The sum of all, from 0 on. -/
def sumF (xs : List Fr) : Fr := xs.foldl addR (newR 0 1)
theorem sumF_snoc (xs : List Fr) (k : Nat) (x : Fr) (h : xs[k]? = some x) : sumF (xs.take (k + 1)) = addR (sumF (xs.take k)) x := by
  unfold sumF
  rw [List.take_add_one, h]
  simp

set_option maxHeartbeats 1000000 in
theorem vsumF (v : Value) (xs : List Fr) (w : World) (h : Rq 3 cellsF w v xs) (hl : xs.length ≤ 1000000) :
    Calls Tryz.prog 118 #[v] w fun e w' => e = .returned (frV (sumF xs)) ∧ Bl w w' := by
  have iv := Tryz.mAddF
  obtain ⟨W, hW⟩ : ∃ W, W = w.alloc (.cells #[.int .i64 0, .int .i64 0, .bool false] 66) := ⟨_, rfl⟩
  have b0 : Bl w W := by rw [hW]; exact (Bl.refl _).alloc _
  have x0 : FBox W w.heap.size zeroR := by rw [hW]; exact FBox.new w zeroR _
  have HW := hideP hW
  clear hW
  rcases h with ⟨p, cap, rfl, rfl, hpn⟩ | ⟨b, o, cap, rfl, hc, hb, hx⟩
  · go_enter Tryz.func118, Tryz.ntmps118
    go_wp2_with fail
    rw [← HW.out]
    refine (vwholeF 0 _).mono ?_
    rintro e w1 ⟨rfl, h1⟩
    go_wp2_with fail
    go_loopw [9] (fun i wr => i = .int .i64 0 ∧ FBox wr w1.heap.size (sumF []) ∧ FBox wr w.heap.size zeroR ∧ Bl w wr) (fun i _ => 0)
    case atStart => exact ⟨rfl, FBox.new w1 (newR 0 1) _, (x0.later h1).later ((Bl.refl _).alloc _), (b0.trans h1).alloc _⟩
    case round =>
      obtain ⟨rfl, bs, bz, bl⟩ := hrel
      obtain ⟨c0, c1, c2, f0, f1, f2, lt⟩ := bs
      obtain ⟨d0, d1, d2, g0, g1, g2, zlt⟩ := bz
      go_wp2
      simp [bodyPost, results, Tryz.results118, go_sem, d0, d1, d2]
      exact Bl.set3 bl (Nat.le_refl _) _ _ _
  · have HX := hideP hx
    clear hx
    go_enter Tryz.func118, Tryz.ntmps118
    go_wp2_with fail
    rw [← HW.out]
    refine (vwholeF 0 _).mono ?_
    rintro e w1 ⟨rfl, h1⟩
    generalize hz : (newR 0 1) = z at *
    go_wp2_with fail
    go_loopw [9] (fun i wr => ∃ k : Nat, i = .int .i64 k ∧ k ≤ xs.length ∧ FBox wr w1.heap.size (sumF (xs.take k)) ∧ FBox wr w.heap.size zeroR ∧ Bl w wr) (fun i _ => xs.length - (intOf i).toNat)
    case atStart =>
      refine ⟨0, rfl, Nat.zero_le _, ?_, (x0.later h1).later ((Bl.refl _).alloc _), (b0.trans h1).alloc _⟩
      have : sumF (xs.take 0) = z := by rw [← hz]; rfl
      rw [this]
      exact FBox.new w1 z _
    case round =>
      obtain ⟨k, rfl, hk, bs, bz, bl⟩ := hrel
      by_cases hlt : k < xs.length
      · obtain ⟨x, hx⟩ : ∃ x, xs[k]? = some x := ⟨_, List.getElem?_eq_getElem hlt⟩
        obtain ⟨c0, c1, c2, f0, f1, f2, lt⟩ := bs
        have CX : ∀ j u, (cellsF x)[j]? = some u → wr.cell? ⟨b, o + k * 3 + j, none⟩ = some u := fun j u hu => (bl_cell bl _ _ hb).trans (HX.out k x hx j u hu)
        have y0 : wr.cell? ⟨b, o + k * 3, none⟩ = some (.int .i64 x.n) := CX 0 _ rfl
        have y1 : wr.cell? ⟨b, o + k * 3 + 1, none⟩ = some (.int .i64 x.d) := CX 1 _ rfl
        have y2 : wr.cell? ⟨b, o + k * 3 + 2, none⟩ = some (.bool x.bad) := CX 2 _ rfl
        clear CX
        go_wp2_with fail
        refine (radd_any _ _ _).mono ?_
        rintro e w2 ⟨rfl, h2⟩
        have bl2 : Bl wr w2 := ((Bl.refl _).alloc _).trans h2
        have bs2 := (⟨c0, c1, c2, f0, f1, f2, lt⟩ : FBox wr w1.heap.size (sumF (xs.take k))).later bl2
        have bz2 := bz.later bl2
        clear c0 c1 c2 f0 f1 f2 y0 y1 y2
        obtain ⟨c0, c1, c2, f0, f1, f2, lt2⟩ := id bs2
        have SN := hideP (sumF_snoc xs k x hx)
        generalize hS : addR (sumF (xs.take k)) x = S at *
        go_wp2
        go_roundw
        case rel =>
          refine ⟨k + 1, by simp, hlt, ?_, ?_, ?_⟩
          · rw [SN.out]; exact bs2.fill S
          · exact bz2.oth (by have := b0.size; have := h1.size; have := x0.lt; omega) _ _ _
          · exact Bl.set3 (bl.trans bl2) (by have := b0.size; have := h1.size; omega) _ _ _
        case measure => simp [intOf]; omega
      · have hk' : k = xs.length := by omega
        subst hk'
        rw [List.take_length] at bs
        obtain ⟨c0, c1, c2, f0, f1, f2, lt⟩ := bs
        obtain ⟨d0, d1, d2, g0, g1, g2, zlt⟩ := bz
        go_wp2
        simp [bodyPost, results, Tryz.results118, go_sem, d0, d1, d2]
        exact Bl.set3 bl (Nat.le_refl _) _ _ _

/-- The relation behind an append of one number. -/
theorem ownF_step {w wr w1 : World} {v v' : Value} {xs : List Fr} {x : Fr} {o : Obj} (hb : Bl w wr) (hown : wr.ownsRow w.heap.size 66 3 v xs.length (xs.flatMap cellsF))
    (hown' : w1.ownsRow w.heap.size 66 3 v' (xs.length + 1) (xs.flatMap cellsF ++ cellsF x)) (hg : (wr.alloc o).grownBy w1 v.ownBlock) :
    Bl w w1 ∧ w1.ownsRow w.heap.size 66 3 v' (xs ++ [x]).length ((xs ++ [x]).flatMap cellsF) := by
  refine ⟨Below.grown (Below.alloc hb hb.size o) hg (by have := hb.size; simp; omega) (fun k hk => (hown.lt k hk).1), ?_⟩
  simpa [List.flatMap_append] using hown'
/-- What is owned is so behind a call that turns nothing. -/
theorem own_blF {w w' : World} {B n : Nat} {v : Value} {l : List Value} (h : w.ownsRow B 66 3 v n l) (k : Bl w w') : w'.ownsRow B 66 3 v n l := by
  refine ⟨h.1, ?_⟩
  rcases h.2 with hn | ⟨g, cap, cur, rfl, hb, hg, rest⟩
  · exact .inl hn
  · exact .inr ⟨g, cap, cur, rfl, hb, (Below.block k g (Array.getElem?_eq_some_iff.1 hg).1).trans hg, rest⟩
/-- As ownF_step, of a row that lies at or beyond n₀. -/
theorem ownF_step' {n₀ : Nat} {w wr w1 : World} {v v' : Value} {xs : List Fr} {x : Fr} {o : Obj} (hb : Bl w wr) (hn : w.heap.size ≤ n₀) (hown : wr.ownsRow n₀ 66 3 v xs.length (xs.flatMap cellsF))
    (hown' : w1.ownsRow n₀ 66 3 v' (xs.length + 1) (xs.flatMap cellsF ++ cellsF x)) (hg : (wr.alloc o).grownBy w1 v.ownBlock) :
    Bl w w1 ∧ w1.ownsRow n₀ 66 3 v' (xs ++ [x]).length ((xs ++ [x]).flatMap cellsF) := by
  refine ⟨Below.grown (Below.alloc hb hb.size o) hg (by have := hb.size; simp; omega) (fun k hk => by have := (hown.lt k hk).1; omega), ?_⟩
  simpa [List.flatMap_append] using hown'
/-- A number's block that lies below n₀ abides an append to a row that lies at or beyond it. -/
theorem FBox.grown {n₀ n p : Nat} {w wr w1 : World} {v : Value} {l : List Value} {x : Fr} (h : FBox w p x) (hb : Bl w wr) (hown : w.ownsRow n₀ 66 3 v n l) (hg : wr.grownBy w1 v.ownBlock) (hp : p < n₀) : FBox w1 p x := by
  have h' := h.later hb
  have hk : w1.heap[p]? = wr.heap[p]? := hg.block p h'.lt (fun e => by have := (hown.lt p e.symm).1; omega)
  obtain ⟨c0, c1, c2, f0, f1, f2, lt⟩ := h'
  exact ⟨(World.cell?_of_block (a := ⟨p, 0, none⟩) hk).trans c0, (World.cell?_of_block (a := ⟨p, 1, none⟩) hk).trans c1, (World.cell?_of_block (a := ⟨p, 2, none⟩) hk).trans c2, (World.frozen?_of_block (a := ⟨p, 0, none⟩) hk).trans f0, (World.frozen?_of_block (a := ⟨p, 1, none⟩) hk).trans f1, (World.frozen?_of_block (a := ⟨p, 2, none⟩) hk).trans f2, by have := hg.size; omega⟩
/-- The cells of a number that was just laid. -/
theorem newF_cells (w : World) (x : Fr) (t : TypeId) : ∀ j u, (cellsF x)[j]? = some u → (w.alloc (.cells #[.int .i64 x.n, .int .i64 x.d, .bool x.bad] t)).cell? ((⟨w.heap.size, 0, none⟩ : Addr).add j) = some u := by
  intro j u hu
  have hadd : (⟨w.heap.size, 0, none⟩ : Addr).add j = ⟨w.heap.size, j, none⟩ := by unfold Addr.add; split <;> simp_all
  rw [hadd]
  have h := FBox.new w x t
  unfold cellsF at hu
  rcases j with _ | _ | _ | j
  · simp at hu; rw [← hu]; exact h.c0
  · simp at hu; rw [← hu]; exact h.c1
  · simp at hu; rw [← hu]; exact h.c2
  · simp at hu
theorem oneF_cells (x : Fr) : ∀ u ∈ cellsF x, u.oneCell' = true := by
  intro u hu
  unfold cellsF at hu
  simp only [List.mem_cons, List.not_mem_nil, or_false] at hu
  rcases hu with rfl | rfl | rfl <;> rfl

/-- Whole numbers, of this kind. -/
def wholeF (n : Int) : Fr := newR n 1
set_option maxHeartbeats 1000000 in
theorem vWholeF' (v : Value) (ns : List Int) (w : World) (h : Rq 1 (fun n => [.int .i64 n]) w v ns) (hl : ns.length ≤ 1000000) :
    Calls Tryz.prog 31 #[v] w fun e w' => ∃ u, e = .returned u ∧ Rw 3 cellsF w' u (ns.map wholeF) ∧ Fresh w.heap.size u ∧ Bl w w' := by
  obtain ⟨i0, hi, hz0, hz1, hz2⟩ := info_parts Tryz.info_F
  rcases h with ⟨p, cap, rfl, rfl, hpn⟩ | ⟨b, o, cap, rfl, hc, hb, hx⟩
  · go_enter Tryz.func31, Tryz.ntmps31
    go_wp2_with (at_make; refine wpList_make_own _ rfl _ _ 60 rfl w.heap.size 66 i0 (.agg #[.int .i64 0, .int .i64 0, .bool false]) 3 Tryz.underlying60 hi hz0 hz1 .i64 .i64 _ 0 rfl rfl (by simp) (by rw [hz2]; omega) (by unfold maxLen; omega) (Nat.le_refl _) ?_; intro w0 hown0 hgrow0)
    have hB0 : Bl w w0 := (Bl.refl w).grown hgrow0 (by omega) (fun k e => by cases e)
    go_loopw [3, 11] (fun v i wr => i = .int .i64 0 ∧ wr.ownsRow w.heap.size 66 3 v 0 [] ∧ Bl w wr) (fun _ _ _ => 0)
    case atStart => exact ⟨rfl, hown0, hB0⟩
    case round =>
      obtain ⟨rfl, hown, hB⟩ := hrel
      go_wp2
      go_ret
      exact ⟨_, rfl, Rw.of_own cellsF_len (xs := []) hown, fun g hg => (hown.lt g hg).1, hB⟩
  · have HX := hideP hx
    clear hx
    go_enter Tryz.func31, Tryz.ntmps31
    go_wp2_with (at_make; refine wpList_make_own _ rfl _ _ 60 rfl w.heap.size 66 i0 (.agg #[.int .i64 0, .int .i64 0, .bool false]) 3 Tryz.underlying60 hi hz0 hz1 .i64 .i64 _ ns.length rfl rfl (by simp) (by rw [hz2]; omega) (by unfold maxLen; omega) (Nat.le_refl _) ?_; intro w0 hown0 hgrow0)
    have hB0 : Bl w w0 := (Bl.refl w).grown hgrow0 (by omega) (fun k e => by cases e)
    go_loopw [3, 11] (fun v i wr => ∃ k : Nat, i = .int .i64 k ∧ k ≤ ns.length ∧ wr.ownsRow w.heap.size 66 3 v ((ns.take k).map wholeF).length (((ns.take k).map wholeF).flatMap cellsF) ∧ Bl w wr) (fun _ i _ => ns.length - (intOf i).toNat)
    case atStart => exact ⟨0, rfl, Nat.zero_le _, hown0, hB0⟩
    case round =>
      obtain ⟨k, rfl, hk, hown, hB⟩ := hrel
      by_cases hlt : k < ns.length
      · obtain ⟨x, hx⟩ : ∃ x, ns[k]? = some x := ⟨_, List.getElem?_eq_getElem hlt⟩
        have y0 : wr.cell? ⟨b, o + k, none⟩ = some (.int .i64 x) := by
          have := (bl_cell hB _ _ hb).trans (HX.out k x hx 0 _ rfl)
          simpa using this
        have hT : (ns.take (k + 1)).map wholeF = (ns.take k).map wholeF ++ [wholeF x] := by rw [List.take_add_one, hx]; simp
        have hkl : ((ns.take k).map wholeF).length = k := by simp; omega
        have HK := hideP hkl
        clear hkl
        have HT := hideP hT
        clear hT
        generalize hys : (ns.take k).map wholeF = ys at *
        clear hys
        go_wp2_with fail
        refine (vwholeF x _).mono ?_
        rintro e w2 ⟨rfl, h2⟩
        have hr : wholeF x = (newR x 1) := rfl
        generalize (newR x 1) = r at *
        rw [hr] at HT
        clear hr y0
        replace hown := own_blF hown h2
        replace hB := hB.trans h2
        have hkk := HK.out
        go_wp2_with (at_builtin; refine wpList_append_own _ rfl _ _ 60 rfl w.heap.size 66 i0 (.agg #[.int .i64 0, .int .i64 0, .bool false]) 3 24 Tryz.underlying60 hi hz0 hz1 hz2 rfl (by decide) _ _ _ rfl (hown.alloc _) ⟨_, 0, none⟩ 1 1 (cellsF r) rfl rfl (newF_cells _ _ _) (oneF_cells _) (by unfold maxLen; omega) (by omega) (by have := hB.size; simp; omega) ?_; intro v' w1 hown' hgrow _)
        have R := ownF_step hB hown hown' hgrow
        clear hown hown' hgrow
        go_wp2
        go_roundw
        case rel => exact ⟨k + 1, by simp, hlt, by rw [HT.out]; exact R.2, R.1⟩
        case measure => simp [intOf]; omega
      · have hk' : k = ns.length := by omega
        subst hk'
        rw [List.take_length] at hown
        have R := hideP (Rw.of_own cellsF_len hown)
        have FR := hideP (show Fresh w.heap.size _ from fun g hg => (hown.lt g hg).1)
        clear hown
        go_wp2
        go_ret
        exact ⟨_, rfl, R.out, FR.out, hB⟩
theorem vWholeF (v : Value) (ns : List Int) (w : World) (h : Rq 1 (fun n => [.int .i64 n]) w v ns) (hl : ns.length ≤ 1000000) :
    Calls Tryz.prog 31 #[v] w fun e w' => ∃ u, e = .returned u ∧ Rw 3 cellsF w' u (ns.map wholeF) ∧ Bl w w' :=
  (vWholeF' v ns w h hl).mono fun _ _ ⟨u, h1, h2, _, h3⟩ => ⟨u, h1, h2, h3⟩
end Go.Proofs.YtlbmkjicbkfmjaaGreat

/- Contracts of vec's Scale, Clone, and of what is done of a pair, of fractions (layer 5). Written by genVe.py. -/
namespace Go.Proofs.YtlbmkjicbkfmjaaGreat
open Go.RowKit
set_option linter.unusedSimpArgs false
set_option linter.unusedVariables false

set_option maxHeartbeats 1000000 in
theorem vScaleF (v : Value) (xs : List Fr) (by_ : Fr) (w : World) (h : Rw 3 cellsF w v xs) (hl : xs.length ≤ 1000000) :
    Calls Tryz.prog 79 #[v, frV by_] w fun e w' => ∃ u, e = .returned u ∧ Rw 3 cellsF w' u (xs.map fun x => mulR x by_) ∧ Bl w w' := by
  have iv := Tryz.mMulF
  obtain ⟨i0, hi, hz0, hz1, hz2⟩ := info_parts Tryz.info_F
  have x0 := FBox.new w by_ 66
  rcases h with ⟨rfl, rfl⟩ | ⟨b, o, cap, rfl, hc, hb, hx⟩
  · go_enter Tryz.func79, Tryz.ntmps79
    go_wp2_with (at_make; refine wpList_make_own _ rfl _ _ 60 rfl w.heap.size 66 i0 (.agg #[.int .i64 0, .int .i64 0, .bool false]) 3 Tryz.underlying60 hi hz0 hz1 .i64 .i64 _ 0 rfl rfl (by simp) (by rw [hz2]; omega) (by unfold maxLen; omega) (by simp) ?_; intro w0 hown0 hgrow0)
    rw [World.size_alloc] at hown0
    have hB0 : Bl w w0 := Below.grown (Below.alloc (Bl.refl w) (Nat.le_refl _) _) hgrow0 (by simp) (fun k e => by cases e)
    go_loopw [5, 13] (fun v i wr => i = .int .i64 0 ∧ wr.ownsRow w.heap.size 66 3 v 0 [] ∧ Bl w wr) (fun _ _ _ => 0)
    case atStart => exact ⟨rfl, hown0, hB0⟩
    case round =>
      obtain ⟨rfl, hown, hB⟩ := hrel
      go_wp2
      go_ret
      exact ⟨_, rfl, Rw.of_own cellsF_len (xs := []) hown, hB⟩
  · have HX := hideP hx
    clear hx
    go_enter Tryz.func79, Tryz.ntmps79
    go_wp2_with (at_make; refine wpList_make_own _ rfl _ _ 60 rfl (w.heap.size + 1) 66 i0 (.agg #[.int .i64 0, .int .i64 0, .bool false]) 3 Tryz.underlying60 hi hz0 hz1 .i64 .i64 _ xs.length rfl rfl (by simp) (by rw [hz2]; omega) (by unfold maxLen; omega) (by simp) ?_; intro w0 hown0 hgrow0)
    rw [World.size_alloc] at hown0
    have hB1 : Bl (w.alloc (.cells #[.int .i64 by_.n, .int .i64 by_.d, .bool by_.bad] 66)) w0 := Below.grown (Bl.refl _) hgrow0 (Nat.le_refl _) (fun k e => by cases e)
    have hB0 : Bl w w0 := ((Bl.refl w).alloc _).trans hB1
    go_loopw [5, 13] (fun v i wr => ∃ k : Nat, i = .int .i64 k ∧ k ≤ xs.length ∧ FBox wr w.heap.size by_ ∧ wr.ownsRow (w.heap.size + 1) 66 3 v ((xs.take k).map fun x => mulR x by_).length (((xs.take k).map fun x => mulR x by_).flatMap cellsF) ∧ Bl w wr) (fun _ i _ => xs.length - (intOf i).toNat)
    case atStart => exact ⟨0, rfl, Nat.zero_le _, x0.later hB1, hown0, hB0⟩
    case round =>
      obtain ⟨k, rfl, hk, bx, hown, hB⟩ := hrel
      by_cases hlt : k < xs.length
      · obtain ⟨x, hx⟩ : ∃ x, xs[k]? = some x := ⟨_, List.getElem?_eq_getElem hlt⟩
        have CX : ∀ j u, (cellsF x)[j]? = some u → wr.cell? ⟨b, o + k * 3 + j, none⟩ = some u := fun j u hu => (bl_cell hB _ _ hb).trans (HX.out k x hx j u hu)
        have y0 : wr.cell? ⟨b, o + k * 3, none⟩ = some (.int .i64 x.n) := CX 0 _ rfl
        have y1 : wr.cell? ⟨b, o + k * 3 + 1, none⟩ = some (.int .i64 x.d) := CX 1 _ rfl
        have y2 : wr.cell? ⟨b, o + k * 3 + 2, none⟩ = some (.bool x.bad) := CX 2 _ rfl
        clear CX
        obtain ⟨c0, c1, c2, f0, f1, f2, lt⟩ := id bx
        have HT := hideP (show (xs.take (k + 1)).map (fun x => mulR x by_) = (xs.take k).map (fun x => mulR x by_) ++ [mulR x by_] by rw [List.take_add_one, hx]; simp)
        have HK := hideP (show ((xs.take k).map fun x => mulR x by_).length = k by simp; omega)
        generalize hys : (xs.take k).map (fun x => mulR x by_) = ys at *
        clear hys
        go_wp2_with fail
        refine (rmul_any _ _ _).mono ?_
        rintro e w2 ⟨rfl, h2⟩
        have bl2 : Bl wr w2 := ((Bl.refl _).alloc _).trans h2
        generalize mulR x by_ = r at *
        clear y0 y1 y2 c0 c1 c2
        replace hown := own_blF hown bl2
        replace hB := hB.trans bl2
        have bx2 := bx.later bl2
        have hkk := HK.out
        go_wp2_with (at_builtin; refine wpList_append_own _ rfl _ _ 60 rfl (w.heap.size + 1) 66 i0 (.agg #[.int .i64 0, .int .i64 0, .bool false]) 3 24 Tryz.underlying60 hi hz0 hz1 hz2 rfl (by decide) _ _ _ rfl (hown.alloc _) ⟨_, 0, none⟩ 1 1 (cellsF r) rfl rfl (newF_cells _ _ _) (oneF_cells _) (by unfold maxLen; omega) (by omega) (by have := bx2.lt; simp; omega) ?_; intro v' w1 hown' hgrow _)
        have R := ownF_step' (n₀ := w.heap.size + 1) hB (by omega) hown hown' hgrow
        have bx3 := bx2.grown ((Bl.refl _).alloc _) hown hgrow (by omega)
        clear hown hown' hgrow
        go_wp2
        go_roundw
        case rel => exact ⟨k + 1, by simp, hlt, bx3, by rw [HT.out]; exact R.2, R.1⟩
        case measure => simp [intOf]; omega
      · have hk' : k = xs.length := by omega
        subst hk'
        rw [List.take_length] at hown
        have R := hideP (Rw.of_own cellsF_len hown)
        clear hown
        go_wp2
        go_ret
        exact ⟨_, rfl, R.out, hB⟩

theorem dAddF (a b : Fr) (w : World) :
    Calls Tryz.prog 121 #[frV a, frV b] w fun e w' => e = .returned (frV (addR a b)) ∧ Bl w w' := by
  have iv := Tryz.mAddF
  obtain ⟨W, X⟩ := threeR_ex w a b
  have T := hideP (radd_any a b)
  have HX := hideP X
  clear X
  generalize addR a b = r at *
  go_enter Tryz.func121, Tryz.ntmps121
  go_wp2_with fail
  rw [← HX.out.eq]
  refine (T.out _).mono ?_
  rintro e w1 ⟨rfl, h1⟩
  obtain ⟨c0, c1, c2, f0, f1, f2, lt⟩ := HX.out.bz.later h1
  clear iv
  go_wp2
  simp [bodyPost, results, Tryz.results121, go_sem, c0, c1, c2]
  exact Bl.set3 (HX.out.bl.trans h1) (by omega) _ _ _

theorem dSubF (a b : Fr) (w : World) :
    Calls Tryz.prog 177 #[frV a, frV b] w fun e w' => e = .returned (frV (subR a b)) ∧ Bl w w' := by
  have iv := Tryz.mSubF
  obtain ⟨W, X⟩ := threeR_ex w a b
  have T := hideP (rsub_any a b)
  have HX := hideP X
  clear X
  generalize subR a b = r at *
  go_enter Tryz.func177, Tryz.ntmps177
  go_wp2_with fail
  rw [← HX.out.eq]
  refine (T.out _).mono ?_
  rintro e w1 ⟨rfl, h1⟩
  obtain ⟨c0, c1, c2, f0, f1, f2, lt⟩ := HX.out.bz.later h1
  clear iv
  go_wp2
  simp [bodyPost, results, Tryz.results177, go_sem, c0, c1, c2]
  exact Bl.set3 (HX.out.bl.trans h1) (by omega) _ _ _

theorem dMulF (a b : Fr) (w : World) :
    Calls Tryz.prog 120 #[frV a, frV b] w fun e w' => e = .returned (frV (mulR a b)) ∧ Bl w w' := by
  have iv := Tryz.mMulF
  obtain ⟨W, X⟩ := threeR_ex w a b
  have T := hideP (rmul_any a b)
  have HX := hideP X
  clear X
  generalize mulR a b = r at *
  go_enter Tryz.func120, Tryz.ntmps120
  go_wp2_with fail
  rw [← HX.out.eq]
  refine (T.out _).mono ?_
  rintro e w1 ⟨rfl, h1⟩
  obtain ⟨c0, c1, c2, f0, f1, f2, lt⟩ := HX.out.bz.later h1
  clear iv
  go_wp2
  simp [bodyPost, results, Tryz.results120, go_sem, c0, c1, c2]
  exact Bl.set3 (HX.out.bl.trans h1) (by omega) _ _ _

end Go.Proofs.YtlbmkjicbkfmjaaGreat

/- Contracts of vec's Clone, Pairs, of fractions (layer 5). Written by genVe.py. -/
namespace Go.Proofs.YtlbmkjicbkfmjaaGreat
open Go.RowKit
set_option linter.unusedSimpArgs false
set_option linter.unusedVariables false

theorem Tryz.nil0F (w : World) : (binOp .eql 60 (.slice none 0 0) (.slice none 0 0)).run Tryz.prog w = .ok (.bool true) w := by kernel_rfl
theorem Tryz.nil1F (a : Addr) (n cap : Nat) (w : World) : (binOp .eql 60 (.slice (some a) n cap) (.slice none 0 0)).run Tryz.prog w = .ok (.bool false) w := by kernel_rfl
set_option maxHeartbeats 1000000 in
theorem vCloneF (v : Value) (xs : List Fr) (w : World) (h : Rq 3 cellsF w v xs) (hl : xs.length ≤ 1000000) :
    Calls Tryz.prog 98 #[v] w fun e w' => ∃ u, e = .returned u ∧ Rw 3 cellsF w' u xs ∧ Fresh w.heap.size u ∧ Bl w w' := by
  have n0 := Tryz.nil0F
  have n1 := Tryz.nil1F
  obtain ⟨i0, hi, hz0, hz1, hz2⟩ := info_parts Tryz.info_F
  rcases h with ⟨p, cap, rfl, rfl, hpn⟩ | ⟨b, o, cap, rfl, hc, hb, hx⟩
  · rcases p with _ | ad
    · obtain rfl := hpn rfl
      go_enter Tryz.func98, Tryz.ntmps98
      go_wp2
      go_ret
      exact ⟨_, rfl, .inl ⟨rfl, rfl⟩, nofun, Bl.refl _⟩
    · clear n0
      go_enter Tryz.func98, Tryz.ntmps98
      go_wp2_with (at_builtin; refine wpList_append_own _ rfl _ _ 60 rfl w.heap.size 66 i0 (.agg #[.int .i64 0, .int .i64 0, .bool false]) 3 24 Tryz.underlying60 hi hz0 hz1 hz2 rfl (by decide) _ 0 [] rfl (World.ownsRow_made w #[] 0 (Nat.le_refl _) (by decide) rfl) ad 0 cap [] rfl (by simp) nofun nofun (by unfold maxLen; omega) (by omega) (by simp) ?_; intro v' w1 hown' hgrow _)
      have R := hideP (Rw.of_own (xs := []) cellsF_len (by simpa using hown'))
      have FR := hideP (show Fresh w.heap.size v' from fun g hg => (hown'.lt g hg).1)
      have hB : Bl w w1 := Below.grown (Below.alloc (Bl.refl w) (Nat.le_refl _) _) hgrow (by simp) (fun k e => by cases e; exact Nat.le_refl _)
      clear hown' hgrow
      go_wp2
      go_ret
      exact ⟨_, rfl, R.out, FR.out, hB⟩
  · have HX := hideP hx
    clear hx n0
    go_enter Tryz.func98, Tryz.ntmps98
    go_wp2_with (at_builtin; refine wpList_append_own _ rfl _ _ 60 rfl w.heap.size 66 i0 (.agg #[.int .i64 0, .int .i64 0, .bool false]) 3 24 Tryz.underlying60 hi hz0 hz1 hz2 rfl (by decide) _ 0 [] rfl (World.ownsRow_made w #[] 0 (Nat.le_refl _) (by decide) rfl) ⟨b, o, none⟩ xs.length cap (xs.flatMap cellsF) rfl (flat_len cellsF_len xs) (flat_cells cellsF_len ((Rw_cells_later HX.out hb ((Bl.refl _).alloc _)))) (flat_one oneF_cells xs) (by unfold maxLen; omega) (by omega) (by simp) ?_; intro v' w1 hown' hgrow _)
    have R := hideP (Rw.of_own (xs := xs) cellsF_len (by simpa using hown'))
    have FR := hideP (show Fresh w.heap.size v' from fun g hg => (hown'.lt g hg).1)
    have hB : Bl w w1 := Below.grown (Below.alloc (Bl.refl w) (Nat.le_refl _) _) hgrow (by simp) (fun k e => by cases e; exact Nat.le_refl _)
    clear hown' hgrow
    go_wp2
    go_ret
    exact ⟨_, rfl, R.out, FR.out, hB⟩
end Go.Proofs.YtlbmkjicbkfmjaaGreat

/- Contracts of vec's Pairs, of fractions (layer 5). Written by genVe.py. -/
namespace Go.Proofs.YtlbmkjicbkfmjaaGreat
open Go.RowKit
set_option linter.unusedSimpArgs false
set_option linter.unusedVariables false

theorem Tryz.cutF (p : Option Addr) (n cap m : Nat) (w : World) (h : m ≤ cap) : (Instr.sliceAt 60 (.slice p n cap) none (some (.int .i64 m)) none).run Tryz.prog w = .ok (.slice p m cap) w := by
  have hu : Tryz.prog.underlying 60 = some (.slice (Tryz.prog.elem 60)) := by kernel_rfl
  obtain ⟨i0, hi, hz0, hz1, hz2⟩ := info_parts Tryz.info_F
  have he : Tryz.prog.elem 60 = 66 := by kernel_rfl
  rw [run_sliceAt_slice (h := hu), run_slice_h (ht := hu) (h0 := by omega) (h2 := by omega), he]
  have e0 : p.map (fun a => a.add 0) = p := by cases p <;> simp [Addr.add]
  simp [sizeOf, typeInfo, hi, sliced, e0, Result.andThen]
theorem cloneF_cut {p : Option Addr} {cap : Nat} {xs : List Fr} {w W : World} (hb : Bl w W) (CA : ∀ m, m ≤ xs.length → Rq 3 cellsF w (.slice p m cap) (xs.take m)) (hl : xs.length ≤ 1000000) :
    ∀ m, m ≤ xs.length → ∀ u, Bl W u → Calls Tryz.prog 98 #[.slice p m cap] u fun e w' => ∃ p1 k1, e = .returned (.slice p1 m k1) ∧ (Rw 3 cellsF w' (.slice p1 m k1) (xs.take m) ∧ Fresh u.heap.size (.slice p1 m k1)) ∧ Bl u w' := by
  intro m h u hu
  refine (vCloneF (.slice p m cap) (xs.take m) u ((CA m h).later (hb.trans hu)) (by simp; omega)).mono ?_
  rintro e w' ⟨v, rfl, hr, hf, hbl⟩
  obtain ⟨p1, k1, rfl, _, _⟩ := hr.cut
  have hl' : (xs.take m).length = m := by simp; omega
  rw [hl'] at hr hf ⊢
  exact ⟨p1, k1, rfl, ⟨hr, hf⟩, hbl⟩
set_option maxHeartbeats 1000000 in
theorem vPairsF (va vb : Value) (xs ys : List Fr) (w : World) (ha : Rq 3 cellsF w va xs) (hb : Rq 3 cellsF w vb ys) (hl : xs.length ≤ 1000000) (hm : ys.length ≤ 1000000) :
    Calls Tryz.prog 159 #[va, vb] w fun e w' => e = .returned (.func (.func 176) #[] #[.pointer (some ⟨w.heap.size, 0, none⟩), .pointer (some ⟨w.heap.size + 1, 0, none⟩)]) ∧
      PairsIn 3 cellsF w' w.heap.size w'.heap.size w.heap.size (w.heap.size + 1) (xs.take (min xs.length ys.length)) (ys.take (min xs.length ys.length)) ∧ Bl w w' := by
  obtain ⟨p, cap, rfl, hc, CA⟩ := ha.cut
  obtain ⟨q, dap, rfl, hd, CB⟩ := hb.cut
  obtain ⟨W, X⟩ := twoS_ex w (.slice p xs.length cap) (.slice q ys.length dap) 60
  have HX := hideP X
  have sl1 := fun m u (h : m ≤ cap) => Tryz.cutF p xs.length cap m u h
  have sl2 := fun m u (h : m ≤ dap) => Tryz.cutF q ys.length dap m u h
  have HA := hideP (cloneF_cut X.bl CA hl)
  have HB := hideP (cloneF_cut X.bl CB hm)
  clear CA CB ha hb X
  by_cases hlt : ys.length < xs.length
  · rw [show min xs.length ys.length = ys.length by omega]
    have A := hideP (HA.out ys.length (by omega))
    have B := hideP (HB.out ys.length (by omega))
    have s1 := fun u => sl1 ys.length u (by omega)
    have s2 := fun u => sl2 ys.length u (by omega)
    have hm0 : min (xs.length : Int) (ys.length : Int) = (ys.length : Int) := by omega
    clear HA HB sl1 sl2
    go_enter Tryz.func159, Tryz.ntmps159
    go_wp2_with fail
    rw [← HX.out.eq]
    obtain ⟨c0, c1, f0, f1⟩ := HX.out.k _ ((Bl.refl _).drew)
    go_region_with (first
      | (go_at_call_of 98 #[Value.slice p ys.length cap]; refine (A.out _ ((Bl.refl _).drew)).mono ?_; rintro e w1 ⟨p1, k1, rfl, R1, h1⟩; obtain ⟨d0, d1, g0, g1⟩ := HX.out.k _ (((Bl.refl _).drew).trans h1))
      | (go_at_call_of 98 #[Value.slice q ys.length dap]; refine (B.out _ (((Bl.refl _).drew).trans h1)).mono ?_; rintro e w2 ⟨p2, k2, rfl, R2, h2⟩; obtain ⟨e0, e1, l0, l1⟩ := HX.out.k _ ((((Bl.refl _).drew).trans h1).trans h2)))
    all_goals
      clear c0 c1 f0 f1 d0 d1 g0 g1 s1 s2 A B
      go_wp2
      go_ret
      refine ⟨rfl, ?_, ?_⟩
      · have hs := HX.out.size
        have h1s := Below.size h1
        have h2s := Below.size h2
        have hd : W.drew.heap.size = W.heap.size := rfl
        have q1 : Rw 3 cellsF ((w2.setCell ⟨w.heap.size, 0, none⟩ (.slice p1 ys.length k1)).setCell ⟨w.heap.size + 1, 0, none⟩ (.slice p2 ys.length k2)) (.slice p1 ys.length k1) _ := ((R1.1.later h2).set _ (fun g hg => by have := R1.2 g hg; show w.heap.size + 1 ≤ g; omega)).set _ (fun g hg => by have := R1.2 g hg; show w.heap.size + 1 + 1 ≤ g; omega)
        have q2 : Rw 3 cellsF ((w2.setCell ⟨w.heap.size, 0, none⟩ (.slice p1 ys.length k1)).setCell ⟨w.heap.size + 1, 0, none⟩ (.slice p2 ys.length k2)) (.slice p2 ys.length k2) _ := (R2.1.set _ (fun g hg => by have := R2.2 g hg; show w.heap.size + 1 ≤ g; omega)).set _ (fun g hg => by have := R2.2 g hg; show w.heap.size + 1 + 1 ≤ g; omega)
        refine ⟨_, _, Nat.le_refl _, by simp; omega, by omega, by simp; omega, ?_, ?_, q1, q2, fun g hg => ⟨by have := R1.2 g hg; omega, q1.lt g hg⟩, fun g hg => ⟨by have := R2.2 g hg; omega, q2.lt g hg⟩, by simp; omega⟩
        · simp [go_sem, e0, e1]
        · simp [go_sem, e0, e1]
      · exact Bl.set (Bl.set ((HX.out.bl.trans (((Bl.refl _).drew).trans h1)).trans h2) (Nat.le_refl _) _) (by show w.heap.size ≤ w.heap.size + 1; omega) _
  · rw [show min xs.length ys.length = xs.length by omega]
    have A := hideP (HA.out xs.length (by omega))
    have B := hideP (HB.out xs.length (by omega))
    have s1 := fun u => sl1 xs.length u (by omega)
    have s2 := fun u => sl2 xs.length u (by omega)
    have hm0 : min (xs.length : Int) (ys.length : Int) = (xs.length : Int) := by omega
    clear HA HB sl1 sl2
    go_enter Tryz.func159, Tryz.ntmps159
    go_wp2_with fail
    rw [← HX.out.eq]
    obtain ⟨c0, c1, f0, f1⟩ := HX.out.k _ ((Bl.refl _).drew)
    go_region_with (first
      | (go_at_call_of 98 #[Value.slice p xs.length cap]; refine (A.out _ ((Bl.refl _).drew)).mono ?_; rintro e w1 ⟨p1, k1, rfl, R1, h1⟩; obtain ⟨d0, d1, g0, g1⟩ := HX.out.k _ (((Bl.refl _).drew).trans h1))
      | (go_at_call_of 98 #[Value.slice q xs.length dap]; refine (B.out _ (((Bl.refl _).drew).trans h1)).mono ?_; rintro e w2 ⟨p2, k2, rfl, R2, h2⟩; obtain ⟨e0, e1, l0, l1⟩ := HX.out.k _ ((((Bl.refl _).drew).trans h1).trans h2)))
    all_goals
      clear c0 c1 f0 f1 d0 d1 g0 g1 s1 s2 A B
      go_wp2
      go_ret
      refine ⟨rfl, ?_, ?_⟩
      · have hs := HX.out.size
        have h1s := Below.size h1
        have h2s := Below.size h2
        have hd : W.drew.heap.size = W.heap.size := rfl
        have q1 : Rw 3 cellsF ((w2.setCell ⟨w.heap.size, 0, none⟩ (.slice p1 xs.length k1)).setCell ⟨w.heap.size + 1, 0, none⟩ (.slice p2 xs.length k2)) (.slice p1 xs.length k1) _ := ((R1.1.later h2).set _ (fun g hg => by have := R1.2 g hg; show w.heap.size + 1 ≤ g; omega)).set _ (fun g hg => by have := R1.2 g hg; show w.heap.size + 1 + 1 ≤ g; omega)
        have q2 : Rw 3 cellsF ((w2.setCell ⟨w.heap.size, 0, none⟩ (.slice p1 xs.length k1)).setCell ⟨w.heap.size + 1, 0, none⟩ (.slice p2 xs.length k2)) (.slice p2 xs.length k2) _ := (R2.1.set _ (fun g hg => by have := R2.2 g hg; show w.heap.size + 1 ≤ g; omega)).set _ (fun g hg => by have := R2.2 g hg; show w.heap.size + 1 + 1 ≤ g; omega)
        refine ⟨_, _, Nat.le_refl _, by simp; omega, by omega, by simp; omega, ?_, ?_, q1, q2, fun g hg => ⟨by have := R1.2 g hg; omega, q1.lt g hg⟩, fun g hg => ⟨by have := R2.2 g hg; omega, q2.lt g hg⟩, by simp; omega⟩
        · simp [go_sem, e0, e1]
        · simp [go_sem, e0, e1]
      · exact Bl.set (Bl.set ((HX.out.bl.trans (((Bl.refl _).drew).trans h1)).trans h2) (Nat.le_refl _) _) (by show w.heap.size ≤ w.heap.size + 1; omega) _
end Go.Proofs.YtlbmkjicbkfmjaaGreat

/- Contracts of the function that vec's Pairs tells: an iterator over the pairs of two rows, of fractions (layer 5). Written by genVe.py. -/
namespace Go.Proofs.YtlbmkjicbkfmjaaGreat
open Go.RowKit Go.Shelf
set_option linter.unusedSimpArgs false
set_option linter.unusedVariables false
attribute [local go_sem] Oper.semAt_some
theorem Tryz.yieldF (l : Nat) (w : World) : (binOp .eql 198 (.func (.yield l) #[] #[]) .nilFunc).run Tryz.prog w = .ok (.bool false) w := by kernel_rfl
set_option maxRecDepth 100000 in
set_option maxHeartbeats 2000000 in
theorem iterF (n l A B lo hi : Nat) (xs ys : List Fr) (hl : xs.length ≤ 1000000) (J Jx : List (Fr × Fr) → World → Prop) (W : World) (hJ : AbidesFrom W.heap.size J) (hh : hi ≤ W.heap.size)
    (hY : ∀ pre x W1, J pre W1 → pre.length < xs.length → YieldAt Fence.wide (n - 1) Tryz.prog l #[frV x.1, frV x.2] W1 fun e W' =>
      (e = .returned (.bool true) ∧ J (pre ++ [x]) W' ∧ Span lo hi W1 W') ∨ (e = .returned (.bool false) ∧ Jx (pre ++ [x]) W'))
    (hP : PairsIn 3 cellsF W lo hi A B xs ys) (h0 : J [] W) :
    CallsIn Fence.wide n Tryz.prog 176 #[.func (.yield l) #[] #[], .pointer (some ⟨A, 0, none⟩), .pointer (some ⟨B, 0, none⟩)] W fun e W' => (∃ v, e = .returned v) ∧
      ((∃ zs, zs = xs.zip ys ∧ J zs W') ∨ (∃ pre, pre <+: xs.zip ys ∧ Jx pre W')) := by
  have yn := Tryz.yieldF l
  obtain ⟨u, v, a1, a2, b1, b2, cu, cv, ru, rv, fu, fv, hxy⟩ := hP
  rcases ru with ⟨rfl, rfl⟩ | ⟨b, o, cap, rfl, hc, hb, hx⟩
  · clear hY
    refine callsIn_of_wp Tryz.func176 rfl trivial ?_ rfl
    simp only [Tryz.ntmps176, List.size_toArray, List.length_cons, List.length_nil, Nat.reduceAdd, Nat.reduceSub, Array.replicate_succ, Array.replicate_zero, List.push_toArray, List.append_toArray, List.nil_append, List.cons_append]
    gi_wp2
    gi_loopw [10] (fun i wr => i = .int .i64 0 ∧ J [] wr) (fun _ _ => 0)
    case atStart => exact ⟨rfl, h0⟩
    case round =>
      obtain ⟨rfl, hJs⟩ := hrel
      gi_wp2
      go_end0
      exact ⟨⟨_, rfl⟩, .inl ⟨_, rfl, hJs⟩⟩
  · have hb' := fu b rfl
    have HX := hideP hx
    have HV := hideP rv
    have HXY := hideP hxy
    clear hx rv hxy
    refine callsIn_of_wp Tryz.func176 rfl trivial ?_ rfl
    simp only [Tryz.ntmps176, List.size_toArray, List.length_cons, List.length_nil, Nat.reduceAdd, Nat.reduceSub, Array.replicate_succ, Array.replicate_zero, List.push_toArray, List.append_toArray, List.nil_append, List.cons_append]
    gi_wp2
    gi_loopw [10] (fun i wr => ∃ k : Nat, k ≤ xs.length ∧ i = .int .i64 k ∧ J ((xs.zip ys).take k) wr ∧ Span lo hi W wr ∧ W.heap.size ≤ wr.heap.size)
      (fun i _ => xs.length - (intOf i).toNat)
    case atStart => exact ⟨0, Nat.zero_le _, rfl, h0, Span.refl _ _ _, Nat.le_refl _⟩
    case round =>
      obtain ⟨k, hk, rfl, hJs, hsp, hsz⟩ := hrel
      by_cases hlt : k < xs.length
      · obtain ⟨x, hx⟩ : ∃ x, xs[k]? = some x := ⟨_, List.getElem?_eq_getElem hlt⟩
        obtain ⟨y, hy⟩ : ∃ y, ys[k]? = some y := ⟨_, List.getElem?_eq_getElem (by have := HXY.out; omega)⟩
        rcases HV.out with ⟨rfl, e0⟩ | ⟨b', o', cap', rfl, hc', hbb, hy'⟩
        · have := HXY.out; rw [e0] at this; simp at this; rw [this] at hlt; simp at hlt
        have HY := hideP hy'
        have hb2 := fv b' rfl
        have hlt' : k < ys.length := by have := HXY.out; omega
        clear hy'
        have CX : ∀ j u, (cellsF x)[j]? = some u → wr.cell? ⟨b, o + k * 3 + j, none⟩ = some u := fun j u hu => (hsp.cell b _ hb'.1 hb'.2).trans (HX.out k x hx j u hu)
        have x0 : wr.cell? ⟨b, o + k * 3, none⟩ = some (.int .i64 x.n) := CX 0 _ rfl
        have x1 : wr.cell? ⟨b, o + k * 3 + 1, none⟩ = some (.int .i64 x.d) := CX 1 _ rfl
        have x2 : wr.cell? ⟨b, o + k * 3 + 2, none⟩ = some (.bool x.bad) := CX 2 _ rfl
        clear CX
        obtain ⟨V, hV⟩ : ∃ V, V = wr.alloc (.cells #[.int .i64 x.n, .int .i64 x.d, .bool x.bad] 66) := ⟨_, rfl⟩
        have bV : Bl wr V.drew := by rw [hV]; exact ((Bl.refl _).alloc _).drew
        have BX : FBox V.drew wr.heap.size x := by rw [hV]; exact (FBox.new wr x _).later ((Bl.refl _).drew)
        have sV : Span lo hi W V.drew := hsp.trans (bV.span (by omega))
        have jV : J ((xs.zip ys).take k) V.drew := by
          refine hJ _ _ _ none hJs ?_ nofun
          rw [hV]
          exact ⟨rfl, rfl, rfl, by simp, fun i hi _ => by have := (((Bl.refl wr).alloc (.cells #[.int .i64 x.n, .int .i64 x.d, .bool x.bad] 66)).drew).block i hi; exact this⟩
        have CY : ∀ j u, (cellsF y)[j]? = some u → V.drew.cell? ⟨b', o' + k * 3 + j, none⟩ = some u := fun j u hu => (sV.cell b' _ hb2.1 hb2.2).trans (HY.out k y hy j u hu)
        have y0 : V.drew.cell? ⟨b', o' + k * 3, none⟩ = some (.int .i64 y.n) := CY 0 _ rfl
        have y1 : V.drew.cell? ⟨b', o' + k * 3 + 1, none⟩ = some (.int .i64 y.d) := CY 1 _ rfl
        have y2 : V.drew.cell? ⟨b', o' + k * 3 + 2, none⟩ = some (.bool y.bad) := CY 2 _ rfl
        have yb : V.drew.cell? ⟨B, 0, none⟩ = some (.slice (some ⟨b', o', none⟩) ys.length cap') := (sV.cell B 0 b1 b2).trans cv
        obtain ⟨z0, z1, z2, _, _, _, _⟩ := BX
        have hlen : ((xs.zip ys).take k).length = k := by have := HXY.out; simp; omega
        obtain ⟨fn, tmps, assign, body, hyd, hR⟩ := hY _ (x, y) V.drew jV (by omega)
        dsimp only at hyd
        have HT := hideP (show (xs.zip ys).take (k + 1) = (xs.zip ys).take k ++ [(x, y)] by
          rw [List.take_add_one, (List.getElem?_zip_eq_some (z := (x, y))).2 ⟨hx, hy⟩]; rfl)
        have HW := hideP hV
        clear CY hV hJs
        gi_wp2
        rw [← HW.out]
        have hR2 : RoundIn Fence.wide (n - 1) Tryz.prog l fn tmps assign body V.drew fun e W' => ∃ r : Bool, e = .returned (.bool r) ∧ ((r = true ∧ J ((xs.zip ys).take k ++ [(x, y)]) W' ∧ Span lo hi V.drew W') ∨ (r = false ∧ Jx ((xs.zip ys).take k ++ [(x, y)]) W')) := by
          refine hR.mono ?_
          rintro e W' (⟨rfl, h1, h2⟩ | ⟨rfl, h1⟩)
          · exact ⟨true, rfl, .inl ⟨rfl, h1, h2⟩⟩
          · exact ⟨false, rfl, .inr ⟨rfl, h1⟩⟩
        have fm : Tryz.prog.follows .mixedOrders = true := by kernel_rfl
        gi_region_with_o (refine ⟨fun h => (by cases h), ?_⟩; refine hR2.mono ?_; rintro e W3 ⟨r, rfl, hr⟩)
        all_goals
          rcases hr with ⟨rfl, hJ3, hk3⟩ | ⟨rfl, hJx3⟩
          · gi_wp2
            go_roundw
            case rel => exact ⟨k + 1, by omega, by simp, by rw [HT.out]; exact hJ3, sV.trans hk3, by have := (bV.size); have := hk3.size; omega⟩
            case measure => simp [intOf]; omega
          · gi_wp2
            refine bodyPost_ret (results_none rfl _ _ _) rfl ?_
            exact ⟨⟨_, rfl⟩, .inr ⟨_, by rw [← HT.out]; exact List.take_prefix _ _, hJx3⟩⟩
      · have hk' : k = xs.length := by omega
        subst hk'
        have HJ := hideP hJs
        clear hJs
        gi_wp2
        go_end0
        refine ⟨⟨_, rfl⟩, .inl ⟨_, ?_, HJ.out⟩⟩
        have := HXY.out
        exact List.take_of_length_le (by rw [List.length_zip]; exact Nat.min_le_left _ _)
/-- Pairs' function as what a loop goes through: all pairs in their order, or the first ones, where a round has said that it is enough. -/
theorem seqF (n A B lo hi : Nat) (xs ys : List Fr) (hl : xs.length ≤ 1000000) (w : World) (hh : hi ≤ w.heap.size) (hP : PairsIn 3 cellsF w lo hi A B xs ys) :
    SeqStopsK Fence.wide n Tryz.prog 176 #[.pointer (some ⟨A, 0, none⟩), .pointer (some ⟨B, 0, none⟩)] (fun x : Fr × Fr => #[frV x.1, frV x.2]) (Span lo hi) (fun zs => zs = xs.zip ys) (fun pre => pre <+: xs.zip ys) xs.length w :=
  fun l J Jx W hW hJ _ hY h0 => iterF n l A B lo hi xs ys hl J Jx W hJ (Nat.le_trans hh hW.size) hY (hP.later (Bl.span hW hh)) h0
end Go.Proofs.YtlbmkjicbkfmjaaGreat

/- What is done of all pairs of two rows, of fractions: vec's each (layer 5). Written by genVe.py. -/
namespace Go.Proofs.YtlbmkjicbkfmjaaGreat
open Go.RowKit Go.Shelf
set_option linter.unusedSimpArgs false
set_option linter.unusedVariables false
attribute [local go_sem] Oper.semAt_some

theorem FBox.own {X Y : World} {b : Nat} {x : Fr} {row : Option Nat} (h : FBox X b x) (hg : X.grownBy Y row) (hr : ∀ r, row = some r → ∃ o : Obj, X.heap[r]? = some o ∧ o.isCells = false) : FBox Y b x :=
  ⟨cell_kept h.c0 hg hr, cell_kept h.c1 hg hr, cell_kept h.c2 hg hr, (frozen_kept h.c0 hg hr).trans h.f0, (frozen_kept h.c1 hg hr).trans h.f1, (frozen_kept h.c2 hg hr).trans h.f2, by have := h.lt; have := hg.size; omega⟩
theorem FBox.cells {w : World} {b : Nat} {x : Fr} (h : FBox w b x) : ∀ j u, (cellsF x)[j]? = some u → w.cell? ((⟨b, 0, none⟩ : Addr).add j) = some u := by
  intro j u hu
  have hadd : (⟨b, 0, none⟩ : Addr).add j = ⟨b, j, none⟩ := by unfold Addr.add; split <;> simp_all
  rw [hadd]
  unfold cellsF at hu
  rcases j with _ | _ | _ | j
  · simp at hu; rw [← hu]; exact h.c0
  · simp at hu; rw [← hu]; exact h.c1
  · simp at hu; rw [← hu]; exact h.c2
  · simp at hu
/-- The frame while a pair's result is appended. -/
def eachActF (t0 t1 t2 t6 t10 t11 t12 t13 t14 t15 t16 t17 t18 t19 t20 : Value) (D R X Y : Nat) (v21 v22 v23 v24 v25 v26 : Value) : Act :=
  { tmps := #[t0, t1, t2, undef, undef, .pointer (some ⟨D, 0, none⟩), t6, .pointer (some ⟨R, 0, none⟩), .pointer (some ⟨X, 0, none⟩), .pointer (some ⟨Y, 0, none⟩), t10, t11, t12, t13, t14, t15, t16, t17, t18, t19, t20, v21, v22, v23, v24, v25, v26, undef, undef], defers := [] }
/-- Between two of its operations. -/
def EachIF (A : Value → Value → Value → Value → Value → Value → Act) (v f : Value) (x y z : Fr) (W : World) (k : Nat) (l : Array Bool) (act : Act) (u : World) : Prop :=
  ∃ (l0 l1 l2 l3 l4 l5 : Bool) (v21 v22 v23 v24 v25 v26 : Value) (g : Nat), l = #[l0, l1, l2, l3, l4, l5, false, false] ∧ k = one' l0 + one' l1 + one' l2 + one' l3 + one' l4 + one' l5 ∧ act = A v21 v22 v23 v24 v25 v26
    ∧ (l0 = true → v21 = v) ∧ (l1 = true → v22 = f) ∧ (l2 = true → v23 = frV x) ∧ (l3 = true → v24 = frV y) ∧ (l4 = true → v25 = frV z) ∧ (l5 = true → v26 = .slice (some ⟨g, 0, none⟩) 1 1 ∧ FBox u g z)
    ∧ (l4 = true → l1 = true ∧ l2 = true ∧ l3 = true) ∧ (l5 = true → l4 = true) ∧ Bl W u
set_option maxRecDepth 100000 in
set_option maxHeartbeats 2000000 in
theorem eachF' (K : Nat) (op : Fr → Fr → Fr) (hK : ∀ a b w, Calls Tryz.prog K #[frV a, frV b] w fun e w' => e = .returned (frV (op a b)) ∧ Bl w w') (eg : ∀ args w, (callFunc K args).run Tryz.prog w = .ok (.enter K args) w)
    (va vb : Value) (xs ys : List Fr) (w : World) (ha : Rq 3 cellsF w va xs) (hb : Rq 3 cellsF w vb ys) (hl : xs.length ≤ 1000000) (hm : ys.length ≤ 1000000) :
    Calls Tryz.prog 119 #[va, vb, .func (.func K) #[] #[]] w fun e w' => ∃ u, e = .returned u ∧ Rw 3 cellsF w' u (List.zipWith op xs ys) ∧ Fresh w.heap.size u ∧ Bl w w' := by
  obtain ⟨i0, hi, hz0, hz1, hz2⟩ := info_parts Tryz.info_F
  refine (callsIn_wide (n := 6)).1 ?_
  obtain ⟨p, cap, rfl, hc, _⟩ := ha.cut
  obtain ⟨q, dap, rfl, hd, _⟩ := hb.cut
  have HA := hideP ha
  have HB := hideP hb
  clear ha hb
  have HK := hideP hK
  clear hK
  obtain ⟨m, hmin⟩ : ∃ m, m = min xs.length ys.length := ⟨_, rfl⟩
  have hm0 : min (xs.length : Int) (ys.length : Int) = (m : Int) := by omega
  have hm1 : (if ys.length < xs.length then (ys.length : Int) else (xs.length : Int)) = (m : Int) := by split <;> omega
  have hml : m ≤ 1000000 := by omega
  have HM := hideP hmin
  clear hmin
  refine callsIn_of_wp_marks Tryz.func119 rfl trivial ?_ rfl
  simp only [Tryz.ntmps119, List.size_toArray, List.length_cons, List.length_nil, Nat.reduceAdd, Nat.reduceSub, Array.replicate_succ, Array.replicate_zero, List.push_toArray, List.append_toArray, List.nil_append, List.cons_append]
  gi_wp2_with (first
    | (gi_at_make; refine wpListIn_make_own _ rfl _ _ 60 rfl w.heap.size 66 i0 (.agg #[.int .i64 0, .int .i64 0, .bool false]) 3 Tryz.underlying60 hi hz0 hz1 .i64 .i64 _ m rfl rfl (by simp) (by rw [hz2]; omega) (by unfold maxLen; omega) (by simp) ?_; intro w0 hown0 hgrow0; have hB0 : Bl w w0 := ((Bl.refl w).alloc _).grown hgrow0 (by simp) (fun k e => by cases e))
    | (refine ⟨trivial, ?_⟩; refine (callsIn_wide.2 (vPairsF _ _ xs ys _ (HA.out.later (hB0.alloc _)) (HB.out.later (hB0.alloc _)) hl hm)).mono ?_; rintro e w3 ⟨rfl, hP, hB3⟩))
  simp only [World.size_alloc] at hP hown0
  have hszl : w0.heap.size + 1 ≤ w3.heap.size := by have := hB3.size; simpa using this
  have hsz0 : w.heap.size + 1 ≤ w0.heap.size := by have := hgrow0.size; simpa using this
  have hB : Bl w w3 := (hB0.alloc _).trans hB3
  have bD : Boxed w3 w.heap.size 149 (.func (.func K) #[] #[]) := boxed_bl (((Boxed.new w 149 (.func (.func K) #[] #[])).kept hgrow0 (by simp)).alloc _) hB3
  have bR : Boxed w3 w0.heap.size 60 (.slice (some ⟨w.heap.size + 1, 0, none⟩) 0 m) := boxed_bl (Boxed.new w0 60 _) hB3
  have hrow : w3.ownsRow w.heap.size 66 3 (.slice (some ⟨w.heap.size + 1, 0, none⟩) 0 m) 0 [] := own_blF (hown0.alloc _) hB3
  clear hown0
  have HP := hideP hP
  clear hP
  refine wpIn_rangeFunc_ownH rfl (by omega) (gf := 176) (lb := #[.pointer (some ⟨w0.heap.size + 1, 0, none⟩), .pointer (some ⟨w0.heap.size + 1 + 1, 0, none⟩)]) rfl trivial (enters_of Tryz.func176 (by kernel_rfl) rfl)
    (seqF 5 _ _ _ w3.heap.size _ _ (by simp; omega) w3 (Nat.le_refl _) HP.out) (fun h k => h.trans k) (span_b (Nat.le_refl _)) (Below.refl _ _) (fun _ => rfl)
    (fun pre W => (∃ v, Boxed W w0.heap.size 60 v ∧ W.ownsRow w.heap.size 66 3 v (opL op pre).length ((opL op pre).flatMap cellsF) ∧ (∀ g, v.ownBlock = some g → g < w0.heap.size + 1 ∨ w3.heap.size ≤ g)) ∧ (Boxed W w.heap.size 149 (.func (.func K) #[] #[]) ∧ (Below w.heap.size w W ∧ w3.heap.size ≤ W.heap.size)))
    (fun _ _ _ => False)
    (OwnFrom.and (Own.from (holdsRow_own w.heap.size w0.heap.size 60 66 3 (fun pre => (opL op pre).length) (fun pre => (opL op pre).flatMap cellsF) (fun pre v => ∀ g, v.ownBlock = some g → g < w0.heap.size + 1 ∨ w3.heap.size ≤ g)) _) (OwnFrom.and (Own.from (boxed_own _ _ _) _) (OwnFrom.and (ownFrom_below (Nat.le_refl _) hB.size) (fun _ _ _ _ h hg _ => Nat.le_trans h hg.size))))
    (fun _ _ _ _ _ hs _ _ => hs)
    ⟨⟨_, bR, hrow, fun g hg => by cases hg; exact .inl (by show w.heap.size + 1 < _; omega)⟩, bD, hB, Nat.le_refl _⟩
    (fun x a' W => ∃ Bx, w3.heap.size ≤ Bx ∧ FBox W Bx x.1 ∧ FBox W (Bx + 1) x.2 ∧ a' = eachActF (.slice p xs.length cap) (.slice q ys.length dap) (.func (.func K) #[] #[]) (.slice none 0 0) (.slice p xs.length cap) (.int .i64 xs.length) (.slice q ys.length dap) (.int .i64 ys.length) (.int .i64 m) (.slice (some ⟨w.heap.size + 1, 0, none⟩) 0 m) (.slice p xs.length cap) (.slice q ys.length dap) (.func (.func 176) #[] #[.pointer (some ⟨w0.heap.size + 1, 0, none⟩), .pointer (some ⟨w0.heap.size + 1 + 1, 0, none⟩)]) (frV x.1) (frV x.2) w.heap.size w0.heap.size Bx (Bx + 1) undef undef undef undef undef undef)
    (fun x a' _ X Y row hs hg hr => by obtain ⟨Bx, h0, h1, h2, h3⟩ := hs; exact ⟨Bx, h0, h1.own hg (fun r e => (hr r e).2), h2.own hg (fun r e => (hr r e).2), h3⟩)
    ?assign ?body ?done ?stop
  case assign =>
    rintro l pre x W K' ⟨⟨v, hv, hr, hg⟩, hd, hBW, hsW⟩ hK'
    have HK2 := hideP hK'
    clear hK'
    gi_wp2
    have hb2 : Bl W ((W.alloc (.cells #[.int .i64 x.1.n, .int .i64 x.1.d, .bool x.1.bad] 66)).alloc (.cells #[.int .i64 x.2.n, .int .i64 x.2.d, .bool x.2.bad] 66)) := ((Bl.refl W).alloc _).alloc _
    exact HK2.out _ _ (hb2.keeps _) (hb2.span hsW) ⟨⟨v, (hv.alloc _).alloc _, (hr.alloc _).alloc _, hg⟩, (hd.alloc _).alloc _, hBW.trans (hb2.mono hBW.size), by have := hb2.size; omega⟩
      ⟨W.heap.size, hsW, (FBox.new W x.1 _).later ((Bl.refl _).alloc _), by have := FBox.new (W.alloc (.cells #[.int .i64 x.1.n, .int .i64 x.1.d, .bool x.1.bad] 66)) x.2 66; simpa using this, rfl⟩
  case body =>
    rintro l pre ⟨x, y⟩ a' W hl' ⟨r, hr'⟩ ⟨⟨v, hv, hrow, hg⟩, hd, hBW, hsW⟩ ⟨Bx, hBx, b1, b2, rfl⟩ hlt
    have fm : Tryz.prog.follows .mixedOrders = true := by kernel_rfl
    have HV := hideP hv
    have HD := hideP hd
    have HR := hideP hrow
    have B1 := hideP b1
    have B2 := hideP b2
    have HG := hideP hg
    have HBW := hideP hBW
    clear hv hd hrow b1 b2 hg hBW
    obtain ⟨z, hz⟩ : ∃ z, z = op x y := ⟨_, rfl⟩
    have HK3 := hideP (fun u => HK.out x y u)
    rw [← hz] at HK3
    have HZ := hideP hz
    clear hz
    have hpl : (opL op pre).length = pre.length := by simp [opL]
    have hlt' : pre.length ≤ 1000000 := by simp at hlt; omega
    obtain ⟨A, hA⟩ : ∃ A, A = eachActF (.slice p xs.length cap) (.slice q ys.length dap) (.func (.func K) #[] #[]) (.slice none 0 0) (.slice p xs.length cap) (.int .i64 xs.length) (.slice q ys.length dap) (.int .i64 ys.length) (.int .i64 m) (.slice (some ⟨w.heap.size + 1, 0, none⟩) 0 m) (.slice p xs.length cap) (.slice q ys.length dap) (.func (.func 176) #[] #[.pointer (some ⟨w0.heap.size + 1, 0, none⟩), .pointer (some ⟨w0.heap.size + 1 + 1, 0, none⟩)]) (frV x) (frV y) w.heap.size w0.heap.size Bx (Bx + 1) := ⟨_, rfl⟩
    show Code.wpIn _ _ _ _ _ (eachActF _ _ _ _ _ _ _ _ _ _ _ _ _ (frV x) (frV y) _ _ _ _ _ _ _ _ _ _) W
    rw [← hA]
    have HAct := hideP hA
    clear hA
    gi_wp2
    refine wpIn_region_any fm ?_
    change wpAnyIn _ _ _ _ _ _ _ _ _ (World.drew _)
    refine wpAnyIn_phase (fuel := 2) (EachIF A v (.func (.func K) #[] #[]) x y z W) ?fin ?live ?step 6 _ _ _ ⟨false, false, false, false, false, false, undef, undef, undef, undef, undef, undef, 0, rfl, rfl, rfl, nofun, nofun, nofun, nofun, nofun, nofun, nofun, nofun, (Bl.refl _).drew⟩
    case live =>
      intro k l act u h h0
      obtain ⟨l0, l1, l2, l3, l4, l5, v21, v22, v23, v24, v25, v26, g, rfl, hk, rfl, e0, e1, e2, e3, e4, e5, c4, c5, hB⟩ := h
      rw [List.eq_nil_iff_forall_not_mem] at h0
      cases l0
      · exact h0 0 (mem_ready.2 ⟨rfl, _, rfl, fun e he => by simp at he⟩)
      cases l1
      · exact h0 1 (mem_ready.2 ⟨rfl, _, rfl, fun e he => by simp at he⟩)
      cases l2
      · exact h0 2 (mem_ready.2 ⟨rfl, _, rfl, fun e he => by simp at he⟩)
      cases l3
      · exact h0 3 (mem_ready.2 ⟨rfl, _, rfl, fun e he => by simp at he⟩)
      cases l4
      · exact h0 4 (mem_ready.2 ⟨rfl, _, rfl, fun e he hb => by simp at he; rcases he with rfl | rfl | rfl <;> rfl⟩)
      cases l5
      · exact h0 5 (mem_ready.2 ⟨rfl, _, rfl, fun e he hb => by simp at he; rcases he with rfl; rfl⟩)
      simp [one'] at hk
    case step =>
      intro k l act u i h hi' hall
      obtain ⟨l0, l1, l2, l3, l4, l5, v21, v22, v23, v24, v25, v26, g, rfl, hk, rfl, e0, e1, e2, e3, e4, e5, c4, c5, hB⟩ := h
      have hlt2 := getD_lt' hi'
      simp only [List.size_toArray, List.length_cons, List.length_nil] at hlt2
      have cR : u.cell? ⟨w0.heap.size, 0, none⟩ = some v := (boxed_bl HV.out hB).cell
      have cD : u.cell? ⟨w.heap.size, 0, none⟩ = some (.func (.func K) #[] #[]) := (boxed_bl HD.out hB).cell
      obtain ⟨c0, c1, c2, f0, f1, f2, lt1⟩ := B1.out.later hB
      obtain ⟨d0, d1, d2, g0, g1, g2, lt2⟩ := B2.out.later hB
      rcases (by omega : i = 0 ∨ i = 1 ∨ i = 2 ∨ i = 3 ∨ i = 4 ∨ i = 5 ∨ i = 6 ∨ i = 7) with rfl | rfl | rfl | rfl | rfl | rfl | rfl | rfl
      · skip
        have hl0 : l0 = false := hi'
        subst hl0
        have E0 := hideP e0
        have E1 := hideP e1
        have E2 := hideP e2
        have E3 := hideP e3
        have E4 := hideP e4
        have E5 := hideP e5
        have C4 := hideP c4
        have C5 := hideP c5
        have HKk := hideP hk
        have HBu := hideP hB
        clear e0 e1 e2 e3 e4 e5 c4 c5 hk hB hi' hall
        refine wpOpIn_step (o := _) rfl (fun K' hK0 => ?_)
        have hK' := hideP hK0
        clear hK0
        rw [HAct.out]
        unfold eachActF
        try simp only [List.getElem_toArray, List.getElem_cons_zero, List.getElem_cons_succ]
        go_simp
        exact hK'.out _ _ ⟨true, l1, l2, l3, l4, l5, (v), v22, v23, v24, v25, v26, g, rfl, by have := HKk.out; simp [one'] at this ⊢; omega, by rw [HAct.out]; rfl, fun _ => rfl, E1.out, E2.out, E3.out, E4.out, E5.out, C4.out, C5.out, HBu.out⟩
      · skip
        have hl0 : l1 = false := hi'
        subst hl0
        have E0 := hideP e0
        have E1 := hideP e1
        have E2 := hideP e2
        have E3 := hideP e3
        have E4 := hideP e4
        have E5 := hideP e5
        have C4 := hideP c4
        have C5 := hideP c5
        have HKk := hideP hk
        have HBu := hideP hB
        clear e0 e1 e2 e3 e4 e5 c4 c5 hk hB hi' hall
        refine wpOpIn_step (o := _) rfl (fun K' hK0 => ?_)
        have hK' := hideP hK0
        clear hK0
        rw [HAct.out]
        unfold eachActF
        try simp only [List.getElem_toArray, List.getElem_cons_zero, List.getElem_cons_succ]
        go_simp
        exact hK'.out _ _ ⟨l0, true, l2, l3, l4, l5, v21, (.func (.func K) #[] #[]), v23, v24, v25, v26, g, rfl, by have := HKk.out; simp [one'] at this ⊢; omega, by rw [HAct.out]; rfl, E0.out, fun _ => rfl, E2.out, E3.out, E4.out, E5.out, fun h => ⟨rfl, (C4.out h).2.1, (C4.out h).2.2⟩, C5.out, HBu.out⟩
      · skip
        have hl0 : l2 = false := hi'
        subst hl0
        have E0 := hideP e0
        have E1 := hideP e1
        have E2 := hideP e2
        have E3 := hideP e3
        have E4 := hideP e4
        have E5 := hideP e5
        have C4 := hideP c4
        have C5 := hideP c5
        have HKk := hideP hk
        have HBu := hideP hB
        clear e0 e1 e2 e3 e4 e5 c4 c5 hk hB hi' hall
        refine wpOpIn_step (o := _) rfl (fun K' hK0 => ?_)
        have hK' := hideP hK0
        clear hK0
        rw [HAct.out]
        unfold eachActF
        try simp only [List.getElem_toArray, List.getElem_cons_zero, List.getElem_cons_succ]
        go_simp
        exact hK'.out _ _ ⟨l0, l1, true, l3, l4, l5, v21, v22, (frV x), v24, v25, v26, g, rfl, by have := HKk.out; simp [one'] at this ⊢; omega, by rw [HAct.out]; rfl, E0.out, E1.out, fun _ => rfl, E3.out, E4.out, E5.out, fun h => ⟨(C4.out h).1, rfl, (C4.out h).2.2⟩, C5.out, HBu.out⟩
      · skip
        have hl0 : l3 = false := hi'
        subst hl0
        have E0 := hideP e0
        have E1 := hideP e1
        have E2 := hideP e2
        have E3 := hideP e3
        have E4 := hideP e4
        have E5 := hideP e5
        have C4 := hideP c4
        have C5 := hideP c5
        have HKk := hideP hk
        have HBu := hideP hB
        clear e0 e1 e2 e3 e4 e5 c4 c5 hk hB hi' hall
        refine wpOpIn_step (o := _) rfl (fun K' hK0 => ?_)
        have hK' := hideP hK0
        clear hK0
        rw [HAct.out]
        unfold eachActF
        try simp only [List.getElem_toArray, List.getElem_cons_zero, List.getElem_cons_succ]
        go_simp
        exact hK'.out _ _ ⟨l0, l1, l2, true, l4, l5, v21, v22, v23, (frV y), v25, v26, g, rfl, by have := HKk.out; simp [one'] at this ⊢; omega, by rw [HAct.out]; rfl, E0.out, E1.out, E2.out, fun _ => rfl, E4.out, E5.out, fun h => ⟨(C4.out h).1, (C4.out h).2.1, rfl⟩, C5.out, HBu.out⟩
      · skip
        have hl0 : l4 = false := hi'
        subst hl0
        have h1 : l1 = true := hall ⟨1, .data⟩ ⟨_, rfl, by simp⟩ rfl
        have h2 : l2 = true := hall ⟨2, .data⟩ ⟨_, rfl, by simp⟩ rfl
        have h3 : l3 = true := hall ⟨3, .data⟩ ⟨_, rfl, by simp⟩ rfl
        obtain rfl := e1 h1
        obtain rfl := e2 h2
        obtain rfl := e3 h3
        have E0 := hideP e0
        have E1 := hideP e1
        have E2 := hideP e2
        have E3 := hideP e3
        have E4 := hideP e4
        have E5 := hideP e5
        have C4 := hideP c4
        have C5 := hideP c5
        have HKk := hideP hk
        have HBu := hideP hB
        have H1 := hideP h1
        have H2 := hideP h2
        have H3 := hideP h3
        clear h1 h2 h3
        clear e0 e1 e2 e3 e4 e5 c4 c5 hk hB hi' hall
        refine wpOpIn_step (o := _) rfl (fun K' hK0 => ?_)
        have hK' := hideP hK0
        clear hK0
        rw [HAct.out]
        unfold eachActF
        try simp only [List.getElem_toArray, List.getElem_cons_zero, List.getElem_cons_succ]
        go_simp
        refine ⟨trivial, ?_⟩
        refine (CallsIn.inRound l (callsIn_wide.2 (HK3.out _))).mono ?_
        rintro e w4 ⟨rfl, h4⟩
        try gi_wp2
        exact hK'.out _ _ ⟨l0, l1, l2, l3, true, l5, v21, (.func (.func K) #[] #[]), (frV x), (frV y), (frV z), v26, g, rfl, by have := HKk.out; simp [one'] at this ⊢; omega, by rw [HAct.out]; rfl, E0.out, fun _ => rfl, fun _ => rfl, fun _ => rfl, fun _ => rfl, fun h => absurd (C5.out h) (by simp), fun _ => ⟨H1.out, H2.out, H3.out⟩, fun _ => rfl, HBu.out.trans h4⟩
      · skip
        have hl0 : l5 = false := hi'
        subst hl0
        have h4 : l4 = true := hall ⟨4, .data⟩ ⟨_, rfl, by simp⟩ rfl
        obtain rfl := e4 h4
        have E0 := hideP e0
        have E1 := hideP e1
        have E2 := hideP e2
        have E3 := hideP e3
        have E4 := hideP e4
        have E5 := hideP e5
        have C4 := hideP c4
        have C5 := hideP c5
        have HKk := hideP hk
        have HBu := hideP hB
        have H4 := hideP h4
        clear h4
        clear e0 e1 e2 e3 e4 e5 c4 c5 hk hB hi' hall
        refine wpOpIn_step (o := _) rfl (fun K' hK0 => ?_)
        have hK' := hideP hK0
        clear hK0
        rw [HAct.out]
        unfold eachActF
        try simp only [List.getElem_toArray, List.getElem_cons_zero, List.getElem_cons_succ]
        go_simp
        exact hK'.out _ _ ⟨l0, l1, l2, l3, l4, true, v21, v22, v23, v24, (frV z), (.slice (some ⟨u.heap.size, 0, none⟩) 1 1), u.heap.size, rfl, by have := HKk.out; simp [one'] at this ⊢; omega, by rw [HAct.out]; rfl, E0.out, E1.out, E2.out, E3.out, fun _ => rfl, fun _ => ⟨rfl, FBox.new u z _⟩, C4.out, fun _ => H4.out, HBu.out.alloc _⟩
      · exfalso
        have h0 : l0 = true := hall ⟨0, .data⟩ ⟨_, rfl, by simp⟩ rfl
        have h4 : l4 = true := hall ⟨4, .chain⟩ ⟨_, rfl, by simp⟩ rfl
        have h5 : l5 = true := hall ⟨5, .data⟩ ⟨_, rfl, by simp⟩ rfl
        obtain ⟨h1, h2, h3⟩ := c4 h4
        rw [h0, h1, h2, h3, h4, h5] at hk
        simp [one'] at hk
      · exact Bool.noConfusion (show false = true from hall ⟨6, .data⟩ ⟨_, rfl, by simp⟩ rfl)
    case fin =>
      intro l act u h
      obtain ⟨l0, l1, l2, l3, l4, l5, v21, v22, v23, v24, v25, v26, g, rfl, hk, rfl, e0, e1, e2, e3, e4, e5, c4, c5, hB⟩ := h
      obtain ⟨rfl, rfl, rfl, rfl, rfl, rfl⟩ : l0 = true ∧ l1 = true ∧ l2 = true ∧ l3 = true ∧ l4 = true ∧ l5 = true := by
        cases l0 <;> cases l1 <;> cases l2 <;> cases l3 <;> cases l4 <;> cases l5 <;> first | exact ⟨rfl, rfl, rfl, rfl, rfl, rfl⟩ | (simp [one'] at hk)
      obtain rfl := e0 rfl
      obtain rfl := e1 rfl
      obtain rfl := e2 rfl
      obtain rfl := e3 rfl
      obtain rfl := e4 rfl
      obtain ⟨rfl, bz⟩ := e5 rfl
      clear e0 e1 e2 e3 e4 e5 c4 c5 hk
      have hvu := boxed_bl HV.out hB
      have hru := own_blF HR.out hB
      have hus : w.heap.size ≤ u.heap.size := by have := HBW.out.size; have := hB.size; omega
      refine wpAnyIn_ready (rs := [6]) (by kernel_rfl) (by simp) ?_
      refine AllReadyIn.cons (i := 6) (o := _) rfl (fun K' hK' => ?_) AllReadyIn.nil
      rw [if_pos (by rfl)]
      refine stepIn_append (Operand.tmp 21) (Operand.tmp 26) 60 rfl w.heap.size 66 i0 (.agg #[.int .i64 0, .int .i64 0, .bool false]) 3 24 Tryz.underlying60 hi hz0 hz1 hz2 rfl (by decide) v21 _ _ (by rw [HAct.out]; rfl) hru ⟨g, 0, none⟩ 1 1 (cellsF z) (by rw [HAct.out]; rfl) rfl bz.cells (oneF_cells _) (by unfold maxLen; omega) (by omega) hus ?_
      intro v' w5 hown' hgrow hat
      refine hK' _ _ ?_
      clear hK' K'
      obtain ⟨g', cap', rfl⟩ := ownsRow_succ hown'
      obtain ⟨hv5, hv6, hr6, hk6, hb6⟩ := boxed_appended hvu (by decide) hru hus (by omega) hown' hgrow
      have cv5 := hv5.cell
      have fv5 := hv5.frozen
      have HV6 := hideP hv6
      have HR6 := hideP hr6
      have HSP := hideP (span_appended (R := w0.heap.size) (v' := .slice (some ⟨g', 0, none⟩) ((opL op pre).length + 1) cap') hB hsW HG.out hgrow (Nat.lt_succ_self _))
      have HG' := hideP (show ∀ b, (Value.slice (some ⟨g', 0, none⟩) ((opL op pre).length + 1) cap').ownBlock = some b → b < w0.heap.size + 1 ∨ w3.heap.size ≤ b by
        intro b hb
        rcases hat with h | h
        · exact HG.out b (h.symm.trans hb)
        · rw [h] at hb
          cases hb
          exact .inr (by have := hB.size; omega))
      clear hv5 hv6 hr6 hown' hvu hru hat hpl
      rw [HAct.out]
      unfold eachActF
      refine wpAnyIn_ready (rs := [7]) (by kernel_rfl) (by simp) ?_
      refine AllReadyIn.cons (i := 7) (o := _) rfl (fun K' hK' => ?_) AllReadyIn.nil
      have HK4 := hideP hK'
      clear hK'
      try simp only [List.getElem_toArray, List.getElem_cons_zero, List.getElem_cons_succ]
      go_simp
      refine HK4.out _ _ ?_
      refine wpAnyIn_done (by kernel_rfl) ?_ _
      gi_wp2
      have hBf := hB.keeps w3.heap.size
      refine ⟨hBf.trans (hk6.from _), HSP.out, ⟨_, HV6.out, ?_, HG'.out⟩, ?_, HBW.out.trans ((hB.mono HBW.out.size).trans hb6), ?_⟩
      · have := HR6.out
        rw [opL_snoc, ← HZ.out]
        simpa [List.flatMap_append] using this
      · exact ((boxed_bl HD.out hB).kept hgrow ((boxed_bl HD.out hB).not_row (by decide) (own_blF HR.out hB))).other (by omega) _
      · have := hB.size; have := hgrow.size; simp; omega
  case done =>
    rintro D zs W hD rfl ⟨⟨v, hv, hrow, _⟩, _, hBW, hsW⟩ hKD
    have hc := hv.cell
    gi_wp2
    refine ⟨by simp, .inl ⟨_, _, rfl, run_takeDeferred hKD, ?_⟩⟩
    refine ⟨_, results_tmp rfl _ _ _, v, rfl, ?_, fun g hg => (hrow.lt g hg).1, hBW.trans (belowK_b (w := w) (Nat.le_refl _) W D _ _ (by omega) hKD rfl rfl)⟩
    have := ownsRow_putObj hrow (.deferred none) hKD rfl
    rw [← HM.out, opL_zip op xs ys m HM.out] at this
    exact Rw.of_own cellsF_len this
  case stop =>
    rintro D c pre W _ _ h _
    exact h.elim
theorem eachF (K : Nat) (op : Fr → Fr → Fr) (hK : ∀ a b w, Calls Tryz.prog K #[frV a, frV b] w fun e w' => e = .returned (frV (op a b)) ∧ Bl w w') (eg : ∀ args w, (callFunc K args).run Tryz.prog w = .ok (.enter K args) w)
    (va vb : Value) (xs ys : List Fr) (w : World) (ha : Rq 3 cellsF w va xs) (hb : Rq 3 cellsF w vb ys) (hl : xs.length ≤ 1000000) (hm : ys.length ≤ 1000000) :
    Calls Tryz.prog 119 #[va, vb, .func (.func K) #[] #[]] w fun e w' => ∃ u, e = .returned u ∧ Rw 3 cellsF w' u (List.zipWith op xs ys) ∧ Bl w w' :=
  (eachF' K op hK eg va vb xs ys w ha hb hl hm).mono fun _ _ ⟨u, h1, h2, _, h3⟩ => ⟨u, h1, h2, h3⟩
end Go.Proofs.YtlbmkjicbkfmjaaGreat

/- Contracts of vec's Add, Sub, Dot, of fractions (layer 5). Written by genVe.py. -/
namespace Go.Proofs.YtlbmkjicbkfmjaaGreat
open Go.RowKit Go.Shelf
set_option linter.unusedSimpArgs false
set_option linter.unusedVariables false

theorem vAddF' (va vb : Value) (xs ys : List Fr) (w : World) (ha : Rq 3 cellsF w va xs) (hb : Rq 3 cellsF w vb ys) (hl : xs.length ≤ 1000000) (hm : ys.length ≤ 1000000) :
    Calls Tryz.prog 78 #[va, vb] w fun e w' => ∃ u, e = .returned u ∧ Rw 3 cellsF w' u (List.zipWith addR xs ys) ∧ Fresh w.heap.size u ∧ Bl w w' := by
  have E := hideP (eachF' 121 addR dAddF (enters_of Tryz.func121 (by kernel_rfl) rfl) va vb xs ys w ha hb hl hm)
  clear ha hb
  go_enter Tryz.func78, Tryz.ntmps78
  go_wp2_with fail
  refine E.out.mono ?_
  rintro e w1 ⟨u, rfl, hr, hf, h1⟩
  go_wp2
  go_ret
  exact ⟨_, rfl, hr, hf, h1⟩
theorem vAddF (va vb : Value) (xs ys : List Fr) (w : World) (ha : Rq 3 cellsF w va xs) (hb : Rq 3 cellsF w vb ys) (hl : xs.length ≤ 1000000) (hm : ys.length ≤ 1000000) :
    Calls Tryz.prog 78 #[va, vb] w fun e w' => ∃ u, e = .returned u ∧ Rw 3 cellsF w' u (List.zipWith addR xs ys) ∧ Bl w w' :=
  (vAddF' va vb xs ys w ha hb hl hm).mono fun _ _ ⟨u, h1, h2, _, h3⟩ => ⟨u, h1, h2, h3⟩

theorem vSubF' (va vb : Value) (xs ys : List Fr) (w : World) (ha : Rq 3 cellsF w va xs) (hb : Rq 3 cellsF w vb ys) (hl : xs.length ≤ 1000000) (hm : ys.length ≤ 1000000) :
    Calls Tryz.prog 160 #[va, vb] w fun e w' => ∃ u, e = .returned u ∧ Rw 3 cellsF w' u (List.zipWith subR xs ys) ∧ Fresh w.heap.size u ∧ Bl w w' := by
  have E := hideP (eachF' 177 subR dSubF (enters_of Tryz.func177 (by kernel_rfl) rfl) va vb xs ys w ha hb hl hm)
  clear ha hb
  go_enter Tryz.func160, Tryz.ntmps160
  go_wp2_with fail
  refine E.out.mono ?_
  rintro e w1 ⟨u, rfl, hr, hf, h1⟩
  go_wp2
  go_ret
  exact ⟨_, rfl, hr, hf, h1⟩
theorem vSubF (va vb : Value) (xs ys : List Fr) (w : World) (ha : Rq 3 cellsF w va xs) (hb : Rq 3 cellsF w vb ys) (hl : xs.length ≤ 1000000) (hm : ys.length ≤ 1000000) :
    Calls Tryz.prog 160 #[va, vb] w fun e w' => ∃ u, e = .returned u ∧ Rw 3 cellsF w' u (List.zipWith subR xs ys) ∧ Bl w w' :=
  (vSubF' va vb xs ys w ha hb hl hm).mono fun _ _ ⟨u, h1, h2, _, h3⟩ => ⟨u, h1, h2, h3⟩

/-- The sum of the products of all pairs. -/
def dotF (xs ys : List Fr) : Fr := sumF (List.zipWith mulR xs ys)
theorem vDotF (va vb : Value) (xs ys : List Fr) (w : World) (ha : Rq 3 cellsF w va xs) (hb : Rq 3 cellsF w vb ys) (hl : xs.length ≤ 1000000) (hm : ys.length ≤ 1000000) :
    Calls Tryz.prog 76 #[va, vb] w fun e w' => e = .returned (frV (dotF xs ys)) ∧ Bl w w' := by
  obtain ⟨W, hW⟩ : ∃ W, W = w.alloc (.cells #[.int .i64 0, .int .i64 0, .bool false] 66) := ⟨_, rfl⟩
  have b0 : Bl w W := by rw [hW]; exact (Bl.refl _).alloc _
  have x0 : FBox W w.heap.size zeroR := by rw [hW]; exact FBox.new w zeroR _
  have E := hideP (eachF 120 mulR dMulF (enters_of Tryz.func120 (by kernel_rfl) rfl) va vb xs ys W (ha.later b0) (hb.later b0) hl hm)
  have HL := hideP (show (List.zipWith mulR xs ys).length ≤ 1000000 by simp; omega)
  generalize hr0 : dotF xs ys = r
  have HR0 := hideP hr0
  clear hr0
  have HW := hideP hW
  clear ha hb hW
  go_enter Tryz.func76, Tryz.ntmps76
  go_wp2_with fail
  rw [← HW.out]
  refine E.out.mono ?_
  rintro e w1 ⟨u, rfl, hr, h1⟩
  have S0 := vsumF u _ w1 hr.q HL.out
  rw [show sumF (List.zipWith mulR xs ys) = r from HR0.out] at S0
  have S := hideP S0
  clear hr S0
  go_wp2_with fail
  refine S.out.mono ?_
  rintro e w2 ⟨rfl, h2⟩
  obtain ⟨c0, c1, c2, f0, f1, f2, lt⟩ := x0.later (h1.trans h2)
  go_wp2
  simp [bodyPost, results, Tryz.results76, go_sem, c0, c1, c2]
  exact Bl.set3 (b0.trans (h1.trans h2)) (Nat.le_refl _) _ _ _
end Go.Proofs.YtlbmkjicbkfmjaaGreat

/- Whole numbers as fractions: their sums, products and dots (layer 5's laws). Mathematics alone. -/
namespace Go.Proofs.YtlbmkjicbkfmjaaGreat
open Go.RowKit
set_option linter.unusedSimpArgs false
set_option linter.unusedVariables false

/-- A whole number. -/
def itF (n : Int) : Fr := ⟨n, 1, false⟩
/-- It may be one. -/
def Wh (n : Int) : Prop := -1073741824 ≤ n ∧ n ≤ 1073741824
theorem fine_it {n : Int} (h : Wh n) : fineR (itF n) = true := fine_mk (by decide) (by decide) h.1 h.2 (by simp)
theorem low_it {n : Int} (h : Wh n) : lowR n 1 = itF n := by
  rw [lowR_pos n 1 (by decide) 1 (by simp)]
  have h1 : smB n = true := smB_iff.2 h
  have e1 : n.tdiv 1 = n := Int.tdiv_one n
  rw [e1, h1]
  rfl
theorem new_it {n : Int} (h : Wh n) : newR n 1 = itF n := by
  have h1 : gvB n = true := gvB_iff.2 (by have := h; unfold Wh at this; omega)
  unfold newR
  rw [h1, low_it h]
  rfl
theorem whole_it {n : Int} (h : Wh n) : wholeF n = itF n := new_it h
theorem add_it {a b : Int} (ha : Wh a) (hb : Wh b) (h : Wh (a + b)) : addR (itF a) (itF b) = itF (a + b) := by
  rw [addR_fine (fine_it ha) (fine_it hb), ← low_add (fine_it ha) (fine_it hb), ← low_it h]
  simp [itF]
theorem sub_it {a b : Int} (ha : Wh a) (hb : Wh b) (h : Wh (a - b)) : subR (itF a) (itF b) = itF (a - b) := by
  rw [subR_fine (fine_it ha) (fine_it hb), ← low_sub (fine_it ha) (fine_it hb), ← low_it h]
  simp [itF]
theorem mul_it {a b : Int} (ha : Wh a) (hb : Wh b) (h : Wh (a * b)) : mulR (itF a) (itF b) = itF (a * b) := by
  rw [mulR_fine (fine_it ha) (fine_it hb), ← low_mul (fine_it ha) (fine_it hb), ← low_it h]
  simp [itF]
/-- All are so small. -/
def Sml (B : Int) (ns : List Int) : Prop := ∀ x ∈ ns, -B ≤ x ∧ x ≤ B
theorem Sml.tail {B n : Int} {ns : List Int} (h : Sml B (n :: ns)) : Sml B ns := fun x hx => h x (List.mem_cons_of_mem _ hx)
theorem Sml.head {B n : Int} {ns : List Int} (h : Sml B (n :: ns)) : -B ≤ n ∧ n ≤ B := h n (List.mem_cons_self)
theorem Sml.take {B : Int} {ns : List Int} (h : Sml B ns) (k : Nat) : Sml B (ns.take k) := fun x hx => h x (List.mem_of_mem_take hx)
theorem Sml.drop {B : Int} {ns : List Int} (h : Sml B ns) (k : Nat) : Sml B (ns.drop k) := fun x hx => h x (List.mem_of_mem_drop hx)
theorem Sml.sum {B : Int} : ∀ {ns : List Int}, Sml B ns → -(B * ns.length) ≤ ns.sum ∧ ns.sum ≤ B * ns.length
  | [], _ => by simp
  | n :: ns, h => by
    have h1 := h.head
    have h2 := Sml.sum h.tail
    simp only [List.sum_cons, List.length_cons, Int.natCast_add, Int.mul_add]
    omega
theorem fold_it {B : Int} : ∀ (ns : List Int) (s : Int), Sml B ns → 0 ≤ B → -1073741824 + B * ns.length ≤ s → s ≤ 1073741824 - B * ns.length → (ns.map itF).foldl addR (itF s) = itF (s + ns.sum)
  | [], s, _, _, _, _ => by simp
  | n :: ns, s, h, hB, h1, h2 => by
    have hn := h.head
    simp only [List.length_cons, Int.natCast_add, Int.mul_add] at h1 h2
    have hp : 0 ≤ B * ns.length := Int.mul_nonneg hB (by omega)
    rw [List.map_cons, List.foldl_cons, add_it ⟨by omega, by omega⟩ ⟨by omega, by omega⟩ ⟨by omega, by omega⟩, fold_it ns (s + n) h.tail hB (by omega) (by omega), List.sum_cons]
    congr 1
    omega
theorem sum_it {B : Int} (ns : List Int) (h : Sml B ns) (hB : 0 ≤ B) (hb : B * ns.length ≤ 1073741824) : sumF (ns.map itF) = itF ns.sum := by
  unfold sumF
  rw [new_it (n := 0) ⟨by omega, by omega⟩, fold_it ns 0 h hB (by omega) (by omega)]
  simp
theorem wholes_it {B : Int} (ns : List Int) (h : Sml B ns) (hb : B ≤ 1073741824) : ns.map wholeF = ns.map itF :=
  List.map_congr_left fun x hx => whole_it (by have := h x hx; exact ⟨by omega, by omega⟩)
/-- The sum of all products. -/
def dotI (xs ys : List Int) : Int := (List.zipWith (· * ·) xs ys).sum
theorem mul_bound {a b A B : Int} (ha : -A ≤ a ∧ a ≤ A) (hb : -B ≤ b ∧ b ≤ B) : -(A * B) ≤ a * b ∧ a * b ≤ A * B := abs_mul_le ha.1 ha.2 hb.1 hb.2
theorem muls_sml {A B : Int} : ∀ {xs ys : List Int}, Sml A xs → Sml B ys → Sml (A * B) (List.zipWith (· * ·) xs ys)
  | [], _, _, _ => by intro x hx; simp at hx
  | _ :: _, [], _, _ => by intro x hx; simp at hx
  | x :: xs, y :: ys, h, k => by
    intro z hz
    rw [List.zipWith_cons_cons] at hz
    rcases List.mem_cons.1 hz with rfl | hz
    · exact mul_bound h.head k.head
    · exact muls_sml h.tail k.tail z hz
theorem muls_it {A B : Int} (hA : A ≤ 1073741824) (hB : B ≤ 1073741824) (hAB : A * B ≤ 1073741824) : ∀ (xs ys : List Int), Sml A xs → Sml B ys → List.zipWith mulR (xs.map itF) (ys.map itF) = (List.zipWith (· * ·) xs ys).map itF
  | [], _, _, _ => by simp
  | _ :: _, [], _, _ => by simp
  | x :: xs, y :: ys, h, k => by
    have h1 := h.head
    have h2 := k.head
    have h3 := mul_bound h1 h2
    rw [List.map_cons, List.map_cons, List.zipWith_cons_cons, List.zipWith_cons_cons, List.map_cons, mul_it ⟨by omega, by omega⟩ ⟨by omega, by omega⟩ ⟨by omega, by omega⟩, muls_it hA hB hAB xs ys h.tail k.tail]
theorem adds_it {A B : Int} (hA : A ≤ 1073741824) (hB : B ≤ 1073741824) (hAB : A + B ≤ 1073741824) : ∀ (xs ys : List Int), Sml A xs → Sml B ys → List.zipWith addR (xs.map itF) (ys.map itF) = (List.zipWith (· + ·) xs ys).map itF
  | [], _, _, _ => by simp
  | _ :: _, [], _, _ => by simp
  | x :: xs, y :: ys, h, k => by
    have h1 := h.head
    have h2 := k.head
    rw [List.map_cons, List.map_cons, List.zipWith_cons_cons, List.zipWith_cons_cons, List.map_cons, add_it ⟨by omega, by omega⟩ ⟨by omega, by omega⟩ ⟨by omega, by omega⟩, adds_it hA hB hAB xs ys h.tail k.tail]
theorem subs_it {A B : Int} (hA : A ≤ 1073741824) (hB : B ≤ 1073741824) (hAB : A + B ≤ 1073741824) : ∀ (xs ys : List Int), Sml A xs → Sml B ys → List.zipWith subR (xs.map itF) (ys.map itF) = (List.zipWith (· - ·) xs ys).map itF
  | [], _, _, _ => by simp
  | _ :: _, [], _, _ => by simp
  | x :: xs, y :: ys, h, k => by
    have h1 := h.head
    have h2 := k.head
    rw [List.map_cons, List.map_cons, List.zipWith_cons_cons, List.zipWith_cons_cons, List.map_cons, sub_it ⟨by omega, by omega⟩ ⟨by omega, by omega⟩ ⟨by omega, by omega⟩, subs_it hA hB hAB xs ys h.tail k.tail]
theorem adds_sml {A B : Int} : ∀ {xs ys : List Int}, Sml A xs → Sml B ys → Sml (A + B) (List.zipWith (· + ·) xs ys)
  | [], _, _, _ => by intro x hx; simp at hx
  | _ :: _, [], _, _ => by intro x hx; simp at hx
  | x :: xs, y :: ys, h, k => by
    intro z hz
    rw [List.zipWith_cons_cons] at hz
    have h1 := h.head
    have h2 := k.head
    rcases List.mem_cons.1 hz with rfl | hz
    · omega
    · exact adds_sml h.tail k.tail z hz
theorem subs_sml {A B : Int} : ∀ {xs ys : List Int}, Sml A xs → Sml B ys → Sml (A + B) (List.zipWith (· - ·) xs ys)
  | [], _, _, _ => by intro x hx; simp at hx
  | _ :: _, [], _, _ => by intro x hx; simp at hx
  | x :: xs, y :: ys, h, k => by
    intro z hz
    rw [List.zipWith_cons_cons] at hz
    have h1 := h.head
    have h2 := k.head
    rcases List.mem_cons.1 hz with rfl | hz
    · omega
    · exact subs_sml h.tail k.tail z hz
theorem scale_it {A B b : Int} (hA : A ≤ 1073741824) (hB : B ≤ 1073741824) (hAB : A * B ≤ 1073741824) (hb : -B ≤ b ∧ b ≤ B) (xs : List Int) (h : Sml A xs) : (xs.map itF).map (fun x => mulR x (itF b)) = (xs.map (· * b)).map itF := by
  rw [List.map_map, List.map_map]
  refine List.map_congr_left fun x hx => ?_
  have h1 := h x hx
  have h3 := mul_bound h1 hb
  exact mul_it ⟨by omega, by omega⟩ ⟨by omega, by omega⟩ ⟨by omega, by omega⟩
theorem scale_sml {A B b : Int} (hb : -B ≤ b ∧ b ≤ B) {xs : List Int} (h : Sml A xs) : Sml (A * B) (xs.map (· * b)) := by
  intro z hz
  obtain ⟨x, hx, rfl⟩ := List.mem_map.1 hz
  exact mul_bound (h x hx) hb
theorem dot_it {A B : Int} {xs ys : List Int} (h : Sml A xs) (k : Sml B ys) (hA : 0 ≤ A ∧ A ≤ 100000) (hB : 0 ≤ B ∧ B ≤ 2000) (hl : xs.length ≤ 20) (hAB : A * B ≤ 53687091) : dotF (xs.map itF) (ys.map itF) = itF (dotI xs ys) := by
  unfold dotF dotI
  have hp : 0 ≤ A * B := Int.mul_nonneg hA.1 hB.1
  rw [muls_it (by omega) (by omega) (by omega) xs ys h k]
  refine sum_it (B := A * B) _ (muls_sml h k) hp ?_
  have hln : (List.zipWith (· * ·) xs ys).length ≤ 20 := by simp; omega
  have := Int.mul_le_mul_of_nonneg_left (show ((List.zipWith (· * ·) xs ys).length : Int) ≤ 20 by omega) hp
  omega
theorem dotI_comm : ∀ (xs ys : List Int), dotI xs ys = dotI ys xs := fun xs ys => by
  unfold dotI
  rw [List.zipWith_comm]
  simp only [Int.mul_comm]
theorem dotI_add : ∀ (xs ys zs : List Int), xs.length = ys.length → dotI (List.zipWith (· + ·) xs ys) zs = dotI xs zs + dotI ys zs
  | [], [], _, _ => by simp [dotI]
  | x :: xs, y :: ys, [], _ => by simp [dotI]
  | x :: xs, y :: ys, z :: zs, h => by
    have ih := dotI_add xs ys zs (by simpa using h)
    unfold dotI at ih ⊢
    simp only [List.zipWith_cons_cons, List.sum_cons, ih, Int.add_mul]
    omega
  | [], _ :: _, _, h => by simp at h
  | _ :: _, [], _, h => by simp at h
theorem dotI_sub : ∀ (xs ys zs : List Int), xs.length = ys.length → dotI (List.zipWith (· - ·) xs ys) zs = dotI xs zs - dotI ys zs
  | [], [], _, _ => by simp [dotI]
  | x :: xs, y :: ys, [], _ => by simp [dotI]
  | x :: xs, y :: ys, z :: zs, h => by
    have ih := dotI_sub xs ys zs (by simpa using h)
    unfold dotI at ih ⊢
    simp only [List.zipWith_cons_cons, List.sum_cons, ih, Int.sub_mul]
    omega
  | [], _ :: _, _, h => by simp at h
  | _ :: _, [], _, h => by simp at h
theorem dotI_scale (b : Int) : ∀ (xs ys : List Int), dotI (xs.map (· * b)) ys = dotI xs ys * b
  | [], _ => by simp [dotI]
  | x :: xs, [] => by simp [dotI]
  | x :: xs, y :: ys => by
    have ih := dotI_scale b xs ys
    unfold dotI at ih ⊢
    simp only [List.map_cons, List.zipWith_cons_cons, List.sum_cons, ih, Int.add_mul]
    congr 1
    rw [Int.mul_assoc, Int.mul_comm b y, ← Int.mul_assoc]
theorem dotI_bound {A B : Int} {xs ys : List Int} (h : Sml A xs) (k : Sml B ys) (hA : 0 ≤ A) (hB : 0 ≤ B) (hl : xs.length ≤ 20) : -(A * B * 20) ≤ dotI xs ys ∧ dotI xs ys ≤ A * B * 20 := by
  have hp : 0 ≤ A * B := Int.mul_nonneg hA hB
  have h1 := (muls_sml h k).sum
  have hln : (List.zipWith (· * ·) xs ys).length ≤ 20 := by simp; omega
  have := Int.mul_le_mul_of_nonneg_left (show ((List.zipWith (· * ·) xs ys).length : Int) ≤ 20 by omega) hp
  unfold dotI
  omega
end Go.Proofs.YtlbmkjicbkfmjaaGreat

/- What is told of fractions, as rational numbers: where what is told may be one, so may all that it came of, and it is the rational sum, product .. Mathematics alone. -/
namespace Go.Proofs.YtlbmkjicbkfmjaaGreat
open Go.RowKit
set_option linter.unusedSimpArgs false
set_option linter.unusedVariables false

theorem wrong_nf : fineR wrongR = false := rfl
theorem ofQ_q {q : Rat} (h : fineR (ofQ q) = true) : toQ (ofQ q) = q := toQ_ofQ (by rw [← ofQ_fine]; exact h)
theorem add_q {a b : Fr} (h : fineR (addR a b) = true) : fineR a = true ∧ fineR b = true ∧ toQ (addR a b) = toQ a + toQ b := by
  cases ha : fineR a
  · unfold addR at h; rw [ha] at h; cases h
  cases hb : fineR b
  · unfold addR at h; rw [ha, hb] at h; cases h
  rw [addR_fine ha hb] at h ⊢
  exact ⟨rfl, rfl, ofQ_q h⟩
theorem sub_q {a b : Fr} (h : fineR (subR a b) = true) : fineR a = true ∧ fineR b = true ∧ toQ (subR a b) = toQ a - toQ b := by
  cases ha : fineR a
  · unfold subR at h; rw [ha] at h; cases h
  cases hb : fineR b
  · unfold subR at h; rw [ha, hb] at h; cases h
  rw [subR_fine ha hb] at h ⊢
  exact ⟨rfl, rfl, ofQ_q h⟩
theorem mul_q {a b : Fr} (h : fineR (mulR a b) = true) : fineR a = true ∧ fineR b = true ∧ toQ (mulR a b) = toQ a * toQ b := by
  cases ha : fineR a
  · unfold mulR at h; rw [ha] at h; cases h
  cases hb : fineR b
  · unfold mulR at h; rw [ha, hb] at h; cases h
  rw [mulR_fine ha hb] at h ⊢
  exact ⟨rfl, rfl, ofQ_q h⟩
theorem div_q {a b : Fr} (h : fineR (divR a b) = true) : fineR a = true ∧ fineR b = true ∧ toQ b ≠ 0 ∧ toQ (divR a b) = toQ a / toQ b := by
  cases ha : fineR a
  · unfold divR at h; rw [ha] at h; cases h
  cases hb : fineR b
  · unfold divR at h; rw [ha, hb] at h; cases h
  by_cases h0 : b.n = 0
  · unfold divR at h; rw [ha, hb, show decide (b.n ≠ 0) = false by simp [h0]] at h; cases h
  rw [divR_fine ha hb h0] at h ⊢
  exact ⟨rfl, rfl, toQ_ne hb h0, ofQ_q h⟩
/-- What a quotient is multiplied by undoes it. -/
theorem div_mul_q {a b : Fr} (h : fineR (divR a b) = true) : toQ (divR a b) * toQ b = toQ a := by
  obtain ⟨_, _, h0, e⟩ := div_q h
  rw [e, Rat.div_def, Rat.mul_assoc, Rat.inv_mul_cancel _ h0, Rat.mul_one]
theorem root_q {a : Fr} (h : fineR (rootR a) = true) : fineR a = true ∧ toQ (rootR a) * toQ (rootR a) = toQ a ∧ 0 ≤ (rootR a).n := by
  cases ha : fineR a
  · unfold rootR at h; rw [ha] at h; cases h
  unfold rootR at h ⊢
  rw [ha, if_pos rfl] at h ⊢
  cases he : eqR (mulR (tryR a) (tryR a)) a
  · rw [he, if_neg (by simp)] at h; cases h
  rw [he, if_pos rfl] at h
  rw [if_pos rfl]
  have e := eqR_iff.1 he
  have q := (mul_q (a := tryR a) (b := tryR a) (by rw [e]; exact ha)).2.2
  rw [e] at q
  exact ⟨rfl, q.symm, (flR_le (fineR_iff.1 ha).2.2.2.2.1).1⟩
/-- The sum of rational numbers. -/
def sumQ : List Rat → Rat
  | [] => 0
  | x :: xs => x + sumQ xs
theorem sumQ_append : ∀ (xs ys : List Rat), sumQ (xs ++ ys) = sumQ xs + sumQ ys
  | [], ys => by simp [sumQ, Rat.zero_add]
  | x :: xs, ys => by simp only [List.cons_append, sumQ]; rw [sumQ_append xs ys, Rat.add_assoc]
theorem fold_q : ∀ (xs : List Fr) (a : Fr), fineR (xs.foldl addR a) = true → fineR a = true ∧ (∀ x ∈ xs, fineR x = true) ∧ toQ (xs.foldl addR a) = toQ a + sumQ (xs.map toQ)
  | [], a, h => ⟨h, fun x hx => by simp at hx, by simp [sumQ, Rat.add_zero]⟩
  | y :: xs, a, h => by
    simp only [List.foldl_cons] at h ⊢
    obtain ⟨h1, h2, h3⟩ := fold_q xs (addR a y) h
    obtain ⟨g1, g2, g3⟩ := add_q h1
    refine ⟨g1, fun x hx => ?_, ?_⟩
    · rcases List.mem_cons.1 hx with rfl | hx
      · exact g2
      · exact h2 x hx
    · rw [h3, g3, List.map_cons, sumQ, Rat.add_assoc]
theorem new0_q : toQ (newR 0 1) = 0 := by
  rw [new_it (n := 0) ⟨by omega, by omega⟩]
  exact Rat.zero_divInt _
theorem sum_q {xs : List Fr} (h : fineR (sumF xs) = true) : (∀ x ∈ xs, fineR x = true) ∧ toQ (sumF xs) = sumQ (xs.map toQ) := by
  obtain ⟨_, h2, h3⟩ := fold_q xs _ h
  refine ⟨h2, ?_⟩
  rw [show sumF xs = xs.foldl addR (newR 0 1) from rfl, h3, new0_q, Rat.zero_add]
/-- The dot of rational numbers. -/
def dotQ (xs ys : List Rat) : Rat := sumQ (List.zipWith (· * ·) xs ys)
theorem muls_q : ∀ {xs ys : List Fr}, (∀ z ∈ List.zipWith mulR xs ys, fineR z = true) → (List.zipWith mulR xs ys).map toQ = List.zipWith (· * ·) (xs.map toQ) (ys.map toQ)
  | [], _, _ => by simp
  | _ :: _, [], _ => by simp
  | x :: xs, y :: ys, h => by
    simp only [List.zipWith_cons_cons, List.map_cons]
    rw [(mul_q (h (mulR x y) (by simp))).2.2, muls_q fun z hz => h z (by simp only [List.zipWith_cons_cons]; exact List.mem_cons_of_mem _ hz)]
theorem dot_q {xs ys : List Fr} (h : fineR (dotF xs ys) = true) : (∀ z ∈ List.zipWith mulR xs ys, fineR z = true) ∧ toQ (dotF xs ys) = dotQ (xs.map toQ) (ys.map toQ) := by
  obtain ⟨h1, h2⟩ := sum_q h
  refine ⟨h1, ?_⟩
  rw [show dotF xs ys = sumF (List.zipWith mulR xs ys) from rfl, h2, muls_q h1]
  rfl
theorem dotQ_snoc {xs ys : List Rat} (h : xs.length = ys.length) (x y : Rat) : dotQ (xs ++ [x]) (ys ++ [y]) = dotQ xs ys + x * y := by
  unfold dotQ
  rw [List.zipWith_append h, sumQ_append]
  simp [sumQ, Rat.add_zero]
theorem toQ_whole (n : Int) : toQ ⟨n, 1, false⟩ = (n : Rat) := by
  unfold toQ
  first | exact (Rat.intCast_eq_divInt n).symm | simp [Rat.divInt, Rat.mkRat_one] | exact (Rat.mkRat_one n)
/-- Fractions that are the same rational number are the same. -/
theorem fr_eq {a b : Fr} (ha : fineR a = true) (hb : fineR b = true) (h : toQ a = toQ b) : a = b := toQ_inj ha hb h
end Go.Proofs.YtlbmkjicbkfmjaaGreat

/- A fold (layer 8), step by step, of any kind of numbers; where its triangle is fine, its square is the square of what was folded, in fractions. Mathematics alone. -/
namespace Go.Proofs.YtlbmkjicbkfmjaaGreat
open Go.RowKit
set_option linter.unusedSimpArgs false
set_option linter.unusedVariables false

/-- What is done with numbers of a kind. -/
structure Kd (α : Type) where
  z : α
  add : α → α → α
  sub : α → α → α
  mul : α → α → α
  div : α → α → α
  root : α → α
  neg : α → α
  dot : List α → List α → α
/-- A row from column k on. -/
def tailH {α : Type} (m k : Nat) (f : Nat → α) : List α := (List.range (m - k)).map fun j => f (k + j)
/-- What stands on the diagonal behind step k: b tells whether the first number was below 0. -/
def pH {α : Type} (K : Kd α) (m k : Nat) (b : Bool) (a : Nat → Nat → α) : α :=
  if b = true then K.root (K.dot (tailH m k (a k)) (tailH m k (a k))) else K.neg (K.root (K.dot (tailH m k (a k)) (tailH m k (a k))))
/-- The row by which is folded, by its columns. -/
def vH {α : Type} (K : Kd α) (m k : Nat) (b : Bool) (a : Nat → Nat → α) (j : Nat) : α := if j = k then K.sub (a k k) (pH K m k b a) else a k j
def tH {α : Type} (K : Kd α) (m k : Nat) (b : Bool) (a : Nat → Nat → α) (i : Nat) : α :=
  K.div (K.add (K.dot (tailH m k (a i)) (tailH m k (vH K m k b a))) (K.dot (tailH m k (a i)) (tailH m k (vH K m k b a)))) (K.dot (tailH m k (vH K m k b a)) (tailH m k (vH K m k b a)))
def foldStep {α : Type} (K : Kd α) (m k : Nat) (b : Bool) (a : Nat → Nat → α) (i j : Nat) : α :=
  if i = k then (if j = k then pH K m k b a else if k < j then K.z else a i j)
  else if k < i ∧ k ≤ j then K.sub (a i j) (K.mul (vH K m k b a j) (tH K m k b a i)) else a i j
/-- The first steps, with signs that are told ahead. -/
def foldTo {α : Type} (K : Kd α) (m : Nat) (σ : Nat → Bool) (a : Nat → Nat → α) : Nat → Nat → Nat → α
  | 0 => a
  | k + 1 => foldStep K m k (σ k) (foldTo K m σ a k)
/-- With the signs that there are: low tells whether a number is below 0. -/
def foldL {α : Type} (K : Kd α) (low : α → Bool) (m : Nat) (a : Nat → Nat → α) : Nat → Nat → Nat → α
  | 0 => a
  | k + 1 => foldStep K m k (low (foldL K low m a k k k)) (foldL K low m a k)
theorem foldL_to {α : Type} (K : Kd α) (low : α → Bool) (m : Nat) (a : Nat → Nat → α) : ∀ k, foldL K low m a k = foldTo K m (fun k => low (foldL K low m a k k k)) a k
  | 0 => rfl
  | k + 1 => by
    show foldStep K m k (low (foldL K low m a k k k)) (foldL K low m a k) = foldStep K m k (low (foldL K low m a k k k)) (foldTo K m (fun k => low (foldL K low m a k k k)) a k)
    rw [← foldL_to K low m a k]
/-- The triangle at the end, of a square with signs. -/
def signsH {α : Type} (K : Kd α) (τ : Nat → Bool) (a : Nat → Nat → α) (i j : Nat) : α := if j ≤ i ∧ τ j = true then K.neg (a i j) else a i j
def foldH {α : Type} (K : Kd α) (n m : Nat) (σ τ : Nat → Bool) (a : Nat → Nat → α) (i j : Nat) : α := if i < j then K.z else signsH K τ (foldTo K m σ a n) i j
/-- A row that has been gone by stays. -/
theorem foldTo_stays {α : Type} (K : Kd α) (m : Nat) (σ : Nat → Bool) (a : Nat → Nat → α) {i j k : Nat} (h : i < k ∨ (j < k ∧ j < i)) : ∀ d, foldTo K m σ a (k + d) i j = foldTo K m σ a k i j
  | 0 => rfl
  | d + 1 => by
    show foldStep K m (k + d) (σ (k + d)) (foldTo K m σ a (k + d)) i j = _
    have ih := foldTo_stays K m σ a h d
    unfold foldStep
    rcases h with h | ⟨h, h2⟩
    · rw [if_neg (by omega), if_neg (by omega), ih]
    · by_cases hi : i = k + d
      · rw [if_pos hi, if_neg (by omega), if_neg (by omega), ih]
      · rw [if_neg hi, if_neg (by omega), ih]
/-- Right of the diagonal there is z. -/
theorem foldTo_zero {α : Type} (K : Kd α) (m : Nat) (σ : Nat → Bool) (a : Nat → Nat → α) {i j k : Nat} (h : i < k) (hj : i < j) : foldTo K m σ a k i j = K.z := by
  obtain ⟨d, rfl⟩ := Nat.exists_eq_add_of_le h
  rw [foldTo_stays K m σ a (.inl (Nat.lt_succ_self i)) d]
  show foldStep K m i (σ i) (foldTo K m σ a i) i j = _
  unfold foldStep
  rw [if_pos rfl, if_neg (by omega), if_pos hj]
/-- Sums of rational numbers, by their places. -/
def sumH : Nat → (Nat → Rat) → Rat
  | 0, _ => 0
  | n + 1, f => sumH n f + f n
theorem sumH_congr {f g : Nat → Rat} : ∀ n, (∀ j, j < n → f j = g j) → sumH n f = sumH n g
  | 0, _ => rfl
  | n + 1, h => by show sumH n f + f n = sumH n g + g n; rw [sumH_congr n fun j hj => h j (by omega), h n (by omega)]
theorem sumH_zero {f : Nat → Rat} : ∀ n, (∀ j, j < n → f j = 0) → sumH n f = 0
  | 0, _ => rfl
  | n + 1, h => by show sumH n f + f n = 0; rw [sumH_zero n fun j hj => h j (by omega), h n (by omega), Rat.add_zero]
theorem sumH_split (f : Nat → Rat) (k : Nat) : ∀ d, sumH (k + d) f = sumH k f + sumH d fun j => f (k + j)
  | 0 => by show sumH k f = sumH k f + 0; rw [Rat.add_zero]
  | d + 1 => by show sumH (k + d) f + f (k + d) = sumH k f + (sumH d (fun j => f (k + j)) + f (k + d)); rw [sumH_split f k d, Rat.add_assoc]
theorem sumH_lin (f g : Nat → Rat) (s : Rat) : ∀ n, sumH n (fun j => f j - g j * s) = sumH n f - sumH n g * s
  | 0 => by show (0 : Rat) = 0 - 0 * s; grind
  | n + 1 => by show sumH n (fun j => f j - g j * s) + (f n - g n * s) = sumH n f + f n - (sumH n g + g n) * s; rw [sumH_lin f g s n]; grind
theorem dotQ_sumH (f g : Nat → Rat) : ∀ n, dotQ ((List.range n).map f) ((List.range n).map g) = sumH n fun j => f j * g j
  | 0 => rfl
  | n + 1 => by
    rw [List.range_succ, List.map_append, List.map_append, List.map_singleton, List.map_singleton, dotQ_snoc (by simp), dotQ_sumH f g n]
    rfl
/-- What two rows are, from column k on. -/
def dT (m k : Nat) (f g : Nat → Rat) : Rat := sumH (m - k) fun j => f (k + j) * g (k + j)
theorem dT_comm (m k : Nat) (f g : Nat → Rat) : dT m k f g = dT m k g f := sumH_congr _ fun j _ => Rat.mul_comm _ _
theorem dT_subl (m k : Nat) (f v g : Nat → Rat) (t : Rat) : dT m k (fun j => f j - v j * t) g = dT m k f g - dT m k v g * t := by
  unfold dT
  rw [← sumH_lin]
  exact sumH_congr _ fun j _ => by grind
theorem dT_subr (m k : Nat) (f v g : Nat → Rat) (t : Rat) : dT m k g (fun j => f j - v j * t) = dT m k g f - dT m k g v * t := by
  rw [dT_comm, dT_subl, dT_comm m k f g, dT_comm m k v g]
/-- A fold of two rows keeps what they are to one another. -/
theorem dT_fold {m k : Nat} {f g v : Nat → Rat} {t s : Rat} (hv : dT m k v v ≠ 0) (ht : t * dT m k v v = dT m k f v + dT m k f v) (hs : s * dT m k v v = dT m k g v + dT m k g v) :
    dT m k (fun j => f j - v j * t) (fun j => g j - v j * s) = dT m k f g := by
  rw [dT_subl, dT_subr, dT_subr, dT_comm m k v g]
  grind
end Go.Proofs.YtlbmkjicbkfmjaaGreat

/- Rows that lie in blocks of their own and are changed in place: copies of elements of several cells, a table of rows in memory (layer 8). -/
namespace Go.Proofs.YtlbmkjicbkfmjaaGreat
open Go.RowKit
set_option linter.unusedSimpArgs false
set_option linter.unusedVariables false

/-- A row in a block of its own, at or beyond lo, of which no cell is frozen. -/
def RwZ {α : Type} (s : Nat) (c : α → List Value) (w : World) (lo : Nat) (v : Value) (xs : List α) : Prop :=
  ∃ b cap, v = .slice (some ⟨b, 0, none⟩) xs.length cap ∧ xs.length ≤ cap ∧ lo ≤ b ∧ b < w.heap.size ∧ (∀ o, w.frozen? ⟨b, o, none⟩ = false) ∧ ∀ j x, xs[j]? = some x → ∀ k u, (c x)[k]? = some u → w.cell? ⟨b, j * s + k, none⟩ = some u
theorem RwZ.of_own {α : Type} {s : Nat} {c : α → List Value} (hs : ∀ x, (c x).length = s) {w : World} {B : Nat} {e : TypeId} {v : Value} {xs : List α}
    (h : w.ownsRow B e s v xs.length (xs.flatMap c)) (hne : xs ≠ []) : RwZ s c w B v xs := by
  have hlt := h.lt
  have R := Rw.of_own hs h
  rcases R with ⟨rfl, e0⟩ | ⟨b, o, cap, rfl, hc, hb, hx⟩
  · exact absurd e0 hne
  · have h2 := h.2
    rcases h2 with ⟨e1, _⟩ | ⟨g, cap', cur, e1, hB, _⟩
    · cases e1
    · cases e1
      have h3 := h
      exact ⟨b, cap, rfl, hc, hB, hb, fun o => h3.frozenAt o, fun j x hj k u hu => by have := hx j x hj k u hu; rwa [Nat.zero_add] at this⟩
theorem RwZ.rw {α : Type} {s : Nat} {c : α → List Value} {w : World} {lo : Nat} {v : Value} {xs : List α} (h : RwZ s c w lo v xs) : Rw s c w v xs := by
  obtain ⟨b, cap, e, hc, _, hb, _, hx⟩ := h
  exact .inr ⟨b, 0, cap, e, hc, hb, fun j x hj k u hu => by have := hx j x hj k u hu; rwa [Nat.zero_add]⟩
theorem RwZ.later {α : Type} {s : Nat} {c : α → List Value} {w w' : World} {lo : Nat} {v : Value} {xs : List α} (h : RwZ s c w lo v xs) (k : Bl w w') : RwZ s c w' lo v xs := by
  obtain ⟨b, cap, e, hc, hlo, hb, hf, hx⟩ := h
  exact ⟨b, cap, e, hc, hlo, Nat.lt_of_lt_of_le hb (Below.size k), fun o => (bl_froz k _ _ hb).trans (hf o), fun j x hj i u hu => (bl_cell k _ _ hb).trans (hx j x hj i u hu)⟩
theorem RwZ.fresh {α : Type} {s : Nat} {c : α → List Value} {w : World} {lo : Nat} {v : Value} {xs : List α} (h : RwZ s c w lo v xs) : Fresh lo v := by
  obtain ⟨b, cap, rfl, _, hlo, _⟩ := h
  intro g hg; cases hg; exact hlo
/-- But for the blocks of S nothing has turned. -/
structure But (S : Nat → Prop) (w w' : World) : Prop where
  os : w'.os = w.os
  tape : w'.tape = w.tape
  output : w'.output = w.output
  size : w.heap.size ≤ w'.heap.size
  block : ∀ k, k < w.heap.size → ¬ S k → w'.heap[k]? = w.heap[k]?
theorem But.of_bl {S : Nat → Prop} {w w' : World} (h : Bl w w') : But S w w' := ⟨Below.os h, Below.tape h, Below.output h, Below.size h, fun k hk _ => Below.block h k hk⟩
theorem But.refl (S : Nat → Prop) (w : World) : But S w w := But.of_bl (Bl.refl w)
theorem But.trans {S : Nat → Prop} {a b c : World} (h : But S a b) (k : But S b c) : But S a c :=
  ⟨k.os.trans h.os, k.tape.trans h.tape, k.output.trans h.output, Nat.le_trans h.size k.size, fun i hi hs => (k.block i (Nat.lt_of_lt_of_le hi h.size) hs).trans (h.block i hi hs)⟩
theorem But.mono {S T : Nat → Prop} {a b : World} (h : But S a b) (k : ∀ i, S i → T i) : But T a b := ⟨h.os, h.tape, h.output, h.size, fun i hi hs => h.block i hi fun e => hs (k i e)⟩
theorem But.cell {S : Nat → Prop} {a b : World} (h : But S a b) (g o : Nat) (hg : g < a.heap.size) (hs : ¬ S g) : b.cell? ⟨g, o, none⟩ = a.cell? ⟨g, o, none⟩ := World.cell?_of_block (a := ⟨g, o, none⟩) (h.block g hg hs)
theorem But.froz {S : Nat → Prop} {a b : World} (h : But S a b) (g o : Nat) (hg : g < a.heap.size) (hs : ¬ S g) : b.frozen? ⟨g, o, none⟩ = a.frozen? ⟨g, o, none⟩ := World.frozen?_of_block (a := ⟨g, o, none⟩) (h.block g hg hs)
theorem But.bl {S : Nat → Prop} {a b c : World} (h : But S b c) (k : Bl a b) (hs : ∀ i, S i → a.heap.size ≤ i) : Bl a c :=
  ⟨h.os.trans (Below.os k), h.tape.trans (Below.tape k), h.output.trans (Below.output k), Nat.le_trans (Below.size k) h.size, fun i hi => (h.block i (Nat.lt_of_lt_of_le hi (Below.size k)) fun e => by have := hs i e; omega).trans (Below.block k i hi)⟩
theorem Rw.but {α : Type} {s : Nat} {c : α → List Value} {w w' : World} {v : Value} {xs : List α} {S : Nat → Prop} (h : Rw s c w v xs) (k : But S w w') (hs : ∀ g, v.ownBlock = some g → ¬ S g) : Rw s c w' v xs := by
  rcases h with h | ⟨b, o, cap, rfl, hc, hb, hx⟩
  · exact .inl h
  · exact .inr ⟨b, o, cap, rfl, hc, Nat.lt_of_lt_of_le hb k.size, fun j x hj i u hu => (k.cell _ _ hb (hs b rfl)).trans (hx j x hj i u hu)⟩
theorem RwZ.but {α : Type} {s : Nat} {c : α → List Value} {w w' : World} {lo : Nat} {v : Value} {xs : List α} {S : Nat → Prop} (h : RwZ s c w lo v xs) (k : But S w w') (hs : ∀ g, v.ownBlock = some g → ¬ S g) : RwZ s c w' lo v xs := by
  obtain ⟨b, cap, rfl, hc, hlo, hb, hf, hx⟩ := h
  exact ⟨b, cap, rfl, hc, hlo, Nat.lt_of_lt_of_le hb k.size, fun o => (k.froz _ _ hb (hs b rfl)).trans (hf o), fun j x hj i u hu => (k.cell _ _ hb (hs b rfl)).trans (hx j x hj i u hu)⟩
/-- Cells set one behind the other. -/
theorem but_setCells {S : Nat → Prop} {b : Nat} (hb : S b) : ∀ (vs : List Value) (o : Nat) (w0 w : World), But S w0 w → But S w0 (w.setCells b o vs)
  | [], _, _, _, h => h
  | v :: r, o, w0, w, h => by
    show But S w0 ((w.setCell ⟨b, o, none⟩ v).setCells b (o + 1) r)
    refine but_setCells hb r (o + 1) w0 _ ⟨h.os, h.tape, h.output, by simpa using h.size, fun k hk hs => ?_⟩
    exact (Below.heap_setCell _ _ _ k (show k ≠ b from fun e => hs (e ▸ hb))).trans (h.block k hk hs)
theorem setCells_size (b : Nat) : ∀ (vs : List Value) (o : Nat) (w : World), (w.setCells b o vs).heap.size = w.heap.size
  | [], _, _ => rfl
  | v :: r, o, w => by show ((w.setCell ⟨b, o, none⟩ v).setCells b (o + 1) r).heap.size = _; rw [setCells_size b r]; simp
/-- copy of n elements of s cells each. -/
theorem run_copy_s {P : Program} (w : World) (dT sT ty elem : TypeId) (s b o dLen dCap : Nat) (a : Addr) (sLen sCap n : Nat) (cs : List Value)
    (hu : P.underlying dT = some (.slice elem)) (hs : (P.info? elem).map (·.size) = some s) (hn : Nat.min sLen dLen = n) (hl : cs.length = n * s)
    (hsrc : ∀ j v, cs[j]? = some v → w.cell? (a.add j) = some v) (hc : ∀ j, j < cs.length → (w.cell? ⟨b, o + j, none⟩).isSome = true) (hf : ∀ j, j < cs.length → w.frozen? ⟨b, o + j, none⟩ = false) (h1 : ∀ v ∈ cs, v.oneCell' = true) :
    (Builtin.copy_ #[dT, sT] ty #[.slice (some ⟨b, o, none⟩) dLen dCap, .slice (some a) sLen sCap]).run P w = .ok (goInt n) (w.setCells b o cs) := by
  have hld := run_loadCells_list (P := P) w a cs hsrc
  have hst := run_storeCells_cells (P := P) b o cs 0 w (by simpa using hc) (by simpa using hf) h1
  cases hq : P.info? elem with
  | none => simp [hq] at hs
  | some i =>
    have hi : i.size = s := by simpa [hq] using hs
    rw [hl] at hld
    simp [Builtin.copy_, run_underlying hu, Builtin.lenOf, Builtin.firstCells, sizeOf, typeInfo, hq, hi, hn, hld, hst]
theorem wpList_copy_s {P : Program} {w : World} {ops : Array Oper} {rest : List Oper} {o : Oper} {a : Act} {Q : Exit → Act → World → Prop} (hgd : o.guard = none) (d sr : Operand) (dT sT : TypeId)
    (ho : o.op = .call { callee := .builtin .copy, args := #[d, sr], argTypes := #[dT, sT] }) (elem : TypeId) (hu : P.underlying dT = some (.slice elem)) (s : Nat) (hsz : (P.info? elem).map (·.size) = some s)
    (g off dLen dCap : Nat) (ad : Addr) (sLen sCap : Nat) (hd : a.eval d = .slice (some ⟨g, off, none⟩) dLen dCap) (hs : a.eval sr = .slice (some ad) sLen sCap)
    (n : Nat) (cs : List Value) (hn : Nat.min sLen dLen = n) (hl : cs.length = n * s)
    (hsrc : ∀ j v, cs[j]? = some v → w.cell? (ad.add j) = some v) (hc : ∀ j, j < cs.length → (w.cell? ⟨g, off + j, none⟩).isSome = true) (hf : ∀ j, j < cs.length → w.frozen? ⟨g, off + j, none⟩ = false) (h1 : ∀ v ∈ cs, v.oneCell' = true)
    (h : ∀ w', Hid (w' = w.setCells g off cs) → wpList P ops Q rest (a.put o.dst (goInt n)) w') : wpList P ops Q (o :: rest) a w := by
  refine wpList_plain hgd fun K hK => ?_
  have hrun := run_copy_s (P := P) w dT sT o.type elem s g off dLen dCap ad sLen sCap n cs hu hsz hn hl hsrc hc hf h1
  unfold Oper.wp
  simp [execOp, ho, resolve, invoke, builtin, hd, hs, hrun, Result.andThen]
  exact hK _ _ (h _ rfl)
/-- n rows of m numbers each, in blocks of their own, none of them that of the table. -/
structure Tbl {α : Type} (s : Nat) (c : α → List Value) (w : World) (H : Nat) (B cp : Nat → Nat) (n m : Nat) (a : Nat → Nat → α) : Prop where
  hdr : ∀ i, i < n → w.cell? ⟨H, i, none⟩ = some (.slice (some ⟨B i, 0, none⟩) m (cp i))
  hlt : H < w.heap.size
  blt : ∀ i, i < n → B i < w.heap.size
  inj : ∀ i j, i < n → j < n → B i = B j → i = j
  hne : ∀ i, i < n → B i ≠ H
  cap : ∀ i, i < n → m ≤ cp i
  cells : ∀ i j, i < n → j < m → ∀ k u, (c (a i j))[k]? = some u → w.cell? ⟨B i, j * s + k, none⟩ = some u
  froz : ∀ i, i < n → ∀ o, w.frozen? ⟨B i, o, none⟩ = false
/-- The blocks of its rows. -/
def InT (B : Nat → Nat) (n : Nat) (g : Nat) : Prop := ∃ i, i < n ∧ g = B i
theorem Tbl.later {α : Type} {s : Nat} {c : α → List Value} {w w' : World} {H : Nat} {B cp : Nat → Nat} {n m : Nat} {a : Nat → Nat → α} (h : Tbl s c w H B cp n m a) (k : Bl w w') : Tbl s c w' H B cp n m a :=
  ⟨fun i hi => (bl_cell k _ _ h.hlt).trans (h.hdr i hi), Nat.lt_of_lt_of_le h.hlt (Below.size k), fun i hi => Nat.lt_of_lt_of_le (h.blt i hi) (Below.size k), h.inj, h.hne, h.cap,
    fun i j hi hj x u hu => (bl_cell k _ _ (h.blt i hi)).trans (h.cells i j hi hj x u hu), fun i hi o => (bl_froz k _ _ (h.blt i hi)).trans (h.froz i hi o)⟩
theorem Tbl.congr {α : Type} {s : Nat} {c : α → List Value} {w : World} {H : Nat} {B cp : Nat → Nat} {n m : Nat} {a b : Nat → Nat → α} (h : Tbl s c w H B cp n m a) (e : ∀ i j, i < n → j < m → a i j = b i j) : Tbl s c w H B cp n m b :=
  { h with cells := fun i j hi hj => by rw [← e i j hi hj]; exact h.cells i j hi hj }
/-- A part of a row. -/
theorem Tbl.part {α : Type} {s : Nat} {c : α → List Value} {w : World} {H : Nat} {B cp : Nat → Nat} {n m : Nat} {a : Nat → Nat → α} (h : Tbl s c w H B cp n m a) {i k : Nat} (hi : i < n) (hk : k ≤ m) :
    Rq s c w (.slice (some ⟨B i, k * s, none⟩) (m - k) (cp i - k)) (tailH m k (a i)) := by
  have hc := h.cap i hi
  refine .inr ⟨B i, k * s, cp i - k, by simp [tailH], by simp [tailH]; omega, h.blt i hi, fun j x hj q u hu => ?_⟩
  unfold tailH at hj
  have hjl : j < m - k := by have := (List.getElem?_eq_some_iff.1 hj).1; simpa using this
  simp [hjl] at hj
  subst hj
  have := h.cells i (k + j) hi (by omega) q u hu
  rwa [Nat.add_mul] at this
theorem Tbl.first {α : Type} {s : Nat} {c : α → List Value} {w : World} {H : Nat} {B cp : Nat → Nat} {n m : Nat} {a : Nat → Nat → α} (h : Tbl s c w H B cp n m a) {i q : Nat} (hi : i < n) (hq : q ≤ m) :
    Rq s c w (.slice (some ⟨B i, 0, none⟩) q (cp i)) (rowM q a i) := by
  have hc := h.cap i hi
  refine .inr ⟨B i, 0, cp i, by simp [rowM_len], by simp [rowM_len]; omega, h.blt i hi, fun j x hj t u hu => ?_⟩
  have hjl : j < q := by have := (List.getElem?_eq_some_iff.1 hj).1; rwa [rowM_len] at this
  rw [rowM_get a i hjl] at hj
  cases hj
  have := h.cells i j hi (by omega) t u hu
  rwa [Nat.zero_add]
theorem cell_set_some {w : World} {b : Nat} {vs : List Value} {o : Nat} (hs : ∀ j, j < vs.length → (w.cell? ⟨b, o + j, none⟩).isSome = true) {q : Nat} (hq : o ≤ q) (hq2 : q < o + vs.length) {u : Value} (hu : vs[q - o]? = some u) : (w.setCells b o vs).cell? ⟨b, q, none⟩ = some u := by
  have h := World.cell?_setCells_in b vs o w hs (q - o) (by omega)
  rw [show o + (q - o) = q by omega] at h
  rw [h]
  rw [List.getElem?_eq_getElem (by omega)] at hu
  exact hu
theorem flat_get {α : Type} {s : Nat} {c : α → List Value} (hs : ∀ x, (c x).length = s) : ∀ (xs : List α) (i k : Nat) (x : α), xs[i]? = some x → k < s → (xs.flatMap c)[i * s + k]? = (c x)[k]?
  | [], i, k, x, h, _ => by simp at h
  | y :: ys, 0, k, x, h, hk => by
    simp at h
    subst h
    rw [List.flatMap_cons, List.getElem?_append_left (by rw [hs]; omega), Nat.zero_mul, Nat.zero_add]
  | y :: ys, i + 1, k, x, h, hk => by
    rw [List.flatMap_cons, List.getElem?_append_right (by rw [hs, Nat.add_mul]; omega), hs, show (i + 1) * s + k - s = i * s + k by rw [Nat.add_mul]; omega]
    exact flat_get hs ys i k x (by simpa using h) hk
/-- A part of a row set anew. -/
theorem Tbl.put {α : Type} {s : Nat} {c : α → List Value} (hs : ∀ x, (c x).length = s) {w : World} {H : Nat} {B cp : Nat → Nat} {n m : Nat} {a b : Nat → Nat → α} (h : Tbl s c w H B cp n m a) {i k : Nat} {xs : List α} (hi : i < n) (hk : k + xs.length ≤ m)
    (e1 : ∀ j, j < xs.length → xs[j]? = some (b i (k + j))) (e2 : ∀ i' j, i' < n → j < m → ¬ (i' = i ∧ k ≤ j ∧ j < k + xs.length) → b i' j = a i' j) :
    Tbl s c (w.setCells (B i) (k * s) (xs.flatMap c)) H B cp n m b ∧ But (InT B n) w (w.setCells (B i) (k * s) (xs.flatMap c)) := by
  have hb : But (InT B n) w (w.setCells (B i) (k * s) (xs.flatMap c)) := but_setCells ⟨i, hi, rfl⟩ _ _ _ _ (But.refl _ _)
  have hfl := flat_len hs xs
  have some : ∀ j, j < (xs.flatMap c).length → (w.cell? ⟨B i, k * s + j, none⟩).isSome = true := fun j hj => by
    rw [hfl] at hj
    have hs0 : 0 < s := by rcases Nat.eq_zero_or_pos s with e | e; · subst e; simp at hj
                           · exact e
    have hd : j / s < xs.length := by rw [Nat.div_lt_iff_lt_mul hs0]; exact hj
    have hm : j % s < s := Nat.mod_lt _ hs0
    have hj' : j = j / s * s + j % s := by rw [Nat.mul_comm]; exact (Nat.div_add_mod j s).symm
    have := h.cells i (k + j / s) hi (by omega) (j % s) _ (List.getElem?_eq_getElem (by rw [hs]; exact hm))
    rw [show k * s + j = (k + j / s) * s + j % s by rw [Nat.add_mul]; omega, this]
    rfl
  refine ⟨⟨fun i' hi' => ?_, by rw [setCells_size]; exact h.hlt, fun i' hi' => by rw [setCells_size]; exact h.blt i' hi', h.inj, h.hne, h.cap, fun i' j hi' hj q u hu => ?_, fun i' hi' o => by rw [World.frozen?_setCells]; exact h.froz i' hi' o⟩, hb⟩
  · rw [World.cell?_setCells_out _ _ _ _ _ (fun e _ => absurd e.symm (h.hne i hi))]
    exact h.hdr i' hi'
  · by_cases hin : i' = i ∧ k ≤ j ∧ j < k + xs.length
    · obtain ⟨rfl, h1, h2⟩ := hin
      have hql : q < s := by have := (List.getElem?_eq_some_iff.1 hu).1; rwa [hs] at this
      have hx := e1 (j - k) (by omega)
      rw [show k + (j - k) = j by omega] at hx
      have hg := flat_get hs xs (j - k) q _ hx hql
      rw [hu] at hg
      have hjk : j * s = k * s + (j - k) * s := by rw [← Nat.add_mul]; congr 1; omega
      have hle : (j - k) * s + s ≤ xs.length * s := by rw [← Nat.succ_mul]; exact Nat.mul_le_mul_right _ (by omega)
      refine cell_set_some some (by omega) (by rw [hfl]; omega) ?_
      rw [show j * s + q - k * s = (j - k) * s + q by omega]
      exact hg
    · have ho := e2 i' j hi' hj hin
      rw [ho] at hu
      have hql : q < s := by have := (List.getElem?_eq_some_iff.1 hu).1; rwa [hs] at this
      rw [World.cell?_setCells_out _ _ _ _ _ (fun e _ => ?_)]
      · exact h.cells i' j hi' hj q u hu
      · simp only at e
        have hii : i' = i := h.inj i' i hi' hi e
        subst hii
        have hcase : j < k ∨ k + xs.length ≤ j := by
          rcases Nat.lt_or_ge j k with h1 | h1
          · exact .inl h1
          · exact .inr (Nat.le_of_not_lt fun h2 => hin ⟨rfl, h1, h2⟩)
        simp only
        rw [hfl]
        rcases hcase with h1 | h1
        · left
          have : (j + 1) * s ≤ k * s := Nat.mul_le_mul_right _ h1
          rw [Nat.add_mul] at this
          omega
        · right
          have : (k + xs.length) * s ≤ j * s := Nat.mul_le_mul_right _ h1
          rw [Nat.add_mul] at this
          omega
/-- A row less another one times what the two of them say. -/
def lessH {α : Type} (K : Kd α) (ws vs : List α) (q : α) : List α := List.zipWith K.sub ws (vs.map fun x => K.mul x (K.div (K.add (K.dot ws vs) (K.dot ws vs)) q))
theorem tail_len {α : Type} (m k : Nat) (f : Nat → α) : (tailH m k f).length = m - k := by simp [tailH]
theorem tail_get {α : Type} {m k j : Nat} (f : Nat → α) (h : j < m - k) : (tailH m k f)[j]? = some (f (k + j)) := by simp [tailH, h]
theorem tail_ext {α : Type} {m k : Nat} {f : Nat → α} {xs : List α} (hl : xs.length = m - k) (h : ∀ j, j < m - k → xs[j]? = some (f (k + j))) : xs = tailH m k f := by
  refine List.ext_getElem? fun j => ?_
  by_cases hj : j < m - k
  · rw [h j hj, tail_get f hj]
  · rw [List.getElem?_eq_none (by omega), List.getElem?_eq_none (by rw [tail_len]; omega)]
theorem tail_congrH {α : Type} {m k : Nat} {f g : Nat → α} (h : ∀ j, k ≤ j → j < m → f j = g j) : tailH m k f = tailH m k g :=
  tail_ext (tail_len _ _ _) fun j hj => by rw [tail_get f hj, h (k + j) (by omega) (by omega)]
/-- What a row is less, number by number. -/
theorem less_get {α : Type} (K : Kd α) (m k : Nat) (b : Bool) (a : Nat → Nat → α) (i : Nat) (hi : k < i) : lessH K (tailH m k (a i)) (tailH m k (vH K m k b a)) (K.dot (tailH m k (vH K m k b a)) (tailH m k (vH K m k b a))) = tailH m k (foldStep K m k b a i) := by
  refine tail_ext (by simp [lessH, tail_len]) fun j hj => ?_
  unfold lessH
  rw [List.getElem?_zipWith, List.getElem?_map, tail_get _ hj, tail_get _ hj]
  show some _ = some _
  unfold foldStep
  rw [if_neg (by omega), if_pos ⟨hi, by omega⟩]
  rfl
/-- The first d rows below row k are those of b. -/
def partH {α : Type} (k d : Nat) (b a : Nat → Nat → α) (i c : Nat) : α := if k < i ∧ i ≤ k + d then b i c else a i c
theorem partH_zero {α : Type} (k : Nat) (b a : Nat → Nat → α) : partH k 0 b a = a := by
  funext i c
  unfold partH
  rw [if_neg (by omega)]
/-- What a made row has got is copied over. -/
theorem RwZ.copy {α : Type} {s : Nat} {c : α → List Value} (hs : ∀ x, (c x).length = s) {w : World} {B g n cap : Nat} {e : TypeId} {L : List Value} (h : w.ownsRow B e s (.slice (some ⟨g, 0, none⟩) n cap) n L) {xs : List α} (hx : xs.length = n) (h0 : 0 < n) :
    RwZ s c (w.setCells g (0 * s) (xs.flatMap c)) B (.slice (some ⟨g, 0, none⟩) n cap) xs ∧ (∀ j, j < (xs.flatMap c).length → (w.cell? ⟨g, 0 + j, none⟩).isSome = true) ∧ (∀ j, w.frozen? ⟨g, 0 + j, none⟩ = false) := by
  have hfz : ∀ j, w.frozen? ⟨g, j, none⟩ = false := fun j => h.frozenAt j
  have hlt := h.lt g rfl
  have hL := h.1
  have hfl := flat_len hs xs
  have hsm : ∀ j, j < (xs.flatMap c).length → (w.cell? ⟨g, 0 + j, none⟩).isSome = true := fun j hj => by
    rw [hfl, hx] at hj
    have := h.cells rfl j _ (List.getElem?_eq_getElem (by omega))
    have hadd : (⟨g, 0, none⟩ : Addr).add j = ⟨g, 0 + j, none⟩ := by unfold Addr.add; split <;> simp_all
    rw [hadd] at this
    rw [this]; rfl
  have hcap : n ≤ cap := by
    rcases h.2 with ⟨e1, _⟩ | ⟨g', cap', cur, e1, _, _, h1, _⟩
    · cases e1
    · cases e1; exact h1
  refine ⟨⟨g, cap, by rw [hx], by omega, hlt.1, by rw [setCells_size]; exact hlt.2, fun o => by rw [World.frozen?_setCells]; exact hfz o, fun j x hj k u hu => ?_⟩, hsm, fun j => hfz _⟩
  have hk : k < s := by have := (List.getElem?_eq_some_iff.1 hu).1; rwa [hs] at this
  have hj' : j < xs.length := (List.getElem?_eq_some_iff.1 hj).1
  have hg := flat_get hs xs j k x hj hk
  rw [hu] at hg
  have hle : j * s + s ≤ xs.length * s := by rw [← Nat.succ_mul]; exact Nat.mul_le_mul_right _ hj'
  rw [Nat.zero_mul]
  exact cell_set_some hsm (Nat.zero_le _) (by rw [hfl]; omega) (by rw [Nat.sub_zero]; exact hg)
/-- Its first number set anew. -/
theorem RwZ.put0 {α : Type} {s : Nat} {c : α → List Value} (hs : ∀ x, (c x).length = s) {w : World} {B g n cap : Nat} {x y : α} {xs : List α} (h : RwZ s c w B (.slice (some ⟨g, 0, none⟩) n cap) (x :: xs)) :
    RwZ s c (w.setCells g 0 (c y)) B (.slice (some ⟨g, 0, none⟩) n cap) (y :: xs) := by
  obtain ⟨b, cap', e, hc, hlo, hb, hf, hx⟩ := h
  cases e
  refine ⟨g, cap, rfl, hc, hlo, by rw [setCells_size]; exact hb, fun o => by rw [World.frozen?_setCells]; exact hf o, fun j z hj k u hu => ?_⟩
  have hk : k < s := by have := (List.getElem?_eq_some_iff.1 hu).1; rwa [hs] at this
  cases j with
  | zero =>
    simp at hj
    subst hj
    rw [Nat.zero_mul, Nat.zero_add]
    refine cell_set_some (fun j hj => ?_) (Nat.zero_le _) (by rw [hs]; omega) (by rw [Nat.sub_zero]; exact hu)
    rw [hs] at hj
    have := hx 0 x rfl j _ (List.getElem?_eq_getElem (by rw [hs]; exact hj))
    rw [Nat.zero_mul] at this
    rw [this]; rfl
  | succ j =>
    rw [World.cell?_setCells_out _ _ _ _ _ (fun _ _ => .inr (by show 0 + (c y).length ≤ (j + 1) * s + k; rw [hs, Nat.add_mul]; omega))]
    exact hx (j + 1) z (by simpa using hj) k u hu
theorem tail_consH {α : Type} {m k : Nat} (f : Nat → α) (h : k < m) : tailH m k f = f k :: (List.range (m - k - 1)).map fun j => f (k + 1 + j) := by
  symm
  refine tail_ext (by simp; omega) fun j hj => ?_
  cases j with
  | zero => simp
  | succ j =>
    rw [List.getElem?_cons_succ, List.getElem?_map, List.getElem?_range (by omega)]
    exact congrArg some (congrArg f (by omega))
theorem add_off (a : Addr) (j : Nat) (h : a.spot = none) : a.add j = ⟨a.block, a.off + j, none⟩ := by
  obtain ⟨b, o, s⟩ := a
  simp only at h
  subst h
  unfold Addr.add
  split <;> simp_all
theorem bl_setCells {w0 : World} {b : Nat} : ∀ {w : World}, Bl w0 w → w0.heap.size ≤ b → ∀ (vs : List Value) (o : Nat), Bl w0 (w.setCells b o vs) := by
  intro w h hb vs o
  induction vs generalizing w o with
  | nil => exact h
  | cons v vs ih => exact ih (Bl.set h hb v) (o + 1)
theorem RwZ.glt {α : Type} {s : Nat} {c : α → List Value} {w : World} {lo g n cap : Nat} {xs : List α} (h : RwZ s c w lo (.slice (some ⟨g, 0, none⟩) n cap) xs) : g < w.heap.size := by
  obtain ⟨b, cap', e, _, _, hb, _⟩ := h
  cases e
  exact hb
/-- The cells of a part of a row are there. -/
theorem Tbl.somes {α : Type} {s : Nat} {c : α → List Value} (hs : ∀ x, (c x).length = s) {w : World} {H : Nat} {B cp : Nat → Nat} {n m : Nat} {a : Nat → Nat → α} (h : Tbl s c w H B cp n m a) {i k : Nat} {xs : List α} (hi : i < n) (hk : k + xs.length ≤ m) :
    ∀ j, j < (xs.flatMap c).length → (w.cell? ⟨B i, k * s + j, none⟩).isSome = true := fun j hj => by
  rw [flat_len hs] at hj
  have hs0 : 0 < s := by
    rcases Nat.eq_zero_or_pos s with e | e
    · subst e; simp at hj
    · exact e
  have hd : j / s < xs.length := by rw [Nat.div_lt_iff_lt_mul hs0]; exact hj
  have hm : j % s < s := Nat.mod_lt _ hs0
  have hj' : j = j / s * s + j % s := by rw [Nat.mul_comm]; exact (Nat.div_add_mod j s).symm
  have := h.cells i (k + j / s) hi (by omega) (j % s) _ (List.getElem?_eq_getElem (by rw [hs]; exact hm))
  rw [show k * s + j = (k + j / s) * s + j % s by rw [Nat.add_mul]; omega, this]
  rfl
/-- Column k from the diagonal on, down to row i, told by h. -/
def negTo {α : Type} (h : α → α) (k i : Nat) (f : Nat → Nat → α) (a b : Nat) : α := if b = k ∧ k ≤ a ∧ a < i then h (f a b) else f a b
theorem negTo_next {α : Type} (h : α → α) {k i : Nat} (hi : k ≤ i) (f : Nat → Nat → α) : negTo h k (i + 1) f = putM (negTo h k i f) i k (h (negTo h k i f i k)) := by
  funext a b
  unfold putM negTo
  by_cases h1 : a = i ∧ b = k
  · rw [if_pos h1, if_pos (by omega), if_neg (by omega)]
    obtain ⟨rfl, rfl⟩ := h1
    rfl
  · rw [if_neg h1]
    by_cases h2 : b = k ∧ k ≤ a ∧ a < i
    · rw [if_pos h2, if_pos (by omega)]
    · rw [if_neg h2, if_neg (by omega)]
/-- A number of a row set anew. -/
theorem RwZ.putAt {α : Type} {s : Nat} {c : α → List Value} (hs : ∀ x, (c x).length = s) {w : World} {B g n cap : Nat} {xs : List α} (h : RwZ s c w B (.slice (some ⟨g, 0, none⟩) n cap) xs) {q : Nat} (hq : q < xs.length) (y : α) :
    RwZ s c (w.setCells g (q * s) (c y)) B (.slice (some ⟨g, 0, none⟩) n cap) (xs.set q y) := by
  obtain ⟨b, cap', e, hc, hlo, hb, hf, hx⟩ := h
  simp only [Value.slice.injEq, Option.some.injEq, Addr.mk.injEq] at e
  obtain ⟨⟨rfl, _⟩, rfl, rfl⟩ := e
  refine ⟨g, cap, by simp, by simpa using hc, hlo, by rw [setCells_size]; exact hb, fun o => by rw [World.frozen?_setCells]; exact hf o, fun j z hj k u hu => ?_⟩
  have hk : k < s := by have := (List.getElem?_eq_some_iff.1 hu).1; rwa [hs] at this
  rw [List.getElem?_set] at hj
  by_cases hqj : q = j
  · subst hqj
    rw [if_pos rfl, if_pos hq] at hj
    cases hj
    refine cell_set_some (fun t ht => ?_) (by omega) (by rw [hs]; omega) (by rw [Nat.add_sub_cancel_left]; exact hu)
    rw [hs] at ht
    have := hx q _ (List.getElem?_eq_getElem hq) t _ (List.getElem?_eq_getElem (by rw [hs]; exact ht))
    rw [this]; rfl
  · rw [if_neg hqj] at hj
    rw [World.cell?_setCells_out _ _ _ _ _ (fun _ _ => ?_)]
    · exact hx j z hj k u hu
    · show j * s + k < q * s ∨ q * s + (c y).length ≤ j * s + k
      rw [hs]
      rcases Nat.lt_or_gt_of_ne hqj with h1 | h1
      · right
        have : (q + 1) * s ≤ j * s := Nat.mul_le_mul_right _ h1
        rw [Nat.add_mul] at this
        omega
      · left
        have : (j + 1) * s ≤ q * s := Nat.mul_le_mul_right _ h1
        rw [Nat.add_mul] at this
        omega
/-- The first j columns with their signs set. -/
def sgTo {α : Type} (h : α → α) (low : α → Bool) (j : Nat) (f : Nat → Nat → α) (a b : Nat) : α := if b < j ∧ b ≤ a ∧ low (f b b) = true then h (f a b) else f a b
theorem sgTo_yes {α : Type} (h : α → α) (low : α → Bool) {j n : Nat} {f : Nat → Nat → α} (hl : low (f j j) = true) {a b : Nat} (ha : a < n) : negTo h j n (sgTo h low j f) a b = sgTo h low (j + 1) f a b := by
  unfold negTo sgTo
  by_cases h1 : b = j ∧ j ≤ a ∧ a < n
  · obtain ⟨rfl, h2, h3⟩ := h1
    rw [if_pos ⟨rfl, h2, h3⟩, if_neg (by omega), if_pos ⟨by omega, h2, hl⟩]
  · rw [if_neg h1]
    by_cases h2 : b < j ∧ b ≤ a ∧ low (f b b) = true
    · rw [if_pos h2, if_pos ⟨by omega, h2.2⟩]
    · rw [if_neg h2, if_neg]
      rintro ⟨h3, h4, h5⟩
      by_cases h6 : b = j
      · subst h6; exact h1 ⟨rfl, h4, ha⟩
      · exact h2 ⟨by omega, h4, h5⟩
theorem sgTo_no {α : Type} (h : α → α) (low : α → Bool) {j : Nat} {f : Nat → Nat → α} (hl : low (f j j) = false) {a b : Nat} : sgTo h low (j + 1) f a b = sgTo h low j f a b := by
  unfold sgTo
  by_cases h2 : b < j ∧ b ≤ a ∧ low (f b b) = true
  · rw [if_pos h2, if_pos ⟨by omega, h2.2⟩]
  · rw [if_neg h2, if_neg]
    rintro ⟨h3, h4, h5⟩
    by_cases h6 : b = j
    · subst h6; rw [hl] at h5; cases h5
    · exact h2 ⟨by omega, h4, h5⟩
theorem sgTo_all {α : Type} {K : Kd α} (h : α → α) (low : α → Bool) {n : Nat} {f : Nat → Nat → α} {a b : Nat} (hb : b < n) (hk : K.neg = h := by rfl) : sgTo h low n f a b = signsH K (fun j => low (f j j)) f a b := by
  subst hk
  unfold sgTo signsH
  by_cases h2 : b ≤ a ∧ low (f b b) = true
  · rw [if_pos ⟨hb, h2⟩, if_pos h2]
  · rw [if_neg h2, if_neg fun h => h2 h.2]
end Go.Proofs.YtlbmkjicbkfmjaaGreat
