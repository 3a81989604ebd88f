/- Contracts of vec's whole, Sum, Whole, Scale, of fractions (layer 5). Written by genVe.py. -/
import Derived.Test.YtljmggemdkfbiaaGreatVeR
import Derived.Test.YtljmggemdkfbiaaGreatFr5
namespace Go.Proofs.YtljmggemdkfbiaaGreat
open Go.RowKit
set_option linter.unusedSimpArgs false
set_option linter.unusedVariables false

theorem Tryz.mOfF (x : Value) (w : World) : (method 327 34 x "Of").run Tryz.prog w = .ok (189, x) w := by kernel_rfl
theorem Tryz.mAddF (x : Value) (w : World) : (method 327 34 x "Add").run Tryz.prog w = .ok (184, x) w := by kernel_rfl
theorem Tryz.mSubF (x : Value) (w : World) : (method 327 34 x "Sub").run Tryz.prog w = .ok (192, x) w := by kernel_rfl
theorem Tryz.mMulF (x : Value) (w : World) : (method 327 34 x "Mul").run Tryz.prog w = .ok (187, x) w := by kernel_rfl
theorem Tryz.info_F : (Tryz.prog.info? 34).map (fun i => (i.zero, i.size, i.bytes)) = some (some (.agg #[.int .i64 0, .int .i64 0, .bool false]), 3, 24) := by kernel_rfl

/-- A number's cells. -/
def cellsF (x : Fr) : List Value := [.int .i64 x.n, .int .i64 x.d, .bool x.bad]
theorem cellsF_len (x : Fr) : (cellsF x).length = 3 := rfl
theorem FBox.fill {u : World} {p : Nat} {r : Fr} (h : FBox u p r) (x : Fr) : FBox (((u.setCell ⟨p, 0, none⟩ (.int .i64 x.n)).setCell ⟨p, 1, none⟩ (.int .i64 x.d)).setCell ⟨p, 2, none⟩ (.bool x.bad)) p x := by
  obtain ⟨c0, c1, c2, f0, f1, f2, lt⟩ := h
  refine ⟨?_, ?_, ?_, ?_, ?_, ?_, ?_⟩ <;> simp [go_sem, *]
theorem FBox.oth {u : World} {p q : Nat} {r : Fr} (h : FBox u p r) (hne : p ≠ q) (y0 y1 y2 : Value) : FBox (((u.setCell ⟨q, 0, none⟩ (y0)).setCell ⟨q, 1, none⟩ (y1)).setCell ⟨q, 2, none⟩ (y2)) p r := by
  obtain ⟨c0, c1, c2, f0, f1, f2, lt⟩ := h
  have hne' := hne.symm
  refine ⟨?_, ?_, ?_, ?_, ?_, ?_, ?_⟩ <;> simp [go_sem, *]

theorem vwholeF (n : Int) (w : World) :
    Calls Tryz.prog 53 #[.int .i64 n] w fun e w' => e = .returned (frV (newR n 1)) ∧ Bl w w' := by
  have iv := Tryz.mOfF
  obtain ⟨W, hW⟩ : ∃ W, W = (w.alloc (.cells #[.int .i64 0, .int .i64 0, .bool false] 34)).alloc (.cells #[.int .i64 0, .int .i64 0, .bool false] 34) := ⟨_, rfl⟩
  have b0 : Bl w W := by rw [hW]; exact ((Bl.refl _).alloc _).alloc _
  have x0 : FBox W w.heap.size zeroR := by rw [hW]; exact (FBox.new w zeroR _).later ((Bl.refl _).alloc _)
  have HW := hideP hW
  clear hW
  have OF := hideP (rof_any zeroR n)
  generalize (newR n 1) = r at *
  go_enter Tryz.func53, Tryz.ntmps53
  go_wp2_with fail
  rw [← HW.out]
  refine (OF.out _).mono ?_
  rintro e w1 ⟨rfl, h1⟩
  obtain ⟨c0, c1, c2, f0, f1, f2, lt⟩ := x0.later h1
  clear iv
  go_wp2
  simp [bodyPost, results, Tryz.results53, go_sem, c0, c1, c2]
  exact Bl.set3 (b0.trans h1) (Nat.le_refl _) _ _ _

/-- The sum of all, from 0 on. -/
def sumF (xs : List Fr) : Fr := xs.foldl addR (newR 0 1)
theorem sumF_snoc (xs : List Fr) (k : Nat) (x : Fr) (h : xs[k]? = some x) : sumF (xs.take (k + 1)) = addR (sumF (xs.take k)) x := by
  unfold sumF
  rw [List.take_add_one, h]
  simp

set_option maxHeartbeats 1000000 in
theorem vsumF (v : Value) (xs : List Fr) (w : World) (h : Rq 3 cellsF w v xs) (hl : xs.length ≤ 1000000) :
    Calls Tryz.prog 92 #[v] w fun e w' => e = .returned (frV (sumF xs)) ∧ Bl w w' := by
  have iv := Tryz.mAddF
  obtain ⟨W, hW⟩ : ∃ W, W = w.alloc (.cells #[.int .i64 0, .int .i64 0, .bool false] 34) := ⟨_, rfl⟩
  have b0 : Bl w W := by rw [hW]; exact (Bl.refl _).alloc _
  have x0 : FBox W w.heap.size zeroR := by rw [hW]; exact FBox.new w zeroR _
  have HW := hideP hW
  clear hW
  rcases h with ⟨p, cap, rfl, rfl, hpn⟩ | ⟨b, o, cap, rfl, hc, hb, hx⟩
  · go_enter Tryz.func92, Tryz.ntmps92
    go_wp2_with fail
    rw [← HW.out]
    refine (vwholeF 0 _).mono ?_
    rintro e w1 ⟨rfl, h1⟩
    go_wp2_with fail
    go_loopw [9] (fun i wr => i = .int .i64 0 ∧ FBox wr w1.heap.size (sumF []) ∧ FBox wr w.heap.size zeroR ∧ Bl w wr) (fun i _ => 0)
    case atStart => exact ⟨rfl, FBox.new w1 (newR 0 1) _, (x0.later h1).later ((Bl.refl _).alloc _), (b0.trans h1).alloc _⟩
    case round =>
      obtain ⟨rfl, bs, bz, bl⟩ := hrel
      obtain ⟨c0, c1, c2, f0, f1, f2, lt⟩ := bs
      obtain ⟨d0, d1, d2, g0, g1, g2, zlt⟩ := bz
      go_wp2
      simp [bodyPost, results, Tryz.results92, go_sem, d0, d1, d2]
      exact Bl.set3 bl (Nat.le_refl _) _ _ _
  · have HX := hideP hx
    clear hx
    go_enter Tryz.func92, Tryz.ntmps92
    go_wp2_with fail
    rw [← HW.out]
    refine (vwholeF 0 _).mono ?_
    rintro e w1 ⟨rfl, h1⟩
    generalize hz : (newR 0 1) = z at *
    go_wp2_with fail
    go_loopw [9] (fun i wr => ∃ k : Nat, i = .int .i64 k ∧ k ≤ xs.length ∧ FBox wr w1.heap.size (sumF (xs.take k)) ∧ FBox wr w.heap.size zeroR ∧ Bl w wr) (fun i _ => xs.length - (intOf i).toNat)
    case atStart =>
      refine ⟨0, rfl, Nat.zero_le _, ?_, (x0.later h1).later ((Bl.refl _).alloc _), (b0.trans h1).alloc _⟩
      have : sumF (xs.take 0) = z := by rw [← hz]; rfl
      rw [this]
      exact FBox.new w1 z _
    case round =>
      obtain ⟨k, rfl, hk, bs, bz, bl⟩ := hrel
      by_cases hlt : k < xs.length
      · obtain ⟨x, hx⟩ : ∃ x, xs[k]? = some x := ⟨_, List.getElem?_eq_getElem hlt⟩
        obtain ⟨c0, c1, c2, f0, f1, f2, lt⟩ := bs
        have CX : ∀ j u, (cellsF x)[j]? = some u → wr.cell? ⟨b, o + k * 3 + j, none⟩ = some u := fun j u hu => (bl_cell bl _ _ hb).trans (HX.out k x hx j u hu)
        have y0 : wr.cell? ⟨b, o + k * 3, none⟩ = some (.int .i64 x.n) := CX 0 _ rfl
        have y1 : wr.cell? ⟨b, o + k * 3 + 1, none⟩ = some (.int .i64 x.d) := CX 1 _ rfl
        have y2 : wr.cell? ⟨b, o + k * 3 + 2, none⟩ = some (.bool x.bad) := CX 2 _ rfl
        clear CX
        go_wp2_with fail
        refine (radd_any _ _ _).mono ?_
        rintro e w2 ⟨rfl, h2⟩
        have bl2 : Bl wr w2 := ((Bl.refl _).alloc _).trans h2
        have bs2 := (⟨c0, c1, c2, f0, f1, f2, lt⟩ : FBox wr w1.heap.size (sumF (xs.take k))).later bl2
        have bz2 := bz.later bl2
        clear c0 c1 c2 f0 f1 f2 y0 y1 y2
        obtain ⟨c0, c1, c2, f0, f1, f2, lt2⟩ := id bs2
        have SN := hideP (sumF_snoc xs k x hx)
        generalize hS : addR (sumF (xs.take k)) x = S at *
        go_wp2
        go_roundw
        case rel =>
          refine ⟨k + 1, by simp, hlt, ?_, ?_, ?_⟩
          · rw [SN.out]; exact bs2.fill S
          · exact bz2.oth (by have := b0.size; have := h1.size; have := x0.lt; omega) _ _ _
          · exact Bl.set3 (bl.trans bl2) (by have := b0.size; have := h1.size; omega) _ _ _
        case measure => simp [intOf]; omega
      · have hk' : k = xs.length := by omega
        subst hk'
        rw [List.take_length] at bs
        obtain ⟨c0, c1, c2, f0, f1, f2, lt⟩ := bs
        obtain ⟨d0, d1, d2, g0, g1, g2, zlt⟩ := bz
        go_wp2
        simp [bodyPost, results, Tryz.results92, go_sem, d0, d1, d2]
        exact Bl.set3 bl (Nat.le_refl _) _ _ _

/-- The relation behind an append of one number. -/
theorem ownF_step {w wr w1 : World} {v v' : Value} {xs : List Fr} {x : Fr} {o : Obj} (hb : Bl w wr) (hown : wr.ownsRow w.heap.size 34 3 v xs.length (xs.flatMap cellsF))
    (hown' : w1.ownsRow w.heap.size 34 3 v' (xs.length + 1) (xs.flatMap cellsF ++ cellsF x)) (hg : (wr.alloc o).grownBy w1 v.ownBlock) :
    Bl w w1 ∧ w1.ownsRow w.heap.size 34 3 v' (xs ++ [x]).length ((xs ++ [x]).flatMap cellsF) := by
  refine ⟨Below.grown (Below.alloc hb hb.size o) hg (by have := hb.size; simp; omega) (fun k hk => (hown.lt k hk).1), ?_⟩
  simpa [List.flatMap_append] using hown'
/-- What is owned is so behind a call that turns nothing. -/
theorem own_blF {w w' : World} {B n : Nat} {v : Value} {l : List Value} (h : w.ownsRow B 34 3 v n l) (k : Bl w w') : w'.ownsRow B 34 3 v n l := by
  refine ⟨h.1, ?_⟩
  rcases h.2 with hn | ⟨g, cap, cur, rfl, hb, hg, rest⟩
  · exact .inl hn
  · exact .inr ⟨g, cap, cur, rfl, hb, (Below.block k g (Array.getElem?_eq_some_iff.1 hg).1).trans hg, rest⟩
/-- As ownF_step, of a row that lies at or beyond n₀. -/
theorem ownF_step' {n₀ : Nat} {w wr w1 : World} {v v' : Value} {xs : List Fr} {x : Fr} {o : Obj} (hb : Bl w wr) (hn : w.heap.size ≤ n₀) (hown : wr.ownsRow n₀ 34 3 v xs.length (xs.flatMap cellsF))
    (hown' : w1.ownsRow n₀ 34 3 v' (xs.length + 1) (xs.flatMap cellsF ++ cellsF x)) (hg : (wr.alloc o).grownBy w1 v.ownBlock) :
    Bl w w1 ∧ w1.ownsRow n₀ 34 3 v' (xs ++ [x]).length ((xs ++ [x]).flatMap cellsF) := by
  refine ⟨Below.grown (Below.alloc hb hb.size o) hg (by have := hb.size; simp; omega) (fun k hk => by have := (hown.lt k hk).1; omega), ?_⟩
  simpa [List.flatMap_append] using hown'
/-- A number's block that lies below n₀ abides an append to a row that lies at or beyond it. -/
theorem FBox.grown {n₀ n p : Nat} {w wr w1 : World} {v : Value} {l : List Value} {x : Fr} (h : FBox w p x) (hb : Bl w wr) (hown : w.ownsRow n₀ 34 3 v n l) (hg : wr.grownBy w1 v.ownBlock) (hp : p < n₀) : FBox w1 p x := by
  have h' := h.later hb
  have hk : w1.heap[p]? = wr.heap[p]? := hg.block p h'.lt (fun e => by have := (hown.lt p e.symm).1; omega)
  obtain ⟨c0, c1, c2, f0, f1, f2, lt⟩ := h'
  exact ⟨(World.cell?_of_block (a := ⟨p, 0, none⟩) hk).trans c0, (World.cell?_of_block (a := ⟨p, 1, none⟩) hk).trans c1, (World.cell?_of_block (a := ⟨p, 2, none⟩) hk).trans c2, (World.frozen?_of_block (a := ⟨p, 0, none⟩) hk).trans f0, (World.frozen?_of_block (a := ⟨p, 1, none⟩) hk).trans f1, (World.frozen?_of_block (a := ⟨p, 2, none⟩) hk).trans f2, by have := hg.size; omega⟩
/-- The cells of a number that was just laid. -/
theorem newF_cells (w : World) (x : Fr) (t : TypeId) : ∀ j u, (cellsF x)[j]? = some u → (w.alloc (.cells #[.int .i64 x.n, .int .i64 x.d, .bool x.bad] t)).cell? ((⟨w.heap.size, 0, none⟩ : Addr).add j) = some u := by
  intro j u hu
  have hadd : (⟨w.heap.size, 0, none⟩ : Addr).add j = ⟨w.heap.size, j, none⟩ := by unfold Addr.add; split <;> simp_all
  rw [hadd]
  have h := FBox.new w x t
  unfold cellsF at hu
  rcases j with _ | _ | _ | j
  · simp at hu; rw [← hu]; exact h.c0
  · simp at hu; rw [← hu]; exact h.c1
  · simp at hu; rw [← hu]; exact h.c2
  · simp at hu
theorem oneF_cells (x : Fr) : ∀ u ∈ cellsF x, u.oneCell' = true := by
  intro u hu
  unfold cellsF at hu
  simp only [List.mem_cons, List.not_mem_nil, or_false] at hu
  rcases hu with rfl | rfl | rfl <;> rfl

/-- Whole numbers, of this kind. -/
def wholeF (n : Int) : Fr := newR n 1
set_option maxHeartbeats 1000000 in
theorem vWholeF' (v : Value) (ns : List Int) (w : World) (h : Rq 1 (fun n => [.int .i64 n]) w v ns) (hl : ns.length ≤ 1000000) :
    Calls Tryz.prog 16 #[v] w fun e w' => ∃ u, e = .returned u ∧ Rw 3 cellsF w' u (ns.map wholeF) ∧ Fresh w.heap.size u ∧ Bl w w' := by
  obtain ⟨i0, hi, hz0, hz1, hz2⟩ := info_parts Tryz.info_F
  rcases h with ⟨p, cap, rfl, rfl, hpn⟩ | ⟨b, o, cap, rfl, hc, hb, hx⟩
  · go_enter Tryz.func16, Tryz.ntmps16
    go_wp2_with (at_make; refine wpList_make_own _ rfl _ _ 28 rfl w.heap.size 34 i0 (.agg #[.int .i64 0, .int .i64 0, .bool false]) 3 Tryz.underlying28 hi hz0 hz1 .i64 .i64 _ 0 rfl rfl (by simp) (by rw [hz2]; omega) (by unfold maxLen; omega) (Nat.le_refl _) ?_; intro w0 hown0 hgrow0)
    have hB0 : Bl w w0 := (Bl.refl w).grown hgrow0 (by omega) (fun k e => by cases e)
    go_loopw [3, 11] (fun v i wr => i = .int .i64 0 ∧ wr.ownsRow w.heap.size 34 3 v 0 [] ∧ Bl w wr) (fun _ _ _ => 0)
    case atStart => exact ⟨rfl, hown0, hB0⟩
    case round =>
      obtain ⟨rfl, hown, hB⟩ := hrel
      go_wp2
      go_ret
      exact ⟨_, rfl, Rw.of_own cellsF_len (xs := []) hown, fun g hg => (hown.lt g hg).1, hB⟩
  · have HX := hideP hx
    clear hx
    go_enter Tryz.func16, Tryz.ntmps16
    go_wp2_with (at_make; refine wpList_make_own _ rfl _ _ 28 rfl w.heap.size 34 i0 (.agg #[.int .i64 0, .int .i64 0, .bool false]) 3 Tryz.underlying28 hi hz0 hz1 .i64 .i64 _ ns.length rfl rfl (by simp) (by rw [hz2]; omega) (by unfold maxLen; omega) (Nat.le_refl _) ?_; intro w0 hown0 hgrow0)
    have hB0 : Bl w w0 := (Bl.refl w).grown hgrow0 (by omega) (fun k e => by cases e)
    go_loopw [3, 11] (fun v i wr => ∃ k : Nat, i = .int .i64 k ∧ k ≤ ns.length ∧ wr.ownsRow w.heap.size 34 3 v ((ns.take k).map wholeF).length (((ns.take k).map wholeF).flatMap cellsF) ∧ Bl w wr) (fun _ i _ => ns.length - (intOf i).toNat)
    case atStart => exact ⟨0, rfl, Nat.zero_le _, hown0, hB0⟩
    case round =>
      obtain ⟨k, rfl, hk, hown, hB⟩ := hrel
      by_cases hlt : k < ns.length
      · obtain ⟨x, hx⟩ : ∃ x, ns[k]? = some x := ⟨_, List.getElem?_eq_getElem hlt⟩
        have y0 : wr.cell? ⟨b, o + k, none⟩ = some (.int .i64 x) := by
          have := (bl_cell hB _ _ hb).trans (HX.out k x hx 0 _ rfl)
          simpa using this
        have hT : (ns.take (k + 1)).map wholeF = (ns.take k).map wholeF ++ [wholeF x] := by rw [List.take_add_one, hx]; simp
        have hkl : ((ns.take k).map wholeF).length = k := by simp; omega
        have HK := hideP hkl
        clear hkl
        have HT := hideP hT
        clear hT
        generalize hys : (ns.take k).map wholeF = ys at *
        clear hys
        go_wp2_with fail
        refine (vwholeF x _).mono ?_
        rintro e w2 ⟨rfl, h2⟩
        have hr : wholeF x = (newR x 1) := rfl
        generalize (newR x 1) = r at *
        rw [hr] at HT
        clear hr y0
        replace hown := own_blF hown h2
        replace hB := hB.trans h2
        have hkk := HK.out
        go_wp2_with (at_builtin; refine wpList_append_own _ rfl _ _ 28 rfl w.heap.size 34 i0 (.agg #[.int .i64 0, .int .i64 0, .bool false]) 3 24 Tryz.underlying28 hi hz0 hz1 hz2 rfl (by decide) _ _ _ rfl (hown.alloc _) ⟨_, 0, none⟩ 1 1 (cellsF r) rfl rfl (newF_cells _ _ _) (oneF_cells _) (by unfold maxLen; omega) (by omega) (by have := hB.size; simp; omega) ?_; intro v' w1 hown' hgrow _)
        have R := ownF_step hB hown hown' hgrow
        clear hown hown' hgrow
        go_wp2
        go_roundw
        case rel => exact ⟨k + 1, by simp, hlt, by rw [HT.out]; exact R.2, R.1⟩
        case measure => simp [intOf]; omega
      · have hk' : k = ns.length := by omega
        subst hk'
        rw [List.take_length] at hown
        have R := hideP (Rw.of_own cellsF_len hown)
        have FR := hideP (show Fresh w.heap.size _ from fun g hg => (hown.lt g hg).1)
        clear hown
        go_wp2
        go_ret
        exact ⟨_, rfl, R.out, FR.out, hB⟩
theorem vWholeF (v : Value) (ns : List Int) (w : World) (h : Rq 1 (fun n => [.int .i64 n]) w v ns) (hl : ns.length ≤ 1000000) :
    Calls Tryz.prog 16 #[v] w fun e w' => ∃ u, e = .returned u ∧ Rw 3 cellsF w' u (ns.map wholeF) ∧ Bl w w' :=
  (vWholeF' v ns w h hl).mono fun _ _ ⟨u, h1, h2, _, h3⟩ => ⟨u, h1, h2, h3⟩
end Go.Proofs.YtljmggemdkfbiaaGreat
