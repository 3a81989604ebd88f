/- Contracts of the function that vec's Pairs tells: an iterator over the pairs of two rows, of enclosed numbers (layer 5). Written by genVe.py. -/
import Derived.Test.YtljmggemdkfbiaaGreatVeDN
import Derived.RangeFuncNested
import Derived.RangeFuncBound
import Derived.RangeFuncCalls
import Derived.RangeFuncLeaves
import Derived.Shelf.Abstract
import Derived.Shelf.RegionOpen
import Derived.OwnWalkIn
import Derived.TacticsInMore
import Derived.LoopNIn
import Derived.LoopIn
namespace Go.Proofs.YtljmggemdkfbiaaGreat
open Go.RowKit Go.Shelf
set_option linter.unusedSimpArgs false
set_option linter.unusedVariables false
attribute [local go_sem] Oper.semAt_some
theorem Tryz.yieldN (l : Nat) (w : World) : (binOp .eql 189 (.func (.yield l) #[] #[]) .nilFunc).run Tryz.prog w = .ok (.bool false) w := by kernel_rfl
set_option maxRecDepth 100000 in
set_option maxHeartbeats 2000000 in
theorem iterN (n l A B lo hi : Nat) (xs ys : List En) (hl : xs.length ≤ 1000000) (J Jx : List (En × En) → World → Prop) (W : World) (hJ : AbidesFrom W.heap.size J) (hh : hi ≤ W.heap.size)
    (hY : ∀ pre x W1, J pre W1 → pre.length < xs.length → YieldAt Fence.wide (n - 1) Tryz.prog l #[enV x.1, enV x.2] W1 fun e W' =>
      (e = .returned (.bool true) ∧ J (pre ++ [x]) W' ∧ Span lo hi W1 W') ∨ (e = .returned (.bool false) ∧ Jx (pre ++ [x]) W'))
    (hP : PairsIn 4 cellsN W lo hi A B xs ys) (h0 : J [] W) :
    CallsIn Fence.wide n Tryz.prog 158 #[.func (.yield l) #[] #[], .pointer (some ⟨A, 0, none⟩), .pointer (some ⟨B, 0, none⟩)] W fun e W' => (∃ v, e = .returned v) ∧
      ((∃ zs, zs = xs.zip ys ∧ J zs W') ∨ (∃ pre, pre <+: xs.zip ys ∧ Jx pre W')) := by
  have yn := Tryz.yieldN l
  obtain ⟨u, v, a1, a2, b1, b2, cu, cv, ru, rv, fu, fv, hxy⟩ := hP
  rcases ru with ⟨rfl, rfl⟩ | ⟨b, o, cap, rfl, hc, hb, hx⟩
  · clear hY
    refine callsIn_of_wp Tryz.func158 rfl trivial ?_ rfl
    simp only [Tryz.ntmps158, List.size_toArray, List.length_cons, List.length_nil, Nat.reduceAdd, Nat.reduceSub, Array.replicate_succ, Array.replicate_zero, List.push_toArray, List.append_toArray, List.nil_append, List.cons_append]
    gi_wp2
    gi_loopw [10] (fun i wr => i = .int .i64 0 ∧ J [] wr) (fun _ _ => 0)
    case atStart => exact ⟨rfl, h0⟩
    case round =>
      obtain ⟨rfl, hJs⟩ := hrel
      gi_wp2
      go_end0
      exact ⟨⟨_, rfl⟩, .inl ⟨_, rfl, hJs⟩⟩
  · have hb' := fu b rfl
    have HX := hideP hx
    have HV := hideP rv
    have HXY := hideP hxy
    clear hx rv hxy
    refine callsIn_of_wp Tryz.func158 rfl trivial ?_ rfl
    simp only [Tryz.ntmps158, List.size_toArray, List.length_cons, List.length_nil, Nat.reduceAdd, Nat.reduceSub, Array.replicate_succ, Array.replicate_zero, List.push_toArray, List.append_toArray, List.nil_append, List.cons_append]
    gi_wp2
    gi_loopw [10] (fun i wr => ∃ k : Nat, k ≤ xs.length ∧ i = .int .i64 k ∧ J ((xs.zip ys).take k) wr ∧ Span lo hi W wr ∧ W.heap.size ≤ wr.heap.size)
      (fun i _ => xs.length - (intOf i).toNat)
    case atStart => exact ⟨0, Nat.zero_le _, rfl, h0, Span.refl _ _ _, Nat.le_refl _⟩
    case round =>
      obtain ⟨k, hk, rfl, hJs, hsp, hsz⟩ := hrel
      by_cases hlt : k < xs.length
      · obtain ⟨x, hx⟩ : ∃ x, xs[k]? = some x := ⟨_, List.getElem?_eq_getElem hlt⟩
        obtain ⟨y, hy⟩ : ∃ y, ys[k]? = some y := ⟨_, List.getElem?_eq_getElem (by have := HXY.out; omega)⟩
        rcases HV.out with ⟨rfl, e0⟩ | ⟨b', o', cap', rfl, hc', hbb, hy'⟩
        · have := HXY.out; rw [e0] at this; simp at this; rw [this] at hlt; simp at hlt
        have HY := hideP hy'
        have hb2 := fv b' rfl
        have hlt' : k < ys.length := by have := HXY.out; omega
        clear hy'
        have CX : ∀ j u, (cellsN x)[j]? = some u → wr.cell? ⟨b, o + k * 4 + j, none⟩ = some u := fun j u hu => (hsp.cell b _ hb'.1 hb'.2).trans (HX.out k x hx j u hu)
        have x0 : wr.cell? ⟨b, o + k * 4, none⟩ = some (.int .i64 x.v) := CX 0 _ rfl
        have x1 : wr.cell? ⟨b, o + k * 4 + 1, none⟩ = some (.int .i64 x.l) := CX 1 _ rfl
        have x2 : wr.cell? ⟨b, o + k * 4 + 2, none⟩ = some (.int .i64 x.h) := CX 2 _ rfl
        have x3 : wr.cell? ⟨b, o + k * 4 + 3, none⟩ = some (.bool x.bad) := CX 3 _ rfl
        clear CX
        obtain ⟨V, hV⟩ : ∃ V, V = wr.alloc (.cells #[.int .i64 x.v, .int .i64 x.l, .int .i64 x.h, .bool x.bad] 52) := ⟨_, rfl⟩
        have bV : Bl wr V.drew := by rw [hV]; exact ((Bl.refl _).alloc _).drew
        have BX : Box V.drew wr.heap.size x := by rw [hV]; exact (Box.new wr x _).later ((Bl.refl _).drew)
        have sV : Span lo hi W V.drew := hsp.trans (bV.span (by omega))
        have jV : J ((xs.zip ys).take k) V.drew := by
          refine hJ _ _ _ none hJs ?_ nofun
          rw [hV]
          exact ⟨rfl, rfl, rfl, by simp, fun i hi _ => by have := (((Bl.refl wr).alloc (.cells #[.int .i64 x.v, .int .i64 x.l, .int .i64 x.h, .bool x.bad] 52)).drew).block i hi; exact this⟩
        have CY : ∀ j u, (cellsN y)[j]? = some u → V.drew.cell? ⟨b', o' + k * 4 + j, none⟩ = some u := fun j u hu => (sV.cell b' _ hb2.1 hb2.2).trans (HY.out k y hy j u hu)
        have y0 : V.drew.cell? ⟨b', o' + k * 4, none⟩ = some (.int .i64 y.v) := CY 0 _ rfl
        have y1 : V.drew.cell? ⟨b', o' + k * 4 + 1, none⟩ = some (.int .i64 y.l) := CY 1 _ rfl
        have y2 : V.drew.cell? ⟨b', o' + k * 4 + 2, none⟩ = some (.int .i64 y.h) := CY 2 _ rfl
        have y3 : V.drew.cell? ⟨b', o' + k * 4 + 3, none⟩ = some (.bool y.bad) := CY 3 _ rfl
        have yb : V.drew.cell? ⟨B, 0, none⟩ = some (.slice (some ⟨b', o', none⟩) ys.length cap') := (sV.cell B 0 b1 b2).trans cv
        obtain ⟨z0, z1, z2, z3, _, _, _, _, _⟩ := BX
        have hlen : ((xs.zip ys).take k).length = k := by have := HXY.out; simp; omega
        obtain ⟨fn, tmps, assign, body, hyd, hR⟩ := hY _ (x, y) V.drew jV (by omega)
        dsimp only at hyd
        have HT := hideP (show (xs.zip ys).take (k + 1) = (xs.zip ys).take k ++ [(x, y)] by
          rw [List.take_add_one, (List.getElem?_zip_eq_some (z := (x, y))).2 ⟨hx, hy⟩]; rfl)
        have HW := hideP hV
        clear CY hV hJs
        gi_wp2
        rw [← HW.out]
        have hR2 : RoundIn Fence.wide (n - 1) Tryz.prog l fn tmps assign body V.drew fun e W' => ∃ r : Bool, e = .returned (.bool r) ∧ ((r = true ∧ J ((xs.zip ys).take k ++ [(x, y)]) W' ∧ Span lo hi V.drew W') ∨ (r = false ∧ Jx ((xs.zip ys).take k ++ [(x, y)]) W')) := by
          refine hR.mono ?_
          rintro e W' (⟨rfl, h1, h2⟩ | ⟨rfl, h1⟩)
          · exact ⟨true, rfl, .inl ⟨rfl, h1, h2⟩⟩
          · exact ⟨false, rfl, .inr ⟨rfl, h1⟩⟩
        have fm : Tryz.prog.follows .mixedOrders = true := by kernel_rfl
        gi_region_with_o (refine ⟨fun h => (by cases h), ?_⟩; refine hR2.mono ?_; rintro e W3 ⟨r, rfl, hr⟩)
        all_goals
          rcases hr with ⟨rfl, hJ3, hk3⟩ | ⟨rfl, hJx3⟩
          · gi_wp2
            go_roundw
            case rel => exact ⟨k + 1, by omega, by simp, by rw [HT.out]; exact hJ3, sV.trans hk3, by have := (bV.size); have := hk3.size; omega⟩
            case measure => simp [intOf]; omega
          · gi_wp2
            refine bodyPost_ret (results_none rfl _ _ _) rfl ?_
            exact ⟨⟨_, rfl⟩, .inr ⟨_, by rw [← HT.out]; exact List.take_prefix _ _, hJx3⟩⟩
      · have hk' : k = xs.length := by omega
        subst hk'
        have HJ := hideP hJs
        clear hJs
        gi_wp2
        go_end0
        refine ⟨⟨_, rfl⟩, .inl ⟨_, ?_, HJ.out⟩⟩
        have := HXY.out
        exact List.take_of_length_le (by rw [List.length_zip]; exact Nat.min_le_left _ _)
/-- Pairs' function as what a loop goes through: all pairs in their order, or the first ones, where a round has said that it is enough. -/
theorem seqN (n A B lo hi : Nat) (xs ys : List En) (hl : xs.length ≤ 1000000) (w : World) (hh : hi ≤ w.heap.size) (hP : PairsIn 4 cellsN w lo hi A B xs ys) :
    SeqStopsK Fence.wide n Tryz.prog 158 #[.pointer (some ⟨A, 0, none⟩), .pointer (some ⟨B, 0, none⟩)] (fun x : En × En => #[enV x.1, enV x.2]) (Span lo hi) (fun zs => zs = xs.zip ys) (fun pre => pre <+: xs.zip ys) xs.length w :=
  fun l J Jx W hW hJ _ hY h0 => iterN n l A B lo hi xs ys hl J Jx W hJ (Nat.le_trans hh hW.size) hY (hP.later (Bl.span hW hh)) h0
end Go.Proofs.YtljmggemdkfbiaaGreat
