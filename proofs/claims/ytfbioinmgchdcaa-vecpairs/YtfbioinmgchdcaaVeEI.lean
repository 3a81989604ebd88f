/- The function that vec's Pairs tells: an iterator over the pairs of two rows, of whole numbers (layer 5). -/
import Derived.Test.YtfbioinmgchdcaaVeDI
import Derived.RangeFuncNested
import Derived.RangeFuncBound
import Derived.RangeFuncCalls
import Derived.RangeFuncLeaves
import Derived.Shelf.Abstract
import Derived.Shelf.RegionOpen
import Derived.OwnWalkIn
import Derived.TacticsInMore
import Derived.LoopNIn
import Derived.LoopIn
namespace Go.Proofs.Ytfbioinmgchdcaa
open Go.RowKit Go.Shelf
set_option linter.unusedSimpArgs false
set_option linter.unusedVariables false
attribute [local go_sem] Oper.semAt_some
theorem Try.yieldI (l : Nat) (w : World) : (binOp .eql 57 (.func (.yield l) #[] #[]) .nilFunc).run Try.prog w = .ok (.bool false) w := by kernel_rfl
set_option maxRecDepth 100000 in
set_option maxHeartbeats 2000000 in
theorem iterI (n l A B lo hi : Nat) (xs ys : List Int) (hl : xs.length ≤ 1000000) (J Jx : List (Int × Int) → World → Prop) (W : World) (hJ : AbidesFrom W.heap.size J) (hh : hi ≤ W.heap.size)
    (hY : ∀ pre x W1, J pre W1 → pre.length < xs.length → YieldAt Fence.wide (n - 1) Try.prog l #[.int .i64 x.1, .int .i64 x.2] W1 fun e W' =>
      (e = .returned (.bool true) ∧ J (pre ++ [x]) W' ∧ Span lo hi W1 W') ∨ (e = .returned (.bool false) ∧ Jx (pre ++ [x]) W'))
    (hP : PairsIn 1 cellsI W lo hi A B xs ys) (h0 : J [] W) :
    CallsIn Fence.wide n Try.prog 45 #[.func (.yield l) #[] #[], .pointer (some ⟨A, 0, none⟩), .pointer (some ⟨B, 0, none⟩)] W fun e W' => (∃ v, e = .returned v) ∧
      ((∃ zs, zs = xs.zip ys ∧ J zs W') ∨ (∃ pre, pre <+: xs.zip ys ∧ Jx pre W')) := by
  have yn := Try.yieldI l
  obtain ⟨u, v, a1, a2, b1, b2, cu, cv, ru, rv, fu, fv, hxy⟩ := hP
  rcases ru with ⟨rfl, rfl⟩ | ⟨b, o, cap, rfl, hc, hb, hx⟩
  · clear hY
    refine callsIn_of_wp Try.func45 rfl trivial ?_ rfl
    simp only [Try.ntmps45, List.size_toArray, List.length_cons, List.length_nil, Nat.reduceAdd, Nat.reduceSub, Array.replicate_succ, Array.replicate_zero, List.push_toArray, List.append_toArray, List.nil_append, List.cons_append]
    gi_wp2
    gi_loopw [10] (fun i wr => i = .int .i64 0 ∧ J [] wr) (fun _ _ => 0)
    case atStart => exact ⟨rfl, h0⟩
    case round =>
      obtain ⟨rfl, hJs⟩ := hrel
      gi_wp2
      go_end0
      exact ⟨⟨_, rfl⟩, .inl ⟨_, rfl, hJs⟩⟩
  · have hb' := fu b rfl
    have HX := hideP hx
    have HV := hideP rv
    have HXY := hideP hxy
    clear hx rv hxy
    refine callsIn_of_wp Try.func45 rfl trivial ?_ rfl
    simp only [Try.ntmps45, List.size_toArray, List.length_cons, List.length_nil, Nat.reduceAdd, Nat.reduceSub, Array.replicate_succ, Array.replicate_zero, List.push_toArray, List.append_toArray, List.nil_append, List.cons_append]
    gi_wp2
    gi_loopw [10] (fun i wr => ∃ k : Nat, k ≤ xs.length ∧ i = .int .i64 k ∧ J ((xs.zip ys).take k) wr ∧ Span lo hi W wr ∧ W.heap.size ≤ wr.heap.size)
      (fun i _ => xs.length - (intOf i).toNat)
    case atStart => exact ⟨0, Nat.zero_le _, rfl, h0, Span.refl _ _ _, Nat.le_refl _⟩
    case round =>
      obtain ⟨k, hk, rfl, hJs, hsp, hsz⟩ := hrel
      by_cases hlt : k < xs.length
      · obtain ⟨x, hx⟩ : ∃ x, xs[k]? = some x := ⟨_, List.getElem?_eq_getElem hlt⟩
        obtain ⟨y, hy⟩ : ∃ y, ys[k]? = some y := ⟨_, List.getElem?_eq_getElem (by have := HXY.out; omega)⟩
        rcases HV.out with ⟨rfl, e0⟩ | ⟨b', o', cap', rfl, hc', hbb, hy'⟩
        · have := HXY.out; rw [e0] at this; simp at this; rw [this] at hlt; simp at hlt
        have HY := hideP hy'
        have hb2 := fv b' rfl
        have hlt' : k < ys.length := by have := HXY.out; omega
        clear hy'
        have x0 : wr.cell? ⟨b, o + k, none⟩ = some (.int .i64 x) := by have := (hsp.cell b _ hb'.1 hb'.2).trans (HX.out k x hx 0 _ rfl); simpa using this
        have y0 : wr.cell? ⟨b', o' + k, none⟩ = some (.int .i64 y) := by have := (hsp.cell b' _ hb2.1 hb2.2).trans (HY.out k y hy 0 _ rfl); simpa using this
        have yb : wr.cell? ⟨B, 0, none⟩ = some (.slice (some ⟨b', o', none⟩) ys.length cap') := (hsp.cell B 0 b1 b2).trans cv
        have hlen : ((xs.zip ys).take k).length = k := by have := HXY.out; simp; omega
        obtain ⟨fn, tmps, assign, body, hyd, hR⟩ := hY _ (x, y) wr hJs (by omega)
        dsimp only at hyd
        have HT := hideP (show (xs.zip ys).take (k + 1) = (xs.zip ys).take k ++ [(x, y)] by
          rw [List.take_add_one, (List.getElem?_zip_eq_some (z := (x, y))).2 ⟨hx, hy⟩]; rfl)
        clear hJs
        gi_wp2
        refine ⟨fun h => (by cases h), ?_⟩
        refine hR.mono ?_
        rintro e W3 (⟨rfl, hJ3, hk3⟩ | ⟨rfl, hJx3⟩)
        · gi_wp2
          go_roundw
          case rel => exact ⟨k + 1, by omega, by simp, by rw [HT.out]; exact hJ3, hsp.trans hk3, by have := hk3.size; omega⟩
          case measure => simp [intOf]; omega
        · gi_wp2
          refine bodyPost_ret (results_none rfl _ _ _) rfl ?_
          exact ⟨⟨_, rfl⟩, .inr ⟨_, by rw [← HT.out]; exact List.take_prefix _ _, hJx3⟩⟩
      · have hk' : k = xs.length := by omega
        subst hk'
        have HJ := hideP hJs
        clear hJs
        gi_wp2
        go_end0
        refine ⟨⟨_, rfl⟩, .inl ⟨_, ?_, HJ.out⟩⟩
        have := HXY.out
        exact List.take_of_length_le (by rw [List.length_zip]; exact Nat.min_le_left _ _)
/-- Pairs' function as what a loop goes through. -/
theorem seqI (n A B lo hi : Nat) (xs ys : List Int) (hl : xs.length ≤ 1000000) (w : World) (hh : hi ≤ w.heap.size) (hP : PairsIn 1 cellsI w lo hi A B xs ys) :
    SeqStopsK Fence.wide n Try.prog 45 #[.pointer (some ⟨A, 0, none⟩), .pointer (some ⟨B, 0, none⟩)] (fun x : Int × Int => #[.int .i64 x.1, .int .i64 x.2]) (Span lo hi) (fun zs => zs = xs.zip ys) (fun pre => pre <+: xs.zip ys) xs.length w :=
  fun l J Jx W hW hJ _ hY h0 => iterI n l A B lo hi xs ys hl J Jx W hJ (Nat.le_trans hh hW.size) hY (hP.later (Bl.span hW hh)) h0
end Go.Proofs.Ytfbioinmgchdcaa
