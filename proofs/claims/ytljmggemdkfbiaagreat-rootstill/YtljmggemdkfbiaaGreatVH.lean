/- Contract of joseph's Update, of enclosed numbers (layer 9): what goes together. Written by genJo.py. -/
import Derived.Test.YtljmggemdkfbiaaGreatVG
import Derived.Test.YtljmggemdkfbiaaGreatVA
import Derived.Test.YtljmggemdkfbiaaGreatVF
import Derived.Test.YtljmggemdkfbiaaGreatFrN
import Derived.Test.YtljmggemdkfbiaaGreatVD
import Derived.Test.YtljmggemdkfbiaaGreatVC
import Derived.Laws.EntriesVeiled
/- Enclosed numbers, of fractions of whole numbers: what is told of enclosed numbers encloses what is told of the fractions that they enclose. Mathematics alone. -/
namespace Go.Proofs.YtljmggemdkfbiaaGreat
open Go.RowKit
set_option linter.unusedSimpArgs false
set_option linter.unusedVariables false

/-- n by d (d above 0) lies between the bounds. -/
def QIn (a : En) (n d : Int) : Prop := a.l * d ≤ n * 16777216 ∧ n * 16777216 ≤ a.h * d
/-- It is Bad, or it may be, and encloses n by d. -/
def Enq (a : En) (n d : Int) : Prop := a = wrongE ∨ (fineB a = true ∧ QIn a n d)
theorem cancel_pos {x y k : Int} (hk : 0 < k) (h : x * k ≤ y * k) : x ≤ y := Int.le_of_mul_le_mul_right h hk
/-- The same fraction, by other parts. -/
theorem QIn.same {a : En} {n d n' d' : Int} (h : QIn a n d) (hd : 0 < d) (hd' : 0 < d') (e : n * d' = n' * d) : QIn a n' d' := by
  obtain ⟨h1, h2⟩ := h
  constructor
  · refine cancel_pos hd ?_
    have := Int.mul_le_mul_of_nonneg_right h1 (Int.le_of_lt hd')
    rw [show a.l * d' * d = a.l * d * d' by rw [Int.mul_right_comm], show n' * 16777216 * d = n * 16777216 * d' by rw [Int.mul_right_comm, ← e, Int.mul_right_comm]]
    exact this
  · refine cancel_pos hd ?_
    have := Int.mul_le_mul_of_nonneg_right h2 (Int.le_of_lt hd')
    rw [show a.h * d' * d = a.h * d * d' by rw [Int.mul_right_comm], show n' * 16777216 * d = n * 16777216 * d' by rw [Int.mul_right_comm, ← e, Int.mul_right_comm]]
    exact this
theorem Enq.same {a : En} {n d n' d' : Int} (h : Enq a n d) (hd : 0 < d) (hd' : 0 < d') (e : n * d' = n' * d) : Enq a n' d' := by
  rcases h with h | ⟨f, q⟩
  · exact .inl h
  · exact .inr ⟨f, q.same hd hd' e⟩
end Go.Proofs.YtljmggemdkfbiaaGreat

/- Whole numbers as points: their sums, products and dots, enclosed (layer 5's laws). Mathematics alone. -/
namespace Go.Proofs.YtljmggemdkfbiaaGreat
open Go.RowKit
set_option linter.unusedSimpArgs false
set_option linter.unusedVariables false

/-- The point of a whole number. -/
def itN (n : Int) : En := ⟨n * 16777216, n * 16777216, n * 16777216, false⟩
/-- It may be one. -/
def Wn (n : Int) : Prop := -67108864 ≤ n ∧ n ≤ 67108864
theorem fr_it {n : Int} (h : Wn n) : frB (n * 16777216) = true := frB_eq (by unfold Wn at h; omega)
theorem fineN_it {n : Int} (h : Wn n) : fineB (itN n) = true := pt_fine (fr_it h)
theorem ofN_it {n : Int} (h : Wn n) : ptE (foN n) (foB n) = itN n := by
  have h1 : foB n = true := by unfold foB; unfold Wn at h; simp; omega
  rw [h1]
  unfold foN
  rw [h1]
  rfl
theorem addN_it {a b : Int} (ha : Wn a) (hb : Wn b) (h : Wn (a + b)) : addE (itN a) (itN b) = itN (a + b) := by
  have e : a * 16777216 + b * 16777216 = (a + b) * 16777216 := by omega
  have t := fa_told (fr_it ha) (fr_it hb) (by rw [e]; exact fr_it h)
  have ok : okE bA (itN a) (itN b) (prs2 (itN a) (itN b)) = true := okE_iff.2 ⟨t.1, fineN_it ha, fineN_it hb, by rw [show prs2 (itN a) (itN b) = prs2 ⟨a * 16777216, a * 16777216, a * 16777216, false⟩ ⟨b * 16777216, b * 16777216, b * 16777216, false⟩ from rfl, (same_prs2 _ _).ok]; unfold bA; rw [t.1]; rfl⟩
  have e1 := told_ok (N := nA) ok
  unfold addE
  rw [e1]
  have hs : Same (prs2 (itN a) (itN b)) (a * 16777216) (b * 16777216) := same_prs2 _ _
  rw [hs.low bdA, hs.high bdA]
  have hn : ∀ m, nA (a * 16777216) (b * 16777216) m = (a + b) * 16777216 := fun m => by show faN _ _ = _; rw [t.2, e]
  show (⟨nA (a * 16777216) (b * 16777216) 0, _, _, false⟩ : En) = _
  rw [hn, hn, hn]
  rfl
theorem rnd_it (x c m : Int) (hc : 0 < c) : rnd (x * c) c m = x := by
  unfold rnd
  have h1 : x * c / c = x := Int.mul_ediv_cancel _ (by omega)
  have h2 : -(-(x * c) / c) = x := by rw [← Int.neg_mul, Int.mul_ediv_cancel _ (by omega), Int.neg_neg]
  split
  · exact h1
  · split
    · exact h2
    · unfold evn
      have h3 : x * c % c = 0 := Int.mul_emod_left x c
      rw [h1, h3]
      simp
      omega
theorem mulN_it {a b : Int} (ha : Wn a) (hb : Wn b) (h : Wn (a * b)) : mulE (itN a) (itN b) = itN (a * b) := by
  have ex : a * 16777216 * (b * 16777216) = a * b * 16777216 * 16777216 := by rw [← Int.mul_assoc, Int.mul_right_comm a 16777216 b]
  have t : ∀ m, MD m → fmB (a * 16777216) (b * 16777216) m = true ∧ fmN (a * 16777216) (b * 16777216) m = a * b * 16777216 := fun m hm => by
    have := fm_told (fr_it ha) (fr_it hb) hm (by rw [ex, rnd_it _ _ _ (by decide)]; exact fr_it h)
    rw [ex, rnd_it _ _ _ (by decide)] at this
    exact this
  have hs : Same (prs4 (itN a) (itN b)) (a * 16777216) (b * 16777216) := same_prs4 _ _
  have ok : okE fmB (itN a) (itN b) (prs4 (itN a) (itN b)) = true := okE_iff.2 ⟨(t 0 (.inl rfl)).1, fineN_it ha, fineN_it hb, by rw [hs.ok, (t 1 (.inr (.inl rfl))).1, (t 2 (.inr (.inr rfl))).1]; rfl⟩
  have e1 := told_ok (N := fmN) ok
  unfold mulE
  rw [e1, hs.low bdM, hs.high bdM]
  show (⟨fmN (a * 16777216) (b * 16777216) 0, _, _, false⟩ : En) = _
  rw [(t 0 (.inl rfl)).2, (t 1 (.inr (.inl rfl))).2, (t 2 (.inr (.inr rfl))).2]
  rfl
theorem foldN_it {B : Int} : ∀ (ns : List Int) (s : Int), Sml B ns → 0 ≤ B → -67108864 + B * ns.length ≤ s → s ≤ 67108864 - B * ns.length → (ns.map itN).foldl addE (itN s) = itN (s + ns.sum)
  | [], s, _, _, _, _ => by simp
  | n :: ns, s, h, hB, h1, h2 => by
    have hn := h.head
    simp only [List.length_cons, Int.natCast_add, Int.mul_add] at h1 h2
    have hp : 0 ≤ B * ns.length := Int.mul_nonneg hB (by omega)
    rw [List.map_cons, List.foldl_cons, addN_it ⟨by omega, by omega⟩ ⟨by omega, by omega⟩ ⟨by omega, by omega⟩, foldN_it ns (s + n) h.tail hB (by omega) (by omega), List.sum_cons]
    congr 1
    omega
theorem sumN_it {B : Int} (ns : List Int) (h : Sml B ns) (hB : 0 ≤ B) (hb : B * ns.length ≤ 67108864) : sumN (ns.map itN) = itN ns.sum := by
  unfold sumN
  rw [ofN_it (n := 0) ⟨by omega, by omega⟩, foldN_it ns 0 h hB (by omega) (by omega)]
  simp
theorem wholesN_it {B : Int} (ns : List Int) (h : Sml B ns) (hb : B ≤ 67108864) : ns.map wholeN = ns.map itN :=
  List.map_congr_left fun x hx => ofN_it (by have := h x hx; exact ⟨by omega, by omega⟩)
theorem mulsN_it {A B : Int} (hA : A ≤ 67108864) (hB : B ≤ 67108864) (hAB : A * B ≤ 67108864) : ∀ (xs ys : List Int), Sml A xs → Sml B ys → List.zipWith mulE (xs.map itN) (ys.map itN) = (List.zipWith (· * ·) xs ys).map itN
  | [], _, _, _ => by simp
  | _ :: _, [], _, _ => by simp
  | x :: xs, y :: ys, h, k => by
    have h1 := h.head
    have h2 := k.head
    have h3 := mul_bound h1 h2
    rw [List.map_cons, List.map_cons, List.zipWith_cons_cons, List.zipWith_cons_cons, List.map_cons, mulN_it ⟨by omega, by omega⟩ ⟨by omega, by omega⟩ ⟨by omega, by omega⟩, mulsN_it hA hB hAB xs ys h.tail k.tail]
theorem dotN_it {xs ys : List Int} (h : Sml 1000 xs) (k : Sml 1000 ys) (hl : xs.length ≤ 20) : dotN (xs.map itN) (ys.map itN) = itN (dotI xs ys) := by
  unfold dotN dotI
  rw [mulsN_it (by omega) (by omega) (by omega) xs ys h k]
  refine sumN_it (B := 1000 * 1000) _ (muls_sml h k) (by omega) ?_
  have hln : (List.zipWith (· * ·) xs ys).length ≤ 20 := by simp; omega
  omega
end Go.Proofs.YtljmggemdkfbiaaGreat

/- Enclosed numbers beside fractions: the same steps of both; what is told of enclosed numbers encloses what is told of fractions, where that may be one. Mathematics alone. -/
namespace Go.Proofs.YtljmggemdkfbiaaGreat
open Go.RowKit
set_option linter.unusedSimpArgs false
set_option linter.unusedVariables false

/-- It encloses the fraction, if that may be one; or it is Bad. -/
def EncF (e : En) (f : Fr) : Prop := fineR f = true → Enq e f.n f.d
/-- What env.Encloses asks, of a fraction. -/
theorem EncF.told {e : En} {f : Fr} (h : EncF e f) (hf : fineR f = true) (hb : e ≠ wrongE) : fineB e = true ∧ e.l * f.d ≤ f.n * 16777216 ∧ f.n * 16777216 ≤ e.h * f.d := by
  rcases h hf with h | ⟨h1, h2⟩
  · exact absurd h hb
  · exact ⟨h1, h2.1, h2.2⟩
end Go.Proofs.YtljmggemdkfbiaaGreat

/- Roots of squares, and what is solved, of lower triangles (layer 7). Mathematics alone. -/
namespace Go.Proofs.YtljmggemdkfbiaaGreat
open Go.RowKit
set_option linter.unusedSimpArgs false
set_option linter.unusedVariables false

/-- A lower triangle. -/
def Low {α : Type} (z : α) (s : Nat → Nat → α) : Prop := ∀ i k, i < k → s i k = z
end Go.Proofs.YtljmggemdkfbiaaGreat

/- A fold of enclosed numbers encloses that of fractions, with the same signs; a triangle of whole numbers folds to itself (layer 8, HouseTwice). Mathematics alone. -/
namespace Go.Proofs.YtljmggemdkfbiaaGreat
open Go.RowKit
set_option linter.unusedSimpArgs false
set_option linter.unusedVariables false

end Go.Proofs.YtljmggemdkfbiaaGreat

/- Enclosed numbers beside any rational numbers (layer 8 on: where roots are no fractions). Mathematics alone. -/
namespace Go.Proofs.YtljmggemdkfbiaaGreat
open Go.RowKit
set_option linter.unusedSimpArgs false
set_option linter.unusedVariables false

theorem den_pos (q : Rat) : (0 : Int) < q.den := by have := q.den_pos; omega
end Go.Proofs.YtljmggemdkfbiaaGreat

/- The root of an enclosed number encloses rational numbers whose squares lie as near as one likes (layer 8, HouseSquares). Mathematics alone. -/
namespace Go.Proofs.YtljmggemdkfbiaaGreat
open Go.RowKit
set_option linter.unusedSimpArgs false
set_option linter.unusedVariables false

end Go.Proofs.YtljmggemdkfbiaaGreat

/- A fold of enclosed numbers whose triangle is fine: the triangle's square encloses the square of what was folded, though roots are no fractions (layer 8, HouseSquares). Mathematics alone. -/
namespace Go.Proofs.YtljmggemdkfbiaaGreat
open Go.RowKit
set_option linter.unusedSimpArgs false
set_option linter.unusedVariables false

end Go.Proofs.YtljmggemdkfbiaaGreat

/- A triangle of whole numbers with a diagonal above 0, folded, in fractions (layer 8, HouseTwice). Mathematics alone. -/
namespace Go.Proofs.YtljmggemdkfbiaaGreat
open Go.RowKit
set_option linter.unusedSimpArgs false
set_option linter.unusedVariables false

end Go.Proofs.YtljmggemdkfbiaaGreat

/- HouseTwice: an enclosed triangle of whole numbers with a diagonal above 0 folds to what encloses it. Mathematics alone. -/
namespace Go.Proofs.YtljmggemdkfbiaaGreat
open Go.RowKit
set_option linter.unusedSimpArgs false
set_option linter.unusedVariables false

theorem subN_it {a b : Int} (ha : Wn a) (hb : Wn b) (h : Wn (a - b)) : subE (itN a) (itN b) = itN (a - b) := by
  have e : a * 16777216 - b * 16777216 = (a - b) * 16777216 := by omega
  have t := fs_told (fr_it ha) (fr_it hb) (by rw [e]; exact fr_it h)
  have hs : Same (prsX (itN a) (itN b)) (a * 16777216) (b * 16777216) := same_prsX _ _
  have ok : okE bS (itN a) (itN b) (prsX (itN a) (itN b)) = true := okE_iff.2 ⟨t.1, fineN_it ha, fineN_it hb, by rw [hs.ok]; unfold bS; rw [t.1]; rfl⟩
  have e1 := told_ok (N := nS) ok
  unfold subE
  rw [e1, hs.low bdS, hs.high bdS]
  have hn : ∀ m, nS (a * 16777216) (b * 16777216) m = (a - b) * 16777216 := fun m => by show fsN _ _ = _; rw [t.2, e]
  show (⟨nS (a * 16777216) (b * 16777216) 0, _, _, false⟩ : En) = _
  rw [hn, hn, hn]
  rfl
end Go.Proofs.YtljmggemdkfbiaaGreat

/- Contracts of house's away, less, of enclosed numbers (layer 8). Written by genHu.py. -/
namespace Go.Proofs.YtljmggemdkfbiaaGreat
open Go.RowKit Go.Shelf
set_option linter.unusedSimpArgs false
set_option linter.unusedVariables false
attribute [local go_sem] Oper.semAt_some

end Go.Proofs.YtljmggemdkfbiaaGreat

/- Contract of house's less, of enclosed numbers (layer 8). Written by genHu.py. -/
namespace Go.Proofs.YtljmggemdkfbiaaGreat
open Go.RowKit Go.Shelf
set_option linter.unusedSimpArgs false
set_option linter.unusedVariables false
attribute [local go_sem] Oper.semAt_some

end Go.Proofs.YtljmggemdkfbiaaGreat

/- Contract of house's fold, of enclosed numbers (layer 8). Written by genHu.py. -/
namespace Go.Proofs.YtljmggemdkfbiaaGreat
open Go.RowKit Go.Shelf
set_option linter.unusedSimpArgs false
set_option linter.unusedVariables false
attribute [local go_sem] Oper.semAt_some

theorem Box.but {w w' : World} {b : Nat} {x : En} {S : Nat → Prop} (h : Box w b x) (k : But S w w') (hs : ¬ S b) : Box w' b x := by
  obtain ⟨c0, c1, c2, c3, f0, f1, f2, f3, lt⟩ := h
  refine ⟨(k.cell _ _ lt hs).trans c0, (k.cell _ _ lt hs).trans c1, (k.cell _ _ lt hs).trans c2, (k.cell _ _ lt hs).trans c3, (k.froz _ _ lt hs).trans f0, (k.froz _ _ lt hs).trans f1, (k.froz _ _ lt hs).trans f2, (k.froz _ _ lt hs).trans f3, Nat.lt_of_lt_of_le lt k.size⟩
theorem Tryz.sizeN : (Tryz.prog.info? 52).map (·.size) = some 4 := by kernel_rfl
end Go.Proofs.YtljmggemdkfbiaaGreat

/- Contracts of mat's Unit, and of Whole with new memory, of enclosed numbers (layer 6). Written by genMa.py. -/
namespace Go.Proofs.YtljmggemdkfbiaaGreat
open Go.RowKit
set_option linter.unusedSimpArgs false
set_option linter.unusedVariables false

end Go.Proofs.YtljmggemdkfbiaaGreat

/- Contracts of joseph's shares, outer, rest, of enclosed numbers (layer 9). Written by genJo.py. -/
namespace Go.Proofs.YtljmggemdkfbiaaGreat
open Go.RowKit
set_option linter.unusedSimpArgs false
set_option linter.unusedVariables false

theorem fresh_ownN {w : World} {B b n : Nat} {e : TypeId} {s : Nat} {v : Value} {l : List Value} (h : w.ownsRow B e s v n l) (hb : b ≤ B) : Fresh b v := fun g hg => Nat.le_trans hb (h.lt g hg).1
end Go.Proofs.YtljmggemdkfbiaaGreat

/- mat's Apply, of enclosed numbers (layer 6). -/
namespace Go.Proofs.YtljmggemdkfbiaaGreat
open Go.RowKit Go.Shelf
set_option linter.unusedSimpArgs false
set_option linter.unusedVariables false
attribute [local go_sem] Oper.semAt_some

set_option maxRecDepth 100000 in
set_option maxHeartbeats 4000000 in
theorem mApplyN' (R M : Nat) (p : Option Addr) (n cap : Nat) (f : Nat → Nat → En) (q : Option Addr) (cap2 : Nat) (xs : List En) (w : World) (hx : Mx 4 cellsN w R M p n cap f) (hy : Rq 4 cellsN w (.slice q M cap2) xs) (hl : xs.length = M) :
    Calls Tryz.prog 100 #[mV R M p n cap, .slice q M cap2] w fun e w' => ∃ p' cap', e = .returned (.tuple #[.slice p' R cap', .bool true]) ∧ Rw 4 cellsN w' (.slice p' R cap') ((List.range R).map fun i => dotN (rowM M f i) xs) ∧ Fresh w.heap.size (.slice p' R cap') ∧ Bl w w' := by
  obtain ⟨i0, hi, hz0, hz1, hz2⟩ := info_parts Tryz.info_N
  refine (callsIn_wide (n := 8)).1 ?_
  have hfx := hx.fit
  have hdR := hx.1
  have hR16 := hdR.r2
  have hM16 := hdR.c2
  have HXm := hideP hx
  have HYm := hideP hy
  have HL := hideP hl
  clear hx hy hl
  obtain ⟨W, hW⟩ : ∃ W, W = (w.alloc (.cells #[.int .i64 R, .int .i64 M, .slice p n cap] 48)).alloc (.cells #[.slice q M cap2] 46) := ⟨_, rfl⟩
  have b0 : Bl w W := by rw [hW]; exact ((Bl.refl _).alloc _).alloc _
  have mx0 : MBox W w.heap.size R M p n cap := by rw [hW]; exact (MBox.new w _ _ _ _ _ _).later ((Bl.refl _).alloc _)
  have my0 : Boxed W (w.heap.size + 1) 46 (.slice q M cap2) := by rw [hW]; have := Boxed.new (w.alloc (.cells #[.int .i64 R, .int .i64 M, .slice p n cap] 48)) 46 (.slice q M cap2); rw [World.size_alloc] at this; exact this
  have hs0 : W.heap.size = w.heap.size + 1 + 1 := by rw [hW]; simp
  have HW := hideP hW
  clear hW
  refine callsIn_of_wp_marks Tryz.func100 rfl trivial ?_ rfl
  simp only [Tryz.ntmps100, List.size_toArray, List.length_cons, List.length_nil, Nat.reduceAdd, Nat.reduceSub, Array.replicate_succ, Array.replicate_zero, List.push_toArray, List.append_toArray, List.nil_append, List.cons_append]
  gi_wp2_with fail
  rw [← HW.out]
  refine ⟨trivial, ?_⟩
  refine (callsIn_wide.2 (mRightN _ _ _ _ _ _)).mono ?_
  rintro e w5 ⟨rfl, h5⟩
  rw [hfx]
  have mx5 := mx0.later h5
  have my5 := boxed_bl my0 h5
  have bw5 : Bl w w5 := b0.trans h5
  obtain ⟨c0, c1, c2, f0, f1, f2, lt⟩ := id mx5
  have d0 := my5.cell
  gi_wp2_with (gi_at_make; refine wpListIn_make_own _ rfl _ _ 46 rfl w5.heap.size 52 i0 (.agg #[.int .i64 0, .int .i64 0, .int .i64 0, .bool false]) 4 Tryz.underlying46 hi hz0 hz1 .i64 .i64 _ R rfl rfl (by simp) (by rw [hz2]; omega) (by unfold maxLen; omega) (by simp) ?_; intro w6 hown0 hgrow0; have mx6 := mbox_block mx5 (hgrow0.block _ mx5.lt nofun) hgrow0.size; clear c0 c1 c2 f0 f1 f2 d0 lt; obtain ⟨c0, c1, c2, f0, f1, f2, lt⟩ := mx6)
  have h56 : Bl w5 w6 := ⟨hgrow0.os, hgrow0.tape, hgrow0.output, hgrow0.size, fun k hk => hgrow0.block k hk nofun⟩
  have hs6 : w5.heap.size ≤ w6.heap.size := hgrow0.size
  obtain ⟨w6b, hw6b⟩ : ∃ w6b, w6b = w6.alloc (.cells #[.slice (some ⟨w5.heap.size, 0, none⟩) 0 R] 46) := ⟨_, rfl⟩
  have h6b : Bl w6 w6b := by rw [hw6b]; exact (Bl.refl _).alloc _
  have hs6b : w6b.heap.size = w6.heap.size + 1 := by rw [hw6b]; simp
  have bl6 : Boxed w6b w6.heap.size 46 (.slice (some ⟨w5.heap.size, 0, none⟩) 0 R) := by rw [hw6b]; exact Boxed.new w6 _ _
  have hown6 : w6b.ownsRow w5.heap.size 52 4 (.slice (some ⟨w5.heap.size, 0, none⟩) 0 R) 0 [] := own_blN hown0 h6b
  have hlt5 : w5.heap.size < w6b.heap.size := by have := (hown6.lt w5.heap.size rfl).2; exact this
  have HW6 := hideP hw6b
  clear hw6b hown0 hgrow0 c0 c1 c2 f0 f1 f2 lt
  rw [← HW6.out]
  refine ⟨trivial, ?_⟩
  refine (callsIn_wide.2 (mAllN _ _ _ _ _ f _ (HXm.out.later ((bw5.trans h56).trans h6b)))).mono ?_
  rintro e w7 ⟨B2, p2, cap5, rfl, hK7, h7⟩
  have HK7 := hideP hK7
  clear hK7
  have hs7 : w6.heap.size + 1 ≤ w7.heap.size := by have := h7.size; omega
  have b57 : Below w5.heap.size w5 w7 := (h56.trans h6b).trans h7
  have bl7 := boxed_bl bl6 h7
  have own7 := own_blN hown6 h7
  clear bl6 hown6
  gi_wp2_with fail
  refine rangeV rfl (by omega) (gf := 108) (lb := #[.pointer (some ⟨B2, 0, none⟩)]) rfl trivial (enters_of Tryz.func108 (by kernel_rfl) rfl)
    (seqMN 7 B2 _ w7.heap.size R M p2 n cap5 f w7 (Nat.le_refl _) HK7.out) (fun x A B h => h.1) (fun h k => h.trans k) (span_b (Nat.le_refl _)) (fun _ => rfl)
    (fun (pre : List RowX) U => (∃ v, Boxed U w6.heap.size 46 v ∧ U.ownsRow w5.heap.size 52 4 v (pre.map fun x : RowX => dotN (rowM M f x.1) xs).length ((pre.map fun x : RowX => dotN (rowM M f x.1) xs).flatMap cellsN) ∧ (∀ b, v.ownBlock = some b → b < w6b.heap.size ∨ w7.heap.size ≤ b)) ∧ (Below w5.heap.size w5 U ∧ w7.heap.size ≤ U.heap.size))
    (fun _ _ _ => False)
    (OwnFrom.and (Own.from (holdsRow_own w5.heap.size w6.heap.size 46 52 4 (fun pre : List RowX => (pre.map fun x : RowX => dotN (rowM M f x.1) xs).length) (fun pre : List RowX => (pre.map fun x : RowX => dotN (rowM M f x.1) xs).flatMap cellsN) (fun _ v => ∀ b, v.ownBlock = some b → b < w6b.heap.size ∨ w7.heap.size ≤ b)) _) (OwnFrom.and (ownFrom_below (Nat.le_refl _) b57.size) (own_size _ _)))
    (fun _ _ _ _ _ hs _ _ => hs)
    ⟨⟨_, bl7, own7, fun b hb => by cases hb; exact .inl hlt5⟩, b57, Nat.le_refl _⟩
    (fun a x a' U => Rw 4 cellsN U (rowV M x) (rowM M f x.1) ∧ a' = { tmps := (((a.tmps.setIfInBounds 24 (.int .i64 x.1)).setIfInBounds 25 (rowV M x)).setIfInBounds 8 (rowV M x)), defers := [] })
    (fun x a' _ X Y row hs hg hr => ⟨rw_own hs.1 hg (fun r e => (hr r e).2), hs.2⟩)
    ?assign ?body ?done ?stop
  case assign =>
    rintro l pre x W0 U K' _ ⟨hbU, hxR, hrow, hfr, hcc⟩ hI hK'
    have HK2 := hideP hK'
    have HI := hideP hI
    clear hK' hI
    gi_wp2
    exact HK2.out _ _ (KeepsFrom.refl _ _) (Span.refl _ _ _) HI.out ⟨hrow, rfl⟩
  case body =>
    rintro l pre x a' U hl' ⟨r, hr'⟩ ⟨⟨v, hv, hrow, hgv⟩, hbU, hsU⟩ ⟨hrx, rfl⟩ hlt
    simp only [List.setIfInBounds_toArray, List.set_cons_zero, List.set_cons_succ]
    gi_wp2_with fail
    have hbv := boxed_bl (show Boxed w5 _ _ _ from my5) hbU
    have hC := fun u (hu : Bl U u) => vDotN (rowV M x) (.slice q M cap2) (rowM M f x.1) xs u (hrx.later hu).q (HYm.out.later ((bw5.trans hbU).trans hu)) (by rw [rowM_len]; omega) (by rw [HL.out]; omega)
    have hlen2 : (pre.map fun x : RowX => dotN (rowM M f x.1) xs).length ≤ 100000 := by rw [List.length_map]; omega
    refine dotAppendN (ops := _) rfl (by kernel_rfl) 26 6 76 (by simp) (by omega) ⟨rfl, rfl, rfl⟩ ⟨rfl, rfl⟩ ⟨rfl, rfl⟩ ⟨rfl, rfl, rfl⟩ ⟨rfl, rfl, rfl⟩ ⟨rfl, rfl, rfl⟩ ⟨rfl, rfl, rfl⟩ ⟨by simp, by simp⟩ (by simp) ⟨by simp, by simp⟩ (by simp)
      (rowV M x) (.slice q M cap2) (fun act u K' hfr hu hk => move_wp (.tmp 8) rfl (by rw [hfr 8 (by omega)]; exact hk))
      (fun act u K' hfr hu hk => load_wp 46 (.tmp 3) rfl (by rw [hfr 3 (by omega)]; exact Tryz.load1N (w.heap.size + 1) _ u (boxed_bl hbv hu).cell) hk)
      trivial (fun _ => by omega) (enters_of Tryz.func76 (by kernel_rfl) rfl) (dotN (rowM M f x.1) xs)
      (fun u hu => CallsIn.inRound l (callsIn_wide.2 (hC u hu)))
      w6.heap.size rfl v hv w5.heap.size (pre.map fun x : RowX => dotN (rowM M f x.1) xs) hrow hlen2 (by have := b57.size; omega) ?_
    intro act u0 w8 g' cap' k1 k2 k3 k4
    have hvu := boxed_bl hv k1
    have hru := own_blN hrow k1
    have hsu := k1.size
    have hu5 : w5.heap.size ≤ u0.heap.size := by have := b57.size; omega
    obtain ⟨hv5, hv6, hr6, hk6, hb6⟩ := boxed_appended hvu (by decide) hru hu5 (by omega) k3 k2
    have hg8 := k2.size
    refine ⟨(k1.keeps _).trans (hk6.from _), span_appended k1 (by omega) hgv k2 (by omega), ⟨_, hv6, ?_, ?_⟩, ?_, ?_⟩
    · rw [List.map_append]
      simpa [List.flatMap_append] using hr6
    · intro b hb
      have hb' : g' = b := by cases hb; rfl
      subst hb'
      rcases k4 with h | h
      · exact hgv _ h.symm
      · exact .inr (by omega)
    · exact hbU.trans ((k1.mono (by have := b57.size; omega)).trans hb6)
    · simp; omega
  case done =>
    rintro Dm zs U hD hS ⟨⟨v, hv, hrow, _⟩, hb5, hs7'⟩ hKD
    have e : (zs.map fun x : RowX => dotN (rowM M f x.1) xs) = (List.range R).map fun i => dotN (rowM M f i) xs := by rw [← hS, List.map_map]; rfl
    rw [e] at hrow
    have RW := Rw.of_own cellsN_len (ownsRow_putObj hrow (.deferred none) hKD rfl)
    obtain ⟨p', cap', hv', _, _⟩ := RW.cut
    rw [List.length_map, List.length_range] at hv'
    subst hv'
    have hcl := hv.cell
    have hbw : Bl w U := bw5.trans hb5
    have HFR := hideP (show Fresh w.heap.size (.slice p' R cap') from fun g hg => by have := (hrow.lt g hg).1; have := bw5.size; omega)
    have HRW := hideP RW
    have HKD := hideP hKD
    clear hrow RW hKD hv
    gi_wp2
    refine ⟨by simp, .inl ⟨_, _, rfl, run_takeDeferred HKD.out, ?_⟩⟩
    exact ⟨_, results_tmp2 rfl _ _ _, p', cap', rfl, HRW.out, HFR.out, Below.trans hbw (belowK_b (w := w) (Nat.le_refl _) U Dm _ _ (by have := bw5.size; have := b57.size; omega) HKD.out rfl rfl)⟩
  case stop =>
    rintro D' c pre U _ _ h _
    exact h.elim
end Go.Proofs.YtljmggemdkfbiaaGreat

/- Contract of joseph's Update, of enclosed numbers (layer 9). Written by genJo.py. -/
namespace Go.Proofs.YtljmggemdkfbiaaGreat
open Go.RowKit
set_option linter.unusedSimpArgs false
set_option linter.unusedVariables false

/-- The news as a value, and in a block. -/
abbrev newsVN (x y : En) : Value := .agg #[.int .i64 x.v, .int .i64 x.l, .int .i64 x.h, .bool x.bad, .int .i64 y.v, .int .i64 y.l, .int .i64 y.h, .bool y.bad]
structure NBoxN (w : World) (b : Nat) (x y : En) : Prop where
  c0 : w.cell? ⟨b, 0, none⟩ = some (.int .i64 x.v)
  c1 : w.cell? ⟨b, 1, none⟩ = some (.int .i64 x.l)
  c2 : w.cell? ⟨b, 2, none⟩ = some (.int .i64 x.h)
  c3 : w.cell? ⟨b, 3, none⟩ = some (.bool x.bad)
  c4 : w.cell? ⟨b, 4, none⟩ = some (.int .i64 y.v)
  c5 : w.cell? ⟨b, 5, none⟩ = some (.int .i64 y.l)
  c6 : w.cell? ⟨b, 6, none⟩ = some (.int .i64 y.h)
  c7 : w.cell? ⟨b, 7, none⟩ = some (.bool y.bad)
  f0 : w.frozen? ⟨b, 0, none⟩ = false
  f1 : w.frozen? ⟨b, 1, none⟩ = false
  f2 : w.frozen? ⟨b, 2, none⟩ = false
  f3 : w.frozen? ⟨b, 3, none⟩ = false
  f4 : w.frozen? ⟨b, 4, none⟩ = false
  f5 : w.frozen? ⟨b, 5, none⟩ = false
  f6 : w.frozen? ⟨b, 6, none⟩ = false
  f7 : w.frozen? ⟨b, 7, none⟩ = false
  lt : b < w.heap.size
theorem NBoxN.heap {w w' : World} {b : Nat} {x y : En} (h : NBoxN w b x y) (e : w'.heap[b]? = w.heap[b]?) (hs : w.heap.size ≤ w'.heap.size) : NBoxN w' b x y :=
  ⟨(World.cell?_of_block (a := ⟨b, 0, none⟩) e).trans h.c0, (World.cell?_of_block (a := ⟨b, 1, none⟩) e).trans h.c1, (World.cell?_of_block (a := ⟨b, 2, none⟩) e).trans h.c2, (World.cell?_of_block (a := ⟨b, 3, none⟩) e).trans h.c3, (World.cell?_of_block (a := ⟨b, 4, none⟩) e).trans h.c4, (World.cell?_of_block (a := ⟨b, 5, none⟩) e).trans h.c5, (World.cell?_of_block (a := ⟨b, 6, none⟩) e).trans h.c6, (World.cell?_of_block (a := ⟨b, 7, none⟩) e).trans h.c7, (World.frozen?_of_block (a := ⟨b, 0, none⟩) e).trans h.f0, (World.frozen?_of_block (a := ⟨b, 1, none⟩) e).trans h.f1, (World.frozen?_of_block (a := ⟨b, 2, none⟩) e).trans h.f2, (World.frozen?_of_block (a := ⟨b, 3, none⟩) e).trans h.f3, (World.frozen?_of_block (a := ⟨b, 4, none⟩) e).trans h.f4, (World.frozen?_of_block (a := ⟨b, 5, none⟩) e).trans h.f5, (World.frozen?_of_block (a := ⟨b, 6, none⟩) e).trans h.f6, (World.frozen?_of_block (a := ⟨b, 7, none⟩) e).trans h.f7, Nat.lt_of_lt_of_le h.lt hs⟩
theorem NBoxN.later {w w' : World} {b : Nat} {x y : En} (h : NBoxN w b x y) (k : Bl w w') : NBoxN w' b x y := h.heap (Below.block k b h.lt) (Below.size k)
theorem NBoxN.new (w : World) (x y : En) (t : TypeId) : NBoxN (w.alloc (.cells #[.int .i64 x.v, .int .i64 x.l, .int .i64 x.h, .bool x.bad, .int .i64 y.v, .int .i64 y.l, .int .i64 y.h, .bool y.bad] t)) w.heap.size x y := by
  refine ⟨?_, ?_, ?_, ?_, ?_, ?_, ?_, ?_, ?_, ?_, ?_, ?_, ?_, ?_, ?_, ?_, by simp⟩ <;> simp [go_sem]
theorem NBoxN.fill {u : World} {b : Nat} {x y : En} (h : NBoxN u b x y) (x' y' : En) : NBoxN ((((((((u.setCell ⟨b, 0, none⟩ (.int .i64 x'.v)).setCell ⟨b, 1, none⟩ (.int .i64 x'.l)).setCell ⟨b, 2, none⟩ (.int .i64 x'.h)).setCell ⟨b, 3, none⟩ (.bool x'.bad)).setCell ⟨b, 4, none⟩ (.int .i64 y'.v)).setCell ⟨b, 5, none⟩ (.int .i64 y'.l)).setCell ⟨b, 6, none⟩ (.int .i64 y'.h)).setCell ⟨b, 7, none⟩ (.bool y'.bad)) b x' y' := by
  obtain ⟨c0, c1, c2, c3, c4, c5, c6, c7, f0, f1, f2, f3, f4, f5, f6, f7, lt⟩ := h
  refine ⟨?_, ?_, ?_, ?_, ?_, ?_, ?_, ?_, ?_, ?_, ?_, ?_, ?_, ?_, ?_, ?_, ?_⟩ <;> simp [go_sem, *]
theorem scale_linN (p : Option Addr) (n cap : Nat) (x : Nat → En) (b : En) (w : World) (h : Rw 4 cellsN w (.slice p n cap) (linJ n x)) (hl : n ≤ 1000000) :
    Calls Tryz.prog 78 #[.slice p n cap, enV b] w fun e w' => ∃ q c, e = .returned (.slice q n c) ∧ Rw 4 cellsN w' (.slice q n c) (linJ n fun i => mulE (x i) b) ∧ Bl w w' :=
  (vScaleN _ _ b w h (by rw [linJ_len]; exact hl)).mono fun e w' ⟨u, he, hr, hb⟩ => by
    rw [linJ_map] at hr
    obtain ⟨q, c, rfl, _, _⟩ := hr.cut
    rw [linJ_len] at hr he
    exact ⟨q, c, he, hr, hb⟩
theorem add_linN (p q : Option Addr) (n cap cap2 : Nat) (x y : Nat → En) (w : World) (h : Rq 4 cellsN w (.slice p n cap) (linJ n x)) (h2 : Rq 4 cellsN w (.slice q n cap2) (linJ n y)) (hl : n ≤ 1000000) :
    Calls Tryz.prog 77 #[.slice p n cap, .slice q n cap2] w fun e w' => ∃ q c, e = .returned (.slice q n c) ∧ (Rw 4 cellsN w' (.slice q n c) (linJ n fun i => addE (x i) (y i)) ∧ Fresh w.heap.size (.slice q n c)) ∧ Bl w w' :=
  (vAddN' _ _ _ _ w h h2 (by rw [linJ_len]; exact hl) (by rw [linJ_len]; exact hl)).mono fun e w' ⟨u, he, hr, hf, hb⟩ => by
    rw [linJ_zip] at hr
    obtain ⟨q, c, rfl, _, _⟩ := hr.cut
    rw [linJ_len] at hr hf he
    exact ⟨q, c, he, ⟨hr, hf⟩, hb⟩
theorem Tryz.buildNN (x y : En) (u : World) : (Instr.build 54 #[(0, enV x), (1, enV y)]).run Tryz.prog u = .ok (newsVN x y) u := by kernel_rfl
end Go.Proofs.YtljmggemdkfbiaaGreat

/- Contract of joseph's Update, of enclosed numbers (layer 9): what goes together. Written by genJo.py. -/
namespace Go.Proofs.YtljmggemdkfbiaaGreat
open Go.RowKit
set_option linter.unusedSimpArgs false
set_option linter.unusedVariables false

end Go.Proofs.YtljmggemdkfbiaaGreat
