/- For every slice of ints and every two ints, HouseSquares tells true: the square of the triangle that Fold tells of whole numbers, enclosed, encloses the square of what was folded, if no number of the triangle is Bad (P8.2). Conditions: none (every input). -/
import Derived.Test.YtafjmogkiohjgaaGreatGI
import Derived.Test.YtafjmogkiohjgaaGreatGH
import Derived.Test.YtafjmogkiohjgaaGreatGB
import Derived.Test.YtafjmogkiohjgaaGreatGG
import Derived.Laws.EntriesVeiled
import Derived.Test.YtafjmogkiohjgaaGreatGJ
import Derived.ProofKit
import Derived.OpenShut
import Derived.Carry
/- HouseRow: one row of whole numbers folds to the root of its square, whose square is told and encloses it. Mathematics; and Whole of enclosed numbers as a call. -/
namespace Go.Proofs.YtafjmogkiohjgaaGreat
open Go.RowKit
set_option linter.unusedSimpArgs false
set_option linter.unusedVariables false

theorem encl_enq8 {a : En} {n d : Int} (h : Enq a n d) (hn : Wh n) (hd : 1 ≤ d ∧ d ≤ 1073741824) (hb : a.bad = false) : enclB a n d = true := by
  rcases h with rfl | ⟨hf, h1, h2⟩
  · cases hb
  · have r1 : rightB n = true := by unfold rightB; simp; have := hn.1; have := hn.2; omega
    have r2 : rightB d = true := by unfold rightB; simp; omega
    unfold enclB withinB
    rw [hf, r1, r2]
    simp [h1, h2, hd.1]
theorem fm_small {x y m : Int} (hx : 0 ≤ x) (hx2 : x ≤ 5000000000) (hy : 0 ≤ y) (hy2 : y ≤ 5000000000) (hm : MD m) : fmB x y m = true := by
  have h0 : 0 ≤ x * y := Int.mul_nonneg hx hy
  have h1 : x * y ≤ 5000000000 * 5000000000 := Int.mul_le_mul hx2 hy2 hy (by omega)
  have a1 := rnd_mono 0 (x * y) 16777216 m (by decide) h0
  have a2 := rnd_mono (x * y) (5000000000 * 5000000000) 16777216 m (by decide) h1
  have z : rnd 0 16777216 m = 0 := by rcases hm with rfl | rfl | rfl <;> decide
  have t : rnd (5000000000 * 5000000000) 16777216 m ≤ 1490116119385 := by rcases hm with rfl | rfl | rfl <;> decide
  exact (fm_told (frB_eq ⟨by omega, by omega⟩) (frB_eq ⟨by omega, by omega⟩) hm (frB_eq ⟨by omega, by omega⟩)).1
theorem mul_small {v l h : Int} (h0 : 0 ≤ l) (h1 : l ≤ v) (h2 : v ≤ h) (h3 : h ≤ 5000000000) : (mulE ⟨v, l, h, false⟩ ⟨v, l, h, false⟩).bad = false := by
  have fa : fineB ⟨v, l, h, false⟩ = true := fineB_iff.2 ⟨rfl, h1, h2, show frB l = true from frB_eq ⟨by omega, by omega⟩, show frB h = true from frB_eq ⟨by omega, by omega⟩⟩
  have m0 : MD 0 := .inl rfl
  have m1 : MD 1 := .inr (.inl rfl)
  have m2 : MD 2 := .inr (.inr rfl)
  have ok : okE fmB ⟨v, l, h, false⟩ ⟨v, l, h, false⟩ (prs4 ⟨v, l, h, false⟩ ⟨v, l, h, false⟩) = true := okE_iff.2 ⟨show fmB v v 0 = true from fm_small (by omega) (by omega) (by omega) (by omega) m0, fa, fa, by
    unfold okF prs4
    simp only [List.all_cons, List.all_nil, Bool.and_true]
    rw [fm_small h0 (by omega) h0 (by omega) m1, fm_small h0 (by omega) h0 (by omega) m2, fm_small h0 (by omega) (show 0 ≤ h by omega) h3 m1, fm_small h0 (by omega) (show 0 ≤ h by omega) h3 m2, fm_small (show 0 ≤ h by omega) h3 h0 (by omega) m1, fm_small (show 0 ≤ h by omega) h3 h0 (by omega) m2, fm_small (show 0 ≤ h by omega) h3 (show 0 ≤ h by omega) h3 m1, fm_small (show 0 ≤ h by omega) h3 (show 0 ≤ h by omega) h3 m2]
    rfl⟩
  unfold mulE
  rw [told_ok ok]
theorem sq_sum : ∀ (xs : List Int), Sml 100 xs → 0 ≤ dotI xs xs ∧ dotI xs xs ≤ 10000 * xs.length
  | [], _ => ⟨by decide, by decide⟩
  | x :: xs, h => by
    have ih := sq_sum xs h.tail
    have hb := mul_bound h.head h.head
    have h0 : 0 ≤ x * x := by
      rcases Int.le_total 0 x with hx | hx
      · exact Int.mul_nonneg hx hx
      · exact Int.mul_nonneg_of_nonpos_of_nonpos hx hx
    have e : dotI (x :: xs) (x :: xs) = x * x + dotI xs xs := by unfold dotI; rw [List.zipWith_cons_cons, List.sum_cons]
    rw [e, List.length_cons]
    constructor
    · omega
    · have : ((xs.length + 1 : Nat) : Int) = (xs.length : Int) + 1 := by omega
      rw [this]
      omega
theorem dotI_snoc8 : ∀ (xs : List Int) (x : Int), dotI (xs ++ [x]) (xs ++ [x]) = dotI xs xs + x * x
  | [], x => by show x * x + 0 = 0 + x * x; omega
  | y :: ys, x => by
    have ih := dotI_snoc8 ys x
    have e : ∀ (a : Int) (l : List Int), dotI (a :: l) (a :: l) = a * a + dotI l l := fun a l => by unfold dotI; rw [List.zipWith_cons_cons, List.sum_cons]
    rw [List.cons_append, e, e, ih]
    omega
/-- What one row folds to. -/
theorem row8 {m : Nat} {f : Nat → Nat → En} {xs : List Int} (ht : tailH m 0 (f 0) = xs.map itN) (hs : Sml 100 xs) (hl : xs.length ≤ 8) :
    ∃ x, foldN 1 m f 0 0 = x ∧ x.bad = false ∧ lowN x = false ∧ enclB (mulE x x) (dotI xs xs) 1 = true := by
  obtain ⟨D, hD⟩ : ∃ D, D = dotI xs xs := ⟨_, rfl⟩
  obtain ⟨d0, d1⟩ := sq_sum xs hs
  rw [← hD] at d0 d1 ⊢
  have d2 : D ≤ 80000 := by omega
  have hdot : dotN (tailH m 0 (f 0)) (tailH m 0 (f 0)) = itN D := by
    rw [ht, dotN_it (fun x hx => by have := hs x hx; omega) (fun x hx => by have := hs x hx; omega) (by omega), hD]
  obtain ⟨p, hp⟩ : ∃ p, p = (if lowN (f 0 0) = true then rootE (itN D) else negE (rootE (itN D))) := ⟨_, rfl⟩
  have hp1 : foldL kdN lowN m f 1 0 0 = p := by
    show foldStep kdN m 0 (lowN (f 0 0)) f 0 0 = _
    unfold foldStep
    rw [if_pos rfl, if_pos rfl, hp]
    unfold pH
    show (if lowN (f 0 0) = true then rootE (dotN (tailH m 0 (f 0)) (tailH m 0 (f 0))) else negE (rootE (dotN (tailH m 0 (f 0)) (tailH m 0 (f 0))))) = _
    rw [hdot]
  have hS : foldN 1 m f 0 0 = if lowN p = true then negE p else p := by
    unfold foldN signsH
    by_cases hlo : lowN p = true
    · rw [if_pos ⟨Nat.le_refl _, by show lowN (foldL kdN lowN m f 1 0 0) = true; rw [hp1]; exact hlo⟩, if_pos hlo, hp1]
      rfl
    · rw [if_neg (fun h => hlo (by have h2 : lowN (foldL kdN lowN m f 1 0 0) = true := h.2; rw [hp1] at h2; exact h2)), if_neg hlo, hp1]
  by_cases hz : 1 ≤ D
  · obtain ⟨v, l, h, e1, a1, a2, a3, a4, e2⟩ := row_signs hz d2 (lowN (f 0 0))
    rw [← hp] at e2
    rw [e2] at hS
    refine ⟨_, hS, by rw [e1], ?_, encl_enq8 (row_square hz d2 (by rw [e1]; exact mul_small (by omega) a2 a3 a4)) ⟨by omega, by omega⟩ ⟨by omega, by omega⟩ (by rw [e1]; exact mul_small (by omega) a2 a3 a4)⟩
    rw [e1]
    unfold lowN
    refine decide_eq_false ?_
    show ¬ cmpI v 0 < 0
    unfold cmpI
    split <;> omega
  · have : D = 0 := by omega
    subst this
    have r0 : rootE (itN 0) = itN 0 := rootN_it (s := 0) (by omega) (by omega)
    have n0 : negE (itN 0) = itN 0 := negN_it ⟨by omega, by omega⟩
    have hp0 : p = itN 0 := by rw [hp, r0, n0]; split <;> rfl
    have l0 : lowN (itN 0) = false := by rw [lowN_it]; rfl
    rw [hp0, l0, if_neg nofun] at hS
    refine ⟨_, hS, rfl, l0, ?_⟩
    rw [mulN_it ⟨by omega, by omega⟩ ⟨by omega, by omega⟩ ⟨by omega, by omega⟩]
    exact encl_it ⟨by omega, by omega⟩
theorem whole8N_call (R C : Nat) (p : Option Addr) (n cap : Nat) (ns : List Int) (w : World) (hr : Rq 1 cI w (.slice p n cap) ns) (hd : Dim R C) (hn : n = R * C) (hl : ns.length = n) :
    Calls Tryz.prog 14 #[.int .i64 R, .int .i64 C, .slice p n cap] w fun e w' => ∃ p' cap', e = .returned (.tuple #[mV R C p' n cap', .bool true]) ∧ Mx 4 cellsN w' R C p' n cap' (fun i k => wholeN (ofL C ns i k)) ∧ Bl w w' := by
  refine (mWholeN R C p n cap ns w hr (fitB_dim hd hn) hl).mono ?_
  rintro e w' ⟨p', cap', rfl, hR, hb⟩
  refine ⟨p', cap', rfl, ⟨hd, hn, ?_⟩, hb⟩
  have e := ofL_mk (R := R) (M := C) (ns := ns) (by rw [hl, hn])
  rw [e, mk_map] at hR
  exact hR.q
end Go.Proofs.YtafjmogkiohjgaaGreat

/- mat's Mul, of enclosed numbers (layer 6). Written by genMa.py. -/
namespace Go.Proofs.YtafjmogkiohjgaaGreat
open Go.RowKit Go.Shelf
set_option linter.unusedSimpArgs false
set_option linter.unusedVariables false
attribute [local go_sem] Oper.semAt_some

/-- A product's number. -/
def mulMN (M : Nat) (f g : Nat → Nat → En) (i k : Nat) : En := dotN (rowM M f i) (colM M g k)
theorem own_blTN {w w' : World} {B n : Nat} {v : Value} {l : List Value} (h : w.ownsRow B 28 4 v n l) (k : Bl w w') : w'.ownsRow B 28 4 v n l := own_blN h k
set_option maxRecDepth 100000 in
set_option maxHeartbeats 4000000 in
theorem mMulN (R M D : Nat) (p : Option Addr) (n cap : Nat) (f : Nat → Nat → En) (q : Option Addr) (n2 cap2 : Nat) (g : Nat → Nat → En) (N : Nat) (w : World) (hx : Mx 4 cellsN w R M p n cap f) (hy : Mx 4 cellsN w M D q n2 cap2 g) (hN : N = R * D) :
    Calls Tryz.prog 40 #[mV R M p n cap, mV M D q n2 cap2] w fun e w' => ∃ p' cap', e = .returned (.tuple #[mV R D p' N cap', .bool true]) ∧ (Mx 4 cellsN w' R D p' N cap' (mulMN M f g) ∧ Rw 4 cellsN w' (.slice p' N cap') (mk R D (mulMN M f g)) ∧ Fresh w.heap.size (.slice p' N cap')) ∧ Bl w w' := by
  obtain ⟨i0, hi, hz0, hz1, hz2⟩ := info_parts Tryz.info_N
  refine (callsIn_wide (n := 8)).1 ?_
  have hfx := hx.fit
  have hfy := hy.fit
  have hdR := hx.1
  have hdD := hy.1
  have hRD : (R : Int) * (D : Int) = N := by rw [hN]; simp
  have hN256 : N ≤ 256 := by rw [hN]; exact Nat.mul_le_mul hdR.r2 hdD.c2
  have hM16 := hdR.c2
  have HN := hideP hN
  have HXm := hideP hx
  have HYm := hideP hy
  clear hN hx hy
  obtain ⟨W, hW⟩ : ∃ W, W = ((w.alloc (.cells #[.int .i64 R, .int .i64 M, .slice p n cap] 24)).alloc (.cells #[.int .i64 M, .int .i64 D, .slice q n2 cap2] 24)).alloc (.cells #[.int .i64 0, .int .i64 0, .slice none 0 0] 24) := ⟨_, rfl⟩
  have b0 : Bl w W := by rw [hW]; exact (((Bl.refl _).alloc _).alloc _).alloc _
  have mx0 : MBox W w.heap.size R M p n cap := by rw [hW]; exact (MBox.new w _ _ _ _ _ _).later (((Bl.refl _).alloc _).alloc _)
  have my0 : MBox W (w.heap.size + 1) M D q n2 cap2 := by rw [hW]; have := (MBox.new (w.alloc (.cells #[.int .i64 R, .int .i64 M, .slice p n cap] 24)) M D q n2 cap2 24); rw [World.size_alloc] at this; exact this.later ((Bl.refl _).alloc _)
  have mz0 : MBox W (w.heap.size + 1 + 1) 0 0 none 0 0 := by rw [hW]; have := MBox.new ((w.alloc (.cells #[.int .i64 R, .int .i64 M, .slice p n cap] 24)).alloc (.cells #[.int .i64 M, .int .i64 D, .slice q n2 cap2] 24)) 0 0 none 0 0 24; rw [World.size_alloc, World.size_alloc] at this; exact this
  have hs0 : W.heap.size = w.heap.size + 1 + 1 + 1 := by rw [hW]; simp
  have HW := hideP hW
  clear hW
  refine callsIn_of_wp_marks Tryz.func40 rfl trivial ?_ rfl
  simp only [Tryz.ntmps40, List.size_toArray, List.length_cons, List.length_nil, Nat.reduceAdd, Nat.reduceSub, Array.replicate_succ, Array.replicate_zero, List.push_toArray, List.append_toArray, List.nil_append, List.cons_append]
  gi_wp2_with fail
  rw [← HW.out]
  refine ⟨trivial, ?_⟩
  refine (callsIn_wide.2 (mRightN _ _ _ _ _ _)).mono ?_
  rintro e w1 ⟨rfl, h1⟩
  rw [hfx]
  have mx1 := mx0.later h1
  have my1 := my0.later h1
  obtain ⟨d0, d1, d2, u0, u1, u2, ltm⟩ := my1
  obtain ⟨c0, c1, c2, f0, f1, f2, lt⟩ := mx1
  gi_wp2_with fail
  refine ⟨trivial, ?_⟩
  refine (callsIn_wide.2 (mRightN _ _ _ _ _ _)).mono ?_
  rintro e w2 ⟨rfl, h2⟩
  rw [hfy]
  clear c0 c1 c2 f0 f1 f2 d0 d1 d2 u0 u1 u2 lt ltm
  obtain ⟨c0, c1, c2, f0, f1, f2, lt⟩ := mx0.later (h1.trans h2)
  obtain ⟨d0, d1, d2, u0, u1, u2, ltm⟩ := my0.later (h1.trans h2)
  gi_wp2_with fail
  refine ⟨trivial, ?_⟩
  refine (callsIn_wide.2 (mTurnN _ _ _ _ _ g _ (HYm.out.later ((b0.trans h1).trans h2)))).mono ?_
  rintro e w3 ⟨q1, cap3, rfl, ⟨hT, _, _⟩, h3⟩
  have HT := hideP hT
  clear hT c0 c1 c2 f0 f1 f2 d0 d1 d2 u0 u1 u2 lt ltm
  gi_wp2_with fail
  refine ⟨trivial, ?_⟩
  refine (callsIn_wide.2 (mAllN _ _ _ _ _ _ _ HT.out)).mono ?_
  rintro e w4 ⟨B1, q2, cap4, rfl, hK4, h4⟩
  have HK4 := hideP hK4
  clear hK4
  have h14 : Bl W w4 := ((h1.trans h2).trans h3).trans h4
  obtain ⟨w5, hw5⟩ : ∃ w5, w5 = w4.alloc (.cells #[.func (.func 62) #[] #[.pointer (some ⟨B1, 0, none⟩)]] 61) := ⟨_, rfl⟩
  have b45 : Bl w4 w5 := by rw [hw5]; exact (Bl.refl _).alloc _
  have hs5 : w5.heap.size = w4.heap.size + 1 := by rw [hw5]; simp
  have BC5 : Boxed w5 w4.heap.size 61 (.func (.func 62) #[] #[.pointer (some ⟨B1, 0, none⟩)]) := by rw [hw5]; exact Boxed.new w4 _ _
  have mx5 := mx0.later (h14.trans b45)
  have my5 := my0.later (h14.trans b45)
  have mz5 := mz0.later (h14.trans b45)
  have bw5 : Bl w w5 := (b0.trans h14).trans b45
  have HW5 := hideP hw5
  clear hw5
  obtain ⟨c0, c1, c2, f0, f1, f2, lt⟩ := mx0.later h14
  obtain ⟨d0, d1, d2, u0, u1, u2, ltm⟩ := my0.later h14
  gi_wp2_with (gi_at_make; refine wpListIn_make_own _ rfl _ _ 22 rfl (w4.heap.size + 1) 28 i0 (.agg #[.int .i64 0, .int .i64 0, .int .i64 0, .bool false]) 4 Tryz.underlying22 hi hz0 hz1 .i64 .i64 _ N rfl rfl (by simp) (by rw [hz2]; omega) (by unfold maxLen; omega) (by simp) ?_; intro w6 hown0 hgrow0; rw [← HW5.out] at hown0 hgrow0; have mx6 := mbox_block mx5 (hgrow0.block _ mx5.lt nofun) hgrow0.size; clear c0 c1 c2 f0 f1 f2 d0 d1 d2 u0 u1 u2 lt ltm; obtain ⟨c0, c1, c2, f0, f1, f2, lt⟩ := mx6)
  have h56 : Bl w5 w6 := ⟨hgrow0.os, hgrow0.tape, hgrow0.output, hgrow0.size, fun k hk => hgrow0.block k hk nofun⟩
  have hs6 : w5.heap.size ≤ w6.heap.size := hgrow0.size
  obtain ⟨w6b, hw6b⟩ : ∃ w6b, w6b = w6.alloc (.cells #[.slice (some ⟨w4.heap.size + 1, 0, none⟩) 0 N] 22) := ⟨_, rfl⟩
  have h6b : Bl w6 w6b := by rw [hw6b]; exact (Bl.refl _).alloc _
  have hs6b : w6b.heap.size = w6.heap.size + 1 := by rw [hw6b]; simp
  have bl6 : Boxed w6b w6.heap.size 22 (.slice (some ⟨w4.heap.size + 1, 0, none⟩) 0 N) := by rw [hw6b]; exact Boxed.new w6 _ _
  have hown6 : w6b.ownsRow (w4.heap.size + 1) 28 4 (.slice (some ⟨w4.heap.size + 1, 0, none⟩) 0 N) 0 [] := by
    rw [hs5] at hown0
    exact own_blN hown0 h6b
  have HW6 := hideP hw6b
  clear hw6b hown0 hgrow0 c0 c1 c2 f0 f1 f2 lt
  rw [← HW6.out]
  refine ⟨trivial, ?_⟩
  refine (callsIn_wide.2 (mAllN _ _ _ _ _ f _ (HXm.out.later ((bw5.trans h56).trans h6b)))).mono ?_
  rintro e w7 ⟨B2, p2, cap5, rfl, hK7, h7⟩
  have HK7 := hideP hK7
  clear hK7
  have hs7 : w6.heap.size + 1 ≤ w7.heap.size := by have := h7.size; omega
  have b57 : Below w5.heap.size w5 w7 := (h56.trans h6b).trans h7
  have bl7 := boxed_bl bl6 h7
  have own7 := own_blN hown6 h7
  clear bl6 hown6
  have K4at : ∀ u, Below w5.heap.size w5 u → KeptIn 4 cellsN u w3.heap.size w4.heap.size B1 D M q2 n2 cap4 (fun i k => g k i) := fun u hu =>
    (HK4.out.later (Bl.span b45 (Nat.le_refl _))).later (Bl.span (show Bl w5 u from hu) (by omega))
  have HKA := hideP K4at
  clear K4at
  gi_wp2_with fail
  refine rangeV rfl (by omega) (gf := 62) (lb := #[.pointer (some ⟨B2, 0, none⟩)]) rfl trivial (enters_of Tryz.func62 (by kernel_rfl) rfl)
    (seqMN 7 B2 _ w7.heap.size R M p2 n cap5 f w7 (Nat.le_refl _) HK7.out) (fun x A B h => h.1) (fun h k => h.trans k) (span_b (Nat.le_refl _)) (fun _ => rfl)
    (fun pre U => (∃ v, Boxed U w6.heap.size 22 v ∧ U.ownsRow (w4.heap.size + 1) 28 4 v (rowsL D (mulMN M f g) pre).length ((rowsL D (mulMN M f g) pre).flatMap cellsN) ∧ (∀ b, v.ownBlock = some b → b < w6b.heap.size ∨ w7.heap.size ≤ b)) ∧ (Below w5.heap.size w5 U ∧ w7.heap.size ≤ U.heap.size))
    (fun _ _ _ => False)
    (OwnFrom.and (Own.from (holdsRow_own (w4.heap.size + 1) w6.heap.size 22 28 4 (fun pre => (rowsL D (mulMN M f g) pre).length) (fun pre => (rowsL D (mulMN M f g) pre).flatMap cellsN) (fun _ v => ∀ b, v.ownBlock = some b → b < w6b.heap.size ∨ w7.heap.size ≤ b)) _) (OwnFrom.and (ownFrom_below (Nat.le_refl _) b57.size) (own_size _ _)))
    (fun _ _ _ _ _ hs _ _ => hs)
    ⟨⟨_, bl7, own7, fun b hb => by cases hb; exact .inl (by show w4.heap.size + 1 < _; omega)⟩, b57, Nat.le_refl _⟩
    (fun a x a' U => ∃ Bx v, w7.heap.size ≤ Bx ∧ Boxed U Bx 22 (rowV M x) ∧ Rw 4 cellsN U (rowV M x) (rowM M f x.1) ∧ Boxed U w6.heap.size 22 v ∧ (∀ b, (rowV M x).ownBlock = some b → w7.heap.size ≤ b ∧ v.ownBlock ≠ some b)
      ∧ a' = { tmps := (((a.tmps.setIfInBounds 39 (.int .i64 x.1)).setIfInBounds 40 (rowV M x)).setIfInBounds 9 (.pointer (some ⟨Bx, 0, none⟩))), defers := [] })
    (fun x a' _ X Y row hs hg hr => by obtain ⟨Bx, v, h0, h1, h2, h3, h4, h5⟩ := hs; exact ⟨Bx, v, h0, (Own.from (boxed_own (β := Unit) _ _ (fun _ => _)) _) () _ _ _ h1 hg hr, rw_own h2 hg (fun r e => (hr r e).2), (Own.from (boxed_own (β := Unit) _ _ (fun _ => _)) _) () _ _ _ h3 hg hr, h4, h5⟩)
    ?assign ?body ?done ?stop
  case assign =>
    rintro l pre x W0 U K' ⟨⟨v0, hv0, hr0, _⟩, _, hs0'⟩ ⟨hbU, hxR, hrow, hfr, hcc⟩ ⟨⟨v, hv, hr, hg⟩, hbU5, hsU⟩ hK'
    have HK2 := hideP hK'
    clear hK'
    have hvv : v0 = v := by
      have e1 := (boxed_bl hv0 hbU).cell
      rw [hv.cell] at e1
      exact (Option.some.inj e1).symm
    subst hvv
    have hfw : ∀ b, (rowV M x).ownBlock = some b → w7.heap.size ≤ b ∧ v0.ownBlock ≠ some b := fun b hb => ⟨by have := hfr b hb; omega, fun e => by have := (hr0.lt b e).2; have := hfr b hb; omega⟩
    gi_wp2
    have hb2 : Bl U (U.alloc (.cells #[.slice x.2.1 M x.2.2] 22)) := (Bl.refl U).alloc _
    refine HK2.out _ _ (hb2.keeps _) (hb2.span hsU) ⟨⟨v0, hv.alloc _, hr.alloc _, hg⟩, hbU5.trans (hb2.mono hbU5.size), by have := hb2.size; omega⟩ ⟨U.heap.size, v0, hsU, Boxed.new U _ _, hrow.later hb2, hv.alloc _, hfw, ?_⟩
    rfl
  case body =>
    rintro l pre x a' U hl' ⟨r, hr'⟩ ⟨⟨v1, hv1, hrow1, hg1⟩, hbU, hsU⟩ ⟨Bx, v2, hBx, hbx, hrx, hv2, hne, rfl⟩ hlt
    have hvv : v1 = v2 := by
      have e1 := hv1.cell
      rw [hv2.cell] at e1
      exact (Option.some.inj e1).symm
    subst hvv
    have fm : Tryz.prog.follows .mixedOrders = true := by kernel_rfl
    simp only [List.setIfInBounds_toArray, List.set_cons_zero, List.set_cons_succ]
    have hcl := (boxed_bl (show Boxed w5 _ _ _ from BC5) hbU).cell
    have hKU := HKA.out U hbU
    have HR1 := hideP hrow1
    have HV1 := hideP hv1
    have HBX := hideP hbx
    have HRX := hideP hrx
    have HNE := hideP hne
    have HG1 := hideP hg1
    have hlx : pre.length * D + D ≤ 256 := by
      have h1 : (pre.length + 1) * D ≤ R * D := Nat.mul_le_mul_right _ hlt
      have := HN.out
      rw [Nat.succ_mul] at h1
      omega
    clear hrow1 hv1 hbx hrx hne hg1 hv2
    gi_wp2_with fail
    clear hcl
    refine rangeVin (l₀ := l) (r₀ := r) rfl hr' (by omega) (gf := 62) (lb := #[.pointer (some ⟨B1, 0, none⟩)]) rfl trivial (enters_of Tryz.func62 (by kernel_rfl) rfl)
      ((seqMN 5 B1 w3.heap.size w4.heap.size D M q2 n2 cap4 (fun i k => g k i) U (by omega) hKU).inRound l) (fun x A B h => h.1) (fun h k => h.trans k) (span_b (by omega)) (fun _ => rfl)
      (fun pre2 U2 => (∃ v, Boxed U2 w6.heap.size 22 v ∧ U2.ownsRow (w4.heap.size + 1) 28 4 v (partL D (mulMN M f g) pre x.1 pre2).length ((partL D (mulMN M f g) pre x.1 pre2).flatMap cellsN) ∧ (∀ b, v.ownBlock = some b → (b < w6b.heap.size ∨ w7.heap.size ≤ b) ∧ (rowV M x).ownBlock ≠ some b))
        ∧ (Boxed U2 Bx 22 (rowV M x) ∧ (Rw 4 cellsN U2 (rowV M x) (rowM M f x.1) ∧ (Below w5.heap.size w5 U2 ∧ (w7.heap.size ≤ U2.heap.size ∧ (Span w6b.heap.size w7.heap.size U U2 ∧ (KeepsFrom w7.heap.size U U2 ∧ U.heap.size ≤ U2.heap.size)))))))
      (fun _ _ _ => False)
      (OwnFrom.and (Own.from (holdsRow_own (w4.heap.size + 1) w6.heap.size 22 28 4 (fun pre2 => (partL D (mulMN M f g) pre x.1 pre2).length) (fun pre2 => (partL D (mulMN M f g) pre x.1 pre2).flatMap cellsN) (fun _ v => ∀ b, v.ownBlock = some b → (b < w6b.heap.size ∨ w7.heap.size ≤ b) ∧ (rowV M x).ownBlock ≠ some b)) _)
        (OwnFrom.and (Own.from (boxed_own _ _ (fun _ => _)) _) (OwnFrom.and (own_rw _ _ _ _ _) (OwnFrom.and (ownFrom_below (Nat.le_refl _) (by have := b57.size; omega)) (OwnFrom.and (own_size _ _) (OwnFrom.and (own_span hsU (Nat.le_refl _)) (OwnFrom.and (ownFrom_keepsFrom (Nat.le_refl _)) (own_size _ _))))))))
      (fun _ _ _ _ _ hs _ _ => hs)
      ⟨⟨v1, HV1.out, by rw [partL_nil]; exact HR1.out, fun b hb => ⟨HG1.out b hb, fun e => (HNE.out b e).2 hb⟩⟩, HBX.out, HRX.out, hbU, hsU, Span.refl _ _ _, KeepsFrom.refl _ _, Nat.le_refl _⟩
      (fun a y a' U2 => y.1 < D ∧ Rw 4 cellsN U2 (rowV M y) (colM M g y.1) ∧ a' = { tmps := (((a.tmps.setIfInBounds 42 (.int .i64 y.1)).setIfInBounds 43 (rowV M y)).setIfInBounds 11 (rowV M y)), defers := [] })
      (fun y a' _ X Y row hs hg hr => ⟨hs.1, rw_own hs.2.1 hg (fun r e => (hr r e).2), hs.2.2⟩)
      ?assign2 ?body2 ?done2 ?stop2
    case assign2 =>
      rintro l2 pre2 y W0 U2 K' _ ⟨hbU2, hyD, hrow, _, _⟩ hI2 hK'
      have HK2 := hideP hK'
      have HI2 := hideP hI2
      clear hK' hI2
      gi_wp2
      exact HK2.out _ _ (KeepsFrom.refl _ _) (Span.refl _ _ _) HI2.out ⟨hyD, hrow, rfl⟩
    case body2 =>
      rintro l2 pre2 y a' U2 hl2 ⟨r2, hr2⟩ ⟨⟨v, hv, hrow, hgv⟩, hbx2, hrx2, hb5, hs7', hsp, hkf, hsU2⟩ ⟨hyD, hry, rfl⟩ hlt2
      simp only [List.setIfInBounds_toArray, List.set_cons_zero, List.set_cons_succ]
      gi_wp2_with fail
      have hC := fun u (hu : Bl U2 u) => vDotN (rowV M x) (rowV M y) (rowM M f x.1) (colM M g y.1) u (hrx2.later hu).q (hry.later hu).q (by rw [rowM_len]; omega) (by rw [colM_len]; omega)
      have hlen2 : (partL D (mulMN M f g) pre x.1 pre2).length ≤ 100000 := by rw [partL_len]; omega
      refine dotAppendN (ops := _) rfl (by kernel_rfl) 44 7 65 (by simp) (by omega) ⟨rfl, rfl, rfl⟩ ⟨rfl, rfl⟩ ⟨rfl, rfl⟩ ⟨rfl, rfl, rfl⟩ ⟨rfl, rfl, rfl⟩ ⟨rfl, rfl, rfl⟩ ⟨rfl, rfl, rfl⟩ ⟨by simp, by simp⟩ (by simp) ⟨by simp, by simp⟩ (by simp)
        (rowV M x) (rowV M y) (fun act u K' hfr hu hk => load_wp 22 (.tmp 9) rfl (by rw [hfr 9 (by omega)]; exact Tryz.load1N Bx _ u (boxed_bl hbx2 hu).cell) hk)
        (fun act u K' hfr hu hk => move_wp (.tmp 11) rfl (by rw [hfr 11 (by omega)]; exact hk))
        trivial (fun _ => by omega) (enters_of Tryz.func65 (by kernel_rfl) rfl) (mulMN M f g x.1 y.1)
        (fun u hu => CallsIn.inRound l2 (CallsIn.inRound l (callsIn_wide.2 (hC u hu))))
        w6.heap.size rfl v hv (w4.heap.size + 1) (partL D (mulMN M f g) pre x.1 pre2) hrow hlen2 (by omega) ?_
      intro act u0 w8 g' cap' k1 k2 k3 k4
      have hvu := boxed_bl hv k1
      have hru := own_blN hrow k1
      have hsu := k1.size
      have hu5 : w4.heap.size + 1 ≤ u0.heap.size := by omega
      obtain ⟨hv5, hv6, hr6, hk6, hb6⟩ := boxed_appended hvu (by decide) hru hu5 (by omega) k3 k2
      have hg8 := k2.size
      have hbb : ∀ b, (rowV M x).ownBlock = some b → b < U2.heap.size := hrx2.lt
      have hsB : Below w5.heap.size U2 (w8.setCell ⟨w6.heap.size, 0, none⟩ (.slice (some ⟨g', 0, none⟩) ((partL D (mulMN M f g) pre x.1 pre2).length + 1) cap')) := (k1.mono (by omega)).trans (by rw [hs5]; exact hb6)
      refine ⟨(k1.keeps _).trans (hk6.from _), ⟨by have := hsB.size; omega, fun k _ h2 => hsB.block k (by omega)⟩, ⟨_, hv6, ?_, ?_⟩, ?_, ?_, ?_, ?_, ?_, ?_, ?_⟩
      · rw [partL_snoc]
        simpa [List.flatMap_append] using hr6
      · intro b hb
        have hb' : g' = b := by cases hb; rfl
        subst hb'
        rcases k4 with h | h
        · exact hgv _ h.symm
        · exact ⟨.inr (by omega), fun e => by have := hbb _ e; omega⟩
      · exact ((boxed_bl hbx2 k1).kept k2 ((boxed_bl hbx2 k1).not_row (by decide) hru)).other (by omega) _
      · exact (hrx2.later k1).beside k2 (fun b hb => ⟨fun e => (hgv b e).2 hb, by have := (HNE.out b hb).1; omega⟩)
      · exact hb5.trans hsB
      · simp; omega
      · exact hsp.trans (span_appended k1 (by omega) (fun b hb => (hgv b hb).1) k2 (by omega))
      · exact hkf.trans ((k1.keeps _).trans (hk6.from _))
      · simp; omega
    case done2 =>
      rintro zs U2 hS ⟨⟨v, hv, hrow, hgv⟩, _, _, hb5, hs7', hsp, hkf, _⟩
      gi_wp2
      refine ⟨hkf, hsp, ⟨⟨v, hv, ?_, fun b hb => (hgv b hb).1⟩, hb5, hs7'⟩⟩
      rw [← partL_all D (mulMN M f g) pre x zs hS]
      exact hrow
    case stop2 =>
      rintro c pre2 U2 _ h
      exact h.elim
  case done =>
    rintro Dm zs U hD hS ⟨⟨v, hv, hrow, _⟩, hb5, hs7'⟩ hKD
    have e := rowsL_all D (mulMN M f g) zs hS
    rw [e] at hrow
    have RW := Rw.of_own cellsN_len hrow
    have FR : Fresh (w4.heap.size + 1) v := fun b hb => (hrow.lt b hb).1
    obtain ⟨p', cap', hv', _, _⟩ := RW.cut
    rw [mk_len, ← HN.out] at hv'
    subst hv'
    have hcl := hv.cell
    have HRW := hideP RW
    have HFR := hideP FR
    have HKD := hideP hKD
    obtain ⟨c0, c1, c2, f0, f1, f2, lt⟩ := mx5.later (show Bl w5 U from hb5)
    obtain ⟨d0, d1, d2, u0, u1, u2, ltm⟩ := my5.later (show Bl w5 U from hb5)
    obtain ⟨x0, x1, x2, y0, y1, y2, ltz⟩ := mz5.later (show Bl w5 U from hb5)
    have hbw : Bl w U := bw5.trans hb5
    clear hrow RW FR hKD hv
    gi_wp2
    have hs4 := h14.size
    have hdm : Dm ≠ w.heap.size + 1 + 1 := by omega
    have hKD2 : ((((U.setCell ⟨w.heap.size + 1 + 1, 0, none⟩ (.int .i64 R)).setCell ⟨w.heap.size + 1 + 1, 1, none⟩ (.int .i64 D)).setCell ⟨w.heap.size + 1 + 1, 2, none⟩ (.slice p' N cap'))).heap[Dm]? = some (.deferred (some [])) :=
      (((KeepsOthers.setCell _ _ _).trans (KeepsOthers.setCell _ _ _)).trans (KeepsOthers.setCell _ _ _)).same Dm _ HKD.out rfl
    refine ⟨by simp, .inl ⟨_, _, rfl, run_takeDeferred hKD2, ?_⟩⟩
    have mzf := MBox.fill (⟨x0, x1, x2, y0, y1, y2, ltz⟩ : MBox U (w.heap.size + 1 + 1) 0 0 none 0 0) R D p' N cap'
    have mzg := mbox_block (w' := World.putObj _ Dm (.deferred none)) mzf (World.putObj_heap_other (by omega)) (by simp [World.putObj])
    have blf := Bl.put3 hbw (n := w.heap.size + 1 + 1) (by omega) (.int .i64 R) (.int .i64 D) (.slice p' N cap')
    have rwf := ((HRW.out.set (p := ⟨w.heap.size + 1 + 1, 0, none⟩) (.int .i64 R) (fun b hb => by have := HFR.out b hb; show w.heap.size + 1 + 1 + 1 ≤ b; omega)).set (p := ⟨w.heap.size + 1 + 1, 1, none⟩) (.int .i64 D) (fun b hb => by have := HFR.out b hb; show w.heap.size + 1 + 1 + 1 ≤ b; omega)).set (p := ⟨w.heap.size + 1 + 1, 2, none⟩) (.slice p' N cap') (fun b hb => by have := HFR.out b hb; show w.heap.size + 1 + 1 + 1 ≤ b; omega)
    generalize ((U.setCell ⟨w.heap.size + 1 + 1, 0, none⟩ (.int .i64 R)).setCell ⟨w.heap.size + 1 + 1, 1, none⟩ (.int .i64 D)).setCell ⟨w.heap.size + 1 + 1, 2, none⟩ (.slice p' N cap') = Z at *
    have rwg : Rw 4 cellsN (Z.putObj Dm (.deferred none)) (.slice p' N cap') (mk R D (mulMN M f g)) := rw_own rwf (grownBy_putObj' _ Dm (.deferred none)) (fun r e => by cases e; exact ⟨_, hKD2, rfl⟩)
    have blg : Bl w (Z.putObj Dm (.deferred none)) := Below.trans blf (belowK_b (w := w) (Nat.le_refl _) Z Dm _ _ (by have := hbw.size; have := b57.size; omega) hKD2 rfl rfl)
    generalize Z.putObj Dm (.deferred none) = Y at *
    obtain ⟨a0, a1, a2, _, _, _, _⟩ := mzg
    refine ⟨.tuple #[mV R D p' N cap', .bool true], ?_, p', cap', rfl, ⟨⟨⟨hdR.r1, hdR.r2, hdD.c1, hdD.c2⟩, HN.out, rwg.q⟩, rwg, fun b hb => by have := HFR.out b hb; omega⟩, blg⟩
    simp [results, Tryz.results40, go_sem, a0, a1, a2]
  case stop =>
    rintro D' c pre U _ _ h _
    exact h.elim
end Go.Proofs.YtafjmogkiohjgaaGreat

/- Contracts of mat's Col, Mirror, of enclosed numbers (layer 6). Written by genMa.py. -/
namespace Go.Proofs.YtafjmogkiohjgaaGreat
open Go.RowKit
set_option linter.unusedSimpArgs false
set_option linter.unusedVariables false

/-- The number below the diagonal, of two places. -/
def mirM {α : Type} (f : Nat → Nat → α) (i k : Nat) : α := f (max i k) (min i k)
set_option maxRecDepth 100000 in
set_option maxHeartbeats 1000000 in
theorem mMirror1N (R : Nat) (p : Option Addr) (n cap : Nat) (f : Nat → Nat → En) (w : World) (h : Mx 4 cellsN w R R p n cap f) (mb : Nat) (hm : MBox w mb R R p n cap) (i k : Nat) (hi : i < R) (hk : k < R) :
    Calls Tryz.prog 72 #[.int .i64 i, .int .i64 k, .pointer (some ⟨mb, 0, none⟩)] w fun e w' => e = .returned (enV (mirM f i k)) ∧ Bl w w' := by
  obtain ⟨W, hW⟩ : ∃ W, W = w.alloc (.cells #[.int .i64 0, .int .i64 0, .int .i64 0, .bool false] 28) := ⟨_, rfl⟩
  have b0 : Bl w W := by rw [hW]; exact (Bl.refl _).alloc _
  have x0 : Box W w.heap.size zeroE := by rw [hW]; exact Box.new w zeroE 28
  obtain ⟨c0, c1, c2, f0, f1, f2, lt⟩ := hm
  have HW := hideP hW
  clear hW
  rcases Nat.lt_trichotomy i k with hik | hik | hik
  · have q1 : (i : Int) < (k : Int) := by omega
    have q2 : ¬ (k : Int) < (i : Int) := by omega
    have A := hideP (fun u (hu : Bl w u) => mAtN R R p n cap f u (h.later hu) k i (by omega) (by omega))
    have e0 : mirM f i k = f k i := by unfold mirM; rw [show max i k = k by omega, show min i k = i by omega]
    rw [e0]
    clear h e0
    generalize f k i = x at *
    go_enter Tryz.func72, Tryz.ntmps72
    go_wp2_with fail
    rw [← HW.out]
    try rw [show max (i : Int) (k : Int) = (k : Int) by omega]
    try rw [show min (i : Int) (k : Int) = (i : Int) by omega]
    refine (A.out _ b0).mono ?_
    rintro e w1 ⟨rfl, h1⟩
    clear c0 c1 c2 f0 f1 f2 A
    obtain ⟨d0, d1, d2, d3, g0, g1, g2, g3, lt2⟩ := x0.later h1
    go_wp2
    simp [bodyPost, results, Tryz.results72, go_sem, d0, d1, d2, d3]
    exact Bl.set4 (b0.trans h1) (Nat.le_refl _) _ _ _ _
  · subst hik
    have A := hideP (fun u (hu : Bl w u) => mAtN R R p n cap f u (h.later hu) i i (by omega) (by omega))
    have e0 : mirM f i i = f i i := by unfold mirM; rw [Nat.max_self, Nat.min_self]
    rw [e0]
    clear h e0
    generalize f i i = x at *
    go_enter Tryz.func72, Tryz.ntmps72
    go_wp2_with fail
    rw [← HW.out]
    try rw [show max (i : Int) (i : Int) = (i : Int) by omega]
    try rw [show min (i : Int) (i : Int) = (i : Int) by omega]
    refine (A.out _ b0).mono ?_
    rintro e w1 ⟨rfl, h1⟩
    clear c0 c1 c2 f0 f1 f2 A
    obtain ⟨d0, d1, d2, d3, g0, g1, g2, g3, lt2⟩ := x0.later h1
    go_wp2
    simp [bodyPost, results, Tryz.results72, go_sem, d0, d1, d2, d3]
    exact Bl.set4 (b0.trans h1) (Nat.le_refl _) _ _ _ _
  · have q1 : (k : Int) < (i : Int) := by omega
    have q2 : ¬ (i : Int) < (k : Int) := by omega
    have A := hideP (fun u (hu : Bl w u) => mAtN R R p n cap f u (h.later hu) i k (by omega) (by omega))
    have e0 : mirM f i k = f i k := by unfold mirM; rw [show max i k = i by omega, show min i k = k by omega]
    rw [e0]
    clear h e0
    generalize f i k = x at *
    go_enter Tryz.func72, Tryz.ntmps72
    go_wp2_with fail
    rw [← HW.out]
    try rw [show max (i : Int) (k : Int) = (i : Int) by omega]
    try rw [show min (i : Int) (k : Int) = (k : Int) by omega]
    refine (A.out _ b0).mono ?_
    rintro e w1 ⟨rfl, h1⟩
    clear c0 c1 c2 f0 f1 f2 A
    obtain ⟨d0, d1, d2, d3, g0, g1, g2, g3, lt2⟩ := x0.later h1
    go_wp2
    simp [bodyPost, results, Tryz.results72, go_sem, d0, d1, d2, d3]
    exact Bl.set4 (b0.trans h1) (Nat.le_refl _) _ _ _ _
set_option maxRecDepth 100000 in
set_option maxHeartbeats 4000000 in
theorem mMirrorN (R : Nat) (p : Option Addr) (n cap : Nat) (f : Nat → Nat → En) (w : World) (h : Mx 4 cellsN w R R p n cap f) :
    Calls Tryz.prog 42 #[mV R R p n cap] w fun e w' => ∃ p' cap', e = .returned (.tuple #[mV R R p' n cap', .bool true]) ∧ (Mx 4 cellsN w' R R p' n cap' (mirM f) ∧ Rw 4 cellsN w' (.slice p' n cap') (mk R R (mirM f)) ∧ Fresh w.heap.size (.slice p' n cap')) ∧ Bl w w' := by
  have hfit := h.fit
  obtain ⟨W, hW⟩ : ∃ W, W = (w.alloc (.cells #[.int .i64 R, .int .i64 R, .slice p n cap] 24)).alloc (.cells #[.int .i64 0, .int .i64 0, .slice none 0 0] 24) := ⟨_, rfl⟩
  have b0 : Bl w W := by rw [hW]; exact ((Bl.refl _).alloc _).alloc _
  have m0 : MBox W w.heap.size R R p n cap := by rw [hW]; exact (MBox.new w _ _ _ _ _ _).later ((Bl.refl _).alloc _)
  have x0 : MBox W (w.heap.size + 1) 0 0 none 0 0 := by rw [hW]; have := MBox.new (w.alloc (.cells #[.int .i64 R, .int .i64 R, .slice p n cap] 24)) 0 0 none 0 0 24; rw [World.size_alloc] at this; exact this
  have hs : W.heap.size = w.heap.size + 1 + 1 := by rw [hW]; simp
  have FI := hideP (fun u (hu : Bl W u) => mFilledN 72 w.heap.size (enters_of Tryz.func72 (by kernel_rfl) rfl) (mirM f) R R n h.1 h.2.1 u
    (fun i k v hi hk hv => mMirror1N R p n cap f v (h.later (b0.trans (hu.trans hv))) _ (m0.later (hu.trans hv)) i k hi hk))
  have HD := hideP h
  have HW := hideP hW
  clear hW h
  go_enter Tryz.func42, Tryz.ntmps42
  go_wp2_with fail
  rw [← HW.out]
  refine (mRightN _ _ _ _ _ _).mono ?_
  rintro e w1 ⟨rfl, h1⟩
  rw [hfit]
  obtain ⟨c0, c1, c2, f0, f1, f2, lt⟩ := m0.later h1
  go_wp2_with fail
  refine (FI.out _ h1).mono ?_
  rintro e w2 ⟨p', cap', rfl, ⟨hR, hF⟩, h2⟩
  have HR := hideP hR
  have HF := hideP (show Fresh (w.heap.size + 1 + 1) (.slice p' n cap') from fun g hg => by have := hF g hg; have := h1.size; omega)
  clear hR hF FI c0 c1 c2 f0 f1 f2
  obtain ⟨c0, c1, c2, f0, f1, f2, lt2⟩ := x0.later (h1.trans h2)
  go_wp2
  simp [bodyPost, results, Tryz.results42, go_sem, c0, c1, c2]
  have q := ((HR.out.set (p := ⟨w.heap.size + 1, 0, none⟩) (.int .i64 R) HF.out).set (p := ⟨w.heap.size + 1, 1, none⟩) (.int .i64 R) HF.out).set (p := ⟨w.heap.size + 1, 2, none⟩) (.slice p' n cap') HF.out
  refine ⟨p', cap', ⟨rfl, rfl⟩, ⟨⟨HD.out.1, HD.out.2.1, q.q⟩, q, fun g hg => by have := HF.out g hg; omega⟩, Bl.put3 ((b0.trans h1).trans h2) (Nat.le_succ _) _ _ _⟩
theorem mMirrorN_no (R C : Nat) (p : Option Addr) (n cap : Nat) (w : World) (hfit : fitB R C n = true) (hne : R ≠ C) :
    Calls Tryz.prog 42 #[mV R C p n cap] w fun e w' => e = .returned (.tuple #[mV 0 0 none 0 0, .bool false]) ∧ Bl w w' := by
  obtain ⟨W, hW⟩ : ∃ W, W = (w.alloc (.cells #[.int .i64 R, .int .i64 C, .slice p n cap] 24)).alloc (.cells #[.int .i64 0, .int .i64 0, .slice none 0 0] 24) := ⟨_, rfl⟩
  have b0 : Bl w W := by rw [hW]; exact ((Bl.refl _).alloc _).alloc _
  have m0 : MBox W w.heap.size R C p n cap := by rw [hW]; exact (MBox.new w _ _ _ _ _ _).later ((Bl.refl _).alloc _)
  have x0 : MBox W (w.heap.size + 1) 0 0 none 0 0 := by rw [hW]; have := MBox.new (w.alloc (.cells #[.int .i64 R, .int .i64 C, .slice p n cap] 24)) 0 0 none 0 0 24; rw [World.size_alloc] at this; exact this
  have hne' : ((R : Int) == (C : Int)) = false := by simp; omega
  have HW := hideP hW
  clear hW hne
  go_enter Tryz.func42, Tryz.ntmps42
  go_wp2_with fail
  rw [← HW.out]
  refine (mRightN _ _ _ _ _ _).mono ?_
  rintro e w1 ⟨rfl, h1⟩
  rw [hfit]
  obtain ⟨c0, c1, c2, f0, f1, f2, lt⟩ := m0.later h1
  obtain ⟨d0, d1, d2, g0, g1, g2, lt2⟩ := x0.later h1
  go_wp2
  simp [bodyPost, results, Tryz.results42, go_sem, d0, d1, d2]
  exact Bl.put3 (b0.trans h1) (Nat.le_succ _) _ _ _
end Go.Proofs.YtafjmogkiohjgaaGreat

/- HouseSquares: the square of what whole numbers fold to encloses the square of what was folded. Mathematics. -/
namespace Go.Proofs.YtafjmogkiohjgaaGreat
open Go.RowKit
set_option linter.unusedSimpArgs false
set_option linter.unusedVariables false

theorem sum_mulI8 (a b : Nat → Nat → Int) (i k : Nat) : ∀ M, sumH M (fun c => (a i c : Rat) * (b c k : Rat)) = ((mulI M a b i k : Int) : Rat)
  | 0 => rfl
  | M + 1 => by
    show sumH M (fun c => (a i c : Rat) * (b c k : Rat)) + (a i M : Rat) * (b M k : Rat) = _
    rw [sum_mulI8 a b i k M, mulI_succ, Rat.intCast_add, Rat.intCast_mul]
theorem foldAll_H8 {α : Type} (K : Kd α) (low : α → Bool) (R C : Nat) (f : Nat → Nat → α) {i : Nat} (hi : i < R) (j : Nat) :
    signsH K (fun j => low (foldL K low C f R j j)) (foldL K low C f R) i j = foldH K R C (fun k => low (foldL K low C f k k k)) (fun j => low (foldL K low C f R j j)) f i j := by
  unfold foldH
  by_cases h : i < j
  · rw [if_pos h]
    unfold signsH
    rw [if_neg (by omega), foldL_to]
    exact foldTo_zero K C _ f hi h
  · rw [if_neg h, ← foldL_to]
theorem squares8 {R C : Nat} (hRC : R ≤ C) (hC : C ≤ 16) {a : Nat → Nat → Int} (sm : Sm2 100 R C a)
    (hT : ∀ i j, i < R → j < R → (foldN R C (fun i k => wholeN (a i k)) i j).bad = false) {i k : Nat} (hi : i < R) (hk : k < R)
    (hb : (mirM (mulMN R (foldN R C fun i k => wholeN (a i k)) (fun i k => foldN R C (fun i k => wholeN (a i k)) k i)) i k).bad = false) :
    enclB (mirM (mulMN R (foldN R C fun i k => wholeN (a i k)) (fun i k => foldN R C (fun i k => wholeN (a i k)) k i)) i k) (mulI C a (fun i k => a k i) i k) 1 = true := by
  obtain ⟨S, hS⟩ : ∃ S, S = foldN R C fun i k => wholeN (a i k) := ⟨_, rfl⟩
  rw [← hS] at hT hb ⊢
  obtain ⟨x, hx⟩ : ∃ x, x = max i k := ⟨_, rfl⟩
  obtain ⟨y, hy⟩ : ∃ y, y = min i k := ⟨_, rfl⟩
  have hyx : y ≤ x := by omega
  have hxR : x < R := by omega
  have hyR : y < R := by omega
  have hSH : ∀ i c, i < R → S i c = foldH kdN R C (fun k => lowN (foldL kdN lowN C (fun i k => wholeN (a i k)) k k k)) (fun j => lowN (foldL kdN lowN C (fun i k => wholeN (a i k)) R j j)) (fun i k => wholeN (a i k)) i c := fun i c hi => by
    rw [hS]
    exact foldAll_H8 kdN lowN R C _ hi c
  have e1 : mirM (mulMN R S (fun i k => S k i)) i k = dotN (rowM R S x) (rowM R S y) := by
    unfold mirM
    rw [← hx, ← hy]
    rfl
  rw [e1] at hb ⊢
  have rows : ∀ i, i < R → rowM R S i = rowM R (foldH kdN R C (fun k => lowN (foldL kdN lowN C (fun i k => wholeN (a i k)) k k k)) (fun j => lowN (foldL kdN lowN C (fun i k => wholeN (a i k)) R j j)) (fun i k => wholeN (a i k))) i := fun i hi => List.map_congr_left fun c _ => hSH i c hi
  obtain ⟨q, _, q2, q3⟩ := fold_sq hRC (fun k => lowN (foldL kdN lowN C (fun i k => wholeN (a i k)) k k k)) (fun j => lowN (foldL kdN lowN C (fun i k => wholeN (a i k)) R j j)) (fun i k => wholeN (a i k)) (fun i k => (a i k : Rat)) (fun i j _ _ => encQ_whole (a i j))
    (fun i j hi hj => by rw [← hSH i j hi]; exact hT i j hi (by omega)) hyx hxR
  rw [← rows x hxR, ← rows y hyR] at q2
  have hsum : (sumH C fun c => (a y c : Rat) * (a x c : Rat)) = ((mulI C a (fun i k => a k i) i k : Int) : Rat) := by
    rw [← sum_mulI8]
    by_cases hik : i ≤ k
    · have h1 : y = i := by omega
      have h2 : x = k := by omega
      rw [h1, h2]
    · have h1 : y = k := by omega
      have h2 : x = i := by omega
      rw [h1, h2]
      exact sumH_congr _ fun c _ => Rat.mul_comm _ _
  rw [hsum] at q3
  have hbd := mulI_bound (A := 100) (B := 100) (R := R) (M := C) (D := R) (a := a) (b := fun i k => a k i) (by omega) (by omega) sm (fun i k hi hk => sm k i hk hi) hi hk C (Nat.le_refl _)
  exact encl_enq8 (fold_sq_int q2 hb q3) ⟨by omega, by omega⟩ ⟨by omega, by omega⟩ hb
end Go.Proofs.YtafjmogkiohjgaaGreat

/- Contract of the document's Mul (layer 6). -/
namespace Go.Proofs.YtafjmogkiohjgaaGreat
open Go.RowKit
set_option linter.unusedSimpArgs false
set_option linter.unusedVariables false

theorem own_blI {w w' : World} {B n : Nat} {v : Value} {l : List Value} (h : w.ownsRow B 3 1 v n l) (k : Bl w w') : w'.ownsRow B 3 1 v n l := by
  refine ⟨h.1, ?_⟩
  rcases h.2 with hn | ⟨g, cap, cur, rfl, hb, hg, rest⟩
  · exact .inl hn
  · exact .inr ⟨g, cap, cur, rfl, hb, (Below.block k g (Array.getElem?_eq_some_iff.1 hg).1).trans hg, rest⟩
theorem newI_cells (w : World) (x : Int) (t : TypeId) : ∀ j u, (cellsI x)[j]? = some u → (w.alloc (.cells #[.int .i64 x] t)).cell? ((⟨w.heap.size, 0, none⟩ : Addr).add j) = some u := by
  intro j u hu
  unfold cellsI at hu
  rcases j with _ | j
  · simp at hu
    subst hu
    simp [go_sem, Addr.add]
  · simp at hu
set_option maxHeartbeats 2000000 in
theorem ref6Mul_any (pa qa : Option Addr) (na ca nb cb : Nat) (xa xb : List Int) (R M D : Nat) (w : World) (hd : Dim R M) (he : Dim M D) (ha : Rq 1 cI w (.slice pa na ca) xa) (hb : Rq 1 cI w (.slice qa nb cb) xb) (la : xa.length = R * M) (lb : xb.length = M * D) (lna : na = R * M) (lnb : nb = M * D) (sa : Sml 100 xa) (sb : Sml 100 xb) :
    Calls Tryz.prog 17 #[.slice pa na ca, .int .i64 R, .int .i64 M, .slice qa nb cb, .int .i64 D] w fun e w' => ∃ p cap, e = .returned (.slice p (R * D) cap) ∧ Rw 1 cellsI w' (.slice p (R * D) cap) (mk R D (mulI M (ofL M xa) (ofL D xb))) ∧ Bl w w' := by
  obtain ⟨i0, hi, hz0, hz1, hz2⟩ := info_parts Tryz.info_I
  have fm : Tryz.prog.follows .mixedOrders = true := by kernel_rfl
  have CA : ∀ i j, i < R → j < M → ∃ b o, pa = some ⟨b, o, none⟩ ∧ ∀ u, Bl w u → u.cell? ⟨b, o + (i * M + j), none⟩ = some (.int .i64 (ofL M xa i j)) := by
    intro i j hi' hj
    have hg := ofL_get la hi' hj
    rcases ha with ⟨_, _, _, h0, _⟩ | ⟨b, o, cc, e, _, hlt, HX⟩
    · rw [h0] at hg; simp at hg
    · cases e
      exact ⟨b, o, rfl, fun u hu => (bl_cell hu _ _ hlt).trans (cellI HX hg (wr := w))⟩
  have CB : ∀ j k, j < M → k < D → ∃ b o, qa = some ⟨b, o, none⟩ ∧ ∀ u, Bl w u → u.cell? ⟨b, o + (j * D + k), none⟩ = some (.int .i64 (ofL D xb j k)) := by
    intro i j hi' hj
    have hg := ofL_get lb hi' hj
    rcases hb with ⟨_, _, _, h0, _⟩ | ⟨b, o, cc, e, _, hlt, HX⟩
    · rw [h0] at hg; simp at hg
    · cases e
      exact ⟨b, o, rfl, fun u hu => (bl_cell hu _ _ hlt).trans (cellI HX hg (wr := w))⟩
  have BA := ofL_sml la sa
  have BB := ofL_sml lb sb
  have BM := fun (i k : Nat) (hi : i < R) (hk : k < D) => mulI_bound (A := 100) (B := 100) (by omega) (by omega) BA BB hi hk
  have HCA := hideP CA
  have HCB := hideP CB
  have HBA := hideP BA
  have HBB := hideP BB
  have HBM := hideP BM
  have hR16 := hd.r2
  have hM16 := hd.c2
  have hD16 := he.c2
  have HLA := hideP lna
  have HLB := hideP lnb
  clear CA CB BA BB BM ha hb la lb sa sb lna lnb
  generalize ofL M xa = fa at *
  generalize ofL D xb = fb at *
  go_enter Tryz.func17, Tryz.ntmps17
  go_wp2_with fail
  go_loopw [11, 12] (fun v i wr => ∃ j : Nat, i = .int .i64 j ∧ j ≤ R ∧ wr.ownsRow w.heap.size 3 1 v (mk j D (mulI M fa fb)).length ((mk j D (mulI M fa fb)).flatMap cellsI) ∧ Bl w wr) (fun _ i _ => R - (intOf i).toNat)
  case atStart => exact ⟨0, rfl, Nat.zero_le _, World.ownsRow_nil _ _ _ _, Bl.refl _⟩
  case round =>
    obtain ⟨j, rfl, hj, hown, hB⟩ := hrel
    by_cases hlt : j < R
    · go_wp2_with fail
      go_loopw [11, 13] (fun v i wr => ∃ k : Nat, i = .int .i64 k ∧ k ≤ D ∧ wr.ownsRow w.heap.size 3 1 v (mk j D (mulI M fa fb) ++ rowM k (mulI M fa fb) j).length ((mk j D (mulI M fa fb) ++ rowM k (mulI M fa fb) j).flatMap cellsI) ∧ Bl w wr) (fun _ i _ => D - (intOf i).toNat)
      case atStart => exact ⟨0, rfl, Nat.zero_le _, by simpa [rowM] using hown, hB⟩
      case round =>
        clear hown hB
        obtain ⟨k, rfl, hk, hown, hB⟩ := hrel
        by_cases hlt2 : k < D
        · have HO := hideP hown
          clear hown
          go_wp2_with fail
          go_loopw [14, 15] (fun s i wr' => ∃ m : Nat, i = .int .i64 m ∧ m ≤ M ∧ s = .int .i64 (mulI m fa fb j k) ∧ Bl wr wr') (fun _ i _ => M - (intOf i).toNat)
          case atStart => exact ⟨0, rfl, Nat.zero_le _, rfl, Bl.refl _⟩
          case round =>
            obtain ⟨m, rfl, hm, rfl, hB3⟩ := hrel
            by_cases hlt3 : m < M
            · obtain ⟨b, o, rfl, CX⟩ := HCA.out j m hlt hlt3
              obtain ⟨b', o', rfl, CY⟩ := HCB.out m k hlt3 hlt2
              obtain ⟨a1, q1, e1, e2, hq1, hq3, hq5, hq6⟩ := place hd hlt hlt3
              obtain ⟨a2, q2, e3, e4, hp1, hp3, hp5, hp6⟩ := place he hlt3 hlt2
              rw [← e2] at CX
              rw [← e4] at CY
              rw [← HLA.out] at hq5
              rw [← HLB.out] at hp5
              have cx := CX wr.drew (hB.trans hB3).drew
              have cy := CY wr.drew (hB.trans hB3).drew
              have bx := HBA.out j m hlt hlt3
              have bY := HBB.out m k hlt3 hlt2
              have bm := mul_bound bx bY
              have bd := HBM.out j k hlt hlt2 m hm
              have HS := hideP (mulI_succ m fa fb j k)
              clear CX CY e1 e2 e3 e4
              generalize mulI m fa fb j k = d at *
              generalize fa j m = x at *
              generalize fb m k = y at *
              generalize hxy : x * y = z at *
              go_wp2
              go_region
              go_wp2
              go_roundw
              case rel => exact ⟨m + 1, by simp, hlt3, by rw [HS.out], hB3.drew⟩
              case measure => simp [intOf]; omega
            · obtain rfl : m = M := by omega
              have hB4 := hB.trans hB3
              have hown := own_blI HO.out hB3
              have HT := hideP (show mk j D (mulI m fa fb) ++ rowM (k + 1) (mulI m fa fb) j = (mk j D (mulI m fa fb) ++ rowM k (mulI m fa fb) j) ++ [mulI m fa fb j k] by rw [rowM_succ, List.append_assoc])
              have hlen : (mk j D (mulI m fa fb) ++ rowM k (mulI m fa fb) j).length ≤ 256 := by
                have h1 : j * D + k < R * D := mk_idx hlt hlt2
                have h2 : R * D ≤ 256 := Nat.mul_le_mul hR16 hD16
                rw [List.length_append, mk_len, rowM_len]
                omega
              generalize mk j D (mulI m fa fb) ++ rowM k (mulI m fa fb) j = ys at *
              generalize mulI m fa fb j k = x at *
              go_wp2_with (at_builtin; refine wpList_append_own _ rfl _ _ 36 rfl w.heap.size 3 i0 (.int .i64 0) 1 8 Tryz.underlying36 hi hz0 hz1 hz2 rfl (by decide) _ _ _ rfl (hown.alloc _) ⟨_, 0, none⟩ 1 1 (cellsI x) rfl rfl (newI_cells _ _ _) (oneI_cells _) (by unfold maxLen; omega) (by omega) (by have := hB4.size; simp; omega) ?_; intro v' w1 hown' hgrow _)
              have R1 := own_more (ys := [x]) (hB4.alloc _) (Nat.le_refl _) (hown.alloc _) (by simpa using hown') rfl hgrow
              clear hown hown' hgrow
              go_wp2
              go_roundw
              case rel => exact ⟨k + 1, by simp, hlt2, by rw [HT.out]; exact R1.2, R1.1⟩
              case measure => simp [intOf]; omega
        · obtain rfl : k = D := by omega
          have HT := hideP (mk_succ j k (mulI M fa fb))
          go_wp2_with fail
          go_roundw
          case rel => exact ⟨j + 1, by simp, hlt, by rw [HT.out]; exact hown, hB⟩
          case measure => simp [intOf]; omega
    · obtain rfl : j = R := by omega
      have RW := hideP (Rw.of_own cellsI_len hown)
      obtain ⟨p', cap', hv, _, _⟩ := RW.out.cut
      rw [mk_len] at hv
      clear hown
      subst hv
      go_wp2
      go_ret
      exact ⟨p', cap', rfl, RW.out, hB⟩
end Go.Proofs.YtafjmogkiohjgaaGreat

/- Contract of tri's Square, of enclosed numbers (layer 7). Written by genTr.py. -/
namespace Go.Proofs.YtafjmogkiohjgaaGreat
open Go.RowKit
set_option linter.unusedSimpArgs false
set_option linter.unusedVariables false

theorem boolN (x : En) : ∃ (j : Nat) (y : Bool), (cellsN x)[j]? = some (Value.bool y) := ⟨4 - 1, x.bad, rfl⟩
set_option maxRecDepth 100000 in
set_option maxHeartbeats 2000000 in
theorem tSqN (n : Nat) (p : Option Addr) (N cap : Nat) (f : Nat → Nat → En) (w : World) (h : Mx 4 cellsN w n n p N cap f) :
    Calls Tryz.prog 16 #[mV n n p N cap] w fun e w' => ∃ p' cap', e = .returned (.tuple #[mV n n p' N cap', .bool true]) ∧ (Mx 4 cellsN w' n n p' N cap' (mirM (mulMN n f (fun i k => f k i))) ∧ Fresh w.heap.size (.slice p' N cap')) ∧ Bl w w' := by
  have fm : Tryz.prog.follows .mixedOrders = true := by kernel_rfl
  have egT := enters_of Tryz.func41 (by kernel_rfl) rfl
  have egM := enters_of Tryz.func40 (by kernel_rfl) rfl
  have hsq : sqB n n N = true := by unfold sqB; rw [h.fit]; simp
  obtain ⟨Wa, hW⟩ : ∃ Wa, Wa = (w.alloc (.cells #[.int .i64 n, .int .i64 n, .slice p N cap] 24)).alloc (.cells #[.int .i64 0, .int .i64 0, .slice none 0 0] 24) := ⟨_, rfl⟩
  have b0 : Bl w Wa := by rw [hW]; exact ((Bl.refl _).alloc _).alloc _
  have m0 : MBox Wa w.heap.size n n p N cap := by rw [hW]; exact (MBox.new w _ _ _ _ _ _).later ((Bl.refl _).alloc _)
  have x0 : MBox Wa (w.heap.size + 1) 0 0 none 0 0 := by rw [hW]; have := MBox.new (w.alloc (.cells #[.int .i64 n, .int .i64 n, .slice p N cap] 24)) 0 0 none 0 0 24; rw [World.size_alloc] at this; exact this
  have hs : Wa.heap.size = w.heap.size + 1 + 1 := by rw [hW]; simp
  have HW := hideP hW
  clear hW
  go_enter Tryz.func16, Tryz.ntmps16
  go_wp2_with fail
  rw [← HW.out]
  refine (tSquareN _ _ _ _ _ _).mono ?_
  rintro e W ⟨rfl, h1⟩
  rw [hsq]
  clear HW
  replace b0 := b0.trans h1
  replace m0 := m0.later h1
  replace x0 := x0.later h1
  replace hs : w.heap.size + 1 + 1 ≤ W.heap.size := by have := h1.size; omega
  clear h1
  go_wp2_with fail
  refine (wpIn_wide (n := 8)).1 (region_q fm [some 11, some 12, some 13, some 14, some 10, some 15, some 16, some 4, none, some 5] (fun j => j == 6 || j == 9) 8 (by kernel_rfl) (by rfl)
    (fun j v u => match j with | 0 => v = mV n n p N cap | 1 => v = mV n n p N cap | 2 => ∃ q c, v = mV n n q N c ∧ Mx 4 cellsN u n n q N c (fun i k => f k i) | 3 => ∃ q c, v = .tuple #[mV n n q N c, .bool true] ∧ Mx 4 cellsN u n n q N c (mulMN n f (fun i k => f k i)) | 4 => ∃ q c, v = .tuple #[mV n n q N c, .bool true] ∧ Mx 4 cellsN u n n q N c (mulMN n f (fun i k => f k i)) | 5 => ∃ q c, v = mV n n q N c ∧ Mx 4 cellsN u n n q N c (mulMN n f (fun i k => f k i)) | 6 => v = .bool true | 7 => ∃ b, v = .pointer (some ⟨b, 0, none⟩) ∧ W.heap.size ≤ b ∧ MBox u b 0 0 none 0 0 ∧ NoB u b | 9 => v = .bool true | _ => False)
    (by
            intro j v u u' hb h
            split at h <;> first | exact h | (obtain ⟨q, c, e, h1⟩ := h; exact ⟨q, c, e, h1.later hb⟩) | (obtain ⟨b, e, h1, h2, h3⟩ := h; exact ⟨b, e, h1, h2.later hb, h3.later hb h2.lt⟩)) (fun vs u0 u => ∃ b q c, vs 7 = .pointer (some ⟨b, 0, none⟩) ∧ MBox u b n n q N c ∧ Mx 4 cellsN u n n q N c (mulMN n f (fun i k => f k i)) ∧ MBox u (w.heap.size + 1) 0 0 none 0 0 ∧ Bl w u) ?step ?still ?store ?fin)
  case step =>
    intro j o t act u ho hdt hpu hsz hu hfr hin
    have hj : j < 10 := (Array.getElem?_eq_some_iff.1 ho).1
    obtain ⟨c0, c1, c2, _, _, _, _⟩ := m0.later hu
    rcases (by omega : j = 0 ∨ j = 1 ∨ j = 2 ∨ j = 3 ∨ j = 4 ∨ j = 5 ∨ j = 6 ∨ j = 7 ∨ j = 8 ∨ j = 9) with rfl | rfl | rfl | rfl | rfl | rfl | rfl | rfl | rfl | rfl
    · simp only [List.getElem?_toArray, List.getElem?_cons_zero, List.getElem?_cons_succ, Option.some.injEq] at ho
      subst ho
      obtain rfl := Option.some.inj hdt
      have i1 : act.eval (.tmp (1 : Nat)) = .pointer (some ⟨w.heap.size, 0, none⟩) := hfr 1 (by decide)
      exact plain_wp (by intro c h; cases h) (fun _ _ => trivial) (by simp only [execOp, i1, evalC, evalF, evalG]; simp [go_sem, c0, c1, c2]) ⟨_, rfl, rfl, Bl.refl _⟩
    · simp only [List.getElem?_toArray, List.getElem?_cons_zero, List.getElem?_cons_succ, Option.some.injEq] at ho
      subst ho
      obtain rfl := Option.some.inj hdt
      have i1 : act.eval (.tmp (1 : Nat)) = .pointer (some ⟨w.heap.size, 0, none⟩) := hfr 1 (by decide)
      exact plain_wp (by intro c h; cases h) (fun _ _ => trivial) (by simp only [execOp, i1, evalC, evalF, evalG]; simp [go_sem, c0, c1, c2]) ⟨_, rfl, rfl, Bl.refl _⟩
    · simp only [List.getElem?_toArray, List.getElem?_cons_zero, List.getElem?_cons_succ, Option.some.injEq] at ho
      subst ho
      obtain rfl := Option.some.inj hdt
      have i12 : (act.eval (.tmp (12 : Nat))) = mV n n p N cap := hin ⟨1, .data⟩ (by simp) rfl 12 rfl
      refine enter_wp 41 #[mV n n p N cap] (by intro c h; cases h) (fun _ _ => trivial) (by simp only [execOp, evalC, evalF, evalG, resolve, i12, List.map_toArray, List.map_cons, List.map_nil]; simp [invoke, egT, Result.andThen, go_sem]) (by intro h; cases h) (callsIn_wide.2 (mTurnN n n p N cap f u (h.later (b0.trans hu)))) ?_
      rintro e w' ⟨q, c, rfl, ⟨hM, _, _⟩, hb⟩
      exact ⟨_, rfl, _, rfl, ⟨q, c, rfl, hM⟩, hb⟩
    · simp only [List.getElem?_toArray, List.getElem?_cons_zero, List.getElem?_cons_succ, Option.some.injEq] at ho
      subst ho
      obtain rfl := Option.some.inj hdt
      have i11 : (act.eval (.tmp (11 : Nat))) = mV n n p N cap := hin ⟨0, .data⟩ (by simp) rfl 11 rfl
      have i13 : ∃ q c, (act.eval (.tmp (13 : Nat))) = mV n n q N c ∧ Mx 4 cellsN u n n q N c (fun i k => f k i) := hin ⟨2, .data⟩ (by simp) rfl 13 rfl
      obtain ⟨q0, c0', e1, hq⟩ := i13
      refine enter_wp 40 #[mV n n p N cap, mV n n q0 N c0'] (by intro c h; cases h) (fun _ _ => trivial) (by simp only [execOp, evalC, evalF, evalG, resolve, i11, e1, List.map_toArray, List.map_cons, List.map_nil]; simp [invoke, egM, Result.andThen, go_sem]) (by intro h; cases h) (callsIn_wide.2 (mMulN n n n p N cap f q0 N c0' (fun i k => f k i) N u (h.later (b0.trans hu)) hq h.2.1)) ?_
      rintro e w' ⟨q, c, rfl, ⟨hM, _, _⟩, hb⟩
      exact ⟨_, rfl, _, rfl, ⟨q, c, rfl, hM⟩, hb⟩
    · simp only [List.getElem?_toArray, List.getElem?_cons_zero, List.getElem?_cons_succ, Option.some.injEq] at ho
      subst ho
      obtain rfl := Option.some.inj hdt
      have i14 : ∃ q c, (act.eval (.tmp (14 : Nat))) = .tuple #[mV n n q N c, .bool true] ∧ Mx 4 cellsN u n n q N c (mulMN n f (fun i k => f k i)) := hin ⟨3, .data⟩ (by simp) rfl 14 rfl
      obtain ⟨q0, c0', e1, hq⟩ := i14
      exact plain_wp (by intro c h; cases h) (fun _ _ => trivial) (by simp only [execOp, e1]; simp [go_sem]) ⟨_, rfl, ⟨q0, c0', rfl, hq⟩, Bl.refl _⟩
    · simp only [List.getElem?_toArray, List.getElem?_cons_zero, List.getElem?_cons_succ, Option.some.injEq] at ho
      subst ho
      obtain rfl := Option.some.inj hdt
      have i10 : ∃ q c, (act.eval (.tmp (10 : Nat))) = .tuple #[mV n n q N c, .bool true] ∧ Mx 4 cellsN u n n q N c (mulMN n f (fun i k => f k i)) := hin ⟨4, .data⟩ (by simp) rfl 10 rfl
      obtain ⟨q0, c0', e1, hq⟩ := i10
      exact plain_wp (by intro c h; cases h) (fun _ _ => trivial) (by simp only [execOp, e1]; simp [go_sem]) ⟨_, rfl, ⟨q0, c0', rfl, hq⟩, Bl.refl _⟩
    · cases hpu
    · simp only [List.getElem?_toArray, List.getElem?_cons_zero, List.getElem?_cons_succ, Option.some.injEq] at ho
      subst ho
      obtain rfl := Option.some.inj hdt
      exact plain_wp (by intro c h; cases h) (fun _ _ => trivial) (w' := u.alloc (.cells #[.int .i64 0, .int .i64 0, .slice none 0 0] 24)) (v := .pointer (some ⟨u.heap.size, 0, none⟩)) (by simp only [execOp]; simp [go_sem]) ⟨_, rfl, ⟨u.heap.size, rfl, hu.size, MBox.new u 0 0 none 0 0 _, noB_new u _⟩, (Bl.refl _).alloc _⟩
    · simp only [List.getElem?_toArray, List.getElem?_cons_zero, List.getElem?_cons_succ, Option.some.injEq] at ho
      subst ho
      cases hdt
    · cases hpu
  case still =>
    intro j o t act u0 u ho hdt hpu hsz hu hfr hin
    have hj : j < 10 := (Array.getElem?_eq_some_iff.1 ho).1
    obtain ⟨c0, c1, c2, _, _, _, _⟩ := m0.later hu
    rcases (by omega : j = 0 ∨ j = 1 ∨ j = 2 ∨ j = 3 ∨ j = 4 ∨ j = 5 ∨ j = 6 ∨ j = 7 ∨ j = 8 ∨ j = 9) with rfl | rfl | rfl | rfl | rfl | rfl | rfl | rfl | rfl | rfl
    · cases hpu
    · cases hpu
    · cases hpu
    · cases hpu
    · cases hpu
    · cases hpu
    · simp only [List.getElem?_toArray, List.getElem?_cons_zero, List.getElem?_cons_succ, Option.some.injEq] at ho
      subst ho
      obtain rfl := Option.some.inj hdt
      have i10 : ∃ q c, (act.eval (.tmp (10 : Nat))) = .tuple #[mV n n q N c, .bool true] ∧ Mx 4 cellsN u0 n n q N c (mulMN n f (fun i k => f k i)) := hin ⟨4, .data⟩ (by simp) rfl 10 rfl
      obtain ⟨q0, c0', e1, hq⟩ := i10
      exact plain_wp (by intro c h; cases h) (fun _ _ => trivial) (by simp only [execOp, e1]; simp [go_sem]) ⟨_, rfl, rfl, rfl⟩
    · cases hpu
    · cases hpu
    · simp only [List.getElem?_toArray, List.getElem?_cons_zero, List.getElem?_cons_succ, Option.some.injEq] at ho
      subst ho
      obtain rfl := Option.some.inj hdt
      have i16 : (act.eval (.tmp (16 : Nat))) = .bool true := hin ⟨6, .data⟩ (by simp) rfl 16 rfl
      exact plain_wp (by intro c h; cases h) (fun _ _ => trivial) (by simp only [execOp, i16, evalC, evalF, evalG]; simp [go_sem]) ⟨_, rfl, rfl, rfl⟩
  case store =>
    intro o act u vs ho hsz hu hfr hin
    simp only [List.getElem?_toArray, List.getElem?_cons_zero, List.getElem?_cons_succ, Option.some.injEq] at ho
    subst ho
    obtain ⟨i4, k4⟩ : act.eval (.tmp (4 : Nat)) = vs 7 ∧ (∃ b, (vs 7) = .pointer (some ⟨b, 0, none⟩) ∧ W.heap.size ≤ b ∧ MBox u b 0 0 none 0 0 ∧ NoB u b) := hin 7 4 rfl rfl
    obtain ⟨i15, k15⟩ : act.eval (.tmp (15 : Nat)) = vs 5 ∧ (∃ q c, (vs 5) = mV n n q N c ∧ Mx 4 cellsN u n n q N c (mulMN n f (fun i k => f k i))) := hin 5 15 rfl rfl
    obtain ⟨b, e1, hb, bx, nb⟩ := k4
    obtain ⟨q0, c0', e2, hq⟩ := k15
    rw [e1] at i4
    rw [e2] at i15
    obtain ⟨c0, c1, c2, f0, f1, f2, ltb⟩ := id bx
    exact skip_wp (by intro c h; cases h) (fun _ _ => trivial) (by simp only [execOp, i4, i15]; simp [go_sem, c0, c1, c2, f0, f1, f2]) ⟨rfl, b, q0, c0', e1, bx.fill _ _ _ _ _, mx_ne7 hq (noB_mx boolN hq nb) _ _ _, mbox_set7 (mbox_set7 (mbox_set7 (x0.later hu) (by omega) _ _) (by omega) _ _) (by omega) _ _, Bl.put3 (b0.trans hu) (by have := b0.size; omega) _ _ _⟩
  case fin =>
    intro vs vb u0 u hu hin hps
    have a0 := hin 0 11 rfl
    have a1 := hin 1 12 rfl
    have a2 := hin 2 13 rfl
    have a3 := hin 3 14 rfl
    have a4 := hin 4 10 rfl
    have a5 := hin 5 15 rfl
    have a6 := hin 6 16 rfl
    have a7 := hin 7 4 rfl
    have a9 := hin 9 5 rfl
    simp only [putL, Act.put, List.setIfInBounds_toArray, List.set_cons_zero, List.set_cons_succ, Nat.zero_add, Nat.reduceAdd, Nat.reduceBEq, Bool.or_false, Bool.or_true, Bool.false_or, Bool.true_or, Bool.false_eq_true, if_false, if_true, reduceIte, Nat.reduceEqDiff, beq_self_eq_true, Bool.or_self] at a0 a1 a2 a3 a4 a5 a6 a7 a9 ⊢
    rw [if_pos (by decide)] at hps
    simp only [a0, a1, a6, a9]
    obtain ⟨b, q, c, e7, bx, hM, xz, hbw⟩ := hps
    simp only [e7]
    clear a2 a3 a4 a5 a7
    have MI := hideP (fun u' (hu' : Bl u u') => mMirrorN n q N c _ u' (hM.later hu'))
    obtain ⟨c0, c1, c2, f0, f1, f2, ltb⟩ := bx
    go_wp2_with fail
    refine (MI.out _ (Bl.refl _)).mono ?_
    rintro e w3 ⟨p', cap', rfl, ⟨hR, _, hF⟩, h3⟩
    have HR := hideP hR
    have HF := hideP (show Fresh (w.heap.size + 1 + 1) (.slice p' N cap') from fun g hg => by have := hF g hg; have := xz.lt; omega)
    clear hR hF MI c0 c1 c2 f0 f1 f2
    obtain ⟨c0, c1, c2, f0, f1, f2, lt2⟩ := xz.later h3
    go_wp2
    simp [bodyPost, results, Tryz.results16, go_sem, c0, c1, c2]
    exact ⟨p', cap', ⟨rfl, rfl⟩, ⟨mx_put7 HR.out HF.out _ _ _, fun g hg => by have := HF.out g hg; omega⟩, Bl.put3 (hbw.trans h3) (Nat.le_succ _) _ _ _⟩
theorem tSqN_no (r c : Int) (p : Option Addr) (n cap : Nat) (w : World) (hsq : sqB r c n = false) :
    Calls Tryz.prog 16 #[mV r c p n cap] w fun e w' => e = .returned (.tuple #[mV 0 0 none 0 0, .bool false]) ∧ Bl w w' := by
  obtain ⟨W, hW⟩ : ∃ W, W = (w.alloc (.cells #[.int .i64 r, .int .i64 c, .slice p n cap] 24)).alloc (.cells #[.int .i64 0, .int .i64 0, .slice none 0 0] 24) := ⟨_, rfl⟩
  have b0 : Bl w W := by rw [hW]; exact ((Bl.refl _).alloc _).alloc _
  have x0 : MBox W (w.heap.size + 1) 0 0 none 0 0 := by rw [hW]; have := MBox.new (w.alloc (.cells #[.int .i64 r, .int .i64 c, .slice p n cap] 24)) 0 0 none 0 0 24; rw [World.size_alloc] at this; exact this
  have HW := hideP hW
  clear hW
  go_enter Tryz.func16, Tryz.ntmps16
  go_wp2_with fail
  rw [← HW.out]
  refine (tSquareN _ _ _ _ _ _).mono ?_
  rintro e w1 ⟨rfl, h1⟩
  rw [hsq]
  obtain ⟨c0, c1, c2, f0, f1, f2, lt2⟩ := x0.later h1
  go_wp2
  simp [bodyPost, results, Tryz.results16, go_sem, c0, c1, c2]
  exact Bl.put3 (b0.trans h1) (Nat.le_succ _) _ _ _
end Go.Proofs.YtafjmogkiohjgaaGreat

/- The walk of HouseSquares. Written by genHq.py. -/
namespace Go.Proofs.YtafjmogkiohjgaaGreat
open Go.RowKit
set_option linter.unusedSimpArgs false
set_option linter.unusedVariables false

theorem idx8q {R j : Nat} (h : j < R * R) : ∃ i k, i < R ∧ k < R ∧ j = i * R + k := by
  have h0 : 0 < R := by
    rcases Nat.eq_zero_or_pos R with e | e
    · subst e; simp at h
    · exact e
  exact ⟨j / R, j % R, (Nat.div_lt_iff_lt_mul h0).2 h, Nat.mod_lt _ h0, by rw [Nat.mul_comm]; exact (Nat.div_add_mod j R).symm⟩
set_option maxRecDepth 100000 in
set_option maxHeartbeats 4000000 in
theorem walk_HouseSquares (va : Value) (xa : List Int) (r c : Int) (w : World) (ha : Rq 1 cI w va xa) :
    Calls Tryz.prog 4 #[va, .int .i64 r, .int .i64 c] w fun e w' => e = .returned (.bool true) ∧ Bl w w' := by
  have AW := hideP awake8_any
  obtain ⟨j0, hji, jz0, jz1, jz2⟩ := info_parts Tryz.info_I
  obtain ⟨pa, ca, rfl, _, _⟩ := ha.cut
  obtain ⟨la, hla⟩ : ∃ la, la = xa.length := ⟨_, rfl⟩
  rw [← hla] at ha ⊢
  have HLA := hideP hla
  have HA := hideP ha
  cases hf : fitB r c la with
  | false =>
    have WN := hideP (mWholeN_no r c pa la ca w hf)
    clear ha hla hf
    go_enter Tryz.func4, Tryz.ntmps4
    go_wp2_with fail
    refine WN.out.mono ?_
    rintro e w1 ⟨rfl, h1⟩
    have bw : Bl w (w1.alloc (.cells #[.int .i64 0, .int .i64 0, .slice none 0 0] 24)) := h1.alloc _
    go_wp2_with fail
    refine (AW.out _).mono ?_
    rintro e w99 ⟨rfl, h99⟩
    go_wp2
    go_ret
    exact ⟨rfl, bw.trans h99⟩
  | true =>
    obtain ⟨R, C, rfl, rfl, hd, hn⟩ := fitB_nat hf
    have WY := hideP (whole8N_call R C pa la ca xa w ha hd hn hla.symm)
    have HNN := hideP hn
    have HDM := hideP hd
    have hR16 := hd.r2
    have hR1 := hd.r1
    have hC16 := hd.c2
    have hC1 := hd.c1
    have hla256 : la ≤ 256 := by rw [hn]; exact hd.lt
    clear ha hla hf hn hd
    go_enter Tryz.func4, Tryz.ntmps4
    go_wp2_with fail
    refine WY.out.mono ?_
    rintro e w1 ⟨p1, c1, rfl, hx1, h1⟩
    obtain ⟨a, haa⟩ : ∃ a, a = ofL C xa := ⟨_, rfl⟩
    obtain ⟨f, hf⟩ : ∃ f : Nat → Nat → En, f = fun i k => wholeN (a i k) := ⟨_, rfl⟩
    have HX := hideP (show Mx 4 cellsN w1 R C p1 la c1 f by rw [hf, haa]; exact hx1)
    have HFA := hideP hf
    have HAA := hideP haa
    have k1' := MBox.new w1 R C p1 la c1 24
    obtain ⟨W1, hW1⟩ : ∃ W1, W1 = w1.alloc (.cells #[.int .i64 R, .int .i64 C, .slice p1 la c1] 24) := ⟨_, rfl⟩
    have b1 : Bl w1 W1 := by rw [hW1]; exact (Bl.refl _).alloc _
    rw [← hW1] at k1'
    have HW1 := hideP hW1
    have B1 : Bl w W1 := h1.trans b1
    clear hx1 hf haa hW1 WY
    rcases (by omega : 4 < R ∨ (R ≤ 4 ∧ 8 < C) ∨ (R ≤ 4 ∧ C ≤ 8 ∧ C < R) ∨ (R ≤ 4 ∧ C ≤ 8 ∧ R ≤ C)) with g1 | ⟨g1, g2⟩ | ⟨g1, g2, g3⟩ | ⟨g1, g2, g3⟩
    · go_wp2_with fail
      rw [← HW1.out]
      refine (AW.out _).mono ?_
      rintro e w99 ⟨rfl, h99⟩
      go_wp2
      go_ret
      exact ⟨rfl, B1.trans h99⟩
    · go_wp2_with fail
      rw [← HW1.out]
      refine (AW.out _).mono ?_
      rintro e w99 ⟨rfl, h99⟩
      go_wp2
      go_ret
      exact ⟨rfl, B1.trans h99⟩
    · go_wp2_with fail
      rw [← HW1.out]
      refine (AW.out _).mono ?_
      rintro e w99 ⟨rfl, h99⟩
      go_wp2
      go_ret
      exact ⟨rfl, B1.trans h99⟩
    · have FW := hideP (few6_any (.slice pa la ca) xa W1 (HA.out.later B1))
      go_wp2_with fail
      rw [← HW1.out]
      refine FW.out.mono ?_
      rintro e w1' ⟨b0, rfl, hb0, rfl⟩
      clear FW
      cases b0 with
      | false =>
        go_wp2_with fail
        refine (AW.out _).mono ?_
        rintro e w99 ⟨rfl, h99⟩
        go_wp2
        go_ret
        exact ⟨rfl, B1.trans h99⟩
      | true =>
        have SM := hideP (hb0 rfl).2
        clear hb0
        obtain ⟨W1, hW1e⟩ : ∃ W1 : World, W1 = w1' := ⟨_, rfl⟩
        subst hW1e
        obtain ⟨rr, hrr⟩ : ∃ rr, rr = R * R := ⟨_, rfl⟩
        have HRR := hideP hrr
        have rr16 : rr ≤ 16 := by rw [hrr]; exact Nat.mul_le_mul g1 g1
        have FO := hideP (hFoldAllN R C p1 la c1 f W1 (HX.out.later b1) g3)
        rw [← hrr] at FO
        clear hrr
        obtain ⟨c0, c1', c2', f0, f1, f2, lt⟩ := id k1'
        go_wp2_with fail
        refine FO.out.mono ?_
        rintro e w2 ⟨p2, c2, rfl, hx2, h2⟩
        have HS2 := hideP hx2
        obtain ⟨W2, hW2⟩ : ∃ W2, W2 = w2.alloc (.cells #[.int .i64 R, .int .i64 R, .slice p2 rr c2] 24) := ⟨_, rfl⟩
        have b2 : Bl w2 W2 := by rw [hW2]; exact (Bl.refl _).alloc _
        have k2 := MBox.new w2 R R p2 rr c2 24
        rw [← hW2] at k2
        have HW2 := hideP hW2
        clear hW2 hx2 FO c0 c1' c2' f0 f1 f2 lt
        go_wp2_with fail
        rw [← HW2.out]
        refine (tSqN R p2 rr c2 (foldN R C f) W2 (HS2.out.later b2)).mono ?_
        rintro e w3 ⟨p3, c3, rfl, ⟨hx3, _⟩, h3⟩
        have HP3 := hideP hx3
        have k3 := MBox.new w3 R R p3 rr c3 24
        obtain ⟨W4, hW4⟩ : ∃ W4, W4 = w3.alloc (.cells #[.int .i64 R, .int .i64 R, .slice p3 rr c3] 24) := ⟨_, rfl⟩
        have b34 : Bl w3 W4 := by rw [hW4]; exact (Bl.refl _).alloc _
        rw [← hW4] at k3
        have k24 := (k2.later h3).later b34
        have b24 : Bl w2 W4 := b2.trans (h3.trans b34)
        have B4 : Bl w W4 := B1.trans (h2.trans b24)
        have HW4 := hideP hW4
        clear hW4 hx3 k2 k1'
        go_wp2_with fail
        rw [← HW4.out]
        go_loopw [65, 13] (fun v t wr => ∃ k : Nat, v = .int .i64 k ∧ k ≤ C ∧ wr.ownsRow W4.heap.size 3 1 t (mk k R (fun k i => a i k)).length ((mk k R (fun k i => a i k)).flatMap cellsI) ∧ Bl W4 wr) (fun v _ _ => C - (intOf v).toNat)
        case atStart => exact ⟨0, rfl, Nat.zero_le _, ⟨rfl, .inl ⟨rfl, rfl⟩⟩, Bl.refl _⟩
        case round =>
          obtain ⟨k, rfl, hk', hown, bk⟩ := hrel
          have HO := hideP hown
          clear hown
          by_cases hk : k < C
          · go_wp2_with fail
            go_loopw [69, 13] (fun v t wr => ∃ i : Nat, v = .int .i64 i ∧ i ≤ R ∧ wr.ownsRow W4.heap.size 3 1 t (mk k R (fun k i => a i k) ++ (List.range i).map fun i => a i k).length ((mk k R (fun k i => a i k) ++ (List.range i).map fun i => a i k).flatMap cellsI) ∧ Bl W4 wr) (fun v _ _ => R - (intOf v).toNat)
            case atStart => exact ⟨0, rfl, Nat.zero_le _, by simpa using HO.out, bk⟩
            case round =>
              obtain ⟨i, rfl, hi', hown, bi⟩ := hrel
              have HO2 := hideP hown
              clear hown
              by_cases hi : i < R
              · obtain ⟨a1, q, e1, e2, hq1, hq3, hq5, hq6⟩ := place HDM.out hi hk
                rw [← HNN.out] at hq5
                obtain ⟨x, hx⟩ : ∃ x, x = a i k := ⟨_, rfl⟩
                have hxq : xa[q]? = some x := by
                  have hql : q < xa.length := by rw [← HLA.out]; exact hq5
                  rw [hx, HAA.out, e2]
                  unfold ofL
                  rw [List.getD_eq_getElem?_getD, ← e2, List.getElem?_eq_getElem hql]
                  rfl
                obtain ⟨bq, oq, hpq, cx⟩ : ∃ bq oq, pa = some ⟨bq, oq, none⟩ ∧ wr.cell? ⟨bq, oq + q, none⟩ = some (.int .i64 x) := by
                  rcases HA.out.later (B4.trans bi) with ⟨_, _, _, e0, _⟩ | ⟨bq, oq, cq, e0, _, _, hc⟩
                  · rw [e0] at hxq; simp at hxq
                  · simp only [Value.slice.injEq] at e0
                    exact ⟨bq, oq, e0.1, by have := hc q x hxq 0 _ rfl; simpa using this⟩
                have hlen : (mk k R (fun k i => a i k) ++ (List.range i).map fun i => a i k).length ≤ 256 := by
                  rw [List.length_append, mk_len, List.length_map, List.length_range]
                  have : k * R + R ≤ C * R := by rw [← Nat.succ_mul]; exact Nat.mul_le_mul_right _ hk
                  have : C * R ≤ 16 * 16 := Nat.mul_le_mul hC16 hR16
                  omega
                have HT := hideP (show mk k R (fun k i => a i k) ++ (List.range (i + 1)).map (fun i => a i k) = (mk k R (fun k i => a i k) ++ (List.range i).map fun i => a i k) ++ [x] by rw [List.range_succ, List.map_append, hx, List.append_assoc]; rfl)
                obtain ⟨ys, hys⟩ : ∃ ys, ys = mk k R (fun k i => a i k) ++ (List.range i).map fun i => a i k := ⟨_, rfl⟩
                rw [← hys] at HO2 hlen HT
                have sz := bi.size
                subst hpq
                clear hx hxq hys e1 e2
                go_wp2_with (at_builtin; refine wpList_append_own _ rfl _ _ 36 rfl W4.heap.size 3 j0 (.int .i64 0) 1 8 Tryz.underlying36 hji jz0 jz1 jz2 rfl (by decide) _ _ _ rfl (HO2.out.alloc _) ⟨_, 0, none⟩ 1 1 [.int .i64 x] rfl rfl (cell_one_new _ _ _) (by intro u hu; simp at hu; subst hu; rfl) (by unfold maxLen; omega) (by omega) (by simp; omega) ?_; intro v' w9 hown9 hgrow9 _)
                have HO9 := hideP (show w9.ownsRow W4.heap.size 3 1 v' (ys ++ [x]).length ((ys ++ [x]).flatMap cellsI) by
                  rw [List.length_append, List.flatMap_append]
                  exact hown9)
                have b9 : Bl W4 w9 := Below.grown (bi.alloc _) hgrow9 (by simp; omega) (fun k hk => ((HO2.out.alloc (.cells #[.int .i64 x] 3)).lt k hk).1)
                clear hown9 hgrow9 cx
                go_wp2
                go_roundw
                case rel => exact ⟨i + 1, by simp, hi, by rw [HT.out]; exact HO9.out, b9⟩
                case measure => simp [intOf]; omega
              · obtain rfl : i = R := by omega
                go_wp2
                go_roundw
                case rel => exact ⟨k + 1, by simp, hk, by rw [mk_succ]; exact HO2.out, bi⟩
                case measure => simp [intOf]; omega
          · obtain rfl : k = C := by omega
            obtain ⟨wq, hwq⟩ : ∃ wq : World, wq = wr := ⟨_, rfl⟩
            subst hwq
            have RT := Rw.of_own (c := cellsI) (fun _ => rfl) HO.out
            obtain ⟨pt, ct, ht, _, _⟩ := RT.cut
            subst ht
            have HRT := hideP RT
            clear RT HO
            have BQ : Bl w wq := B4.trans bk
            have k2q := k24.later bk
            have k3q := k3.later bk
            obtain ⟨C, rfl⟩ : ∃ C', C' = k := ⟨_, rfl⟩
            obtain ⟨b5, o5, ep2, _, hb5, CS⟩ := (HS2.out.later (b24.trans bk)).cells
            have HCS := hideP CS
            subst ep2
            clear CS
            obtain ⟨c0, c1', c2', f0, f1, f2, lt⟩ := id k2q
            go_wp2_with fail
            go_loopw [88] (fun v wr => ∃ j : Nat, v = .int .i64 j ∧ j ≤ rr ∧ Bl wq wr ∧ ∀ i k, i < R → k < R → i * R + k < j → (foldN R C f i k).bad = false) (fun v _ => rr - (intOf v).toNat)
            case atStart => exact ⟨0, rfl, Nat.zero_le _, Bl.refl _, fun i k _ _ h => by omega⟩
            case round =>
              obtain ⟨j, rfl, hj, bj, hall⟩ := hrel
              have HALL := hideP hall
              clear hall c0 c1' c2' f0 f1 f2
              by_cases hlt : j < rr
              · obtain ⟨ji, jk, hji', hjk, hjj⟩ := idx8q (show j < R * R by rw [← HRR.out]; exact hlt)
                obtain ⟨⟨zv, zl, zh, zb⟩, hz⟩ : ∃ z, z = foldN R C f ji jk := ⟨_, rfl⟩
                have CZ := hideP (show ∀ t u, (cellsN ⟨zv, zl, zh, zb⟩)[t]? = some u → wr.cell? ⟨b5, o5 + j * 4 + t, none⟩ = some u from fun t u hu => by
                  have := HCS.out ji jk hji' hjk t u (by rw [← hz]; exact hu)
                  rw [← hjj] at this
                  exact (bl_cell bj _ _ hb5).trans this)
                have z0 : wr.cell? ⟨b5, o5 + j * 4, none⟩ = some (.int .i64 zv) := CZ.out 0 _ rfl
                have z1 : wr.cell? ⟨b5, o5 + j * 4 + 1, none⟩ = some (.int .i64 zl) := CZ.out 1 _ rfl
                have z2 : wr.cell? ⟨b5, o5 + j * 4 + 2, none⟩ = some (.int .i64 zh) := CZ.out 2 _ rfl
                have z3 : wr.cell? ⟨b5, o5 + j * 4 + 3, none⟩ = some (.bool zb) := CZ.out 3 _ rfl
                have hb5r : b5 < wr.heap.size := Nat.lt_of_lt_of_le hb5 bj.size
                have HZ := hideP hz
                have HJJ := hideP hjj
                have BJ : Bl w (wr.alloc (.cells #[.int .i64 zv, .int .i64 zl, .int .i64 zh, .bool zb] 28)) := (BQ.trans bj).alloc _
                have bj' : Bl wq (wr.alloc (.cells #[.int .i64 zv, .int .i64 zl, .int .i64 zh, .bool zb] 28)) := bj.alloc _
                clear hz hjj
                cases zb with
                | true =>
                  go_wp2_with fail
                  refine (AW.out _).mono ?_
                  rintro e w99 ⟨rfl, h99⟩
                  go_wp2
                  go_ret
                  exact ⟨rfl, BJ.trans h99⟩
                | false =>
                  go_wp2
                  go_roundw
                  case rel =>
                    refine ⟨j + 1, by simp, hlt, bj', fun i k hi hk h => ?_⟩
                    by_cases he : i * R + k < j
                    · exact HALL.out i k hi hk he
                    · obtain ⟨rfl, rfl⟩ := idx_inj7 hk hjk (show i * R + k = ji * R + jk by have := HJJ.out; omega)
                      rw [← HZ.out]
                  case measure => simp [intOf]; omega
              · obtain rfl : j = rr := by omega
                obtain ⟨wp, hwp⟩ : ∃ wp : World, wp = wr := ⟨_, rfl⟩
                subst hwp
                have BP : Bl w wp := BQ.trans bj
                have SQ := hideP (fun i k hi hk => squares8 (R := R) (C := C) (a := a) (i := i) (k := k) g3 (by omega) (by rw [HAA.out]; exact ofL_sml (by rw [← HLA.out, HNN.out]) SM.out) (fun i k hi hk => by have := HALL.out i k hi hk (by rw [HRR.out]; exact mk_idx hi hk); rw [HFA.out] at this; exact this) hi hk)
                rw [← HFA.out] at SQ
                have MU := hideP (ref6Mul_any pa pt la ca (mk C R (fun k i => a i k)).length ct xa (mk C R (fun k i => a i k)) R C R wp HDM.out ⟨hC1, hC16, hR1, hR16⟩ (HA.out.later BP) (HRT.out.later bj).q (by rw [← HLA.out, HNN.out]) (by rw [mk_len]) HNN.out (by rw [mk_len]) SM.out (mk_sml (g := fun k i => a i k) fun k i hk hi => by rw [HAA.out]; exact ofL_sml (R := R) (M := C) (by rw [← HLA.out, HNN.out]) SM.out i k hi hk))
                rw [show mk R R (mulI C (ofL C xa) (ofL R (mk C R (fun k i => a i k)))) = mk R R (mulI C a (fun i k => a k i)) from by
                  rw [HAA.out]
                  refine mk_congr fun i k hi hk => ?_
                  unfold mulI
                  congr 1
                  exact List.map_congr_left fun c hc => by
                    have hc' : c < C := List.mem_range.1 hc
                    unfold ofL
                    rw [List.getD_eq_getElem?_getD, mk_get _ hc' hk]
                    rfl] at MU
                rw [← HRR.out] at MU
                have k3p := k3q.later bj
                obtain ⟨bp, op, ep3, hcp, hbp, CP⟩ := (HP3.out.later ((b34.trans bk).trans bj)).cells
                subst ep3
                have HCP := hideP CP
                clear CP
                go_wp2_with fail
                refine MU.out.mono ?_
                rintro e w6 ⟨p6, c6, rfl, hr6, h6⟩
                obtain ⟨b6, o6, ep6, hb6, C6⟩ : ∃ b6 o6, p6 = some ⟨b6, o6, none⟩ ∧ b6 < w6.heap.size ∧ ∀ i k, i < R → k < R → w6.cell? ⟨b6, o6 + (i * R + k), none⟩ = some (.int .i64 (mulI C a (fun i k => a k i) i k)) := by
                  rcases hr6 with ⟨_, e0⟩ | ⟨b6, o6, cc, e0, _, hb, hx⟩
                  · have := congrArg List.length e0
                    rw [mk_len] at this
                    have := Nat.mul_pos hR1 hR1
                    simp at *
                    omega
                  · simp only [Value.slice.injEq] at e0
                    exact ⟨b6, o6, e0.1, hb, fun i k hi hk => by have := hx _ _ (mk_get _ hi hk) 0 _ rfl; simpa using this⟩
                subst ep6
                have HC6 := hideP C6
                have B6 : Bl w w6 := BP.trans h6
                have k36 := k3p.later h6
                obtain ⟨rr, rfl⟩ : ∃ r', r' = j := ⟨_, rfl⟩
                clear hr6 C6 MU
                go_wp2_with fail
                go_loopw [103] (fun v wr => ∃ j : Nat, v = .int .i64 j ∧ j ≤ rr ∧ Bl w6 wr) (fun v _ => rr - (intOf v).toNat)
                case atStart => exact ⟨0, rfl, Nat.zero_le _, Bl.refl _⟩
                case round =>
                  obtain ⟨j, rfl, hj, bj⟩ := hrel
                  by_cases hlt : j < rr
                  · obtain ⟨ji, jk, hji', hjk, hjj⟩ := idx8q (show j < R * R by rw [← HRR.out]; exact hlt)
                    obtain ⟨⟨zv, zl, zh, zb⟩, hz⟩ : ∃ z, z = mirM (mulMN R (foldN R C f) (fun i k => foldN R C f k i)) ji jk := ⟨_, rfl⟩
                    have CZ := hideP (show ∀ t u, (cellsN ⟨zv, zl, zh, zb⟩)[t]? = some u → wr.cell? ⟨bp, op + j * 4 + t, none⟩ = some u from fun t u hu => by
                      have := HCP.out ji jk hji' hjk t u (by rw [← hz]; exact hu)
                      rw [← hjj] at this
                      exact (bl_cell (h6.trans bj) _ _ hbp).trans this)
                    have z0 : wr.cell? ⟨bp, op + j * 4, none⟩ = some (.int .i64 zv) := CZ.out 0 _ rfl
                    have z1 : wr.cell? ⟨bp, op + j * 4 + 1, none⟩ = some (.int .i64 zl) := CZ.out 1 _ rfl
                    have z2 : wr.cell? ⟨bp, op + j * 4 + 2, none⟩ = some (.int .i64 zh) := CZ.out 2 _ rfl
                    have z3 : wr.cell? ⟨bp, op + j * 4 + 3, none⟩ = some (.bool zb) := CZ.out 3 _ rfl
                    obtain ⟨nv, hnv⟩ : ∃ nv, nv = mulI C a (fun i k => a k i) ji jk := ⟨_, rfl⟩
                    have n0 : wr.cell? ⟨b6, o6 + j, none⟩ = some (.int .i64 nv) := by
                      have := HC6.out ji jk hji' hjk
                      rw [← hjj, ← hnv] at this
                      exact (bl_cell bj _ _ hb6).trans this
                    obtain ⟨c0, c1', c2', f0, f1, f2, lt⟩ := k36.later bj
                    have EC := hideP (show zb = false → enclB ⟨zv, zl, zh, zb⟩ nv 1 = true from fun hb => by
                      have := SQ.out ji jk hji' hjk (by rw [← hz]; exact hb)
                      rw [← hz, ← hnv] at this
                      exact this)
                    clear hz hjj hnv
                    cases zb with
                    | true =>
                      go_wp2
                      go_roundw
                      case rel => exact ⟨j + 1, by simp, hlt, bj⟩
                      case measure => simp [intOf]; omega
                    | false =>
                      have EN := hideP (fun u => by have := encl_any ⟨zv, zl, zh, false⟩ nv 1 u; rw [EC.out rfl] at this; exact this)
                      go_wp2_with fail
                      refine (EN.out _).mono ?_
                      rintro e w7 ⟨rfl, h7⟩
                      have b7 := bj.trans h7
                      clear c0 c1' c2' f0 f1 f2 z0 z1 z2 z3 n0
                      go_wp2
                      go_roundw
                      case rel => exact ⟨j + 1, by simp, hlt, b7⟩
                      case measure => simp [intOf]; omega
                  · obtain rfl : j = rr := by omega
                    go_wp2_with fail
                    refine (AW.out _).mono ?_
                    rintro e w99 ⟨rfl, h99⟩
                    go_wp2
                    go_ret
                    exact ⟨rfl, (B6.trans bj).trans h99⟩
end Go.Proofs.YtafjmogkiohjgaaGreat

/- A slice of whole numbers as an argument: opened. -/
namespace Go.Proofs.YtafjmogkiohjgaaGreat
open Go.ChangeShapes Go.WideShapes Go.ChangeAt Go.RowKit
set_option linter.unusedVariables false

theorem Tryz.cellsInt : Tryz.prog.cellsOf 3 = 1 := by kernel_rfl
theorem cell_block_lt {W : World} {b o : Nat} {v : Value} (h : W.cell? ⟨b, o, none⟩ = some v) : b < W.heap.size := by
  rcases Nat.lt_or_ge b W.heap.size with h' | h'
  · exact h'
  · have : W.heap[b]? = none := Array.getElem?_eq_none h'
    simp [World.cell?, this] at h
set_option maxRecDepth 1000000 in
theorem open_row {H : Type} {enc : TypeId × Value → H} {W : World} {b0 : Nat} {v : Value} {d : DataW H} {p : List MemPlace}
    (hv : Value.okWide Tryz.prog W .any b0 36 v) (h : DataW.Trod enc Tryz.prog W 0 (fun _ => true) true 36 v d p) : ∃ ns : List Int, Rq 1 cI W v ns ∧ ∀ n ∈ ns, (Lit.int .i64 n).wf = true := by
  obtain ⟨a0, len, cap, rfl⟩ := okWide_slice Tryz.underlying36 hv
  obtain ⟨fuel, hf⟩ := h
  rcases open_ints Tryz.underlying36 Tryz.underlying3 Tryz.cellsInt hf with ⟨hcs, hx⟩ | ⟨a, len', cap', zs, hcs, _, hl, hm, hz, hx, hcell, hwz⟩
  · simp [Value.cells] at hcs
    obtain ⟨rfl, rfl, rfl⟩ := hcs
    exact ⟨[], .inl ⟨none, 0, rfl, rfl, fun _ => rfl⟩, fun n hn => by simp at hn⟩
  · simp [Value.cells] at hcs
    obtain ⟨rfl, rfl, rfl⟩ := hcs
    simp only [if_true] at hz
    refine ⟨zs.take len, ?_, fun n hn => hwz n (List.mem_of_mem_take hn)⟩
    by_cases h0 : len = 0
    · subst h0
      exact .inl ⟨some a, cap, rfl, by simp, nofun⟩
    · have c0 := hcell 0 (by omega)
      obtain ⟨b, off, rfl, hc⟩ := ints_at hcell (by omega)
      have hb : b < W.heap.size := by
        have := hc 0 (by omega)
        exact cell_block_lt this
      have hll : (zs.take len).length = len := by simp; omega
      refine .inr ⟨b, off, cap, by rw [hll], by omega, hb, fun j x hj k u hu => ?_⟩
      rcases k with _ | k
      · simp at hu
        subst hu
        have hj2 := (List.getElem?_eq_some_iff.1 hj).1
        have := hc j (by omega)
        rw [List.getElem?_take] at hj
        split at hj
        · have e : zs.getD j 0 = x := by simp [List.getD, hj]
          rw [e] at this
          simpa using this
        · cases hj
      · simp at hu
end Go.Proofs.YtafjmogkiohjgaaGreat

/- For every slice of ints and every two ints, HouseSquares tells true: the square of the triangle that Fold tells of whole numbers, enclosed, encloses the square of what was folded, if no number of the triangle is Bad (P8.2). Conditions: none (every input). -/
namespace Go.Proofs.YtafjmogkiohjgaaGreat
open Go.ChangeShapes Go.WideShapes Go.ChangeAt Go.RowKit
set_option linter.unusedVariables false

theorem own_HouseSquares : ownKnob Tryz.prog.godebug = none := by kernel_rfl
theorem laid_HouseSquares : laidOutB Tryz.prog = true := by kernel_rfl
set_option maxRecDepth 100000 in
theorem lifted_HouseSquares (os : Os) (started : os.Started) (H : Type) (enc : TypeId × Value → H) :
    ReturnsInHanded {} Tryz.checked os 4 .any (Rows.houseSquaresSpec.pre6 enc Tryz.prog Tryz.f4 Rows.houseSquaresRow.domain false) (Rows.houseSquaresSpec.post enc Tryz.prog Tryz.f4 false true false false) := by
  refine returnsInHanded_of_change (C := Tryz.checked) own_HouseSquares started (by kernel_rfl) Tryz.func4
    (ChangeSpec.witness6 (enc := enc) (C := Tryz.checked) false ⟨#[], #[.slice none 0 0, .int .i64 0, .int .i64 0], []⟩ 8 (by kernel_rfl) (by kernel_rfl) (by kernel_rfl) (by kernel_rfl)) ?_
  intro W base args ds gs before hval0 hW hcnd _
  have hval : ∀ (j : Nat) t v, Tryz.f4.params[j]? = some t → args[j]? = some v → Value.okWide Tryz.prog W .any base t v := hval0
  have hW' := hW
  obtain ⟨p, q, hA0, hV, rfl, hfz, hnd⟩ := hW
  have hA : DataW.TrodAll enc Tryz.prog W 0 (fun _ => true) true Tryz.f4.params.toList args.toList ds p := hA0
  rw [Tryz.params4] at hA hval
  obtain ⟨v0, vs0, d0, ds0, p0, q0, hargs, rfl, rfl, h0, r0⟩ := trodAll_cons hA
  obtain ⟨v1, vs1, d1, ds1, p1, q1, rfl, rfl, rfl, h1, r1⟩ := trodAll_cons r0
  obtain ⟨v2, vs2, d2, ds2, p2, q2, rfl, rfl, rfl, h2, r2⟩ := trodAll_cons r1
  obtain ⟨rfl, rfl, rfl⟩ := trodAll_nil r2
  obtain rfl : args = #[v0, v1, v2] := by cases args; simp_all
  obtain ⟨rfl, rfl⟩ := trodVars_none hV
  have hltA := fun x hx => hW'.lt x hx
  obtain ⟨a0, R0, w0⟩ := open_row (hval 0 36 v0 rfl rfl) h0
  obtain ⟨a1, e1, _, _, w1⟩ := open_int Tryz.underlying3 (hval 1 3 v1 rfl rfl) h1
  subst e1
  obtain ⟨a2, e2, _, _, w2⟩ := open_int Tryz.underlying3 (hval 2 3 v2 rfl rfl) h2
  subst e2
  clear hA0 hval0
  refine (walk_HouseSquares v0 a0 a1 a2 W R0).mono fun e W' ⟨he, bel⟩ => ?_
  subst he
  exact ⟨_, rfl, _, _, _, [], _, [], hW', trodAll_mk1 (shut_bool Tryz.underlying4 _), (trodAll_cons_mk (Below.trod laid_HouseSquares (by kernel_rfl) (of_decide_eq_true (by kernel_rfl)) h0 bel (fun x hx => by have := hltA x (by simp [hx]); simpa using this)) (trodAll_cons_mk (Below.trod laid_HouseSquares (by kernel_rfl) (of_decide_eq_true (by kernel_rfl)) h1 bel (fun x hx => by have := hltA x (by simp [hx]); simpa using this)) (trodAll_cons_mk (Below.trod laid_HouseSquares (by kernel_rfl) (of_decide_eq_true (by kernel_rfl)) h2 bel (fun x hx => by have := hltA x (by simp [hx]); simpa using this)) trodAll_mk0))), rfl, Below.frame bel _, fun h => by cases h⟩

theorem proved_HouseSquares : Rows.HouseSquaresSaid :=
  OpenClaim.holds_of_wide 4 Tryz.f4 rfl rfl rfl rfl rfl rfl rfl ⟨rfl, rfl, rfl, rfl, rfl⟩ rfl rfl rfl rfl rfl (by kernel_rfl) Tryz.func4 (by kernel_rfl)
    (of_decide_eq_true (by kernel_rfl)) (by unfold Func.isWrapper; first | (rw [if_pos (by decide +kernel)]; kernel_rfl) | (rw [if_neg (by decide +kernel)]; exact ⟨rfl, rfl⟩))
    (fun os started H enc _ => lifted_HouseSquares os started H enc)
#print axioms proved_HouseSquares
end Go.Proofs.YtafjmogkiohjgaaGreat
