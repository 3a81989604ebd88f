/- What is told of fractions, as rational numbers: where what is told may be one, so may all that it came of, and it is the rational sum, product .. Mathematics alone. -/
import Derived.Test.YtljmggemdkfbiaaGreatBits
import Derived.Test.YtljmggemdkfbiaaGreatRoot
import Derived.Test.YtljmggemdkfbiaaGreatFrM
import Derived.Test.YtljmggemdkfbiaaGreatMid
import Derived.BigQuiet
import Derived.Deep.DeepCutAuto
import Derived.Deep.RegionHeld3
import Derived.Deep.RegionWith
import Derived.RangeFuncNested
import Derived.RangeFuncBound
import Derived.RangeFuncCalls
import Derived.RangeFuncLeaves
import Derived.Shelf.Abstract
import Derived.Shelf.RegionOpen
import Derived.OwnWalkIn
import Derived.TacticsInMore
import Derived.LoopNIn
import Derived.LoopIn
import Derived.Maps.OwnIn
namespace Go.Proofs.YtljmggemdkfbiaaGreat
open Go.RowKit
set_option linter.unusedSimpArgs false
set_option linter.unusedVariables false
theorem hideP {p : Prop} (h : p) : Hid p := h
abbrev frV (x : Fr) : Value := .agg #[.int .i64 x.n, .int .i64 x.d, .bool x.bad]
structure FBox (w : World) (b : Nat) (x : Fr) : Prop where
 c0 : w.cell? ⟨b, 0, none⟩ = some (.int .i64 x.n)
 c1 : w.cell? ⟨b, 1, none⟩ = some (.int .i64 x.d)
 c2 : w.cell? ⟨b, 2, none⟩ = some (.bool x.bad)
 f0 : w.frozen? ⟨b, 0, none⟩ = false
 f1 : w.frozen? ⟨b, 1, none⟩ = false
 f2 : w.frozen? ⟨b, 2, none⟩ = false
 lt : b < w.heap.size
theorem FBox.later {w w' : World} {b : Nat} {x : Fr} (h : FBox w b x) (k : Bl w w') : FBox w' b x := by
 have := h.lt
 refine ⟨?_, ?_, ?_, ?_, ?_, ?_, by have := Below.size k; omega⟩
 ·rw [bl_cell k _ _ this]; exact h.c0
 ·rw [bl_cell k _ _ this]; exact h.c1
 ·rw [bl_cell k _ _ this]; exact h.c2
 ·rw [bl_froz k _ _ this]; exact h.f0
 ·rw [bl_froz k _ _ this]; exact h.f1
 ·rw [bl_froz k _ _ this]; exact h.f2
theorem FBox.new (w : World) (x : Fr) (t : TypeId) : FBox (w.alloc (.cells #[.int .i64 x.n, .int .i64 x.d, .bool x.bad] t)) w.heap.size x := by
 refine ⟨?_, ?_, ?_, ?_, ?_, ?_, by simp⟩ <;> simp [go_sem]
theorem Bl.set3 {a b : World} (h : Bl a b) {n : Nat} (hn : a.heap.size ≤ n) (v0 v1 v2 : Value) : Bl a (((b.setCell ⟨n, 0, none⟩ v0).setCell ⟨n, 1, none⟩ v1).setCell ⟨n, 2, none⟩ v2) :=
 Bl.set (Bl.set (Bl.set h hn _) hn _) hn _
def zeroR : Fr := ⟨0, 0, false⟩
structure OneZ (w W : World) : Prop where
 eq : W = w.alloc (.cells #[.int .i64 0, .int .i64 0, .bool false] 34)
 bl : Bl w W
 bz : FBox W w.heap.size zeroR
 size : W.heap.size = w.heap.size + 1
theorem oneZ_ex (w : World) : ∃ W, OneZ w W := ⟨_, rfl, (Bl.refl _).alloc _, FBox.new w zeroR _, by simp⟩
theorem wrongR_any (w : World) :
  Calls Tryz.prog 55 #[] w fun e w' => e = .returned (frV wrongR) ∧ Bl w w' := by
 go_enter Tryz.func55, Tryz.ntmps55
 go_wp2
 simp [bodyPost, results, Tryz.results55, go_sem, wrongR]
 exact (Bl.refl _).alloc _
theorem within_any (n m : Int) (h0 : 0 ≤ m) (h1 : m ≤ 4611686018427387904) (w : World) :
  Calls Tryz.prog 54 #[.int .i64 n, .int .i64 m] w fun e w' => e = .returned (.bool (decide (-m ≤ n) && decide (n ≤ m))) ∧ w' = w := by
 by_cases h : -m ≤ n
 ·by_cases h2 : n ≤ m
  ·go_enter Tryz.func54, Tryz.ntmps54
   go_wp2
   go_ret
   exact ⟨by simp [h, h2], rfl⟩
  ·go_enter Tryz.func54, Tryz.ntmps54
   go_wp2
   go_ret
   exact ⟨by simp [h, h2], rfl⟩
 ·go_enter Tryz.func54, Tryz.ntmps54
  go_wp2
  go_ret
  exact ⟨by simp; omega, rfl⟩
theorem within_sm (n : Int) (w : World) :
  Calls Tryz.prog 54 #[.int .i64 n, .int .i64 1073741824] w fun e w' => e = .returned (.bool (smB n)) ∧ w' = w := within_any n _ (by decide) (by decide) w
theorem within_gv (n : Int) (w : World) :
  Calls Tryz.prog 54 #[.int .i64 n, .int .i64 1152921504606846976] w fun e w' => e = .returned (.bool (gvB n)) ∧ w' = w := within_any n _ (by decide) (by decide) w
theorem gcd_step (a b : Int) (ha : 0 ≤ a) (hb : 0 < b) : Int.gcd b (a % b) = Int.gcd a b := by
 rw [Int.gcd_comm, Int.gcd_comm a b]
 show Nat.gcd _ _ = Nat.gcd _ _
 rw [Int.natAbs_emod_of_nonneg ha, ← Nat.gcd_rec]
theorem drewN_bl : ∀ (n : Nat) (w : World), Bl w (w.drewN n)
 | 0, w => Bl.refl w
 | n + 1, w => (drewN_bl n w).trans ((Bl.refl _).drew)
theorem divisor_any (a b : Int) (ha : 0 ≤ a) (hb : 0 ≤ b) (w : World) :
  Calls Tryz.prog 99 #[.int .i64 a, .int .i64 b] w fun e w' => e = .returned (.int .i64 (Int.gcd a b : Int)) ∧ Bl w w' := by
 go_enter Tryz.func99, Tryz.ntmps99
 go_wp2
 go_loopw [0, 1] (fun x y wr => ∃ (p q : Int), x = .int .i64 p ∧ y = .int .i64 q ∧ 0 ≤ p ∧ 0 ≤ q ∧ Int.gcd p q = Int.gcd a b ∧ Bl w wr) (fun _ y _ => (intOf y).toNat)
 case atStart => exact ⟨a, b, rfl, rfl, ha, hb, rfl, Bl.refl _⟩
 case round =>
  obtain ⟨p, q, rfl, rfl, hp, hq, hg, hB⟩ := hrel
  have HG := hideP hg
  clear hg
  by_cases h : 0 < q
  ·have hq0 : (q == 0) = false := by simpa using (show q ≠ 0 by omega)
   go_wp2
   go_quiet (fail)
   go_wp2
   go_roundw
   case rel => exact ⟨q, p % q, rfl, rfl, hq, Int.emod_nonneg _ (by omega), by rw [gcd_step p q hp h]; exact HG.out, hB.trans (drewN_bl _ _)⟩
   case measure =>
    have := Int.emod_nonneg p (show q ≠ 0 by omega)
    have := Int.emod_lt_of_pos p h
    simp [intOf]
    omega
  ·obtain rfl : q = 0 := by omega
   go_wp2
   go_ret
   refine ⟨?_, hB⟩
   rw [← HG.out]
   exact ret_int (by rw [Int.gcd_zero]; omega)
theorem low_two (x y : Int) (hy : 1 ≤ y) (r : Fr) (h : r = if smB x && smB y then ⟨x, y, false⟩ else wrongR) :
  (smB x = false ∧ r = wrongR) ∨ (smB x = true ∧ 1073741824 < y ∧ r = wrongR) ∨ (smB x = true ∧ ¬ 1073741824 < y ∧ r = ⟨x, y, false⟩) := by
 subst h
 cases hx : smB x
 ·exact .inl ⟨rfl, rfl⟩
 ·by_cases hy2 : 1073741824 < y
  ·have : smB y = false := by
    rw [Bool.eq_false_iff, ne_eq, smB_iff]; omega
   rw [this]
   exact .inr (.inl ⟨rfl, hy2, rfl⟩)
  ·rw [smB_iff.2 (by omega : -1073741824 ≤ y ∧ y ≤ 1073741824)]
   exact .inr (.inr ⟨rfl, hy2, rfl⟩)
set_option maxHeartbeats 1000000 in
theorem lowest_mid (n d m : Int) (hm : (m = -n ∧ n < -n) ∨ (m = n ∧ ¬ n < -n)) (h1 : -4611686018427387904 ≤ n) (h2 : n ≤ 4611686018427387904) (h3 : 0 < d) (h4 : d ≤ 4611686018427387904) (w : World) :
  Calls Tryz.prog 56 #[.int .i64 n, .int .i64 d] w fun e w' => e = .returned (frV (lowR n d)) ∧ Bl w w' := by
 obtain ⟨W, X⟩ := oneZ_ex w
 have HX := hideP X
 clear X
 have D := hideP (divisor_any m d (by omega) (by omega))
 have L := lowR_pos n d h3 (Int.gcd m d : Int) (by
  rcases hm with ⟨rfl, _⟩ | ⟨rfl, _⟩
  ·rw [Int.neg_gcd]
  ·rfl)
 have g0 : 0 < (Int.gcd m d : Int) := by have := Int.gcd_pos_of_ne_zero_right m (show d ≠ 0 by omega); omega
 have gl : (Int.gcd m d : Int) ≤ d := Int.gcd_le_right _ h3
 generalize (Int.gcd m d : Int) = g at *
 have ey : d.tdiv g = d / g := Int.tdiv_eq_ediv_of_nonneg (by omega)
 rw [ey] at L
 have y1 : 1 ≤ d / g := by
  have := Int.ediv_le_ediv g0 gl
  rwa [Int.ediv_self (by omega)] at this
 have hd0 : (d == 0) = false := by simpa using (show d ≠ 0 by omega)
 have hg0 : (g == 0) = false := by simpa using (show g ≠ 0 by omega)
 have hn0 : ¬ d < 0 := by omega
 have ex : m = n → n.tdiv g = n / g := fun h => Int.tdiv_eq_ediv_of_nonneg (by omega)
 generalize lowR n d = r at *
 obtain ⟨y, hy⟩ : ∃ y, d / g = y := ⟨_, rfl⟩
 rw [hy] at L y1
 have HY := hideP hy
 clear hy ey
 rcases hm with ⟨rfl, hm⟩ | ⟨rfl, hm⟩
 ·clear ex
  obtain ⟨x, hx⟩ : ∃ x, n.tdiv g = x := ⟨_, rfl⟩
  rw [hx] at L
  have HXX := hideP hx
  clear hx
  rcases low_two x y y1 r L with ⟨k, rfl⟩ | ⟨k, k2, rfl⟩ | ⟨k, k2, rfl⟩
  all_goals
   clear L
   go_enter Tryz.func56, Tryz.ntmps56
   go_wp2_with fail
   rw [← HX.out.eq]
   refine (D.out _).mono ?_
   rintro e w1 ⟨rfl, h1⟩
   go_wp2
   go_quiet (fail)
   simp only [HXX.out, HY.out]
   have B1 := h1.trans (drewN_bl nq w1)
   generalize w1.drewN nq = w2 at *
   obtain ⟨c0, c1, c2, f0, f1, f2, lt⟩ := HX.out.bz.later B1
   go_wp2_with (first
    | (go_at_call 54; refine (within_sm _ _).mono ?_; rintro e w' ⟨rfl, rfl⟩)
    | (go_at_call 55; refine (wrongR_any _).mono ?_; rintro e w3 ⟨rfl, h3⟩; obtain ⟨c0, c1, c2, f0, f1, f2, lt⟩ := HX.out.bz.later (B1.trans h3)))
   simp [bodyPost, results, Tryz.results56, go_sem, c0, c1, c2]
   refine Bl.set3 ?_ (by omega) _ _ _
   first
    | exact HX.out.bl.trans B1
    | exact HX.out.bl.trans (B1.trans h3)
 ·rw [ex rfl] at L
  obtain ⟨x, hx⟩ : ∃ x, m / g = x := ⟨_, rfl⟩
  rw [hx] at L
  have HXX := hideP hx
  clear hx ex
  rcases low_two x y y1 r L with ⟨k, rfl⟩ | ⟨k, k2, rfl⟩ | ⟨k, k2, rfl⟩
  all_goals
   clear L
   go_enter Tryz.func56, Tryz.ntmps56
   go_wp2_with fail
   rw [← HX.out.eq]
   refine (D.out _).mono ?_
   rintro e w1 ⟨rfl, h1⟩
   go_wp2
   go_quiet (fail)
   simp only [HXX.out, HY.out]
   have B1 := h1.trans (drewN_bl nq w1)
   generalize w1.drewN nq = w2 at *
   obtain ⟨c0, c1, c2, f0, f1, f2, lt⟩ := HX.out.bz.later B1
   go_wp2_with (first
    | (go_at_call 54; refine (within_sm _ _).mono ?_; rintro e w' ⟨rfl, rfl⟩)
    | (go_at_call 55; refine (wrongR_any _).mono ?_; rintro e w3 ⟨rfl, h3⟩; obtain ⟨c0, c1, c2, f0, f1, f2, lt⟩ := HX.out.bz.later (B1.trans h3)))
   simp [bodyPost, results, Tryz.results56, go_sem, c0, c1, c2]
   refine Bl.set3 ?_ (by omega) _ _ _
   first
    | exact HX.out.bl.trans B1
    | exact HX.out.bl.trans (B1.trans h3)
theorem lowest_zero (n : Int) (w : World) :
  Calls Tryz.prog 56 #[.int .i64 n, .int .i64 0] w fun e w' => e = .returned (frV (lowR n 0)) ∧ Bl w w' := by
 obtain ⟨W, X⟩ := oneZ_ex w
 have HX := hideP X
 clear X
 have e : lowR n 0 = wrongR := by unfold lowR; rw [if_pos rfl]
 rw [e]
 clear e
 go_enter Tryz.func56, Tryz.ntmps56
 go_wp2_with fail
 rw [← HX.out.eq]
 refine (wrongR_any _).mono ?_
 rintro e w1 ⟨rfl, h1⟩
 obtain ⟨c0, c1, c2, f0, f1, f2, lt⟩ := HX.out.bz.later h1
 go_wp2
 simp [bodyPost, results, Tryz.results56, go_sem, c0, c1, c2]
 exact Bl.set3 (HX.out.bl.trans h1) (by omega) _ _ _
theorem tdiv_neg_wrap (n g : Int) (h1 : -4611686018427387904 ≤ n) (h2 : n ≤ 4611686018427387904) : wrap64 (-(n.tdiv g)) = (-n).tdiv g := by
 rw [Int.neg_tdiv]
 have h : (n.tdiv g).natAbs ≤ n.natAbs := by rw [Int.natAbs_tdiv]; exact Nat.div_le_self _ _
 exact IntWalk.wrap64_in _ (by omega)
theorem tdiv_one_le (d g : Int) (hg : 0 < g) (h : g ≤ d) : 1 ≤ d.tdiv g := by
 rw [Int.tdiv_eq_ediv_of_nonneg (by omega)]
 have := Int.ediv_le_ediv hg h
 rwa [Int.ediv_self (by omega)] at this
set_option maxHeartbeats 1000000 in
theorem lowest_neg (n d m : Int) (hm : (m = n ∧ -n < n) ∨ (m = -n ∧ ¬ -n < n)) (h1 : -4611686018427387904 ≤ n) (h2 : n ≤ 4611686018427387904) (h3 : d < 0) (h4 : -4611686018427387904 ≤ d) (w : World) :
  Calls Tryz.prog 56 #[.int .i64 n, .int .i64 d] w fun e w' => e = .returned (frV (lowR n d)) ∧ Bl w w' := by
 obtain ⟨W, X⟩ := oneZ_ex w
 have HX := hideP X
 clear X
 have D := hideP (divisor_any m (-d) (by omega) (by omega))
 have L := lowR_pos (-n) (-d) (by omega) (Int.gcd m (-d) : Int) (by
  rcases hm with ⟨rfl, _⟩ | ⟨rfl, _⟩
  ·rw [Int.neg_gcd]
  ·rfl)
 rw [← lowR_neg n d h3] at L
 have g0 : 0 < (Int.gcd m (-d) : Int) := by have := Int.gcd_pos_of_ne_zero_right m (show -d ≠ 0 by omega); omega
 have gl : (Int.gcd m (-d) : Int) ≤ -d := Int.gcd_le_right _ (by omega)
 generalize (Int.gcd m (-d) : Int) = g at *
 have hd0 : (d == 0) = false := by simpa using (show d ≠ 0 by omega)
 have hg0 : (g == 0) = false := by simpa using (show g ≠ 0 by omega)
 generalize lowR n d = r at *
 have e1 := hideP (tdiv_neg_wrap n g h1 h2)
 have e2 := hideP (tdiv_neg_wrap d g (by omega) (by omega))
 have y1 := tdiv_one_le (-d) g g0 gl
 obtain ⟨x, hx⟩ : ∃ x, (-n).tdiv g = x := ⟨_, rfl⟩
 obtain ⟨y, hy⟩ : ∃ y, (-d).tdiv g = y := ⟨_, rfl⟩
 rw [hx] at e1 L
 rw [hy] at e2 L y1
 clear hx hy
 rcases low_two x y y1 r L with ⟨k, rfl⟩ | ⟨k, k2, rfl⟩ | ⟨k, k2, rfl⟩
 all_goals
  clear L
  rcases hm with ⟨rfl, hm⟩ | ⟨rfl, hm⟩
  all_goals
   go_enter Tryz.func56, Tryz.ntmps56
   go_wp2_with fail
   rw [← HX.out.eq]
   refine (D.out _).mono ?_
   rintro e w1 ⟨rfl, h1⟩
   go_wp2
   go_quiet (fail)
   simp only [e1.out, e2.out]
   have B1 := h1.trans (drewN_bl nq w1)
   generalize w1.drewN nq = w2 at *
   obtain ⟨c0, c1, c2, f0, f1, f2, lt⟩ := HX.out.bz.later B1
   go_wp2_with (first
    | (go_at_call 54; refine (within_sm _ _).mono ?_; rintro e w' ⟨rfl, rfl⟩)
    | (go_at_call 55; refine (wrongR_any _).mono ?_; rintro e w3 ⟨rfl, h3⟩; obtain ⟨c0, c1, c2, f0, f1, f2, lt⟩ := HX.out.bz.later (B1.trans h3)))
   simp [bodyPost, results, Tryz.results56, go_sem, c0, c1, c2]
   refine Bl.set3 ?_ (by omega) _ _ _
   first
    | exact HX.out.bl.trans B1
    | exact HX.out.bl.trans (B1.trans h3)
theorem lowest_any (n d : Int) (h1 : -4611686018427387904 ≤ n) (h2 : n ≤ 4611686018427387904) (h3 : -4611686018427387904 ≤ d) (h4 : d ≤ 4611686018427387904) (w : World) :
  Calls Tryz.prog 56 #[.int .i64 n, .int .i64 d] w fun e w' => e = .returned (frV (lowR n d)) ∧ Bl w w' := by
 rcases (by omega : d < 0 ∨ d = 0 ∨ 0 < d) with h | h | h
 ·by_cases hn : -n < n
  ·exact lowest_neg n d n (.inl ⟨rfl, hn⟩) h1 h2 h h3 w
  ·exact lowest_neg n d (-n) (.inr ⟨rfl, hn⟩) h1 h2 h h3 w
 ·subst h; exact lowest_zero n w
 ·by_cases hn : n < -n
  ·exact lowest_mid n d (-n) (.inl ⟨rfl, hn⟩) h1 h2 h h4 w
  ·exact lowest_mid n d n (.inr ⟨rfl, hn⟩) h1 h2 h h4 w
theorem new_any (n d : Int) (w : World) :
  Calls Tryz.prog 17 #[.int .i64 n, .int .i64 d] w fun e w' => e = .returned (frV (newR n d)) ∧ Bl w w' := by
 obtain ⟨W, X⟩ := oneZ_ex w
 have HX := hideP X
 clear X
 unfold newR
 cases hn : gvB n
 ·go_enter Tryz.func17, Tryz.ntmps17
  go_wp2_with fail
  rw [← HX.out.eq]
  refine (within_gv _ _).mono ?_
  rintro e w' ⟨rfl, rfl⟩
  go_wp2_with fail
  refine (wrongR_any _).mono ?_
  rintro e w1 ⟨rfl, h1⟩
  obtain ⟨c0, c1, c2, f0, f1, f2, lt⟩ := HX.out.bz.later h1
  go_wp2
  simp [bodyPost, results, Tryz.results17, go_sem, c0, c1, c2]
  exact Bl.set3 (HX.out.bl.trans h1) (by omega) _ _ _
 ·cases hd : gvB d
  ·go_enter Tryz.func17, Tryz.ntmps17
   go_wp2_with fail
   rw [← HX.out.eq]
   refine (within_gv _ _).mono ?_
   rintro e w' ⟨rfl, rfl⟩
   go_wp2_with fail
   refine (within_gv _ _).mono ?_
   rintro e w' ⟨rfl, rfl⟩
   go_wp2_with fail
   refine (wrongR_any _).mono ?_
   rintro e w1 ⟨rfl, h1⟩
   obtain ⟨c0, c1, c2, f0, f1, f2, lt⟩ := HX.out.bz.later h1
   go_wp2
   simp [bodyPost, results, Tryz.results17, go_sem, c0, c1, c2]
   exact Bl.set3 (HX.out.bl.trans h1) (by omega) _ _ _
  ·have L := hideP (lowest_any n d (by have := gvB_iff.1 hn; omega) (by have := gvB_iff.1 hn; omega) (by have := gvB_iff.1 hd; omega) (by have := gvB_iff.1 hd; omega))
   generalize lowR n d = r at *
   go_enter Tryz.func17, Tryz.ntmps17
   go_wp2_with fail
   rw [← HX.out.eq]
   refine (within_gv _ _).mono ?_
   rintro e w' ⟨rfl, rfl⟩
   go_wp2_with fail
   refine (within_gv _ _).mono ?_
   rintro e w' ⟨rfl, rfl⟩
   go_wp2_with fail
   refine (L.out _).mono ?_
   rintro e w1 ⟨rfl, h1⟩
   obtain ⟨c0, c1, c2, f0, f1, f2, lt⟩ := HX.out.bz.later h1
   go_wp2
   simp [bodyPost, results, Tryz.results17, go_sem, c0, c1, c2]
   exact Bl.set3 (HX.out.bl.trans h1) (by omega) _ _ _
structure Wl (V : World) where
 w : World
 bl : Bl V w
theorem wl_ne (V : World) : Nonempty (Wl V) := ⟨⟨V, Bl.refl V⟩⟩
theorem wl_region {P : Program} {id : Nat} {Q : Exit → Act → World → Prop} {a : Act} {w : World} {l : List Oper} (V : World) (hV : Bl V w) (hm : P.follows .mixedOrders = true) (hB : Region.lexB .any l.toArray = true)
  (h : wpQuiet P l.toArray (fun w' => ∃ z : Wl V, w' = z.w) (fun a' => ∀ w', (∃ z : Wl V, w' = z.w) → Q .normal a' w') l a) : (Code.region id l.toArray true).wp P Q a w :=
 wp_region_quiet (C := fun w' => ∃ z : Wl V, w' = z.w) hm hB ⟨⟨w.drew, hV.drew⟩, rfl⟩ (by simpa using h)
theorem wl_call {P : Program} {f : FuncId} {args : Array Value} {V : World} {z : Wl V} {v : Value} (h : Calls P f args z.w fun e w' => e = .returned v ∧ Bl z.w w') :
  Calls P f args z.w fun e w'' => e = .returned v ∧ ∃ z' : Wl V, w'' = z'.w :=
 h.mono fun _ w' ⟨he, hb⟩ => ⟨he, ⟨w', z.bl.trans hb⟩, rfl⟩
theorem enters {f : FuncId} {fn : Func} {c : Code} (hf : Tryz.prog.funcs[f]? = some fn) (hname : (fn.name == "runtime.NumGoroutine") = false) (hb : fn.body = some c) :
  ∀ (args : Array Value) (w : World), (callFunc f args).run Tryz.prog w = .ok (.enter f args) w := by
 intro args w
 have h1 : fn.name ≠ "runtime.NumGoroutine" := by simpa using hname
 simp [callFunc, hf, h1, hb, mark]
theorem FBox.wl {V : World} {b : Nat} {x : Fr} (h : FBox V b x) : (∀ z : Wl V, z.w.cell? ⟨b, 0, none⟩ = some (.int .i64 x.n)) ∧ (∀ z : Wl V, z.w.cell? ⟨b, 1, none⟩ = some (.int .i64 x.d)) ∧ (∀ z : Wl V, z.w.cell? ⟨b, 2, none⟩ = some (.bool x.bad)) :=
 ⟨fun z => (h.later z.bl).c0, fun z => (h.later z.bl).c1, fun z => (h.later z.bl).c2⟩
structure OneA (w W : World) (a : Fr) : Prop where
 eq : W = w.alloc (.cells #[.int .i64 a.n, .int .i64 a.d, .bool a.bad] 34)
 bl : Bl w W
 ba : FBox W w.heap.size a
 size : W.heap.size = w.heap.size + 1
theorem oneA_ex (w : World) (a : Fr) : ∃ W, OneA w W a := ⟨_, rfl, (Bl.refl _).alloc _, FBox.new w a _, by simp⟩
def eqR (a b : Fr) : Bool := a.n == b.n && (a.d == b.d && a.bad == b.bad)
theorem eqR_iff {a b : Fr} : eqR a b = true ↔ a = b := by
 unfold eqR
 rw [Bool.and_eq_true, Bool.and_eq_true, beq_iff_eq, beq_iff_eq, beq_iff_eq]
 constructor
 ·rintro ⟨h1, h2, h3⟩; exact Fr.ext' h1 h2 h3
 ·rintro rfl; exact ⟨rfl, rfl, rfl⟩
theorem Tryz.frFields : Tryz.prog.underlying 34 = some (.struct (Tryz.prog.fieldsOf 34)) := by kernel_rfl
theorem Tryz.frHeld : Tryz.prog.stoodInHeld 34 = false := by kernel_rfl
theorem Tryz.frGuard : Tryz.prog.eqGuardType Tryz.prog.depth 34 = false := by kernel_rfl
theorem Tryz.frList : (Tryz.prog.fieldsOf 34).toList.map (fun f => (f.name, f.type, f.offset)) = [("N", 3, 0), ("D", 3, 1), ("Bad", 4, 2)] := by kernel_rfl
theorem eqFields_map (d : Nat) (xs ys : Array Value) (fs gs : List Field) (h : fs.map (fun f => (f.name, f.type, f.offset)) = gs.map (fun f => (f.name, f.type, f.offset))) : Op.eqFields d xs ys fs = Op.eqFields d xs ys gs := by
 induction fs generalizing gs with
 | nil => cases gs with
  | nil => rfl
  | cons => simp at h
 | cons f fs ih => cases gs with
  | nil => simp at h
  | cons g gs =>
   simp only [List.map_cons, List.cons.injEq, Prod.mk.injEq] at h
   simp only [Op.eqFields]
   rw [h.1.1, h.1.2.1, h.1.2.2, ih gs h.2]
theorem eql_fr (a b : Fr) (w : World) : (binOp .eql 34 (frV a) (frV b)).run Tryz.prog w = .ok (.bool (eqR a b)) w := by
 rw [run_eql_struct, run_equalIn_agg _ _ _ _ _ Tryz.frFields Tryz.frHeld]
 rw [eqFields_map 9999 #[.int .i64 a.n, .int .i64 a.d, .bool a.bad] #[.int .i64 b.n, .int .i64 b.d, .bool b.bad] _ [{ name := "N", type := 3, offset := 0, embedded := false, tag := "", pkgPath := "", byteOffset := 0 }, { name := "D", type := 3, offset := 1, embedded := false, tag := "", pkgPath := "", byteOffset := 0 }, { name := "Bad", type := 4, offset := 2, embedded := false, tag := "", pkgPath := "", byteOffset := 0 }] Tryz.frList]
 cases h1 : (a.n == b.n) <;> cases h2 : (a.d == b.d) <;> cases h3 : (a.bad == b.bad) <;> simp [Op.eqFields, part, go_sem, eqR, h1, h2, h3]
theorem fineR_any (a : Fr) (w : World) :
  Calls Tryz.prog 186 #[frV a] w fun e w' => e = .returned (.bool (fineR a)) ∧ Bl w w' := by
 obtain ⟨W, X⟩ := oneA_ex w a
 have HX := hideP X
 clear X
 obtain ⟨n, d, bd⟩ := a
 have N := hideP (new_any n d)
 obtain ⟨a0, a1, a2⟩ := HX.out.ba.wl
 dsimp only at a0 a1 a2
 cases bd
 ·have FN := fine_new (a := ⟨n, d, false⟩) rfl
  have FN' : fineR ⟨n, d, false⟩ = eqR ⟨n, d, false⟩ (newR n d) := by rw [Bool.eq_iff_iff, FN, eqR_iff]
  rw [FN']
  clear FN FN'
  generalize newR n d = r at *
  have EG := Tryz.frGuard
  have EQ := eql_fr ⟨n, d, false⟩ r
  generalize eqR ⟨n, d, false⟩ r = b at *
  go_enter Tryz.func186, Tryz.ntmps186
  go_wp2_with fail
  rw [← HX.out.eq]
  have wne := wl_ne W
  refine wl_region W (Bl.refl _) (by kernel_rfl) (by kernel_rfl) ?_
  repeat (go_big_quiet_step (first | (go_at_call 17; exact wl_call (N.out _))))
  refine wpQuiet_nil ?_
  intro _ hw'
  obtain ⟨z, hw''⟩ := hw'
  subst hw''
  clear wne
  obtain ⟨w1, h1⟩ := z
  dsimp only
  clear a0 a1 a2
  go_wp2
  go_ret
  exact ⟨rfl, HX.out.bl.trans h1⟩
 ·go_enter Tryz.func186, Tryz.ntmps186
  go_wp2_with fail
  rw [← HX.out.eq]
  have wne := wl_ne W
  refine wl_region W (Bl.refl _) (by kernel_rfl) (by kernel_rfl) ?_
  repeat (go_big_quiet_step (first | (go_at_call 17; exact wl_call (N.out _))))
  refine wpQuiet_nil ?_
  intro _ hw'
  obtain ⟨z, hw''⟩ := hw'
  subst hw''
  clear wne
  obtain ⟨w1, h1⟩ := z
  dsimp only
  clear a0 a1 a2
  go_wp2
  go_ret
  exact ⟨rfl, HX.out.bl.trans h1⟩
structure ThreeR (w W : World) (a b : Fr) : Prop where
 eq : W = ((w.alloc (.cells #[.int .i64 a.n, .int .i64 a.d, .bool a.bad] 34)).alloc (.cells #[.int .i64 b.n, .int .i64 b.d, .bool b.bad] 34)).alloc (.cells #[.int .i64 0, .int .i64 0, .bool false] 34)
 bl : Bl w W
 ba : FBox W w.heap.size a
 bb : FBox W (w.heap.size + 1) b
 bz : FBox W (w.heap.size + 1 + 1) zeroR
 size : W.heap.size = w.heap.size + 1 + 1 + 1
theorem threeR_ex (w : World) (a b : Fr) : ∃ W, ThreeR w W a b := by
 refine ⟨_, rfl, (((Bl.refl _).alloc _).alloc _).alloc _, (FBox.new w a 34).later (((Bl.refl _).alloc _).alloc _), ?_, ?_, by simp⟩
 ·have := (FBox.new (w.alloc (.cells #[.int .i64 a.n, .int .i64 a.d, .bool a.bad] 34)) b 34).later ((Bl.refl _).alloc (.cells #[.int .i64 0, .int .i64 0, .bool false] 34))
  simpa using this
 ·have := FBox.new ((w.alloc (.cells #[.int .i64 a.n, .int .i64 a.d, .bool a.bad] 34)).alloc (.cells #[.int .i64 b.n, .int .i64 b.d, .bool b.bad] 34)) zeroR 34
  simpa [zeroR] using this
theorem toldR_any (K : Nat) (caps : Array Value) (p q : Int) (a b : Fr) (w : World)
  (eg : ∀ (args : Array Value) (w : World), (callFunc K args).run Tryz.prog w = .ok (.enter K args) w)
  (hf : fineR a = true → fineR b = true → ∀ w', Bl w w' → Calls Tryz.prog K caps w' fun e w'' => e = .returned (.tuple #[.int .i64 p, .int .i64 q]) ∧ Bl w' w'')
  (hb : fineR a = true → fineR b = true → -4611686018427387904 ≤ p ∧ p ≤ 4611686018427387904 ∧ -4611686018427387904 ≤ q ∧ q ≤ 4611686018427387904) :
  Calls Tryz.prog 193 #[frV a, frV b, .func (.func K) #[] caps] w fun e w' => e = .returned (frV (if fineR a && fineR b then lowR p q else wrongR)) ∧ Bl w w' := by
 obtain ⟨W, X⟩ := threeR_ex w a b
 have HX := hideP X
 clear X
 have FA := hideP (fineR_any a)
 have FB := hideP (fineR_any b)
 cases ha : fineR a
 ·rw [ha] at FA
  clear hf hb
  go_enter Tryz.func193, Tryz.ntmps193
  go_wp2_with fail
  rw [← HX.out.eq]
  refine (FA.out _).mono ?_
  rintro e w1 ⟨rfl, h1⟩
  go_wp2_with fail
  refine (wrongR_any _).mono ?_
  rintro e w2 ⟨rfl, h2⟩
  obtain ⟨c0, c1, c2, f0, f1, f2, lt⟩ := HX.out.bz.later (h1.trans h2)
  go_wp2
  simp [bodyPost, results, Tryz.results193, go_sem, c0, c1, c2]
  exact Bl.set3 (HX.out.bl.trans (h1.trans h2)) (by omega) _ _ _
 ·rw [ha] at FA
  cases hbb : fineR b
  ·rw [hbb] at FB
   clear hf hb
   go_enter Tryz.func193, Tryz.ntmps193
   go_wp2_with fail
   rw [← HX.out.eq]
   refine (FA.out _).mono ?_
   rintro e w1 ⟨rfl, h1⟩
   obtain ⟨b0, b1, b2, _, _, _, _⟩ := HX.out.bb.later h1
   go_wp2_with fail
   refine (FB.out _).mono ?_
   rintro e w2 ⟨rfl, h2⟩
   go_wp2_with fail
   refine (wrongR_any _).mono ?_
   rintro e w3 ⟨rfl, h3⟩
   clear b0 b1 b2
   obtain ⟨c0, c1, c2, f0, f1, f2, lt⟩ := HX.out.bz.later ((h1.trans h2).trans h3)
   go_wp2
   simp [bodyPost, results, Tryz.results193, go_sem, c0, c1, c2]
   exact Bl.set3 (HX.out.bl.trans ((h1.trans h2).trans h3)) (by omega) _ _ _
  ·rw [hbb] at FB
   have HF := hideP (hf ha hbb)
   have HL := hideP (lowest_any p q (hb ha hbb).1 (hb ha hbb).2.1 (hb ha hbb).2.2.1 (hb ha hbb).2.2.2)
   clear hf hb
   generalize lowR p q = r at *
   go_enter Tryz.func193, Tryz.ntmps193
   go_wp2_with fail
   rw [← HX.out.eq]
   refine (FA.out _).mono ?_
   rintro e w1 ⟨rfl, h1⟩
   obtain ⟨b0, b1, b2, _, _, _, _⟩ := HX.out.bb.later h1
   go_wp2_with fail
   refine (FB.out _).mono ?_
   rintro e w2 ⟨rfl, h2⟩
   go_wp2_with fail
   refine (HF.out _ (HX.out.bl.trans (h1.trans h2))).mono ?_
   rintro e w3 ⟨rfl, h3⟩
   go_wp2_with fail
   refine (HL.out _).mono ?_
   rintro e w4 ⟨rfl, h4⟩
   clear b0 b1 b2
   obtain ⟨c0, c1, c2, f0, f1, f2, lt⟩ := HX.out.bz.later (((h1.trans h2).trans h3).trans h4)
   go_wp2
   simp [bodyPost, results, Tryz.results193, go_sem, c0, c1, c2]
   exact Bl.set3 (HX.out.bl.trans (((h1.trans h2).trans h3).trans h4)) (by omega) _ _ _
theorem mul_part {x y : Int} (hx : -1073741824 ≤ x ∧ x ≤ 1073741824) (hy : -1073741824 ≤ y ∧ y ≤ 1073741824) : -1152921504606846976 ≤ x * y ∧ x * y ≤ 1152921504606846976 := by
 have h : (x * y).natAbs ≤ 1073741824 * 1073741824 := by
  rw [Int.natAbs_mul]; exact Nat.mul_le_mul (by omega) (by omega)
 omega
theorem fine_n {a : Fr} (h : fineR a = true) : -1073741824 ≤ a.n ∧ a.n ≤ 1073741824 := by have := fineR_iff.1 h; omega
theorem fine_dd {a : Fr} (h : fineR a = true) : -1073741824 ≤ a.d ∧ a.d ≤ 1073741824 := by have := fineR_iff.1 h; omega
theorem wrap_part {x y : Int} (h : -1152921504606846976 ≤ x * y ∧ x * y ≤ 1152921504606846976) : wrap64 (x * y) = x * y := IntWalk.wrap64_in _ (by omega)
theorem addP_any (a b : Fr) (p q : Nat) (w : World) (ha : fineR a = true) (hb : fineR b = true) (xa : FBox w p a) (xb : FBox w q b) :
  Calls Tryz.prog 194 #[.pointer (some ⟨p, 0, none⟩), .pointer (some ⟨q, 0, none⟩)] w fun e w' => e = .returned (.tuple #[.int .i64 (a.n * b.d + b.n * a.d), .int .i64 (a.d * b.d)]) ∧ Bl w w' := by
 have m1 := mul_part (fine_n ha) (fine_dd hb)
 have m2 := mul_part (fine_n hb) (fine_dd ha)
 have m3 := mul_part (fine_dd ha) (fine_dd hb)
 have e1 := wrap_part m1
 have e2 := wrap_part m2
 have e3 := wrap_part m3
 have e4 : wrap64 (a.n * b.d + b.n * a.d) = a.n * b.d + b.n * a.d := IntWalk.wrap64_in _ (by omega)
 clear m1 m2 m3 ha hb
 obtain ⟨a0, a1, a2, _, _, _, _⟩ := xa
 obtain ⟨b0, b1, b2, _, _, _, _⟩ := xb
 go_enter Tryz.func194, Tryz.ntmps194
 go_wp2
 go_quiet (fail)
 go_wp2
 go_ret2
 refine ⟨?_, drewN_bl _ _⟩
 simp [e3, e4]
theorem subP_any (a b : Fr) (p q : Nat) (w : World) (ha : fineR a = true) (hb : fineR b = true) (xa : FBox w p a) (xb : FBox w q b) :
  Calls Tryz.prog 198 #[.pointer (some ⟨p, 0, none⟩), .pointer (some ⟨q, 0, none⟩)] w fun e w' => e = .returned (.tuple #[.int .i64 (a.n * b.d - b.n * a.d), .int .i64 (a.d * b.d)]) ∧ Bl w w' := by
 have m1 := mul_part (fine_n ha) (fine_dd hb)
 have m2 := mul_part (fine_n hb) (fine_dd ha)
 have m3 := mul_part (fine_dd ha) (fine_dd hb)
 have e1 := wrap_part m1
 have e2 := wrap_part m2
 have e3 := wrap_part m3
 have e4 : wrap64 (a.n * b.d - b.n * a.d) = a.n * b.d - b.n * a.d := IntWalk.wrap64_in _ (by omega)
 clear m1 m2 m3 ha hb
 obtain ⟨a0, a1, a2, _, _, _, _⟩ := xa
 obtain ⟨b0, b1, b2, _, _, _, _⟩ := xb
 go_enter Tryz.func198, Tryz.ntmps198
 go_wp2
 go_quiet (fail)
 go_wp2
 go_ret2
 refine ⟨?_, drewN_bl _ _⟩
 simp [e3, e4]
theorem mulP_any (a b : Fr) (p q : Nat) (w : World) (ha : fineR a = true) (hb : fineR b = true) (xa : FBox w p a) (xb : FBox w q b) :
  Calls Tryz.prog 196 #[.pointer (some ⟨p, 0, none⟩), .pointer (some ⟨q, 0, none⟩)] w fun e w' => e = .returned (.tuple #[.int .i64 (a.n * b.n), .int .i64 (a.d * b.d)]) ∧ Bl w w' := by
 have m1 := mul_part (fine_n ha) (fine_n hb)
 have m3 := mul_part (fine_dd ha) (fine_dd hb)
 have e1 := wrap_part m1
 have e3 := wrap_part m3
 clear m1 m3 ha hb
 obtain ⟨a0, a1, a2, _, _, _, _⟩ := xa
 obtain ⟨b0, b1, b2, _, _, _, _⟩ := xb
 go_enter Tryz.func196, Tryz.ntmps196
 go_wp2
 go_quiet (fail)
 go_wp2
 go_ret2
 refine ⟨?_, drewN_bl _ _⟩
 simp [e1, e3]
theorem divP_any (a b : Fr) (p q : Nat) (w : World) (ha : fineR a = true) (hb : fineR b = true) (xa : FBox w p a) (xb : FBox w q b) :
  Calls Tryz.prog 195 #[.pointer (some ⟨p, 0, none⟩), .pointer (some ⟨q, 0, none⟩)] w fun e w' => e = .returned (.tuple #[.int .i64 (a.n * b.d), .int .i64 (a.d * b.n)]) ∧ Bl w w' := by
 have m1 := mul_part (fine_n ha) (fine_dd hb)
 have m3 := mul_part (fine_dd ha) (fine_n hb)
 have e1 := wrap_part m1
 have e3 := wrap_part m3
 clear m1 m3 ha hb
 obtain ⟨a0, a1, a2, _, _, _, _⟩ := xa
 obtain ⟨b0, b1, b2, _, _, _, _⟩ := xb
 go_enter Tryz.func195, Tryz.ntmps195
 go_wp2
 go_quiet (fail)
 go_wp2
 go_ret2
 refine ⟨?_, drewN_bl _ _⟩
 simp [e1, e3]
theorem addX_eq (a b : Fr) : (if fineR a && fineR b then lowR (a.n * b.d + b.n * a.d) (a.d * b.d) else wrongR) = addR a b := by
 unfold addR
 cases ha : fineR a
 ·rfl
 ·cases hb : fineR b
  ·rfl
  ·simp only [Bool.and_self, if_true]; exact low_add ha hb
theorem addX_any (a b : Fr) (p q : Nat) (w : World) (xa : FBox w p a) (xb : FBox w q b) :
  Calls Tryz.prog 193 #[frV a, frV b, .func (.func 194) #[] #[.pointer (some ⟨p, 0, none⟩), .pointer (some ⟨q, 0, none⟩)]] w fun e w' => e = .returned (frV (addR a b)) ∧ Bl w w' := by
 rw [← addX_eq]
 exact toldR_any _ _ (a.n * b.d + b.n * a.d) (a.d * b.d) a b w (enters Tryz.func194 (by kernel_rfl) rfl)
  (fun ha hb w' h => addP_any a b p q w' ha hb (xa.later h) (xb.later h)) (fun ha hb => by have m1 := mul_part (fine_n ha) (fine_dd hb); have m2 := mul_part (fine_n hb) (fine_dd ha); have m3 := mul_part (fine_dd ha) (fine_dd hb); omega)
theorem radd_any (a b : Fr) (w : World) :
  Calls Tryz.prog 184 #[frV a, frV b] w fun e w' => e = .returned (frV (addR a b)) ∧ Bl w w' := by
 obtain ⟨W, X⟩ := threeR_ex w a b
 have T := hideP (addX_any a b w.heap.size (w.heap.size + 1) W X.ba X.bb)
 have HX := hideP X
 clear X
 generalize addR a b = r at *
 go_enter Tryz.func184, Tryz.ntmps184
 go_wp2_with fail
 rw [← HX.out.eq]
 refine (T.out).mono ?_
 rintro e w1 ⟨rfl, h1⟩
 obtain ⟨c0, c1, c2, f0, f1, f2, lt⟩ := HX.out.bz.later h1
 go_wp2
 simp [bodyPost, results, Tryz.results184, go_sem, c0, c1, c2]
 exact Bl.set3 (HX.out.bl.trans h1) (by omega) _ _ _
theorem subX_eq (a b : Fr) : (if fineR a && fineR b then lowR (a.n * b.d - b.n * a.d) (a.d * b.d) else wrongR) = subR a b := by
 unfold subR
 cases ha : fineR a
 ·rfl
 ·cases hb : fineR b
  ·rfl
  ·simp only [Bool.and_self, if_true]; exact low_sub ha hb
theorem subX_any (a b : Fr) (p q : Nat) (w : World) (xa : FBox w p a) (xb : FBox w q b) :
  Calls Tryz.prog 193 #[frV a, frV b, .func (.func 198) #[] #[.pointer (some ⟨p, 0, none⟩), .pointer (some ⟨q, 0, none⟩)]] w fun e w' => e = .returned (frV (subR a b)) ∧ Bl w w' := by
 rw [← subX_eq]
 exact toldR_any _ _ (a.n * b.d - b.n * a.d) (a.d * b.d) a b w (enters Tryz.func198 (by kernel_rfl) rfl)
  (fun ha hb w' h => subP_any a b p q w' ha hb (xa.later h) (xb.later h)) (fun ha hb => by have m1 := mul_part (fine_n ha) (fine_dd hb); have m2 := mul_part (fine_n hb) (fine_dd ha); have m3 := mul_part (fine_dd ha) (fine_dd hb); omega)
theorem rsub_any (a b : Fr) (w : World) :
  Calls Tryz.prog 192 #[frV a, frV b] w fun e w' => e = .returned (frV (subR a b)) ∧ Bl w w' := by
 obtain ⟨W, X⟩ := threeR_ex w a b
 have T := hideP (subX_any a b w.heap.size (w.heap.size + 1) W X.ba X.bb)
 have HX := hideP X
 clear X
 generalize subR a b = r at *
 go_enter Tryz.func192, Tryz.ntmps192
 go_wp2_with fail
 rw [← HX.out.eq]
 refine (T.out).mono ?_
 rintro e w1 ⟨rfl, h1⟩
 obtain ⟨c0, c1, c2, f0, f1, f2, lt⟩ := HX.out.bz.later h1
 go_wp2
 simp [bodyPost, results, Tryz.results192, go_sem, c0, c1, c2]
 exact Bl.set3 (HX.out.bl.trans h1) (by omega) _ _ _
theorem mulX_eq (a b : Fr) : (if fineR a && fineR b then lowR (a.n * b.n) (a.d * b.d) else wrongR) = mulR a b := by
 unfold mulR
 cases ha : fineR a
 ·rfl
 ·cases hb : fineR b
  ·rfl
  ·simp only [Bool.and_self, if_true]; exact low_mul ha hb
theorem mulX_any (a b : Fr) (p q : Nat) (w : World) (xa : FBox w p a) (xb : FBox w q b) :
  Calls Tryz.prog 193 #[frV a, frV b, .func (.func 196) #[] #[.pointer (some ⟨p, 0, none⟩), .pointer (some ⟨q, 0, none⟩)]] w fun e w' => e = .returned (frV (mulR a b)) ∧ Bl w w' := by
 rw [← mulX_eq]
 exact toldR_any _ _ (a.n * b.n) (a.d * b.d) a b w (enters Tryz.func196 (by kernel_rfl) rfl)
  (fun ha hb w' h => mulP_any a b p q w' ha hb (xa.later h) (xb.later h)) (fun ha hb => by have m1 := mul_part (fine_n ha) (fine_n hb); have m3 := mul_part (fine_dd ha) (fine_dd hb); omega)
theorem rmul_any (a b : Fr) (w : World) :
  Calls Tryz.prog 187 #[frV a, frV b] w fun e w' => e = .returned (frV (mulR a b)) ∧ Bl w w' := by
 obtain ⟨W, X⟩ := threeR_ex w a b
 have T := hideP (mulX_any a b w.heap.size (w.heap.size + 1) W X.ba X.bb)
 have HX := hideP X
 clear X
 generalize mulR a b = r at *
 go_enter Tryz.func187, Tryz.ntmps187
 go_wp2_with fail
 rw [← HX.out.eq]
 refine (T.out).mono ?_
 rintro e w1 ⟨rfl, h1⟩
 obtain ⟨c0, c1, c2, f0, f1, f2, lt⟩ := HX.out.bz.later h1
 go_wp2
 simp [bodyPost, results, Tryz.results187, go_sem, c0, c1, c2]
 exact Bl.set3 (HX.out.bl.trans h1) (by omega) _ _ _
theorem divX_eq (a b : Fr) : (if fineR a && fineR b then lowR (a.n * b.d) (a.d * b.n) else wrongR) = divR a b := by
 unfold divR
 cases ha : fineR a
 ·rfl
 ·cases hb : fineR b
  ·rfl
  ·simp only [Bool.and_self, if_true, Bool.true_and]
   by_cases h0 : b.n = 0
   ·rw [if_neg (by simpa using h0)]; exact low_div0 h0
   ·rw [if_pos (by simpa using h0)]; exact low_div ha hb h0
theorem divX_any (a b : Fr) (p q : Nat) (w : World) (xa : FBox w p a) (xb : FBox w q b) :
  Calls Tryz.prog 193 #[frV a, frV b, .func (.func 195) #[] #[.pointer (some ⟨p, 0, none⟩), .pointer (some ⟨q, 0, none⟩)]] w fun e w' => e = .returned (frV (divR a b)) ∧ Bl w w' := by
 rw [← divX_eq]
 exact toldR_any _ _ (a.n * b.d) (a.d * b.n) a b w (enters Tryz.func195 (by kernel_rfl) rfl)
  (fun ha hb w' h => divP_any a b p q w' ha hb (xa.later h) (xb.later h)) (fun ha hb => by have m1 := mul_part (fine_n ha) (fine_dd hb); have m3 := mul_part (fine_dd ha) (fine_n hb); omega)
theorem rdiv_any (a b : Fr) (w : World) :
  Calls Tryz.prog 185 #[frV a, frV b] w fun e w' => e = .returned (frV (divR a b)) ∧ Bl w w' := by
 obtain ⟨W, X⟩ := threeR_ex w a b
 have T := hideP (divX_any a b w.heap.size (w.heap.size + 1) W X.ba X.bb)
 have HX := hideP X
 clear X
 generalize divR a b = r at *
 go_enter Tryz.func185, Tryz.ntmps185
 go_wp2_with fail
 rw [← HX.out.eq]
 refine (T.out).mono ?_
 rintro e w1 ⟨rfl, h1⟩
 obtain ⟨c0, c1, c2, f0, f1, f2, lt⟩ := HX.out.bz.later h1
 go_wp2
 simp [bodyPost, results, Tryz.results185, go_sem, c0, c1, c2]
 exact Bl.set3 (HX.out.bl.trans h1) (by omega) _ _ _
structure TwoR (w W : World) (a : Fr) : Prop where
 eq : W = (w.alloc (.cells #[.int .i64 a.n, .int .i64 a.d, .bool a.bad] 34)).alloc (.cells #[.int .i64 0, .int .i64 0, .bool false] 34)
 bl : Bl w W
 ba : FBox W w.heap.size a
 bz : FBox W (w.heap.size + 1) zeroR
 size : W.heap.size = w.heap.size + 1 + 1
theorem twoR_ex (w : World) (a : Fr) : ∃ W, TwoR w W a := by
 refine ⟨_, rfl, ((Bl.refl _).alloc _).alloc _, (FBox.new w a 34).later ((Bl.refl _).alloc _), ?_, by simp⟩
 have := FBox.new (w.alloc (.cells #[.int .i64 a.n, .int .i64 a.d, .bool a.bad] 34)) zeroR 34
 simpa [zeroR] using this
theorem rof_any (a : Fr) (n : Int) (w : World) :
  Calls Tryz.prog 189 #[frV a, .int .i64 n] w fun e w' => e = .returned (frV (newR n 1)) ∧ Bl w w' := by
 obtain ⟨W, X⟩ := twoR_ex w a
 have HX := hideP X
 clear X
 have T := hideP (new_any n 1)
 generalize newR n 1 = r at *
 go_enter Tryz.func189, Tryz.ntmps189
 go_wp2_with fail
 rw [← HX.out.eq]
 refine (T.out _).mono ?_
 rintro e w1 ⟨rfl, h1⟩
 obtain ⟨c0, c1, c2, f0, f1, f2, lt⟩ := HX.out.bz.later h1
 go_wp2
 simp [bodyPost, results, Tryz.results189, go_sem, c0, c1, c2]
 exact Bl.set3 (HX.out.bl.trans h1) (by omega) _ _ _
def zR : Fr := ⟨0, 1, false⟩
def negR (a : Fr) : Fr := subR zR a
theorem half16 (r D : Int) (i : Nat) (hi : i < 16) (hD : D = 2 ^ (15 - i)) (hr0 : 0 ≤ r) (hrm : r % 2 ^ (16 - i) = 0) (hr3 : r + 2 ^ (16 - i) ≤ 65536) :
  (2 : Int) ^ (16 - i) = D + D ∧ 1 ≤ D ∧ r % D = 0 ∧ (r + D) % D = 0 ∧ bits .or .i64 r (wrap64 (2 ^ (15 - i))) = r + D := by
 have e : (2 : Int) ^ (16 - i) = D + D := by
  rw [show 16 - i = (15 - i) + 1 from by omega, Int.pow_succ, ← hD]; omega
 have hp : (0 : Int) < D := by rw [hD]; exact Int.pow_pos (by decide)
 have hd : D ∣ r := by
  have h1 : (D + D) ∣ r := by rw [← e]; exact Int.dvd_of_emod_eq_zero hrm
  obtain ⟨c, hc⟩ := h1
  exact ⟨2 * c, by rw [hc, Int.add_mul, ← Int.mul_assoc, Int.mul_comm D 2]; rw [Int.mul_assoc]; omega⟩
 refine ⟨e, by omega, Int.emod_eq_zero_of_dvd hd, ?_, ?_⟩
 ·exact Int.emod_eq_zero_of_dvd (Int.dvd_add hd (Int.dvd_refl D))
 ·rw [e] at hr3
  rw [← hD]
  have hw : wrap64 D = D := IntWalk.wrap64_in _ (by omega)
  rw [hw]
  have e63 : (2 : Int) ^ 62 = 4611686018427387904 := by decide
  refine bits_join .i64 62 (by decide) (fun n h h' => ?_) (16 - i) r D hr0 hrm (by omega) (by omega) (by omega) (by omega)
  rw [e63] at h'
  rw [IntWalk.i64_left]
  have := IntWalk.wrap64_in n (by omega)
  exact this
theorem pow16 : ∀ j : Nat, j ≤ 16 → (2 : Int) ^ j ≤ 65536 := by decide
theorem floorNeg_any (n : Int) (h : n < 0) (w : World) :
  Calls Tryz.prog 197 #[.int .i64 n] w fun e w' => e = .returned (.int .i64 0) ∧ w' = w := by
 go_enter Tryz.func197, Tryz.ntmps197
 go_wp2
 go_loop [3, 6] (fun r i => ∃ k : Nat, k ≤ 16 ∧ r = .int .i64 0 ∧ i = .int .i64 k) (fun _ i => 16 - (intOf i).toNat)
 case atStart => exact ⟨0, by omega, rfl, rfl⟩
 case round =>
  obtain ⟨k, hk, rfl, rfl⟩ := hrel
  by_cases hlt : k < 16
  ·obtain ⟨D, hD⟩ : ∃ D : Int, D = 2 ^ (15 - k) := ⟨_, rfl⟩
   have hle : (2 : Int) ^ (16 - k) ≤ 65536 := pow16 _ (by omega)
   obtain ⟨eD, D1, m1, m2, hor⟩ := half16 0 D k hlt hD (by omega) (by simp) (by omega)
   have hor' : bits .or .i64 0 (wrap64 (2 ^ (15 - k))) = D := by rw [hor]; omega
   have hDle : D ≤ 65536 := by omega
   have hsq : 0 ≤ D * D ∧ D * D ≤ 65536 * 65536 := ⟨Int.mul_nonneg (by omega) (by omega), Int.mul_le_mul hDle hDle (by omega) (by decide)⟩
   have hwr : wrap64 (D * D) = D * D := IntWalk.wrap64_in _ (by omega)
   have hno : ¬ D * D ≤ n := by omega
   clear hor m1 m2 eD hle hsq hD D1 hDle
   go_wp2
   go_round
   case rel => exact ⟨k + 1, by omega, rfl, by go_num⟩
   case measure => simp [intOf]; omega
  ·obtain rfl : k = 16 := by omega
   go_wp2
   go_ret
   exact ⟨rfl, rfl⟩
theorem floorR_any (n : Int) (h0 : 0 ≤ n) (h1 : n ≤ 1073741824) (w : World) :
  Calls Tryz.prog 197 #[.int .i64 n] w fun e w' => e = .returned (.int .i64 (rtF n)) ∧ w' = w := by
 go_enter Tryz.func197, Tryz.ntmps197
 go_wp2
 go_loop [3, 6] (fun a b => ∃ (r : Int) (i : Nat), a = .int .i64 r ∧ b = .int .i64 i ∧ i ≤ 16 ∧ 0 ≤ r ∧ r % 2 ^ (16 - i) = 0 ∧ r * r ≤ n ∧ n < (r + 2 ^ (16 - i)) * (r + 2 ^ (16 - i)) ∧ r + 2 ^ (16 - i) ≤ 65536) (fun _ i => 16 - (intOf i).toNat)
 case atStart =>
  have e16 : (2 : Int) ^ 16 = 65536 := by decide
  refine ⟨0, 0, rfl, rfl, by omega, by omega, by simp, by simpa using h0, ?_, ?_⟩
  ·rw [show 16 - 0 = 16 from rfl, e16]; omega
  ·rw [show 16 - 0 = 16 from rfl, e16]; omega
 case round =>
  obtain ⟨r, i, rfl, rfl, hi, hr0, hrm, hr1, hr2, hr3⟩ := hrel
  by_cases hlt : i < 16
  ·obtain ⟨D, hD⟩ : ∃ D : Int, D = 2 ^ (15 - i) := ⟨_, rfl⟩
   obtain ⟨eD, D1, m1, m2, hor⟩ := half16 r D i hlt hD hr0 hrm hr3
   rw [eD] at hr2 hr3
   have HD := hideP hD
   have HN := hideP (show 16 - (i + 1) = 15 - i by omega)
   have Hm1 := hideP m1
   have Hm2 := hideP m2
   have Hr2 := hideP hr2
   have Hr1 := hideP hr1
   have hsq : 0 ≤ (r + D) * (r + D) ∧ (r + D) * (r + D) ≤ 65536 * 65536 := ⟨Int.mul_nonneg (by omega) (by omega), Int.mul_le_mul (by omega) (by omega) (by omega) (by decide)⟩
   have hwr : wrap64 ((r + D) * (r + D)) = (r + D) * (r + D) := IntWalk.wrap64_in _ (by omega)
   clear hD hrm eD m1 m2 hr2 hsq hr1
   by_cases hc : (r + D) * (r + D) ≤ n
   ·generalize hmr : r + D = m at *
    have HMR := hideP hmr
    clear hmr
    go_wp2
    go_round
    case rel =>
     refine ⟨m, i + 1, rfl, by go_num, by omega, by have := HMR.out; omega, ?_, hc, ?_, ?_⟩
     ·rw [HN.out, ← HD.out]; exact Hm2.out
     ·rw [HN.out, ← HD.out, show m + D = r + (D + D) from by have := HMR.out; omega]; exact Hr2.out
     ·rw [HN.out, ← HD.out]; have := HMR.out; omega
    case measure => simp [intOf]; omega
   ·generalize hmr : r + D = m at *
    have HMR := hideP hmr
    clear hmr
    go_wp2
    go_round
    case rel =>
     refine ⟨r, i + 1, rfl, by go_num, by omega, hr0, ?_, Hr1.out, ?_, ?_⟩
     ·rw [HN.out, ← HD.out]; exact Hm1.out
     ·rw [HN.out, ← HD.out, HMR.out]; omega
     ·rw [HN.out, ← HD.out]; omega
    case measure => simp [intOf]; omega
  ·obtain rfl : i = 16 := by omega
   have H := root_one n r hr0 hr1 (by simpa using hr2)
   clear hrm hr1 hr2 hr3
   subst H
   go_wp2
   go_ret
   exact ⟨rfl, rfl⟩
def flR (n : Int) : Int := if n < 0 then 0 else rtF n
theorem flR_any (n : Int) (h1 : n ≤ 1073741824) (w : World) :
  Calls Tryz.prog 197 #[.int .i64 n] w fun e w' => e = .returned (.int .i64 (flR n)) ∧ w' = w := by
 unfold flR
 by_cases h : n < 0
 ·rw [if_pos h]; exact floorNeg_any n h w
 ·rw [if_neg h]; exact floorR_any n (by omega) h1 w
theorem neq_fr (a b : Fr) (w : World) : (binOp .neq 34 (frV a) (frV b)).run Tryz.prog w = .ok (.bool (!eqR a b)) w := by
 rw [run_neq_struct, run_equalIn_agg _ _ _ _ _ Tryz.frFields Tryz.frHeld]
 rw [eqFields_map 9999 #[.int .i64 a.n, .int .i64 a.d, .bool a.bad] #[.int .i64 b.n, .int .i64 b.d, .bool b.bad] _ [{ name := "N", type := 3, offset := 0, embedded := false, tag := "", pkgPath := "", byteOffset := 0 }, { name := "D", type := 3, offset := 1, embedded := false, tag := "", pkgPath := "", byteOffset := 0 }, { name := "Bad", type := 4, offset := 2, embedded := false, tag := "", pkgPath := "", byteOffset := 0 }] Tryz.frList]
 cases h1 : (a.n == b.n) <;> cases h2 : (a.d == b.d) <;> cases h3 : (a.bad == b.bad) <;> simp [Op.eqFields, part, go_sem, eqR, h1, h2, h3]
def tryR (a : Fr) : Fr := ⟨flR a.n, flR a.d, false⟩
def rootR (a : Fr) : Fr := if fineR a then (if eqR (mulR (tryR a) (tryR a)) a then tryR a else wrongR) else wrongR
set_option maxRecDepth 100000 in
set_option maxHeartbeats 1000000 in
theorem rroot_any (a : Fr) (w : World) :
  Calls Tryz.prog 190 #[frV a] w fun e w' => e = .returned (frV (rootR a)) ∧ Bl w w' := by
 obtain ⟨W, X⟩ := twoR_ex w a
 have HX := hideP X
 clear X
 have T := hideP (fineR_any a)
 unfold rootR
 cases hf : fineR a
 ·rw [hf] at T
  go_enter Tryz.func190, Tryz.ntmps190
  go_wp2_with fail
  rw [← HX.out.eq]
  refine (T.out _).mono ?_
  rintro e w1 ⟨rfl, h1⟩
  go_wp2_with fail
  refine (wrongR_any _).mono ?_
  rintro e w2 ⟨rfl, h2⟩
  obtain ⟨c0, c1, c2, f0, f1, f2, lt⟩ := HX.out.bz.later (h1.trans h2)
  go_wp2
  simp [bodyPost, results, Tryz.results190, go_sem, c0, c1, c2]
  exact Bl.set3 (HX.out.bl.trans (h1.trans h2)) (by omega) _ _ _
 ·rw [hf] at T
  have R1 := hideP (flR_any a.n (fine_n hf).2)
  have R2 := hideP (flR_any a.d (fine_dd hf).2)
  have M := hideP (rmul_any (tryR a) (tryR a))
  have NQ := neq_fr (mulR (tryR a) (tryR a)) a
  have EG := Tryz.frGuard
  generalize mulR (tryR a) (tryR a) = m at *
  obtain ⟨x, hx⟩ : ∃ x, flR a.n = x := ⟨_, rfl⟩
  obtain ⟨y, hy⟩ : ∃ y, flR a.d = y := ⟨_, rfl⟩
  have hr : tryR a = ⟨x, y, false⟩ := by unfold tryR; rw [hx, hy]
  rw [hr] at M ⊢
  rw [hx] at R1
  rw [hy] at R2
  clear hx hy hr
  go_enter Tryz.func190, Tryz.ntmps190
  go_wp2_with fail
  rw [← HX.out.eq]
  refine (T.out _).mono ?_
  rintro e w1 ⟨rfl, h1⟩
  have KP := hideP (fun w' (h : Bl w1 w') => HX.out.ba.later (h1.trans h))
  go_wp2_with fail
  go_region_held3 (fun w' => w'.cell? ⟨w.heap.size, 0, none⟩ = some (.int .i64 a.n) ∧ w'.cell? ⟨w.heap.size, 1, none⟩ = some (.int .i64 a.d)) (exact ⟨(KP.out _ (by repeat (first | exact Bl.refl _ | apply Bl.drew | apply Bl.alloc))).c0, (KP.out _ (by repeat (first | exact Bl.refl _ | apply Bl.drew | apply Bl.alloc))).c1⟩)
   (first
    | (go_at_call_of 197 #[Value.int .i64 a.n]; refine (R1.out _).mono ?_; rintro e w' ⟨rfl, rfl⟩)
    | (go_at_call_of 197 #[Value.int .i64 a.d]; refine (R2.out _).mono ?_; rintro e w' ⟨rfl, rfl⟩))
  all_goals
   obtain ⟨V, hV⟩ : ∃ V, V = (w1.alloc (Obj.cells #[Value.int .i64 x, Value.int .i64 y, Value.bool false] 34)).drew := ⟨_, rfl⟩
   have bV : Bl w1 V := by rw [hV]; exact ((Bl.refl _).alloc _).drew
   have xr : FBox V w1.heap.size ⟨x, y, false⟩ := by rw [hV]; exact (FBox.new w1 ⟨x, y, false⟩ 34).later ((Bl.refl _).drew)
   have xa := HX.out.ba.later (h1.trans bV)
   have xz := HX.out.bz.later (h1.trans bV)
   rw [← hV]
   have HB := hideP (HX.out.bl.trans (h1.trans bV))
   have XZ := hideP xz
   have XR := hideP xr
   obtain ⟨a0, a1, a2⟩ := xa.wl
   obtain ⟨r0, r1, r2⟩ := xr.wl
   clear hV bV xr xa xz KP
   dsimp only at r0 r1 r2
   go_wp2_with fail
   have wne := wl_ne V
   refine wl_region V (Bl.refl _) (by kernel_rfl) (by kernel_rfl) ?_
   repeat (go_big_quiet_step (first | (go_at_call 187; exact wl_call (M.out _))))
   refine wpQuiet_nil ?_
   intro _ hw'
   obtain ⟨z, hw''⟩ := hw'
   subst hw''
   clear wne
   obtain ⟨w2, h2⟩ := z
   dsimp only
   clear a0 a1 a2 r0 r1 r2
   cases he : eqR m a
   ·simp only [he, Bool.not_false]
    go_wp2_with fail
    refine (wrongR_any _).mono ?_
    rintro e w3 ⟨rfl, h3⟩
    obtain ⟨c0, c1, c2, f0, f1, f2, lt⟩ := XZ.out.later (h2.trans h3)
    go_wp2
    simp [bodyPost, results, Tryz.results190, go_sem, c0, c1, c2]
    exact Bl.set3 (HB.out.trans (h2.trans h3)) (by omega) _ _ _
   ·simp only [he, Bool.not_true]
    obtain ⟨r0, r1, r2, _, _, _, _⟩ := XR.out.later h2
    obtain ⟨c0, c1, c2, f0, f1, f2, lt⟩ := XZ.out.later h2
    dsimp only at r0 r1 r2
    go_wp2
    simp [bodyPost, results, Tryz.results190, go_sem, c0, c1, c2]
    exact Bl.set3 (HB.out.trans h2) (by omega) _ _ _
def Rw {α : Type} (s : Nat) (c : α → List Value) (w : World) (v : Value) (xs : List α) : Prop :=
 (v = .slice none 0 0 ∧ xs = []) ∨ ∃ b o cap, v = .slice (some ⟨b, o, none⟩) xs.length cap ∧ xs.length ≤ cap ∧ b < w.heap.size ∧
  ∀ j x, xs[j]? = some x → ∀ k u, (c x)[k]? = some u → w.cell? ⟨b, o + j * s + k, none⟩ = some u
theorem Rw.later {α : Type} {s : Nat} {c : α → List Value} {w w' : World} {v : Value} {xs : List α} (h : Rw s c w v xs) (k : Bl w w') : Rw s c w' v xs := by
 rcases h with h | ⟨b, o, cap, e, hc, hb, hx⟩
 ·exact .inl h
 ·exact .inr ⟨b, o, cap, e, hc, Nat.lt_of_lt_of_le hb (Below.size k), fun j x hj i u hu => (bl_cell k _ _ hb).trans (hx j x hj i u hu)⟩
theorem Rw.of_own {α : Type} {s : Nat} {c : α → List Value} (hs : ∀ x, (c x).length = s) {w : World} {B : Nat} {e : TypeId} {v : Value} {xs : List α}
  (h : w.ownsRow B e s v xs.length (xs.flatMap c)) : Rw s c w v xs := by
 have hlt := h.lt
 have hc : ∀ g, v.ownBlock = some g → ∀ j u, (xs.flatMap c)[j]? = some u → w.cell? ((⟨g, 0, none⟩ : Addr).add j) = some u := fun g hg => h.cells hg
 rcases h.2 with ⟨rfl, e0⟩ | ⟨g, cap, cur, rfl, hb, _, hn, hm, hz, ht⟩
 ·exact .inl ⟨rfl, List.eq_nil_of_length_eq_zero e0⟩
 ·refine .inr ⟨g, 0, cap, rfl, hn, (hlt g rfl).2, fun j x hj k u hu => ?_⟩
  have hf : (xs.flatMap c)[j * s + k]? = some u := by
   clear hlt hc ht hz hm hn hb h
   induction xs generalizing j with
   | nil => simp at hj
   | cons y ys ih =>
    rw [List.flatMap_cons]
    cases j with
    | zero =>
     simp at hj
     subst hj
     rw [Nat.zero_mul, Nat.zero_add, List.getElem?_append_left (by have := (List.getElem?_eq_some_iff.1 hu).1; omega)]
     exact hu
    | succ j =>
     rw [List.getElem?_append_right (by rw [hs, Nat.add_mul]; omega), hs]
     have := ih j (by simpa using hj)
     rw [show (j + 1) * s + k - s = j * s + k by rw [Nat.add_mul]; omega]
     exact this
  have := hc g rfl _ u hf
  have hadd : (⟨g, 0, none⟩ : Addr).add (j * s + k) = ⟨g, j * s + k, none⟩ := by unfold Addr.add; split <;> simp_all
  rw [hadd] at this
  simpa using this
theorem flat_at {α : Type} {s : Nat} {c : α → List Value} (hs : ∀ x, (c x).length = s) (xs : List α) (j : Nat) (u : Value) (h : (xs.flatMap c)[j]? = some u) : ∃ i x k, xs[i]? = some x ∧ (c x)[k]? = some u ∧ j = i * s + k := by
 induction xs generalizing j with
 | nil => simp at h
 | cons y ys ih =>
  rw [List.flatMap_cons] at h
  by_cases hj : j < s
  ·rw [List.getElem?_append_left (by rw [hs]; exact hj)] at h
   exact ⟨0, y, j, by simp, h, by simp⟩
  ·rw [List.getElem?_append_right (by rw [hs]; omega), hs] at h
   obtain ⟨i, x, k, h1, h2, h3⟩ := ih _ h
   exact ⟨i + 1, x, k, by simpa using h1, h2, by rw [Nat.add_mul]; omega⟩
theorem flat_len {α : Type} {s : Nat} {c : α → List Value} (hs : ∀ x, (c x).length = s) (xs : List α) : (xs.flatMap c).length = xs.length * s := by
 induction xs with
 | nil => simp
 | cons y ys ih => rw [List.flatMap_cons, List.length_append, ih, hs, List.length_cons, Nat.add_mul]; omega
theorem flat_cells {α : Type} {s : Nat} {c : α → List Value} (hs : ∀ x, (c x).length = s) {w : World} {b o : Nat} {xs : List α}
  (hx : ∀ j x, xs[j]? = some x → ∀ k u, (c x)[k]? = some u → w.cell? ⟨b, o + j * s + k, none⟩ = some u) : ∀ j u, (xs.flatMap c)[j]? = some u → w.cell? ((⟨b, o, none⟩ : Addr).add j) = some u := by
 intro j u hu
 obtain ⟨i, x, k, h1, h2, rfl⟩ := flat_at hs xs j u hu
 have hadd : (⟨b, o, none⟩ : Addr).add (i * s + k) = ⟨b, o + (i * s + k), none⟩ := by unfold Addr.add; split <;> simp_all
 rw [hadd, ← Nat.add_assoc]
 exact hx i x h1 k u h2
theorem Rw_cells_later {α : Type} {s : Nat} {c : α → List Value} {w w' : World} {b o : Nat} {xs : List α} (hx : ∀ j x, xs[j]? = some x → ∀ k u, (c x)[k]? = some u → w.cell? ⟨b, o + j * s + k, none⟩ = some u) (hb : b < w.heap.size) (k : Bl w w') :
  ∀ j x, xs[j]? = some x → ∀ k u, (c x)[k]? = some u → w'.cell? ⟨b, o + j * s + k, none⟩ = some u := fun j x hj i u hu => (bl_cell k _ _ hb).trans (hx j x hj i u hu)
def Fresh (n : Nat) (v : Value) : Prop := ∀ g, v.ownBlock = some g → n ≤ g
theorem Rw.set {α : Type} {s : Nat} {c : α → List Value} {w : World} {v : Value} {xs : List α} (h : Rw s c w v xs) {p : Addr} (u : Value) (hf : Fresh (p.block + 1) v) : Rw s c (w.setCell p u) v xs := by
 rcases h with h | ⟨b, o, cap, rfl, hc, hb, hx⟩
 ·exact .inl h
 ·have hne : p.block + 1 ≤ b := hf b rfl
  have hk : (w.setCell p u).heap[b]? = w.heap[b]? := Below.heap_setCell _ _ _ b (by omega)
  exact .inr ⟨b, o, cap, rfl, hc, by simpa using hb, fun j x hj k v hv => (World.cell?_of_block (a := ⟨b, o + j * s + k, none⟩) hk).trans (hx j x hj k v hv)⟩
theorem Rw.cut {α : Type} {s : Nat} {c : α → List Value} {w : World} {v : Value} {xs : List α} (h : Rw s c w v xs) :
  ∃ p cap, v = .slice p xs.length cap ∧ xs.length ≤ cap ∧ ∀ m, m ≤ xs.length → Rw s c w (.slice p m cap) (xs.take m) := by
 rcases h with ⟨rfl, rfl⟩ | ⟨b, o, cap, rfl, hc, hb, hx⟩
 ·exact ⟨none, 0, rfl, Nat.le_refl _, fun m hm => by
   have hm0 : m = 0 := by simpa using hm
   subst hm0
   exact .inl ⟨rfl, rfl⟩⟩
 ·refine ⟨some ⟨b, o, none⟩, cap, rfl, hc, fun m hm => .inr ⟨b, o, cap, by simp [hm], by simp; omega, hb, fun j x hj k u hu => hx j x ?_ k u hu⟩⟩
  rw [List.getElem?_take] at hj
  split at hj
  ·exact hj
  ·cases hj
structure TwoS (w W : World) (va vb : Value) (t : TypeId) : Prop where
 eq : W = (w.alloc (.cells #[va] t)).alloc (.cells #[vb] t)
 bl : Bl w W
 size : W.heap.size = w.heap.size + 1 + 1
 k : ∀ u, Bl W u → u.cell? ⟨w.heap.size, 0, none⟩ = some va ∧ u.cell? ⟨w.heap.size + 1, 0, none⟩ = some vb ∧ u.frozen? ⟨w.heap.size, 0, none⟩ = false ∧ u.frozen? ⟨w.heap.size + 1, 0, none⟩ = false
theorem twoS_ex (w : World) (va vb : Value) (t : TypeId) : ∃ W, TwoS w W va vb t := by
 refine ⟨_, rfl, ((Bl.refl _).alloc _).alloc _, by simp, fun u hu => ⟨?_, ?_, ?_, ?_⟩⟩
 ·rw [bl_cell hu _ _ (by simp; omega)]; simp [go_sem]
 ·rw [bl_cell hu _ _ (by simp)]; simp [go_sem]
 ·rw [bl_froz hu _ _ (by simp; omega)]; simp [go_sem]
 ·rw [bl_froz hu _ _ (by simp)]; simp [go_sem]
structure Span (lo hi : Nat) (w w' : World) : Prop where
 size : w.heap.size ≤ w'.heap.size
 block : ∀ k, lo ≤ k → k < hi → w'.heap[k]? = w.heap[k]?
theorem Span.refl (lo hi : Nat) (w : World) : Span lo hi w w := ⟨Nat.le_refl _, fun _ _ _ => rfl⟩
theorem Span.trans {lo hi : Nat} {a b c : World} (h : Span lo hi a b) (k : Span lo hi b c) : Span lo hi a c := ⟨Nat.le_trans h.size k.size, fun i h1 h2 => (k.block i h1 h2).trans (h.block i h1 h2)⟩
theorem Bl.span {lo hi : Nat} {w w' : World} (h : Bl w w') (hh : hi ≤ w.heap.size) : Span lo hi w w' := ⟨Below.size h, fun k _ h2 => Below.block h k (by omega)⟩
theorem Span.cell {lo hi : Nat} {w w' : World} (h : Span lo hi w w') (b o : Nat) (h1 : lo ≤ b) (h2 : b < hi) : w'.cell? ⟨b, o, none⟩ = w.cell? ⟨b, o, none⟩ := World.cell?_of_block (a := ⟨b, o, none⟩) (h.block b h1 h2)
def PairsIn {α : Type} (s : Nat) (c : α → List Value) (w : World) (lo hi A B : Nat) (xs ys : List α) : Prop :=
 ∃ u v, lo ≤ A ∧ A < hi ∧ lo ≤ B ∧ B < hi ∧ w.cell? ⟨A, 0, none⟩ = some u ∧ w.cell? ⟨B, 0, none⟩ = some v ∧ Rw s c w u xs ∧ Rw s c w v ys ∧ (∀ g, u.ownBlock = some g → lo ≤ g ∧ g < hi) ∧ (∀ g, v.ownBlock = some g → lo ≤ g ∧ g < hi) ∧ xs.length = ys.length
theorem Rw.span {α : Type} {s : Nat} {c : α → List Value} {w w' : World} {v : Value} {xs : List α} {lo hi : Nat} (h : Rw s c w v xs) (hf : ∀ g, v.ownBlock = some g → lo ≤ g ∧ g < hi) (k : Span lo hi w w') : Rw s c w' v xs := by
 rcases h with h | ⟨b, o, cap, rfl, hc, hb, hx⟩
 ·exact .inl h
 ·have hne := hf b rfl
  exact .inr ⟨b, o, cap, rfl, hc, Nat.lt_of_lt_of_le hb k.size, fun j x hj i v hv => (k.cell b _ hne.1 hne.2).trans (hx j x hj i v hv)⟩
theorem PairsIn.later {α : Type} {s : Nat} {c : α → List Value} {w w' : World} {lo hi A B : Nat} {xs ys : List α} (h : PairsIn s c w lo hi A B xs ys) (k : Span lo hi w w') : PairsIn s c w' lo hi A B xs ys := by
 obtain ⟨u, v, a1, a2, b1, b2, cu, cv, ru, rv, fu, fv, hl⟩ := h
 exact ⟨u, v, a1, a2, b1, b2, (k.cell _ _ a1 a2).trans cu, (k.cell _ _ b1 b2).trans cv, ru.span fu k, rv.span fv k, fu, fv, hl⟩
theorem Rw.lt {α : Type} {s : Nat} {c : α → List Value} {w : World} {v : Value} {xs : List α} (h : Rw s c w v xs) : ∀ g, v.ownBlock = some g → g < w.heap.size := by
 rcases h with ⟨rfl, rfl⟩ | ⟨b, o, cap, rfl, hc, hb, hx⟩
 ·nofun
 ·intro g hg; cases hg; exact hb
theorem flat_one {α : Type} {c : α → List Value} (h1 : ∀ x, ∀ u ∈ c x, u.oneCell' = true) (xs : List α) : ∀ u ∈ xs.flatMap c, u.oneCell' = true := by
 intro u hu
 obtain ⟨x, _, hx⟩ := List.mem_flatMap.1 hu
 exact h1 x u hx
def Rq {α : Type} (s : Nat) (c : α → List Value) (w : World) (v : Value) (xs : List α) : Prop :=
 (∃ p cap, v = .slice p 0 cap ∧ xs = [] ∧ (p = none → cap = 0)) ∨ ∃ b o cap, v = .slice (some ⟨b, o, none⟩) xs.length cap ∧ xs.length ≤ cap ∧ b < w.heap.size ∧
  ∀ j x, xs[j]? = some x → ∀ k u, (c x)[k]? = some u → w.cell? ⟨b, o + j * s + k, none⟩ = some u
theorem Rw.q {α : Type} {s : Nat} {c : α → List Value} {w : World} {v : Value} {xs : List α} (h : Rw s c w v xs) : Rq s c w v xs := by
 rcases h with ⟨rfl, rfl⟩ | h
 ·exact .inl ⟨none, 0, rfl, rfl, fun _ => rfl⟩
 ·exact .inr h
theorem Rq.later {α : Type} {s : Nat} {c : α → List Value} {w w' : World} {v : Value} {xs : List α} (h : Rq s c w v xs) (k : Bl w w') : Rq s c w' v xs := by
 rcases h with h | ⟨b, o, cap, e, hc, hb, hx⟩
 ·exact .inl h
 ·exact .inr ⟨b, o, cap, e, hc, Nat.lt_of_lt_of_le hb (Below.size k), fun j x hj i u hu => (bl_cell k _ _ hb).trans (hx j x hj i u hu)⟩
theorem Rq.cut {α : Type} {s : Nat} {c : α → List Value} {w : World} {v : Value} {xs : List α} (h : Rq s c w v xs) :
  ∃ p cap, v = .slice p xs.length cap ∧ xs.length ≤ cap ∧ ∀ m, m ≤ xs.length → Rq s c w (.slice p m cap) (xs.take m) := by
 rcases h with ⟨p, cap, rfl, rfl, hp⟩ | ⟨b, o, cap, rfl, hc, hb, hx⟩
 ·exact ⟨p, cap, rfl, Nat.zero_le _, fun m hm => by
   have hm0 : m = 0 := by simpa using hm
   subst hm0
   exact .inl ⟨p, cap, rfl, rfl, hp⟩⟩
 ·refine ⟨some ⟨b, o, none⟩, cap, rfl, hc, fun m hm => .inr ⟨b, o, cap, by simp [hm], by simp; omega, hb, fun j x hj k u hu => hx j x ?_ k u hu⟩⟩
  rw [List.getElem?_take] at hj
  split at hj
  ·exact hj
  ·cases hj
theorem Tryz.mOfF (x : Value) (w : World) : (method 327 34 x "Of").run Tryz.prog w = .ok (189, x) w := by kernel_rfl
theorem Tryz.mAddF (x : Value) (w : World) : (method 327 34 x "Add").run Tryz.prog w = .ok (184, x) w := by kernel_rfl
theorem Tryz.mSubF (x : Value) (w : World) : (method 327 34 x "Sub").run Tryz.prog w = .ok (192, x) w := by kernel_rfl
theorem Tryz.mMulF (x : Value) (w : World) : (method 327 34 x "Mul").run Tryz.prog w = .ok (187, x) w := by kernel_rfl
theorem Tryz.info_F : (Tryz.prog.info? 34).map (fun i => (i.zero, i.size, i.bytes)) = some (some (.agg #[.int .i64 0, .int .i64 0, .bool false]), 3, 24) := by kernel_rfl
def cellsF (x : Fr) : List Value := [.int .i64 x.n, .int .i64 x.d, .bool x.bad]
theorem cellsF_len (x : Fr) : (cellsF x).length = 3 := rfl
theorem FBox.fill {u : World} {p : Nat} {r : Fr} (h : FBox u p r) (x : Fr) : FBox (((u.setCell ⟨p, 0, none⟩ (.int .i64 x.n)).setCell ⟨p, 1, none⟩ (.int .i64 x.d)).setCell ⟨p, 2, none⟩ (.bool x.bad)) p x := by
 obtain ⟨c0, c1, c2, f0, f1, f2, lt⟩ := h
 refine ⟨?_, ?_, ?_, ?_, ?_, ?_, ?_⟩ <;> simp [go_sem, *]
theorem FBox.oth {u : World} {p q : Nat} {r : Fr} (h : FBox u p r) (hne : p ≠ q) (y0 y1 y2 : Value) : FBox (((u.setCell ⟨q, 0, none⟩ (y0)).setCell ⟨q, 1, none⟩ (y1)).setCell ⟨q, 2, none⟩ (y2)) p r := by
 obtain ⟨c0, c1, c2, f0, f1, f2, lt⟩ := h
 have hne' := hne.symm
 refine ⟨?_, ?_, ?_, ?_, ?_, ?_, ?_⟩ <;> simp [go_sem, *]
theorem vwholeF (n : Int) (w : World) :
  Calls Tryz.prog 53 #[.int .i64 n] w fun e w' => e = .returned (frV (newR n 1)) ∧ Bl w w' := by
 have iv := Tryz.mOfF
 obtain ⟨W, hW⟩ : ∃ W, W = (w.alloc (.cells #[.int .i64 0, .int .i64 0, .bool false] 34)).alloc (.cells #[.int .i64 0, .int .i64 0, .bool false] 34) := ⟨_, rfl⟩
 have b0 : Bl w W := by rw [hW]; exact ((Bl.refl _).alloc _).alloc _
 have x0 : FBox W w.heap.size zeroR := by rw [hW]; exact (FBox.new w zeroR _).later ((Bl.refl _).alloc _)
 have HW := hideP hW
 clear hW
 have OF := hideP (rof_any zeroR n)
 generalize (newR n 1) = r at *
 go_enter Tryz.func53, Tryz.ntmps53
 go_wp2_with fail
 rw [← HW.out]
 refine (OF.out _).mono ?_
 rintro e w1 ⟨rfl, h1⟩
 obtain ⟨c0, c1, c2, f0, f1, f2, lt⟩ := x0.later h1
 clear iv
 go_wp2
 simp [bodyPost, results, Tryz.results53, go_sem, c0, c1, c2]
 exact Bl.set3 (b0.trans h1) (Nat.le_refl _) _ _ _
def sumF (xs : List Fr) : Fr := xs.foldl addR (newR 0 1)
theorem sumF_snoc (xs : List Fr) (k : Nat) (x : Fr) (h : xs[k]? = some x) : sumF (xs.take (k + 1)) = addR (sumF (xs.take k)) x := by
 unfold sumF
 rw [List.take_add_one, h]
 simp
set_option maxHeartbeats 1000000 in
theorem vsumF (v : Value) (xs : List Fr) (w : World) (h : Rq 3 cellsF w v xs) (hl : xs.length ≤ 1000000) :
  Calls Tryz.prog 92 #[v] w fun e w' => e = .returned (frV (sumF xs)) ∧ Bl w w' := by
 have iv := Tryz.mAddF
 obtain ⟨W, hW⟩ : ∃ W, W = w.alloc (.cells #[.int .i64 0, .int .i64 0, .bool false] 34) := ⟨_, rfl⟩
 have b0 : Bl w W := by rw [hW]; exact (Bl.refl _).alloc _
 have x0 : FBox W w.heap.size zeroR := by rw [hW]; exact FBox.new w zeroR _
 have HW := hideP hW
 clear hW
 rcases h with ⟨p, cap, rfl, rfl, hpn⟩ | ⟨b, o, cap, rfl, hc, hb, hx⟩
 ·go_enter Tryz.func92, Tryz.ntmps92
  go_wp2_with fail
  rw [← HW.out]
  refine (vwholeF 0 _).mono ?_
  rintro e w1 ⟨rfl, h1⟩
  go_wp2_with fail
  go_loopw [9] (fun i wr => i = .int .i64 0 ∧ FBox wr w1.heap.size (sumF []) ∧ FBox wr w.heap.size zeroR ∧ Bl w wr) (fun i _ => 0)
  case atStart => exact ⟨rfl, FBox.new w1 (newR 0 1) _, (x0.later h1).later ((Bl.refl _).alloc _), (b0.trans h1).alloc _⟩
  case round =>
   obtain ⟨rfl, bs, bz, bl⟩ := hrel
   obtain ⟨c0, c1, c2, f0, f1, f2, lt⟩ := bs
   obtain ⟨d0, d1, d2, g0, g1, g2, zlt⟩ := bz
   go_wp2
   simp [bodyPost, results, Tryz.results92, go_sem, d0, d1, d2]
   exact Bl.set3 bl (Nat.le_refl _) _ _ _
 ·have HX := hideP hx
  clear hx
  go_enter Tryz.func92, Tryz.ntmps92
  go_wp2_with fail
  rw [← HW.out]
  refine (vwholeF 0 _).mono ?_
  rintro e w1 ⟨rfl, h1⟩
  generalize hz : (newR 0 1) = z at *
  go_wp2_with fail
  go_loopw [9] (fun i wr => ∃ k : Nat, i = .int .i64 k ∧ k ≤ xs.length ∧ FBox wr w1.heap.size (sumF (xs.take k)) ∧ FBox wr w.heap.size zeroR ∧ Bl w wr) (fun i _ => xs.length - (intOf i).toNat)
  case atStart =>
   refine ⟨0, rfl, Nat.zero_le _, ?_, (x0.later h1).later ((Bl.refl _).alloc _), (b0.trans h1).alloc _⟩
   have : sumF (xs.take 0) = z := by rw [← hz]; rfl
   rw [this]
   exact FBox.new w1 z _
  case round =>
   obtain ⟨k, rfl, hk, bs, bz, bl⟩ := hrel
   by_cases hlt : k < xs.length
   ·obtain ⟨x, hx⟩ : ∃ x, xs[k]? = some x := ⟨_, List.getElem?_eq_getElem hlt⟩
    obtain ⟨c0, c1, c2, f0, f1, f2, lt⟩ := bs
    have CX : ∀ j u, (cellsF x)[j]? = some u → wr.cell? ⟨b, o + k * 3 + j, none⟩ = some u := fun j u hu => (bl_cell bl _ _ hb).trans (HX.out k x hx j u hu)
    have y0 : wr.cell? ⟨b, o + k * 3, none⟩ = some (.int .i64 x.n) := CX 0 _ rfl
    have y1 : wr.cell? ⟨b, o + k * 3 + 1, none⟩ = some (.int .i64 x.d) := CX 1 _ rfl
    have y2 : wr.cell? ⟨b, o + k * 3 + 2, none⟩ = some (.bool x.bad) := CX 2 _ rfl
    clear CX
    go_wp2_with fail
    refine (radd_any _ _ _).mono ?_
    rintro e w2 ⟨rfl, h2⟩
    have bl2 : Bl wr w2 := ((Bl.refl _).alloc _).trans h2
    have bs2 := (⟨c0, c1, c2, f0, f1, f2, lt⟩ : FBox wr w1.heap.size (sumF (xs.take k))).later bl2
    have bz2 := bz.later bl2
    clear c0 c1 c2 f0 f1 f2 y0 y1 y2
    obtain ⟨c0, c1, c2, f0, f1, f2, lt2⟩ := id bs2
    have SN := hideP (sumF_snoc xs k x hx)
    generalize hS : addR (sumF (xs.take k)) x = S at *
    go_wp2
    go_roundw
    case rel =>
     refine ⟨k + 1, by simp, hlt, ?_, ?_, ?_⟩
     ·rw [SN.out]; exact bs2.fill S
     ·exact bz2.oth (by have := b0.size; have := h1.size; have := x0.lt; omega) _ _ _
     ·exact Bl.set3 (bl.trans bl2) (by have := b0.size; have := h1.size; omega) _ _ _
    case measure => simp [intOf]; omega
   ·have hk' : k = xs.length := by omega
    subst hk'
    rw [List.take_length] at bs
    obtain ⟨c0, c1, c2, f0, f1, f2, lt⟩ := bs
    obtain ⟨d0, d1, d2, g0, g1, g2, zlt⟩ := bz
    go_wp2
    simp [bodyPost, results, Tryz.results92, go_sem, d0, d1, d2]
    exact Bl.set3 bl (Nat.le_refl _) _ _ _
theorem ownF_step {w wr w1 : World} {v v' : Value} {xs : List Fr} {x : Fr} {o : Obj} (hb : Bl w wr) (hown : wr.ownsRow w.heap.size 34 3 v xs.length (xs.flatMap cellsF))
  (hown' : w1.ownsRow w.heap.size 34 3 v' (xs.length + 1) (xs.flatMap cellsF ++ cellsF x)) (hg : (wr.alloc o).grownBy w1 v.ownBlock) :
  Bl w w1 ∧ w1.ownsRow w.heap.size 34 3 v' (xs ++ [x]).length ((xs ++ [x]).flatMap cellsF) := by
 refine ⟨Below.grown (Below.alloc hb hb.size o) hg (by have := hb.size; simp; omega) (fun k hk => (hown.lt k hk).1), ?_⟩
 simpa [List.flatMap_append] using hown'
theorem own_blF {w w' : World} {B n : Nat} {v : Value} {l : List Value} (h : w.ownsRow B 34 3 v n l) (k : Bl w w') : w'.ownsRow B 34 3 v n l := by
 refine ⟨h.1, ?_⟩
 rcases h.2 with hn | ⟨g, cap, cur, rfl, hb, hg, rest⟩
 ·exact .inl hn
 ·exact .inr ⟨g, cap, cur, rfl, hb, (Below.block k g (Array.getElem?_eq_some_iff.1 hg).1).trans hg, rest⟩
theorem ownF_step' {n₀ : Nat} {w wr w1 : World} {v v' : Value} {xs : List Fr} {x : Fr} {o : Obj} (hb : Bl w wr) (hn : w.heap.size ≤ n₀) (hown : wr.ownsRow n₀ 34 3 v xs.length (xs.flatMap cellsF))
  (hown' : w1.ownsRow n₀ 34 3 v' (xs.length + 1) (xs.flatMap cellsF ++ cellsF x)) (hg : (wr.alloc o).grownBy w1 v.ownBlock) :
  Bl w w1 ∧ w1.ownsRow n₀ 34 3 v' (xs ++ [x]).length ((xs ++ [x]).flatMap cellsF) := by
 refine ⟨Below.grown (Below.alloc hb hb.size o) hg (by have := hb.size; simp; omega) (fun k hk => by have := (hown.lt k hk).1; omega), ?_⟩
 simpa [List.flatMap_append] using hown'
theorem FBox.grown {n₀ n p : Nat} {w wr w1 : World} {v : Value} {l : List Value} {x : Fr} (h : FBox w p x) (hb : Bl w wr) (hown : w.ownsRow n₀ 34 3 v n l) (hg : wr.grownBy w1 v.ownBlock) (hp : p < n₀) : FBox w1 p x := by
 have h' := h.later hb
 have hk : w1.heap[p]? = wr.heap[p]? := hg.block p h'.lt (fun e => by have := (hown.lt p e.symm).1; omega)
 obtain ⟨c0, c1, c2, f0, f1, f2, lt⟩ := h'
 exact ⟨(World.cell?_of_block (a := ⟨p, 0, none⟩) hk).trans c0, (World.cell?_of_block (a := ⟨p, 1, none⟩) hk).trans c1, (World.cell?_of_block (a := ⟨p, 2, none⟩) hk).trans c2, (World.frozen?_of_block (a := ⟨p, 0, none⟩) hk).trans f0, (World.frozen?_of_block (a := ⟨p, 1, none⟩) hk).trans f1, (World.frozen?_of_block (a := ⟨p, 2, none⟩) hk).trans f2, by have := hg.size; omega⟩
theorem newF_cells (w : World) (x : Fr) (t : TypeId) : ∀ j u, (cellsF x)[j]? = some u → (w.alloc (.cells #[.int .i64 x.n, .int .i64 x.d, .bool x.bad] t)).cell? ((⟨w.heap.size, 0, none⟩ : Addr).add j) = some u := by
 intro j u hu
 have hadd : (⟨w.heap.size, 0, none⟩ : Addr).add j = ⟨w.heap.size, j, none⟩ := by unfold Addr.add; split <;> simp_all
 rw [hadd]
 have h := FBox.new w x t
 unfold cellsF at hu
 rcases j with _ | _ | _ | j
 ·simp at hu; rw [← hu]; exact h.c0
 ·simp at hu; rw [← hu]; exact h.c1
 ·simp at hu; rw [← hu]; exact h.c2
 ·simp at hu
theorem oneF_cells (x : Fr) : ∀ u ∈ cellsF x, u.oneCell' = true := by
 intro u hu
 unfold cellsF at hu
 simp only [List.mem_cons, List.not_mem_nil, or_false] at hu
 rcases hu with rfl | rfl | rfl <;> rfl
def wholeF (n : Int) : Fr := newR n 1
set_option maxHeartbeats 1000000 in
theorem vWholeF' (v : Value) (ns : List Int) (w : World) (h : Rq 1 (fun n => [.int .i64 n]) w v ns) (hl : ns.length ≤ 1000000) :
  Calls Tryz.prog 16 #[v] w fun e w' => ∃ u, e = .returned u ∧ Rw 3 cellsF w' u (ns.map wholeF) ∧ Fresh w.heap.size u ∧ Bl w w' := by
 obtain ⟨i0, hi, hz0, hz1, hz2⟩ := info_parts Tryz.info_F
 rcases h with ⟨p, cap, rfl, rfl, hpn⟩ | ⟨b, o, cap, rfl, hc, hb, hx⟩
 ·go_enter Tryz.func16, Tryz.ntmps16
  go_wp2_with (at_make; refine wpList_make_own _ rfl _ _ 28 rfl w.heap.size 34 i0 (.agg #[.int .i64 0, .int .i64 0, .bool false]) 3 Tryz.underlying28 hi hz0 hz1 .i64 .i64 _ 0 rfl rfl (by simp) (by rw [hz2]; omega) (by unfold maxLen; omega) (Nat.le_refl _) ?_; intro w0 hown0 hgrow0)
  have hB0 : Bl w w0 := (Bl.refl w).grown hgrow0 (by omega) (fun k e => by cases e)
  go_loopw [3, 11] (fun v i wr => i = .int .i64 0 ∧ wr.ownsRow w.heap.size 34 3 v 0 [] ∧ Bl w wr) (fun _ _ _ => 0)
  case atStart => exact ⟨rfl, hown0, hB0⟩
  case round =>
   obtain ⟨rfl, hown, hB⟩ := hrel
   go_wp2
   go_ret
   exact ⟨_, rfl, Rw.of_own cellsF_len (xs := []) hown, fun g hg => (hown.lt g hg).1, hB⟩
 ·have HX := hideP hx
  clear hx
  go_enter Tryz.func16, Tryz.ntmps16
  go_wp2_with (at_make; refine wpList_make_own _ rfl _ _ 28 rfl w.heap.size 34 i0 (.agg #[.int .i64 0, .int .i64 0, .bool false]) 3 Tryz.underlying28 hi hz0 hz1 .i64 .i64 _ ns.length rfl rfl (by simp) (by rw [hz2]; omega) (by unfold maxLen; omega) (Nat.le_refl _) ?_; intro w0 hown0 hgrow0)
  have hB0 : Bl w w0 := (Bl.refl w).grown hgrow0 (by omega) (fun k e => by cases e)
  go_loopw [3, 11] (fun v i wr => ∃ k : Nat, i = .int .i64 k ∧ k ≤ ns.length ∧ wr.ownsRow w.heap.size 34 3 v ((ns.take k).map wholeF).length (((ns.take k).map wholeF).flatMap cellsF) ∧ Bl w wr) (fun _ i _ => ns.length - (intOf i).toNat)
  case atStart => exact ⟨0, rfl, Nat.zero_le _, hown0, hB0⟩
  case round =>
   obtain ⟨k, rfl, hk, hown, hB⟩ := hrel
   by_cases hlt : k < ns.length
   ·obtain ⟨x, hx⟩ : ∃ x, ns[k]? = some x := ⟨_, List.getElem?_eq_getElem hlt⟩
    have y0 : wr.cell? ⟨b, o + k, none⟩ = some (.int .i64 x) := by
     have := (bl_cell hB _ _ hb).trans (HX.out k x hx 0 _ rfl)
     simpa using this
    have hT : (ns.take (k + 1)).map wholeF = (ns.take k).map wholeF ++ [wholeF x] := by rw [List.take_add_one, hx]; simp
    have hkl : ((ns.take k).map wholeF).length = k := by simp; omega
    have HK := hideP hkl
    clear hkl
    have HT := hideP hT
    clear hT
    generalize hys : (ns.take k).map wholeF = ys at *
    clear hys
    go_wp2_with fail
    refine (vwholeF x _).mono ?_
    rintro e w2 ⟨rfl, h2⟩
    have hr : wholeF x = (newR x 1) := rfl
    generalize (newR x 1) = r at *
    rw [hr] at HT
    clear hr y0
    replace hown := own_blF hown h2
    replace hB := hB.trans h2
    have hkk := HK.out
    go_wp2_with (at_builtin; refine wpList_append_own _ rfl _ _ 28 rfl w.heap.size 34 i0 (.agg #[.int .i64 0, .int .i64 0, .bool false]) 3 24 Tryz.underlying28 hi hz0 hz1 hz2 rfl (by decide) _ _ _ rfl (hown.alloc _) ⟨_, 0, none⟩ 1 1 (cellsF r) rfl rfl (newF_cells _ _ _) (oneF_cells _) (by unfold maxLen; omega) (by omega) (by have := hB.size; simp; omega) ?_; intro v' w1 hown' hgrow _)
    have R := ownF_step hB hown hown' hgrow
    clear hown hown' hgrow
    go_wp2
    go_roundw
    case rel => exact ⟨k + 1, by simp, hlt, by rw [HT.out]; exact R.2, R.1⟩
    case measure => simp [intOf]; omega
   ·have hk' : k = ns.length := by omega
    subst hk'
    rw [List.take_length] at hown
    have R := hideP (Rw.of_own cellsF_len hown)
    have FR := hideP (show Fresh w.heap.size _ from fun g hg => (hown.lt g hg).1)
    clear hown
    go_wp2
    go_ret
    exact ⟨_, rfl, R.out, FR.out, hB⟩
theorem vWholeF (v : Value) (ns : List Int) (w : World) (h : Rq 1 (fun n => [.int .i64 n]) w v ns) (hl : ns.length ≤ 1000000) :
  Calls Tryz.prog 16 #[v] w fun e w' => ∃ u, e = .returned u ∧ Rw 3 cellsF w' u (ns.map wholeF) ∧ Bl w w' :=
 (vWholeF' v ns w h hl).mono fun _ _ ⟨u, h1, h2, _, h3⟩ => ⟨u, h1, h2, h3⟩
set_option maxHeartbeats 1000000 in
theorem vScaleF (v : Value) (xs : List Fr) (by_ : Fr) (w : World) (h : Rw 3 cellsF w v xs) (hl : xs.length ≤ 1000000) :
  Calls Tryz.prog 50 #[v, frV by_] w fun e w' => ∃ u, e = .returned u ∧ Rw 3 cellsF w' u (xs.map fun x => mulR x by_) ∧ Bl w w' := by
 have iv := Tryz.mMulF
 obtain ⟨i0, hi, hz0, hz1, hz2⟩ := info_parts Tryz.info_F
 have x0 := FBox.new w by_ 34
 rcases h with ⟨rfl, rfl⟩ | ⟨b, o, cap, rfl, hc, hb, hx⟩
 ·go_enter Tryz.func50, Tryz.ntmps50
  go_wp2_with (at_make; refine wpList_make_own _ rfl _ _ 28 rfl w.heap.size 34 i0 (.agg #[.int .i64 0, .int .i64 0, .bool false]) 3 Tryz.underlying28 hi hz0 hz1 .i64 .i64 _ 0 rfl rfl (by simp) (by rw [hz2]; omega) (by unfold maxLen; omega) (by simp) ?_; intro w0 hown0 hgrow0)
  rw [World.size_alloc] at hown0
  have hB0 : Bl w w0 := Below.grown (Below.alloc (Bl.refl w) (Nat.le_refl _) _) hgrow0 (by simp) (fun k e => by cases e)
  go_loopw [5, 13] (fun v i wr => i = .int .i64 0 ∧ wr.ownsRow w.heap.size 34 3 v 0 [] ∧ Bl w wr) (fun _ _ _ => 0)
  case atStart => exact ⟨rfl, hown0, hB0⟩
  case round =>
   obtain ⟨rfl, hown, hB⟩ := hrel
   go_wp2
   go_ret
   exact ⟨_, rfl, Rw.of_own cellsF_len (xs := []) hown, hB⟩
 ·have HX := hideP hx
  clear hx
  go_enter Tryz.func50, Tryz.ntmps50
  go_wp2_with (at_make; refine wpList_make_own _ rfl _ _ 28 rfl (w.heap.size + 1) 34 i0 (.agg #[.int .i64 0, .int .i64 0, .bool false]) 3 Tryz.underlying28 hi hz0 hz1 .i64 .i64 _ xs.length rfl rfl (by simp) (by rw [hz2]; omega) (by unfold maxLen; omega) (by simp) ?_; intro w0 hown0 hgrow0)
  rw [World.size_alloc] at hown0
  have hB1 : Bl (w.alloc (.cells #[.int .i64 by_.n, .int .i64 by_.d, .bool by_.bad] 34)) w0 := Below.grown (Bl.refl _) hgrow0 (Nat.le_refl _) (fun k e => by cases e)
  have hB0 : Bl w w0 := ((Bl.refl w).alloc _).trans hB1
  go_loopw [5, 13] (fun v i wr => ∃ k : Nat, i = .int .i64 k ∧ k ≤ xs.length ∧ FBox wr w.heap.size by_ ∧ wr.ownsRow (w.heap.size + 1) 34 3 v ((xs.take k).map fun x => mulR x by_).length (((xs.take k).map fun x => mulR x by_).flatMap cellsF) ∧ Bl w wr) (fun _ i _ => xs.length - (intOf i).toNat)
  case atStart => exact ⟨0, rfl, Nat.zero_le _, x0.later hB1, hown0, hB0⟩
  case round =>
   obtain ⟨k, rfl, hk, bx, hown, hB⟩ := hrel
   by_cases hlt : k < xs.length
   ·obtain ⟨x, hx⟩ : ∃ x, xs[k]? = some x := ⟨_, List.getElem?_eq_getElem hlt⟩
    have CX : ∀ j u, (cellsF x)[j]? = some u → wr.cell? ⟨b, o + k * 3 + j, none⟩ = some u := fun j u hu => (bl_cell hB _ _ hb).trans (HX.out k x hx j u hu)
    have y0 : wr.cell? ⟨b, o + k * 3, none⟩ = some (.int .i64 x.n) := CX 0 _ rfl
    have y1 : wr.cell? ⟨b, o + k * 3 + 1, none⟩ = some (.int .i64 x.d) := CX 1 _ rfl
    have y2 : wr.cell? ⟨b, o + k * 3 + 2, none⟩ = some (.bool x.bad) := CX 2 _ rfl
    clear CX
    obtain ⟨c0, c1, c2, f0, f1, f2, lt⟩ := id bx
    have HT := hideP (show (xs.take (k + 1)).map (fun x => mulR x by_) = (xs.take k).map (fun x => mulR x by_) ++ [mulR x by_] by rw [List.take_add_one, hx]; simp)
    have HK := hideP (show ((xs.take k).map fun x => mulR x by_).length = k by simp; omega)
    generalize hys : (xs.take k).map (fun x => mulR x by_) = ys at *
    clear hys
    go_wp2_with fail
    refine (rmul_any _ _ _).mono ?_
    rintro e w2 ⟨rfl, h2⟩
    have bl2 : Bl wr w2 := ((Bl.refl _).alloc _).trans h2
    generalize mulR x by_ = r at *
    clear y0 y1 y2 c0 c1 c2
    replace hown := own_blF hown bl2
    replace hB := hB.trans bl2
    have bx2 := bx.later bl2
    have hkk := HK.out
    go_wp2_with (at_builtin; refine wpList_append_own _ rfl _ _ 28 rfl (w.heap.size + 1) 34 i0 (.agg #[.int .i64 0, .int .i64 0, .bool false]) 3 24 Tryz.underlying28 hi hz0 hz1 hz2 rfl (by decide) _ _ _ rfl (hown.alloc _) ⟨_, 0, none⟩ 1 1 (cellsF r) rfl rfl (newF_cells _ _ _) (oneF_cells _) (by unfold maxLen; omega) (by omega) (by have := bx2.lt; simp; omega) ?_; intro v' w1 hown' hgrow _)
    have R := ownF_step' (n₀ := w.heap.size + 1) hB (by omega) hown hown' hgrow
    have bx3 := bx2.grown ((Bl.refl _).alloc _) hown hgrow (by omega)
    clear hown hown' hgrow
    go_wp2
    go_roundw
    case rel => exact ⟨k + 1, by simp, hlt, bx3, by rw [HT.out]; exact R.2, R.1⟩
    case measure => simp [intOf]; omega
   ·have hk' : k = xs.length := by omega
    subst hk'
    rw [List.take_length] at hown
    have R := hideP (Rw.of_own cellsF_len hown)
    clear hown
    go_wp2
    go_ret
    exact ⟨_, rfl, R.out, hB⟩
theorem dAddF (a b : Fr) (w : World) :
  Calls Tryz.prog 95 #[frV a, frV b] w fun e w' => e = .returned (frV (addR a b)) ∧ Bl w w' := by
 have iv := Tryz.mAddF
 obtain ⟨W, X⟩ := threeR_ex w a b
 have T := hideP (radd_any a b)
 have HX := hideP X
 clear X
 generalize addR a b = r at *
 go_enter Tryz.func95, Tryz.ntmps95
 go_wp2_with fail
 rw [← HX.out.eq]
 refine (T.out _).mono ?_
 rintro e w1 ⟨rfl, h1⟩
 obtain ⟨c0, c1, c2, f0, f1, f2, lt⟩ := HX.out.bz.later h1
 clear iv
 go_wp2
 simp [bodyPost, results, Tryz.results95, go_sem, c0, c1, c2]
 exact Bl.set3 (HX.out.bl.trans h1) (by omega) _ _ _
theorem dMulF (a b : Fr) (w : World) :
  Calls Tryz.prog 94 #[frV a, frV b] w fun e w' => e = .returned (frV (mulR a b)) ∧ Bl w w' := by
 have iv := Tryz.mMulF
 obtain ⟨W, X⟩ := threeR_ex w a b
 have T := hideP (rmul_any a b)
 have HX := hideP X
 clear X
 generalize mulR a b = r at *
 go_enter Tryz.func94, Tryz.ntmps94
 go_wp2_with fail
 rw [← HX.out.eq]
 refine (T.out _).mono ?_
 rintro e w1 ⟨rfl, h1⟩
 obtain ⟨c0, c1, c2, f0, f1, f2, lt⟩ := HX.out.bz.later h1
 clear iv
 go_wp2
 simp [bodyPost, results, Tryz.results94, go_sem, c0, c1, c2]
 exact Bl.set3 (HX.out.bl.trans h1) (by omega) _ _ _
theorem Tryz.nil0F (w : World) : (binOp .eql 28 (.slice none 0 0) (.slice none 0 0)).run Tryz.prog w = .ok (.bool true) w := by kernel_rfl
theorem Tryz.nil1F (a : Addr) (n cap : Nat) (w : World) : (binOp .eql 28 (.slice (some a) n cap) (.slice none 0 0)).run Tryz.prog w = .ok (.bool false) w := by kernel_rfl
set_option maxHeartbeats 1000000 in
theorem vCloneF (v : Value) (xs : List Fr) (w : World) (h : Rq 3 cellsF w v xs) (hl : xs.length ≤ 1000000) :
  Calls Tryz.prog 66 #[v] w fun e w' => ∃ u, e = .returned u ∧ Rw 3 cellsF w' u xs ∧ Fresh w.heap.size u ∧ Bl w w' := by
 have n0 := Tryz.nil0F
 have n1 := Tryz.nil1F
 obtain ⟨i0, hi, hz0, hz1, hz2⟩ := info_parts Tryz.info_F
 rcases h with ⟨p, cap, rfl, rfl, hpn⟩ | ⟨b, o, cap, rfl, hc, hb, hx⟩
 ·rcases p with _ | ad
  ·obtain rfl := hpn rfl
   go_enter Tryz.func66, Tryz.ntmps66
   go_wp2
   go_ret
   exact ⟨_, rfl, .inl ⟨rfl, rfl⟩, nofun, Bl.refl _⟩
  ·clear n0
   go_enter Tryz.func66, Tryz.ntmps66
   go_wp2_with (at_builtin; refine wpList_append_own _ rfl _ _ 28 rfl w.heap.size 34 i0 (.agg #[.int .i64 0, .int .i64 0, .bool false]) 3 24 Tryz.underlying28 hi hz0 hz1 hz2 rfl (by decide) _ 0 [] rfl (World.ownsRow_made w #[] 0 (Nat.le_refl _) (by decide) rfl) ad 0 cap [] rfl (by simp) nofun nofun (by unfold maxLen; omega) (by omega) (by simp) ?_; intro v' w1 hown' hgrow _)
   have R := hideP (Rw.of_own (xs := []) cellsF_len (by simpa using hown'))
   have FR := hideP (show Fresh w.heap.size v' from fun g hg => (hown'.lt g hg).1)
   have hB : Bl w w1 := Below.grown (Below.alloc (Bl.refl w) (Nat.le_refl _) _) hgrow (by simp) (fun k e => by cases e; exact Nat.le_refl _)
   clear hown' hgrow
   go_wp2
   go_ret
   exact ⟨_, rfl, R.out, FR.out, hB⟩
 ·have HX := hideP hx
  clear hx n0
  go_enter Tryz.func66, Tryz.ntmps66
  go_wp2_with (at_builtin; refine wpList_append_own _ rfl _ _ 28 rfl w.heap.size 34 i0 (.agg #[.int .i64 0, .int .i64 0, .bool false]) 3 24 Tryz.underlying28 hi hz0 hz1 hz2 rfl (by decide) _ 0 [] rfl (World.ownsRow_made w #[] 0 (Nat.le_refl _) (by decide) rfl) ⟨b, o, none⟩ xs.length cap (xs.flatMap cellsF) rfl (flat_len cellsF_len xs) (flat_cells cellsF_len ((Rw_cells_later HX.out hb ((Bl.refl _).alloc _)))) (flat_one oneF_cells xs) (by unfold maxLen; omega) (by omega) (by simp) ?_; intro v' w1 hown' hgrow _)
  have R := hideP (Rw.of_own (xs := xs) cellsF_len (by simpa using hown'))
  have FR := hideP (show Fresh w.heap.size v' from fun g hg => (hown'.lt g hg).1)
  have hB : Bl w w1 := Below.grown (Below.alloc (Bl.refl w) (Nat.le_refl _) _) hgrow (by simp) (fun k e => by cases e; exact Nat.le_refl _)
  clear hown' hgrow
  go_wp2
  go_ret
  exact ⟨_, rfl, R.out, FR.out, hB⟩
theorem Tryz.cutF (p : Option Addr) (n cap m : Nat) (w : World) (h : m ≤ cap) : (Instr.sliceAt 28 (.slice p n cap) none (some (.int .i64 m)) none).run Tryz.prog w = .ok (.slice p m cap) w := by
 have hu : Tryz.prog.underlying 28 = some (.slice (Tryz.prog.elem 28)) := by kernel_rfl
 obtain ⟨i0, hi, hz0, hz1, hz2⟩ := info_parts Tryz.info_F
 have he : Tryz.prog.elem 28 = 34 := by kernel_rfl
 rw [run_sliceAt_slice (h := hu), run_slice_h (ht := hu) (h0 := by omega) (h2 := by omega), he]
 have e0 : p.map (fun a => a.add 0) = p := by cases p <;> simp [Addr.add]
 simp [sizeOf, typeInfo, hi, sliced, e0, Result.andThen]
theorem cloneF_cut {p : Option Addr} {cap : Nat} {xs : List Fr} {w W : World} (hb : Bl w W) (CA : ∀ m, m ≤ xs.length → Rq 3 cellsF w (.slice p m cap) (xs.take m)) (hl : xs.length ≤ 1000000) :
  ∀ m, m ≤ xs.length → ∀ u, Bl W u → Calls Tryz.prog 66 #[.slice p m cap] u fun e w' => ∃ p1 k1, e = .returned (.slice p1 m k1) ∧ (Rw 3 cellsF w' (.slice p1 m k1) (xs.take m) ∧ Fresh u.heap.size (.slice p1 m k1)) ∧ Bl u w' := by
 intro m h u hu
 refine (vCloneF (.slice p m cap) (xs.take m) u ((CA m h).later (hb.trans hu)) (by simp; omega)).mono ?_
 rintro e w' ⟨v, rfl, hr, hf, hbl⟩
 obtain ⟨p1, k1, rfl, _, _⟩ := hr.cut
 have hl' : (xs.take m).length = m := by simp; omega
 rw [hl'] at hr hf ⊢
 exact ⟨p1, k1, rfl, ⟨hr, hf⟩, hbl⟩
set_option maxHeartbeats 1000000 in
theorem vPairsF (va vb : Value) (xs ys : List Fr) (w : World) (ha : Rq 3 cellsF w va xs) (hb : Rq 3 cellsF w vb ys) (hl : xs.length ≤ 1000000) (hm : ys.length ≤ 1000000) :
  Calls Tryz.prog 134 #[va, vb] w fun e w' => e = .returned (.func (.func 152) #[] #[.pointer (some ⟨w.heap.size, 0, none⟩), .pointer (some ⟨w.heap.size + 1, 0, none⟩)]) ∧
   PairsIn 3 cellsF w' w.heap.size w'.heap.size w.heap.size (w.heap.size + 1) (xs.take (min xs.length ys.length)) (ys.take (min xs.length ys.length)) ∧ Bl w w' := by
 obtain ⟨p, cap, rfl, hc, CA⟩ := ha.cut
 obtain ⟨q, dap, rfl, hd, CB⟩ := hb.cut
 obtain ⟨W, X⟩ := twoS_ex w (.slice p xs.length cap) (.slice q ys.length dap) 28
 have HX := hideP X
 have sl1 := fun m u (h : m ≤ cap) => Tryz.cutF p xs.length cap m u h
 have sl2 := fun m u (h : m ≤ dap) => Tryz.cutF q ys.length dap m u h
 have HA := hideP (cloneF_cut X.bl CA hl)
 have HB := hideP (cloneF_cut X.bl CB hm)
 clear CA CB ha hb X
 by_cases hlt : ys.length < xs.length
 ·rw [show min xs.length ys.length = ys.length by omega]
  have A := hideP (HA.out ys.length (by omega))
  have B := hideP (HB.out ys.length (by omega))
  have s1 := fun u => sl1 ys.length u (by omega)
  have s2 := fun u => sl2 ys.length u (by omega)
  have hm0 : min (xs.length : Int) (ys.length : Int) = (ys.length : Int) := by omega
  clear HA HB sl1 sl2
  go_enter Tryz.func134, Tryz.ntmps134
  go_wp2_with fail
  rw [← HX.out.eq]
  obtain ⟨c0, c1, f0, f1⟩ := HX.out.k _ ((Bl.refl _).drew)
  go_region_with (first
   | (go_at_call_of 66 #[Value.slice p ys.length cap]; refine (A.out _ ((Bl.refl _).drew)).mono ?_; rintro e w1 ⟨p1, k1, rfl, R1, h1⟩; obtain ⟨d0, d1, g0, g1⟩ := HX.out.k _ (((Bl.refl _).drew).trans h1))
   | (go_at_call_of 66 #[Value.slice q ys.length dap]; refine (B.out _ (((Bl.refl _).drew).trans h1)).mono ?_; rintro e w2 ⟨p2, k2, rfl, R2, h2⟩; obtain ⟨e0, e1, l0, l1⟩ := HX.out.k _ ((((Bl.refl _).drew).trans h1).trans h2)))
  all_goals
   clear c0 c1 f0 f1 d0 d1 g0 g1 s1 s2 A B
   go_wp2
   go_ret
   refine ⟨rfl, ?_, ?_⟩
   ·have hs := HX.out.size
    have h1s := Below.size h1
    have h2s := Below.size h2
    have hd : W.drew.heap.size = W.heap.size := rfl
    have q1 : Rw 3 cellsF ((w2.setCell ⟨w.heap.size, 0, none⟩ (.slice p1 ys.length k1)).setCell ⟨w.heap.size + 1, 0, none⟩ (.slice p2 ys.length k2)) (.slice p1 ys.length k1) _ := ((R1.1.later h2).set _ (fun g hg => by have := R1.2 g hg; show w.heap.size + 1 ≤ g; omega)).set _ (fun g hg => by have := R1.2 g hg; show w.heap.size + 1 + 1 ≤ g; omega)
    have q2 : Rw 3 cellsF ((w2.setCell ⟨w.heap.size, 0, none⟩ (.slice p1 ys.length k1)).setCell ⟨w.heap.size + 1, 0, none⟩ (.slice p2 ys.length k2)) (.slice p2 ys.length k2) _ := (R2.1.set _ (fun g hg => by have := R2.2 g hg; show w.heap.size + 1 ≤ g; omega)).set _ (fun g hg => by have := R2.2 g hg; show w.heap.size + 1 + 1 ≤ g; omega)
    refine ⟨_, _, Nat.le_refl _, by simp; omega, by omega, by simp; omega, ?_, ?_, q1, q2, fun g hg => ⟨by have := R1.2 g hg; omega, q1.lt g hg⟩, fun g hg => ⟨by have := R2.2 g hg; omega, q2.lt g hg⟩, by simp; omega⟩
    ·simp [go_sem, e0, e1]
    ·simp [go_sem, e0, e1]
   ·exact Bl.set (Bl.set ((HX.out.bl.trans (((Bl.refl _).drew).trans h1)).trans h2) (Nat.le_refl _) _) (by show w.heap.size ≤ w.heap.size + 1; omega) _
 ·rw [show min xs.length ys.length = xs.length by omega]
  have A := hideP (HA.out xs.length (by omega))
  have B := hideP (HB.out xs.length (by omega))
  have s1 := fun u => sl1 xs.length u (by omega)
  have s2 := fun u => sl2 xs.length u (by omega)
  have hm0 : min (xs.length : Int) (ys.length : Int) = (xs.length : Int) := by omega
  clear HA HB sl1 sl2
  go_enter Tryz.func134, Tryz.ntmps134
  go_wp2_with fail
  rw [← HX.out.eq]
  obtain ⟨c0, c1, f0, f1⟩ := HX.out.k _ ((Bl.refl _).drew)
  go_region_with (first
   | (go_at_call_of 66 #[Value.slice p xs.length cap]; refine (A.out _ ((Bl.refl _).drew)).mono ?_; rintro e w1 ⟨p1, k1, rfl, R1, h1⟩; obtain ⟨d0, d1, g0, g1⟩ := HX.out.k _ (((Bl.refl _).drew).trans h1))
   | (go_at_call_of 66 #[Value.slice q xs.length dap]; refine (B.out _ (((Bl.refl _).drew).trans h1)).mono ?_; rintro e w2 ⟨p2, k2, rfl, R2, h2⟩; obtain ⟨e0, e1, l0, l1⟩ := HX.out.k _ ((((Bl.refl _).drew).trans h1).trans h2)))
  all_goals
   clear c0 c1 f0 f1 d0 d1 g0 g1 s1 s2 A B
   go_wp2
   go_ret
   refine ⟨rfl, ?_, ?_⟩
   ·have hs := HX.out.size
    have h1s := Below.size h1
    have h2s := Below.size h2
    have hd : W.drew.heap.size = W.heap.size := rfl
    have q1 : Rw 3 cellsF ((w2.setCell ⟨w.heap.size, 0, none⟩ (.slice p1 xs.length k1)).setCell ⟨w.heap.size + 1, 0, none⟩ (.slice p2 xs.length k2)) (.slice p1 xs.length k1) _ := ((R1.1.later h2).set _ (fun g hg => by have := R1.2 g hg; show w.heap.size + 1 ≤ g; omega)).set _ (fun g hg => by have := R1.2 g hg; show w.heap.size + 1 + 1 ≤ g; omega)
    have q2 : Rw 3 cellsF ((w2.setCell ⟨w.heap.size, 0, none⟩ (.slice p1 xs.length k1)).setCell ⟨w.heap.size + 1, 0, none⟩ (.slice p2 xs.length k2)) (.slice p2 xs.length k2) _ := (R2.1.set _ (fun g hg => by have := R2.2 g hg; show w.heap.size + 1 ≤ g; omega)).set _ (fun g hg => by have := R2.2 g hg; show w.heap.size + 1 + 1 ≤ g; omega)
    refine ⟨_, _, Nat.le_refl _, by simp; omega, by omega, by simp; omega, ?_, ?_, q1, q2, fun g hg => ⟨by have := R1.2 g hg; omega, q1.lt g hg⟩, fun g hg => ⟨by have := R2.2 g hg; omega, q2.lt g hg⟩, by simp; omega⟩
    ·simp [go_sem, e0, e1]
    ·simp [go_sem, e0, e1]
   ·exact Bl.set (Bl.set ((HX.out.bl.trans (((Bl.refl _).drew).trans h1)).trans h2) (Nat.le_refl _) _) (by show w.heap.size ≤ w.heap.size + 1; omega) _
end Go.Proofs.YtljmggemdkfbiaaGreat
namespace Go.Proofs.YtljmggemdkfbiaaGreat
open Go.RowKit Go.Shelf
set_option linter.unusedSimpArgs false
set_option linter.unusedVariables false
attribute [local go_sem] Oper.semAt_some
theorem Tryz.yieldF (l : Nat) (w : World) : (binOp .eql 184 (.func (.yield l) #[] #[]) .nilFunc).run Tryz.prog w = .ok (.bool false) w := by kernel_rfl
set_option maxRecDepth 100000 in
set_option maxHeartbeats 2000000 in
theorem iterF (n l A B lo hi : Nat) (xs ys : List Fr) (hl : xs.length ≤ 1000000) (J Jx : List (Fr × Fr) → World → Prop) (W : World) (hJ : AbidesFrom W.heap.size J) (hh : hi ≤ W.heap.size)
  (hY : ∀ pre x W1, J pre W1 → pre.length < xs.length → YieldAt Fence.wide (n - 1) Tryz.prog l #[frV x.1, frV x.2] W1 fun e W' =>
   (e = .returned (.bool true) ∧ J (pre ++ [x]) W' ∧ Span lo hi W1 W') ∨ (e = .returned (.bool false) ∧ Jx (pre ++ [x]) W'))
  (hP : PairsIn 3 cellsF W lo hi A B xs ys) (h0 : J [] W) :
  CallsIn Fence.wide n Tryz.prog 152 #[.func (.yield l) #[] #[], .pointer (some ⟨A, 0, none⟩), .pointer (some ⟨B, 0, none⟩)] W fun e W' => (∃ v, e = .returned v) ∧
   ((∃ zs, zs = xs.zip ys ∧ J zs W') ∨ (∃ pre, pre <+: xs.zip ys ∧ Jx pre W')) := by
 have yn := Tryz.yieldF l
 obtain ⟨u, v, a1, a2, b1, b2, cu, cv, ru, rv, fu, fv, hxy⟩ := hP
 rcases ru with ⟨rfl, rfl⟩ | ⟨b, o, cap, rfl, hc, hb, hx⟩
 ·clear hY
  refine callsIn_of_wp Tryz.func152 rfl trivial ?_ rfl
  simp only [Tryz.ntmps152, List.size_toArray, List.length_cons, List.length_nil, Nat.reduceAdd, Nat.reduceSub, Array.replicate_succ, Array.replicate_zero, List.push_toArray, List.append_toArray, List.nil_append, List.cons_append]
  gi_wp2
  gi_loopw [10] (fun i wr => i = .int .i64 0 ∧ J [] wr) (fun _ _ => 0)
  case atStart => exact ⟨rfl, h0⟩
  case round =>
   obtain ⟨rfl, hJs⟩ := hrel
   gi_wp2
   go_end0
   exact ⟨⟨_, rfl⟩, .inl ⟨_, rfl, hJs⟩⟩
 ·have hb' := fu b rfl
  have HX := hideP hx
  have HV := hideP rv
  have HXY := hideP hxy
  clear hx rv hxy
  refine callsIn_of_wp Tryz.func152 rfl trivial ?_ rfl
  simp only [Tryz.ntmps152, List.size_toArray, List.length_cons, List.length_nil, Nat.reduceAdd, Nat.reduceSub, Array.replicate_succ, Array.replicate_zero, List.push_toArray, List.append_toArray, List.nil_append, List.cons_append]
  gi_wp2
  gi_loopw [10] (fun i wr => ∃ k : Nat, k ≤ xs.length ∧ i = .int .i64 k ∧ J ((xs.zip ys).take k) wr ∧ Span lo hi W wr ∧ W.heap.size ≤ wr.heap.size)
   (fun i _ => xs.length - (intOf i).toNat)
  case atStart => exact ⟨0, Nat.zero_le _, rfl, h0, Span.refl _ _ _, Nat.le_refl _⟩
  case round =>
   obtain ⟨k, hk, rfl, hJs, hsp, hsz⟩ := hrel
   by_cases hlt : k < xs.length
   ·obtain ⟨x, hx⟩ : ∃ x, xs[k]? = some x := ⟨_, List.getElem?_eq_getElem hlt⟩
    obtain ⟨y, hy⟩ : ∃ y, ys[k]? = some y := ⟨_, List.getElem?_eq_getElem (by have := HXY.out; omega)⟩
    rcases HV.out with ⟨rfl, e0⟩ | ⟨b', o', cap', rfl, hc', hbb, hy'⟩
    ·have := HXY.out; rw [e0] at this; simp at this; rw [this] at hlt; simp at hlt
    have HY := hideP hy'
    have hb2 := fv b' rfl
    have hlt' : k < ys.length := by have := HXY.out; omega
    clear hy'
    have CX : ∀ j u, (cellsF x)[j]? = some u → wr.cell? ⟨b, o + k * 3 + j, none⟩ = some u := fun j u hu => (hsp.cell b _ hb'.1 hb'.2).trans (HX.out k x hx j u hu)
    have x0 : wr.cell? ⟨b, o + k * 3, none⟩ = some (.int .i64 x.n) := CX 0 _ rfl
    have x1 : wr.cell? ⟨b, o + k * 3 + 1, none⟩ = some (.int .i64 x.d) := CX 1 _ rfl
    have x2 : wr.cell? ⟨b, o + k * 3 + 2, none⟩ = some (.bool x.bad) := CX 2 _ rfl
    clear CX
    obtain ⟨V, hV⟩ : ∃ V, V = wr.alloc (.cells #[.int .i64 x.n, .int .i64 x.d, .bool x.bad] 34) := ⟨_, rfl⟩
    have bV : Bl wr V.drew := by rw [hV]; exact ((Bl.refl _).alloc _).drew
    have BX : FBox V.drew wr.heap.size x := by rw [hV]; exact (FBox.new wr x _).later ((Bl.refl _).drew)
    have sV : Span lo hi W V.drew := hsp.trans (bV.span (by omega))
    have jV : J ((xs.zip ys).take k) V.drew := by
     refine hJ _ _ _ none hJs ?_ nofun
     rw [hV]
     exact ⟨rfl, rfl, rfl, by simp, fun i hi _ => by have := (((Bl.refl wr).alloc (.cells #[.int .i64 x.n, .int .i64 x.d, .bool x.bad] 34)).drew).block i hi; exact this⟩
    have CY : ∀ j u, (cellsF y)[j]? = some u → V.drew.cell? ⟨b', o' + k * 3 + j, none⟩ = some u := fun j u hu => (sV.cell b' _ hb2.1 hb2.2).trans (HY.out k y hy j u hu)
    have y0 : V.drew.cell? ⟨b', o' + k * 3, none⟩ = some (.int .i64 y.n) := CY 0 _ rfl
    have y1 : V.drew.cell? ⟨b', o' + k * 3 + 1, none⟩ = some (.int .i64 y.d) := CY 1 _ rfl
    have y2 : V.drew.cell? ⟨b', o' + k * 3 + 2, none⟩ = some (.bool y.bad) := CY 2 _ rfl
    have yb : V.drew.cell? ⟨B, 0, none⟩ = some (.slice (some ⟨b', o', none⟩) ys.length cap') := (sV.cell B 0 b1 b2).trans cv
    obtain ⟨z0, z1, z2, _, _, _, _⟩ := BX
    have hlen : ((xs.zip ys).take k).length = k := by have := HXY.out; simp; omega
    obtain ⟨fn, tmps, assign, body, hyd, hR⟩ := hY _ (x, y) V.drew jV (by omega)
    dsimp only at hyd
    have HT := hideP (show (xs.zip ys).take (k + 1) = (xs.zip ys).take k ++ [(x, y)] by
     rw [List.take_add_one, (List.getElem?_zip_eq_some (z := (x, y))).2 ⟨hx, hy⟩]; rfl)
    have HW := hideP hV
    clear CY hV hJs
    gi_wp2
    rw [← HW.out]
    have hR2 : RoundIn Fence.wide (n - 1) Tryz.prog l fn tmps assign body V.drew fun e W' => ∃ r : Bool, e = .returned (.bool r) ∧ ((r = true ∧ J ((xs.zip ys).take k ++ [(x, y)]) W' ∧ Span lo hi V.drew W') ∨ (r = false ∧ Jx ((xs.zip ys).take k ++ [(x, y)]) W')) := by
     refine hR.mono ?_
     rintro e W' (⟨rfl, h1, h2⟩ | ⟨rfl, h1⟩)
     ·exact ⟨true, rfl, .inl ⟨rfl, h1, h2⟩⟩
     ·exact ⟨false, rfl, .inr ⟨rfl, h1⟩⟩
    have fm : Tryz.prog.follows .mixedOrders = true := by kernel_rfl
    gi_region_with_o (refine ⟨fun h => (by cases h), ?_⟩; refine hR2.mono ?_; rintro e W3 ⟨r, rfl, hr⟩)
    all_goals
     rcases hr with ⟨rfl, hJ3, hk3⟩ | ⟨rfl, hJx3⟩
     ·gi_wp2
      go_roundw
      case rel => exact ⟨k + 1, by omega, by simp, by rw [HT.out]; exact hJ3, sV.trans hk3, by have := (bV.size); have := hk3.size; omega⟩
      case measure => simp [intOf]; omega
     ·gi_wp2
      refine bodyPost_ret (results_none rfl _ _ _) rfl ?_
      exact ⟨⟨_, rfl⟩, .inr ⟨_, by rw [← HT.out]; exact List.take_prefix _ _, hJx3⟩⟩
   ·have hk' : k = xs.length := by omega
    subst hk'
    have HJ := hideP hJs
    clear hJs
    gi_wp2
    go_end0
    refine ⟨⟨_, rfl⟩, .inl ⟨_, ?_, HJ.out⟩⟩
    have := HXY.out
    exact List.take_of_length_le (by rw [List.length_zip]; exact Nat.min_le_left _ _)
theorem seqF (n A B lo hi : Nat) (xs ys : List Fr) (hl : xs.length ≤ 1000000) (w : World) (hh : hi ≤ w.heap.size) (hP : PairsIn 3 cellsF w lo hi A B xs ys) :
  SeqStopsK Fence.wide n Tryz.prog 152 #[.pointer (some ⟨A, 0, none⟩), .pointer (some ⟨B, 0, none⟩)] (fun x : Fr × Fr => #[frV x.1, frV x.2]) (Span lo hi) (fun zs => zs = xs.zip ys) (fun pre => pre <+: xs.zip ys) xs.length w :=
 fun l J Jx W hW hJ _ hY h0 => iterF n l A B lo hi xs ys hl J Jx W hJ (Nat.le_trans hh hW.size) hY (hP.later (Bl.span hW hh)) h0
end Go.Proofs.YtljmggemdkfbiaaGreat
namespace Go.Proofs.YtljmggemdkfbiaaGreat
open Go.RowKit
set_option linter.unusedSimpArgs false
set_option linter.unusedVariables false
theorem wpAnyIn_phase {F : Fence} {n : Nat} {P : Program} {md : Region.Mode} {ops : Array Oper} {Q : Exit → Act → World → Prop} {fuel : Nat} (I : Nat → Array Bool → Act → World → Prop)
  (fin : ∀ l a w, I 0 l a w → wpAnyIn F n P md ops Q fuel l a w)
  (live : ∀ k l a w, I (k + 1) l a w → Region.ready md ops l = [] → False)
  (step : ∀ k l a w i, I (k + 1) l a w → l.getD i true = false → (∀ e, (∃ o, ops[i]? = some o ∧ e ∈ o.after) → Region.binds md e = true → l.getD e.on false = true) → wpOpIn F n P ops Q i (fun a' w' => I k (l.setIfInBounds i true) a' w') a w) :
  ∀ (k : Nat) (l : Array Bool) (a : Act) (w : World), I k l a w → wpAnyIn F n P md ops Q (fuel + k) l a w
 | 0, l, a, w, h => fin l a w h
 | k + 1, l, a, w, h => ⟨fun h0 => (live k l a w h h0).elim, fun i hi => by
   obtain ⟨h1, o, ho, hall⟩ := mem_ready.1 hi
   refine wpOpIn_mono (fun a' w' h' => wpAnyIn_phase I fin live step k _ a' w' h') (step k l a w i h h1 (fun e ⟨o', ho', he⟩ hb => ?_))
   rw [ho] at ho'
   cases ho'
   exact hall e he hb⟩
theorem stepIn_append {F : Fence} {nF : Nat} {P : Program} {o : Oper} {a : Act} {w : World} {K : Act → World → Prop} {Q : Exit → Act → World → Prop} (s x : Operand) (t : TypeId)
  (ho : o.op = .call { callee := .builtin .append, args := #[s, x], argTypes := #[t, t] })
  (base : Nat) (e : TypeId) (i : TypeInfo) (z : Value) (size bytes : Nat) (ht : P.underlying t = some (.slice e)) (hi : P.info? e = some i) (hz : i.zero = some z)
  (hsize : i.size = size) (hby : i.bytes = bytes) (hzs : z.cells.size = size) (hsz : 0 < size)
  (v : Value) (n : Nat) (xs : List Value) (hs : a.eval s = v) (hown : w.ownsRow base e size v n xs)
  (ad : Addr) (m c : Nat) (news : List Value) (hx : a.eval x = .slice (some ad) m c) (hl : news.length = m * size) (hnews : ∀ j u, news[j]? = some u → w.cell? (ad.add j) = some u) (h1 : ∀ u ∈ news, u.oneCell' = true)
  (h63 : n + m ≤ maxLen) (hbytes : (n + m) * bytes ≤ 140737488355328) (hbase : base ≤ w.heap.size)
  (h : ∀ v' w', w'.ownsRow base e size v' (n + m) (xs ++ news) → w.grownBy w' v.ownBlock → (v'.ownBlock = v.ownBlock ∨ v'.ownBlock = some w.heap.size) → K (a.put o.dst v') w') :
  Oper.wpIn F nF P o a w K Q := by
 obtain ⟨v', w', hr, h2, h3, h4, h5⟩ := run_append_own_at (P := P) w base t o.type e i z size bytes ht hi hz hsize hby hzs hsz v n xs hown ad m c news hl hnews h1 h63 hbytes hbase
 unfold Oper.wpIn
 refine ⟨by simp [Oper.about, ho, resolve, Target.leads, Sem.run_pure], ?_⟩
 rw [Oper.semAt_plain F _ _ (by rw [ho]; intro c hc'; cases hc')]
 simp [execOp, ho, resolve, invoke, builtin, hs, hx, hr, Result.andThen]
 exact h v' w' h2 h3 h5
def one' (b : Bool) : Nat := if b then 0 else 1
theorem getD_lt' {l : Array Bool} {i : Nat} (h : l.getD i true = false) : i < l.size := by
 rcases Nat.lt_or_ge i l.size with h' | h'
 ·exact h'
 ·simp [Array.getD, Nat.not_lt.2 h'] at h
def opL {α : Type} (op : α → α → α) (pre : List (α × α)) : List α := pre.map fun p => op p.1 p.2
theorem opL_snoc {α : Type} (op : α → α → α) (pre : List (α × α)) (x : α × α) : opL op (pre ++ [x]) = opL op pre ++ [op x.1 x.2] := by simp [opL]
theorem opL_zip {α : Type} (op : α → α → α) (xs ys : List α) (m : Nat) (h : m = min xs.length ys.length) : opL op ((xs.take m).zip (ys.take m)) = List.zipWith op xs ys := by
 subst h
 induction xs generalizing ys with
 | nil => simp [opL]
 | cons x xs ih =>
  cases ys with
  | nil => simp [opL]
  | cons y ys =>
   have := ih ys
   simp only [opL, List.length_cons] at this ⊢
   rw [show min (xs.length + 1) (ys.length + 1) = min xs.length ys.length + 1 by omega]
   simp [List.take_succ_cons, this]
theorem boxed_bl {w w' : World} {B : Nat} {t : TypeId} {v : Value} (h : Boxed w B t v) (k : Bl w w') : Boxed w' B t v := (Below.block k B h.lt).trans h
theorem span_b {lo hi : Nat} {w : World} (hh : hi ≤ w.heap.size) (W : World) (l : Nat) (o o' : Obj) (hl : w.heap.size ≤ l) (h : W.heap[l]? = some o) (_ : o.isCells = false) (_ : o.isWalk = false) : Span lo hi W (W.putObj l o') :=
 ⟨by simp [World.putObj], fun k _ h2 => World.putObj_heap_other (by omega)⟩
theorem Bl.keeps {w w' : World} (B : Nat) (h : Bl w w') : KeepsFrom B w w' := by
 refine ⟨h.size, fun k o h1 h2 h3 => ?_⟩
 exact (Below.block h k (Array.getElem?_eq_some_iff.1 h2).1).trans h2
theorem boxed_appended {u w5 : World} {n₀ B : Nat} {t e : TypeId} {size : Nat} {v v' : Value} {k m : Nat} {xs ys : List Value}
  (hv : Boxed u B t v) (hte : t ≠ e) (hrow : u.ownsRow n₀ e size v k xs) (hn₀ : n₀ ≤ u.heap.size) (hB : n₀ ≤ B)
  (hown' : w5.ownsRow n₀ e size v' m ys) (hgrow : u.grownBy w5 v.ownBlock) :
  Boxed w5 B t v ∧ Boxed (w5.setCell ⟨B, 0, none⟩ v') B t v' ∧ (w5.setCell ⟨B, 0, none⟩ v').ownsRow n₀ e size v' m ys ∧ KeepsOthers u (w5.setCell ⟨B, 0, none⟩ v') ∧ Below n₀ u (w5.setCell ⟨B, 0, none⟩ v') := by
 have hv1 : Boxed w5 B t v := hv.kept hgrow (hv.not_row hte hrow)
 refine ⟨hv1, hv1.set v', hown'.kept (grownBy_setCell' w5 B v') (.inr (hv1.not_row hte hown').symm), ?_, ?_⟩
 ·refine (KeepsOthers.of_grownBy hgrow fun j o ej hj => ?_).trans (KeepsOthers.setCell _ _ _)
  rcases hrow.2 with ⟨rfl, _⟩ | ⟨g, cap, cur, rfl, _, hgb, _⟩
  ·simp [Value.ownBlock] at ej
  ·obtain rfl : g = j := by simpa [Value.ownBlock] using ej
   rw [hgb] at hj; cases hj; rfl
 ·exact ((Below.refl n₀ u).grown hgrow hn₀ (fun j ej => (hrow.lt j ej).1)).setCell (p := ⟨B, 0, none⟩) hB v'
theorem span_appended {W u w5 : World} {lo hi R : Nat} {v v' : Value} (hB : Bl W u) (hh : hi ≤ W.heap.size) (hg : ∀ g, v.ownBlock = some g → g < lo ∨ hi ≤ g) (hgrow : u.grownBy w5 v.ownBlock) (hR : R < lo) : Span lo hi W (w5.setCell ⟨R, 0, none⟩ v') := by
 refine ⟨by have := hB.size; have := hgrow.size; simp; omega, fun k h1 h2 => ?_⟩
 have e1 : (w5.setCell ⟨R, 0, none⟩ v').heap[k]? = w5.heap[k]? := Below.heap_setCell _ _ _ k (by show k ≠ R; omega)
 have e2 : w5.heap[k]? = u.heap[k]? := hgrow.block k (by have := hB.size; omega) (fun e => by rcases hg k e.symm with h | h <;> omega)
 exact (e1.trans e2).trans (Below.block hB k (by omega))
end Go.Proofs.YtljmggemdkfbiaaGreat
namespace Go.Proofs.YtljmggemdkfbiaaGreat
open Go.RowKit Go.Shelf
set_option linter.unusedSimpArgs false
set_option linter.unusedVariables false
attribute [local go_sem] Oper.semAt_some
theorem FBox.own {X Y : World} {b : Nat} {x : Fr} {row : Option Nat} (h : FBox X b x) (hg : X.grownBy Y row) (hr : ∀ r, row = some r → ∃ o : Obj, X.heap[r]? = some o ∧ o.isCells = false) : FBox Y b x :=
 ⟨cell_kept h.c0 hg hr, cell_kept h.c1 hg hr, cell_kept h.c2 hg hr, (frozen_kept h.c0 hg hr).trans h.f0, (frozen_kept h.c1 hg hr).trans h.f1, (frozen_kept h.c2 hg hr).trans h.f2, by have := h.lt; have := hg.size; omega⟩
theorem FBox.cells {w : World} {b : Nat} {x : Fr} (h : FBox w b x) : ∀ j u, (cellsF x)[j]? = some u → w.cell? ((⟨b, 0, none⟩ : Addr).add j) = some u := by
 intro j u hu
 have hadd : (⟨b, 0, none⟩ : Addr).add j = ⟨b, j, none⟩ := by unfold Addr.add; split <;> simp_all
 rw [hadd]
 unfold cellsF at hu
 rcases j with _ | _ | _ | j
 ·simp at hu; rw [← hu]; exact h.c0
 ·simp at hu; rw [← hu]; exact h.c1
 ·simp at hu; rw [← hu]; exact h.c2
 ·simp at hu
def eachActF (t0 t1 t2 t6 t10 t11 t12 t13 t14 t15 t16 t17 t18 t19 t20 : Value) (D R X Y : Nat) (v21 v22 v23 v24 v25 v26 : Value) : Act :=
 { tmps := #[t0, t1, t2, undef, undef, .pointer (some ⟨D, 0, none⟩), t6, .pointer (some ⟨R, 0, none⟩), .pointer (some ⟨X, 0, none⟩), .pointer (some ⟨Y, 0, none⟩), t10, t11, t12, t13, t14, t15, t16, t17, t18, t19, t20, v21, v22, v23, v24, v25, v26, undef, undef], defers := [] }
def EachIF (A : Value → Value → Value → Value → Value → Value → Act) (v f : Value) (x y z : Fr) (W : World) (k : Nat) (l : Array Bool) (act : Act) (u : World) : Prop :=
 ∃ (l0 l1 l2 l3 l4 l5 : Bool) (v21 v22 v23 v24 v25 v26 : Value) (g : Nat), l = #[l0, l1, l2, l3, l4, l5, false, false] ∧ k = one' l0 + one' l1 + one' l2 + one' l3 + one' l4 + one' l5 ∧ act = A v21 v22 v23 v24 v25 v26
  ∧ (l0 = true → v21 = v) ∧ (l1 = true → v22 = f) ∧ (l2 = true → v23 = frV x) ∧ (l3 = true → v24 = frV y) ∧ (l4 = true → v25 = frV z) ∧ (l5 = true → v26 = .slice (some ⟨g, 0, none⟩) 1 1 ∧ FBox u g z)
  ∧ (l4 = true → l1 = true ∧ l2 = true ∧ l3 = true) ∧ (l5 = true → l4 = true) ∧ Bl W u
set_option maxRecDepth 100000 in
set_option maxHeartbeats 2000000 in
theorem eachF' (K : Nat) (op : Fr → Fr → Fr) (hK : ∀ a b w, Calls Tryz.prog K #[frV a, frV b] w fun e w' => e = .returned (frV (op a b)) ∧ Bl w w') (eg : ∀ args w, (callFunc K args).run Tryz.prog w = .ok (.enter K args) w)
  (va vb : Value) (xs ys : List Fr) (w : World) (ha : Rq 3 cellsF w va xs) (hb : Rq 3 cellsF w vb ys) (hl : xs.length ≤ 1000000) (hm : ys.length ≤ 1000000) :
  Calls Tryz.prog 93 #[va, vb, .func (.func K) #[] #[]] w fun e w' => ∃ u, e = .returned u ∧ Rw 3 cellsF w' u (List.zipWith op xs ys) ∧ Fresh w.heap.size u ∧ Bl w w' := by
 obtain ⟨i0, hi, hz0, hz1, hz2⟩ := info_parts Tryz.info_F
 refine (callsIn_wide (n := 6)).1 ?_
 obtain ⟨p, cap, rfl, hc, _⟩ := ha.cut
 obtain ⟨q, dap, rfl, hd, _⟩ := hb.cut
 have HA := hideP ha
 have HB := hideP hb
 clear ha hb
 have HK := hideP hK
 clear hK
 obtain ⟨m, hmin⟩ : ∃ m, m = min xs.length ys.length := ⟨_, rfl⟩
 have hm0 : min (xs.length : Int) (ys.length : Int) = (m : Int) := by omega
 have hm1 : (if ys.length < xs.length then (ys.length : Int) else (xs.length : Int)) = (m : Int) := by split <;> omega
 have hml : m ≤ 1000000 := by omega
 have HM := hideP hmin
 clear hmin
 refine callsIn_of_wp_marks Tryz.func93 rfl trivial ?_ rfl
 simp only [Tryz.ntmps93, List.size_toArray, List.length_cons, List.length_nil, Nat.reduceAdd, Nat.reduceSub, Array.replicate_succ, Array.replicate_zero, List.push_toArray, List.append_toArray, List.nil_append, List.cons_append]
 gi_wp2_with (first
  | (gi_at_make; refine wpListIn_make_own _ rfl _ _ 28 rfl w.heap.size 34 i0 (.agg #[.int .i64 0, .int .i64 0, .bool false]) 3 Tryz.underlying28 hi hz0 hz1 .i64 .i64 _ m rfl rfl (by simp) (by rw [hz2]; omega) (by unfold maxLen; omega) (by simp) ?_; intro w0 hown0 hgrow0; have hB0 : Bl w w0 := ((Bl.refl w).alloc _).grown hgrow0 (by simp) (fun k e => by cases e))
  | (refine ⟨trivial, ?_⟩; refine (callsIn_wide.2 (vPairsF _ _ xs ys _ (HA.out.later (hB0.alloc _)) (HB.out.later (hB0.alloc _)) hl hm)).mono ?_; rintro e w3 ⟨rfl, hP, hB3⟩))
 simp only [World.size_alloc] at hP hown0
 have hszl : w0.heap.size + 1 ≤ w3.heap.size := by have := hB3.size; simpa using this
 have hsz0 : w.heap.size + 1 ≤ w0.heap.size := by have := hgrow0.size; simpa using this
 have hB : Bl w w3 := (hB0.alloc _).trans hB3
 have bD : Boxed w3 w.heap.size 126 (.func (.func K) #[] #[]) := boxed_bl (((Boxed.new w 126 (.func (.func K) #[] #[])).kept hgrow0 (by simp)).alloc _) hB3
 have bR : Boxed w3 w0.heap.size 28 (.slice (some ⟨w.heap.size + 1, 0, none⟩) 0 m) := boxed_bl (Boxed.new w0 28 _) hB3
 have hrow : w3.ownsRow w.heap.size 34 3 (.slice (some ⟨w.heap.size + 1, 0, none⟩) 0 m) 0 [] := own_blF (hown0.alloc _) hB3
 clear hown0
 have HP := hideP hP
 clear hP
 refine wpIn_rangeFunc_ownH rfl (by omega) (gf := 152) (lb := #[.pointer (some ⟨w0.heap.size + 1, 0, none⟩), .pointer (some ⟨w0.heap.size + 1 + 1, 0, none⟩)]) rfl trivial (enters_of Tryz.func152 (by kernel_rfl) rfl)
  (seqF 5 _ _ _ w3.heap.size _ _ (by simp; omega) w3 (Nat.le_refl _) HP.out) (fun h k => h.trans k) (span_b (Nat.le_refl _)) (Below.refl _ _) (fun _ => rfl)
  (fun pre W => (∃ v, Boxed W w0.heap.size 28 v ∧ W.ownsRow w.heap.size 34 3 v (opL op pre).length ((opL op pre).flatMap cellsF) ∧ (∀ g, v.ownBlock = some g → g < w0.heap.size + 1 ∨ w3.heap.size ≤ g)) ∧ (Boxed W w.heap.size 126 (.func (.func K) #[] #[]) ∧ (Below w.heap.size w W ∧ w3.heap.size ≤ W.heap.size)))
  (fun _ _ _ => False)
  (OwnFrom.and (Own.from (holdsRow_own w.heap.size w0.heap.size 28 34 3 (fun pre => (opL op pre).length) (fun pre => (opL op pre).flatMap cellsF) (fun pre v => ∀ g, v.ownBlock = some g → g < w0.heap.size + 1 ∨ w3.heap.size ≤ g)) _) (OwnFrom.and (Own.from (boxed_own _ _ _) _) (OwnFrom.and (ownFrom_below (Nat.le_refl _) hB.size) (fun _ _ _ _ h hg _ => Nat.le_trans h hg.size))))
  (fun _ _ _ _ _ hs _ _ => hs)
  ⟨⟨_, bR, hrow, fun g hg => by cases hg; exact .inl (by show w.heap.size + 1 < _; omega)⟩, bD, hB, Nat.le_refl _⟩
  (fun x a' W => ∃ Bx, w3.heap.size ≤ Bx ∧ FBox W Bx x.1 ∧ FBox W (Bx + 1) x.2 ∧ a' = eachActF (.slice p xs.length cap) (.slice q ys.length dap) (.func (.func K) #[] #[]) (.slice none 0 0) (.slice p xs.length cap) (.int .i64 xs.length) (.slice q ys.length dap) (.int .i64 ys.length) (.int .i64 m) (.slice (some ⟨w.heap.size + 1, 0, none⟩) 0 m) (.slice p xs.length cap) (.slice q ys.length dap) (.func (.func 152) #[] #[.pointer (some ⟨w0.heap.size + 1, 0, none⟩), .pointer (some ⟨w0.heap.size + 1 + 1, 0, none⟩)]) (frV x.1) (frV x.2) w.heap.size w0.heap.size Bx (Bx + 1) undef undef undef undef undef undef)
  (fun x a' _ X Y row hs hg hr => by obtain ⟨Bx, h0, h1, h2, h3⟩ := hs; exact ⟨Bx, h0, h1.own hg (fun r e => (hr r e).2), h2.own hg (fun r e => (hr r e).2), h3⟩)
  ?assign ?body ?done ?stop
 case assign =>
  rintro l pre x W K' ⟨⟨v, hv, hr, hg⟩, hd, hBW, hsW⟩ hK'
  have HK2 := hideP hK'
  clear hK'
  gi_wp2
  have hb2 : Bl W ((W.alloc (.cells #[.int .i64 x.1.n, .int .i64 x.1.d, .bool x.1.bad] 34)).alloc (.cells #[.int .i64 x.2.n, .int .i64 x.2.d, .bool x.2.bad] 34)) := ((Bl.refl W).alloc _).alloc _
  exact HK2.out _ _ (hb2.keeps _) (hb2.span hsW) ⟨⟨v, (hv.alloc _).alloc _, (hr.alloc _).alloc _, hg⟩, (hd.alloc _).alloc _, hBW.trans (hb2.mono hBW.size), by have := hb2.size; omega⟩
   ⟨W.heap.size, hsW, (FBox.new W x.1 _).later ((Bl.refl _).alloc _), by have := FBox.new (W.alloc (.cells #[.int .i64 x.1.n, .int .i64 x.1.d, .bool x.1.bad] 34)) x.2 34; simpa using this, rfl⟩
 case body =>
  rintro l pre ⟨x, y⟩ a' W hl' ⟨r, hr'⟩ ⟨⟨v, hv, hrow, hg⟩, hd, hBW, hsW⟩ ⟨Bx, hBx, b1, b2, rfl⟩ hlt
  have fm : Tryz.prog.follows .mixedOrders = true := by kernel_rfl
  have HV := hideP hv
  have HD := hideP hd
  have HR := hideP hrow
  have B1 := hideP b1
  have B2 := hideP b2
  have HG := hideP hg
  have HBW := hideP hBW
  clear hv hd hrow b1 b2 hg hBW
  obtain ⟨z, hz⟩ : ∃ z, z = op x y := ⟨_, rfl⟩
  have HK3 := hideP (fun u => HK.out x y u)
  rw [← hz] at HK3
  have HZ := hideP hz
  clear hz
  have hpl : (opL op pre).length = pre.length := by simp [opL]
  have hlt' : pre.length ≤ 1000000 := by simp at hlt; omega
  obtain ⟨A, hA⟩ : ∃ A, A = eachActF (.slice p xs.length cap) (.slice q ys.length dap) (.func (.func K) #[] #[]) (.slice none 0 0) (.slice p xs.length cap) (.int .i64 xs.length) (.slice q ys.length dap) (.int .i64 ys.length) (.int .i64 m) (.slice (some ⟨w.heap.size + 1, 0, none⟩) 0 m) (.slice p xs.length cap) (.slice q ys.length dap) (.func (.func 152) #[] #[.pointer (some ⟨w0.heap.size + 1, 0, none⟩), .pointer (some ⟨w0.heap.size + 1 + 1, 0, none⟩)]) (frV x) (frV y) w.heap.size w0.heap.size Bx (Bx + 1) := ⟨_, rfl⟩
  show Code.wpIn _ _ _ _ _ (eachActF _ _ _ _ _ _ _ _ _ _ _ _ _ (frV x) (frV y) _ _ _ _ _ _ _ _ _ _) W
  rw [← hA]
  have HAct := hideP hA
  clear hA
  gi_wp2
  refine wpIn_region_any fm ?_
  change wpAnyIn _ _ _ _ _ _ _ _ _ (World.drew _)
  refine wpAnyIn_phase (fuel := 2) (EachIF A v (.func (.func K) #[] #[]) x y z W) ?fin ?live ?step 6 _ _ _ ⟨false, false, false, false, false, false, undef, undef, undef, undef, undef, undef, 0, rfl, rfl, rfl, nofun, nofun, nofun, nofun, nofun, nofun, nofun, nofun, (Bl.refl _).drew⟩
  case live =>
   intro k l act u h h0
   obtain ⟨l0, l1, l2, l3, l4, l5, v21, v22, v23, v24, v25, v26, g, rfl, hk, rfl, e0, e1, e2, e3, e4, e5, c4, c5, hB⟩ := h
   rw [List.eq_nil_iff_forall_not_mem] at h0
   cases l0
   ·exact h0 0 (mem_ready.2 ⟨rfl, _, rfl, fun e he => by simp at he⟩)
   cases l1
   ·exact h0 1 (mem_ready.2 ⟨rfl, _, rfl, fun e he => by simp at he⟩)
   cases l2
   ·exact h0 2 (mem_ready.2 ⟨rfl, _, rfl, fun e he => by simp at he⟩)
   cases l3
   ·exact h0 3 (mem_ready.2 ⟨rfl, _, rfl, fun e he => by simp at he⟩)
   cases l4
   ·exact h0 4 (mem_ready.2 ⟨rfl, _, rfl, fun e he hb => by simp at he; rcases he with rfl | rfl | rfl <;> rfl⟩)
   cases l5
   ·exact h0 5 (mem_ready.2 ⟨rfl, _, rfl, fun e he hb => by simp at he; rcases he with rfl; rfl⟩)
   simp [one'] at hk
  case step =>
   intro k l act u i h hi' hall
   obtain ⟨l0, l1, l2, l3, l4, l5, v21, v22, v23, v24, v25, v26, g, rfl, hk, rfl, e0, e1, e2, e3, e4, e5, c4, c5, hB⟩ := h
   have hlt2 := getD_lt' hi'
   simp only [List.size_toArray, List.length_cons, List.length_nil] at hlt2
   have cR : u.cell? ⟨w0.heap.size, 0, none⟩ = some v := (boxed_bl HV.out hB).cell
   have cD : u.cell? ⟨w.heap.size, 0, none⟩ = some (.func (.func K) #[] #[]) := (boxed_bl HD.out hB).cell
   obtain ⟨c0, c1, c2, f0, f1, f2, lt1⟩ := B1.out.later hB
   obtain ⟨d0, d1, d2, g0, g1, g2, lt2⟩ := B2.out.later hB
   rcases (by omega : i = 0 ∨ i = 1 ∨ i = 2 ∨ i = 3 ∨ i = 4 ∨ i = 5 ∨ i = 6 ∨ i = 7) with rfl | rfl | rfl | rfl | rfl | rfl | rfl | rfl
   ·skip
    have hl0 : l0 = false := hi'
    subst hl0
    have E0 := hideP e0
    have E1 := hideP e1
    have E2 := hideP e2
    have E3 := hideP e3
    have E4 := hideP e4
    have E5 := hideP e5
    have C4 := hideP c4
    have C5 := hideP c5
    have HKk := hideP hk
    have HBu := hideP hB
    clear e0 e1 e2 e3 e4 e5 c4 c5 hk hB hi' hall
    refine wpOpIn_step (o := _) rfl (fun K' hK0 => ?_)
    have hK' := hideP hK0
    clear hK0
    rw [HAct.out]
    unfold eachActF
    try simp only [List.getElem_toArray, List.getElem_cons_zero, List.getElem_cons_succ]
    go_simp
    exact hK'.out _ _ ⟨true, l1, l2, l3, l4, l5, (v), v22, v23, v24, v25, v26, g, rfl, by have := HKk.out; simp [one'] at this ⊢; omega, by rw [HAct.out]; rfl, fun _ => rfl, E1.out, E2.out, E3.out, E4.out, E5.out, C4.out, C5.out, HBu.out⟩
   ·skip
    have hl0 : l1 = false := hi'
    subst hl0
    have E0 := hideP e0
    have E1 := hideP e1
    have E2 := hideP e2
    have E3 := hideP e3
    have E4 := hideP e4
    have E5 := hideP e5
    have C4 := hideP c4
    have C5 := hideP c5
    have HKk := hideP hk
    have HBu := hideP hB
    clear e0 e1 e2 e3 e4 e5 c4 c5 hk hB hi' hall
    refine wpOpIn_step (o := _) rfl (fun K' hK0 => ?_)
    have hK' := hideP hK0
    clear hK0
    rw [HAct.out]
    unfold eachActF
    try simp only [List.getElem_toArray, List.getElem_cons_zero, List.getElem_cons_succ]
    go_simp
    exact hK'.out _ _ ⟨l0, true, l2, l3, l4, l5, v21, (.func (.func K) #[] #[]), v23, v24, v25, v26, g, rfl, by have := HKk.out; simp [one'] at this ⊢; omega, by rw [HAct.out]; rfl, E0.out, fun _ => rfl, E2.out, E3.out, E4.out, E5.out, fun h => ⟨rfl, (C4.out h).2.1, (C4.out h).2.2⟩, C5.out, HBu.out⟩
   ·skip
    have hl0 : l2 = false := hi'
    subst hl0
    have E0 := hideP e0
    have E1 := hideP e1
    have E2 := hideP e2
    have E3 := hideP e3
    have E4 := hideP e4
    have E5 := hideP e5
    have C4 := hideP c4
    have C5 := hideP c5
    have HKk := hideP hk
    have HBu := hideP hB
    clear e0 e1 e2 e3 e4 e5 c4 c5 hk hB hi' hall
    refine wpOpIn_step (o := _) rfl (fun K' hK0 => ?_)
    have hK' := hideP hK0
    clear hK0
    rw [HAct.out]
    unfold eachActF
    try simp only [List.getElem_toArray, List.getElem_cons_zero, List.getElem_cons_succ]
    go_simp
    exact hK'.out _ _ ⟨l0, l1, true, l3, l4, l5, v21, v22, (frV x), v24, v25, v26, g, rfl, by have := HKk.out; simp [one'] at this ⊢; omega, by rw [HAct.out]; rfl, E0.out, E1.out, fun _ => rfl, E3.out, E4.out, E5.out, fun h => ⟨(C4.out h).1, rfl, (C4.out h).2.2⟩, C5.out, HBu.out⟩
   ·skip
    have hl0 : l3 = false := hi'
    subst hl0
    have E0 := hideP e0
    have E1 := hideP e1
    have E2 := hideP e2
    have E3 := hideP e3
    have E4 := hideP e4
    have E5 := hideP e5
    have C4 := hideP c4
    have C5 := hideP c5
    have HKk := hideP hk
    have HBu := hideP hB
    clear e0 e1 e2 e3 e4 e5 c4 c5 hk hB hi' hall
    refine wpOpIn_step (o := _) rfl (fun K' hK0 => ?_)
    have hK' := hideP hK0
    clear hK0
    rw [HAct.out]
    unfold eachActF
    try simp only [List.getElem_toArray, List.getElem_cons_zero, List.getElem_cons_succ]
    go_simp
    exact hK'.out _ _ ⟨l0, l1, l2, true, l4, l5, v21, v22, v23, (frV y), v25, v26, g, rfl, by have := HKk.out; simp [one'] at this ⊢; omega, by rw [HAct.out]; rfl, E0.out, E1.out, E2.out, fun _ => rfl, E4.out, E5.out, fun h => ⟨(C4.out h).1, (C4.out h).2.1, rfl⟩, C5.out, HBu.out⟩
   ·skip
    have hl0 : l4 = false := hi'
    subst hl0
    have h1 : l1 = true := hall ⟨1, .data⟩ ⟨_, rfl, by simp⟩ rfl
    have h2 : l2 = true := hall ⟨2, .data⟩ ⟨_, rfl, by simp⟩ rfl
    have h3 : l3 = true := hall ⟨3, .data⟩ ⟨_, rfl, by simp⟩ rfl
    obtain rfl := e1 h1
    obtain rfl := e2 h2
    obtain rfl := e3 h3
    have E0 := hideP e0
    have E1 := hideP e1
    have E2 := hideP e2
    have E3 := hideP e3
    have E4 := hideP e4
    have E5 := hideP e5
    have C4 := hideP c4
    have C5 := hideP c5
    have HKk := hideP hk
    have HBu := hideP hB
    have H1 := hideP h1
    have H2 := hideP h2
    have H3 := hideP h3
    clear h1 h2 h3
    clear e0 e1 e2 e3 e4 e5 c4 c5 hk hB hi' hall
    refine wpOpIn_step (o := _) rfl (fun K' hK0 => ?_)
    have hK' := hideP hK0
    clear hK0
    rw [HAct.out]
    unfold eachActF
    try simp only [List.getElem_toArray, List.getElem_cons_zero, List.getElem_cons_succ]
    go_simp
    refine ⟨trivial, ?_⟩
    refine (CallsIn.inRound l (callsIn_wide.2 (HK3.out _))).mono ?_
    rintro e w4 ⟨rfl, h4⟩
    try gi_wp2
    exact hK'.out _ _ ⟨l0, l1, l2, l3, true, l5, v21, (.func (.func K) #[] #[]), (frV x), (frV y), (frV z), v26, g, rfl, by have := HKk.out; simp [one'] at this ⊢; omega, by rw [HAct.out]; rfl, E0.out, fun _ => rfl, fun _ => rfl, fun _ => rfl, fun _ => rfl, fun h => absurd (C5.out h) (by simp), fun _ => ⟨H1.out, H2.out, H3.out⟩, fun _ => rfl, HBu.out.trans h4⟩
   ·skip
    have hl0 : l5 = false := hi'
    subst hl0
    have h4 : l4 = true := hall ⟨4, .data⟩ ⟨_, rfl, by simp⟩ rfl
    obtain rfl := e4 h4
    have E0 := hideP e0
    have E1 := hideP e1
    have E2 := hideP e2
    have E3 := hideP e3
    have E4 := hideP e4
    have E5 := hideP e5
    have C4 := hideP c4
    have C5 := hideP c5
    have HKk := hideP hk
    have HBu := hideP hB
    have H4 := hideP h4
    clear h4
    clear e0 e1 e2 e3 e4 e5 c4 c5 hk hB hi' hall
    refine wpOpIn_step (o := _) rfl (fun K' hK0 => ?_)
    have hK' := hideP hK0
    clear hK0
    rw [HAct.out]
    unfold eachActF
    try simp only [List.getElem_toArray, List.getElem_cons_zero, List.getElem_cons_succ]
    go_simp
    exact hK'.out _ _ ⟨l0, l1, l2, l3, l4, true, v21, v22, v23, v24, (frV z), (.slice (some ⟨u.heap.size, 0, none⟩) 1 1), u.heap.size, rfl, by have := HKk.out; simp [one'] at this ⊢; omega, by rw [HAct.out]; rfl, E0.out, E1.out, E2.out, E3.out, fun _ => rfl, fun _ => ⟨rfl, FBox.new u z _⟩, C4.out, fun _ => H4.out, HBu.out.alloc _⟩
   ·exfalso
    have h0 : l0 = true := hall ⟨0, .data⟩ ⟨_, rfl, by simp⟩ rfl
    have h4 : l4 = true := hall ⟨4, .chain⟩ ⟨_, rfl, by simp⟩ rfl
    have h5 : l5 = true := hall ⟨5, .data⟩ ⟨_, rfl, by simp⟩ rfl
    obtain ⟨h1, h2, h3⟩ := c4 h4
    rw [h0, h1, h2, h3, h4, h5] at hk
    simp [one'] at hk
   ·exact Bool.noConfusion (show false = true from hall ⟨6, .data⟩ ⟨_, rfl, by simp⟩ rfl)
  case fin =>
   intro l act u h
   obtain ⟨l0, l1, l2, l3, l4, l5, v21, v22, v23, v24, v25, v26, g, rfl, hk, rfl, e0, e1, e2, e3, e4, e5, c4, c5, hB⟩ := h
   obtain ⟨rfl, rfl, rfl, rfl, rfl, rfl⟩ : l0 = true ∧ l1 = true ∧ l2 = true ∧ l3 = true ∧ l4 = true ∧ l5 = true := by
    cases l0 <;> cases l1 <;> cases l2 <;> cases l3 <;> cases l4 <;> cases l5 <;> first | exact ⟨rfl, rfl, rfl, rfl, rfl, rfl⟩ | (simp [one'] at hk)
   obtain rfl := e0 rfl
   obtain rfl := e1 rfl
   obtain rfl := e2 rfl
   obtain rfl := e3 rfl
   obtain rfl := e4 rfl
   obtain ⟨rfl, bz⟩ := e5 rfl
   clear e0 e1 e2 e3 e4 e5 c4 c5 hk
   have hvu := boxed_bl HV.out hB
   have hru := own_blF HR.out hB
   have hus : w.heap.size ≤ u.heap.size := by have := HBW.out.size; have := hB.size; omega
   refine wpAnyIn_ready (rs := [6]) (by kernel_rfl) (by simp) ?_
   refine AllReadyIn.cons (i := 6) (o := _) rfl (fun K' hK' => ?_) AllReadyIn.nil
   rw [if_pos (by rfl)]
   refine stepIn_append (Operand.tmp 21) (Operand.tmp 26) 28 rfl w.heap.size 34 i0 (.agg #[.int .i64 0, .int .i64 0, .bool false]) 3 24 Tryz.underlying28 hi hz0 hz1 hz2 rfl (by decide) v21 _ _ (by rw [HAct.out]; rfl) hru ⟨g, 0, none⟩ 1 1 (cellsF z) (by rw [HAct.out]; rfl) rfl bz.cells (oneF_cells _) (by unfold maxLen; omega) (by omega) hus ?_
   intro v' w5 hown' hgrow hat
   refine hK' _ _ ?_
   clear hK' K'
   obtain ⟨g', cap', rfl⟩ := ownsRow_succ hown'
   obtain ⟨hv5, hv6, hr6, hk6, hb6⟩ := boxed_appended hvu (by decide) hru hus (by omega) hown' hgrow
   have cv5 := hv5.cell
   have fv5 := hv5.frozen
   have HV6 := hideP hv6
   have HR6 := hideP hr6
   have HSP := hideP (span_appended (R := w0.heap.size) (v' := .slice (some ⟨g', 0, none⟩) ((opL op pre).length + 1) cap') hB hsW HG.out hgrow (Nat.lt_succ_self _))
   have HG' := hideP (show ∀ b, (Value.slice (some ⟨g', 0, none⟩) ((opL op pre).length + 1) cap').ownBlock = some b → b < w0.heap.size + 1 ∨ w3.heap.size ≤ b by
    intro b hb
    rcases hat with h | h
    ·exact HG.out b (h.symm.trans hb)
    ·rw [h] at hb
     cases hb
     exact .inr (by have := hB.size; omega))
   clear hv5 hv6 hr6 hown' hvu hru hat hpl
   rw [HAct.out]
   unfold eachActF
   refine wpAnyIn_ready (rs := [7]) (by kernel_rfl) (by simp) ?_
   refine AllReadyIn.cons (i := 7) (o := _) rfl (fun K' hK' => ?_) AllReadyIn.nil
   have HK4 := hideP hK'
   clear hK'
   try simp only [List.getElem_toArray, List.getElem_cons_zero, List.getElem_cons_succ]
   go_simp
   refine HK4.out _ _ ?_
   refine wpAnyIn_done (by kernel_rfl) ?_ _
   gi_wp2
   have hBf := hB.keeps w3.heap.size
   refine ⟨hBf.trans (hk6.from _), HSP.out, ⟨_, HV6.out, ?_, HG'.out⟩, ?_, HBW.out.trans ((hB.mono HBW.out.size).trans hb6), ?_⟩
   ·have := HR6.out
    rw [opL_snoc, ← HZ.out]
    simpa [List.flatMap_append] using this
   ·exact ((boxed_bl HD.out hB).kept hgrow ((boxed_bl HD.out hB).not_row (by decide) (own_blF HR.out hB))).other (by omega) _
   ·have := hB.size; have := hgrow.size; simp; omega
 case done =>
  rintro D zs W hD rfl ⟨⟨v, hv, hrow, _⟩, _, hBW, hsW⟩ hKD
  have hc := hv.cell
  gi_wp2
  refine ⟨by simp, .inl ⟨_, _, rfl, run_takeDeferred hKD, ?_⟩⟩
  refine ⟨_, results_tmp rfl _ _ _, v, rfl, ?_, fun g hg => (hrow.lt g hg).1, hBW.trans (belowK_b (w := w) (Nat.le_refl _) W D _ _ (by omega) hKD rfl rfl)⟩
  have := ownsRow_putObj hrow (.deferred none) hKD rfl
  rw [← HM.out, opL_zip op xs ys m HM.out] at this
  exact Rw.of_own cellsF_len this
 case stop =>
  rintro D c pre W _ _ h _
  exact h.elim
theorem eachF (K : Nat) (op : Fr → Fr → Fr) (hK : ∀ a b w, Calls Tryz.prog K #[frV a, frV b] w fun e w' => e = .returned (frV (op a b)) ∧ Bl w w') (eg : ∀ args w, (callFunc K args).run Tryz.prog w = .ok (.enter K args) w)
  (va vb : Value) (xs ys : List Fr) (w : World) (ha : Rq 3 cellsF w va xs) (hb : Rq 3 cellsF w vb ys) (hl : xs.length ≤ 1000000) (hm : ys.length ≤ 1000000) :
  Calls Tryz.prog 93 #[va, vb, .func (.func K) #[] #[]] w fun e w' => ∃ u, e = .returned u ∧ Rw 3 cellsF w' u (List.zipWith op xs ys) ∧ Bl w w' :=
 (eachF' K op hK eg va vb xs ys w ha hb hl hm).mono fun _ _ ⟨u, h1, h2, _, h3⟩ => ⟨u, h1, h2, h3⟩
theorem vAddF' (va vb : Value) (xs ys : List Fr) (w : World) (ha : Rq 3 cellsF w va xs) (hb : Rq 3 cellsF w vb ys) (hl : xs.length ≤ 1000000) (hm : ys.length ≤ 1000000) :
  Calls Tryz.prog 49 #[va, vb] w fun e w' => ∃ u, e = .returned u ∧ Rw 3 cellsF w' u (List.zipWith addR xs ys) ∧ Fresh w.heap.size u ∧ Bl w w' := by
 have E := hideP (eachF' 95 addR dAddF (enters_of Tryz.func95 (by kernel_rfl) rfl) va vb xs ys w ha hb hl hm)
 clear ha hb
 go_enter Tryz.func49, Tryz.ntmps49
 go_wp2_with fail
 refine E.out.mono ?_
 rintro e w1 ⟨u, rfl, hr, hf, h1⟩
 go_wp2
 go_ret
 exact ⟨_, rfl, hr, hf, h1⟩
def dotF (xs ys : List Fr) : Fr := sumF (List.zipWith mulR xs ys)
theorem vDotF (va vb : Value) (xs ys : List Fr) (w : World) (ha : Rq 3 cellsF w va xs) (hb : Rq 3 cellsF w vb ys) (hl : xs.length ≤ 1000000) (hm : ys.length ≤ 1000000) :
  Calls Tryz.prog 47 #[va, vb] w fun e w' => e = .returned (frV (dotF xs ys)) ∧ Bl w w' := by
 obtain ⟨W, hW⟩ : ∃ W, W = w.alloc (.cells #[.int .i64 0, .int .i64 0, .bool false] 34) := ⟨_, rfl⟩
 have b0 : Bl w W := by rw [hW]; exact (Bl.refl _).alloc _
 have x0 : FBox W w.heap.size zeroR := by rw [hW]; exact FBox.new w zeroR _
 have E := hideP (eachF 94 mulR dMulF (enters_of Tryz.func94 (by kernel_rfl) rfl) va vb xs ys W (ha.later b0) (hb.later b0) hl hm)
 have HL := hideP (show (List.zipWith mulR xs ys).length ≤ 1000000 by simp; omega)
 generalize hr0 : dotF xs ys = r
 have HR0 := hideP hr0
 clear hr0
 have HW := hideP hW
 clear ha hb hW
 go_enter Tryz.func47, Tryz.ntmps47
 go_wp2_with fail
 rw [← HW.out]
 refine E.out.mono ?_
 rintro e w1 ⟨u, rfl, hr, h1⟩
 have S0 := vsumF u _ w1 hr.q HL.out
 rw [show sumF (List.zipWith mulR xs ys) = r from HR0.out] at S0
 have S := hideP S0
 clear hr S0
 go_wp2_with fail
 refine S.out.mono ?_
 rintro e w2 ⟨rfl, h2⟩
 obtain ⟨c0, c1, c2, f0, f1, f2, lt⟩ := x0.later (h1.trans h2)
 go_wp2
 simp [bodyPost, results, Tryz.results47, go_sem, c0, c1, c2]
 exact Bl.set3 (b0.trans (h1.trans h2)) (Nat.le_refl _) _ _ _
end Go.Proofs.YtljmggemdkfbiaaGreat
namespace Go.Proofs.YtljmggemdkfbiaaGreat
open Go.RowKit
set_option linter.unusedSimpArgs false
set_option linter.unusedVariables false
def itF (n : Int) : Fr := ⟨n, 1, false⟩
def Sml (B : Int) (ns : List Int) : Prop := ∀ x ∈ ns, -B ≤ x ∧ x ≤ B
theorem Sml.tail {B n : Int} {ns : List Int} (h : Sml B (n :: ns)) : Sml B ns := fun x hx => h x (List.mem_cons_of_mem _ hx)
theorem Sml.head {B n : Int} {ns : List Int} (h : Sml B (n :: ns)) : -B ≤ n ∧ n ≤ B := h n (List.mem_cons_self)
theorem Sml.take {B : Int} {ns : List Int} (h : Sml B ns) (k : Nat) : Sml B (ns.take k) := fun x hx => h x (List.mem_of_mem_take hx)
theorem Sml.drop {B : Int} {ns : List Int} (h : Sml B ns) (k : Nat) : Sml B (ns.drop k) := fun x hx => h x (List.mem_of_mem_drop hx)
theorem Sml.sum {B : Int} : ∀ {ns : List Int}, Sml B ns → -(B * ns.length) ≤ ns.sum ∧ ns.sum ≤ B * ns.length
 | [], _ => by simp
 | n :: ns, h => by
  have h1 := h.head
  have h2 := Sml.sum h.tail
  simp only [List.sum_cons, List.length_cons, Int.natCast_add, Int.mul_add]
  omega
end Go.Proofs.YtljmggemdkfbiaaGreat
