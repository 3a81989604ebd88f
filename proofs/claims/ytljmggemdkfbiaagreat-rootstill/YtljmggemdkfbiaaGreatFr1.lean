/- Contracts of frac.Wrong, within, divisor, lowest, New, Fine (layer 4). -/
import Derived.Test.YtljmggemdkfbiaaGreatFrM
import Derived.Test.YtljmggemdkfbiaaGreatTimes
namespace Go.Proofs.YtljmggemdkfbiaaGreat
open Go.RowKit
set_option linter.unusedSimpArgs false
set_option linter.unusedVariables false

/-- A fraction, as a value. -/
abbrev frV (x : Fr) : Value := .agg #[.int .i64 x.n, .int .i64 x.d, .bool x.bad]
/-- A block of three cells that holds a fraction. -/
structure FBox (w : World) (b : Nat) (x : Fr) : Prop where
  c0 : w.cell? ⟨b, 0, none⟩ = some (.int .i64 x.n)
  c1 : w.cell? ⟨b, 1, none⟩ = some (.int .i64 x.d)
  c2 : w.cell? ⟨b, 2, none⟩ = some (.bool x.bad)
  f0 : w.frozen? ⟨b, 0, none⟩ = false
  f1 : w.frozen? ⟨b, 1, none⟩ = false
  f2 : w.frozen? ⟨b, 2, none⟩ = false
  lt : b < w.heap.size
theorem FBox.later {w w' : World} {b : Nat} {x : Fr} (h : FBox w b x) (k : Bl w w') : FBox w' b x := by
  have := h.lt
  refine ⟨?_, ?_, ?_, ?_, ?_, ?_, by have := Below.size k; omega⟩
  · rw [bl_cell k _ _ this]; exact h.c0
  · rw [bl_cell k _ _ this]; exact h.c1
  · rw [bl_cell k _ _ this]; exact h.c2
  · rw [bl_froz k _ _ this]; exact h.f0
  · rw [bl_froz k _ _ this]; exact h.f1
  · rw [bl_froz k _ _ this]; exact h.f2
theorem FBox.new (w : World) (x : Fr) (t : TypeId) : FBox (w.alloc (.cells #[.int .i64 x.n, .int .i64 x.d, .bool x.bad] t)) w.heap.size x := by
  refine ⟨?_, ?_, ?_, ?_, ?_, ?_, by simp⟩ <;> simp [go_sem]
theorem Bl.set3 {a b : World} (h : Bl a b) {n : Nat} (hn : a.heap.size ≤ n) (v0 v1 v2 : Value) : Bl a (((b.setCell ⟨n, 0, none⟩ v0).setCell ⟨n, 1, none⟩ v1).setCell ⟨n, 2, none⟩ v2) :=
  Bl.set (Bl.set (Bl.set h hn _) hn _) hn _
/-- One that is laid, and not yet filled. -/
def zeroR : Fr := ⟨0, 0, false⟩
/-- The world behind the box of one that is yet to be told. -/
structure OneZ (w W : World) : Prop where
  eq : W = w.alloc (.cells #[.int .i64 0, .int .i64 0, .bool false] 34)
  bl : Bl w W
  bz : FBox W w.heap.size zeroR
  size : W.heap.size = w.heap.size + 1
theorem oneZ_ex (w : World) : ∃ W, OneZ w W := ⟨_, rfl, (Bl.refl _).alloc _, FBox.new w zeroR _, by simp⟩

theorem wrongR_any (w : World) :
    Calls Tryz.prog 55 #[] w fun e w' => e = .returned (frV wrongR) ∧ Bl w w' := by
  go_enter Tryz.func55, Tryz.ntmps55
  go_wp2
  simp [bodyPost, results, Tryz.results55, go_sem, wrongR]
  exact (Bl.refl _).alloc _

theorem within_any (n m : Int) (h0 : 0 ≤ m) (h1 : m ≤ 4611686018427387904) (w : World) :
    Calls Tryz.prog 54 #[.int .i64 n, .int .i64 m] w fun e w' => e = .returned (.bool (decide (-m ≤ n) && decide (n ≤ m))) ∧ w' = w := by
  by_cases h : -m ≤ n
  · by_cases h2 : n ≤ m
    · go_enter Tryz.func54, Tryz.ntmps54
      go_wp2
      go_ret
      exact ⟨by simp [h, h2], rfl⟩
    · go_enter Tryz.func54, Tryz.ntmps54
      go_wp2
      go_ret
      exact ⟨by simp [h, h2], rfl⟩
  · go_enter Tryz.func54, Tryz.ntmps54
    go_wp2
    go_ret
    exact ⟨by simp; omega, rfl⟩
theorem within_sm (n : Int) (w : World) :
    Calls Tryz.prog 54 #[.int .i64 n, .int .i64 1073741824] w fun e w' => e = .returned (.bool (smB n)) ∧ w' = w := within_any n _ (by decide) (by decide) w
theorem within_gv (n : Int) (w : World) :
    Calls Tryz.prog 54 #[.int .i64 n, .int .i64 1152921504606846976] w fun e w' => e = .returned (.bool (gvB n)) ∧ w' = w := within_any n _ (by decide) (by decide) w

theorem gcd_step (a b : Int) (ha : 0 ≤ a) (hb : 0 < b) : Int.gcd b (a % b) = Int.gcd a b := by
  rw [Int.gcd_comm, Int.gcd_comm a b]
  show Nat.gcd _ _ = Nat.gcd _ _
  rw [Int.natAbs_emod_of_nonneg ha, ← Nat.gcd_rec]
theorem drewN_bl : ∀ (n : Nat) (w : World), Bl w (w.drewN n)
  | 0, w => Bl.refl w
  | n + 1, w => (drewN_bl n w).trans ((Bl.refl _).drew)

theorem divisor_any (a b : Int) (ha : 0 ≤ a) (hb : 0 ≤ b) (w : World) :
    Calls Tryz.prog 99 #[.int .i64 a, .int .i64 b] w fun e w' => e = .returned (.int .i64 (Int.gcd a b : Int)) ∧ Bl w w' := by
  go_enter Tryz.func99, Tryz.ntmps99
  go_wp2
  go_loopw [0, 1] (fun x y wr => ∃ (p q : Int), x = .int .i64 p ∧ y = .int .i64 q ∧ 0 ≤ p ∧ 0 ≤ q ∧ Int.gcd p q = Int.gcd a b ∧ Bl w wr) (fun _ y _ => (intOf y).toNat)
  case atStart => exact ⟨a, b, rfl, rfl, ha, hb, rfl, Bl.refl _⟩
  case round =>
    obtain ⟨p, q, rfl, rfl, hp, hq, hg, hB⟩ := hrel
    have HG := hideP hg
    clear hg
    by_cases h : 0 < q
    · have hq0 : (q == 0) = false := by simpa using (show q ≠ 0 by omega)
      go_wp2
      go_quiet (fail)
      go_wp2
      go_roundw
      case rel => exact ⟨q, p % q, rfl, rfl, hq, Int.emod_nonneg _ (by omega), by rw [gcd_step p q hp h]; exact HG.out, hB.trans (drewN_bl _ _)⟩
      case measure =>
        have := Int.emod_nonneg p (show q ≠ 0 by omega)
        have := Int.emod_lt_of_pos p h
        simp [intOf]
        omega
    · obtain rfl : q = 0 := by omega
      go_wp2
      go_ret
      refine ⟨?_, hB⟩
      rw [← HG.out]
      exact ret_int (by rw [Int.gcd_zero]; omega)

/-- The sizes, as the program has them. -/
theorem max_neg (n : Int) (h1 : -9223372036854775807 ≤ n) (h2 : n ≤ 9223372036854775807) : max n (-n) = (n.natAbs : Int) := by omega
theorem low_two (x y : Int) (hy : 1 ≤ y) (r : Fr) (h : r = if smB x && smB y then ⟨x, y, false⟩ else wrongR) :
    (smB x = false ∧ r = wrongR) ∨ (smB x = true ∧ 1073741824 < y ∧ r = wrongR) ∨ (smB x = true ∧ ¬ 1073741824 < y ∧ r = ⟨x, y, false⟩) := by
  subst h
  cases hx : smB x
  · exact .inl ⟨rfl, rfl⟩
  · by_cases hy2 : 1073741824 < y
    · have : smB y = false := by
        rw [Bool.eq_false_iff, ne_eq, smB_iff]; omega
      rw [this]
      exact .inr (.inl ⟨rfl, hy2, rfl⟩)
    · rw [smB_iff.2 (by omega : -1073741824 ≤ y ∧ y ≤ 1073741824)]
      exact .inr (.inr ⟨rfl, hy2, rfl⟩)
set_option maxHeartbeats 1000000 in
theorem lowest_mid (n d m : Int) (hm : (m = -n ∧ n < -n) ∨ (m = n ∧ ¬ n < -n)) (h1 : -4611686018427387904 ≤ n) (h2 : n ≤ 4611686018427387904) (h3 : 0 < d) (h4 : d ≤ 4611686018427387904) (w : World) :
    Calls Tryz.prog 56 #[.int .i64 n, .int .i64 d] w fun e w' => e = .returned (frV (lowR n d)) ∧ Bl w w' := by
  obtain ⟨W, X⟩ := oneZ_ex w
  have HX := hideP X
  clear X
  have D := hideP (divisor_any m d (by omega) (by omega))
  have L := lowR_pos n d h3 (Int.gcd m d : Int) (by
    rcases hm with ⟨rfl, _⟩ | ⟨rfl, _⟩
    · rw [Int.neg_gcd]
    · rfl)
  have g0 : 0 < (Int.gcd m d : Int) := by have := Int.gcd_pos_of_ne_zero_right m (show d ≠ 0 by omega); omega
  have gl : (Int.gcd m d : Int) ≤ d := Int.gcd_le_right _ h3
  generalize (Int.gcd m d : Int) = g at *
  have ey : d.tdiv g = d / g := Int.tdiv_eq_ediv_of_nonneg (by omega)
  rw [ey] at L
  have y1 : 1 ≤ d / g := by
    have := Int.ediv_le_ediv g0 gl
    rwa [Int.ediv_self (by omega)] at this
  have hd0 : (d == 0) = false := by simpa using (show d ≠ 0 by omega)
  have hg0 : (g == 0) = false := by simpa using (show g ≠ 0 by omega)
  have hn0 : ¬ d < 0 := by omega
  have ex : m = n → n.tdiv g = n / g := fun h => Int.tdiv_eq_ediv_of_nonneg (by omega)
  generalize lowR n d = r at *
  obtain ⟨y, hy⟩ : ∃ y, d / g = y := ⟨_, rfl⟩
  rw [hy] at L y1
  have HY := hideP hy
  clear hy ey
  rcases hm with ⟨rfl, hm⟩ | ⟨rfl, hm⟩
  · clear ex
    obtain ⟨x, hx⟩ : ∃ x, n.tdiv g = x := ⟨_, rfl⟩
    rw [hx] at L
    have HXX := hideP hx
    clear hx
    rcases low_two x y y1 r L with ⟨k, rfl⟩ | ⟨k, k2, rfl⟩ | ⟨k, k2, rfl⟩
    all_goals
      clear L
      go_enter Tryz.func56, Tryz.ntmps56
      go_wp2_with fail
      rw [← HX.out.eq]
      refine (D.out _).mono ?_
      rintro e w1 ⟨rfl, h1⟩
      go_wp2
      go_quiet (fail)
      simp only [HXX.out, HY.out]
      have B1 := h1.trans (drewN_bl nq w1)
      generalize w1.drewN nq = w2 at *
      obtain ⟨c0, c1, c2, f0, f1, f2, lt⟩ := HX.out.bz.later B1
      go_wp2_with (first
        | (go_at_call 54; refine (within_sm _ _).mono ?_; rintro e w' ⟨rfl, rfl⟩)
        | (go_at_call 55; refine (wrongR_any _).mono ?_; rintro e w3 ⟨rfl, h3⟩; obtain ⟨c0, c1, c2, f0, f1, f2, lt⟩ := HX.out.bz.later (B1.trans h3)))
      simp [bodyPost, results, Tryz.results56, go_sem, c0, c1, c2]
      refine Bl.set3 ?_ (by omega) _ _ _
      first
        | exact HX.out.bl.trans B1
        | exact HX.out.bl.trans (B1.trans h3)
  · rw [ex rfl] at L
    obtain ⟨x, hx⟩ : ∃ x, m / g = x := ⟨_, rfl⟩
    rw [hx] at L
    have HXX := hideP hx
    clear hx ex
    rcases low_two x y y1 r L with ⟨k, rfl⟩ | ⟨k, k2, rfl⟩ | ⟨k, k2, rfl⟩
    all_goals
      clear L
      go_enter Tryz.func56, Tryz.ntmps56
      go_wp2_with fail
      rw [← HX.out.eq]
      refine (D.out _).mono ?_
      rintro e w1 ⟨rfl, h1⟩
      go_wp2
      go_quiet (fail)
      simp only [HXX.out, HY.out]
      have B1 := h1.trans (drewN_bl nq w1)
      generalize w1.drewN nq = w2 at *
      obtain ⟨c0, c1, c2, f0, f1, f2, lt⟩ := HX.out.bz.later B1
      go_wp2_with (first
        | (go_at_call 54; refine (within_sm _ _).mono ?_; rintro e w' ⟨rfl, rfl⟩)
        | (go_at_call 55; refine (wrongR_any _).mono ?_; rintro e w3 ⟨rfl, h3⟩; obtain ⟨c0, c1, c2, f0, f1, f2, lt⟩ := HX.out.bz.later (B1.trans h3)))
      simp [bodyPost, results, Tryz.results56, go_sem, c0, c1, c2]
      refine Bl.set3 ?_ (by omega) _ _ _
      first
        | exact HX.out.bl.trans B1
        | exact HX.out.bl.trans (B1.trans h3)
end Go.Proofs.YtljmggemdkfbiaaGreat
