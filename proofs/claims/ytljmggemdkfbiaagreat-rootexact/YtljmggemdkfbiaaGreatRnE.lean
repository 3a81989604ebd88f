/- RootExact's mathematics: column by column, in fractions, against the words of layer 9. -/
import Derived.Test.YtljmggemdkfbiaaGreatRo0
import Derived.Test.YtljmggemdkfbiaaGreatJoT
import Derived.Test.YtljmggemdkfbiaaGreatTrQ
import Derived.Test.YtljmggemdkfbiaaGreatTrL
namespace Go.Proofs.YtljmggemdkfbiaaGreat
open Go.RowKit
set_option linter.unusedSimpArgs false
set_option linter.unusedVariables false

/-- A column's weight, what is gathered, and the spread, as whole numbers. -/
def wI (n : Nat) (s : Nat → Nat → Int) (h : Nat → Int) (j : Nat) : Int := dotI (linJ n fun k => s k j) (linJ n h)
def eI (n : Nat) (s : Nat → Nat → Int) (h : Nat → Int) (i : Nat) : Nat → Int
  | 0 => 0
  | t + 1 => eI n s h i t + s i (n - 1 - t) * wI n s h (n - 1 - t)
def aI (n : Nat) (s : Nat → Nat → Int) (h : Nat → Int) (r : Int) : Nat → Int
  | 0 => r
  | t + 1 => aI n s h r t + wI n s h (n - 1 - t) * wI n s h (n - 1 - t)
/-- A triangle of few numbers. -/
structure TriX (n : Nat) (s : Nat → Nat → Int) (h : Nat → Int) (r : Int) : Prop where
  n1 : 1 ≤ n
  n3 : n ≤ 3
  sb : ∀ i k, i < n → k < n → -5 ≤ s i k ∧ s i k ≤ 5
  sz : ∀ i k, i < k → s i k = 0
  hb : ∀ k, k < n → -5 ≤ h k ∧ h k ≤ 5
  r1 : 1 ≤ r
  r5 : r ≤ 5
theorem sml_lin {n : Nat} {A : Int} {f : Nat → Int} (h : ∀ k, k < n → -A ≤ f k ∧ f k ≤ A) : Sml A (linJ n f) := by
  intro x hx
  obtain ⟨k, hk, rfl⟩ := List.mem_map.1 hx
  exact h k (List.mem_range.1 hk)
theorem dot_lin_it {n : Nat} {A B : Int} {f g : Nat → Int} (hf : ∀ k, k < n → -A ≤ f k ∧ f k ≤ A) (hg : ∀ k, k < n → -B ≤ g k ∧ g k ≤ B) (hA : 0 ≤ A ∧ A ≤ 1073741824) (hB : 0 ≤ B ∧ B ≤ 1073741824) (hl : n ≤ 16) (hAB : A * B ≤ 67108864) :
    dotF (linJ n fun k => itF (f k)) (linJ n fun k => itF (g k)) = itF (dotI (linJ n f) (linJ n g)) := by
  rw [← linJ_map n f itF, ← linJ_map n g itF]
  exact dot_it6 (sml_lin hf) (sml_lin hg) hA hB (by rw [linJ_len]; exact hl) hAB
theorem dotI_lin_bound {n : Nat} {A B : Int} {f g : Nat → Int} (hf : ∀ k, k < n → -A ≤ f k ∧ f k ≤ A) (hg : ∀ k, k < n → -B ≤ g k ∧ g k ≤ B) (hA : 0 ≤ A) (hB : 0 ≤ B) (hl : n ≤ 3) : -(A * B * 20) ≤ dotI (linJ n f) (linJ n g) ∧ dotI (linJ n f) (linJ n g) ≤ A * B * 20 :=
  dotI_bound (sml_lin hf) (sml_lin hg) hA hB (by rw [linJ_len]; omega)
theorem TriX.w {n : Nat} {s : Nat → Nat → Int} {h : Nat → Int} {r : Int} (T : TriX n s h r) {j : Nat} (hj : j < n) : -500 ≤ wI n s h j ∧ wI n s h j ≤ 500 := by
  have := dotI_lin_bound (n := n) (A := 5) (B := 5) (f := fun k => s k j) (g := h) (fun k hk => T.sb k j hk hj) T.hb (by omega) (by omega) T.n3
  unfold wI
  omega
theorem TriX.ww {n : Nat} {s : Nat → Nat → Int} {h : Nat → Int} {r : Int} (T : TriX n s h r) {j : Nat} (hj : j < n) : 0 ≤ wI n s h j * wI n s h j ∧ wI n s h j * wI n s h j ≤ 250000 := by
  have hw := T.w hj
  have m := mul_bound hw hw
  refine ⟨?_, by omega⟩
  rcases Int.le_total 0 (wI n s h j) with h | h
  · exact Int.mul_nonneg h h
  · exact Int.mul_nonneg_of_nonpos_of_nonpos h h
theorem TriX.e {n : Nat} {s : Nat → Nat → Int} {h : Nat → Int} {r : Int} (T : TriX n s h r) {i : Nat} (hi : i < n) : ∀ t, t ≤ n → -(2500 * (t : Int)) ≤ eI n s h i t ∧ eI n s h i t ≤ 2500 * (t : Int)
  | 0, _ => ⟨by show -(2500 * 0) ≤ (0 : Int); omega, by show (0 : Int) ≤ 2500 * 0; omega⟩
  | t + 1, ht => by
    have h1 := T.e hi t (by omega)
    have h2 := mul_bound (T.sb i (n - 1 - t) hi (by omega)) (T.w (j := n - 1 - t) (by omega))
    show -(2500 * ((t + 1 : Nat) : Int)) ≤ eI n s h i t + s i (n - 1 - t) * wI n s h (n - 1 - t) ∧ eI n s h i t + s i (n - 1 - t) * wI n s h (n - 1 - t) ≤ 2500 * ((t + 1 : Nat) : Int)
    constructor <;> (push_cast; omega)
theorem TriX.a {n : Nat} {s : Nat → Nat → Int} {h : Nat → Int} {r : Int} (T : TriX n s h r) : ∀ t, t ≤ n → 1 ≤ aI n s h r t ∧ aI n s h r t ≤ 5 + 250000 * (t : Int)
  | 0, _ => ⟨T.r1, by show r ≤ 5 + 250000 * 0; have := T.r5; omega⟩
  | t + 1, ht => by
    have h1 := T.a t (by omega)
    have h2 := T.ww (j := n - 1 - t) (by omega)
    show 1 ≤ aI n s h r t + wI n s h (n - 1 - t) * wI n s h (n - 1 - t) ∧ aI n s h r t + wI n s h (n - 1 - t) * wI n s h (n - 1 - t) ≤ 5 + 250000 * ((t + 1 : Nat) : Int)
    constructor <;> (push_cast; omega)
/-- A number of the triangle in the end. -/
def finX (n : Nat) (s : Nat → Nat → Int) (h : Nat → Int) (r : Int) (i j : Nat) : Fr := if j ≤ i then sO kdF (itF (aI n s h r (n - 1 - j))) (itF (wI n s h j)) (itF (s i j)) (itF (eI n s h i (n - 1 - j))) else itF (s i j)
theorem ex_w {n : Nat} {s : Nat → Nat → Int} {h : Nat → Int} {r : Int} (T : TriX n s h r) {S : Nat → Nat → Fr} {H : Nat → Fr} (hS : ∀ i k, i < n → k < n → S i k = itF (s i k)) (hH : ∀ k, k < n → H k = itF (h k)) {j : Nat} (hj : j < n) : wO kdF n S H j = itF (wI n s h j) := by
  show dotF (linJ n fun k => S k j) (linJ n H) = _
  rw [linJ_congr (fun k hk => hS k j hk hj), linJ_congr hH]
  exact dot_lin_it (A := 5) (B := 5) (fun k hk => T.sb k j hk hj) T.hb (by omega) (by omega) (by have := T.n3; omega) (by omega)
theorem ex_run {n : Nat} {s : Nat → Nat → Int} {h : Nat → Int} {r : Int} (T : TriX n s h r) {S : Nat → Nat → Fr} {H : Nat → Fr} (hS : ∀ i k, i < n → k < n → S i k = itF (s i k)) (hH : ∀ k, k < n → H k = itF (h k)) : ∀ t, t ≤ n →
    (∀ i k, i < n → k < n → (runO kdF n S H (itF r) t).s i k = if n - t ≤ k then finX n s h r i k else itF (s i k)) ∧ (∀ i, i < n → (runO kdF n S H (itF r) t).e i = itF (eI n s h i t)) ∧ (runO kdF n S H (itF r) t).a = itF (aI n s h r t) := by
  intro t
  have n3 := T.n3
  induction t with
  | zero =>
    intro _
    refine ⟨fun i k hi hk => ?_, fun i hi => ?_, rfl⟩
    · rw [if_neg (by omega)]
      exact hS i k hi hk
    · exact whole_it (n := 0) ⟨by omega, by omega⟩
  | succ t ih =>
    intro ht
    obtain ⟨i1, i2, i3⟩ := ih (by omega)
    obtain ⟨j, ej⟩ : ∃ j, j = n - 1 - t := ⟨_, rfl⟩
    have hj : j < n := by omega
    have hw := ex_w T hS hH hj
    have bw := T.w hj
    have bww := T.ww hj
    have ba := T.a t (by omega)
    have st : ∀ i, i < n → (runO kdF n S H (itF r) t).s i j = itF (s i j) := fun i hi => by rw [i1 i j hi hj, if_neg (by omega)]
    have R : runO kdF n S H (itF r) (t + 1) = stepO kdF n j (itF (wI n s h j)) (runO kdF n S H (itF r) t) := by rw [← hw, ej]; rfl
    have mww : mulR (itF (wI n s h j)) (itF (wI n s h j)) = itF (wI n s h j * wI n s h j) := mul_it (by unfold Wh; omega) (by unfold Wh; omega) (by unfold Wh; omega)
    refine ⟨fun i k hi hk => ?_, fun i hi => ?_, ?_⟩
    · rw [R]
      show partS kdF j n (itF (wI n s h j)) (runO kdF n S H (itF r) t) i k = _
      unfold partS
      by_cases hc : k = j ∧ j ≤ i ∧ i < n
      · obtain ⟨rfl, h2, h3⟩ := hc
        rw [if_pos ⟨rfl, h2, h3⟩, if_pos (by omega), st i hi, i2 i hi, i3]
        unfold finX
        rw [if_pos h2, show n - 1 - k = t by omega]
      · rw [if_neg hc, i1 i k hi hk]
        by_cases hk2 : k = j
        · subst hk2
          rw [if_neg (by omega), if_pos (by omega)]
          unfold finX
          rw [if_neg (by omega)]
        · by_cases h4 : n - t ≤ k
          · rw [if_pos h4, if_pos (by omega)]
          · rw [if_neg h4, if_neg (by omega)]
    · rw [R]
      show partE kdF j n (itF (wI n s h j)) (runO kdF n S H (itF r) t) i = itF (eI n s h i t + s i (n - 1 - t) * wI n s h (n - 1 - t))
      rw [← ej]
      unfold partE
      by_cases hc : j ≤ i ∧ i < n
      · rw [if_pos hc, st i hi, i2 i hi]
        show addR (itF (eI n s h i t)) (mulR (itF (s i j)) (itF (wI n s h j))) = _
        have b1 := T.sb i j hi hj
        have b2 := mul_bound b1 bw
        have b3 := T.e hi t (by omega)
        rw [mul_it (by unfold Wh; omega) (by unfold Wh; omega) (by unfold Wh; omega)]
        exact add_it (by unfold Wh; omega) (by unfold Wh; omega) (by unfold Wh; omega)
      · rw [if_neg hc, i2 i hi, T.sz i j (by omega), Int.zero_mul, Int.add_zero]
    · rw [R]
      show addR (runO kdF n S H (itF r) t).a (mulR (itF (wI n s h j)) (itF (wI n s h j))) = itF (aI n s h r t + wI n s h (n - 1 - t) * wI n s h (n - 1 - t))
      rw [← ej, i3, mww]
      exact add_it (by unfold Wh; omega) (by unfold Wh; omega) (by unfold Wh; omega)
theorem toQ_nn {z : Fr} (h : fineR z = true) (hn : 0 ≤ z.n) : 0 ≤ toQ z := by
  unfold toQ
  have hd : 1 ≤ z.d := (fineR_iff.1 h).2.1
  rw [Rat.divInt_eq_div]
  have h1 : (0 : Rat) ≤ (z.n : Rat) := by exact_mod_cast hn
  have h2 : (0 : Rat) < (z.d : Rat) := by exact_mod_cast (show 0 < z.d by omega)
  rw [Rat.div_def]
  exact Rat.mul_nonneg h1 (Rat.le_of_lt (Rat.inv_pos.2 h2))
/-- One column's number, as a rational number. -/
structure ColQ (a w x e : Fr) : Prop where
  z : toQ (sO kdF a w x e) = toQ x * toQ (dO kdF a w) - toQ e * toQ (cO kdF a w)
  d : toQ (dO kdF a w) * toQ (dO kdF a w) = toQ a / toQ (bO kdF a w)
  q : toQ (rootR (mulR a (bO kdF a w))) * toQ (rootR (mulR a (bO kdF a w))) = toQ a * toQ (bO kdF a w)
  d0 : 0 ≤ toQ (dO kdF a w)
  q0 : 0 ≤ toQ (rootR (mulR a (bO kdF a w)))
  c : toQ (cO kdF a w) = toQ w / toQ (rootR (mulR a (bO kdF a w)))
theorem sO_q {a w x e : Fr} (h : fineR (sO kdF a w x e) = true) : ColQ a w x e := by
  obtain ⟨f1, f2, e1⟩ := sub_q (show fineR (subR (mulR x (dO kdF a w)) (mulR e (cO kdF a w))) = true from h)
  obtain ⟨_, f3, e2⟩ := mul_q f1
  obtain ⟨_, f4, e3⟩ := mul_q f2
  obtain ⟨f5, e4, p4⟩ := root_q (show fineR (rootR (divR a (bO kdF a w))) = true from f3)
  obtain ⟨_, f6, ne, e5⟩ := div_q f5
  obtain ⟨_, f7, ne2, e6⟩ := div_q (show fineR (divR w (rootR (mulR a (bO kdF a w)))) = true from f4)
  obtain ⟨f8, e7, p7⟩ := root_q f7
  obtain ⟨_, _, e8⟩ := mul_q f8
  exact ⟨e1.trans (by rw [e2, e3]), e4.trans e5, e7.trans e8, toQ_nn f3 p4, toQ_nn f7 p7, e6⟩
theorem ex_alg {A B D Q C w x1 x2 e1 e2 : Rat} (hA : 0 < A) (hB : 0 < B) (hb : B = A + w * w) (hd : D * D = A / B) (hq : Q * Q = A * B) (D0 : 0 ≤ D) (Q0 : 0 ≤ Q) (hC : C = w / Q) :
    (x1 * D - e1 * C) * (x2 * D - e2 * C) = x1 * x2 - ((e1 + x1 * w) * (e2 + x2 * w) / B - e1 * e2 / A) := by
  have nA : A ≠ 0 := by grind
  have nB : B ≠ 0 := by grind
  have nQ : Q ≠ 0 := by
    intro h
    rw [h] at hq
    have : A * B ≠ 0 := by grind
    grind
  have hDQ : D * Q = A := by
    have h1 : (D * Q - A) * (D * Q + A) = 0 := by grind
    have h2 : 0 < D * Q + A := by
      have := Rat.mul_nonneg D0 Q0
      grind
    rcases Rat.mul_eq_zero.1 h1 with h | h <;> grind
  have hD : D = A / Q := by grind
  have e : (x1 * D - e1 * C) * (x2 * D - e2 * C) = (x1 * A - e1 * w) * (x2 * A - e2 * w) / (A * B) := by
    have nAB : A * B ≠ 0 := by grind
    have hI : Q⁻¹ * Q⁻¹ = (A * B)⁻¹ := by
      rw [← hq, Rat.inv_mul_rev]
    rw [hD, hC, Rat.div_def, Rat.div_def, Rat.div_def, ← hI]
    grind
  rw [e]
  subst hb
  grind
theorem itQ (x : Int) : toQ (itF x) = (x : Rat) := toQ_whole x
theorem ex_b {n : Nat} {s : Nat → Nat → Int} {h : Nat → Int} {r : Int} (T : TriX n s h r) {c : Nat} (hc : c < n) : bO kdF (itF (aI n s h r (n - 1 - c))) (itF (wI n s h c)) = itF (aI n s h r (n - c)) ∧ aI n s h r (n - c) = aI n s h r (n - 1 - c) + wI n s h c * wI n s h c := by
  have n3 := T.n3
  have e : aI n s h r (n - c) = aI n s h r (n - 1 - c) + wI n s h c * wI n s h c := by
    obtain ⟨t, ht⟩ : ∃ t, t = n - 1 - c := ⟨_, rfl⟩
    rw [show n - c = t + 1 by omega, ← ht]
    show aI n s h r t + wI n s h (n - 1 - t) * wI n s h (n - 1 - t) = _
    rw [show n - 1 - t = c by omega]
  have bw := T.w hc
  have bww := T.ww hc
  have ba := T.a (n - 1 - c) (by omega)
  refine ⟨?_, e⟩
  show addR (itF (aI n s h r (n - 1 - c))) (mulR (itF (wI n s h c)) (itF (wI n s h c))) = _
  rw [mul_it (by unfold Wh; omega) (by unfold Wh; omega) (by unfold Wh; omega), e]
  exact add_it (by unfold Wh; omega) (by unfold Wh; omega) (by unfold Wh; omega)
theorem ex_e {n : Nat} {s : Nat → Nat → Int} {h : Nat → Int} {i c : Nat} (hc : c < n) : eI n s h i (n - c) = eI n s h i (n - 1 - c) + s i c * wI n s h c := by
  obtain ⟨t, ht⟩ : ∃ t, t = n - 1 - c := ⟨_, rfl⟩
  rw [show n - c = t + 1 by omega, ← ht]
  show eI n s h i t + s i (n - 1 - t) * wI n s h (n - 1 - t) = _
  rw [show n - 1 - t = c by omega]
theorem ex_e0 {n : Nat} {s : Nat → Nat → Int} {h : Nat → Int} {i : Nat} (hz : ∀ i k, i < k → s i k = 0) : ∀ t, i < n - t → eI n s h i t = 0
  | 0, _ => rfl
  | t + 1, ht => by
    show eI n s h i t + s i (n - 1 - t) * wI n s h (n - 1 - t) = 0
    rw [ex_e0 hz t (by omega), hz i (n - 1 - t) (by omega), Int.zero_mul, Int.add_zero]
/-- What one column adds. -/
theorem ex_col {n : Nat} {s : Nat → Nat → Int} {h : Nat → Int} {r : Int} (T : TriX n s h r) {i k c : Nat} (hi : i < n) (hk : k < n) (hc : c < n) (fi : fineR (finX n s h r i c) = true) (fk : fineR (finX n s h r k c) = true) :
    toQ (finX n s h r i c) * toQ (finX n s h r k c) = (s i c : Rat) * (s k c : Rat) - ((eI n s h i (n - c) : Rat) * (eI n s h k (n - c) : Rat) / (aI n s h r (n - c) : Rat) - (eI n s h i (n - 1 - c) : Rat) * (eI n s h k (n - 1 - c) : Rat) / (aI n s h r (n - 1 - c) : Rat)) := by
  have up : ∀ i k, i < c → toQ (finX n s h r i c) * toQ (finX n s h r k c) = (s i c : Rat) * (s k c : Rat) - ((eI n s h i (n - c) : Rat) * (eI n s h k (n - c) : Rat) / (aI n s h r (n - c) : Rat) - (eI n s h i (n - 1 - c) : Rat) * (eI n s h k (n - 1 - c) : Rat) / (aI n s h r (n - 1 - c) : Rat)) := by
    intro i k hic
    have e1 : finX n s h r i c = itF 0 := by unfold finX; rw [if_neg (by omega), T.sz i c hic]
    rw [e1, T.sz i c hic, ex_e0 (i := i) T.sz (n - c) (by omega), ex_e0 (i := i) T.sz (n - 1 - c) (by omega), itQ]
    have z : ((0 : Int) : Rat) = 0 := rfl
    rw [z]
    simp only [Rat.zero_mul, Rat.div_def]
    grind
  by_cases h1 : i < c
  · exact up i k h1
  · by_cases h2 : k < c
    · have := up k i h2
      rw [Rat.mul_comm (toQ (finX n s h r i c)), this, Rat.mul_comm (s i c : Rat), Rat.mul_comm (eI n s h i (n - c) : Rat), Rat.mul_comm (eI n s h i (n - 1 - c) : Rat)]
    · have gi : finX n s h r i c = sO kdF (itF (aI n s h r (n - 1 - c))) (itF (wI n s h c)) (itF (s i c)) (itF (eI n s h i (n - 1 - c))) := by unfold finX; rw [if_pos (by omega)]
      have gk : finX n s h r k c = sO kdF (itF (aI n s h r (n - 1 - c))) (itF (wI n s h c)) (itF (s k c)) (itF (eI n s h k (n - 1 - c))) := by unfold finX; rw [if_pos (by omega)]
      rw [gi] at fi
      rw [gk] at fk
      have Q1 := sO_q fi
      have Q2 := sO_q fk
      obtain ⟨b1, b2⟩ := ex_b T hc
      have ba := T.a (n - 1 - c) (by omega)
      have bb := T.a (n - c) (by omega)
      have d := Q1.d
      have q := Q1.q
      have cc := Q1.c
      rw [b1, itQ, itQ] at d q
      rw [b1, itQ] at cc
      have q0 := Q1.q0
      rw [b1] at q0
      rw [gi, gk, Q1.z, Q2.z, itQ, itQ, itQ, itQ, ex_e (i := i) hc, ex_e (i := k) hc, Rat.intCast_add, Rat.intCast_mul, Rat.intCast_add, Rat.intCast_mul]
      exact ex_alg (by exact_mod_cast (show 0 < aI n s h r (n - 1 - c) by omega)) (by exact_mod_cast (show 0 < aI n s h r (n - c) by omega)) (by rw [b2, Rat.intCast_add, Rat.intCast_mul]) d q Q1.d0 q0 cc
theorem ex_tele (X G : Nat → Rat) (n : Nat) : ∀ m, m ≤ n → sumH m (fun c => X c - (G (n - c) - G (n - 1 - c))) = sumH m X - (G n - G (n - m))
  | 0, _ => by show (0 : Rat) = 0 - (G n - G (n - 0)); rw [Nat.sub_zero]; grind
  | m + 1, hm => by
    show sumH m (fun c => X c - (G (n - c) - G (n - 1 - c))) + (X m - (G (n - m) - G (n - 1 - m))) = sumH m X + X m - (G n - G (n - (m + 1)))
    rw [ex_tele X G n m (by omega), show n - (m + 1) = n - 1 - m by omega]
    grind
theorem ex_sq (s : Nat → Nat → Int) (i k : Nat) : ∀ m, sumH m (fun c => (s i c : Rat) * (s k c : Rat)) = (mulI m s (fun i k => s k i) i k : Rat)
  | 0 => rfl
  | m + 1 => by
    show sumH m (fun c => (s i c : Rat) * (s k c : Rat)) + (s i m : Rat) * (s k m : Rat) = _
    rw [ex_sq s i k m, mulI_succ, Rat.intCast_add, Rat.intCast_mul]
/-- The square of the triangle in the end. -/
theorem ex_sum {n : Nat} {s : Nat → Nat → Int} {h : Nat → Int} {r : Int} (T : TriX n s h r) {i k : Nat} (hi : i < n) (hk : k < n) (f : fineR (dotF (linJ n (finX n s h r i)) (linJ n (finX n s h r k))) = true) :
    toQ (dotF (linJ n (finX n s h r i)) (linJ n (finX n s h r k))) = (sqI n s i k : Rat) - (eI n s h i n : Rat) * (eI n s h k n : Rat) / (aI n s h r n : Rat) := by
  obtain ⟨h1, h2⟩ := dot_lin f
  rw [h2, sumH_congr n fun c hc => ex_col T hi hk hc (h1 c hc).1 (h1 c hc).2]
  rw [ex_tele (fun c => (s i c : Rat) * (s k c : Rat)) (fun t => (eI n s h i t : Rat) * (eI n s h k t : Rat) / (aI n s h r t : Rat)) n n (Nat.le_refl _), ex_sq]
  show ((mulI n s (fun i k => s k i) i k : Int) : Rat) - ((eI n s h i n : Rat) * (eI n s h k n : Rat) / (aI n s h r n : Rat) - (eI n s h i (n - n) : Rat) * (eI n s h k (n - n) : Rat) / (aI n s h r (n - n) : Rat)) = _
  rw [Nat.sub_self, show eI n s h i 0 = 0 from rfl]
  have z : ((0 : Int) : Rat) = 0 := rfl
  rw [z]
  show ((mulI n s (fun i k => s k i) i k : Int) : Rat) - _ = ((mulI n s (fun i k => s k i) i k : Int) : Rat) - _
  simp only [Rat.zero_mul, Rat.div_def]
  grind
theorem fold_bad9 : ∀ (xs : List Fr) (a : Fr), fineR a = !a.bad → fineR (xs.foldl addR a) = !(xs.foldl addR a).bad
  | [], _, h => h
  | x :: xs, a, _ => fold_bad9 xs (addR a x) (add_bad9 a x)
theorem dot_bad9 (xs ys : List Fr) : fineR (dotF xs ys) = !(dotF xs ys).bad := fold_bad9 _ _ (by rw [new_it (n := 0) ⟨by omega, by omega⟩]; rfl)
def uI (n : Nat) (s : Nat → Nat → Int) (h : Nat → Int) (c : Nat) : Int := dotI (linJ n (sqI n s c)) (linJ n h)
theorem uI_e {n : Nat} (h1 : 1 ≤ n) (h3 : n ≤ 3) (s : Nat → Nat → Int) (h : Nat → Int) {c : Nat} (hc : c < n) : uI n s h c = eI n s h c n := by
  rcases (by omega : n = 1 ∨ n = 2 ∨ n = 3) with rfl | rfl | rfl
  · simp [uI, eI, wI, dotI, linJ, List.range_succ, sqI, mulI, rowM, colM]; grind
  · simp [uI, eI, wI, dotI, linJ, List.range_succ, sqI, mulI, rowM, colM]; grind
  · simp [uI, eI, wI, dotI, linJ, List.range_succ, sqI, mulI, rowM, colM]; grind
theorem uI_a {n : Nat} (h1 : 1 ≤ n) (h3 : n ≤ 3) (s : Nat → Nat → Int) (h : Nat → Int) (r : Int) : dotI (linJ n h) (linJ n (uI n s h)) + r = aI n s h r n := by
  rcases (by omega : n = 1 ∨ n = 2 ∨ n = 3) with rfl | rfl | rfl
  · simp [uI, aI, wI, dotI, linJ, List.range_succ, sqI, mulI, rowM, colM]; grind
  · simp [uI, aI, wI, dotI, linJ, List.range_succ, sqI, mulI, rowM, colM]; grind
  · simp [uI, aI, wI, dotI, linJ, List.range_succ, sqI, mulI, rowM, colM]; grind
/-- What RootExact asks of the mathematics. -/
structure ExO (n : Nat) (S S2 : Nat → Nat → Fr) (H : Nat → Fr) (R : Fr) : Prop where
  a : (runO kdF n S H R n).a = spreadJ kdF n (squareJ kdF n S2) H R
  e : ∀ i, i < n → (runO kdF n S H R n).e i = appJ kdF n (squareJ kdF n S2) H i
  p : ∀ i k, i < n → k < n → (squareJ kdF n (runO kdF n S H R n).s i k).bad = true ∨ (upPJ kdF (fun i j => wholeF (unitI i j)) n (squareJ kdF n S2) H R i k).bad = true ∨ squareJ kdF n (runO kdF n S H R n).s i k = upPJ kdF (fun i j => wholeF (unitI i j)) n (squareJ kdF n S2) H R i k
theorem exO {n : Nat} {s : Nat → Nat → Int} {h : Nat → Int} {r : Int} (T : TriX n s h r) {S : Nat → Nat → Fr} {H : Nat → Fr} (hS : ∀ i k, i < n → k < n → S i k = itF (s i k)) {S2 : Nat → Nat → Fr} (hS2 : ∀ i k, i < n → k < n → S2 i k = itF (s i k)) (hH : ∀ k, k < n → H k = itF (h k)) : ExO n S S2 H (itF r) := by
  obtain ⟨r1, r2, r3⟩ := ex_run T hS hH n (Nat.le_refl _)
  have n3 := T.n3
  have n1 := T.n1
  have sqb : ∀ a b, a < n → b < n → -500 ≤ sqI n s a b ∧ sqI n s a b ≤ 500 := fun a b ha hb => by
    have := dotI_lin_bound (n := n) (A := 5) (B := 5) (f := s a) (g := s b) (fun k hk => T.sb a k ha hk) (fun k hk => T.sb b k hb hk) (by omega) (by omega) n3
    have e : sqI n s a b = dotI (linJ n (s a)) (linJ n (s b)) := rfl
    rw [e]
    omega
  have hp : ∀ a b, a < n → b < n → squareJ kdF n S2 a b = itF (sqI n s a b) := fun a b ha hb => by
    have g : ∀ a b, a < n → b < n → mulK kdF n S2 (fun i k => S2 k i) a b = itF (sqI n s a b) := fun a b ha hb => by
      show dotF (linJ n (S2 a)) (linJ n (S2 b)) = itF (dotI (linJ n (s a)) (linJ n (s b)))
      rw [linJ_congr (fun k hk => hS2 a k ha hk), linJ_congr (fun k hk => hS2 b k hb hk)]
      exact dot_lin_it (A := 5) (B := 5) (fun k hk => T.sb a k ha hk) (fun k hk => T.sb b k hb hk) (by omega) (by omega) (by omega) (by omega)
    show mulK kdF n S2 (fun i k => S2 k i) (max a b) (min a b) = _
    rw [g _ _ (by omega) (by omega), sqI_mir]
  have hu : ∀ c, c < n → appJ kdF n (squareJ kdF n S2) H c = itF (uI n s h c) := fun c hc => by
    show dotF (linJ n (squareJ kdF n S2 c)) (linJ n H) = _
    rw [linJ_congr (fun k hk => hp c k hc hk), linJ_congr hH]
    exact dot_lin_it (A := 500) (B := 5) (fun k hk => sqb c k hc hk) T.hb (by omega) (by omega) (by omega) (by omega)
  have ub : ∀ c, c < n → -50000 ≤ uI n s h c ∧ uI n s h c ≤ 50000 := fun c hc => by
    have := dotI_lin_bound (n := n) (A := 500) (B := 5) (f := sqI n s c) (g := h) (fun k hk => sqb c k hc hk) T.hb (by omega) (by omega) n3
    unfold uI
    omega
  have ha : spreadJ kdF n (squareJ kdF n S2) H (itF r) = itF (aI n s h r n) := by
    show addR (dotF (linJ n H) (linJ n (appJ kdF n (squareJ kdF n S2) H))) (itF r) = _
    rw [linJ_congr hu, linJ_congr hH, dot_lin_it (A := 5) (B := 50000) T.hb ub (by omega) (by omega) (by omega) (by omega)]
    have db := dotI_lin_bound (n := n) (A := 5) (B := 50000) (f := h) (g := uI n s h) T.hb ub (by omega) (by omega) n3
    have := T.r1
    have := T.r5
    rw [add_it (by unfold Wh; omega) (by unfold Wh; omega) (by unfold Wh; omega), uI_a n1 n3]
  refine ⟨by rw [r3, ha], fun i hi => by rw [r2 i hi, hu i hi, uI_e n1 n3 s h hi], fun i k hi hk => ?_⟩
  cases h1 : (squareJ kdF n (runO kdF n S H (itF r) n).s i k).bad
  · cases h2 : (upPJ kdF (fun i j => wholeF (unitI i j)) n (squareJ kdF n S2) H (itF r) i k).bad
    · refine .inr (.inr ?_)
      have e0 : squareJ kdF n (runO kdF n S H (itF r) n).s i k = dotF (linJ n (finX n s h r (max i k))) (linJ n (finX n s h r (min i k))) := by
        show dotF (linJ n ((runO kdF n S H (itF r) n).s (max i k))) (linJ n ((runO kdF n S H (itF r) n).s (min i k))) = _
        have g : ∀ a, a < n → linJ n ((runO kdF n S H (itF r) n).s a) = linJ n (finX n s h r a) := fun a ha => linJ_congr fun c hc => by rw [r1 a c ha hc, if_pos (by omega)]
        rw [g _ (by omega), g _ (by omega)]
      have f1 : fineR (squareJ kdF n (runO kdF n S H (itF r) n).s i k) = true := by
        rw [e0] at h1 ⊢
        rw [dot_bad9, h1]
        rfl
      have f2 : fineR (upPJ kdF (fun i j => wholeF (unitI i j)) n (squareJ kdF n S2) H (itF r) i k) = true := by
        have e : fineR (upPJ kdF (fun i j => wholeF (unitI i j)) n (squareJ kdF n S2) H (itF r) i k) = !(upPJ kdF (fun i j => wholeF (unitI i j)) n (squareJ kdF n S2) H (itF r) i k).bad := add_bad9 _ _
        rw [e, h2]
        rfl
      have U := up_q hi hk one9 (fun a b _ _ => by rw [sq_sym9]) f2
      have q1 := f1
      rw [e0] at q1
      have q2 := ex_sum T (show max i k < n by omega) (show min i k < n by omega) q1
      refine fr_eq f1 f2 ?_
      rw [U.ez, hp i k hi hk, hu i hi, hu k hk, ha, itQ, itQ, itQ, itQ, uI_e n1 n3 s h hi, uI_e n1 n3 s h hk, e0, q2, sqI_mir]
      by_cases hik : k ≤ i
      · rw [Nat.max_eq_left hik, Nat.min_eq_right hik]
      · rw [Nat.max_eq_right (by omega), Nat.min_eq_left (by omega), Rat.mul_comm (eI n s h k n : Rat)]
    · exact .inr (.inl rfl)
  · exact .inl rfl
end Go.Proofs.YtljmggemdkfbiaaGreat
