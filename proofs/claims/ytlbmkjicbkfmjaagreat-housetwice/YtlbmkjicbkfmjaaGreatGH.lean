/- HouseTwice: what an enclosed triangle of whole numbers folds to encloses it, with the signs that there are. Mathematics alone. -/
import Derived.Test.YtlbmkjicbkfmjaaGreatGB
import Derived.Test.YtlbmkjicbkfmjaaGreatGF
import Derived.Test.YtlbmkjicbkfmjaaGreatGE
/- A fold of enclosed numbers encloses that of fractions, with the same signs; a triangle of whole numbers folds to itself (layer 8, HouseTwice). Mathematics alone. -/
namespace Go.Proofs.YtlbmkjicbkfmjaaGreat
open Go.RowKit
set_option linter.unusedSimpArgs false
set_option linter.unusedVariables false

/-- Enclosed numbers, as a kind. -/
def kdN : Kd En := { z := wholeN 0, add := addE, sub := subE, mul := mulE, div := divE, root := rootE, neg := negE, dot := dotN }
theorem encF_neg {a : En} {f : Fr} (h : EncF a f) : EncF (negE a) (negR f) := by
  refine encF_sub (a := ptE 0 true) (f := zR) ?_ h
  have := encF_whole 0
  intro _
  exact .inr ⟨by decide, by constructor <;> decide⟩
theorem encL_tail {m k : Nat} {f : Nat → En} {g : Nat → Fr} (h : ∀ c, k ≤ c → c < m → EncF (f c) (g c)) : EncL (tailH m k f) (tailH m k g) := by
  refine encL_of (by unfold tailH; simp) fun j e g' h1 h2 => ?_
  have hj : j < m - k := by have := (List.getElem?_eq_some_iff.1 h1).1; unfold tailH at this; simpa using this
  unfold tailH at h1 h2
  rw [List.getElem?_map, List.getElem?_range hj] at h1 h2
  cases h1
  cases h2
  exact h _ (by omega) (by omega)
theorem foldTo_enc {n m : Nat} (hnm : n ≤ m) (σ : Nat → Bool) {a : Nat → Nat → En} {f : Nat → Nat → Fr} (h : ∀ i j, i < n → j < m → EncF (a i j) (f i j)) :
    ∀ k, k ≤ n → ∀ i j, i < n → j < m → EncF (foldTo kdN m σ a k i j) (foldTo kdF m σ f k i j)
  | 0, _, i, j, hi, hj => h i j hi hj
  | k + 1, hk, i, j, hi, hj => by
    obtain ⟨A, hA⟩ : ∃ A, A = foldTo kdN m σ a k := ⟨_, rfl⟩
    obtain ⟨B, hB⟩ : ∃ B, B = foldTo kdF m σ f k := ⟨_, rfl⟩
    show EncF (foldStep kdN m k (σ k) (foldTo kdN m σ a k) i j) (foldStep kdF m k (σ k) (foldTo kdF m σ f k) i j)
    rw [← hA, ← hB]
    have ih : ∀ i j, i < n → j < m → EncF (A i j) (B i j) := by rw [hA, hB]; exact foldTo_enc hnm σ h k (by omega)
    have row : ∀ i, i < n → EncL (tailH m k (A i)) (tailH m k (B i)) := fun i hi => encL_tail fun c _ hc => ih i c hi hc
    have hp : EncF (pH kdN m k (σ k) A) (pH kdF m k (σ k) B) := by
      have hr := encF_root (encF_dot (row k (by omega)) (row k (by omega)))
      unfold pH
      by_cases hb : σ k = true
      · rw [if_pos hb, if_pos hb]; exact hr
      · rw [if_neg hb, if_neg hb]; exact encF_neg hr
    have hv : ∀ c, k ≤ c → c < m → EncF (vH kdN m k (σ k) A c) (vH kdF m k (σ k) B c) := fun c h1 h2 => by
      unfold vH
      by_cases hc : c = k
      · rw [if_pos hc, if_pos hc]; exact encF_sub (ih k k (by omega) (by omega)) hp
      · rw [if_neg hc, if_neg hc]; exact ih k c (by omega) h2
    have hvl := encL_tail hv
    unfold foldStep
    by_cases h1 : i = k
    · rw [if_pos h1, if_pos h1]
      by_cases h2 : j = k
      · rw [if_pos h2, if_pos h2]; exact hp
      · rw [if_neg h2, if_neg h2]
        by_cases h3 : k < j
        · rw [if_pos h3, if_pos h3]; exact encF_whole 0
        · rw [if_neg h3, if_neg h3]; exact ih i j hi hj
    · rw [if_neg h1, if_neg h1]
      by_cases h2 : k < i ∧ k ≤ j
      · rw [if_pos h2, if_pos h2]
        have hd := encF_dot (row i hi) hvl
        exact encF_sub (ih i j hi hj) (encF_mul (hv j h2.2 hj) (encF_div (encF_add hd hd) (encF_dot hvl hvl)))
      · rw [if_neg h2, if_neg h2]; exact ih i j hi hj
theorem foldH_enc {n m : Nat} (hnm : n ≤ m) (σ τ : Nat → Bool) {a : Nat → Nat → En} {f : Nat → Nat → Fr} (h : ∀ i j, i < n → j < m → EncF (a i j) (f i j)) {i j : Nat} (hi : i < n) (hj : j < n) :
    EncF (foldH kdN n m σ τ a i j) (foldH kdF n m σ τ f i j) := by
  have e := foldTo_enc hnm σ h n (Nat.le_refl _) i j hi (by omega)
  unfold foldH signsH
  by_cases h1 : i < j
  · rw [if_pos h1, if_pos h1]; exact encF_whole 0
  · rw [if_neg h1, if_neg h1]
    by_cases h2 : j ≤ i ∧ τ j = true
    · rw [if_pos h2, if_pos h2]; exact encF_neg e
    · rw [if_neg h2, if_neg h2]; exact e
end Go.Proofs.YtlbmkjicbkfmjaaGreat

/- Enclosed numbers beside any rational numbers (layer 8 on: where roots are no fractions). Mathematics alone. -/
namespace Go.Proofs.YtlbmkjicbkfmjaaGreat
open Go.RowKit
set_option linter.unusedSimpArgs false
set_option linter.unusedVariables false

/-- It is Bad, or it may be, and encloses q. -/
def EncQ (e : En) (q : Rat) : Prop := Enq e q.num q.den
theorem den_pos (q : Rat) : (0 : Int) < q.den := by have := q.den_pos; omega
theorem rat_self (q : Rat) : Rat.divInt q.num q.den = q := Rat.num_divInt_den q
theorem encQ_of {e : En} {q : Rat} {n d : Int} (hd : 0 < d) (hq : q = Rat.divInt n d) (h : Enq e n d) : EncQ e q := by
  have hr := den_pos q
  have e2 := (Rat.divInt_eq_divInt_iff (by omega) (by omega)).1 ((rat_self q).trans hq)
  exact h.same hd hr e2.symm
theorem encQ_add {a b : En} {q r : Rat} (ha : EncQ a q) (hb : EncQ b r) : EncQ (addE a b) (q + r) := by
  have d1 := den_pos q
  have d2 := den_pos r
  refine encQ_of (Int.mul_pos d1 d2) ?_ (enq_add d1 d2 ha hb)
  rw [← Rat.divInt_add_divInt _ _ (by omega) (by omega), rat_self, rat_self]
theorem encQ_sub {a b : En} {q r : Rat} (ha : EncQ a q) (hb : EncQ b r) : EncQ (subE a b) (q - r) := by
  have d1 := den_pos q
  have d2 := den_pos r
  refine encQ_of (Int.mul_pos d1 d2) ?_ (enq_sub d1 d2 ha hb)
  rw [← Rat.divInt_sub_divInt _ _ (by omega) (by omega), rat_self, rat_self]
theorem encQ_mul {a b : En} {q r : Rat} (ha : EncQ a q) (hb : EncQ b r) : EncQ (mulE a b) (q * r) := by
  have d1 := den_pos q
  have d2 := den_pos r
  refine encQ_of (Int.mul_pos d1 d2) ?_ (enq_mul d1 d2 ha hb)
  rw [← Rat.divInt_mul_divInt, rat_self, rat_self]
theorem encQ_div {a b : En} {q r : Rat} (h0 : r ≠ 0) (ha : EncQ a q) (hb : EncQ b r) : EncQ (divE a b) (q / r) := by
  have d1 := den_pos q
  have d2 := den_pos r
  have hn : r.num ≠ 0 := fun h => h0 (Rat.num_eq_zero.1 h)
  refine encQ_of (Int.mul_pos d1 (szI_pp hn)) ?_ (enq_div d1 d2 ha hb)
  have e : q / r = Rat.divInt (q.num * r.den) (q.den * r.num) := by
    have e0 : q / r = Rat.divInt q.num q.den / Rat.divInt r.num r.den := by rw [rat_self, rat_self]
    rw [e0, Rat.div_def, Rat.inv_divInt, Rat.divInt_mul_divInt]
  rw [e]
  unfold sgI szI
  by_cases hn : r.num < 0
  · rw [if_pos hn, if_pos hn, ← Rat.neg_divInt_neg]
    rw [Int.mul_neg, Int.mul_neg, Int.mul_one, Int.neg_mul]
  · rw [if_neg hn, if_neg hn, Int.mul_one]
theorem encQ_neg {a : En} {q : Rat} (ha : EncQ a q) : EncQ (negE a) (-q) := by
  have h : EncQ (ptE 0 true) 0 := .inr ⟨by decide, by constructor <;> decide⟩
  have := encQ_sub h ha
  rw [show (0 : Rat) - q = -q by grind] at this
  exact this
theorem encQ_whole (n : Int) : EncQ (wholeN n) (n : Rat) := by
  refine encQ_of (d := 1) (n := n) (by decide) (toQ_whole n).symm ?_
  unfold wholeN
  cases hb : foB n
  · exact .inl rfl
  · have hw : Wn n := by unfold foB at hb; simp at hb; exact ⟨by omega, by omega⟩
    rw [show foN n = n * 16777216 by unfold foN; rw [hb]; rfl]
    exact enq_pt (fr_it hw) (by omega)
/-- Rows of them. -/
def EncR (es : List En) (qs : List Rat) : Prop := es.length = qs.length ∧ ∀ (k : Nat) (e : En) (q : Rat), es[k]? = some e → qs[k]? = some q → EncQ e q
theorem encR_cons {e : En} {q : Rat} {es : List En} {qs : List Rat} (h : EncR (e :: es) (q :: qs)) : EncQ e q ∧ EncR es qs :=
  ⟨h.2 0 e q rfl rfl, by have := h.1; simpa using this, fun k a b h1 h2 => h.2 (k + 1) a b h1 h2⟩
theorem encR_fold : ∀ {es : List En} {qs : List Rat} {e : En} {q : Rat}, EncR es qs → EncQ e q → EncQ (es.foldl addE e) (q + sumQ qs)
  | [], [], e, q, _, h => by show EncQ e (q + 0); rw [Rat.add_zero]; exact h
  | [], _ :: _, _, _, h, _ => by have := h.1; simp at this
  | _ :: _, [], _, _, h, _ => by have := h.1; simp at this
  | a :: es, b :: qs, e, q, h, hq => by
    obtain ⟨h1, h2⟩ := encR_cons h
    show EncQ (es.foldl addE (addE e a)) (q + (b + sumQ qs))
    rw [← Rat.add_assoc]
    exact encR_fold h2 (encQ_add hq h1)
theorem encR_mul : ∀ {us : List En} {qs : List Rat} {vs : List En} {rs : List Rat}, EncR us qs → EncR vs rs → EncR (List.zipWith mulE us vs) (List.zipWith (· * ·) qs rs) := by
  intro us qs vs rs h k
  refine ⟨by rw [List.length_zipWith, List.length_zipWith, h.1, k.1], fun i e q h1 h2 => ?_⟩
  rw [List.getElem?_zipWith] at h1 h2
  cases a1 : us[i]? with
  | none => rw [a1] at h1; simp at h1
  | some a =>
    cases a2 : vs[i]? with
    | none => rw [a1, a2] at h1; simp at h1
    | some b =>
      cases a3 : qs[i]? with
      | none => rw [a3] at h2; simp at h2
      | some c =>
        cases a4 : rs[i]? with
        | none => rw [a3, a4] at h2; simp at h2
        | some d =>
          rw [a1, a2] at h1
          rw [a3, a4] at h2
          cases h1
          cases h2
          exact encQ_mul (h.2 i a c a1 a3) (k.2 i b d a2 a4)
theorem encR_dot {us : List En} {qs : List Rat} {vs : List En} {rs : List Rat} (h : EncR us qs) (k : EncR vs rs) : EncQ (dotN us vs) (dotQ qs rs) := by
  have := encR_fold (encR_mul h k) (encQ_whole 0)
  rw [show ((0 : Int) : Rat) + sumQ (List.zipWith (· * ·) qs rs) = dotQ qs rs by unfold dotQ; grind] at this
  exact this
theorem encR_tail {m k : Nat} {f : Nat → En} {g : Nat → Rat} (h : ∀ c, k ≤ c → c < m → EncQ (f c) (g c)) : EncR (tailH m k f) ((List.range (m - k)).map fun j => g (k + j)) := by
  refine ⟨by unfold tailH; simp, fun j e q h1 h2 => ?_⟩
  have hj : j < m - k := by have := (List.getElem?_eq_some_iff.1 h1).1; unfold tailH at this; simpa using this
  unfold tailH at h1
  rw [List.getElem?_map, List.getElem?_range hj] at h1 h2
  cases h1
  cases h2
  exact h _ (by omega) (by omega)
theorem encR_dT {m k : Nat} {f f' : Nat → En} {g g' : Nat → Rat} (h : ∀ c, k ≤ c → c < m → EncQ (f c) (g c)) (h' : ∀ c, k ≤ c → c < m → EncQ (f' c) (g' c)) : EncQ (dotN (tailH m k f) (tailH m k f')) (dT m k g g') := by
  have := encR_dot (encR_tail h) (encR_tail h')
  rwa [dotQ_sumH] at this
theorem num_q (q : Rat) : (q.num : Rat) = q * ((q.den : Int) : Rat) := by
  have h := rat_self q
  rw [Rat.divInt_eq_div] at h
  have d : ((q.den : Int) : Rat) ≠ 0 := fun h0 => by
    have := den_pos q
    have := Rat.intCast_eq_zero_iff.1 h0
    omega
  grind
/-- In rational numbers. -/
theorem encQ_iff {e : En} {q : Rat} : EncQ e q ↔ e = wrongE ∨ (fineB e = true ∧ (e.l : Rat) ≤ q * 16777216 ∧ q * 16777216 ≤ (e.h : Rat)) := by
  have d := Rat.intCast_pos.2 (den_pos q)
  have hn := num_q q
  have c : ((16777216 : Int) : Rat) = 16777216 := rfl
  have k1 : e.l * (q.den : Int) ≤ q.num * 16777216 ↔ (e.l : Rat) ≤ q * 16777216 := by
    rw [← Rat.intCast_le_intCast, Rat.intCast_mul, Rat.intCast_mul, c, hn]
    constructor
    · intro h
      refine Rat.not_lt.1 fun hh => ?_
      have := Rat.mul_lt_mul_of_pos_right hh d
      grind
    · intro h
      have := Rat.mul_le_mul_of_nonneg_right h (Rat.le_of_lt d)
      grind
  have k2 : q.num * 16777216 ≤ e.h * (q.den : Int) ↔ q * 16777216 ≤ (e.h : Rat) := by
    rw [← Rat.intCast_le_intCast, Rat.intCast_mul, Rat.intCast_mul, c, hn]
    constructor
    · intro h
      refine Rat.not_lt.1 fun hh => ?_
      have := Rat.mul_lt_mul_of_pos_right hh d
      grind
    · intro h
      have := Rat.mul_le_mul_of_nonneg_right h (Rat.le_of_lt d)
      grind
  unfold EncQ Enq QIn
  rw [k1, k2]
/-- What lies within a unit of a whole number: it is enclosed, too. -/
theorem encQ_int {e : En} {q : Rat} {n : Int} (h : EncQ e q) (hb : e.bad = false) (h1 : ((n : Rat) - q) * 16777216 < 1) (h2 : (q - (n : Rat)) * 16777216 < 1) : Enq e n 1 := by
  rcases encQ_iff.1 h with rfl | ⟨hf, a, b⟩
  · cases hb
  · refine .inr ⟨hf, ?_⟩
    have g1 : (e.l : Rat) < ((n * 16777216 + 1 : Int) : Rat) := by rw [Rat.intCast_add, Rat.intCast_mul]; show (e.l : Rat) < (n : Rat) * 16777216 + 1; grind
    have g2 : ((n * 16777216 : Int) : Rat) < ((e.h + 1 : Int) : Rat) := by rw [Rat.intCast_add, Rat.intCast_mul]; show (n : Rat) * 16777216 < (e.h : Rat) + 1; grind
    have i1 := Rat.intCast_lt_intCast.1 g1
    have i2 := Rat.intCast_lt_intCast.1 g2
    constructor <;> omega
end Go.Proofs.YtlbmkjicbkfmjaaGreat

/- The root of an enclosed number encloses rational numbers whose squares lie as near as one likes (layer 8, HouseSquares). Mathematics alone. -/
namespace Go.Proofs.YtlbmkjicbkfmjaaGreat
open Go.RowKit
set_option linter.unusedSimpArgs false
set_option linter.unusedVariables false

theorem root_bd {a : En} (hb : (rootE a).bad = false) : fineB a = true ∧ fineB (rootE a) = true ∧ ∃ r t : Int, 0 ≤ r ∧ 0 ≤ t ∧ (rootE a).l ≤ r ∧ t ≤ (rootE a).h ∧ r * r ≤ a.l * 16777216 ∧ a.h * 16777216 ≤ t * t := by
  rcases fine_root a with hf | ⟨_, hf⟩
  · rw [hf] at hb; cases hb
  cases hk : okE bQ a a (prs2 a a)
  · rw [show rootE a = wrongE from told_bad hk] at hb; cases hb
  obtain ⟨h0, ha, _, ho⟩ := okE_iff.1 hk
  have et : rootE a = ⟨nQ a.v a.v 0, lowF nQ (prs2 a a), highF nQ (prs2 a a), false⟩ := told_ok hk
  have m1 : (a.l, a.l) ∈ prs2 a a := by simp [prs2]
  have m2 : (a.h, a.h) ∈ prs2 a a := by simp [prs2]
  have v1 := (ok_at ho m1).1
  have v2 := (ok_at ho m2).2
  have l1 := low_le (N := nQ) m1
  have l2 := le_high (N := nQ) m2
  simp only [bQ, nQ] at v1 v2 l1 l2
  have k1 := fqB_ok v1
  have k2 := fqB_ok v2
  obtain ⟨r, t, _, r0, _, t0, _, ea, ht, x1, _, _⟩ := fq_vals a.l k1.1 k1.2.1
  obtain ⟨r', t', _, r0', _, t0', _, ea', ht', _, x2, _⟩ := fq_vals a.h k2.1 k2.2.1
  rw [x1.1] at l1
  rw [x2.1] at l2
  obtain ⟨s, hs⟩ : ∃ s, s = upI r' (decide (0 < t')) := ⟨_, rfl⟩
  rw [← hs] at l2
  have hss : a.h * 16777216 ≤ s * s ∧ 0 ≤ s := by
    rw [hs, ea']
    unfold upI
    by_cases k : 0 < t'
    · simp only [decide_eq_true k, if_true]
      rw [Int.add_mul, Int.mul_add, Int.mul_one, Int.one_mul]
      exact ⟨by omega, by omega⟩
    · simp only [decide_eq_false k]
      exact ⟨by simp; omega, by simpa using r0'⟩
  refine ⟨ha, hf, r, s, r0, hss.2, ?_, ?_, by omega, hss.1⟩
  · rw [et]; exact l1
  · rw [et]; exact l2
theorem nat_root (N : Nat) : ∃ q : Nat, q * q ≤ N ∧ N < (q + 1) * (q + 1) := by
  induction N with
  | zero => exact ⟨0, by omega, by omega⟩
  | succ N ih =>
    obtain ⟨q, h1, h2⟩ := ih
    by_cases h : N + 1 < (q + 1) * (q + 1)
    · exact ⟨q, by omega, h⟩
    · refine ⟨q + 1, by omega, ?_⟩
      have : (q + 1 + 1) * (q + 1 + 1) = (q + 1) * (q + 1) + 2 * (q + 1) + 1 := by
        rw [Nat.add_mul (q + 1) 1, Nat.mul_add]; omega
      omega
theorem cancelQ {a b c : Rat} (hc : 0 < c) (h : a * c ≤ b * c) : a ≤ b := by
  refine Rat.not_lt.1 fun hh => ?_
  have := Rat.mul_lt_mul_of_pos_right hh hc
  grind
theorem sq_leQ {a b : Rat} (ha : 0 ≤ a) (hb : 0 ≤ b) (h : a * a ≤ b * b) : a ≤ b := by
  refine Rat.not_lt.1 fun hh => ?_
  have h1 := Rat.mul_lt_mul_of_pos_right hh (show 0 < a by grind)
  have h2 := Rat.mul_le_mul_of_nonneg_right (Rat.le_of_lt hh) hb
  grind
theorem near_root {x e : Rat} {r t : Int} (hr : 0 ≤ r) (ht : 0 ≤ t) (h1 : (r : Rat) * r ≤ x) (h2 : x ≤ (t : Rat) * t) (he : 0 < e) : ∃ z : Rat, (r : Rat) ≤ z ∧ z ≤ t ∧ z * z ≤ x ∧ x - z * z ≤ e := by
  have hrQ : (0 : Rat) ≤ r := Rat.intCast_nonneg.2 hr
  have htQ : (0 : Rat) ≤ t := Rat.intCast_nonneg.2 ht
  have hx : 0 ≤ x := Rat.le_trans (Rat.mul_nonneg hrQ hrQ) h1
  -- how fine
  obtain ⟨M, hM1, hM⟩ : ∃ M : Int, 1 ≤ M ∧ 2 * (t : Rat) + 1 ≤ e * (M : Rat) := by
    have hf := Rat.lt_floor_add_one ((2 * (t : Rat) + 1) / e)
    have h0 : 0 ≤ (2 * (t : Rat) + 1) / e := by
      rw [Rat.div_def]
      exact Rat.mul_nonneg (by grind) (Rat.le_of_lt (Rat.inv_pos.2 he))
    refine ⟨((2 * (t : Rat) + 1) / e).floor + 1, ?_, ?_⟩
    · have : (0 : Rat) < ((((2 * (t : Rat) + 1) / e).floor + 1 : Int) : Rat) := by grind
      have := Rat.intCast_pos.1 this
      omega
    · have := Rat.mul_le_mul_of_nonneg_right (Rat.le_of_lt hf) (Rat.le_of_lt he)
      have e1 : (2 * (t : Rat) + 1) / e * e = 2 * (t : Rat) + 1 := by grind
      grind
  obtain ⟨m, hm⟩ : ∃ m : Rat, m = (M : Rat) := ⟨_, rfl⟩
  have hm1 : 1 ≤ m := by rw [hm]; have := Rat.intCast_le_intCast.2 hM1; exact this
  have hm0 : 0 < m := by grind
  rw [← hm] at hM
  have hmm : 0 < m * m := Rat.mul_pos hm0 hm0
  have hxm : 0 ≤ x * (m * m) := Rat.mul_nonneg hx (Rat.le_of_lt hmm)
  -- its floor
  obtain ⟨q, g1, g2⟩ := nat_root (x * (m * m)).floor.toNat
  have hfl : 0 ≤ (x * (m * m)).floor := by
    have := Rat.lt_floor_add_one (x * (m * m))
    have h3 : (0 : Rat) < (((x * (m * m)).floor + 1 : Int) : Rat) := by grind
    have := Rat.intCast_pos.1 h3
    omega
  have g1' : ((q : Int) * (q : Int)) ≤ (x * (m * m)).floor := by
    have : ((q * q : Nat) : Int) ≤ (x * (m * m)).floor := by omega
    rwa [Int.natCast_mul] at this
  have g2' : (x * (m * m)).floor + 1 ≤ ((q : Int) + 1) * ((q : Int) + 1) := by
    have : (x * (m * m)).floor + 1 ≤ (((q + 1) * (q + 1) : Nat) : Int) := by omega
    rw [Int.natCast_mul] at this
    exact this
  obtain ⟨k, hk⟩ : ∃ k : Rat, k = ((q : Int) : Rat) := ⟨_, rfl⟩
  have k0 : 0 ≤ k := by rw [hk]; exact Rat.intCast_nonneg.2 (by omega)
  have a1 : k * k ≤ x * (m * m) := by
    have := Rat.intCast_le_intCast.2 g1'
    rw [Rat.intCast_mul, ← hk] at this
    exact Rat.le_trans this (Rat.floor_le _)
  have a2 : x * (m * m) < (k + 1) * (k + 1) := by
    have h3 := Rat.intCast_le_intCast.2 g2'
    rw [Rat.intCast_mul, Rat.intCast_add ((q : Int)), ← hk] at h3
    have h4 := Rat.lt_floor_add_one (x * (m * m))
    have h5 : ((1 : Int) : Rat) = 1 := rfl
    rw [h5] at h3
    grind
  obtain ⟨y, hy⟩ : ∃ y, y = k / m := ⟨_, rfl⟩
  have ym : y * m = k := by rw [hy]; grind
  have y0 : 0 ≤ y := by
    refine cancelQ hm0 ?_
    rw [ym]
    grind
  have yx : y * y ≤ x := by
    refine cancelQ hmm ?_
    have : y * y * (m * m) = k * k := by rw [← ym]; grind
    rw [this]
    exact a1
  have yt : y ≤ t := sq_leQ y0 htQ (Rat.le_trans yx h2)
  have near : x - y * y ≤ e := by
    refine cancelQ hmm ?_
    have e1 : (x - y * y) * (m * m) = x * (m * m) - k * k := by rw [← ym]; grind
    rw [e1]
    have e2 : k ≤ t * m := by rw [← ym]; exact Rat.mul_le_mul_of_nonneg_right yt (Rat.le_of_lt hm0)
    have e3 : (2 * (t : Rat) + 1) * m ≤ e * m * m := Rat.mul_le_mul_of_nonneg_right hM (Rat.le_of_lt hm0)
    grind
  by_cases hry : (r : Rat) ≤ y
  · exact ⟨y, hry, yt, yx, near⟩
  · have hyr : y ≤ r := by grind
    refine ⟨r, Rat.le_refl, sq_leQ hrQ htQ (Rat.le_trans h1 h2), h1, ?_⟩
    have h3 := Rat.mul_le_mul_of_nonneg_right hyr y0
    have h4 := Rat.mul_le_mul_of_nonneg_right hyr hrQ
    grind
/-- Of an enclosed number whose root is fine: one that the root encloses, whose square lies near. -/
theorem encQ_root {a : En} {x e : Rat} (ha : EncQ a x) (hb : (rootE a).bad = false) (he : 0 < e) : ∃ z : Rat, 0 ≤ z ∧ EncQ (rootE a) z ∧ z * z ≤ x ∧ x - z * z ≤ e := by
  obtain ⟨fa, fr, r, t, r0, t0, lr, th, hr, ht⟩ := root_bd hb
  rcases encQ_iff.1 ha with h | ⟨_, h1, h2⟩
  · rw [h] at fa; cases fa
  have c : ((16777216 : Int) : Rat) = 16777216 := rfl
  have hr' := Rat.intCast_le_intCast.2 hr
  have ht' := Rat.intCast_le_intCast.2 ht
  rw [Rat.intCast_mul, Rat.intCast_mul, c] at hr' ht'
  obtain ⟨z, z1, z2, z3, z4⟩ := near_root (x := x * 16777216 * 16777216) (e := e * 16777216 * 16777216) r0 t0 (by grind) (by grind) (by grind)
  have rQ : (0 : Rat) ≤ r := Rat.intCast_nonneg.2 r0
  have lQ := Rat.intCast_le_intCast.2 lr
  have tQ := Rat.intCast_le_intCast.2 th
  refine ⟨z / 16777216, ?_, encQ_iff.2 (.inr ⟨fr, ?_, ?_⟩), ?_, ?_⟩
  · grind
  · grind
  · grind
  · grind
  · grind
end Go.Proofs.YtlbmkjicbkfmjaaGreat

/- A fold of enclosed numbers whose triangle is fine: the triangle's square encloses the square of what was folded, though roots are no fractions (layer 8, HouseSquares). Mathematics alone. -/
namespace Go.Proofs.YtlbmkjicbkfmjaaGreat
open Go.RowKit
set_option linter.unusedSimpArgs false
set_option linter.unusedVariables false

theorem told_fine {N : Int → Int → Int → Int} {B : Int → Int → Int → Bool} {a b : En} {ps : List (Int × Int)} (h : (toldE N B a b ps).bad = false) : fineB a = true ∧ fineB b = true := by
  cases hk : okE B a b ps
  · rw [told_bad hk] at h; cases h
  · obtain ⟨_, ha, hb, _⟩ := okE_iff.1 hk
    exact ⟨ha, hb⟩
theorem fine_nb {a : En} (h : fineB a = true) : a.bad = false := (fineB_iff.1 h).1
theorem div_nz {a b : En} (h : (divE a b).bad = false) : zeroB b = false ∧ fineB a = true ∧ fineB b = true := by
  unfold divE at h
  cases hz : zeroB b
  · rw [hz] at h
    exact ⟨rfl, told_fine h⟩
  · rw [hz] at h; cases h
/-- Whatever it is divided by. -/
theorem encQ_div' {a b : En} {q r : Rat} (ha : EncQ a q) (hb : EncQ b r) : EncQ (divE a b) (q / r) ∧ ((divE a b).bad = false → r ≠ 0) := by
  by_cases h0 : r = 0
  · have hw : (divE a b).bad = false → False := fun h => by
      obtain ⟨hz, _, hfb⟩ := div_nz h
      rcases encQ_iff.1 hb with e | ⟨_, h1, h2⟩
      · rw [e] at hfb; cases hfb
      · rw [h0, Rat.zero_mul] at h1 h2
        have i1 := Rat.intCast_nonpos.1 h1
        have i2 := Rat.intCast_nonneg.1 h2
        unfold zeroB at hz
        simp at hz
        omega
    refine ⟨?_, fun h => (hw h).elim⟩
    have : divE a b = wrongE := by
      cases hz : zeroB b
      · rcases (show FineOr (divE a b) from fine_div a b) with e | ⟨e, _⟩
        · exact e
        · exact (hw e).elim
      · unfold divE; rw [hz]; rfl
    rw [this]
    exact .inl rfl
  · exact ⟨encQ_div h0 ha hb, fun _ => h0⟩
/-- One step, in rational numbers, with p on the diagonal. -/
def qV (k : Nat) (p : Rat) (a : Nat → Nat → Rat) (j : Nat) : Rat := if j = k then a k k - p else a k j
def qT (m k : Nat) (p : Rat) (a : Nat → Nat → Rat) (i : Nat) : Rat := (dT m k (a i) (qV k p a) + dT m k (a i) (qV k p a)) / dT m k (qV k p a) (qV k p a)
def qStep (m k : Nat) (p : Rat) (a : Nat → Nat → Rat) (i j : Nat) : Rat :=
  if i = k then (if j = k then p else if k < j then 0 else a i j) else if k < i ∧ k ≤ j then a i j - qV k p a j * qT m k p a i else a i j
theorem encQ_step {n m k : Nat} (hkn : k < n) (hnm : n ≤ m) {b : Bool} {A : Nat → Nat → En} {B : Nat → Nat → Rat} {p : Rat} (h : ∀ i j, i < n → j < m → EncQ (A i j) (B i j)) (hp : EncQ (pH kdN m k b A) p) :
    (∀ i j, i < n → j < m → EncQ (foldStep kdN m k b A i j) (qStep m k p B i j)) ∧ ∀ i, i < n → (tH kdN m k b A i).bad = false → EncQ (tH kdN m k b A i) (qT m k p B i) ∧ dT m k (qV k p B) (qV k p B) ≠ 0 := by
  have hv : ∀ c, k ≤ c → c < m → EncQ (vH kdN m k b A c) (qV k p B c) := fun c h1 h2 => by
    unfold vH qV
    by_cases hc : c = k
    · rw [if_pos hc, if_pos hc]; exact encQ_sub (h k k hkn (by omega)) hp
    · rw [if_neg hc, if_neg hc]; exact h k c hkn h2
  have hvv := encR_dT hv hv
  have ht : ∀ i, i < n → EncQ (tH kdN m k b A i) (qT m k p B i) ∧ ((tH kdN m k b A i).bad = false → dT m k (qV k p B) (qV k p B) ≠ 0) := fun i hi => by
    have hd := encR_dT (m := m) (k := k) (f := A i) (g := B i) (fun c _ h2 => h i c hi h2) hv
    exact encQ_div' (encQ_add hd hd) hvv
  refine ⟨fun i j hi hj => ?_, fun i hi hb => ⟨(ht i hi).1, (ht i hi).2 hb⟩⟩
  unfold foldStep qStep
  by_cases h1 : i = k
  · rw [if_pos h1, if_pos h1]
    by_cases h2 : j = k
    · rw [if_pos h2, if_pos h2]; exact hp
    · rw [if_neg h2, if_neg h2]
      by_cases h3 : k < j
      · rw [if_pos h3, if_pos h3]; exact encQ_whole 0
      · rw [if_neg h3, if_neg h3]; exact h i j hi hj
  · rw [if_neg h1, if_neg h1]
    by_cases h2 : k < i ∧ k ≤ j
    · rw [if_pos h2, if_pos h2]
      exact encQ_sub (h i j hi hj) (encQ_mul (hv j h2.2 hj) (ht i hi).1)
    · rw [if_neg h2, if_neg h2]; exact h i j hi hj
/-- What two rows are behind a step, where p's square is x's but for h. -/
theorem gram_step {m k : Nat} (hkm : k < m) {B : Nat → Nat → Rat} {p h : Rat} (hp : p * p = dT m k (B k) (B k) + h) (hz : ∀ i c, i < k → i < c → c < m → B i c = 0) {i j : Nat} (hij : i ≤ j) (hvv : k < j → dT m k (qV k p B) (qV k p B) ≠ 0) :
    sumH m (fun c => qStep m k p B i c * qStep m k p B j c) = sumH m (fun c => B i c * B j c) + (if i = k then (if j = k then h else h * qT m k p B j / 2) else 0) := by
  have hm : m = k + (m - k) := by omega
  have hs : ∀ f : Nat → Rat, sumH m f = sumH k f + sumH (m - k) fun j => f (k + j) := fun f => by
    have := sumH_split f k (m - k)
    rw [← hm] at this
    exact this
  have old : ∀ i c, c < k → qStep m k p B i c = B i c := fun i c hc => by
    unfold qStep
    by_cases h : i = k
    · rw [if_pos h, if_neg (by omega), if_neg (by omega)]
    · rw [if_neg h, if_neg (by omega)]
  have low : ∀ i c, i < k → qStep m k p B i c = B i c := fun i c hc => by
    unfold qStep
    rw [if_neg (by omega), if_neg (by omega)]
  have new : ∀ i c, k < i → k ≤ c → qStep m k p B i c = B i c - qV k p B c * qT m k p B i := fun i c h1 h2 => by
    unfold qStep
    rw [if_neg (by omega), if_pos ⟨h1, h2⟩]
  rw [hs, hs, sumH_congr k (g := fun c => B i c * B j c) fun c hc => by rw [old i c hc, old j c hc], Rat.add_assoc]
  congr 1
  show dT m k (fun c => qStep m k p B i c) (fun c => qStep m k p B j c) = dT m k (B i) (B j) + _
  by_cases h1 : i < k
  · rw [if_neg (by omega), Rat.add_zero, dT_zero (fun c h2 h3 => by rw [low i c h1]; exact hz i c h1 (by omega) h3), dT_zero (fun c h2 h3 => hz i c h1 (by omega) h3)]
  · by_cases h2 : i = k
    · rw [if_pos h2]
      subst h2
      have hz' : ∀ c, i < c → c < m → qStep m i p B i c = 0 := fun c h3 _ => by
        unfold qStep
        rw [if_pos rfl, if_neg (by omega), if_pos h3]
      have hpp : qStep m i p B i i = p := by unfold qStep; rw [if_pos rfl, if_pos rfl]
      rw [dT_one hkm hz', hpp]
      by_cases h3 : j = i
      · subst h3
        rw [if_pos rfl, hpp, hp]
      · rw [if_neg h3, new j i (by omega) (Nat.le_refl _)]
        have hvv' := hvv (by omega)
        obtain ⟨t, ht⟩ : ∃ t, t = qT m i p B j := ⟨_, rfl⟩
        rw [← ht]
        have v3 : t * dT m i (qV i p B) (qV i p B) = dT m i (B j) (qV i p B) + dT m i (B j) (qV i p B) := by
          rw [ht]
          unfold qT
          grind
        have v1 : qV i p B i = B i i - p := by unfold qV; rw [if_pos rfl]
        have ev : ∀ g : Nat → Rat, dT m i (qV i p B) g = dT m i (B i) g - p * g i := fun g => by
          rw [dT_congr (f' := fun c => B i c - (if c = i then (1 : Rat) else 0) * p) (g' := g) (fun c h4 h5 => by
            unfold qV
            by_cases hc : c = i
            · subst hc; rw [if_pos rfl, if_pos rfl]; grind
            · rw [if_neg hc, if_neg hc]; grind) (fun _ _ _ => rfl)]
          rw [dT_subl, dT_one (f := fun c => if c = i then (1 : Rat) else 0) hkm (fun c h4 _ => if_neg (by omega)), if_pos rfl]
          grind
        have e1 := ev (B j)
        have e2 := ev (qV i p B)
        have e3 := ev (B i)
        rw [dT_comm m i (B i) (qV i p B)] at e2
        rw [dT_comm m i (B j) (qV i p B)] at v3
        rw [v1] at e2 ⊢
        rw [e3] at e2
        rw [e2, e1] at v3
        grind
    · rw [if_neg h2, Rat.add_zero]
      have hvv' := hvv (by omega)
      rw [dT_congr (fun c h3 h4 => new i c (by omega) h3) (fun c h3 h4 => new j c (by omega) h3)]
      refine dT_fold hvv' ?_ ?_
      · unfold qT; grind
      · unfold qT; grind
end Go.Proofs.YtlbmkjicbkfmjaaGreat

/- A triangle of whole numbers with a diagonal above 0, folded, in fractions (layer 8, HouseTwice). Mathematics alone. -/
namespace Go.Proofs.YtlbmkjicbkfmjaaGreat
open Go.RowKit
set_option linter.unusedSimpArgs false
set_option linter.unusedVariables false

theorem neg_itH {x : Int} (h : Wh x) : negR (itF x) = itF (-x) := by
  rw [negR_fine (fine_it h)]
  rfl
/-- The dot of a row that has one number alone. -/
theorem dot_oneH {m k : Nat} {f g : Nat → Int} (hk : k < m) (hm : m ≤ 16) {F G : Int} (hf : ∀ c, c < m → -F ≤ f c ∧ f c ≤ F) (hg : ∀ c, c < m → -G ≤ g c ∧ g c ≤ G) (hF : 0 ≤ F ∧ F ≤ 1000) (hG : 0 ≤ G ∧ G ≤ 1000) (hz : ∀ c, k < c → c < m → g c = 0) :
    dotF (tailH m k fun c => itF (f c)) (tailH m k fun c => itF (g c)) = itF (f k * g k) := by
  have e : ∀ f : Nat → Int, (tailH m k fun c => itF (f c)) = ((List.range (m - k)).map fun j => f (k + j)).map itF := fun f => by unfold tailH; rw [List.map_map]; rfl
  have sm : ∀ {f : Nat → Int} {F : Int}, (∀ c, c < m → -F ≤ f c ∧ f c ≤ F) → Sml F ((List.range (m - k)).map fun j => f (k + j)) := fun h x hx => by
    obtain ⟨j, hj, rfl⟩ := List.mem_map.1 hx
    have := List.mem_range.1 hj
    exact h _ (by omega)
  rw [e, e, dot_it6 (A := F) (B := G) (sm hf) (sm hg) (by omega) (by omega) (by simp; omega) (by have := Int.mul_le_mul hF.2 hG.2 hG.1 (by omega : (0 : Int) ≤ 1000); omega)]
  congr 1
  have key : ∀ d, k + d ≤ m → 1 ≤ d → dotI ((List.range d).map fun j => f (k + j)) ((List.range d).map fun j => g (k + j)) = f k * g k := by
    intro d
    induction d with
    | zero => intro _ h; omega
    | succ d ih =>
      intro h1 h2
      unfold dotI
      rw [List.range_succ, List.map_append, List.map_append, List.zipWith_append (by simp), List.sum_append]
      by_cases hd : d = 0
      · subst hd
        simp
      · rw [show (List.zipWith (· * ·) ((List.range d).map fun j => f (k + j)) ((List.range d).map fun j => g (k + j))).sum = f k * g k from ih (by omega) (by omega)]
        simp [hz (k + d) (by omega) (by omega)]
  exact key (m - k) (by omega) (by omega)
/-- What stands there behind k steps. -/
def triH (s : Nat → Nat → Int) (k i j : Nat) : Int := if j < k ∧ j ≤ i then -(s i j) else s i j
theorem foldTri {n : Nat} {s : Nat → Nat → Int} (hn : n ≤ 16) (hs : Sm2 100 n n s) (hl : Low 0 s) (hd : ∀ k, k < n → 0 < s k k) :
    ∀ k, k ≤ n → ∀ i j, i < n → j < n → foldTo kdF n (fun _ => false) (fun i j => itF (s i j)) k i j = itF (triH s k i j)
  | 0, _, i, j, _, _ => by unfold triH; rw [if_neg (by omega)]; rfl
  | k + 1, hk, i, j, hi, hj => by
    obtain ⟨B, hB⟩ : ∃ B, B = foldTo kdF n (fun _ => false) (fun i j => itF (s i j)) k := ⟨_, rfl⟩
    show foldStep kdF n k false (foldTo kdF n (fun _ => false) (fun i j => itF (s i j)) k) i j = _
    rw [← hB]
    have ih : ∀ i j, i < n → j < n → B i j = itF (triH s k i j) := by rw [hB]; exact foldTri hn hs hl hd k (by omega)
    have hkn : k < n := by omega
    have up : ∀ i c, k ≤ c → triH s k i c = s i c := fun i c hc => by unfold triH; rw [if_neg (by omega)]
    have hkk := hs k k hkn hkn
    have hdk := hd k hkn
    have b1 := mul_bound (A := 100) (B := 100) hkk hkk
    -- the row, its root
    have tl : ∀ i, i < n → tailH n k (B i) = tailH n k fun c => itF (s i c) := fun i hi => by
      unfold tailH
      refine List.map_congr_left fun j hj => ?_
      have := List.mem_range.1 hj
      rw [ih i (k + j) hi (by omega), up i (k + j) (by omega)]
    have hroot : rootR (dotF (tailH n k (B k)) (tailH n k (B k))) = itF (s k k) := by
      rw [tl k hkn, dot_oneH hkn hn (F := 100) (G := 100) (fun c hc => hs k c hkn hc) (fun c hc => hs k c hkn hc) (by omega) (by omega) (fun c h1 _ => hl k c h1)]
      exact root_it (by omega) (by omega)
    have hp : pH kdF n k false B = itF (-(s k k)) := by
      unfold pH
      rw [if_neg (by decide)]
      show negR (rootR (dotF (tailH n k (B k)) (tailH n k (B k)))) = _
      rw [hroot, neg_itH ⟨by omega, by omega⟩]
    have hv : ∀ c, k ≤ c → c < n → vH kdF n k false B c = itF (if c = k then 2 * s k k else 0) := fun c h1 h2 => by
      unfold vH
      by_cases hc : c = k
      · rw [if_pos hc, if_pos hc, hp, ih k k hkn hkn, up k k (Nat.le_refl _)]
        show subR (itF (s k k)) (itF (-(s k k))) = _
        rw [sub_it ⟨by omega, by omega⟩ ⟨by omega, by omega⟩ ⟨by omega, by omega⟩]
        congr 1
        omega
      · rw [if_neg hc, if_neg hc, ih k c hkn h2, up k c h1, hl k c (by omega)]
    have vl : tailH n k (vH kdF n k false B) = tailH n k fun c => itF (if c = k then 2 * s k k else 0) := by
      unfold tailH
      refine List.map_congr_left fun j hj => ?_
      have := List.mem_range.1 hj
      exact hv (k + j) (by omega) (by omega)
    unfold foldStep
    by_cases h1 : i = k
    · rw [if_pos h1]
      subst h1
      by_cases h2 : j = i
      · subst h2
        rw [if_pos rfl, hp]
        unfold triH
        rw [if_pos (by omega)]
      · rw [if_neg h2]
        by_cases h3 : i < j
        · rw [if_pos h3]
          unfold triH
          rw [if_neg (by omega), hl i j h3]
          rfl
        · rw [if_neg h3, ih i j hi hj]
          congr 1
          unfold triH
          rw [if_pos (by omega), if_pos (by omega)]
    · rw [if_neg h1]
      by_cases h2 : k < i ∧ k ≤ j
      · rw [if_pos h2]
        have hik := hs i k hi hkn
        have b2 := mul_bound (A := 100) (B := 100) hik hkk
        have hdot : dotF (tailH n k (B i)) (tailH n k (vH kdF n k false B)) = itF (s i k * (2 * s k k)) := by
          rw [tl i hi, vl, dot_oneH hkn hn (F := 100) (G := 200) (fun c hc => hs i c hi hc) (fun c hc => by split <;> omega) (by omega) (by omega) (fun c h1 _ => if_neg (by omega)), if_pos rfl]
        have hq : dotF (tailH n k (vH kdF n k false B)) (tailH n k (vH kdF n k false B)) = itF (2 * s k k * (2 * s k k)) := by
          rw [vl, dot_oneH hkn hn (F := 200) (G := 200) (fun c hc => by split <;> omega) (fun c hc => by split <;> omega) (by omega) (by omega) (fun c h1 _ => if_neg (by omega)), if_pos rfl]
        have e1 : s i k * (2 * s k k) = 2 * (s i k * s k k) := by rw [Int.mul_left_comm]
        have e2 : 2 * s k k * (2 * s k k) = 4 * (s k k * s k k) := by rw [Int.mul_assoc, Int.mul_left_comm (s k k) 2, ← Int.mul_assoc]; rfl
        have hsum : addR (itF (s i k * (2 * s k k))) (itF (s i k * (2 * s k k))) = itF (4 * (s i k * s k k)) := by
          rw [e1, add_it ⟨by omega, by omega⟩ ⟨by omega, by omega⟩ ⟨by omega, by omega⟩]
          congr 1
          omega
        -- v times t
        obtain ⟨t, ht⟩ : ∃ t, t = divR (itF (4 * (s i k * s k k))) (itF (4 * (s k k * s k k))) := ⟨_, rfl⟩
        have htt : tH kdF n k false B i = t := by
          unfold tH
          show divR (addR (dotF (tailH n k (B i)) (tailH n k (vH kdF n k false B))) (dotF (tailH n k (B i)) (tailH n k (vH kdF n k false B)))) (dotF (tailH n k (vH kdF n k false B)) (tailH n k (vH kdF n k false B))) = t
          rw [hdot, hq, hsum, e2, ht]
        have sq0 : 0 < s k k * s k k := Int.mul_pos hdk hdk
        have st : Sm 100 100 t ∧ toQ t = Rat.divInt (s i k) (s k k) := by
          have f1 := fine_it (n := 4 * (s i k * s k k)) ⟨by omega, by omega⟩
          have f2 := fine_it (n := 4 * (s k k * s k k)) ⟨by omega, by omega⟩
          have hh := sm_of (n := s i k) (d := s k k) (N := 100) (D := 100) hdk hik hkk.2 (by omega) (by omega)
          have he : t = ofQ (Rat.divInt (s i k) (s k k)) := by
            rw [ht, divR_fine f1 f2 (by show 4 * (s k k * s k k) ≠ 0; omega)]
            congr 1
            unfold toQ itF
            rw [Rat.div_def, Rat.inv_divInt, Rat.divInt_mul_divInt, Int.mul_one, Int.one_mul, show 4 * (s i k * s k k) = s i k * (4 * s k k) by rw [Int.mul_left_comm], show 4 * (s k k * s k k) = s k k * (4 * s k k) by rw [Int.mul_left_comm]]
            exact Rat.divInt_mul_right (by omega)
          rw [he]
          have hok := hh.1
          rw [ofQ_fine] at hok
          exact ⟨hh, toQ_ofQ hok⟩
        rw [htt, ih i j hi hj, up i j h2.2, hv j h2.2 hj]
        show subR (itF (s i j)) (mulR (itF (if j = k then 2 * s k k else 0)) t) = _
        by_cases hjk : j = k
        · subst hjk
          rw [if_pos rfl]
          have hw : Wh (2 * s i j) := ⟨by omega, by omega⟩
          have fm : mulR (itF (2 * s j j)) t = itF (2 * s i j) := by
            rw [mulR_fine (fine_it ⟨by omega, by omega⟩) st.1.1, st.2, ← ofQ_toQ (fine_it hw)]
            congr 1
            unfold toQ itF
            rw [Rat.divInt_mul_divInt, Int.one_mul, show 2 * s j j * s i j = 2 * s i j * s j j by rw [Int.mul_assoc, Int.mul_comm (s j j), ← Int.mul_assoc]]
            have := Rat.divInt_mul_right (n := 2 * s i j) (d := 1) (a := s j j) (by omega)
            rw [Int.one_mul] at this
            exact this
          rw [fm, sub_it ⟨by omega, by omega⟩ hw ⟨by omega, by omega⟩]
          congr 1
          unfold triH
          rw [if_pos (by omega)]
          omega
        · rw [if_neg hjk]
          have hij := hs i j hi hj
          have fm : mulR (itF 0) t = itF 0 := by
            rw [mulR_fine (fine_it ⟨by omega, by omega⟩) st.1.1, show toQ (itF 0) = 0 from toQ_whole 0, Rat.zero_mul]
            rfl
          rw [fm, sub_it ⟨by omega, by omega⟩ ⟨by omega, by omega⟩ ⟨by omega, by omega⟩, Int.sub_zero]
          congr 1
          unfold triH
          rw [if_neg (by omega)]
      · rw [if_neg h2, ih i j hi hj]
        congr 1
        unfold triH
        by_cases h3 : j < k ∧ j ≤ i
        · rw [if_pos h3, if_pos (by omega)]
        · rw [if_neg h3, if_neg (by omega)]
end Go.Proofs.YtlbmkjicbkfmjaaGreat

/- HouseTwice: an enclosed triangle of whole numbers with a diagonal above 0 folds to what encloses it. Mathematics alone. -/
namespace Go.Proofs.YtlbmkjicbkfmjaaGreat
open Go.RowKit
set_option linter.unusedSimpArgs false
set_option linter.unusedVariables false

theorem subN_it {a b : Int} (ha : Wn a) (hb : Wn b) (h : Wn (a - b)) : subE (itN a) (itN b) = itN (a - b) := by
  have e : a * 16777216 - b * 16777216 = (a - b) * 16777216 := by omega
  have t := fs_told (fr_it ha) (fr_it hb) (by rw [e]; exact fr_it h)
  have hs : Same (prsX (itN a) (itN b)) (a * 16777216) (b * 16777216) := same_prsX _ _
  have ok : okE bS (itN a) (itN b) (prsX (itN a) (itN b)) = true := okE_iff.2 ⟨t.1, fineN_it ha, fineN_it hb, by rw [hs.ok]; unfold bS; rw [t.1]; rfl⟩
  have e1 := told_ok (N := nS) ok
  unfold subE
  rw [e1, hs.low bdS, hs.high bdS]
  have hn : ∀ m, nS (a * 16777216) (b * 16777216) m = (a - b) * 16777216 := fun m => by show fsN _ _ = _; rw [t.2, e]
  show (⟨nS (a * 16777216) (b * 16777216) 0, _, _, false⟩ : En) = _
  rw [hn, hn, hn]
  rfl
theorem negN_it {a : Int} (ha : Wn a) : negE (itN a) = itN (-a) := by
  have h := subN_it (a := 0) (b := a) ⟨by omega, by omega⟩ ha (by obtain ⟨h1, h2⟩ := ha; exact ⟨by omega, by omega⟩)
  rw [Int.zero_sub] at h
  exact h
theorem fm_zero (y m : Int) : fmN 0 y m = 0 := by
  unfold fmN
  cases hb : fmB 0 y m
  · rfl
  · have hm : mdB 0 y 16777216 m = true := by unfold fmB at hb; simp only [Bool.and_eq_true] at hb; exact hb.1.1
    rw [toN_t, md_round _ _ _ _ (by decide) hm, Int.zero_mul]
    have := rnd_it 0 16777216 m (by decide)
    rwa [Int.zero_mul] at this
/-- 0 times anything. -/
theorem mulN_zero (t : En) : mulE (itN 0) t = itN 0 ∨ mulE (itN 0) t = wrongE := by
  cases hk : okE fmB (itN 0) t (prs4 (itN 0) t)
  · exact .inr (told_bad hk)
  · refine .inl ?_
    unfold mulE
    rw [told_ok hk]
    have e : prs4 (itN 0) t = [(0, t.l), (0, t.h), (0, t.l), (0, t.h)] := rfl
    rw [e]
    show (⟨fmN 0 t.v 0, _, _, false⟩ : En) = _
    unfold lowF highF
    simp only [List.foldl_cons, List.foldl_nil, fm_zero]
    rfl
theorem rootN_it {s : Int} (h0 : 0 ≤ s) (h1 : s ≤ 8000) : rootE (itN (s * s)) = itN s := by
  have hb : s * s ≤ 64000000 := by have := Int.mul_le_mul h1 h1 h0 (by omega : (0 : Int) ≤ 8000); omega
  have hb0 : 0 ≤ s * s := Int.mul_nonneg h0 h0
  have hw : Wn (s * s) := ⟨by omega, by omega⟩
  obtain ⟨r, t, _, r0, _, t0, _, ea, ht, x1, x2, x0⟩ := fq_vals (s * s * 16777216) (fr_it hw) (by omega)
  have e1 : s * s * 16777216 * 16777216 = s * 16777216 * (s * 16777216) := by ac_rfl
  rw [e1] at ea
  obtain ⟨u, hu⟩ : ∃ u, u = s * 16777216 := ⟨_, rfl⟩
  rw [← hu] at ea
  have u0 : 0 ≤ u := by omega
  have hru : r = u := by
    have g1 : r ≤ u := sq_le r0 u0 (by omega)
    have g2 : u < r + 1 := by
      refine Int.not_le.1 fun hh => ?_
      have := Int.mul_le_mul hh hh (by omega) u0
      have e2 : (r + 1) * (r + 1) = r * r + 2 * r + 1 := by rw [Int.add_mul, Int.mul_add]; omega
      omega
    omega
  have ht0 : t = 0 := by rw [hru] at ea; omega
  rw [ht0, hru] at x0 x2
  rw [hru] at x1
  have up : upI u (decide ((0 : Int) < 0)) = u := by unfold upI; simp
  have up2 : upI u (decide (u < 0)) = u := by unfold upI; simp; omega
  rw [up] at x2
  rw [up2] at x0
  have hs : Same (prs2 (itN (s * s)) (itN (s * s))) (s * s * 16777216) (s * s * 16777216) := same_prs2 _ _
  have ok : okE bQ (itN (s * s)) (itN (s * s)) (prs2 (itN (s * s)) (itN (s * s))) = true := okE_iff.2 ⟨x0.2, fineN_it hw, fineN_it hw, by rw [hs.ok]; unfold bQ; rw [x1.2, x2.2]; rfl⟩
  unfold rootE
  rw [told_ok (N := nQ) ok, hs.low bdQ, hs.high bdQ]
  show (⟨fqN (s * s * 16777216) 0, fqN (s * s * 16777216) 1, fqN (s * s * 16777216) 2, false⟩ : En) = _
  rw [x0.1, x1.1, x2.1, hu]
  rfl
/-- Bad, or just so. -/
def OrW (e : En) (n : Int) : Prop := e = itN n ∨ e = wrongE
theorem orW_add {a b : En} {m n : Int} (ha : OrW a m) (hb : OrW b n) (h1 : Wn m) (h2 : Wn n) (h3 : Wn (m + n)) : OrW (addE a b) (m + n) := by
  rcases ha with rfl | rfl
  · rcases hb with rfl | rfl
    · exact .inl (addN_it h1 h2 h3)
    · exact .inr (told_wrong (.inr rfl))
  · exact .inr (told_wrong (.inl rfl))
theorem orW_mul {a b : En} {m n : Int} (ha : OrW a m) (hb : OrW b n) (h1 : Wn m) (h2 : Wn n) (h3 : Wn (m * n)) : OrW (mulE a b) (m * n) := by
  rcases ha with rfl | rfl
  · rcases hb with rfl | rfl
    · exact .inl (mulN_it h1 h2 h3)
    · exact .inr (told_wrong (.inr rfl))
  · exact .inr (told_wrong (.inl rfl))
/-- A sum that has numbers of 0 behind its first one. -/
theorem orW_fold : ∀ (es : List En) (a : En) (n : Int), Wn n → OrW a n → (∀ e ∈ es, OrW e 0) → OrW (es.foldl addE a) n
  | [], a, n, _, h, _ => h
  | e :: es, a, n, hn, h, hz => by
    have := orW_add h (hz e (by simp)) hn ⟨by omega, by omega⟩ (by rw [Int.add_zero]; exact hn)
    rw [Int.add_zero] at this
    exact orW_fold es (addE a e) n hn this fun x hx => hz x (by simp [hx])
theorem zeroW : wholeN 0 = itN 0 := rfl
/-- Whether a number is below 0. -/
def lowN (e : En) : Bool := decide (signE e < 0)
theorem lowN_it {n : Int} : lowN (itN n) = decide (n < 0) := by
  unfold lowN
  show decide (cmpI (n * 16777216) 0 < 0) = decide (n < 0)
  unfold cmpI
  congr 1
  refine propext ?_
  split
  · constructor
    · intro _; omega
    · intro _; omega
  · split
    · constructor
      · intro h; omega
      · intro h; omega
    · constructor
      · intro h; omega
      · intro h; omega
theorem lowN_wrong : lowN wrongE = false := rfl
theorem wrong_mul (a : En) : mulE a wrongE = wrongE := told_wrong (.inr rfl)
theorem wrong_sub (a : En) : subE a wrongE = wrongE := told_wrong (.inr rfl)
theorem wrong_sub' (a : En) : subE wrongE a = wrongE := told_wrong (.inl rfl)
theorem wrong_div (a : En) : divE a wrongE = wrongE := by
  unfold divE
  split
  · rfl
  · exact told_wrong (.inr rfl)
theorem wrong_fold : ∀ (es : List En), es.foldl addE wrongE = wrongE
  | [] => rfl
  | e :: es => by show es.foldl addE (addE wrongE e) = _; rw [show addE wrongE e = wrongE from told_wrong (.inl rfl)]; exact wrong_fold es
/-- A dot whose first product is Bad. -/
theorem dot_wrong (us vs : List En) : dotN (wrongE :: us) (wrongE :: vs) = wrongE := by
  show (List.zipWith mulE us vs).foldl addE (addE (wholeN 0) (mulE wrongE wrongE)) = _
  rw [wrong_mul, show addE (wholeN 0) wrongE = wrongE from told_wrong (.inr rfl), wrong_fold]
/-- The triangle behind k steps: its rows that are still to come. -/
def TriN (n k : Nat) (s : Nat → Nat → Int) (A : Nat → Nat → En) : Prop := ∀ i j, k ≤ i → i < n → k ≤ j → j < n → OrW (A i j) (s i j)
theorem tail_cons {m k : Nat} (f : Nat → En) (h : k < m) : ∃ rest : List En, tailH m k f = f k :: rest ∧ ∀ e ∈ rest, ∃ c, k < c ∧ c < m ∧ e = f c := by
  obtain ⟨d, hd⟩ : ∃ d, m - k = d + 1 := ⟨m - k - 1, by omega⟩
  refine ⟨(List.range d).map fun j => f (k + (j + 1)), ?_, fun e he => ?_⟩
  · unfold tailH
    rw [hd, List.range_succ_eq_map, List.map_cons, List.map_map]
    rfl
  · obtain ⟨j, hj, rfl⟩ := List.mem_map.1 he
    have := List.mem_range.1 hj
    exact ⟨k + (j + 1), by omega, by omega, rfl⟩
theorem zip_zero : ∀ (us vs : List En), (∀ e ∈ us, OrW e 0) → (∀ e ∈ vs, OrW e 0) → ∀ e ∈ List.zipWith mulE us vs, OrW e 0
  | [], _, _, _, e, h => by simp at h
  | _ :: _, [], _, _, e, h => by simp at h
  | u :: us, v :: vs, h1, h2, e, h => by
    simp only [List.zipWith_cons_cons, List.mem_cons] at h
    rcases h with rfl | h
    · have := orW_mul (h1 u (by simp)) (h2 v (by simp)) ⟨by omega, by omega⟩ ⟨by omega, by omega⟩ (by rw [Int.mul_zero]; exact ⟨by omega, by omega⟩)
      rwa [Int.mul_zero] at this
    · exact zip_zero us vs (fun x hx => h1 x (by simp [hx])) (fun x hx => h2 x (by simp [hx])) e h
/-- What stands on the diagonal then. -/
theorem tri_p {n k : Nat} {s : Nat → Nat → Int} (hn : n ≤ 16) (hs : Sm2 100 n n s) (hl : Low 0 s) (hd : ∀ k, k < n → 0 < s k k) {A : Nat → Nat → En} (hA : TriN n k s A) (hk : k < n) : OrW (pH kdN n k false A) (-(s k k)) := by
  have hkk := hs k k hk hk
  have b := mul_bound (A := 100) (B := 100) hkk hkk
  obtain ⟨rest, e, hr⟩ := tail_cons (A k) hk
  have hz : ∀ x ∈ rest, OrW x 0 := fun x hx => by
    obtain ⟨c, h1, h2, rfl⟩ := hr x hx
    have := hA k c (Nat.le_refl _) hk (by omega) h2
    rwa [hl k c h1] at this
  have hdot : OrW (dotN (tailH n k (A k)) (tailH n k (A k))) (s k k * s k k) := by
    rw [e]
    show OrW ((List.zipWith mulE rest rest).foldl addE (addE (wholeN 0) (mulE (A k k) (A k k)))) _
    have h0 := hA k k (Nat.le_refl _) hk (Nat.le_refl _) hk
    have h1 := orW_mul h0 h0 ⟨by omega, by omega⟩ ⟨by omega, by omega⟩ ⟨by omega, by omega⟩
    have h2 := orW_add (a := wholeN 0) (m := 0) (.inl zeroW) h1 ⟨by omega, by omega⟩ ⟨by omega, by omega⟩ (by rw [Int.zero_add]; exact ⟨by omega, by omega⟩)
    rw [Int.zero_add] at h2
    exact orW_fold _ _ _ ⟨by omega, by omega⟩ h2 (zip_zero _ _ hz hz)
  unfold pH
  rw [if_neg (by decide)]
  show OrW (negE (rootE (dotN (tailH n k (A k)) (tailH n k (A k))))) _
  have := hd k hk
  rcases hdot with h | h
  · rw [h, rootN_it (by omega) (by omega), negN_it ⟨by omega, by omega⟩]
    exact .inl rfl
  · rw [h, show rootE wrongE = wrongE from told_wrong (.inl rfl)]
    exact .inr (wrong_sub _)
theorem tri_next {n k : Nat} {s : Nat → Nat → Int} (hs : Sm2 100 n n s) (hl : Low 0 s) {A : Nat → Nat → En} (hA : TriN n k s A) (hk : k < n) : TriN n (k + 1) s (foldStep kdN n k false A) := fun i j hi hin hj hjn => by
  have h0 := hA i j (by omega) hin (by omega) hjn
  have hij := hs i j hin hjn
  unfold foldStep
  rw [if_neg (by omega), if_pos (by omega)]
  have hv : OrW (vH kdN n k false A j) 0 := by
    unfold vH
    rw [if_neg (by omega)]
    have := hA k j (Nat.le_refl _) hk (by omega) hjn
    rwa [hl k j (by omega)] at this
  show OrW (subE (A i j) (mulE (vH kdN n k false A j) (tH kdN n k false A i))) (s i j)
  have hm : OrW (mulE (vH kdN n k false A j) (tH kdN n k false A i)) 0 := by
    rcases hv with h | h
    · rw [h]; exact mulN_zero _
    · rw [h]; exact .inr (told_wrong (.inl rfl))
  rcases h0 with h | h
  · rcases hm with g | g
    · rw [h, g, subN_it ⟨by omega, by omega⟩ ⟨by omega, by omega⟩ (by rw [Int.sub_zero]; exact ⟨by omega, by omega⟩), Int.sub_zero]
      exact .inl rfl
    · rw [g]; exact .inr (wrong_sub _)
  · rw [h]; exact .inr (wrong_sub' _)
end Go.Proofs.YtlbmkjicbkfmjaaGreat

/- HouseSquares: where a fold's triangle is fine, its square encloses the square of the whole numbers that were folded. Mathematics alone. -/
namespace Go.Proofs.YtlbmkjicbkfmjaaGreat
open Go.RowKit
set_option linter.unusedSimpArgs false
set_option linter.unusedVariables false

def epsH : Rat := 1 / 1125899906842624
def delH : Rat := 1 / 33554432
/-- What is near. -/
def NearH (q r : Rat) : Prop := q - r ≤ delH ∧ r - q ≤ delH
theorem near_self (q : Rat) : NearH q q := by unfold NearH delH; constructor <;> grind
/-- A number that is fine is at most so great. -/
theorem encQ_size {e : En} {q : Rat} (h : EncQ e q) (hb : e.bad = false) : -67108864 ≤ q ∧ q ≤ 67108864 := by
  rcases encQ_iff.1 h with rfl | ⟨hf, h1, h2⟩
  · cases hb
  · obtain ⟨_, _, _, f1, f2⟩ := fineB_iff.1 hf
    have g1 := Rat.intCast_le_intCast.2 (frB_iff.1 f1).1
    have g2 := Rat.intCast_le_intCast.2 (frB_iff.1 f2).2
    have c1 : ((-1125899906842624 : Int) : Rat) = -1125899906842624 := rfl
    have c2 : ((1125899906842624 : Int) : Rat) = 1125899906842624 := rfl
    rw [c1] at g1
    rw [c2] at g2
    constructor <;> grind
/-- The rational numbers behind k steps. -/
def RunH (n m : Nat) (A : Nat → Nat → En) (k : Nat) (G : Nat → Nat → Rat) (B : Nat → Nat → Rat) : Prop :=
  (∀ i j, i < n → j < m → EncQ (A i j) (B i j)) ∧ (∀ i c, i < k → i < c → c < m → B i c = 0) ∧
    ∀ i j, i ≤ j → j < n → (k ≤ i → sumH m (fun c => B i c * B j c) = G i j) ∧ NearH (sumH m fun c => B i c * B j c) (G i j)
theorem run_step {n m k : Nat} (hkn : k < n) (hnm : n ≤ m) {b : Bool} {A : Nat → Nat → En} {G B : Nat → Nat → Rat} (hr : RunH n m A k G B) (hp : (pH kdN m k b A).bad = false) (ht : ∀ i, k < i → i < n → (tH kdN m k b A i).bad = false) :
    ∃ B', RunH n m (foldStep kdN m k b A) (k + 1) G B' := by
  obtain ⟨h1, h2, h3⟩ := hr
  have hD := encR_dT (m := m) (k := k) (f := A k) (g := B k) (fun c _ hc => h1 k c hkn hc) (fun c _ hc => h1 k c hkn hc)
  -- the root
  have hrb : (rootE (dotN (tailH m k (A k)) (tailH m k (A k)))).bad = false := by
    unfold pH at hp
    by_cases hb : b = true
    · rw [if_pos hb] at hp; exact hp
    · rw [if_neg hb] at hp
      exact fine_nb (told_fine (show (subE (ptE 0 true) (rootE (dotN (tailH m k (A k)) (tailH m k (A k))))).bad = false from hp)).2
  obtain ⟨z, z0, z1, z2, z3⟩ := encQ_root (e := epsH) hD hrb (by unfold epsH; grind)
  obtain ⟨p, hpe, hpp⟩ : ∃ p, EncQ (pH kdN m k b A) p ∧ p * p = z * z := by
    unfold pH
    by_cases hb : b = true
    · rw [if_pos hb]; exact ⟨z, z1, rfl⟩
    · rw [if_neg hb]; exact ⟨-z, encQ_neg z1, by grind⟩
  obtain ⟨e1, e2⟩ := encQ_step hkn hnm h1 hpe
  obtain ⟨h, hh⟩ : ∃ h, h = z * z - dT m k (B k) (B k) := ⟨_, rfl⟩
  have hph : p * p = dT m k (B k) (B k) + h := by grind
  have b1 : h ≤ 0 := by grind
  have b2 : -epsH ≤ h := by grind
  refine ⟨qStep m k p B, e1, fun i c hi hc hm => ?_, fun i j hij hj => ?_⟩
  · unfold qStep
    by_cases hik : i = k
    · rw [if_pos hik, if_neg (by omega), if_pos (by omega)]
    · rw [if_neg hik, if_neg (by omega)]
      exact h2 i c (by omega) hc hm
  · have g := gram_step (show k < m by omega) hph h2 hij (fun hkj => (e2 j hj (ht j hkj hj)).2)
    obtain ⟨g1, g2⟩ := h3 i j hij hj
    rw [g]
    by_cases hik : i = k
    · rw [if_pos hik]
      refine ⟨fun h => by omega, ?_⟩
      rw [g1 (by omega)]
      unfold NearH
      by_cases hjk : j = k
      · rw [if_pos hjk]
        unfold delH
        unfold epsH at b2
        constructor <;> grind
      · rw [if_neg hjk]
        obtain ⟨t1, t2⟩ := encQ_size (e2 j hj (ht j (by omega) hj)).1 (ht j (by omega) hj)
        obtain ⟨t, htt⟩ : ∃ t, t = qT m k p B j := ⟨_, rfl⟩
        rw [← htt] at t1 t2 ⊢
        -- the product of both
        have m1 : h * t ≤ epsH * 67108864 := by
          have := Rat.mul_le_mul_of_nonneg_right (show -t ≤ 67108864 by grind) (show 0 ≤ -h by grind)
          have := Rat.mul_le_mul_of_nonneg_right (show -h ≤ epsH by grind) (show (0 : Rat) ≤ 67108864 by grind)
          grind
        have m2 : -(epsH * 67108864) ≤ h * t := by
          have := Rat.mul_le_mul_of_nonneg_right t2 (show 0 ≤ -h by grind)
          have := Rat.mul_le_mul_of_nonneg_right (show -h ≤ epsH by grind) (show (0 : Rat) ≤ 67108864 by grind)
          grind
        unfold delH
        unfold epsH at m1 m2
        constructor <;> grind
    · rw [if_neg hik, Rat.add_zero]
      exact ⟨fun h => g1 (by omega), g2⟩
theorem run_all {n m : Nat} (hnm : n ≤ m) (σ : Nat → Bool) (a : Nat → Nat → En) (g : Nat → Nat → Rat) (ha : ∀ i j, i < n → j < m → EncQ (a i j) (g i j))
    (hp : ∀ k, k < n → (pH kdN m k (σ k) (foldTo kdN m σ a k)).bad = false) (ht : ∀ k i, k < i → i < n → (tH kdN m k (σ k) (foldTo kdN m σ a k) i).bad = false) :
    ∀ k, k ≤ n → ∃ B, RunH n m (foldTo kdN m σ a k) k (fun i j => sumH m fun c => g i c * g j c) B
  | 0, _ => ⟨g, ha, fun i c h => by omega, fun i j _ _ => ⟨fun _ => rfl, near_self _⟩⟩
  | k + 1, hk => by
    obtain ⟨B, hB⟩ := run_all hnm σ a g ha hp ht k (by omega)
    exact run_step (by omega) hnm hB (hp k (by omega)) (fun i h1 h2 => ht k i h1 h2)
/-- What a row's dot of the triangle encloses. -/
theorem fold_sq {n m : Nat} (hnm : n ≤ m) (σ τ : Nat → Bool) (a : Nat → Nat → En) (g : Nat → Nat → Rat) (ha : ∀ i j, i < n → j < m → EncQ (a i j) (g i j))
    (hT : ∀ i j, i < n → j ≤ i → (foldH kdN n m σ τ a i j).bad = false) {i j : Nat} (hij : i ≤ j) (hj : j < n) :
    ∃ q, EncQ (dotN (rowM n (foldH kdN n m σ τ a) i) (rowM n (foldH kdN n m σ τ a) j)) q ∧ EncQ (dotN (rowM n (foldH kdN n m σ τ a) j) (rowM n (foldH kdN n m σ τ a) i)) q ∧ NearH q (sumH m fun c => g i c * g j c) := by
  have an : ∀ i c, i < n → c ≤ i → (foldTo kdN m σ a n i c).bad = false := fun i c hi hc => by
    have h := hT i c hi hc
    unfold foldH signsH at h
    rw [if_neg (by omega)] at h
    by_cases hl : c ≤ i ∧ τ c = true
    · rw [if_pos hl] at h
      exact fine_nb (told_fine (show (subE (ptE 0 true) (foldTo kdN m σ a n i c)).bad = false from h)).2
    · rw [if_neg hl] at h
      exact h
  have hp : ∀ k, k < n → (pH kdN m k (σ k) (foldTo kdN m σ a k)).bad = false := fun k hk => by
    obtain ⟨d, rfl⟩ := Nat.exists_eq_add_of_le (show k + 1 ≤ n from hk)
    have := an k k (by omega) (Nat.le_refl _)
    rw [foldTo_stays kdN m σ a (.inl (by omega)) d] at this
    have e : foldTo kdN m σ a (k + 1) k k = pH kdN m k (σ k) (foldTo kdN m σ a k) := by
      show foldStep kdN m k (σ k) (foldTo kdN m σ a k) k k = _
      unfold foldStep
      rw [if_pos rfl, if_pos rfl]
    rwa [e] at this
  have ht : ∀ k i, k < i → i < n → (tH kdN m k (σ k) (foldTo kdN m σ a k) i).bad = false := fun k i hk hi => by
    obtain ⟨d, hd⟩ := Nat.exists_eq_add_of_le (show k + 1 ≤ n by omega)
    have := an i k hi (by omega)
    rw [hd, foldTo_stays kdN m σ a (.inr ⟨by omega, hk⟩) d] at this
    have e : foldTo kdN m σ a (k + 1) i k = subE (foldTo kdN m σ a k i k) (mulE (vH kdN m k (σ k) (foldTo kdN m σ a k) k) (tH kdN m k (σ k) (foldTo kdN m σ a k) i)) := by
      show foldStep kdN m k (σ k) (foldTo kdN m σ a k) i k = _
      unfold foldStep
      rw [if_neg (by omega), if_pos ⟨hk, Nat.le_refl _⟩]
      rfl
    rw [e] at this
    exact fine_nb (told_fine (fine_nb (told_fine this).2)).2
  obtain ⟨B, h1, h2, h3⟩ := run_all hnm σ a g ha hp ht n (Nat.le_refl _)
  obtain ⟨T, hTT⟩ : ∃ T : Nat → Nat → Rat, T = fun i c => if i < c then 0 else if c ≤ i ∧ τ c = true then -(B i c) else B i c := ⟨_, rfl⟩
  have eT : ∀ i c, i < n → c < n → EncQ (foldH kdN n m σ τ a i c) (T i c) := fun i c hi hc => by
    rw [hTT]
    show EncQ _ (if i < c then 0 else if c ≤ i ∧ τ c = true then -(B i c) else B i c)
    unfold foldH signsH
    by_cases h4 : i < c
    · rw [if_pos h4, if_pos h4]; exact encQ_whole 0
    · rw [if_neg h4, if_neg h4]
      by_cases h5 : c ≤ i ∧ τ c = true
      · rw [if_pos h5, if_pos h5]; exact encQ_neg (h1 i c hi (by omega))
      · rw [if_neg h5, if_neg h5]; exact h1 i c hi (by omega)
  have rows : ∀ i, i < n → EncR (rowM n (foldH kdN n m σ τ a) i) ((List.range n).map fun c => T i c) := fun i hi => by
    refine ⟨by rw [rowM_len]; simp, fun c e q h4 h5 => ?_⟩
    have hc : c < n := by have := (List.getElem?_eq_some_iff.1 h4).1; rwa [rowM_len] at this
    rw [rowM_get _ _ hc] at h4
    rw [List.getElem?_map, List.getElem?_range hc] at h5
    cases h4
    cases h5
    exact eT i c hi hc
  have hi : i < n := by omega
  have eq : sumH n (fun c => T i c * T j c) = sumH m fun c => B i c * B j c := by
    obtain ⟨d, hd⟩ := Nat.exists_eq_add_of_le hnm
    rw [hd, sumH_split, sumH_zero d (fun c hc => by rw [h2 i (n + c) hi (by omega) (by omega), Rat.zero_mul]), Rat.add_zero]
    refine sumH_congr n fun c hc => ?_
    rw [hTT]
    show (if i < c then 0 else if c ≤ i ∧ τ c = true then -(B i c) else B i c) * (if j < c then 0 else if c ≤ j ∧ τ c = true then -(B j c) else B j c) = B i c * B j c
    by_cases h4 : i < c
    · rw [if_pos h4, h2 i c hi h4 (by omega), Rat.zero_mul, Rat.zero_mul]
    · rw [if_neg h4, if_neg (by omega : ¬ j < c)]
      by_cases h5 : τ c = true
      · rw [if_pos ⟨by omega, h5⟩, if_pos ⟨by omega, h5⟩]; grind
      · rw [if_neg (fun h => h5 h.2), if_neg (fun h => h5 h.2)]
  refine ⟨sumH n fun c => T i c * T j c, ?_, ?_, ?_⟩
  · have := encR_dot (rows i hi) (rows j hj)
    rwa [dotQ_sumH] at this
  · have := encR_dot (rows j hj) (rows i hi)
    rw [dotQ_sumH, sumH_congr n (g := fun c => T i c * T j c) fun c _ => Rat.mul_comm _ _] at this
    exact this
  · rw [eq]
    exact (h3 i j hij hj).2
/-- Of whole numbers. -/
theorem fold_sq_int {e : En} {q : Rat} {n : Int} (h : EncQ e q) (hb : e.bad = false) (hn : NearH q (n : Rat)) : Enq e n 1 := by
  obtain ⟨h1, h2⟩ := hn
  unfold delH at h1 h2
  exact encQ_int h hb (by grind) (by grind)
end Go.Proofs.YtlbmkjicbkfmjaaGreat

/- HouseRow: the root of a whole number that is not great, its signs turned, its square. Mathematics alone. -/
namespace Go.Proofs.YtlbmkjicbkfmjaaGreat
open Go.RowKit
set_option linter.unusedSimpArgs false
set_option linter.unusedVariables false

theorem root_row {D : Int} (h1 : 1 ≤ D) (h2 : D ≤ 80000) : ∃ v l h : Int, rootE (itN D) = ⟨v, l, h, false⟩ ∧ 1 ≤ l ∧ l ≤ v ∧ v ≤ h ∧ h ≤ 5000000000 := by
  have hw : Wn D := ⟨by omega, by omega⟩
  obtain ⟨r, t, _, r0, _, t0, _, ea, ht, x1, x2, x0⟩ := fq_vals (D * 16777216) (fr_it hw) (by omega)
  have r1 : 1 ≤ r := by
    refine Int.not_lt.1 fun hh => ?_
    have : r = 0 := by omega
    subst this
    omega
  have r2 : r ≤ 4999999999 := by
    refine sq_le r0 (by omega) ?_
    omega
  have hs : Same (prs2 (itN D) (itN D)) (D * 16777216) (D * 16777216) := same_prs2 _ _
  have ok : okE bQ (itN D) (itN D) (prs2 (itN D) (itN D)) = true := okE_iff.2 ⟨x0.2, fineN_it hw, fineN_it hw, by rw [hs.ok]; unfold bQ; rw [x1.2, x2.2]; rfl⟩
  refine ⟨_, _, _, by unfold rootE; rw [told_ok (N := nQ) ok, hs.low bdQ, hs.high bdQ], ?_⟩
  show 1 ≤ fqN (D * 16777216) 1 ∧ fqN (D * 16777216) 1 ≤ fqN (D * 16777216) 0 ∧ fqN (D * 16777216) 0 ≤ fqN (D * 16777216) 2 ∧ fqN (D * 16777216) 2 ≤ 5000000000
  rw [x0.1, x1.1, x2.1]
  unfold upI
  by_cases ha : r < t
  · rw [decide_eq_true ha, decide_eq_true (show 0 < t by omega)]
    simp
    omega
  · rw [decide_eq_false ha]
    by_cases hb : 0 < t
    · rw [decide_eq_true hb]
      simp
      omega
    · rw [decide_eq_false hb]
      simp
      omega
theorem neg_row {v l h : Int} (h1 : -5000000000 ≤ l) (h2 : l ≤ v) (h3 : v ≤ h) (h4 : h ≤ 5000000000) : negE ⟨v, l, h, false⟩ = ⟨-v, -h, -l, false⟩ := by
  have fr : ∀ x : Int, -5000000000 ≤ x → x ≤ 5000000000 → frB x = true := fun x a b => frB_eq ⟨by omega, by omega⟩
  have tl : ∀ x : Int, -5000000000 ≤ x → x ≤ 5000000000 → fsB 0 x = true ∧ fsN 0 x = -x := fun x a b => by
    have := fs_told (a := 0) (b := x) (by decide) (fr x a b) (by rw [Int.zero_sub]; exact fr (-x) (by omega) (by omega))
    rwa [Int.zero_sub] at this
  have f0 : fineB (ptE 0 true) = true := by decide
  have fa : fineB ⟨v, l, h, false⟩ = true := fineB_iff.2 ⟨rfl, h2, h3, fr l h1 (by omega), fr h (by omega) h4⟩
  have e : prsX (ptE 0 true) ⟨v, l, h, false⟩ = [(0, h), (0, l)] := rfl
  have ok : okE bS (ptE 0 true) ⟨v, l, h, false⟩ (prsX (ptE 0 true) ⟨v, l, h, false⟩) = true := okE_iff.2 ⟨(tl v (by omega) (by omega)).1, f0, fa, by
    rw [e]
    unfold okF bS
    simp [(tl h (by omega) h4).1, (tl l h1 (by omega)).1]⟩
  unfold negE subE
  rw [told_ok (N := nS) ok, e]
  show (⟨fsN 0 v, lowF nS [(0, h), (0, l)], highF nS [(0, h), (0, l)], false⟩ : En) = _
  unfold lowF highF nS
  simp only [List.foldl_cons, List.foldl_nil, (tl v (by omega) (by omega)).2, (tl h (by omega) h4).2, (tl l h1 (by omega)).2]
  congr 1
  · omega
  · omega
/-- With its signs set: a fold's one number. -/
theorem row_signs {D : Int} (h1 : 1 ≤ D) (h2 : D ≤ 80000) (b : Bool) : ∃ v l h : Int, rootE (itN D) = ⟨v, l, h, false⟩ ∧ 1 ≤ l ∧ l ≤ v ∧ v ≤ h ∧ h ≤ 5000000000 ∧
    (if lowN (if b = true then rootE (itN D) else negE (rootE (itN D))) = true then negE (if b = true then rootE (itN D) else negE (rootE (itN D))) else (if b = true then rootE (itN D) else negE (rootE (itN D)))) = rootE (itN D) := by
  obtain ⟨v, l, h, e, a1, a2, a3, a4⟩ := root_row h1 h2
  refine ⟨v, l, h, e, a1, a2, a3, a4, ?_⟩
  rw [e]
  have lv : ∀ x y z : Int, lowN ⟨x, y, z, false⟩ = decide (x < 0) := fun x y z => by
    unfold lowN
    show decide (cmpI x 0 < 0) = decide (x < 0)
    unfold cmpI
    congr 1
    refine propext ?_
    split
    · constructor <;> intro _ <;> omega
    · split <;> constructor <;> intro h <;> omega
  cases b
  · simp only [Bool.false_eq_true, if_false]
    rw [neg_row (by omega) a2 a3 a4, lv, if_pos (by simp; omega), neg_row (by omega) (by omega) (by omega) (by omega), Int.neg_neg, Int.neg_neg, Int.neg_neg]
  · simp only [if_true]
    rw [lv, if_neg (by simp; omega)]
/-- Its square encloses the number, if it is told. -/
theorem row_square {D : Int} (h1 : 1 ≤ D) (h2 : D ≤ 80000) (hb : (mulE (rootE (itN D)) (rootE (itN D))).bad = false) : Enq (mulE (rootE (itN D)) (rootE (itN D))) D 1 := by
  obtain ⟨v, l, h, e, _⟩ := root_row h1 h2
  have hw : Wn D := ⟨by omega, by omega⟩
  have hD : EncQ (itN D) (D : Rat) := by
    have := encQ_whole D
    rwa [show wholeN D = itN D from ofN_it hw] at this
  obtain ⟨z, _, z1, z2, z3⟩ := encQ_root (e := epsH) hD (by rw [e]) (by unfold epsH; grind)
  refine fold_sq_int (encQ_mul z1 z1) hb ?_
  unfold NearH delH
  unfold epsH at z3
  constructor <;> grind
end Go.Proofs.YtlbmkjicbkfmjaaGreat

/- HouseTwice: what an enclosed triangle of whole numbers folds to encloses it, with the signs that there are. Mathematics alone. -/
namespace Go.Proofs.YtlbmkjicbkfmjaaGreat
open Go.RowKit
set_option linter.unusedSimpArgs false
set_option linter.unusedVariables false

theorem low_tri {e : En} {n : Int} (h : OrW e n) (hn : 0 ≤ n) : lowN e = false := by
  rcases h with rfl | rfl
  · rw [lowN_it]; simp; omega
  · rfl
/-- No first number is below 0. -/
theorem tri_run {n : Nat} {s : Nat → Nat → Int} (hn : n ≤ 16) (hs : Sm2 100 n n s) (hl : Low 0 s) (hd : ∀ k, k < n → 0 < s k k) :
    ∀ k, k ≤ n → TriN n k s (foldTo kdN n (fun _ => false) (fun i j => wholeN (s i j)) k)
  | 0, _ => fun i j _ hi _ hj => .inl (by
      have := hs i j hi hj
      show wholeN (s i j) = itN (s i j)
      unfold wholeN
      exact ofN_it ⟨by omega, by omega⟩)
  | k + 1, hk => tri_next hs hl (tri_run hn hs hl hd k (by omega)) (by omega)
theorem tri_low {n : Nat} {s : Nat → Nat → Int} (hn : n ≤ 16) (hs : Sm2 100 n n s) (hl : Low 0 s) (hd : ∀ k, k < n → 0 < s k k) :
    ∀ k, k ≤ n → foldL kdN lowN n (fun i j => wholeN (s i j)) k = foldTo kdN n (fun _ => false) (fun i j => wholeN (s i j)) k
  | 0, _ => rfl
  | k + 1, hk => by
    have ih := tri_low hn hs hl hd k (by omega)
    show foldStep kdN n k (lowN (foldL kdN lowN n (fun i j => wholeN (s i j)) k k k)) (foldL kdN lowN n (fun i j => wholeN (s i j)) k) = foldStep kdN n k false _
    rw [ih, low_tri (tri_run hn hs hl hd k (by omega) k k (Nat.le_refl _) (by omega) (Nat.le_refl _) (by omega)) (by have := hd k (by omega); omega)]
theorem house_twice {n : Nat} {s : Nat → Nat → Int} (hn : n ≤ 16) (hs : Sm2 100 n n s) (hl : Low 0 s) (hd : ∀ k, k < n → 0 < s k k) {i j : Nat} (hi : i < n) (hj : j < n)
    (hb : (foldH kdN n n (fun _ => false) (fun j => lowN (foldTo kdN n (fun _ => false) (fun i j => wholeN (s i j)) n j j)) (fun i j => wholeN (s i j)) i j).bad = false) :
    Enq (foldH kdN n n (fun _ => false) (fun j => lowN (foldTo kdN n (fun _ => false) (fun i j => wholeN (s i j)) n j j)) (fun i j => wholeN (s i j)) i j) (s i j) 1 := by
  obtain ⟨A, hA⟩ : ∃ A, A = foldTo kdN n (fun _ => false) (fun i j => wholeN (s i j)) := ⟨_, rfl⟩
  have hij := hs i j hi hj
  have enc := foldH_enc (Nat.le_refl n) (fun _ => false) (fun j => lowN (foldTo kdN n (fun _ => false) (fun i j => wholeN (s i j)) n j j)) (a := fun i j => wholeN (s i j)) (f := fun i j => itF (s i j))
    (fun i j hi hj => by have := hs i j hi hj; rw [← whole_it (show Wh (s i j) from ⟨by omega, by omega⟩)]; exact encF_whole _) hi hj
  have fr : ∀ τ : Nat → Bool, (i < j ∨ τ j = true) → foldH kdF n n (fun _ => false) τ (fun i j => itF (s i j)) i j = itF (s i j) := fun τ h => by
    unfold foldH signsH
    by_cases h1 : i < j
    · rw [if_pos h1, hl i j h1]; rfl
    · rw [if_neg h1, if_pos ⟨by omega, h.resolve_left h1⟩, foldTri hn hs hl hd n (Nat.le_refl _) i j hi hj]
      unfold triH
      rw [if_pos (by omega)]
      show negR (itF (-(s i j))) = _
      rw [neg_itH ⟨by omega, by omega⟩, Int.neg_neg]
  by_cases h : i < j ∨ lowN (A n j j) = true
  · rw [fr _ (by rw [← hA]; exact h)] at enc
    exact enc (fine_it ⟨by omega, by omega⟩)
  · -- the diagonal is Bad, and so is all below it
    exfalso
    have h1 : ¬ i < j := fun hh => h (.inl hh)
    have h2 : ¬ lowN (A n j j) = true := fun hh => h (.inr hh)
    obtain ⟨d, hdd⟩ := Nat.exists_eq_add_of_le (show j + 1 ≤ n from hj)
    have stay : ∀ i c, (i < j + 1 ∨ (c < j + 1 ∧ c < i)) → A n i c = A (j + 1) i c := fun i c hh => by
      rw [hA, hdd]
      exact foldTo_stays kdN (j + 1 + d) (fun _ => false) _ hh d
    have step : ∀ i c, A (j + 1) i c = foldStep kdN n j false (A j) i c := fun i c => by rw [hA]; rfl
    have hp : A n j j = pH kdN n j false (A j) := by
      rw [stay j j (.inl (by omega)), step]
      unfold foldStep
      rw [if_pos rfl, if_pos rfl]
    have op := tri_p hn hs hl hd (A := A j) (by rw [hA]; exact tri_run hn hs hl hd j (by omega)) hj
    have hpw : pH kdN n j false (A j) = wrongE := by
      rcases op with e | e
      · rw [hp, e, lowN_it] at h2
        have := hd j hj
        simp at h2
        omega
      · exact e
    have hw : A n i j = wrongE := by
      by_cases hij' : i = j
      · rw [hij', hp, hpw]
      · rw [stay i j (.inr ⟨by omega, by omega⟩), step]
        unfold foldStep
        rw [if_neg hij', if_pos ⟨by omega, Nat.le_refl _⟩]
        have hv : vH kdN n j false (A j) j = wrongE := by
          unfold vH
          rw [if_pos rfl, hpw]
          exact wrong_sub _
        have hq : dotN (tailH n j (vH kdN n j false (A j))) (tailH n j (vH kdN n j false (A j))) = wrongE := by
          obtain ⟨rest, e, _⟩ := tail_cons (vH kdN n j false (A j)) hj
          rw [e, hv]
          exact dot_wrong _ _
        have ht : tH kdN n j false (A j) i = wrongE := by
          unfold tH
          show divE _ (dotN (tailH n j (vH kdN n j false (A j))) (tailH n j (vH kdN n j false (A j)))) = wrongE
          rw [hq]
          exact wrong_div _
        rw [ht]
        show subE _ (mulE _ wrongE) = wrongE
        rw [wrong_mul]
        exact wrong_sub _
    unfold foldH signsH at hb
    rw [if_neg h1, ← hA, if_neg (fun hh => h2 hh.2), hw] at hb
    cases hb
end Go.Proofs.YtlbmkjicbkfmjaaGreat
