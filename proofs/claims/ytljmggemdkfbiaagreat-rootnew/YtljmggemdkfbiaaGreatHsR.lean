/- Enclosed numbers beside any rational numbers (layer 8 on: where roots are no fractions). Mathematics alone. -/
import Derived.Test.YtljmggemdkfbiaaGreatHsE
namespace Go.Proofs.YtljmggemdkfbiaaGreat
open Go.RowKit
set_option linter.unusedSimpArgs false
set_option linter.unusedVariables false

/-- It is Bad, or it may be, and encloses q. -/
def EncQ (e : En) (q : Rat) : Prop := Enq e q.num q.den
theorem den_pos (q : Rat) : (0 : Int) < q.den := by have := q.den_pos; omega
theorem rat_self (q : Rat) : Rat.divInt q.num q.den = q := Rat.num_divInt_den q
theorem encQ_of {e : En} {q : Rat} {n d : Int} (hd : 0 < d) (hq : q = Rat.divInt n d) (h : Enq e n d) : EncQ e q := by
  have hr := den_pos q
  have e2 := (Rat.divInt_eq_divInt_iff (by omega) (by omega)).1 ((rat_self q).trans hq)
  exact h.same hd hr e2.symm
theorem encQ_add {a b : En} {q r : Rat} (ha : EncQ a q) (hb : EncQ b r) : EncQ (addE a b) (q + r) := by
  have d1 := den_pos q
  have d2 := den_pos r
  refine encQ_of (Int.mul_pos d1 d2) ?_ (enq_add d1 d2 ha hb)
  rw [← Rat.divInt_add_divInt _ _ (by omega) (by omega), rat_self, rat_self]
theorem encQ_sub {a b : En} {q r : Rat} (ha : EncQ a q) (hb : EncQ b r) : EncQ (subE a b) (q - r) := by
  have d1 := den_pos q
  have d2 := den_pos r
  refine encQ_of (Int.mul_pos d1 d2) ?_ (enq_sub d1 d2 ha hb)
  rw [← Rat.divInt_sub_divInt _ _ (by omega) (by omega), rat_self, rat_self]
theorem encQ_mul {a b : En} {q r : Rat} (ha : EncQ a q) (hb : EncQ b r) : EncQ (mulE a b) (q * r) := by
  have d1 := den_pos q
  have d2 := den_pos r
  refine encQ_of (Int.mul_pos d1 d2) ?_ (enq_mul d1 d2 ha hb)
  rw [← Rat.divInt_mul_divInt, rat_self, rat_self]
theorem encQ_div {a b : En} {q r : Rat} (h0 : r ≠ 0) (ha : EncQ a q) (hb : EncQ b r) : EncQ (divE a b) (q / r) := by
  have d1 := den_pos q
  have d2 := den_pos r
  have hn : r.num ≠ 0 := fun h => h0 (Rat.num_eq_zero.1 h)
  refine encQ_of (Int.mul_pos d1 (szI_pp hn)) ?_ (enq_div d1 d2 ha hb)
  have e : q / r = Rat.divInt (q.num * r.den) (q.den * r.num) := by
    have e0 : q / r = Rat.divInt q.num q.den / Rat.divInt r.num r.den := by rw [rat_self, rat_self]
    rw [e0, Rat.div_def, Rat.inv_divInt, Rat.divInt_mul_divInt]
  rw [e]
  unfold sgI szI
  by_cases hn : r.num < 0
  · rw [if_pos hn, if_pos hn, ← Rat.neg_divInt_neg]
    rw [Int.mul_neg, Int.mul_neg, Int.mul_one, Int.neg_mul]
  · rw [if_neg hn, if_neg hn, Int.mul_one]
theorem encQ_neg {a : En} {q : Rat} (ha : EncQ a q) : EncQ (negE a) (-q) := by
  have h : EncQ (ptE 0 true) 0 := .inr ⟨by decide, by constructor <;> decide⟩
  have := encQ_sub h ha
  rw [show (0 : Rat) - q = -q by grind] at this
  exact this
theorem encQ_whole (n : Int) : EncQ (wholeN n) (n : Rat) := by
  refine encQ_of (d := 1) (n := n) (by decide) (toQ_whole n).symm ?_
  unfold wholeN
  cases hb : foB n
  · exact .inl rfl
  · have hw : Wn n := by unfold foB at hb; simp at hb; exact ⟨by omega, by omega⟩
    rw [show foN n = n * 16777216 by unfold foN; rw [hb]; rfl]
    exact enq_pt (fr_it hw) (by omega)
/-- Rows of them. -/
def EncR (es : List En) (qs : List Rat) : Prop := es.length = qs.length ∧ ∀ (k : Nat) (e : En) (q : Rat), es[k]? = some e → qs[k]? = some q → EncQ e q
theorem encR_cons {e : En} {q : Rat} {es : List En} {qs : List Rat} (h : EncR (e :: es) (q :: qs)) : EncQ e q ∧ EncR es qs :=
  ⟨h.2 0 e q rfl rfl, by have := h.1; simpa using this, fun k a b h1 h2 => h.2 (k + 1) a b h1 h2⟩
theorem encR_fold : ∀ {es : List En} {qs : List Rat} {e : En} {q : Rat}, EncR es qs → EncQ e q → EncQ (es.foldl addE e) (q + sumQ qs)
  | [], [], e, q, _, h => by show EncQ e (q + 0); rw [Rat.add_zero]; exact h
  | [], _ :: _, _, _, h, _ => by have := h.1; simp at this
  | _ :: _, [], _, _, h, _ => by have := h.1; simp at this
  | a :: es, b :: qs, e, q, h, hq => by
    obtain ⟨h1, h2⟩ := encR_cons h
    show EncQ (es.foldl addE (addE e a)) (q + (b + sumQ qs))
    rw [← Rat.add_assoc]
    exact encR_fold h2 (encQ_add hq h1)
theorem encR_mul : ∀ {us : List En} {qs : List Rat} {vs : List En} {rs : List Rat}, EncR us qs → EncR vs rs → EncR (List.zipWith mulE us vs) (List.zipWith (· * ·) qs rs) := by
  intro us qs vs rs h k
  refine ⟨by rw [List.length_zipWith, List.length_zipWith, h.1, k.1], fun i e q h1 h2 => ?_⟩
  rw [List.getElem?_zipWith] at h1 h2
  cases a1 : us[i]? with
  | none => rw [a1] at h1; simp at h1
  | some a =>
    cases a2 : vs[i]? with
    | none => rw [a1, a2] at h1; simp at h1
    | some b =>
      cases a3 : qs[i]? with
      | none => rw [a3] at h2; simp at h2
      | some c =>
        cases a4 : rs[i]? with
        | none => rw [a3, a4] at h2; simp at h2
        | some d =>
          rw [a1, a2] at h1
          rw [a3, a4] at h2
          cases h1
          cases h2
          exact encQ_mul (h.2 i a c a1 a3) (k.2 i b d a2 a4)
theorem encR_dot {us : List En} {qs : List Rat} {vs : List En} {rs : List Rat} (h : EncR us qs) (k : EncR vs rs) : EncQ (dotN us vs) (dotQ qs rs) := by
  have := encR_fold (encR_mul h k) (encQ_whole 0)
  rw [show ((0 : Int) : Rat) + sumQ (List.zipWith (· * ·) qs rs) = dotQ qs rs by unfold dotQ; grind] at this
  exact this
theorem encR_tail {m k : Nat} {f : Nat → En} {g : Nat → Rat} (h : ∀ c, k ≤ c → c < m → EncQ (f c) (g c)) : EncR (tailH m k f) ((List.range (m - k)).map fun j => g (k + j)) := by
  refine ⟨by unfold tailH; simp, fun j e q h1 h2 => ?_⟩
  have hj : j < m - k := by have := (List.getElem?_eq_some_iff.1 h1).1; unfold tailH at this; simpa using this
  unfold tailH at h1
  rw [List.getElem?_map, List.getElem?_range hj] at h1 h2
  cases h1
  cases h2
  exact h _ (by omega) (by omega)
theorem encR_dT {m k : Nat} {f f' : Nat → En} {g g' : Nat → Rat} (h : ∀ c, k ≤ c → c < m → EncQ (f c) (g c)) (h' : ∀ c, k ≤ c → c < m → EncQ (f' c) (g' c)) : EncQ (dotN (tailH m k f) (tailH m k f')) (dT m k g g') := by
  have := encR_dot (encR_tail h) (encR_tail h')
  rwa [dotQ_sumH] at this
theorem num_q (q : Rat) : (q.num : Rat) = q * ((q.den : Int) : Rat) := by
  have h := rat_self q
  rw [Rat.divInt_eq_div] at h
  have d : ((q.den : Int) : Rat) ≠ 0 := fun h0 => by
    have := den_pos q
    have := Rat.intCast_eq_zero_iff.1 h0
    omega
  grind
/-- In rational numbers. -/
theorem encQ_iff {e : En} {q : Rat} : EncQ e q ↔ e = wrongE ∨ (fineB e = true ∧ (e.l : Rat) ≤ q * 16777216 ∧ q * 16777216 ≤ (e.h : Rat)) := by
  have d := Rat.intCast_pos.2 (den_pos q)
  have hn := num_q q
  have c : ((16777216 : Int) : Rat) = 16777216 := rfl
  have k1 : e.l * (q.den : Int) ≤ q.num * 16777216 ↔ (e.l : Rat) ≤ q * 16777216 := by
    rw [← Rat.intCast_le_intCast, Rat.intCast_mul, Rat.intCast_mul, c, hn]
    constructor
    · intro h
      refine Rat.not_lt.1 fun hh => ?_
      have := Rat.mul_lt_mul_of_pos_right hh d
      grind
    · intro h
      have := Rat.mul_le_mul_of_nonneg_right h (Rat.le_of_lt d)
      grind
  have k2 : q.num * 16777216 ≤ e.h * (q.den : Int) ↔ q * 16777216 ≤ (e.h : Rat) := by
    rw [← Rat.intCast_le_intCast, Rat.intCast_mul, Rat.intCast_mul, c, hn]
    constructor
    · intro h
      refine Rat.not_lt.1 fun hh => ?_
      have := Rat.mul_lt_mul_of_pos_right hh d
      grind
    · intro h
      have := Rat.mul_le_mul_of_nonneg_right h (Rat.le_of_lt d)
      grind
  unfold EncQ Enq QIn
  rw [k1, k2]
/-- What lies within a unit of a whole number: it is enclosed, too. -/
theorem encQ_int {e : En} {q : Rat} {n : Int} (h : EncQ e q) (hb : e.bad = false) (h1 : ((n : Rat) - q) * 16777216 < 1) (h2 : (q - (n : Rat)) * 16777216 < 1) : Enq e n 1 := by
  rcases encQ_iff.1 h with rfl | ⟨hf, a, b⟩
  · cases hb
  · refine .inr ⟨hf, ?_⟩
    have g1 : (e.l : Rat) < ((n * 16777216 + 1 : Int) : Rat) := by rw [Rat.intCast_add, Rat.intCast_mul]; show (e.l : Rat) < (n : Rat) * 16777216 + 1; grind
    have g2 : ((n * 16777216 : Int) : Rat) < ((e.h + 1 : Int) : Rat) := by rw [Rat.intCast_add, Rat.intCast_mul]; show (n : Rat) * 16777216 < (e.h : Rat) + 1; grind
    have i1 := Rat.intCast_lt_intCast.1 g1
    have i2 := Rat.intCast_lt_intCast.1 g2
    constructor <;> omega
end Go.Proofs.YtljmggemdkfbiaaGreat
