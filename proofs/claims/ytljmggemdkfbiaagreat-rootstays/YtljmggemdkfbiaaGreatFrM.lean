/- Fractions (layer 4): what is told of them, by the rational numbers themselves. -/
import Derived.Test.YtljmggemdkfbiaaGreatRoot
namespace Go.Proofs.YtljmggemdkfbiaaGreat
open Go.RowKit
set_option linter.unusedSimpArgs false
set_option linter.unusedVariables false

/-- A fraction, as the program has it. -/
structure Fr where
  n : Int
  d : Int
  bad : Bool
theorem Fr.ext' {a b : Fr} (h1 : a.n = b.n) (h2 : a.d = b.d) (h3 : a.bad = b.bad) : a = b := by cases a; cases b; simp_all
/-- The Bad one. -/
def wrongR : Fr := ⟨0, 0, true⟩
/-- May the number be a part of a fraction? -/
def smB (n : Int) : Bool := decide (-1073741824 ≤ n) && decide (n ≤ 1073741824)
theorem smB_iff {n : Int} : smB n = true ↔ -1073741824 ≤ n ∧ n ≤ 1073741824 := by simp [smB]
/-- May a fraction be made of it? -/
def gvB (n : Int) : Bool := decide (-1152921504606846976 ≤ n) && decide (n ≤ 1152921504606846976)
theorem gvB_iff {n : Int} : gvB n = true ↔ -1152921504606846976 ≤ n ∧ n ≤ 1152921504606846976 := by simp [gvB]
/-- May it be a fraction? -/
def fineR (a : Fr) : Bool := !a.bad && decide (1 ≤ a.d) && smB a.d && smB a.n && decide (Int.gcd a.n a.d = 1)
theorem fineR_iff {a : Fr} : fineR a = true ↔ a.bad = false ∧ 1 ≤ a.d ∧ a.d ≤ 1073741824 ∧ -1073741824 ≤ a.n ∧ a.n ≤ 1073741824 ∧ Int.gcd a.n a.d = 1 := by
  simp only [fineR, Bool.and_eq_true, decide_eq_true_eq, smB_iff, Bool.not_eq_true']
  constructor
  · rintro ⟨⟨⟨⟨h1, h2⟩, h3⟩, h4⟩, h5⟩
    exact ⟨h1, h2, h3.2, h4.1, h4.2, h5⟩
  · rintro ⟨h1, h2, h3, h4, h5, h6⟩
    exact ⟨⟨⟨⟨h1, h2⟩, by omega, h3⟩, h4, h5⟩, h6⟩
/-- The rational number. -/
def toQ (a : Fr) : Rat := Rat.divInt a.n a.d
/-- The fraction of a rational number, if there is one. -/
def ofQ (q : Rat) : Fr := if smB q.num && smB (q.den : Int) then ⟨q.num, q.den, false⟩ else wrongR
/-- n by d, in lowest terms. -/
def lowR (n d : Int) : Fr := if d = 0 then wrongR else ofQ (Rat.divInt n d)
def newR (n d : Int) : Fr := if gvB n && gvB d then lowR n d else wrongR
def okR (q : Rat) : Bool := smB q.num && smB (q.den : Int)
theorem okR_iff {q : Rat} : okR q = true ↔ -1073741824 ≤ q.num ∧ q.num ≤ 1073741824 ∧ q.den ≤ 1073741824 := by
  unfold okR
  rw [Bool.and_eq_true, smB_iff, smB_iff]
  omega
theorem ofQ_ok {q : Rat} (h : okR q = true) : ofQ q = ⟨q.num, q.den, false⟩ := by unfold okR at h; unfold ofQ; rw [if_pos h]
theorem ofQ_no {q : Rat} (h : okR q = false) : ofQ q = wrongR := by unfold ofQ; rw [if_neg (by unfold okR at h; rw [h]; decide)]
theorem ofQ_bad (q : Rat) : (ofQ q).bad = !okR q := by
  cases h : okR q
  · rw [ofQ_no h]; rfl
  · rw [ofQ_ok h]; rfl
theorem ofQ_fine {q : Rat} : fineR (ofQ q) = okR q := by
  cases h : okR q
  · rw [ofQ_no h]; rfl
  · rw [ofQ_ok h, fineR_iff]
    have := okR_iff.1 h
    have h1 := q.den_pos
    refine ⟨rfl, by simp; omega, by simp; omega, this.1, this.2.1, ?_⟩
    show Nat.gcd q.num.natAbs ((q.den : Int).natAbs) = 1
    rw [Int.natAbs_natCast]; exact q.reduced
theorem toQ_parts {a : Fr} (h : fineR a = true) : (toQ a).num = a.n ∧ ((toQ a).den : Int) = a.d := by
  obtain ⟨h1, h2, h3, h4, h5, h6⟩ := fineR_iff.1 h
  unfold toQ
  rw [Rat.num_divInt, Rat.den_divInt, Int.gcd_comm, h6, if_neg (by omega), Int.sign_eq_one_of_pos (by omega)]
  simp
  omega
theorem ofQ_toQ {a : Fr} (h : fineR a = true) : ofQ (toQ a) = a := by
  obtain ⟨e1, e2⟩ := toQ_parts h
  obtain ⟨h1, h2, h3, h4, h5, h6⟩ := fineR_iff.1 h
  rw [ofQ_ok (okR_iff.2 (by rw [e1]; omega))]
  exact Fr.ext' e1 e2 h1.symm
theorem okR_toQ {a : Fr} (h : fineR a = true) : okR (toQ a) = true := by
  obtain ⟨e1, e2⟩ := toQ_parts h
  obtain ⟨h1, h2, h3, h4, h5, h6⟩ := fineR_iff.1 h
  exact okR_iff.2 (by rw [e1]; omega)
theorem toQ_ofQ {q : Rat} (h : okR q = true) : toQ (ofQ q) = q := by
  rw [ofQ_ok h]; exact Rat.num_divInt_den q
theorem toQ_inj {a b : Fr} (ha : fineR a = true) (hb : fineR b = true) (h : toQ a = toQ b) : a = b := by
  rw [← ofQ_toQ ha, ← ofQ_toQ hb, h]

/-- What the program makes of n by d, d not 0. -/
theorem low_parts (n d : Int) (hd : 0 < d) (g : Int) (hg : g = (Int.gcd n d : Int)) : (Rat.divInt n d).num = n.tdiv g ∧ ((Rat.divInt n d).den : Int) = d.tdiv g := by
  subst hg
  have g0 : 0 < Int.gcd n d := Int.gcd_pos_of_ne_zero_right _ (by omega)
  rw [Rat.num_divInt, Rat.den_divInt, Int.sign_eq_one_of_pos hd, if_neg (by omega), Int.one_mul, Int.gcd_comm d n]
  obtain ⟨x, hx⟩ := Int.gcd_dvd_left n d
  obtain ⟨y, hy⟩ := Int.gcd_dvd_right n d
  generalize Int.gcd n d = g at *
  have gz : (g : Int) ≠ 0 := by omega
  constructor
  · rw [hx, Int.mul_ediv_cancel_left _ gz, Int.mul_tdiv_cancel_left _ gz]
  · rw [Int.natCast_ediv, show (d.natAbs : Int) = d by omega, hy, Int.mul_ediv_cancel_left _ gz, Int.mul_tdiv_cancel_left _ gz]
theorem lowR_neg (n d : Int) (hd : d < 0) : lowR n d = lowR (-n) (-d) := by
  unfold lowR
  rw [if_neg (by omega), if_neg (by omega), Rat.neg_divInt_neg]
theorem lowR_pos (n d : Int) (hd : 0 < d) (g : Int) (hg : g = (Int.gcd n d : Int)) : lowR n d = if smB (n.tdiv g) && smB (d.tdiv g) then ⟨n.tdiv g, d.tdiv g, false⟩ else wrongR := by
  obtain ⟨e1, e2⟩ := low_parts n d hd g hg
  unfold lowR
  rw [if_neg (by omega)]
  unfold ofQ
  rw [e1, e2]
/-- Fine, as the program asks it. -/
theorem fine_new {a : Fr} (hb : a.bad = false) : fineR a = true ↔ a = newR a.n a.d := by
  constructor
  · intro h
    obtain ⟨h1, h2, h3, h4, h5, h6⟩ := fineR_iff.1 h
    unfold newR
    rw [if_pos (by rw [gvB_iff.2 (by omega), gvB_iff.2 (by omega)]; rfl)]
    unfold lowR
    rw [if_neg (by omega)]
    exact (ofQ_toQ h).symm
  · intro h
    unfold newR at h
    split at h
    · unfold lowR at h
      split at h
      · rw [h] at hb; cases hb
      · rename_i hd
        rw [h, ofQ_fine]
        cases hq : okR (Rat.divInt a.n a.d)
        · rw [ofQ_no hq] at h; rw [h] at hb; cases hb
        · rfl
    · rw [h] at hb; cases hb

/-- What is told of two. -/
def addR (a b : Fr) : Fr := if fineR a && fineR b then ofQ (toQ a + toQ b) else wrongR
def subR (a b : Fr) : Fr := if fineR a && fineR b then ofQ (toQ a - toQ b) else wrongR
def mulR (a b : Fr) : Fr := if fineR a && fineR b then ofQ (toQ a * toQ b) else wrongR
def divR (a b : Fr) : Fr := if fineR a && fineR b && decide (b.n ≠ 0) then ofQ (toQ a / toQ b) else wrongR
theorem fine_d {a : Fr} (h : fineR a = true) : a.d ≠ 0 := by have := fineR_iff.1 h; omega
theorem low_add {a b : Fr} (ha : fineR a = true) (hb : fineR b = true) : lowR (a.n * b.d + b.n * a.d) (a.d * b.d) = ofQ (toQ a + toQ b) := by
  unfold lowR toQ
  rw [if_neg (Int.mul_ne_zero (fine_d ha) (fine_d hb)), Rat.divInt_add_divInt _ _ (fine_d ha) (fine_d hb)]
theorem low_sub {a b : Fr} (ha : fineR a = true) (hb : fineR b = true) : lowR (a.n * b.d - b.n * a.d) (a.d * b.d) = ofQ (toQ a - toQ b) := by
  unfold lowR toQ
  rw [if_neg (Int.mul_ne_zero (fine_d ha) (fine_d hb)), Rat.divInt_sub_divInt _ _ (fine_d ha) (fine_d hb)]
theorem low_mul {a b : Fr} (ha : fineR a = true) (hb : fineR b = true) : lowR (a.n * b.n) (a.d * b.d) = ofQ (toQ a * toQ b) := by
  unfold lowR toQ
  rw [if_neg (Int.mul_ne_zero (fine_d ha) (fine_d hb)), Rat.divInt_mul_divInt]
theorem low_div {a b : Fr} (ha : fineR a = true) (hb : fineR b = true) (h0 : b.n ≠ 0) : lowR (a.n * b.d) (a.d * b.n) = ofQ (toQ a / toQ b) := by
  unfold lowR toQ
  rw [if_neg (Int.mul_ne_zero (fine_d ha) h0), Rat.div_def, Rat.inv_divInt, Rat.divInt_mul_divInt]
theorem low_div0 {a b : Fr} (h0 : b.n = 0) : lowR (a.n * b.d) (a.d * b.n) = wrongR := by
  unfold lowR; rw [h0, if_pos (by simp)]
end Go.Proofs.YtljmggemdkfbiaaGreat
