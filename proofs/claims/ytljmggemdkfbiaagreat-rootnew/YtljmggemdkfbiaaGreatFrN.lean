/- Fractions (layer 4): the mathematics of the laws. -/
import Derived.Test.YtljmggemdkfbiaaGreatFr6
import Derived.Test.YtljmggemdkfbiaaGreatFr7
namespace Go.Proofs.YtljmggemdkfbiaaGreat
open Go.RowKit
set_option linter.unusedSimpArgs false
set_option linter.unusedVariables false

theorem fine_mk {n d : Int} (h1 : 1 ≤ d) (h2 : d ≤ 1073741824) (h3 : -1073741824 ≤ n) (h4 : n ≤ 1073741824) (h5 : Int.gcd n d = 1) : fineR ⟨n, d, false⟩ = true :=
  fineR_iff.2 ⟨rfl, h1, h2, h3, h4, h5⟩
theorem fr_eta {a : Fr} (h : fineR a = true) : a = ⟨a.n, a.d, false⟩ := Fr.ext' rfl rfl (fineR_iff.1 h).1

/-- A row with numbers so small: what it is, and its size. -/
theorem ofQ_bound {n d : Int} {N D : Int} (hd : 0 < d) (h1 : -N ≤ n) (h2 : n ≤ N) (h3 : d ≤ D) (hN : N ≤ 1073741824) (hD : D ≤ 1073741824) :
    fineR (ofQ (Rat.divInt n d)) = true ∧ toQ (ofQ (Rat.divInt n d)) = Rat.divInt n d ∧ -N ≤ (ofQ (Rat.divInt n d)).n ∧ (ofQ (Rat.divInt n d)).n ≤ N ∧ (ofQ (Rat.divInt n d)).d ≤ D := by
  obtain ⟨e1, e2⟩ := low_parts n d hd _ rfl
  have g0 : 0 < (Int.gcd n d : Int) := by have := Int.gcd_pos_of_ne_zero_right n (show d ≠ 0 by omega); omega
  have hn : (n.tdiv (Int.gcd n d : Int)).natAbs ≤ n.natAbs := by rw [Int.natAbs_tdiv]; exact Nat.div_le_self _ _
  have hdd : (d.tdiv (Int.gcd n d : Int)).natAbs ≤ d.natAbs := by rw [Int.natAbs_tdiv]; exact Nat.div_le_self _ _
  rw [← e1] at hn
  rw [← e2] at hdd
  have ok : okR (Rat.divInt n d) = true := okR_iff.2 (by omega)
  refine ⟨by rw [ofQ_fine, ok], toQ_ofQ ok, ?_⟩
  rw [ofQ_ok ok]
  dsimp only
  omega

theorem addR_fine {a b : Fr} (ha : fineR a = true) (hb : fineR b = true) : addR a b = ofQ (toQ a + toQ b) := by unfold addR; rw [ha, hb]; rfl
theorem subR_fine {a b : Fr} (ha : fineR a = true) (hb : fineR b = true) : subR a b = ofQ (toQ a - toQ b) := by unfold subR; rw [ha, hb]; rfl
theorem mulR_fine {a b : Fr} (ha : fineR a = true) (hb : fineR b = true) : mulR a b = ofQ (toQ a * toQ b) := by unfold mulR; rw [ha, hb]; rfl
theorem divR_fine {a b : Fr} (ha : fineR a = true) (hb : fineR b = true) (h0 : b.n ≠ 0) : divR a b = ofQ (toQ a / toQ b) := by
  unfold divR; rw [ha, hb, decide_eq_true h0]; rfl

/-- Fine, and of so small numbers. -/
structure Sm (N D : Int) (a : Fr) : Prop where
  fine : fineR a = true
  lo : -N ≤ a.n
  hi : a.n ≤ N
  de : a.d ≤ D
  pos : 1 ≤ a.d
theorem abs_mul_le {x y X Y : Int} (h1 : -X ≤ x) (h2 : x ≤ X) (h3 : -Y ≤ y) (h4 : y ≤ Y) : -(X * Y) ≤ x * y ∧ x * y ≤ X * Y := by
  have h : (x * y).natAbs ≤ X.natAbs * Y.natAbs := by rw [Int.natAbs_mul]; exact Nat.mul_le_mul (by omega) (by omega)
  have e : ((X.natAbs * Y.natAbs : Nat) : Int) = X * Y := by rw [Int.natCast_mul]; rw [show (X.natAbs : Int) = X by omega, show (Y.natAbs : Int) = Y by omega]
  omega
theorem pos_mul {x y : Int} (h1 : 1 ≤ x) (h2 : 1 ≤ y) : 1 ≤ x * y := Int.mul_pos (by omega) (by omega)
theorem sm_of {n d N D : Int} (hd : 0 < d) (h1 : -N ≤ n ∧ n ≤ N) (h3 : d ≤ D) (hN : N ≤ 1073741824) (hD : D ≤ 1073741824) : Sm N D (ofQ (Rat.divInt n d)) := by
  obtain ⟨f, _, l, h, e⟩ := ofQ_bound hd h1.1 h1.2 h3 hN hD
  exact ⟨f, l, h, e, (fineR_iff.1 f).2.1⟩
theorem sm_add {a b : Fr} {A B C D : Int} (x : Sm A B a) (y : Sm C D b) (hN : A * D + C * B ≤ 1073741824) (hD : B * D ≤ 1073741824) : Sm (A * D + C * B) (B * D) (addR a b) ∧ toQ (addR a b) = toQ a + toQ b := by
  have e := low_add x.fine y.fine
  have xp := x.pos
  have yp := y.pos
  have xd := x.de
  have yd := y.de
  have p := pos_mul xp yp
  unfold lowR at e
  rw [if_neg (by omega)] at e
  have m1 := abs_mul_le x.lo x.hi (by omega : -D ≤ b.d) y.de
  have m2 := abs_mul_le y.lo y.hi (by omega : -B ≤ a.d) x.de
  have m3 := abs_mul_le (by omega : -B ≤ a.d) x.de (by omega : -D ≤ b.d) y.de
  rw [addR_fine x.fine y.fine, ← e]
  refine ⟨sm_of (by omega) (by omega) m3.2 hN hD, ?_⟩
  rw [(ofQ_bound (N := A * D + C * B) (D := B * D) (by omega) (by omega) (by omega) m3.2 hN hD).2.1]
  unfold toQ
  rw [Rat.divInt_add_divInt _ _ (by omega) (by omega)]
theorem sm_sub {a b : Fr} {A B C D : Int} (x : Sm A B a) (y : Sm C D b) (hN : A * D + C * B ≤ 1073741824) (hD : B * D ≤ 1073741824) : Sm (A * D + C * B) (B * D) (subR a b) ∧ toQ (subR a b) = toQ a - toQ b := by
  have e := low_sub x.fine y.fine
  have xp := x.pos
  have yp := y.pos
  have xd := x.de
  have yd := y.de
  have p := pos_mul xp yp
  unfold lowR at e
  rw [if_neg (by omega)] at e
  have m1 := abs_mul_le x.lo x.hi (by omega : -D ≤ b.d) y.de
  have m2 := abs_mul_le y.lo y.hi (by omega : -B ≤ a.d) x.de
  have m3 := abs_mul_le (by omega : -B ≤ a.d) x.de (by omega : -D ≤ b.d) y.de
  rw [subR_fine x.fine y.fine, ← e]
  refine ⟨sm_of (by omega) (by omega) m3.2 hN hD, ?_⟩
  rw [(ofQ_bound (N := A * D + C * B) (D := B * D) (by omega) (by omega) (by omega) m3.2 hN hD).2.1]
  unfold toQ
  rw [Rat.divInt_sub_divInt _ _ (by omega) (by omega)]
theorem sm_mul {a b : Fr} {A B C D : Int} (x : Sm A B a) (y : Sm C D b) (hN : A * C ≤ 1073741824) (hD : B * D ≤ 1073741824) : Sm (A * C) (B * D) (mulR a b) ∧ toQ (mulR a b) = toQ a * toQ b := by
  have e := low_mul x.fine y.fine
  have xp := x.pos
  have yp := y.pos
  have xd := x.de
  have yd := y.de
  have p := pos_mul xp yp
  unfold lowR at e
  rw [if_neg (by omega)] at e
  have m1 := abs_mul_le x.lo x.hi y.lo y.hi
  have m3 := abs_mul_le (by omega : -B ≤ a.d) x.de (by omega : -D ≤ b.d) y.de
  rw [mulR_fine x.fine y.fine, ← e]
  refine ⟨sm_of (by omega) m1 m3.2 hN hD, ?_⟩
  rw [(ofQ_bound (N := A * C) (D := B * D) (by omega) m1.1 m1.2 m3.2 hN hD).2.1]
  unfold toQ
  rw [Rat.divInt_mul_divInt]
theorem toQ_ne {b : Fr} (hb : fineR b = true) (h0 : b.n ≠ 0) : toQ b ≠ 0 := by
  intro h
  have := (toQ_parts hb).1
  rw [h] at this
  exact h0 this.symm
theorem toQ_div {a b : Fr} (ha : fineR a = true) (hb : fineR b = true) (h0 : b.n ≠ 0) (q : Rat) (h : toQ a = q * toQ b) (r : Fr) (hr : fineR r = true) (hq : toQ r = q) : divR a b = r := by
  rw [divR_fine ha hb h0, h, Rat.div_def, Rat.mul_assoc, Rat.mul_inv_cancel _ (toQ_ne hb h0), Rat.mul_one, ← hq, ofQ_toQ hr]
theorem fine_z : fineR zR = true := rfl
theorem toQ_z : toQ zR = 0 := by unfold toQ zR; exact Rat.zero_divInt _
theorem fine_neg {a : Fr} (h : fineR a = true) : fineR ⟨-a.n, a.d, false⟩ = true := by
  obtain ⟨h1, h2, h3, h4, h5, h6⟩ := fineR_iff.1 h
  exact fine_mk h2 h3 (by omega) (by omega) (by rw [Int.neg_gcd]; exact h6)
theorem negR_fine {a : Fr} (h : fineR a = true) : negR a = ⟨-a.n, a.d, false⟩ := by
  unfold negR
  rw [subR_fine fine_z h, toQ_z, Rat.sub_eq_add_neg, Rat.zero_add, ← ofQ_toQ (fine_neg h)]
  unfold toQ
  rw [Rat.neg_divInt]

/-- Squares. -/
theorem gcd_sq {n d : Int} (h : Int.gcd n d = 1) : Int.gcd (n * n) (d * d) = 1 := by
  show Nat.gcd (n * n).natAbs (d * d).natAbs = 1
  rw [Int.natAbs_mul, Int.natAbs_mul]
  have c : Nat.Coprime n.natAbs d.natAbs := h
  exact Nat.Coprime.mul_left (Nat.Coprime.mul_right c c) (Nat.Coprime.mul_right c c)
theorem gcd_of_sq {n d : Int} (h : Int.gcd (n * n) (d * d) = 1) : Int.gcd n d = 1 := by
  have h' : Nat.Coprime (n * n).natAbs (d * d).natAbs := h
  rw [Int.natAbs_mul, Int.natAbs_mul] at h'
  exact Nat.Coprime.coprime_dvd_left ⟨_, rfl⟩ (Nat.Coprime.coprime_dvd_right ⟨_, rfl⟩ h')
theorem mulR_sq {n d : Int} (h : fineR ⟨n, d, false⟩ = true) (h1 : -32768 ≤ n) (h2 : n ≤ 32768) (h3 : d ≤ 32768) : fineR ⟨n * n, d * d, false⟩ = true ∧ mulR ⟨n, d, false⟩ ⟨n, d, false⟩ = ⟨n * n, d * d, false⟩ := by
  obtain ⟨_, g2, g3, g4, g5, g6⟩ := fineR_iff.1 h
  dsimp only at g2 g3 g4 g5 g6
  have m1 := abs_mul_le h1 h2 h1 h2
  have m2 := abs_mul_le (by omega : -32768 ≤ d) h3 (by omega : -32768 ≤ d) h3
  have f : fineR ⟨n * n, d * d, false⟩ = true := fine_mk (pos_mul g2 g2) (by omega) (by omega) (by omega) (gcd_sq g6)
  refine ⟨f, ?_⟩
  rw [mulR_fine h h, ← ofQ_toQ f]
  unfold toQ
  rw [Rat.divInt_mul_divInt]
theorem flR_sq (x : Int) : flR (x * x) = (x.natAbs : Int) := by
  have e : x * x = (x.natAbs : Int) * (x.natAbs : Int) := Int.natAbs_mul_self.symm.trans (by rw [Int.natCast_mul])
  have h0 : (0 : Int) ≤ (x.natAbs : Int) * (x.natAbs : Int) := Int.mul_nonneg (by omega) (by omega)
  unfold flR
  rw [e, if_neg (by omega)]
  refine (root_one _ _ (by omega) (by omega) ?_).symm
  rw [Int.add_mul, Int.mul_add]
  omega
theorem fine_abs {n d : Int} (h : fineR ⟨n, d, false⟩ = true) : fineR ⟨(n.natAbs : Int), d, false⟩ = true := by
  obtain ⟨_, g2, g3, g4, g5, g6⟩ := fineR_iff.1 h
  dsimp only at g2 g3 g4 g5 g6
  exact fine_mk g2 g3 (by omega) (by omega) (by show Nat.gcd _ _ = 1; rw [Int.natAbs_natCast]; exact g6)
theorem rootR_sq {n d : Int} (h : fineR ⟨n, d, false⟩ = true) (h1 : -32768 ≤ n) (h2 : n ≤ 32768) (h3 : d ≤ 32768) : rootR (mulR ⟨n, d, false⟩ ⟨n, d, false⟩) = ⟨(n.natAbs : Int), d, false⟩ := by
  obtain ⟨f, e⟩ := mulR_sq h h1 h2 h3
  obtain ⟨f2, e2⟩ := mulR_sq (fine_abs h) (by omega) (by omega) h3
  have dp := (fineR_iff.1 h).2.1
  dsimp only at dp
  have t : tryR ⟨n * n, d * d, false⟩ = ⟨(n.natAbs : Int), d, false⟩ := by
    unfold tryR
    dsimp only
    rw [flR_sq, flR_sq, show (d.natAbs : Int) = d by omega]
  have en : (n.natAbs : Int) * (n.natAbs : Int) = n * n := (Int.natAbs_mul_self.symm.trans (by rw [Int.natCast_mul])).symm
  unfold rootR
  rw [e, f, t, e2, en, eqR_iff.2 rfl]
  rfl
theorem flR_le {n : Int} (h : n ≤ 1073741824) : 0 ≤ flR n ∧ flR n ≤ 32768 := by
  unfold flR
  split
  · omega
  · rename_i hn
    have s := rtF_spec n (by omega)
    refine ⟨s.1, ?_⟩
    rcases (by omega : rtF n ≤ 32768 ∨ 32769 ≤ rtF n) with h' | h'
    · exact h'
    · have : 32769 * 32769 ≤ rtF n * rtF n := Int.mul_le_mul h' h' (by omega) (by omega)
      omega
/-- The root, by both parts. -/
theorem rootR_yes {a : Fr} (h : fineR a = true) (p q : Int) (hp : p = flR a.n) (hq : q = flR a.d) (e1 : p * p = a.n) (e2 : q * q = a.d) : rootR a = ⟨p, q, false⟩ ∧ mulR ⟨p, q, false⟩ ⟨p, q, false⟩ = a := by
  obtain ⟨g1, g2, g3, g4, g5, g6⟩ := fineR_iff.1 h
  have lp := flR_le (n := a.n) g5
  have lq := flR_le (n := a.d) g3
  rw [← hp] at lp
  rw [← hq] at lq
  have q1 : 1 ≤ q := by
    rcases (by omega : q = 0 ∨ 1 ≤ q) with h' | h'
    · rw [h'] at e2; omega
    · exact h'
  have f : fineR ⟨p, q, false⟩ = true := fine_mk q1 (by omega) (by omega) (by omega) (gcd_of_sq (by rw [e1, e2]; exact g6))
  obtain ⟨_, m⟩ := mulR_sq f (by omega) lp.2 lq.2
  rw [e1, e2, ← fr_eta h] at m
  refine ⟨?_, m⟩
  have t : tryR a = ⟨p, q, false⟩ := by unfold tryR; rw [← hp, ← hq]
  unfold rootR
  rw [h, t, m, eqR_iff.2 rfl]
  rfl
theorem rootR_no {a : Fr} (h : fineR a = true) (hn : ¬ (flR a.n * flR a.n = a.n ∧ flR a.d * flR a.d = a.d)) : rootR a = wrongR := by
  unfold rootR
  rw [h]
  cases he : eqR (mulR (tryR a) (tryR a)) a
  · rfl
  · exfalso
    have e := eqR_iff.1 he
    cases hf : fineR (tryR a)
    · unfold mulR at e
      rw [hf] at e
      rw [← e] at h
      cases h
    · obtain ⟨g1, g2, g3, g4, g5, g6⟩ := fineR_iff.1 h
      have m := (mulR_sq (n := flR a.n) (d := flR a.d) hf (by have := flR_le g5; omega) (flR_le g5).2 (flR_le g3).2).2
      have m' : (⟨flR a.n * flR a.n, flR a.d * flR a.d, false⟩ : Fr) = a := m.symm.trans e
      exact hn ⟨congrArg Fr.n m', congrArg Fr.d m'⟩
end Go.Proofs.YtljmggemdkfbiaaGreat
