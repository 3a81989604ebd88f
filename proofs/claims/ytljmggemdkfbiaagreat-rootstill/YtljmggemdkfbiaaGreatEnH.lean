/- Enclosed numbers, of fractions of whole numbers: what is told of enclosed numbers encloses what is told of the fractions that they enclose. Mathematics alone. -/
import Derived.Test.YtljmggemdkfbiaaGreatEnL
namespace Go.Proofs.YtljmggemdkfbiaaGreat
open Go.RowKit
set_option linter.unusedSimpArgs false
set_option linter.unusedVariables false

/-- n by d (d above 0) lies between the bounds. -/
def QIn (a : En) (n d : Int) : Prop := a.l * d ≤ n * 16777216 ∧ n * 16777216 ≤ a.h * d
/-- It is Bad, or it may be, and encloses n by d. -/
def Enq (a : En) (n d : Int) : Prop := a = wrongE ∨ (fineB a = true ∧ QIn a n d)
theorem cancel_pos {x y k : Int} (hk : 0 < k) (h : x * k ≤ y * k) : x ≤ y := Int.le_of_mul_le_mul_right h hk
/-- The same fraction, by other parts. -/
theorem QIn.same {a : En} {n d n' d' : Int} (h : QIn a n d) (hd : 0 < d) (hd' : 0 < d') (e : n * d' = n' * d) : QIn a n' d' := by
  obtain ⟨h1, h2⟩ := h
  constructor
  · refine cancel_pos hd ?_
    have := Int.mul_le_mul_of_nonneg_right h1 (Int.le_of_lt hd')
    rw [show a.l * d' * d = a.l * d * d' by rw [Int.mul_right_comm], show n' * 16777216 * d = n * 16777216 * d' by rw [Int.mul_right_comm, ← e, Int.mul_right_comm]]
    exact this
  · refine cancel_pos hd ?_
    have := Int.mul_le_mul_of_nonneg_right h2 (Int.le_of_lt hd')
    rw [show a.h * d' * d = a.h * d * d' by rw [Int.mul_right_comm], show n' * 16777216 * d = n * 16777216 * d' by rw [Int.mul_right_comm, ← e, Int.mul_right_comm]]
    exact this
theorem Enq.same {a : En} {n d n' d' : Int} (h : Enq a n d) (hd : 0 < d) (hd' : 0 < d') (e : n * d' = n' * d) : Enq a n' d' := by
  rcases h with h | ⟨f, q⟩
  · exact .inl h
  · exact .inr ⟨f, q.same hd hd' e⟩
theorem wrong_fine {a : En} (h : a = wrongE) : fineB a = false := by subst h; rfl
theorem told_wrong {N : Int → Int → Int → Int} {B : Int → Int → Int → Bool} {a b : En} {ps : List (Int × Int)} (h : a = wrongE ∨ b = wrongE) : toldE N B a b ps = wrongE := by
  refine told_bad ?_
  unfold okE
  rcases h with h | h
  · rw [wrong_fine h]; simp
  · rw [wrong_fine h]; simp
/-- What is told of two, by what holds of the bounds. -/
theorem enq_told {N : Int → Int → Int → Int} {B : Int → Int → Int → Bool} {a b : En} {ps : List (Int × Int)} {n d : Int} (hf : FineOr (toldE N B a b ps)) (h : fineB a = true → fineB b = true → okF B ps = true → lowF N ps * d ≤ n * 16777216 ∧ n * 16777216 ≤ highF N ps * d) : Enq (toldE N B a b ps) n d := by
  rcases hf with hf | ⟨_, hf⟩
  · exact .inl hf
  · cases hk : okE B a b ps
    · exact .inl (told_bad hk)
    · obtain ⟨h0, ha, hb, ho⟩ := okE_iff.1 hk
      have q := h ha hb ho
      refine .inr ⟨hf, ?_⟩
      rw [told_ok hk]
      exact q
theorem enq_add {a b : En} {n1 d1 n2 d2 : Int} (hd1 : 0 < d1) (hd2 : 0 < d2) (ha : Enq a n1 d1) (hb : Enq b n2 d2) : Enq (addE a b) (n1 * d2 + n2 * d1) (d1 * d2) := by
  rcases ha with ha | ⟨fa, qa⟩
  · exact .inl (told_wrong (.inl ha))
  rcases hb with hb | ⟨fb, qb⟩
  · exact .inl (told_wrong (.inr hb))
  refine enq_told (fine_add a b) fun _ _ ho => ?_
  have m1 : (a.l, b.l) ∈ prs2 a b := by simp [prs2]
  have m2 : (a.h, b.h) ∈ prs2 a b := by simp [prs2]
  have l1 := low_le (N := nA) m1
  have l2 := le_high (N := nA) m2
  simp only [nA] at l1 l2
  rw [(fa_val (ok_at ho m1).1).1] at l1
  rw [(fa_val (ok_at ho m2).2).1] at l2
  have hdd : 0 < d1 * d2 := Int.mul_pos hd1 hd2
  have p1 := Int.mul_le_mul_of_nonneg_right qa.1 (Int.le_of_lt hd2)
  have p2 := Int.mul_le_mul_of_nonneg_right qb.1 (Int.le_of_lt hd1)
  have p3 := Int.mul_le_mul_of_nonneg_right qa.2 (Int.le_of_lt hd2)
  have p4 := Int.mul_le_mul_of_nonneg_right qb.2 (Int.le_of_lt hd1)
  have g1 := Int.mul_le_mul_of_nonneg_right l1 (Int.le_of_lt hdd)
  have g2 := Int.mul_le_mul_of_nonneg_right l2 (Int.le_of_lt hdd)
  rw [show (a.l + b.l) * (d1 * d2) = a.l * d1 * d2 + b.l * d2 * d1 by rw [Int.add_mul, Int.mul_assoc, Int.mul_assoc, Int.mul_comm d2 d1]] at g1
  rw [show (a.h + b.h) * (d1 * d2) = a.h * d1 * d2 + b.h * d2 * d1 by rw [Int.add_mul, Int.mul_assoc, Int.mul_assoc, Int.mul_comm d2 d1]] at g2
  rw [show (n1 * d2 + n2 * d1) * 16777216 = n1 * 16777216 * d2 + n2 * 16777216 * d1 by rw [Int.add_mul, Int.mul_right_comm n1, Int.mul_right_comm n2]]
  constructor <;> omega
theorem enq_sub {a b : En} {n1 d1 n2 d2 : Int} (hd1 : 0 < d1) (hd2 : 0 < d2) (ha : Enq a n1 d1) (hb : Enq b n2 d2) : Enq (subE a b) (n1 * d2 - n2 * d1) (d1 * d2) := by
  rcases ha with ha | ⟨fa, qa⟩
  · exact .inl (told_wrong (.inl ha))
  rcases hb with hb | ⟨fb, qb⟩
  · exact .inl (told_wrong (.inr hb))
  refine enq_told (fine_sub a b) fun _ _ ho => ?_
  have m1 : (a.l, b.h) ∈ prsX a b := by simp [prsX]
  have m2 : (a.h, b.l) ∈ prsX a b := by simp [prsX]
  have l1 := low_le (N := nS) m1
  have l2 := le_high (N := nS) m2
  simp only [nS] at l1 l2
  rw [(fs_val (ok_at ho m1).1).1] at l1
  rw [(fs_val (ok_at ho m2).2).1] at l2
  have hdd : 0 < d1 * d2 := Int.mul_pos hd1 hd2
  have p1 := Int.mul_le_mul_of_nonneg_right qa.1 (Int.le_of_lt hd2)
  have p2 := Int.mul_le_mul_of_nonneg_right qb.1 (Int.le_of_lt hd1)
  have p3 := Int.mul_le_mul_of_nonneg_right qa.2 (Int.le_of_lt hd2)
  have p4 := Int.mul_le_mul_of_nonneg_right qb.2 (Int.le_of_lt hd1)
  have g1 := Int.mul_le_mul_of_nonneg_right l1 (Int.le_of_lt hdd)
  have g2 := Int.mul_le_mul_of_nonneg_right l2 (Int.le_of_lt hdd)
  rw [show (a.l - b.h) * (d1 * d2) = a.l * d1 * d2 - b.h * d2 * d1 by rw [Int.sub_mul, Int.mul_assoc, Int.mul_assoc, Int.mul_comm d2 d1]] at g1
  rw [show (a.h - b.l) * (d1 * d2) = a.h * d1 * d2 - b.l * d2 * d1 by rw [Int.sub_mul, Int.mul_assoc, Int.mul_assoc, Int.mul_comm d2 d1]] at g2
  rw [show (n1 * d2 - n2 * d1) * 16777216 = n1 * 16777216 * d2 - n2 * 16777216 * d1 by rw [Int.sub_mul, Int.mul_right_comm n1, Int.mul_right_comm n2]]
  constructor <;> omega
/-- The bounds of a, so many times as great. -/
def sclE (a : En) (d : Int) : En := ⟨0, a.l * d, a.h * d, false⟩
theorem scl_mem {a b : En} {d1 d2 : Int} {p : Int × Int} (h : p ∈ prs4 (sclE a d1) (sclE b d2)) : ∃ q ∈ prs4 a b, p = (q.1 * d1, q.2 * d2) := by
  simp only [prs4, sclE, List.mem_cons, List.not_mem_nil, or_false] at h
  rcases h with h | h | h | h
  · exact ⟨(a.l, b.l), by simp [prs4], h⟩
  · exact ⟨(a.l, b.h), by simp [prs4], h⟩
  · exact ⟨(a.h, b.l), by simp [prs4], h⟩
  · exact ⟨(a.h, b.h), by simp [prs4], h⟩
theorem down_le (x c : Int) (hc : 0 < c) : rnd x c 1 * c ≤ x := by rw [rnd_down]; exact Int.ediv_mul_le x (by omega)
theorem le_up (x c : Int) (hc : 0 < c) : x ≤ rnd x c 2 * c := by
  rw [rnd_up, Int.neg_mul]
  have := Int.ediv_mul_le (-x) (show c ≠ 0 by omega)
  omega
theorem enq_mul {a b : En} {n1 d1 n2 d2 : Int} (hd1 : 0 < d1) (hd2 : 0 < d2) (ha : Enq a n1 d1) (hb : Enq b n2 d2) : Enq (mulE a b) (n1 * n2) (d1 * d2) := by
  rcases ha with ha | ⟨fa, qa⟩
  · exact .inl (told_wrong (.inl ha))
  rcases hb with hb | ⟨fb, qb⟩
  · exact .inl (told_wrong (.inr hb))
  refine enq_told (fine_mul a b) fun _ _ ho => ?_
  have hdd : 0 < d1 * d2 := Int.mul_pos hd1 hd2
  obtain ⟨⟨p, mp, kp⟩, ⟨q, mq, kq⟩⟩ := corners (a := sclE a d1) (b := sclE b d2) (x := n1 * 16777216) (y := n2 * 16777216) ⟨qa.1, qa.2⟩ ⟨qb.1, qb.2⟩
  obtain ⟨p, mp', rfl⟩ := scl_mem mp
  obtain ⟨q, mq', rfl⟩ := scl_mem mq
  dsimp only at kp kq
  have vp := fm_inv (ok_at ho mp').1
  have vq := fm_inv (ok_at ho mq').2
  have l1 := low_le (N := fmN) mp'
  have l2 := le_high (N := fmN) mq'
  rw [vp.2.2.1] at l1
  rw [vq.2.2.1] at l2
  have r1 := down_le (p.1 * p.2) 16777216 (by decide)
  have r2 := le_up (q.1 * q.2) 16777216 (by decide)
  have e : n1 * 16777216 * (n2 * 16777216) = n1 * n2 * 16777216 * 16777216 := by rw [Int.mul_assoc n1, Int.mul_left_comm 16777216 n2, ← Int.mul_assoc, Int.mul_assoc (n1 * n2)]
  rw [e, show p.1 * d1 * (p.2 * d2) = p.1 * p.2 * (d1 * d2) by rw [Int.mul_assoc, Int.mul_left_comm d1, ← Int.mul_assoc]] at kp
  rw [e, show q.1 * d1 * (q.2 * d2) = q.1 * q.2 * (d1 * d2) by rw [Int.mul_assoc, Int.mul_left_comm d1, ← Int.mul_assoc]] at kq
  constructor
  · refine cancel_pos (k := 16777216) (by decide) ?_
    have g1 := Int.mul_le_mul_of_nonneg_right (Int.le_trans (Int.mul_le_mul_of_nonneg_right l1 (show (0 : Int) ≤ 16777216 by decide)) r1) (Int.le_of_lt hdd)
    rw [Int.mul_right_comm]
    exact Int.le_trans g1 kp
  · refine cancel_pos (k := 16777216) (by decide) ?_
    have g2 := Int.mul_le_mul_of_nonneg_right (Int.le_trans r2 (Int.mul_le_mul_of_nonneg_right l2 (show (0 : Int) ≤ 16777216 by decide))) (Int.le_of_lt hdd)
    rw [Int.mul_right_comm (highF fmN (prs4 a b))]
    exact Int.le_trans kq g2
theorem szI_scl {x d : Int} (hd : 0 < d) : szI (x * d) = szI x * d := by
  unfold szI
  by_cases h : x < 0
  · have : x * d < 0 := Int.mul_neg_of_neg_of_pos h hd
    rw [if_pos this, if_pos h, Int.neg_mul]
  · have : ¬ x * d < 0 := by have := Int.mul_nonneg (show 0 ≤ x by omega) (Int.le_of_lt hd); omega
    rw [if_neg this, if_neg h]
theorem qn_mul {x y d e : Int} (he : 0 < e) : qn (x * d) (y * e) = qn x y * d := by
  unfold qn
  by_cases h : y < 0
  · have : y * e < 0 := Int.mul_neg_of_neg_of_pos h he
    rw [if_pos this, if_pos h]
    simp only [Int.neg_mul]
    rw [Int.mul_right_comm]
  · have : ¬ y * e < 0 := by have := Int.mul_nonneg (show 0 ≤ y by omega) (Int.le_of_lt he); omega
    rw [if_neg this, if_neg h, Int.mul_right_comm]
/-- The sign. -/
def sgI (x : Int) : Int := if x < 0 then -1 else 1
theorem qn_sg (x y : Int) : qn x y = x * sgI y * 16777216 := by
  unfold qn sgI
  split
  · rw [Int.mul_neg, Int.mul_one]
  · rw [Int.mul_one]
/-- A quotient: by the parts. -/
theorem enq_div {a b : En} {n1 d1 n2 d2 : Int} (hd1 : 0 < d1) (hd2 : 0 < d2) (ha : Enq a n1 d1) (hb : Enq b n2 d2) : Enq (divE a b) (n1 * sgI n2 * d2) (d1 * szI n2) := by
  unfold divE
  cases hz : zeroB b
  · rw [if_neg (by simp)]
    rcases ha with ha | ⟨fa, qa⟩
    · exact .inl (told_wrong (.inl ha))
    rcases hb with hb | ⟨fb, qb⟩
    · exact .inl (told_wrong (.inr hb))
    have hfd : FineOr (toldE fdN fdB a b (prs4 a b)) := by
      have := fine_div a b
      unfold divE at this
      rw [hz, if_neg (by simp)] at this
      exact this
    refine enq_told hfd fun _ _ ho => ?_
    have hz' : zeroB (sclE b d2) = false := by
      unfold zeroB at hz ⊢
      rw [Bool.and_eq_false_iff] at hz ⊢
      rcases hz with h | h
      · refine .inl (decide_eq_false fun k => ?_)
        have h' := of_decide_eq_false h
        have : 0 < b.l * d2 := Int.mul_pos (by omega) hd2
        have k' : b.l * d2 ≤ 0 := k
        omega
      · refine .inr (decide_eq_false fun k => ?_)
        have h' := of_decide_eq_false h
        have : b.h * d2 < 0 := Int.mul_neg_of_neg_of_pos (by omega) hd2
        have k' : 0 ≤ b.h * d2 := k
        omega
    obtain ⟨⟨p, mp, kp⟩, ⟨q, mq, kq⟩⟩ := qcorners (a := sclE a d1) (b := sclE b d2) (x := n1 * 16777216) (y := n2 * 16777216) hz' ⟨qa.1, qa.2⟩ ⟨qb.1, qb.2⟩
    obtain ⟨p, mp', rfl⟩ := scl_mem mp
    obtain ⟨q, mq', rfl⟩ := scl_mem mq
    dsimp only at kp kq
    have vp := fd_inv (ok_at ho mp').1
    have vq := fd_inv (ok_at ho mq').2
    have l1 := low_le (N := fdN) mp'
    have l2 := le_high (N := fdN) mq'
    rw [vp.2.2.2.1] at l1
    rw [vq.2.2.2.1] at l2
    have sp := szI_pp vp.2.2.1
    have sq := szI_pp vq.2.2.1
    have r1 := down_le (qn p.1 p.2) (szI p.2) sp
    have r2 := le_up (qn q.1 q.2) (szI q.2) sq
    have hU : (0 : Int) < 16777216 := by decide
    rw [qn_mul hd2, szI_scl hU, qn_mul hU, szI_scl hd2, qn_sg n1 n2] at kp kq
    have n20 : n2 ≠ 0 := by
      intro e
      subst e
      have h1 := qb.1
      have h2 := qb.2
      unfold zeroB at hz
      rw [Bool.and_eq_false_iff] at hz
      rcases hz with h | h
      · have h' := of_decide_eq_false h
        have : 0 < b.l * d2 := Int.mul_pos (by omega) hd2
        omega
      · have h' := of_decide_eq_false h
        have : b.h * d2 < 0 := Int.mul_neg_of_neg_of_pos (by omega) hd2
        omega
    have sn := szI_pp n20
    have hdn : 0 < d1 * szI n2 := Int.mul_pos hd1 sn
    generalize n1 * sgI n2 = m at *
    generalize szI n2 = t at *
    generalize hP : qn p.1 p.2 = P at *
    generalize hQ : qn q.1 q.2 = Q at *
    generalize szI p.2 = u at *
    generalize szI q.2 = v at *
    constructor
    · refine cancel_pos sp ?_
      refine cancel_pos hU ?_
      have g1 := Int.mul_le_mul_of_nonneg_right (Int.le_trans (Int.mul_le_mul_of_nonneg_right l1 (Int.le_of_lt sp)) r1) (Int.le_of_lt hdn)
      have g2 := Int.mul_le_mul_of_nonneg_right g1 (Int.le_of_lt hU)
      refine Int.le_trans (Int.le_of_eq ?_) (Int.le_trans g2 (Int.le_trans (Int.le_of_eq ?_) (Int.le_trans kp (Int.le_of_eq ?_))))
      · ac_rfl
      · ac_rfl
      · ac_rfl
    · refine cancel_pos sq ?_
      refine cancel_pos hU ?_
      have g1 := Int.mul_le_mul_of_nonneg_right (Int.le_trans r2 (Int.mul_le_mul_of_nonneg_right l2 (Int.le_of_lt sq))) (Int.le_of_lt hdn)
      have g2 := Int.mul_le_mul_of_nonneg_right g1 (Int.le_of_lt hU)
      refine Int.le_trans (Int.le_of_eq ?_) (Int.le_trans kq (Int.le_trans (Int.le_of_eq ?_) (Int.le_trans g2 (Int.le_of_eq ?_))))
      · ac_rfl
      · ac_rfl
      · ac_rfl
  · rw [if_pos rfl]
    exact .inl rfl
theorem sq_le {x y : Int} (hx : 0 ≤ x) (hy : 0 ≤ y) (h : x * x ≤ y * y) : x ≤ y := by
  rcases Int.lt_or_le y x with k | k
  · have h1 : y * x < x * x := Int.mul_lt_mul_of_pos_right k (by omega)
    have h2 : y * y ≤ y * x := Int.mul_le_mul_of_nonneg_left (by omega) hy
    omega
  · exact k
/-- A root: m by e, whose square is what is enclosed. -/
theorem enq_root {a : En} {n d m e : Int} (hd : 0 < d) (he : 0 < e) (hm : 0 ≤ m) (ha : Enq a n d) (h : n * (e * e) = m * m * d) : Enq (rootE a) m e := by
  rcases ha with ha | ⟨fa, qa⟩
  · exact .inl (told_wrong (.inl ha))
  refine enq_told (fine_root a) fun _ _ ho => ?_
  have hee : 0 < e * e := Int.mul_pos he he
  have qq := qa.same hd hee h
  have m1 : (a.l, a.l) ∈ prs2 a a := by simp [prs2]
  have m2 : (a.h, a.h) ∈ prs2 a a := by simp [prs2]
  have v1 := (ok_at ho m1).1
  have v2 := (ok_at ho m2).2
  have l1 := low_le (N := nQ) m1
  have l2 := le_high (N := nQ) m2
  simp only [bQ, nQ] at v1 v2 l1 l2
  have k1 := fqB_ok v1
  have k2 := fqB_ok v2
  obtain ⟨r, t, _, r0, _, t0, _, ea, ht, x1, _, _⟩ := fq_vals a.l k1.1 k1.2.1
  obtain ⟨r', t', _, r0', _, t0', _, ea', ht', _, x2, _⟩ := fq_vals a.h k2.1 k2.2.1
  rw [x1.1] at l1
  rw [x2.1] at l2
  obtain ⟨s, hs⟩ : ∃ s, s = upI r' (decide (0 < t')) := ⟨_, rfl⟩
  rw [← hs] at l2
  have hss : a.h * 16777216 ≤ s * s ∧ 0 ≤ s := by
    rw [hs, ea']
    unfold upI
    by_cases k : 0 < t'
    · simp only [decide_eq_true k, if_true]
      rw [Int.add_mul, Int.mul_add, Int.mul_one, Int.one_mul]
      exact ⟨by omega, by omega⟩
    · simp only [decide_eq_false k]
      exact ⟨by simp; omega, by simpa using r0'⟩
  have hU : (0 : Int) < 16777216 := by decide
  have sqU : m * 16777216 * (m * 16777216) = m * m * 16777216 * 16777216 := by ac_rfl
  constructor
  · refine Int.le_trans (Int.mul_le_mul_of_nonneg_right l1 (Int.le_of_lt he)) (sq_le (Int.mul_nonneg r0 (Int.le_of_lt he)) (Int.mul_nonneg hm (by decide)) ?_)
    have g1 := Int.mul_le_mul_of_nonneg_right (show r * r ≤ a.l * 16777216 by omega) (Int.le_of_lt hee)
    have g2 := Int.mul_le_mul_of_nonneg_right qq.1 (Int.le_of_lt hU)
    rw [sqU]
    refine Int.le_trans (Int.le_of_eq ?_) (Int.le_trans g1 (Int.le_trans (Int.le_of_eq ?_) g2))
    · ac_rfl
    · ac_rfl
  · refine Int.le_trans (sq_le (Int.mul_nonneg hm (by decide)) (Int.mul_nonneg hss.2 (Int.le_of_lt he)) ?_) (Int.mul_le_mul_of_nonneg_right l2 (Int.le_of_lt he))
    have g1 := Int.mul_le_mul_of_nonneg_right hss.1 (Int.le_of_lt hee)
    have g2 := Int.mul_le_mul_of_nonneg_right qq.2 (Int.le_of_lt hU)
    rw [sqU]
    refine Int.le_trans g2 (Int.le_trans (Int.le_of_eq ?_) (Int.le_trans g1 (Int.le_of_eq ?_)))
    · ac_rfl
    · ac_rfl
/-- A point encloses what it is. -/
theorem enq_pt {x n d : Int} (hx : frB x = true) (e : x * d = n * 16777216) : Enq (ptE x true) n d :=
  .inr ⟨pt_fine hx, Int.le_of_eq e, Int.le_of_eq e.symm⟩
theorem Enq.encl {a : En} {n d : Int} (h : Enq a n d) (hb : a.bad = false) (h1 : 1 ≤ d) : fineB a = true ∧ decide (1 ≤ d) = true ∧ a.l * d ≤ n * 16777216 ∧ n * 16777216 ≤ a.h * d := by
  rcases h with rfl | ⟨f, q⟩
  · cases hb
  · exact ⟨f, decide_eq_true h1, q.1, q.2⟩
end Go.Proofs.YtljmggemdkfbiaaGreat
