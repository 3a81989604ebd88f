/- Contracts of vec's Clone, Pairs, of enclosed numbers (layer 5). Written by genVe.py. -/
import Derived.Test.YtlbmkjicbkfmjaaGreatTimes
import Derived.Test.YtlbmkjicbkfmjaaGreatKC
import Derived.Deep.DeepCutAuto
import Derived.Test.YtlbmkjicbkfmjaaGreatWlr
import Derived.Test.YtlbmkjicbkfmjaaGreatVeR
/- The contract of the document's MulDiv. -/
namespace Go.Proofs.YtlbmkjicbkfmjaaGreat
open Go.RowKit
set_option linter.unusedSimpArgs false
set_option linter.unusedVariables false

/-- One step of a long division. -/
theorem long_step (N N' D x : Int) (hD : 0 < D) (h : N' = x + 2 * N) (x0 : 0 ≤ x) (x1 : x ≤ 1) :
    (2 * (N % D) + x < D → N' % D = 2 * (N % D) + x ∧ N' / D = 2 * (N / D)) ∧ (D ≤ 2 * (N % D) + x → N' % D = 2 * (N % D) + x - D ∧ N' / D = 2 * (N / D) + 1) := by
  have e := Int.mul_ediv_add_emod N D
  have r0 := Int.emod_nonneg N (show D ≠ 0 by omega)
  have r1 := Int.emod_lt_of_pos N hD
  generalize N / D = q at *
  generalize N % D = r at *
  constructor
  · intro hl
    have e' : N' = 2 * r + x + D * (2 * q) := by rw [h, ← e, ← Int.mul_assoc, Int.mul_comm D 2, Int.mul_assoc]; omega
    rw [e']
    exact ⟨by rw [Int.add_mul_emod_self_left, Int.emod_eq_of_lt (by omega) hl], by rw [Int.add_mul_ediv_left _ _ (by omega), Int.ediv_eq_zero_of_lt (by omega) hl, Int.zero_add]⟩
  · intro hl
    have hh : D * (2 * q + 1) = 2 * (D * q) + D := by rw [Int.mul_add, Int.mul_one, ← Int.mul_assoc, Int.mul_comm D 2, Int.mul_assoc]
    have e' : N' = 2 * r + x - D + D * (2 * q + 1) := by omega
    rw [e']
    exact ⟨by rw [Int.add_mul_emod_self_left, Int.emod_eq_of_lt (by omega) (by omega)], by rw [Int.add_mul_ediv_left _ _ (by omega), Int.ediv_eq_zero_of_lt (by omega) (by omega), Int.zero_add]⟩
theorem drop_bd (ps : List Int) (h : AllBits ps) (l : ps.length = 130) (j : Nat) : 0 ≤ bval (ps.drop (j + 1)) ∧ bval (ps.drop (j + 1)) < 680564733841876926926749214863536422912 := by
  have b := bval_bd _ (h.drop (j + 1))
  rw [List.length_drop, l] at b
  have h2 : (2 : Int) ^ (130 - (j + 1)) ≤ 680564733841876926926749214863536422912 := by
    have : (2 : Nat) ^ (130 - (j + 1)) ≤ 2 ^ 129 := Nat.pow_le_pow_right (by decide) (by omega)
    have e : ((2 ^ (130 - (j + 1)) : Nat) : Int) ≤ ((2 ^ 129 : Nat) : Int) := by exact_mod_cast this
    simpa using e
  omega
theorem div_le_self {N D : Int} (h0 : 0 ≤ N) (hD : 0 < D) : 0 ≤ N / D ∧ N / D ≤ N := ⟨Int.ediv_nonneg h0 (by omega), Int.ediv_le_self _ h0⟩

/-- Is it below 0? 1, if so. -/
def ng (a : Int) : Int := if a < 0 then 1 else 0
theorem ng_y {a : Int} (h : a < 0) : ng a = 1 := if_pos h
theorem ng_n {a : Int} (h : ¬ a < 0) : ng a = 0 := if_neg h
theorem ng_bd (a : Int) : 0 ≤ ng a ∧ ng a ≤ 1 := by unfold ng; split <;> decide
theorem upI_one (Q : Int) : upI Q true = Q + 1 := rfl
/-- Whether what is left goes away from 0, as the document counts it. -/
theorem more_even {Q R D : Int} (bl : Bool) (hD : 0 < D) (hR : 0 ≤ R) :
    (D < 2 * R ∧ outB Q R D bl 0 = true) ∨ (2 * R = D ∧ 0 < R ∧ outB Q R D bl 0 = (Q % 2 == 1)) ∨ (2 * R < D ∧ 0 < R ∧ outB Q R D bl 0 = false) ∨ (R = 0 ∧ outB Q R D bl 0 = false) := by
  have e : outB Q R D bl 0 = (decide (D < 2 * R) || (decide (2 * R = D) && decide (Q % 2 = 1))) := by simp [outB]
  rw [e]
  rcases (by omega : D < 2 * R ∨ (2 * R = D ∧ 0 < R) ∨ (2 * R < D ∧ 0 < R) ∨ R = 0) with h | h | h | h
  · exact .inl ⟨h, by rw [decide_eq_true h]; rfl⟩
  · exact .inr (.inl ⟨h.1, h.2, by rw [decide_eq_false (by omega), decide_eq_true h.1]; rfl⟩)
  · exact .inr (.inr (.inl ⟨h.1, h.2, by rw [decide_eq_false (by omega), decide_eq_false (by omega)]; rfl⟩))
  · exact .inr (.inr (.inr ⟨h, by rw [decide_eq_false (by omega), decide_eq_false (by omega)]; rfl⟩))
theorem low_bit (xs : List Int) (h : AllBits xs) (l : xs.length = 130) : bval xs % 2 = xs.getD 0 0 := by
  have := bval_drop_succ xs 0 (by omega)
  rw [List.drop_zero] at this
  have := h.getD 0
  omega
/-- Whether it goes away from 0, as far as the modes up to k tell. -/
def mrF (mode Q R D : Int) (bl : Bool) (k : Int) : Bool := if mode ≤ k then outB Q R D bl mode else false
theorem mrF_no {mode Q R D : Int} {bl : Bool} {k : Int} (h : ¬ mode ≤ k) : mrF mode Q R D bl k = false := if_neg h
theorem mrF_yes {mode Q R D : Int} {bl : Bool} {k : Int} (h : mode ≤ k) : mrF mode Q R D bl k = outB Q R D bl mode := if_pos h
/-- The signs, counted: odd just where the quotient is below 0; or there is nothing. -/
theorem signs_odd (a b c : Int) (hc : c ≠ 0) : ((ng a + ng b + ng c) % 2 == 1) = belB a b c ∨ szI a * szI b = 0 := by
  rcases (by omega : a < 0 ∨ a = 0 ∨ 0 < a) with h | h | h
  · rcases (by omega : b < 0 ∨ b = 0 ∨ 0 < b) with k | k | k
    · left
      have p1 := Int.mul_pos_of_neg_of_neg h k
      rcases (by omega : c < 0 ∨ 0 < c) with l | l
      · have := Int.mul_neg_of_pos_of_neg p1 l
        rw [ng_y h, ng_y k, ng_y l]; unfold belB; rw [decide_eq_true this]; rfl
      · have := Int.mul_pos p1 l
        rw [ng_y h, ng_y k, ng_n (by omega)]; unfold belB; rw [decide_eq_false (by omega)]; rfl
    · right; rw [k]; simp [szI]
    · left
      have p1 := Int.mul_neg_of_neg_of_pos h k
      rcases (by omega : c < 0 ∨ 0 < c) with l | l
      · have := Int.mul_pos_of_neg_of_neg p1 l
        rw [ng_y h, ng_n (by omega), ng_y l]; unfold belB; rw [decide_eq_false (by omega)]; rfl
      · have := Int.mul_neg_of_neg_of_pos p1 l
        rw [ng_y h, ng_n (by omega), ng_n (by omega)]; unfold belB; rw [decide_eq_true this]; rfl
  · right; rw [h]; simp [szI]
  · rcases (by omega : b < 0 ∨ b = 0 ∨ 0 < b) with k | k | k
    · left
      have p1 := Int.mul_neg_of_pos_of_neg h k
      rcases (by omega : c < 0 ∨ 0 < c) with l | l
      · have := Int.mul_pos_of_neg_of_neg p1 l
        rw [ng_n (by omega), ng_y k, ng_y l]; unfold belB; rw [decide_eq_false (by omega)]; rfl
      · have := Int.mul_neg_of_neg_of_pos p1 l
        rw [ng_n (by omega), ng_y k, ng_n (by omega)]; unfold belB; rw [decide_eq_true this]; rfl
    · right; rw [k]; simp [szI]
    · left
      have p1 := Int.mul_pos h k
      rcases (by omega : c < 0 ∨ 0 < c) with l | l
      · have := Int.mul_neg_of_pos_of_neg p1 l
        rw [ng_n (by omega), ng_n (by omega), ng_y l]; unfold belB; rw [decide_eq_true this]; rfl
      · have := Int.mul_pos p1 l
        rw [ng_n (by omega), ng_n (by omega), ng_n (by omega)]; unfold belB; rw [decide_eq_false (by omega)]; rfl

set_option maxHeartbeats 4000000 in
set_option maxRecDepth 1000000 in
theorem refMulDiv_good (a b c mode : Int) (ha : rightB a = true) (hb : rightB b = true) (hc : rightB c = true) (hz : (c == 0) = false) (hm0 : 0 ≤ mode) (hm2 : mode ≤ 2) (w : World) :
    Calls Tryz.prog 168 #[.int .i64 a, .int .i64 b, .int .i64 c, .int .i64 mode] w fun e w' =>
      e = .returned (.tuple #[.int .i64 (rdN (mdC a b c mode) (belB a b c)), .bool (rdB (mdC a b c mode))]) ∧ Bl w w' := by
  have ia := right_i64 ha
  have ib := right_i64 hb
  have ic := right_i64 hc
  have ka := rightB_iff.1 ha
  have kb := rightB_iff.1 hb
  have kc := rightB_iff.1 hc
  have sa := szI_right ha
  have sb := szI_right hb
  have sc := szI_right hc
  have hD : 0 < szI c := by
    have : c ≠ 0 := by simpa using hz
    unfold szI; split <;> omega
  have SA := hideP (refSize_any a ia (by omega))
  have SB := hideP (refSize_any b ib (by omega))
  have SC := hideP (refSize_any c ic (by omega))
  have HP := hideP (fun w => rtimes_any (szI a) (szI b) w sa.1 (by omega) sb.1 (by omega))
  have HC := hideP (fun w => bits_any (szI c) w sc.1 (by omega))
  have hpm := mul_hi sa sb
  unfold mdC
  generalize hpp : szI a * szI b = p at *
  generalize hdd : szI c = D at *
  have hd1 : decide (mode < 0) = false := decide_eq_false (by omega)
  have hd2 : decide (2 < mode) = false := decide_eq_false (by omega)
  have hd3 : ¬ 2 < mode := by omega
  clear ia ib ic
  go_enter Tryz.func168, Tryz.ntmps168
  go_wp2_with (go_at_call 179; refine (refRight_any _ _).mono ?_; rintro e w' ⟨rfl, rfl⟩)
  refine (SA.out _).mono ?_
  rintro e w1 ⟨rfl, rfl⟩
  go_wp2_with fail
  refine (SB.out _).mono ?_
  rintro e w2 ⟨rfl, rfl⟩
  go_wp2_with fail
  refine (HP.out _).mono ?_
  rintro e w3 ⟨vp, rfl, rp, h3⟩
  go_wp2_with fail
  refine (SC.out _).mono ?_
  rintro e w4 ⟨rfl, rfl⟩
  go_wp2_with fail
  refine (HC.out _).mono ?_
  rintro e w5 ⟨vd, rfl, rd, h5⟩
  go_wp2_with fail
  refine (bits_any 0 _ (by omega) (by omega)).mono ?_
  rintro e w6 ⟨vq, rfl, rq, h6⟩
  go_wp2_with fail
  refine (bits_any 0 _ (by omega) (by omega)).mono ?_
  rintro e w7 ⟨vr, rfl, rr, h7⟩
  have rp := ((rp.later h5).later h6).later h7
  have rd := (rd.later h6).later h7
  have rq := rq.later h7
  have hW := (((h3.trans h5).trans h6).trans h7)
  clear h3 h5 h6 h7
  obtain ⟨pb, op, cp, ps, rfl, hcp, hpb, lp, ap, hpv, cellp⟩ := rp
  have CP := hideP cellp
  have HPV := hideP hpv
  clear cellp hpv
  go_wp2_with fail
  go_loopw [12, 13, 14] (fun q r i wr => ∃ k : Nat, i = .int .i64 ((k : Int) - 1) ∧ k ≤ 130 ∧ Row wr q (bval (ps.drop k) / D) ∧ Row wr r (bval (ps.drop k) % D) ∧ Bl w7 wr) (fun _ _ i _ => (intOf i + 1).toNat)
  case atStart =>
    have e : ps.drop 130 = [] := List.drop_of_length_le (by omega)
    refine ⟨130, rfl, Nat.le_refl _, ?_, ?_, Bl.refl _⟩
    · rw [e, show bval ([] : List Int) = 0 from rfl, Int.zero_ediv]; exact rq
    · rw [e, show bval ([] : List Int) = 0 from rfl, Int.zero_emod]; exact rr
  case round =>
    obtain ⟨k, rfl, hk, hrq, hrr, hB⟩ := hrel
    cases k with
    | zero =>
      rw [show ((0 : Nat) : Int) - 1 = -1 from rfl]
      rw [List.drop_zero, HPV.out] at hrq hrr
      have Q0 := (div_le_self (D := D) (show 0 ≤ p by rw [← HPV.out]; exact (bval_bd ps ap).1) hD)
      have R0 := Int.emod_nonneg p (show D ≠ 0 by omega)
      have R1 := Int.emod_lt_of_pos p hD
      have nA := ng_bd a
      have nB := ng_bd b
      have nC := ng_bd c
      go_upto_if 78 with fail
      go_cut [16] (fun t wx => t = .int .i64 (ng a) ∧ wr = wx)
      case first =>
        by_cases hn : a < 0
        · have E := hideP (ng_y hn)
          go_wp2
          go_meet
          exact ⟨congrArg (Value.int .i64) (by have := E.out; omega), rfl⟩
        · have E := hideP (ng_n hn)
          go_wp2
          go_meet
          exact ⟨congrArg (Value.int .i64) (by have := E.out; omega), rfl⟩
      case rest =>
        obtain ⟨rfl, rfl⟩ := hcut
        go_upto_if 82 with fail
        go_cut [16] (fun t wx => t = .int .i64 (ng a + ng b) ∧ wr = wx)
        case first =>
          by_cases hn : b < 0
          · have E := hideP (ng_y hn)
            go_wp2
            go_meet
            exact ⟨congrArg (Value.int .i64) (by have := E.out; omega), rfl⟩
          · have E := hideP (ng_n hn)
            go_wp2
            go_meet
            exact ⟨congrArg (Value.int .i64) (by have := E.out; omega), rfl⟩
        case rest =>
          obtain ⟨rfl, rfl⟩ := hcut
          go_upto_if 86 with fail
          go_cut [16] (fun t wx => t = .int .i64 (ng a + ng b + ng c) ∧ wr = wx)
          case first =>
            by_cases hn : c < 0
            · have E := hideP (ng_y hn)
              go_wp2
              go_meet
              exact ⟨congrArg (Value.int .i64) (by have := E.out; omega), rfl⟩
            · have E := hideP (ng_n hn)
              go_wp2
              go_meet
              exact ⟨congrArg (Value.int .i64) (by have := E.out; omega), rfl⟩
          case rest =>
            obtain ⟨rfl, rfl⟩ := hcut
            obtain ⟨m, hm⟩ : ∃ m, m = ng a + ng b + ng c := ⟨_, rfl⟩
            obtain ⟨Q, hQ⟩ : ∃ Q, Q = p / D := ⟨_, rfl⟩
            obtain ⟨R, hR⟩ : ∃ R, R = p % D := ⟨_, rfl⟩
            obtain ⟨sm, hsm⟩ : ∃ sm, sm = decide (0 < R) := ⟨_, rfl⟩
            obtain ⟨nb, hnb⟩ : ∃ nb, nb = (m % 2 == 1) := ⟨_, rfl⟩
            obtain ⟨bl, hbl⟩ : ∃ bl, bl = belB a b c := ⟨_, rfl⟩
            have hnb0 : (m % 2 == 0) = !nb := by
              rw [hnb]
              rcases (by omega : m % 2 = 0 ∨ m % 2 = 1) with k | k <;> rw [k] <;> rfl
            have hsg : nb = bl ∨ p = 0 := by
              have := signs_odd a b c (by simpa using hz)
              rw [hpp, ← hm, ← hnb, ← hbl] at this
              exact this
            rw [← hm]
            rw [← hQ] at hrq Q0
            rw [← hR] at hrr R0 R1
            have m0 : 0 ≤ m := by omega
            have m3 : m ≤ 3 := by omega
            have hQ0 : p = 0 → Q = 0 ∧ R = 0 := by
              intro h; rw [hQ, hR, h]; exact ⟨Int.zero_ediv _, Int.zero_emod _⟩
            have GM := hideP hm
            have GQ := hideP hQ
            have GR := hideP hR
            have GS := hideP hsm
            have GB := hideP hbl
            have GSG := hideP hsg
            have GQ0 := hideP hQ0
            have rnb : (m % 2 == 1) = nb := hnb.symm
            clear hm hQ hR hsm hbl hsg hQ0 hnb nA nB nC
            have hdp := rd.later hB
            go_wp2_with fail
            refine (bits_any 0 _ (by omega) (by omega)).mono ?_
            rintro e x1 ⟨v1, rfl, q1, g1⟩
            go_wp2_with fail
            refine (less_any _ _ _ _ _ q1 (hrr.later g1)).mono ?_
            rw [← GS.out]
            rintro e x2 ⟨rfl, g2⟩
            go_wp2_with fail
            refine (up_any _ _ 0 _ ((hrr.later g1).later g2) (.inl rfl)).mono ?_
            rintro e x3 ⟨v3, rfl, q3, g3⟩
            have e3 : (2 * R + 0) % 1361129467683753853853498429727072845824 = 2 * R := by omega
            rw [e3] at q3
            clear e3 q1
            have G := ((g1.trans g2).trans g3)
            have hrq := hrq.later G
            have hdp := hdp.later G
            have hpB : p ≤ 21267647932558653957237540927630737409 ∨ True := .inr trivial
            clear hrr
            go_upto_if 95 with fail
            go_cut [19] (fun t wx => t = .bool (mrF mode Q R D bl 0) ∧ Bl x3 wx)
            case first =>
              by_cases hmo : mode = 0
              · have hmb : (mode == 0) = true := by simpa using hmo
                have EM : Hid (mrF mode Q R D bl 0 = outB Q R D bl 0) := by show _ = _; rw [mrF_yes (by omega), hmo]
                clear hmo
                rcases more_even (Q := Q) bl hD R0 with ⟨k, eo⟩ | ⟨k, k2, eo⟩ | ⟨k, k2, eo⟩ | ⟨k, eo⟩
                · have D1 := hideP (decide_eq_true k)
                  have EO := hideP eo
                  clear eo k
                  go_wp2_with fail
                  refine (less_any _ _ _ _ _ hdp q3).mono ?_
                  rw [D1.out]
                  rintro e x4 ⟨rfl, g4⟩
                  go_wp2
                  go_meet
                  exact ⟨congrArg Value.bool (by rw [EM.out, EO.out]), g4⟩
                · have D1 := hideP (decide_eq_false (show ¬ D < 2 * R by omega))
                  have D2 := hideP (decide_eq_false (show ¬ 2 * R < D by omega))
                  have S1 : sm = true := by rw [GS.out]; exact decide_eq_true k2
                  have EO := hideP eo
                  clear eo k k2
                  subst S1
                  obtain ⟨qb, oq, cq, qs, rfl, hcq, hqb, lq, aq, hqv, cellq⟩ := hrq
                  have c0 := cellq 0 (by omega)
                  have lb := low_bit qs aq lq
                  rw [hqv] at lb
                  rw [Nat.add_zero, ← lb] at c0
                  have C0 := hideP c0
                  clear cellq lb c0
                  go_wp2_with fail
                  refine (less_any _ _ _ _ _ hdp q3).mono ?_
                  rw [D1.out]
                  rintro e x4 ⟨rfl, g4⟩
                  go_wp2_with fail
                  refine (less_any _ _ _ _ _ (q3.later g4) (hdp.later g4)).mono ?_
                  rw [D2.out]
                  rintro e x5 ⟨rfl, g5⟩
                  have cc := (bl_cell (g4.trans g5) _ oq hqb).trans C0.out
                  go_wp2
                  go_meet
                  exact ⟨congrArg Value.bool (by rw [EM.out, EO.out]), g4.trans g5⟩
                · have D1 := hideP (decide_eq_false (show ¬ D < 2 * R by omega))
                  have D2 := hideP (decide_eq_true (show 2 * R < D by omega))
                  have S1 : sm = true := by rw [GS.out]; exact decide_eq_true k2
                  have EO := hideP eo
                  clear eo k k2
                  subst S1
                  go_wp2_with fail
                  refine (less_any _ _ _ _ _ hdp q3).mono ?_
                  rw [D1.out]
                  rintro e x4 ⟨rfl, g4⟩
                  go_wp2_with fail
                  refine (less_any _ _ _ _ _ (q3.later g4) (hdp.later g4)).mono ?_
                  rw [D2.out]
                  rintro e x5 ⟨rfl, g5⟩
                  go_wp2
                  go_meet
                  exact ⟨congrArg Value.bool (by rw [EM.out, EO.out]), g4.trans g5⟩
                · have D1 := hideP (decide_eq_false (show ¬ D < 2 * R by omega))
                  have S1 : sm = false := by rw [GS.out]; exact decide_eq_false (by omega)
                  have EO := hideP eo
                  clear eo k
                  subst S1
                  go_wp2_with fail
                  refine (less_any _ _ _ _ _ hdp q3).mono ?_
                  rw [D1.out]
                  rintro e x4 ⟨rfl, g4⟩
                  go_wp2
                  go_meet
                  exact ⟨congrArg Value.bool (by rw [EM.out, EO.out]), g4⟩
              · have hmb : (mode == 0) = false := by simpa using hmo
                have EM := hideP (mrF_no (mode := mode) (Q := Q) (R := R) (D := D) (bl := bl) (k := 0) (by omega))
                clear hmo
                go_wp2
                go_meet
                exact ⟨congrArg Value.bool (by rw [EM.out]), Bl.refl _⟩
            case rest =>
              obtain ⟨rfl, gc⟩ := hcut
              go_upto_if 115 with fail
              go_cut [19] (fun t wx => t = .bool (mrF mode Q R D bl 1) ∧ wc = wx)
              case first =>
                by_cases hmo : mode = 1
                · have hmb : (mode == 1) = true := by simpa using hmo
                  have EM : Hid (mrF mode Q R D bl 1 = (bl && decide (0 < R))) := by show _ = _; rw [mrF_yes (by omega), hmo]; simp [outB]
                  have ES : Hid ((sm && nb) = (bl && decide (0 < R))) := by
                    show _ = _
                    rw [GS.out]
                    rcases GSG.out with k | k
                    · rw [k, Bool.and_comm]
                    · rw [decide_eq_false (show ¬ 0 < R by have := GQ0.out k; omega)]; simp
                  clear hmo
                  cases sm
                  · go_wp2
                    go_meet
                    exact ⟨congrArg Value.bool (by rw [EM.out, ← ES.out]; rfl), rfl⟩
                  · go_wp2
                    go_meet
                    exact ⟨congrArg Value.bool (by rw [EM.out, ← ES.out]; rfl), rfl⟩
                · have hmb : (mode == 1) = false := by simpa using hmo
                  have EM : Hid (mrF mode Q R D bl 1 = mrF mode Q R D bl 0) := by
                    show _ = _
                    unfold mrF
                    rcases (by omega : mode = 0 ∨ mode = 2) with k | k <;> rw [k] <;> rfl
                  clear hmo
                  go_wp2
                  go_meet
                  exact ⟨congrArg Value.bool (by rw [EM.out]), rfl⟩
              case rest =>
                obtain ⟨rfl, rfl⟩ := hcut
                go_upto_if 123 with fail
                go_cut [19] (fun t wx => t = .bool (mrF mode Q R D bl 2) ∧ wc = wx)
                case first =>
                  by_cases hmo : mode = 2
                  · have hmb : (mode == 2) = true := by simpa using hmo
                    have EM : Hid (mrF mode Q R D bl 2 = (!bl && decide (0 < R))) := by show _ = _; rw [mrF_yes (by omega), hmo]; simp [outB]
                    have ES : Hid ((sm && !nb) = (!bl && decide (0 < R))) := by
                      show _ = _
                      rw [GS.out]
                      rcases GSG.out with k | k
                      · rw [k, Bool.and_comm]
                      · rw [decide_eq_false (show ¬ 0 < R by have := GQ0.out k; omega)]; simp
                    clear hmo
                    cases sm
                    · go_wp2
                      go_meet
                      exact ⟨congrArg Value.bool (by rw [EM.out, ← ES.out]; rfl), rfl⟩
                    · go_wp2
                      go_meet
                      exact ⟨congrArg Value.bool (by rw [EM.out, ← ES.out]; rfl), rfl⟩
                  · have hmb : (mode == 2) = false := by simpa using hmo
                    have EM : Hid (mrF mode Q R D bl 2 = mrF mode Q R D bl 1) := by
                      show _ = _
                      unfold mrF
                      rcases (by omega : mode = 0 ∨ mode = 1) with k | k <;> rw [k] <;> rfl
                    clear hmo
                    go_wp2
                    go_meet
                    exact ⟨congrArg Value.bool (by rw [EM.out]), rfl⟩
                case rest =>
                  obtain ⟨rfl, rfl⟩ := hcut
                  have hmr := mrF_yes (mode := mode) (Q := Q) (R := R) (D := D) (bl := bl) (k := 2) hm2
                  rw [hmr]
                  clear hmr
                  obtain ⟨o, ho⟩ : ∃ o, o = outB Q R D bl mode := ⟨_, rfl⟩
                  rw [← ho]
                  have GO := hideP ho
                  clear ho
                  have hrq := hrq.later gc
                  obtain ⟨pm0, pm1⟩ := hpm
                  go_upto_if 130 with fail
                  go_cut [12] (fun t wx => Row wx t (upI Q o) ∧ Bl wc wx)
                  case first =>
                    cases o
                    · go_wp2
                      go_meet
                      exact ⟨hrq, Bl.refl _⟩
                    · go_wp2_with fail
                      refine (bits_any 1 _ (by omega) (by omega)).mono ?_
                      rintro e x6 ⟨v6, rfl, q6, g6⟩
                      go_wp2_with fail
                      refine (add_any _ _ _ _ _ (hrq.later g6) q6).mono ?_
                      rintro e x7 ⟨v7, rfl, q7, g7⟩
                      have e7 : (Q + 1) % 1361129467683753853853498429727072845824 = Q + 1 := by omega
                      rw [e7, ← upI_one] at q7
                      clear e7
                      go_wp2
                      go_meet
                      exact ⟨q7, g6.trans g7⟩
                  case rest =>
                    obtain ⟨rC, gd⟩ := hcut
                    have hC0 := upI_le Q o
                    have EF : Hid (upI (p / D) (outB (p / D) (p % D) D (belB a b c) mode) = upI Q o ∧ belB a b c = bl) := by
                      show _ ∧ _
                      rw [← GQ.out, ← GR.out, ← GB.out, ← GO.out]
                      exact ⟨rfl, rfl⟩
                    have EZ : Hid (nb = bl ∨ upI Q o = 0) := by
                      show _ ∨ _
                      rcases GSG.out with k | k
                      · exact .inl k
                      · right
                        have := GQ0.out k
                        rw [GO.out, this.1, this.2, outB_zero _ _ _ _ hD]
                        rfl
                    have hWf := ((hW.trans hB).trans (G.trans gc)).trans gd
                    generalize upI Q o = C at *
                    have hgo : Hid (C < 4611686018427387904 ∨ ¬ C < 4611686018427387904) := by show _ ∨ _; omega
                    rcases hgo.out with hC | hC
                    · have e1 := hideP (show nmN C = C from if_pos hC)
                      have e2 := hideP (show nmB C = true from decide_eq_true hC)
                      have f2 := hideP (show rdB C = true from decide_eq_true (by omega))
                      have f1 : Hid (rdN C bl = if bl then -C else C) := by show _ = _; unfold rdN; rw [if_neg (by omega)]
                      have C0 : 0 ≤ C := by omega
                      cases nb
                      · have f3 : Hid (rdN C bl = C) := by
                          show _ = _
                          rw [f1.out]
                          rcases EZ.out with k | k
                          · rw [← k]; rfl
                          · rw [k]; split <;> rfl
                        go_wp2_with fail
                        refine (number_any _ _ _ rC).mono ?_
                        rw [e1.out, e2.out]
                        rintro e y1 ⟨rfl, z1⟩
                        go_wp2
                        go_ret2
                        refine ⟨?_, hWf.trans z1⟩
                        rw [EF.out.1, EF.out.2, f3.out, f2.out]
                        rfl
                      · have f3 : Hid (rdN C bl = -C) := by
                          show _ = _
                          rw [f1.out]
                          rcases EZ.out with k | k
                          · rw [← k]; rfl
                          · rw [k]; split <;> rfl
                        go_wp2_with fail
                        refine (number_any _ _ _ rC).mono ?_
                        rw [e1.out, e2.out]
                        rintro e y1 ⟨rfl, z1⟩
                        go_wp2
                        go_ret2
                        refine ⟨?_, hWf.trans z1⟩
                        rw [EF.out.1, EF.out.2, f3.out, f2.out]
                        first | rfl | (simp; done)
                    · have e1 := hideP (show nmN C = 0 from if_neg hC)
                      have e2 := hideP (show nmB C = false from decide_eq_false hC)
                      have f2 := hideP (show rdB C = false from decide_eq_false (by omega))
                      have f1 : Hid (rdN C bl = 0) := by show _ = _; unfold rdN; rw [if_pos (by omega)]
                      go_wp2_with fail
                      refine (number_any _ _ _ rC).mono ?_
                      rw [e1.out, e2.out]
                      rintro e y1 ⟨rfl, z1⟩
                      go_wp2
                      go_ret2
                      refine ⟨?_, hWf.trans z1⟩
                      rw [EF.out.1, EF.out.2, f1.out, f2.out]
                      rfl
    | succ j =>
      rw [show ((j + 1 : Nat) : Int) - 1 = (j : Int) from by omega]
      have gp := (bl_cell hB _ (op + j) hpb).trans (CP.out j (by omega))
      have x01 := ap.getD j
      have Dr := bval_drop_succ ps j (by omega)
      have bd := drop_bd ps ap lp j
      generalize ps.getD j 0 = x at *
      have LS := long_step (bval (ps.drop (j + 1))) (bval (ps.drop j)) D x hD Dr (by omega) (by omega)
      have dq := div_le_self (D := D) bd.1 hD
      have r0 := Int.emod_nonneg (bval (ps.drop (j + 1))) (show D ≠ 0 by omega)
      have r1 := Int.emod_lt_of_pos (bval (ps.drop (j + 1))) hD
      generalize bval (ps.drop (j + 1)) / D = Q at *
      generalize bval (ps.drop (j + 1)) % D = R at *
      generalize bval (ps.drop (j + 1)) = N at *
      have HX := hideP x01
      have HRQ := hideP hrq
      have HRR := hideP hrr
      have HLS := hideP LS
      clear x01 Dr hrq hrr LS
      have hjI : (j : Int) < 130 := by omega
      have hj0 : (0 : Int) ≤ (j : Int) := by omega
      go_wp2_with fail
      refine (up_any _ _ _ _ HRR.out HX.out).mono ?_
      rintro e w8 ⟨v8, rfl, r8, h8⟩
      have e8 : (2 * R + x) % 1361129467683753853853498429727072845824 = 2 * R + x := by have := HX.out; omega
      rw [e8] at r8
      by_cases hl : 2 * R + x < D
      · have DL := hideP (decide_eq_true hl)
        have F := HLS.out.1 hl
        have HF := hideP F
        clear hl F e8
        go_wp2_with fail
        refine (less_any _ _ _ _ _ r8 ((rd.later hB).later h8)).mono ?_
        rw [DL.out]
        rintro e w9 ⟨rfl, h9⟩
        go_wp2_with fail
        refine (up_any _ _ 0 _ ((HRQ.out.later h8).later h9) (.inl rfl)).mono ?_
        rintro e w10 ⟨v10, rfl, r10, h10⟩
        have e10 : (2 * Q + 0) % 1361129467683753853853498429727072845824 = 2 * Q := by omega
        rw [e10] at r10
        clear e10
        go_wp2
        go_roundw
        case rel =>
          refine ⟨j, rfl, by omega, ?_, ?_, ((hB.trans h8).trans h9).trans h10⟩
          · rw [HF.out.2]; exact r10
          · rw [HF.out.1]; exact (r8.later h9).later h10
        case measure => simp [intOf]
      · have DL := hideP (decide_eq_false hl)
        have F := HLS.out.2 (by omega)
        have HF := hideP F
        have es : (2 * R + x - D) % 1361129467683753853853498429727072845824 = 2 * R + x - D := by have := HX.out; omega
        have HES := hideP es
        clear hl F e8 es
        go_wp2_with fail
        refine (less_any _ _ _ _ _ r8 ((rd.later hB).later h8)).mono ?_
        rw [DL.out]
        rintro e w9 ⟨rfl, h9⟩
        go_wp2_with fail
        refine (sub_any _ _ _ _ _ (r8.later h9) (((rd.later hB).later h8).later h9)).mono ?_
        rintro e w11 ⟨v11, rfl, r11, h11⟩
        rw [HES.out] at r11
        go_wp2_with fail
        refine (up_any _ _ 1 _ (((HRQ.out.later h8).later h9).later h11) (.inr rfl)).mono ?_
        rintro e w10 ⟨v10, rfl, r10, h10⟩
        have e10 : (2 * Q + 1) % 1361129467683753853853498429727072845824 = 2 * Q + 1 := by omega
        rw [e10] at r10
        clear e10
        go_wp2
        go_roundw
        case rel =>
          refine ⟨j, rfl, by omega, ?_, ?_, (((hB.trans h8).trans h9).trans h11).trans h10⟩
          · rw [HF.out.2]; exact r10
          · rw [HF.out.1]; exact r11.later h10
        case measure => simp [intOf]
end Go.Proofs.YtlbmkjicbkfmjaaGreat

/- The walk of WideDivides. -/
namespace Go.Proofs.YtlbmkjicbkfmjaaGreat
open Go.RowKit
set_option linter.unusedSimpArgs false
set_option linter.unusedVariables false

set_option maxHeartbeats 1000000 in
theorem refMulDiv_bad (a b c mode : Int) (w : World)
    (hw : rightB a = false ∨ (rightB a = true ∧ rightB b = false) ∨ (rightB a = true ∧ rightB b = true ∧ rightB c = false) ∨ (rightB a = true ∧ rightB b = true ∧ rightB c = true ∧ (c == 0) = true) ∨
      (rightB a = true ∧ rightB b = true ∧ rightB c = true ∧ (c == 0) = false ∧ mode < 0) ∨ (rightB a = true ∧ rightB b = true ∧ rightB c = true ∧ (c == 0) = false ∧ 2 < mode)) :
    Calls Tryz.prog 168 #[.int .i64 a, .int .i64 b, .int .i64 c, .int .i64 mode] w fun e w' => e = .returned (.tuple #[.int .i64 0, .bool false]) ∧ Bl w w' := by
  rcases hw with h1 | ⟨h1, h2⟩ | ⟨h1, h2, h3⟩ | ⟨h1, h2, h3, h4⟩ | ⟨h1, h2, h3, h4, h5⟩ | ⟨h1, h2, h3, h4, h5⟩
  · go_enter Tryz.func168, Tryz.ntmps168
    go_wp2_with (go_at_call 179; refine (refRight_any _ _).mono ?_; rintro e w' ⟨rfl, rfl⟩)
    go_ret2
    exact ⟨rfl, Bl.refl _⟩
  · go_enter Tryz.func168, Tryz.ntmps168
    go_wp2_with (go_at_call 179; refine (refRight_any _ _).mono ?_; rintro e w' ⟨rfl, rfl⟩)
    go_ret2
    exact ⟨rfl, Bl.refl _⟩
  · go_enter Tryz.func168, Tryz.ntmps168
    go_wp2_with (go_at_call 179; refine (refRight_any _ _).mono ?_; rintro e w' ⟨rfl, rfl⟩)
    go_ret2
    exact ⟨rfl, Bl.refl _⟩
  · go_enter Tryz.func168, Tryz.ntmps168
    go_wp2_with (go_at_call 179; refine (refRight_any _ _).mono ?_; rintro e w' ⟨rfl, rfl⟩)
    go_ret2
    exact ⟨rfl, Bl.refl _⟩
  · have kd : decide (mode < 0) = true := decide_eq_true h5
    go_enter Tryz.func168, Tryz.ntmps168
    go_wp2_with (go_at_call 179; refine (refRight_any _ _).mono ?_; rintro e w' ⟨rfl, rfl⟩)
    go_ret2
    exact ⟨rfl, Bl.refl _⟩
  · have kd : decide (mode < 0) = false := decide_eq_false (by omega)
    go_enter Tryz.func168, Tryz.ntmps168
    go_wp2_with (go_at_call 179; refine (refRight_any _ _).mono ?_; rintro e w' ⟨rfl, rfl⟩)
    go_ret2
    exact ⟨rfl, Bl.refl _⟩

theorem refMulDiv_any (a b c mode : Int) (w : World) :
    Calls Tryz.prog 168 #[.int .i64 a, .int .i64 b, .int .i64 c, .int .i64 mode] w fun e w' =>
      e = .returned (.tuple #[.int .i64 (mdN a b c mode), .bool (mdB a b c mode)]) ∧ Bl w w' := by
  cases ha : rightB a
  · have x := md_bad a b c mode (mdG_bad (.inl ha))
    rw [x.1, x.2]
    exact refMulDiv_bad a b c mode w (.inl ha)
  cases hb : rightB b
  · have x := md_bad a b c mode (mdG_bad (.inr (.inl hb)))
    rw [x.1, x.2]
    exact refMulDiv_bad a b c mode w (.inr (.inl ⟨ha, hb⟩))
  cases hc : rightB c
  · have x := md_bad a b c mode (mdG_bad (.inr (.inr hc)))
    rw [x.1, x.2]
    exact refMulDiv_bad a b c mode w (.inr (.inr (.inl ⟨ha, hb, hc⟩)))
  cases hz : (c == 0)
  case true =>
    have x := md_bad a b c mode (by unfold mdG; rw [hz]; simp)
    rw [x.1, x.2]
    exact refMulDiv_bad a b c mode w (.inr (.inr (.inr (.inl ⟨ha, hb, hc, hz⟩))))
  case false =>
    by_cases hm : 0 ≤ mode ∧ mode ≤ 2
    · have hg : mdG a b c mode = true := by unfold mdG; rw [ha, hb, hc, hz, mode_of (by omega)]; rfl
      have := refMulDiv_good a b c mode ha hb hc hz hm.1 hm.2 w
      unfold mdN mdB
      rw [hg, if_pos rfl, Bool.true_and]
      exact this
    · have hmb : modeB mode = false := by
        unfold modeB
        rw [decide_eq_false (by omega), decide_eq_false (by omega), decide_eq_false (by omega)]; rfl
      have x := md_bad a b c mode (by unfold mdG; rw [hmb]; simp)
      rw [x.1, x.2]
      rcases (by omega : mode < 0 ∨ 2 < mode) with k | k
      · exact refMulDiv_bad a b c mode w (.inr (.inr (.inr (.inr (.inl ⟨ha, hb, hc, hz, k⟩)))))
      · exact refMulDiv_bad a b c mode w (.inr (.inr (.inr (.inr (.inr ⟨ha, hb, hc, hz, k⟩)))))

end Go.Proofs.YtlbmkjicbkfmjaaGreat

/- The contract of the document's Root. -/
namespace Go.Proofs.YtlbmkjicbkfmjaaGreat
open Go.RowKit
set_option linter.unusedSimpArgs false
set_option linter.unusedVariables false

theorem pow_step (j : Nat) : (2 : Int) ^ (j + 1) / 2 = 2 ^ j ∧ (2 : Int) ^ (j + 1) = 2 ^ j + 2 ^ j := by
  rw [Int.pow_succ]; omega

set_option maxHeartbeats 1000000 in
set_option maxRecDepth 1000000 in
theorem refRoot_any (a b : Int) (w : World) (ha : rightB a = true) (hb : rightB b = true) :
    Calls Tryz.prog 169 #[.int .i64 a, .int .i64 b] w fun e w' =>
      e = .returned (.tuple #[.int .i64 (rtF (szI a * szI b)), .bool (!decide (rtF (szI a * szI b) * rtF (szI a * szI b) < szI a * szI b))]) ∧ Bl w w' := by
  have ia := right_i64 ha
  have ib := right_i64 hb
  have ka := rightB_iff.1 ha
  have kb := rightB_iff.1 hb
  have sa := szI_right ha
  have sb := szI_right hb
  have hp := mul_hi sa sb
  have SA := hideP (refSize_any a ia (by omega))
  have SB := hideP (refSize_any b ib (by omega))
  have HP := hideP (fun w => rtimes_any (szI a) (szI b) w sa.1 (by omega) sb.1 (by omega))
  generalize szI a * szI b = p at *
  clear ia ib ka kb sa sb ha hb
  go_enter Tryz.func169, Tryz.ntmps169
  go_wp2_with fail
  refine (SA.out _).mono ?_
  rintro e w1 ⟨rfl, rfl⟩
  go_wp2_with fail
  refine (SB.out _).mono ?_
  rintro e w2 ⟨rfl, rfl⟩
  go_wp2_with fail
  refine (HP.out _).mono ?_
  rintro e w3 ⟨vp, rfl, rp, h3⟩
  have HRP := hideP rp
  clear rp
  go_wp2_with fail
  go_loopw [7, 8] (fun x s wr => ∃ (r : Int) (k : Nat), x = .int .i64 r ∧ s = .int .i64 (2 ^ k / 2) ∧ k ≤ 63 ∧ 0 ≤ r ∧ r * r ≤ p ∧ p < (r + 2 ^ k) * (r + 2 ^ k) ∧ r + 2 ^ k ≤ 9223372036854775808 ∧ Bl w3 wr) (fun _ s _ => (intOf s).toNat)
  case atStart =>
    have e63 : (2 : Int) ^ 63 = 9223372036854775808 := by decide
    refine ⟨0, 63, rfl, by rw [e63]; rfl, Nat.le_refl _, Int.le_refl _, by omega, by rw [e63]; omega, by rw [e63]; omega, Bl.refl _⟩
  case round =>
    obtain ⟨r, k, rfl, rfl, hk, r0, hr1, hr2, hr3, hB⟩ := hrel
    cases k with
    | zero =>
      have e := root_one p r r0 hr1 (by simpa using hr2)
      have E := hideP e
      rw [show (2 : Int) ^ 0 / 2 = 0 from by decide]
      have hr4 : r ≤ 9223372036854775807 := by rw [Int.pow_zero] at hr3; omega
      have T := fun w => rtimes_any r r w r0 hr4 r0 hr4
      have HT := hideP T
      clear e T hr2 hr3
      go_wp2_with fail
      refine (HT.out _).mono ?_
      rintro e w4 ⟨v4, rfl, r4, h4⟩
      go_wp2_with fail
      refine (less_any _ _ _ _ _ r4 (HRP.out.later (hB.trans h4))).mono ?_
      rintro e w5 ⟨rfl, h5⟩
      go_wp2
      go_ret2
      refine ⟨?_, ((h3.trans hB).trans h4).trans h5⟩
      rw [← E.out]
      rfl
    | succ j =>
      obtain ⟨e1, e2⟩ := pow_step j
      rw [e2] at hr2 hr3
      rw [e1]
      have hp0 := pow_pos2 j
      obtain ⟨P, hP⟩ : ∃ P : Int, P = 2 ^ j := ⟨_, rfl⟩
      rw [← hP] at hr2 hr3 hp0
      rw [← hP]
      have HPP := hideP hP
      have T := fun w => rtimes_any (r + P) (r + P) w (by omega) (by omega) (by omega) (by omega)
      have HT := hideP T
      have Hr2 := hideP hr2
      clear e1 e2 T hP hr2
      by_cases hc : p < (r + P) * (r + P)
      · have D := hideP (decide_eq_true hc)
        have HC := hideP hc
        clear hc
        go_wp2_with fail
        refine (HT.out _).mono ?_
        rintro e w4 ⟨v4, rfl, r4, h4⟩
        go_wp2_with fail
        refine (less_any _ _ _ _ _ (HRP.out.later (hB.trans h4)) r4).mono ?_
        rw [D.out]
        rintro e w5 ⟨rfl, h5⟩
        go_wp2
        go_roundw
        case rel => exact ⟨r, j, rfl, by rw [← HPP.out], by omega, r0, hr1, by rw [← HPP.out]; exact HC.out, by rw [← HPP.out]; omega, (hB.trans h4).trans h5⟩
        case measure => simp [intOf]; omega
      · have D := hideP (decide_eq_false hc)
        have HC := hideP hc
        clear hc
        go_wp2_with fail
        refine (HT.out _).mono ?_
        rintro e w4 ⟨v4, rfl, r4, h4⟩
        go_wp2_with fail
        refine (less_any _ _ _ _ _ (HRP.out.later (hB.trans h4)) r4).mono ?_
        rw [D.out]
        rintro e w5 ⟨rfl, h5⟩
        go_wp2
        go_roundw
        case rel => exact ⟨r + P, j, rfl, by rw [← HPP.out], by omega, by omega, by have := HC.out; omega, by rw [← HPP.out, Int.add_assoc]; exact Hr2.out, by rw [← HPP.out]; omega, (hB.trans h4).trans h5⟩
        case measure => simp [intOf]; omega
end Go.Proofs.YtlbmkjicbkfmjaaGreat

/- Contracts of fx.Of, Add, Sub, Mul, Div, Root, and of the document's Mul, Div, Root (layer 2). -/
namespace Go.Proofs.YtlbmkjicbkfmjaaGreat
open Go.RowKit
set_option linter.unusedSimpArgs false
set_option linter.unusedVariables false

theorem allB2 (a b : Int) : allB [a, b] = (frB a && frB b) := by simp [allB]
theorem allB1 (a : Int) : allB [a] = frB a := by simp [allB]
/-- Is a product told (P2.1), and which is it? -/
def fmB (a b m : Int) : Bool := mdB a b 16777216 m && frB (mdN a b 16777216 m) && allB [a, b]
def fmN (a b m : Int) : Int := toN (mdN a b 16777216 m) (fmB a b m)
/-- A quotient. -/
def fdB (a b m : Int) : Bool := mdB a 16777216 b m && frB (mdN a 16777216 b m) && allB [a, b]
def fdN (a b m : Int) : Int := toN (mdN a 16777216 b m) (fdB a b m)
/-- A root. -/
def fqB (a m : Int) : Bool := rtB a 16777216 m && frB (rtN a 16777216 m) && allB [a]
def fqN (a m : Int) : Int := toN (rtN a 16777216 m) (fqB a m)
/-- A sum, a difference. -/
def faB (a b : Int) : Bool := frB (a + b) && allB [a, b]
def faN (a b : Int) : Int := toN (a + b) (faB a b)
def fsB (a b : Int) : Bool := frB (a - b) && allB [a, b]
def fsN (a b : Int) : Int := toN (a - b) (fsB a b)

theorem two_cells (w : World) (a b : Int) (t : TypeId) : ∀ k, k < [a, b].length → (w.alloc (.cells #[.int .i64 a, .int .i64 b] t)).cell? ⟨w.heap.size, 0 + k, none⟩ = some (.int .i64 ([a, b].getD k 0)) := by
  intro k hk
  rcases (by simp at hk; omega : k = 0 ∨ k = 1) with rfl | rfl <;> simp [go_sem]
theorem one_cell (w : World) (a : Int) (t : TypeId) : ∀ k, k < [a].length → (w.alloc (.cells #[.int .i64 a] t)).cell? ⟨w.heap.size, 0 + k, none⟩ = some (.int .i64 ([a].getD k 0)) := by
  intro k hk
  obtain rfl : k = 0 := by simp at hk; omega
  simp [go_sem]

theorem fmul_any (a b m : Int) (w : World) :
    Calls Tryz.prog 214 #[.int .i64 a, .int .i64 b, .int .i64 m] w fun e w' => e = .returned (.tuple #[.int .i64 (fmN a b m), .bool (fmB a b m)]) ∧ Bl w w' := by
  unfold fmN fmB
  have M := mulDiv_any a b 16777216 m
  generalize mdN a b 16777216 m = x at *
  generalize mdB a b 16777216 m = xb at *
  have HM := hideP M
  clear M
  go_enter Tryz.func214, Tryz.ntmps214
  go_wp2_with fail
  refine (HM.out _).mono ?_
  rintro e w1 ⟨rfl, h1⟩
  go_wp2_with fail
  refine (told_any x xb _ 0 [a, b] _ (by simp) (two_cells _ _ _ _)).mono ?_
  rintro e w2 ⟨rfl, rfl⟩
  go_wp2
  go_ret2
  exact ⟨rfl, h1.alloc _⟩

theorem fdiv_any (a b m : Int) (w : World) :
    Calls Tryz.prog 212 #[.int .i64 a, .int .i64 b, .int .i64 m] w fun e w' => e = .returned (.tuple #[.int .i64 (fdN a b m), .bool (fdB a b m)]) ∧ Bl w w' := by
  unfold fdN fdB
  have M := mulDiv_any a 16777216 b m
  generalize mdN a 16777216 b m = x at *
  generalize mdB a 16777216 b m = xb at *
  have HM := hideP M
  clear M
  go_enter Tryz.func212, Tryz.ntmps212
  go_wp2_with fail
  refine (HM.out _).mono ?_
  rintro e w1 ⟨rfl, h1⟩
  go_wp2_with fail
  refine (told_any x xb _ 0 [a, b] _ (by simp) (two_cells _ _ _ _)).mono ?_
  rintro e w2 ⟨rfl, rfl⟩
  go_wp2
  go_ret2
  exact ⟨rfl, h1.alloc _⟩

theorem froot_any (a m : Int) (w : World) :
    Calls Tryz.prog 216 #[.int .i64 a, .int .i64 m] w fun e w' => e = .returned (.tuple #[.int .i64 (fqN a m), .bool (fqB a m)]) ∧ Bl w w' := by
  unfold fqN fqB
  have M := root_any a 16777216 m
  generalize rtN a 16777216 m = x at *
  generalize rtB a 16777216 m = xb at *
  have HM := hideP M
  clear M
  go_enter Tryz.func216, Tryz.ntmps216
  go_wp2_with fail
  refine (HM.out _).mono ?_
  rintro e w1 ⟨rfl, h1⟩
  go_wp2_with fail
  refine (told_any x xb _ 0 [a] _ (by simp) (one_cell _ _ _)).mono ?_
  rintro e w2 ⟨rfl, rfl⟩
  go_wp2
  go_ret2
  exact ⟨rfl, h1.alloc _⟩

theorem tup_eq {a b : Int} {p q : Bool} (h : a = b) (k : p = q) : Ending.returned (.tuple #[.int .i64 a, .bool p]) = .returned (.tuple #[.int .i64 b, .bool q]) := by rw [h, k]
theorem wsum (a b x y : Int) (hx : x = wrap64 y) (hy : frB a = true → frB b = true → -9223372036854775808 ≤ y ∧ y ≤ 9223372036854775807) : (frB x && allB [a, b]) = (frB y && allB [a, b]) ∧ toN x (frB x && allB [a, b]) = toN y (frB y && allB [a, b]) := by
  rw [allB2]
  cases ha : frB a
  · simp [toN]
  · cases hb : frB b
    · simp [toN]
    · obtain rfl : x = y := by rw [hx]; exact IntWalk.wrap64_in _ (by have := hy ha hb; omega)
      exact ⟨rfl, rfl⟩

theorem fadd_any (a b : Int) (w : World) :
    Calls Tryz.prog 209 #[.int .i64 a, .int .i64 b] w fun e w' => e = .returned (.tuple #[.int .i64 (faN a b), .bool (faB a b)]) ∧ Bl w w' := by
  have e := wsum a b (wrap64 (a + b)) (a + b) rfl (fun ha hb => by have := frB_iff.1 ha; have := frB_iff.1 hb; omega)
  unfold faN faB
  have HE := hideP e
  clear e
  go_enter Tryz.func209, Tryz.ntmps209
  go_wp2_with fail
  refine (told_any _ true _ 0 [a, b] _ (by simp) (two_cells _ _ _ _)).mono ?_
  rintro e w2 ⟨rfl, rfl⟩
  go_wp2
  go_ret2
  exact ⟨tup_eq HE.out.2 HE.out.1, (Bl.refl _).alloc _⟩

theorem fsub_any (a b : Int) (w : World) :
    Calls Tryz.prog 218 #[.int .i64 a, .int .i64 b] w fun e w' => e = .returned (.tuple #[.int .i64 (fsN a b), .bool (fsB a b)]) ∧ Bl w w' := by
  have e := wsum a b (wrap64 (a - b)) (a - b) rfl (fun ha hb => by have := frB_iff.1 ha; have := frB_iff.1 hb; omega)
  unfold fsN fsB
  have HE := hideP e
  clear e
  go_enter Tryz.func218, Tryz.ntmps218
  go_wp2_with fail
  refine (told_any _ true _ 0 [a, b] _ (by simp) (two_cells _ _ _ _)).mono ?_
  rintro e w2 ⟨rfl, rfl⟩
  go_wp2
  go_ret2
  exact ⟨tup_eq HE.out.2 HE.out.1, (Bl.refl _).alloc _⟩

/-- Is a whole number told? -/
def foB (n : Int) : Bool := decide (-67108864 ≤ n) && decide (n ≤ 67108864)
def foN (n : Int) : Int := toN (n * 16777216) (foB n)
theorem of_val (n : Int) : (mdB n 16777216 1 1 && frB (mdN n 16777216 1 1)) = foB n ∧ toN (mdN n 16777216 1 1) (mdB n 16777216 1 1 && frB (mdN n 16777216 1 1)) = foN n := by
  cases hr : rightB n
  · have x := md_bad n 16777216 1 1 (mdG_bad (.inl hr))
    rw [x.1, x.2]
    have hf : foB n = false := by
      cases h : foB n
      · rfl
      · have : -67108864 ≤ n ∧ n ≤ 67108864 := by simpa [foB] using h
        rw [rightB_eq (by omega)] at hr; cases hr
    unfold foN
    rw [hf]
    exact ⟨rfl, rfl⟩
  · by_cases hp : rightB (n * 16777216) = true
    · have x := md_exact n 16777216 1 (n * 16777216) 1 hr (by decide) (by decide) hp (by decide) (by decide) (by omega)
      rw [x.1, x.2, Bool.true_and]
      have : frB (n * 16777216) = foB n := by
        unfold frB foB
        rw [Bool.eq_iff_iff]; simp; omega
      unfold foN
      rw [this]
      exact ⟨rfl, rfl⟩
    · have hnr := rightB_iff.1 hr
      have hf : foB n = false := by
        cases h : foB n
        · rfl
        · have : -67108864 ≤ n ∧ n ≤ 67108864 := by simpa [foB] using h
          exact absurd (rightB_eq (by omega)) hp
      have hb : mdB n 16777216 1 1 = false := by
        have hbig : ¬ szI n * 16777216 ≤ 4611686018427387903 := by
          intro h
          apply hp
          apply rightB_eq
          unfold szI at h
          split at h <;> omega
        unfold mdB mdC
        have e1 : szI 16777216 = 16777216 := rfl
        have e2 : szI 1 = 1 := rfl
        have hz := outB_zero (szI n * 16777216) 1 (belB n 16777216 1) 1 (by omega)
        rw [e1, e2, Int.ediv_one, Int.emod_one, hz]
        have : rdB (upI (szI n * 16777216) false) = false := by
          unfold rdB upI
          simp
          omega
        rw [this, Bool.and_false]
      unfold foN
      rw [hb, hf]
      exact ⟨rfl, rfl⟩

theorem fof_any (n : Int) (w : World) :
    Calls Tryz.prog 66 #[.int .i64 n] w fun e w' => e = .returned (.tuple #[.int .i64 (foN n), .bool (foB n)]) ∧ Bl w w' := by
  have e := of_val n
  have M := mulDiv_any n 16777216 1 1
  generalize mdN n 16777216 1 1 = x at *
  generalize mdB n 16777216 1 1 = xb at *
  rw [← e.1, ← e.2]
  have HM := hideP M
  clear M e
  go_enter Tryz.func66, Tryz.ntmps66
  go_wp2_with fail
  refine (HM.out _).mono ?_
  rintro e w1 ⟨rfl, h1⟩
  go_wp2_with fail
  refine (told_nil x xb _).mono ?_
  rintro e w2 ⟨rfl, rfl⟩
  go_wp2
  go_ret2
  exact ⟨rfl, h1⟩

theorem refMul_any (a b m : Int) (w : World) :
    Calls Tryz.prog 142 #[.int .i64 a, .int .i64 b, .int .i64 m] w fun e w' => e = .returned (.tuple #[.int .i64 (fmN a b m), .bool (fmB a b m)]) ∧ Bl w w' := by
  unfold fmN fmB
  rw [allB2]
  have M := refMulDiv_any a b 16777216 m
  generalize mdN a b 16777216 m = x at *
  generalize mdB a b 16777216 m = xb at *
  have HM := hideP M
  clear M
  cases ha : frB a
  · go_enter Tryz.func142, Tryz.ntmps142
    go_wp2_with (go_at_call 140; refine (fRefRight_any _ _).mono ?_; rintro e w' ⟨rfl, rfl⟩)
    go_ret2
    exact ⟨tup_eq (by simp [toN]) (by simp), Bl.refl _⟩
  cases hb : frB b
  · go_enter Tryz.func142, Tryz.ntmps142
    go_wp2_with (go_at_call 140; refine (fRefRight_any _ _).mono ?_; rintro e w' ⟨rfl, rfl⟩)
    go_ret2
    exact ⟨tup_eq (by simp [toN]) (by simp), Bl.refl _⟩
  rw [Bool.and_true, Bool.and_true]
  go_enter Tryz.func142, Tryz.ntmps142
  go_wp2_with (go_at_call 140; refine (fRefRight_any _ _).mono ?_; rintro e w' ⟨rfl, rfl⟩)
  refine (HM.out _).mono ?_
  rintro e w1 ⟨rfl, h1⟩
  go_wp2_with fail
  refine (refTold_any x xb _).mono ?_
  rintro e w2 ⟨rfl, rfl⟩
  go_wp2
  go_ret2
  exact ⟨rfl, h1⟩

theorem refDiv_any (a b m : Int) (w : World) :
    Calls Tryz.prog 143 #[.int .i64 a, .int .i64 b, .int .i64 m] w fun e w' => e = .returned (.tuple #[.int .i64 (fdN a b m), .bool (fdB a b m)]) ∧ Bl w w' := by
  unfold fdN fdB
  rw [allB2]
  have M := refMulDiv_any a 16777216 b m
  generalize mdN a 16777216 b m = x at *
  generalize mdB a 16777216 b m = xb at *
  have HM := hideP M
  clear M
  cases ha : frB a
  · go_enter Tryz.func143, Tryz.ntmps143
    go_wp2_with (go_at_call 140; refine (fRefRight_any _ _).mono ?_; rintro e w' ⟨rfl, rfl⟩)
    go_ret2
    exact ⟨tup_eq (by simp [toN]) (by simp), Bl.refl _⟩
  cases hb : frB b
  · go_enter Tryz.func143, Tryz.ntmps143
    go_wp2_with (go_at_call 140; refine (fRefRight_any _ _).mono ?_; rintro e w' ⟨rfl, rfl⟩)
    go_ret2
    exact ⟨tup_eq (by simp [toN]) (by simp), Bl.refl _⟩
  rw [Bool.and_true, Bool.and_true]
  go_enter Tryz.func143, Tryz.ntmps143
  go_wp2_with (go_at_call 140; refine (fRefRight_any _ _).mono ?_; rintro e w' ⟨rfl, rfl⟩)
  refine (HM.out _).mono ?_
  rintro e w1 ⟨rfl, h1⟩
  go_wp2_with fail
  refine (refTold_any x xb _).mono ?_
  rintro e w2 ⟨rfl, rfl⟩
  go_wp2
  go_ret2
  exact ⟨rfl, h1⟩

theorem fRefRoot_any (a : Int) (w : World) (ha : rightB a = true) :
    Calls Tryz.prog 144 #[.int .i64 a] w fun e w' =>
      e = .returned (.tuple #[.int .i64 (rtF (szI a * 16777216)), .bool (!decide (rtF (szI a * 16777216) * rtF (szI a * 16777216) < szI a * 16777216))]) ∧ Bl w w' := by
  have R := fun w => refRoot_any a 16777216 w ha (by decide)
  rw [show szI 16777216 = 16777216 from rfl] at R
  generalize szI a * 16777216 = p at *
  generalize rtF p = r at *
  generalize hd : (!decide (r * r < p)) = d at *
  have HR := hideP R
  clear R hd
  go_enter Tryz.func144, Tryz.ntmps144
  go_wp2_with fail
  refine (HR.out _).mono ?_
  rintro e w1 ⟨rfl, h1⟩
  go_wp2
  go_ret2
  exact ⟨rfl, h1⟩
end Go.Proofs.YtlbmkjicbkfmjaaGreat

/- The walks of WideRoots, WideNearest. -/
namespace Go.Proofs.YtlbmkjicbkfmjaaGreat
open Go.RowKit
set_option linter.unusedSimpArgs false
set_option linter.unusedVariables false

theorem upI_t (c : Int) : upI c true = c + 1 := rfl
theorem upI_f (c : Int) : upI c false = c := rfl

/-- The three roots of a product that is not below 0. -/
theorem root_vals (a b : Int) (ha : rightB a = true) (hb : rightB b = true) (hs : ¬ a * b < 0) :
    ∃ r t : Int, rtF (szI a * szI b) = r ∧ 0 ≤ r ∧ r ≤ 4611686018427387903 ∧ 0 ≤ t ∧ szI a * szI b = r * r + t ∧ (0 < t → r + 1 ≤ 4611686018427387903) ∧
      (rtN a b 1 = r ∧ rtB a b 1 = true) ∧ (rtN a b 2 = upI r (decide (0 < t)) ∧ rtB a b 2 = true) ∧ (rtN a b 0 = upI r (decide (r < t)) ∧ rtB a b 0 = true) := by
  have sa := szI_right ha
  have sb := szI_right hb
  have hp := mul_hi sa sb
  have hd : decide (a * b < 0) = false := decide_eq_false hs
  have g : ∀ m, modeB m = true → rtG a b m = true := fun m hm => by unfold rtG; rw [ha, hb, hd, hm]; rfl
  have g1 := g 1 (by decide)
  have g2 := g 2 (by decide)
  have g0 := g 0 (by decide)
  have hr := rtF_spec (szI a * szI b) hp.1
  have hle := rtF_le (szI a * szI b) 4611686018427387903 hp.1 (by omega) (by omega)
  unfold rtN rtB rtC
  rw [g1, g2, g0]
  generalize szI a * szI b = p at *
  generalize rtF p = r at *
  obtain ⟨r0, r1, r2⟩ := hr
  have hup : 0 < p - r * r → r + 1 ≤ 4611686018427387903 := by
    intro h
    rcases Int.lt_or_le r 4611686018427387903 with k | k
    · omega
    · have e : r = 4611686018427387903 := by omega
      subst e
      omega
  have out0 : outB r (p - r * r) (2 * r + 1) false 0 = decide (r < p - r * r) := by
    simp only [outB]
    rw [if_neg (by decide), if_neg (by decide), decide_eq_false (show ¬ 2 * (p - r * r) = 2 * r + 1 by omega), Bool.false_and, Bool.or_false]
    rw [Bool.eq_iff_iff, decide_eq_true_iff, decide_eq_true_iff]
    omega
  have out1 : outB r (p - r * r) (2 * r + 1) false 1 = false := by simp [outB]
  have out2 : outB r (p - r * r) (2 * r + 1) false 2 = decide (0 < p - r * r) := by simp [outB]
  rw [out0, out1, out2]
  refine ⟨r, p - r * r, rfl, r0, hle, by omega, by omega, hup, ?_, ?_, ?_⟩
  · rw [upI_f]
    refine ⟨by rw [if_pos rfl]; unfold rdN; rw [if_neg (by omega)]; rfl, ?_⟩
    unfold rdB; simp; omega
  · by_cases h : 0 < p - r * r
    · rw [decide_eq_true h, upI_t]
      have := hup h
      refine ⟨by rw [if_pos rfl]; unfold rdN; rw [if_neg (by omega)]; rfl, ?_⟩
      unfold rdB; simp; omega
    · rw [decide_eq_false h, upI_f]
      refine ⟨by rw [if_pos rfl]; unfold rdN; rw [if_neg (by omega)]; rfl, ?_⟩
      unfold rdB; simp; omega
  · by_cases h : r < p - r * r
    · rw [decide_eq_true h, upI_t]
      have := hup (by omega)
      refine ⟨by rw [if_pos rfl]; unfold rdN; rw [if_neg (by omega)]; rfl, ?_⟩
      unfold rdB; simp; omega
    · rw [decide_eq_false h, upI_f]
      refine ⟨by rw [if_pos rfl]; unfold rdN; rw [if_neg (by omega)]; rfl, ?_⟩
      unfold rdB; simp; omega
theorem root_none (a b m : Int) (h : rtG a b m = false) : rtN a b m = 0 ∧ rtB a b m = false := by
  unfold rtN rtB; rw [h]; exact ⟨rfl, rfl⟩
theorem rtG_bad {a b m : Int} (h : rightB a = false ∨ rightB b = false ∨ a * b < 0) : rtG a b m = false := by
  unfold rtG
  rcases h with h | h | h
  · rw [h]; simp
  · rw [h]; simp
  · rw [decide_eq_true h]; simp
/-- How the law's first test goes. -/
theorem root_ways (a b : Int) : (rightB a = false) ∨ (rightB a = true ∧ rightB b = false) ∨ (rightB a = true ∧ rightB b = true ∧ 0 < a ∧ b < 0) ∨ (rightB a = true ∧ rightB b = true ∧ a < 0 ∧ 0 < b) ∨
    (rightB a = true ∧ rightB b = true ∧ ((0 < a ∧ 0 ≤ b) ∨ (a < 0 ∧ b ≤ 0) ∨ (a ≤ 0 ∧ 0 ≤ a))) := by
  cases ha : rightB a
  · exact .inl rfl
  · cases hb : rightB b
    · exact .inr (.inl ⟨rfl, rfl⟩)
    · rcases (by omega : (0 < a ∧ b < 0) ∨ (a < 0 ∧ 0 < b) ∨ ((0 < a ∧ 0 ≤ b) ∨ (a < 0 ∧ b ≤ 0) ∨ (a ≤ 0 ∧ 0 ≤ a))) with h | h | h
      · exact .inr (.inr (.inl ⟨rfl, rfl, h.1, h.2⟩))
      · exact .inr (.inr (.inr (.inl ⟨rfl, rfl, h.1, h.2⟩)))
      · exact .inr (.inr (.inr (.inr ⟨rfl, rfl, h⟩)))
theorem nn_of_way {a b : Int} (h : (0 < a ∧ 0 ≤ b) ∨ (a < 0 ∧ b ≤ 0) ∨ (a ≤ 0 ∧ 0 ≤ a)) : ¬ a * b < 0 := by
  rcases h with h | h | h
  · have := Int.mul_nonneg (show 0 ≤ a by omega) h.2; omega
  · have := Int.mul_nonneg_of_nonpos_of_nonpos (show a ≤ 0 by omega) h.2; omega
  · rw [show a = 0 by omega, Int.zero_mul]; omega

end Go.Proofs.YtlbmkjicbkfmjaaGreat

/- The walks of WideSigns, WideModes. -/
namespace Go.Proofs.YtlbmkjicbkfmjaaGreat
open Go.RowKit
set_option linter.unusedSimpArgs false
set_option linter.unusedVariables false

theorem rdN_neg (c : Int) (b : Bool) : rdN c b = -(rdN c (!b)) := by
  unfold rdN; cases b <;> simp <;> split <;> omega
theorem rdN_zero (b : Bool) : rdN 0 b = 0 := by unfold rdN; cases b <;> simp

/-- With the sign of the product turned, and another mode that goes the other way. -/
theorem md_turn (a b c a' b' m m' : Int) (ha : szI a' = szI a) (hb : szI b' = szI b) (hab : a' * b' = -(a * b)) (hg : mdG a' b' c m' = mdG a b c m)
    (hm : (m = 1 ∧ m' = 2) ∨ (m = 0 ∧ m' = 0)) : mdN a b c m = -(mdN a' b' c m') ∧ mdB a b c m = mdB a' b' c m' := by
  by_cases hz : a * b * c = 0
  · by_cases hc : c = 0
    · have e1 : mdG a b c m = false := by unfold mdG; simp [hc]
      rw [e1] at hg
      have x := md_bad _ _ _ _ e1
      have y := md_bad _ _ _ _ hg
      rw [x.1, x.2, y.1, y.2]
      exact ⟨rfl, rfl⟩
    · have h0 : a * b = 0 := by
        rcases Int.mul_eq_zero.1 hz with h | h
        · exact h
        · exact absurd h hc
      have hd0 : 0 < szI c := by unfold szI; split <;> omega
      have p0 : szI a * szI b = 0 := by rw [szI_mul, h0]; rfl
      have c0 : ∀ bl mm, upI (0 / szI c) (outB (0 / szI c) (0 % szI c) (szI c) bl mm) = 0 := by
        intro bl mm
        rw [Int.zero_ediv, Int.zero_emod, outB_zero _ _ _ _ hd0]; rfl
      unfold mdN mdB mdC
      rw [hg, ha, hb, p0, c0, c0, rdN_zero, rdN_zero]
      exact ⟨by split <;> rfl, rfl⟩
  · have hbl : belB a' b' c = !belB a b c := by
      unfold belB
      rw [hab, Int.neg_mul]
      rcases (by omega : a * b * c < 0 ∨ 0 < a * b * c) with h | h
      · rw [decide_eq_true h, decide_eq_false (by omega)]; rfl
      · rw [decide_eq_false (by omega : ¬ a * b * c < 0), decide_eq_true (by omega)]; rfl
    have hout : ∀ q r d, outB q r d (!belB a b c) m' = outB q r d (belB a b c) m := by
      intro q r d
      rcases hm with ⟨rfl, rfl⟩ | ⟨rfl, rfl⟩
      · simp [outB]
      · simp [outB]
    have hC : mdC a' b' c m' = mdC a b c m := by
      unfold mdC
      rw [ha, hb, hbl, hout]
    unfold mdN mdB
    rw [hg, hC, hbl]
    refine ⟨?_, rfl⟩
    split
    · exact rdN_neg _ _
    · rfl
theorem mdN_bd (a b c m : Int) (hc : 0 ≤ mdC a b c m) : -4611686018427387903 ≤ mdN a b c m ∧ mdN a b c m ≤ 4611686018427387903 := by
  unfold mdN rdN
  split
  · split
    · omega
    · split <;> omega
  · omega
theorem mdC_nn (a b c m : Int) : 0 ≤ mdC a b c m := by
  have h1 := Int.mul_nonneg (szI_nn a) (szI_nn b)
  have h2 := Int.ediv_nonneg h1 (szI_nn c)
  have := upI_le (szI a * szI b / szI c) (outB (szI a * szI b / szI c) (szI a * szI b % szI c) (szI c) (belB a b c) m)
  unfold mdC
  omega
theorem mdG_neg1 (a b c m m' : Int) (hm : modeB m = modeB m') : mdG (-a) b c m' = mdG a b c m := by unfold mdG; rw [right_neg, hm]
theorem mdG_neg2 (a b c m m' : Int) (hm : modeB m = modeB m') : mdG a (-b) c m' = mdG a b c m := by unfold mdG; rw [right_neg, hm]

end Go.Proofs.YtlbmkjicbkfmjaaGreat

/- The walk of WideModes. -/
namespace Go.Proofs.YtlbmkjicbkfmjaaGreat
open Go.RowKit
set_option linter.unusedSimpArgs false
set_option linter.unusedVariables false

theorem rdN_of {c : Int} (b : Bool) (h : rdB c = true) : rdN c b = if b then -c else c := by
  unfold rdB at h
  unfold rdN
  rw [if_neg (by have := of_decide_eq_true h; omega)]
theorem out_down (q r d : Int) (b : Bool) : outB q r d b 1 = (b && decide (0 < r)) := by simp [outB]
theorem out_up (q r d : Int) (b : Bool) : outB q r d b 2 = (!b && decide (0 < r)) := by simp [outB]

theorem md_order (a b c : Int) (h1 : mdB a b c 1 = true) (h0 : mdB a b c 0 = true) (h2 : mdB a b c 2 = true) :
    mdN a b c 1 ≤ mdN a b c 0 ∧ mdN a b c 0 ≤ mdN a b c 2 ∧ mdN a b c 2 ≤ mdN a b c 1 + 1 := by
  unfold mdB at h1 h0 h2
  rw [Bool.and_eq_true] at h1 h0 h2
  obtain ⟨g1, k1⟩ := h1
  obtain ⟨g0, k0⟩ := h0
  obtain ⟨g2, k2⟩ := h2
  unfold mdN
  rw [g1, g0, g2, if_pos rfl, if_pos rfl, if_pos rfl, rdN_of _ k1, rdN_of _ k0, rdN_of _ k2]
  have hz : c ≠ 0 := by
    intro e
    rw [e] at g0
    simp [mdG] at g0
  have hd : 0 < szI c := by unfold szI; split <;> omega
  have hr : 0 ≤ szI a * szI b % szI c := Int.emod_nonneg _ (by omega)
  clear k1 k0 k2 g1 g0 g2
  unfold mdC
  rw [out_down, out_up]
  have ho : szI a * szI b % szI c = 0 → outB (szI a * szI b / szI c) (szI a * szI b % szI c) (szI c) (belB a b c) 0 = false := by
    intro h
    rw [h]; exact outB_zero _ _ _ _ hd
  generalize outB (szI a * szI b / szI c) (szI a * szI b % szI c) (szI c) (belB a b c) 0 = o at *
  generalize belB a b c = bl at *
  generalize szI a * szI b / szI c = q at *
  generalize szI a * szI b % szI c = r at *
  by_cases h : 0 < r
  · rw [decide_eq_true h]
    cases bl <;> cases o <;> simp [upI] <;> omega
  · rw [decide_eq_false h, ho (by omega)]
    cases bl <;> simp [upI] <;> omega

end Go.Proofs.YtlbmkjicbkfmjaaGreat

/- What a product, divided, and rounded, is, by the number itself (a divisor above 0). -/
namespace Go.Proofs.YtlbmkjicbkfmjaaGreat
open Go.RowKit
set_option linter.unusedSimpArgs false
set_option linter.unusedVariables false

/-- x by c, to the nearest; of two to the even one. -/
def evn (x c : Int) : Int := if 2 * (x % c) < c then x / c else if c < 2 * (x % c) then x / c + 1 else x / c + x / c % 2
/-- x by c, rounded so. -/
def rnd (x c m : Int) : Int := if m = 1 then x / c else if m = 2 then -(-x / c) else evn x c
theorem rnd_down (x c : Int) : rnd x c 1 = x / c := rfl
theorem rnd_up (x c : Int) : rnd x c 2 = -(-x / c) := rfl
theorem rnd_even (x c : Int) : rnd x c 0 = evn x c := rfl

theorem mode_cases {m : Int} (h : modeB m = true) : m = 0 ∨ m = 1 ∨ m = 2 := by
  simp [modeB] at h; omega
theorem mdG_mode {a b c m : Int} (h : mdG a b c m = true) : modeB m = true := by
  unfold mdG at h; simp only [Bool.and_eq_true] at h; exact h.2
theorem mdB_G {a b c m : Int} (h : mdB a b c m = true) : mdG a b c m = true := by
  unfold mdB at h; simp only [Bool.and_eq_true] at h; exact h.1

theorem mdC_round (a b c m : Int) (hc : 0 < c) (hm : m = 0 ∨ m = 1 ∨ m = 2) : (if belB a b c = true then -(mdC a b c m) else mdC a b c m) = rnd (a * b) c m := by
  unfold mdC
  have hsc : szI c = c := by unfold szI; rw [if_neg (by omega)]
  have hbel : belB a b c = decide (a * b < 0) := by
    unfold belB
    rcases (by omega : a * b < 0 ∨ a * b = 0 ∨ 0 < a * b) with h | h | h
    · have := Int.mul_neg_of_neg_of_pos h hc; rw [decide_eq_true this, decide_eq_true h]
    · rw [h]; simp
    · have := Int.mul_pos h hc; rw [decide_eq_false (by omega), decide_eq_false (by omega)]
  rw [szI_mul, hsc, hbel]
  generalize a * b = x
  have e1 := Int.mul_ediv_add_emod (szI x) c
  have e2 := Int.emod_nonneg (szI x) (show c ≠ 0 by omega)
  have e3 := Int.emod_lt_of_pos (szI x) hc
  generalize szI x / c = Q at *
  generalize szI x % c = R at *
  by_cases hx : x < 0
  · have hs : szI x = -x := by unfold szI; rw [if_pos hx]
    rw [decide_eq_true hx, if_pos rfl]
    by_cases hR : R = 0
    · subst hR
      have hxc := (Int.ediv_emod_unique hc (a := x) (q := -Q) (r := 0)).2 ⟨by rw [Int.mul_neg]; omega, by omega, hc⟩
      have hnc := (Int.ediv_emod_unique hc (a := -x) (q := Q) (r := 0)).2 ⟨by omega, by omega, hc⟩
      rw [outB_zero _ _ _ _ hc]
      rcases hm with rfl | rfl | rfl
      · rw [rnd_even]; unfold evn; rw [hxc.1, hxc.2, if_pos (by omega)]; rfl
      · rw [rnd_down, hxc.1]; rfl
      · rw [rnd_up, hnc.1]; rfl
    · have hxc := (Int.ediv_emod_unique hc (a := x) (q := -Q - 1) (r := c - R)).2 ⟨by rw [Int.mul_sub, Int.mul_neg, Int.mul_one]; omega, by omega, by omega⟩
      have hnc := (Int.ediv_emod_unique hc (a := -x) (q := Q) (r := R)).2 ⟨by omega, by omega, e3⟩
      rcases hm with rfl | rfl | rfl
      · rw [rnd_even]; unfold evn; rw [hxc.1, hxc.2]
        have ho : outB Q R c true 0 = (decide (c < 2 * R) || (decide (2 * R = c) && decide (Q % 2 = 1))) := by simp [outB]
        rw [ho]
        rcases (by omega : 2 * R < c ∨ 2 * R = c ∨ c < 2 * R) with k | k | k
        · rw [decide_eq_false (by omega), decide_eq_false (by omega), if_neg (by omega), if_pos (by omega)]; simp [upI]
        · rw [decide_eq_false (by omega), decide_eq_true k, if_neg (by omega), if_neg (by omega)]
          by_cases o : Q % 2 = 1
          · rw [decide_eq_true o]; simp [upI]; omega
          · rw [decide_eq_false o]; simp [upI]; omega
        · rw [decide_eq_true k, if_pos (by omega)]; simp [upI]; omega
      · rw [out_down, rnd_down, hxc.1, decide_eq_true (show 0 < R by omega)]; simp [upI]; omega
      · rw [out_up, rnd_up, hnc.1]; simp [upI]
  · have hs : szI x = x := by unfold szI; rw [if_neg hx]
    rw [decide_eq_false hx, if_neg (by simp)]
    have hxc := (Int.ediv_emod_unique hc (a := x) (q := Q) (r := R)).2 ⟨by omega, by omega, e3⟩
    by_cases hR : R = 0
    · subst hR
      have hnc := (Int.ediv_emod_unique hc (a := -x) (q := -Q) (r := 0)).2 ⟨by rw [Int.mul_neg]; omega, by omega, hc⟩
      rw [outB_zero _ _ _ _ hc]
      rcases hm with rfl | rfl | rfl
      · rw [rnd_even]; unfold evn; rw [hxc.1, hxc.2, if_pos (by omega)]; rfl
      · rw [rnd_down, hxc.1]; rfl
      · rw [rnd_up, hnc.1]; simp [upI]
    · have hnc := (Int.ediv_emod_unique hc (a := -x) (q := -Q - 1) (r := c - R)).2 ⟨by rw [Int.mul_sub, Int.mul_neg, Int.mul_one]; omega, by omega, by omega⟩
      rcases hm with rfl | rfl | rfl
      · rw [rnd_even]; unfold evn; rw [hxc.1, hxc.2]
        have ho : outB Q R c false 0 = (decide (c < 2 * R) || (decide (2 * R = c) && decide (Q % 2 = 1))) := by simp [outB]
        rw [ho]
        rcases (by omega : 2 * R < c ∨ 2 * R = c ∨ c < 2 * R) with k | k | k
        · rw [decide_eq_false (by omega), decide_eq_false (by omega), if_pos (by omega)]; simp [upI]
        · rw [decide_eq_false (by omega), decide_eq_true k, if_neg (by omega), if_neg (by omega)]
          by_cases o : Q % 2 = 1
          · rw [decide_eq_true o]; simp [upI]; omega
          · rw [decide_eq_false o]; simp [upI]; omega
        · rw [decide_eq_true k, if_neg (by omega), if_pos (by omega)]; simp [upI]
      · rw [out_down, rnd_down, hxc.1]; simp [upI]
      · rw [out_up, rnd_up, hnc.1, decide_eq_true (show 0 < R by omega)]; simp [upI]; omega

theorem md_round (a b c m : Int) (hc : 0 < c) (hb : mdB a b c m = true) : mdN a b c m = rnd (a * b) c m := by
  have hg := mdB_G hb
  have hm := mode_cases (mdG_mode hg)
  have hr : rdB (mdC a b c m) = true := by unfold mdB at hb; simp only [Bool.and_eq_true] at hb; exact hb.2
  unfold mdN
  rw [hg, if_pos rfl, rdN_of _ hr]
  exact mdC_round a b c m hc hm

/-- Rounded, the lesser one is not the greater one. -/
theorem rnd_mono (x y c m : Int) (hc : 0 < c) (h : x ≤ y) : rnd x c m ≤ rnd y c m := by
  have hd := Int.ediv_le_ediv hc h
  unfold rnd
  split
  · exact hd
  · split
    · have := Int.ediv_le_ediv hc (show -y ≤ -x by omega); omega
    · unfold evn
      have a1 := Int.mul_ediv_add_emod x c
      have a2 := Int.emod_nonneg x (show c ≠ 0 by omega)
      have a3 := Int.emod_lt_of_pos x hc
      have b1 := Int.mul_ediv_add_emod y c
      have b2 := Int.emod_nonneg y (show c ≠ 0 by omega)
      have b3 := Int.emod_lt_of_pos y hc
      rcases Int.lt_or_eq_of_le hd with k | k
      · split <;> split <;> (try split) <;> (try split) <;> omega
      · rw [k] at a1 ⊢
        split <;> split <;> (try split) <;> (try split) <;> omega
end Go.Proofs.YtlbmkjicbkfmjaaGreat

/- What fx tells (layer 2), by the numbers themselves: orders, bounds, roots. -/
namespace Go.Proofs.YtlbmkjicbkfmjaaGreat
open Go.RowKit
set_option linter.unusedSimpArgs false
set_option linter.unusedVariables false

theorem fq_bad (a m : Int) (h : frB a = false ∨ a < 0) : fqN a m = 0 ∧ fqB a m = false := by
  have hb : fqB a m = false := by
    unfold fqB
    rcases h with h | h
    · rw [allB1, h, Bool.and_false]
    · have hg : rtG a 16777216 m = false := rtG_bad (.inr (.inr (by omega)))
      rw [(root_none a 16777216 m hg).2]; rfl
  exact ⟨by unfold fqN; rw [hb]; rfl, hb⟩
theorem sq_small (r t a : Int) (h0 : 0 ≤ r) (ht : 0 ≤ t) (ha : a ≤ 1125899906842624) (h : a * 16777216 = r * r + t) : r ≤ 1000000000000 := by
  rcases Int.lt_or_le 1000000000000 r with k | k
  · have := Int.mul_le_mul (Int.le_of_lt k) (Int.le_of_lt k) (by omega) h0
    omega
  · exact k
theorem fq_vals (a : Int) (ha : frB a = true) (h0 : 0 ≤ a) : ∃ r t : Int, rtF (szI a * 16777216) = r ∧ 0 ≤ r ∧ r ≤ 1000000000000 ∧ 0 ≤ t ∧ szI a * 16777216 = r * r + t ∧ a * 16777216 = r * r + t ∧ t ≤ 2 * r ∧
    (fqN a 1 = r ∧ fqB a 1 = true) ∧ (fqN a 2 = upI r (decide (0 < t)) ∧ fqB a 2 = true) ∧ (fqN a 0 = upI r (decide (r < t)) ∧ fqB a 0 = true) := by
  obtain ⟨b0, b1⟩ := frB_iff.1 ha
  obtain ⟨r, t, er, r0, r1, t0, ep, hup, x1, x2, x0⟩ := root_vals a 16777216 (frB_right ha) (by decide) (by omega)
  have hs : szI a = a := by unfold szI; rw [if_neg (by omega)]
  have hU : szI 16777216 = 16777216 := rfl
  rw [hU] at er ep
  have ea : a * 16777216 = r * r + t := by rw [← ep, hs]
  have hr := sq_small r t a r0 t0 b1 ea
  have ht2 : t ≤ 2 * r := by
    have := (rtF_spec (szI a * 16777216) (by rw [hs]; omega)).2.2
    rw [er, ep, Int.add_mul, Int.mul_add] at this
    omega
  have hall : allB [a] = true := by rw [allB1, ha]
  have fin : ∀ m x, rtN a 16777216 m = x → rtB a 16777216 m = true → 0 ≤ x → x ≤ 1000000000001 → fqN a m = x ∧ fqB a m = true := by
    intro m x e1 e2 g0 g1
    have hb : fqB a m = true := by unfold fqB; rw [e1, e2, hall, frB_eq (by omega)]; rfl
    exact ⟨by unfold fqN; rw [hb, e1]; rfl, hb⟩
  have u : ∀ o, 0 ≤ upI r o ∧ upI r o ≤ 1000000000001 := fun o => by cases o <;> simp [upI] <;> omega
  exact ⟨r, t, er, r0, hr, t0, ep, ea, ht2, fin 1 r x1.1 x1.2 r0 (by omega), fin 2 _ x2.1 x2.2 (u _).1 (u _).2, fin 0 _ x0.1 x0.2 (u _).1 (u _).2⟩

theorem unit_exact (a m : Int) (ha : frB a = true) (hm : modeB m = true) : (fmN a 16777216 m = a ∧ fmB a 16777216 m = true) ∧ (fdN a 16777216 m = a ∧ fdB a 16777216 m = true) := by
  have x := md_exact a 16777216 16777216 a m (frB_right ha) (by decide) (by decide) (frB_right ha) (by decide) hm rfl
  have hall : allB [a, 16777216] = true := by rw [allB2, ha]; decide
  have h1 : fmB a 16777216 m = true := by unfold fmB; rw [x.1, x.2, ha, hall]; rfl
  have h2 : fdB a 16777216 m = true := by unfold fdB; rw [x.1, x.2, ha, hall]; rfl
  exact ⟨⟨by unfold fmN; rw [h1, x.1]; rfl, h1⟩, ⟨by unfold fdN; rw [h2, x.1]; rfl, h2⟩⟩

theorem fmB_md {a b m : Int} (h : fmB a b m = true) : mdB a b 16777216 m = true ∧ fmN a b m = mdN a b 16777216 m := by
  have := h
  unfold fmB at this
  simp only [Bool.and_eq_true] at this
  exact ⟨this.1.1, by unfold fmN; rw [h]; rfl⟩
theorem fdB_md {a b m : Int} (h : fdB a b m = true) : mdB a 16777216 b m = true ∧ fdN a b m = mdN a 16777216 b m := by
  have := h
  unfold fdB at this
  simp only [Bool.and_eq_true] at this
  exact ⟨this.1.1, by unfold fdN; rw [h]; rfl⟩
theorem fqB_ok {a m : Int} (h : fqB a m = true) : frB a = true ∧ 0 ≤ a ∧ modeB m = true := by
  unfold fqB at h
  simp only [Bool.and_eq_true, allB1] at h
  refine ⟨h.2, ?_, ?_⟩
  · rcases Int.lt_or_le a 0 with k | k
    · have hb := (fq_bad a m (.inr k)).2
      unfold fqB at hb
      rw [h.1.1, h.1.2, allB1, h.2] at hb
      cases hb
    · exact k
  · have := h.1.1
    unfold rtB rtG at this
    simp only [Bool.and_eq_true] at this
    exact this.1.2
theorem fm_order (a b : Int) (h1 : fmB a b 1 = true) (h0 : fmB a b 0 = true) (h2 : fmB a b 2 = true) : fmN a b 1 ≤ fmN a b 0 ∧ fmN a b 0 ≤ fmN a b 2 ∧ fmN a b 2 ≤ fmN a b 1 + 1 := by
  have x1 := fmB_md h1
  have x0 := fmB_md h0
  have x2 := fmB_md h2
  rw [x1.2, x0.2, x2.2]
  exact md_order a b 16777216 x1.1 x0.1 x2.1
theorem fd_order (a b : Int) (h1 : fdB a b 1 = true) (h0 : fdB a b 0 = true) (h2 : fdB a b 2 = true) : fdN a b 1 ≤ fdN a b 0 ∧ fdN a b 0 ≤ fdN a b 2 ∧ fdN a b 2 ≤ fdN a b 1 + 1 := by
  have x1 := fdB_md h1
  have x0 := fdB_md h0
  have x2 := fdB_md h2
  rw [x1.2, x0.2, x2.2]
  exact md_order a 16777216 b x1.1 x0.1 x2.1
theorem fq_order (a : Int) (h1 : fqB a 1 = true) (h0 : fqB a 0 = true) (h2 : fqB a 2 = true) : fqN a 1 ≤ fqN a 0 ∧ fqN a 0 ≤ fqN a 2 ∧ fqN a 2 ≤ fqN a 1 + 1 := by
  have ok := fqB_ok h1
  obtain ⟨r, t, er, r0, r1, t0, ep, ea, ht2, x1, x2, x0⟩ := fq_vals a ok.1 ok.2.1
  rw [x1.1, x2.1, x0.1]
  by_cases k : 0 < t
  · rw [decide_eq_true k]
    cases decide (r < t) <;> simp [upI] <;> omega
  · rw [decide_eq_false k, decide_eq_false (show ¬ r < t by omega)]
    simp [upI]; omega
theorem fmN_bd (a b m : Int) : -1125899906842624 ≤ fmN a b m ∧ fmN a b m ≤ 1125899906842624 := toN_bd _ _ fun h => by
  unfold fmB at h; simp only [Bool.and_eq_true] at h; exact h.1.2
theorem fdN_bd (a b m : Int) : -1125899906842624 ≤ fdN a b m ∧ fdN a b m ≤ 1125899906842624 := toN_bd _ _ fun h => by
  unfold fdB at h; simp only [Bool.and_eq_true] at h; exact h.1.2
theorem fqN_bd (a m : Int) : -1125899906842624 ≤ fqN a m ∧ fqN a m ≤ 1125899906842624 := toN_bd _ _ fun h => by
  unfold fqB at h; simp only [Bool.and_eq_true] at h; exact h.1.2
theorem faN_bd (a b : Int) : -1125899906842624 ≤ faN a b ∧ faN a b ≤ 1125899906842624 := toN_bd _ _ fun h => by
  unfold faB at h; simp only [Bool.and_eq_true] at h; exact h.1

theorem fa_mono (a b c : Int) (h : a ≤ b) (h1 : faB a c = true) (h2 : faB b c = true) : faN a c ≤ faN b c := by
  unfold faN; rw [h1, h2, toN_t, toN_t]; omega
theorem fm_mono (a b c m : Int) (h : a ≤ b) (hc : 0 ≤ c) (h1 : fmB a c m = true) (h2 : fmB b c m = true) : fmN a c m ≤ fmN b c m := by
  have x1 := fmB_md h1
  have x2 := fmB_md h2
  rw [x1.2, x2.2, md_round _ _ _ _ (by decide) x1.1, md_round _ _ _ _ (by decide) x2.1]
  exact rnd_mono _ _ _ _ (by decide) (Int.mul_le_mul_of_nonneg_right h hc)
theorem fd_mono (a b c m : Int) (h : a ≤ b) (hc : 0 ≤ c) (h1 : fdB a c m = true) (h2 : fdB b c m = true) : fdN a c m ≤ fdN b c m := by
  have x1 := fdB_md h1
  have x2 := fdB_md h2
  have hz : 0 < c := by
    rcases Int.lt_or_eq_of_le hc with k | k
    · exact k
    · have := mdB_G x1.1
      rw [← k] at this
      simp [mdG] at this
  rw [x1.2, x2.2, md_round _ _ _ _ hz x1.1, md_round _ _ _ _ hz x2.1]
  exact rnd_mono _ _ _ _ hz (by omega)
theorem rtF_mono (p q : Int) (h0 : 0 ≤ p) (h : p ≤ q) : rtF p ≤ rtF q := by
  have a := rtF_spec p h0
  have b := rtF_spec q (by omega)
  rcases Int.lt_or_le (rtF q) (rtF p) with k | k
  · have := Int.mul_le_mul (show rtF q + 1 ≤ rtF p by omega) (show rtF q + 1 ≤ rtF p by omega) (by omega) (by omega)
    omega
  · exact k
theorem fq_mono (a b m : Int) (h : a ≤ b) (h1 : fqB a m = true) (h2 : fqB b m = true) : fqN a m ≤ fqN b m := by
  have k1 := fqB_ok h1
  have k2 := fqB_ok h2
  obtain ⟨r, t, er, r0, r1, t0, ep, ea, ht2, x1, x2, x0⟩ := fq_vals a k1.1 k1.2.1
  obtain ⟨s, u, es, s0, s1, u0, eq, eb, hu2, y1, y2, y0⟩ := fq_vals b k2.1 k2.2.1
  have hrs : r ≤ s := by
    have := rtF_mono (szI a * 16777216) (szI b * 16777216) (by rw [ep, ← ea]; omega) (by rw [ep, eq, ← ea, ← eb]; omega)
    rw [er, es] at this
    exact this
  have hle : r * r + t ≤ s * s + u := by rw [← ea, ← eb]; omega
  have key : ∀ (o p : Bool), (r = s → o = true → p = true) → upI r o ≤ upI s p := by
    intro o p hk
    rcases Int.lt_or_eq_of_le hrs with l | l
    · cases o <;> cases p <;> simp [upI] <;> omega
    · subst l
      cases o <;> cases p <;> simp [upI] <;> first | omega | (exact absurd (hk rfl rfl) (by simp))
  rcases mode_cases k1.2.2 with rfl | rfl | rfl
  · rw [x0.1, y0.1]
    refine key _ _ ?_
    intro e o
    subst e
    have := of_decide_eq_true o
    exact decide_eq_true (by omega)
  · rw [x1.1, y1.1]; exact hrs
  · rw [x2.1, y2.1]
    refine key _ _ ?_
    intro e o
    subst e
    have := of_decide_eq_true o
    exact decide_eq_true (by omega)

end Go.Proofs.YtlbmkjicbkfmjaaGreat

/- Enclosed numbers (layer 3): what is told of them, by the numbers themselves. -/
namespace Go.Proofs.YtlbmkjicbkfmjaaGreat
open Go.RowKit
set_option linter.unusedSimpArgs false
set_option linter.unusedVariables false

theorem rnd_order (x c : Int) (hc : 0 < c) : rnd x c 1 ≤ rnd x c 0 ∧ rnd x c 0 ≤ rnd x c 2 ∧ rnd x c 2 ≤ rnd x c 1 + 1 := by
  rw [rnd_down, rnd_up, rnd_even]
  unfold evn
  have a1 := Int.mul_ediv_add_emod x c
  have a2 := Int.emod_nonneg x (show c ≠ 0 by omega)
  have a3 := Int.emod_lt_of_pos x hc
  generalize hq : x / c = q at *
  generalize hr : x % c = r at *
  by_cases h : r = 0
  · subst h
    have hn := (Int.ediv_emod_unique hc (a := -x) (q := -q) (r := 0)).2 ⟨by rw [Int.mul_neg]; omega, by omega, hc⟩
    rw [hn.1, if_pos (by omega)]
    omega
  · have hn := (Int.ediv_emod_unique hc (a := -x) (q := -q - 1) (r := c - r)).2 ⟨by rw [Int.mul_sub, Int.mul_neg, Int.mul_one]; omega, by omega, by omega⟩
    rw [hn.1]
    split
    · omega
    · split <;> omega
theorem rnd_scale (x c k m : Int) (hc : 0 < c) (hk : 0 < k) : rnd (x * k) (c * k) m = rnd x c m := by
  have hd : x * k / (c * k) = x / c := Int.mul_ediv_mul_of_pos_left x c hk
  have hn : -(x * k) / (c * k) = -x / c := by rw [← Int.neg_mul]; exact Int.mul_ediv_mul_of_pos_left (-x) c hk
  have hm : x * k % (c * k) = x % c * k := by
    rw [Int.mul_comm x k, Int.mul_comm c k, Int.mul_emod_mul_of_pos _ _ hk, Int.mul_comm]
  unfold rnd evn
  rw [hd, hn, hm]
  have h1 : (2 * (x % c * k) < c * k) ↔ (2 * (x % c) < c) := by
    rw [← Int.mul_assoc]; exact Int.mul_lt_mul_right hk
  have h2 : (c * k < 2 * (x % c * k)) ↔ (c < 2 * (x % c)) := by
    rw [← Int.mul_assoc]; exact Int.mul_lt_mul_right hk
  simp only [h1, h2]
theorem rnd_cross (x c y d m : Int) (hc : 0 < c) (hd : 0 < d) (h : x * d ≤ y * c) : rnd x c m ≤ rnd y d m := by
  rw [← rnd_scale x c d m hc hd, ← rnd_scale y d c m hd hc, Int.mul_comm d c]
  exact rnd_mono _ _ _ _ (Int.mul_pos hc hd) h

theorem md_told (a b c m : Int) (hc : 0 < c) (hg : mdG a b c m = true) (hf : frB (rnd (a * b) c m) = true) : mdB a b c m = true ∧ mdN a b c m = rnd (a * b) c m := by
  have hm := mode_cases (mdG_mode hg)
  have e := mdC_round a b c m hc hm
  have hr : rdB (mdC a b c m) = true := by
    have k := frB_iff.1 hf
    unfold rdB
    apply decide_eq_true
    split at e <;> omega
  have hb : mdB a b c m = true := by unfold mdB; rw [hg, hr]; rfl
  exact ⟨hb, md_round a b c m hc hb⟩
theorem md_neg (a b c m : Int) : mdN (-a) b (-c) m = mdN a b c m ∧ mdB (-a) b (-c) m = mdB a b c m := by
  have s1 : szI (-a) = szI a := by unfold szI; split <;> split <;> omega
  have s2 : szI (-c) = szI c := by unfold szI; split <;> split <;> omega
  have hbel : belB (-a) b (-c) = belB a b c := by unfold belB; rw [Int.neg_mul, Int.neg_mul, Int.mul_neg, Int.neg_neg]
  have hg : mdG (-a) b (-c) m = mdG a b c m := by
    have hz : (-c == 0) = (c == 0) := by rw [Bool.eq_iff_iff]; simp
    unfold mdG; rw [right_neg, right_neg, hz]
  have hC : mdC (-a) b (-c) m = mdC a b c m := by unfold mdC; rw [s1, s2, hbel]
  constructor
  · unfold mdN; rw [hg, hC, hbel]
  · unfold mdB; rw [hg, hC]

/-- A number of mode. -/
def MD (m : Int) : Prop := m = 0 ∨ m = 1 ∨ m = 2
theorem MD.b {m : Int} (h : MD m) : modeB m = true := by rcases h with rfl | rfl | rfl <;> rfl
theorem fm_inv {a b m : Int} (h : fmB a b m = true) : frB a = true ∧ frB b = true ∧ fmN a b m = rnd (a * b) 16777216 m ∧ frB (rnd (a * b) 16777216 m) = true := by
  have x := fmB_md h
  have r := md_round _ _ _ _ (by decide) x.1
  have k := h
  unfold fmB at k
  rw [allB2] at k
  simp only [Bool.and_eq_true] at k
  rw [r] at k x
  exact ⟨k.2.1, k.2.2, x.2, k.1.2⟩
theorem fm_told {a b m : Int} (ha : frB a = true) (hb : frB b = true) (hm : MD m) (hf : frB (rnd (a * b) 16777216 m) = true) : fmB a b m = true ∧ fmN a b m = rnd (a * b) 16777216 m := by
  have hg : mdG a b 16777216 m = true := by unfold mdG; rw [frB_right ha, frB_right hb, hm.b]; rfl
  have x := md_told a b 16777216 m (by decide) hg hf
  have hB : fmB a b m = true := by unfold fmB; rw [x.1, x.2, hf, allB2, ha, hb]; rfl
  exact ⟨hB, by unfold fmN; rw [hB, x.2]; rfl⟩

/-- A quotient's parts: what stands above, and below, the line. -/
def qn (a b : Int) : Int := if b < 0 then -a * 16777216 else a * 16777216
theorem qn_neg {a b : Int} (h : b < 0) : qn a b = -a * 16777216 := if_pos h
theorem qn_pos {a b : Int} (h : ¬ b < 0) : qn a b = a * 16777216 := if_neg h
theorem szI_neg' {b : Int} (h : b < 0) : szI b = -b := if_pos h
theorem szI_pos' {b : Int} (h : ¬ b < 0) : szI b = b := if_neg h
theorem md_quot (a b m : Int) (hz : b ≠ 0) (h : mdB a 16777216 b m = true) : mdN a 16777216 b m = rnd (qn a b) (szI b) m := by
  by_cases hb : b < 0
  · have n := md_neg a 16777216 b m
    rw [← n.2] at h
    rw [← n.1, qn_neg hb, szI_neg' hb, md_round _ _ _ _ (by omega) h]
  · rw [qn_pos hb, szI_pos' hb, md_round _ _ _ _ (by omega) h]
theorem fd_inv {a b m : Int} (h : fdB a b m = true) : frB a = true ∧ frB b = true ∧ b ≠ 0 ∧ fdN a b m = rnd (qn a b) (szI b) m ∧ frB (rnd (qn a b) (szI b) m) = true := by
  have x := fdB_md h
  have hz : b ≠ 0 := by
    have := mdB_G x.1
    intro e
    rw [e] at this
    simp [mdG] at this
  have r := md_quot a b m hz x.1
  have k := h
  unfold fdB at k
  rw [allB2] at k
  simp only [Bool.and_eq_true] at k
  rw [r] at k x
  exact ⟨k.2.1, k.2.2, hz, x.2, k.1.2⟩
theorem md_qtold (a b m : Int) (hz : b ≠ 0) (hg : mdG a 16777216 b m = true) (hf : frB (rnd (qn a b) (szI b) m) = true) : mdB a 16777216 b m = true ∧ mdN a 16777216 b m = rnd (qn a b) (szI b) m := by
  by_cases hb : b < 0
  · rw [qn_neg hb, szI_neg' hb] at hf ⊢
    have n := md_neg a 16777216 b m
    rw [← n.1, ← n.2]
    refine md_told (-a) 16777216 (-b) m (by omega) ?_ hf
    have hz : (-b == 0) = (b == 0) := by rw [Bool.eq_iff_iff]; simp
    rw [← hg]
    unfold mdG; rw [right_neg, right_neg, hz]
  · rw [qn_pos hb, szI_pos' hb] at hf ⊢
    exact md_told a 16777216 b m (by omega) hg hf
theorem fd_told {a b m : Int} (ha : frB a = true) (hb : frB b = true) (hz : b ≠ 0) (hm : MD m) (hf : frB (rnd (qn a b) (szI b) m) = true) : fdB a b m = true ∧ fdN a b m = rnd (qn a b) (szI b) m := by
  have hz' : (b == 0) = false := by simpa using hz
  have hg : mdG a 16777216 b m = true := by unfold mdG; rw [frB_right ha, frB_right hb, hm.b, hz']; rfl
  have x := md_qtold a b m hz hg hf
  have hB : fdB a b m = true := by unfold fdB; rw [x.1, x.2, hf, allB2, ha, hb]; rfl
  exact ⟨hB, by unfold fdN; rw [hB, x.2]; rfl⟩

/-- An enclosed number: its value, its bounds, and whether it is Bad. -/
structure En where
  v : Int
  l : Int
  h : Int
  bad : Bool
def wrongE : En := ⟨0, 0, 0, true⟩
def ptE (n : Int) : Bool → En
  | true => ⟨n, n, n, false⟩
  | false => wrongE
def fineB (a : En) : Bool := !a.bad && decide (a.l ≤ a.v) && decide (a.v ≤ a.h) && frB a.l && frB a.h
theorem fineB_iff {a : En} : fineB a = true ↔ a.bad = false ∧ a.l ≤ a.v ∧ a.v ≤ a.h ∧ frB a.l = true ∧ frB a.h = true := by
  unfold fineB; simp [Bool.and_eq_true, and_assoc]
/-- The least, and the greatest, of what is told of pairs of bounds; and whether all of it is told. -/
def lowF (N : Int → Int → Int → Int) (ps : List (Int × Int)) : Int := ps.foldl (fun x p => min x (N p.1 p.2 1)) 1125899906842624
def highF (N : Int → Int → Int → Int) (ps : List (Int × Int)) : Int := ps.foldl (fun x p => max x (N p.1 p.2 2)) (-1125899906842624)
def okF (B : Int → Int → Int → Bool) (ps : List (Int × Int)) : Bool := ps.all fun p => B p.1 p.2 1 && B p.1 p.2 2
/-- What comes of a and b. -/
def okE (B : Int → Int → Int → Bool) (a b : En) (ps : List (Int × Int)) : Bool := B a.v b.v 0 && fineB a && fineB b && okF B ps
def toldE (N : Int → Int → Int → Int) (B : Int → Int → Int → Bool) (a b : En) (ps : List (Int × Int)) : En :=
  if okE B a b ps then ⟨N a.v b.v 0, lowF N ps, highF N ps, false⟩ else wrongE
def prs2 (a b : En) : List (Int × Int) := [(a.l, b.l), (a.h, b.h)]
def prsX (a b : En) : List (Int × Int) := [(a.l, b.h), (a.h, b.l)]
def prs4 (a b : En) : List (Int × Int) := [(a.l, b.l), (a.l, b.h), (a.h, b.l), (a.h, b.h)]
def nA (a b _m : Int) : Int := faN a b
def bA (a b _m : Int) : Bool := faB a b
def nS (a b _m : Int) : Int := fsN a b
def bS (a b _m : Int) : Bool := fsB a b
def nQ (a _b m : Int) : Int := fqN a m
def bQ (a _b m : Int) : Bool := fqB a m
def addE (a b : En) : En := toldE nA bA a b (prs2 a b)
def subE (a b : En) : En := toldE nS bS a b (prsX a b)
def mulE (a b : En) : En := toldE fmN fmB a b (prs4 a b)
/-- Does it enclose 0? -/
def zeroB (b : En) : Bool := decide (b.l ≤ 0) && decide (0 ≤ b.h)
def divE (a b : En) : En := if zeroB b then wrongE else toldE fdN fdB a b (prs4 a b)
def rootE (a : En) : En := toldE nQ bQ a a (prs2 a a)

theorem foldl_min (f : Int × Int → Int) : ∀ (ps : List (Int × Int)) (i : Int), ps.foldl (fun x p => min x (f p)) i ≤ i ∧ (∀ p ∈ ps, ps.foldl (fun x p => min x (f p)) i ≤ f p) ∧ (∀ c, c ≤ i → (∀ p ∈ ps, c ≤ f p) → c ≤ ps.foldl (fun x p => min x (f p)) i)
  | [], i => ⟨Int.le_refl _, fun _ h => by simp at h, fun _ h _ => h⟩
  | q :: ps, i => by
    obtain ⟨h1, h2, h3⟩ := foldl_min f ps (min i (f q))
    simp only [List.foldl_cons]
    refine ⟨by omega, ?_, ?_⟩
    · intro p hp
      rcases List.mem_cons.1 hp with rfl | hp
      · omega
      · exact h2 p hp
    · intro c hc hall
      refine h3 c ?_ fun p hp => hall p (List.mem_cons_of_mem _ hp)
      have := hall q List.mem_cons_self
      omega
theorem foldl_max (f : Int × Int → Int) : ∀ (ps : List (Int × Int)) (i : Int), i ≤ ps.foldl (fun x p => max x (f p)) i ∧ (∀ p ∈ ps, f p ≤ ps.foldl (fun x p => max x (f p)) i) ∧ (∀ c, i ≤ c → (∀ p ∈ ps, f p ≤ c) → ps.foldl (fun x p => max x (f p)) i ≤ c)
  | [], i => ⟨Int.le_refl _, fun _ h => by simp at h, fun _ h _ => h⟩
  | q :: ps, i => by
    obtain ⟨h1, h2, h3⟩ := foldl_max f ps (max i (f q))
    simp only [List.foldl_cons]
    refine ⟨by omega, ?_, ?_⟩
    · intro p hp
      rcases List.mem_cons.1 hp with rfl | hp
      · omega
      · exact h2 p hp
    · intro c hc hall
      refine h3 c ?_ fun p hp => hall p (List.mem_cons_of_mem _ hp)
      have := hall q List.mem_cons_self
      omega
/-- What is told is a number that may be. -/
def Bd (N : Int → Int → Int → Int) : Prop := ∀ a b m, -1125899906842624 ≤ N a b m ∧ N a b m ≤ 1125899906842624
theorem fsN_bd (a b : Int) : -1125899906842624 ≤ fsN a b ∧ fsN a b ≤ 1125899906842624 := toN_bd _ _ fun h => by
  unfold fsB at h; simp only [Bool.and_eq_true] at h; exact h.1
theorem bdA : Bd nA := fun a b _ => faN_bd a b
theorem bdS : Bd nS := fun a b _ => fsN_bd a b
theorem bdM : Bd fmN := fmN_bd
theorem bdD : Bd fdN := fdN_bd
theorem bdQ : Bd nQ := fun a _ m => fqN_bd a m
theorem low_bd {N : Int → Int → Int → Int} (hN : Bd N) (ps : List (Int × Int)) : -1125899906842624 ≤ lowF N ps ∧ lowF N ps ≤ 1125899906842624 := by
  obtain ⟨h1, h2, h3⟩ := foldl_min (fun p => N p.1 p.2 1) ps 1125899906842624
  exact ⟨h3 _ (by omega) fun p _ => (hN _ _ _).1, h1⟩
theorem high_bd {N : Int → Int → Int → Int} (hN : Bd N) (ps : List (Int × Int)) : -1125899906842624 ≤ highF N ps ∧ highF N ps ≤ 1125899906842624 := by
  obtain ⟨h1, h2, h3⟩ := foldl_max (fun p => N p.1 p.2 2) ps (-1125899906842624)
  exact ⟨h1, h3 _ (by omega) fun p _ => (hN _ _ _).2⟩
theorem low_le {N : Int → Int → Int → Int} {ps : List (Int × Int)} {p : Int × Int} (h : p ∈ ps) : lowF N ps ≤ N p.1 p.2 1 := (foldl_min (fun p => N p.1 p.2 1) ps 1125899906842624).2.1 p h
theorem le_high {N : Int → Int → Int → Int} {ps : List (Int × Int)} {p : Int × Int} (h : p ∈ ps) : N p.1 p.2 2 ≤ highF N ps := (foldl_max (fun p => N p.1 p.2 2) ps (-1125899906842624)).2.1 p h
theorem ok_at {B : Int → Int → Int → Bool} {ps : List (Int × Int)} {p : Int × Int} (h : okF B ps = true) (hp : p ∈ ps) : B p.1 p.2 1 = true ∧ B p.1 p.2 2 = true := by
  have := List.all_eq_true.1 h p hp
  simpa [Bool.and_eq_true] using this

/-- What is told of x and y lies between what is told of the bounds. -/
structure Hold (N : Int → Int → Int → Int) (B : Int → Int → Int → Bool) (ps : List (Int × Int)) (x y : Int) : Prop where
  told : ∀ m, MD m → B x y m = true
  low : lowF N ps ≤ N x y 1
  down : N x y 1 ≤ N x y 0
  up : N x y 0 ≤ N x y 2
  high : N x y 2 ≤ highF N ps

/-- x lies between the bounds of a. -/
def inB (a : En) (x : Int) : Prop := a.l ≤ x ∧ x ≤ a.h
theorem in_fr {a : En} (h : fineB a = true) {x : Int} (k : inB a x) : frB x = true := by
  obtain ⟨_, _, _, h1, h2⟩ := fineB_iff.1 h
  have := frB_iff.1 h1
  have := frB_iff.1 h2
  unfold inB at k
  exact frB_eq (by omega)
theorem in_v {a : En} (h : fineB a = true) : inB a a.v := by
  obtain ⟨_, h1, h2, _, _⟩ := fineB_iff.1 h
  exact ⟨h1, h2⟩

theorem fa_val {a b : Int} (h : faB a b = true) : faN a b = a + b ∧ frB (a + b) = true := by
  have k := h
  unfold faB at k
  rw [Bool.and_eq_true] at k
  exact ⟨by unfold faN; rw [h]; rfl, k.1⟩
theorem fa_told {a b : Int} (ha : frB a = true) (hb : frB b = true) (h : frB (a + b) = true) : faB a b = true ∧ faN a b = a + b := by
  have k : faB a b = true := by unfold faB; rw [h, allB2, ha, hb]; rfl
  exact ⟨k, by unfold faN; rw [k]; rfl⟩
theorem fs_val {a b : Int} (h : fsB a b = true) : fsN a b = a - b ∧ frB (a - b) = true := by
  have k := h
  unfold fsB at k
  rw [Bool.and_eq_true] at k
  exact ⟨by unfold fsN; rw [h]; rfl, k.1⟩
theorem fs_told {a b : Int} (ha : frB a = true) (hb : frB b = true) (h : frB (a - b) = true) : fsB a b = true ∧ fsN a b = a - b := by
  have k : fsB a b = true := by unfold fsB; rw [h, allB2, ha, hb]; rfl
  exact ⟨k, by unfold fsN; rw [k]; rfl⟩

theorem hold_add {a b : En} (ha : fineB a = true) (hb : fineB b = true) (ho : okF bA (prs2 a b) = true) {x y : Int} (hx : inB a x) (hy : inB b y) : Hold nA bA (prs2 a b) x y := by
  have m1 : (a.l, b.l) ∈ prs2 a b := by simp [prs2]
  have m2 : (a.h, b.h) ∈ prs2 a b := by simp [prs2]
  have v1 := fa_val (ok_at ho m1).1
  have v2 := fa_val (ok_at ho m2).1
  have g1 := frB_iff.1 v1.2
  have g2 := frB_iff.1 v2.2
  have hx' := hx
  have hy' := hy
  unfold inB at hx' hy'
  have t := fa_told (in_fr ha hx) (in_fr hb hy) (frB_eq (by omega))
  have l1 := low_le (N := nA) m1
  have l2 := le_high (N := nA) m2
  unfold nA at l1 l2
  simp only at l1 l2 v1 v2
  rw [v1.1] at l1
  rw [v2.1] at l2
  refine ⟨fun _ _ => t.1, ?_, Int.le_refl _, Int.le_refl _, ?_⟩
  · show lowF nA (prs2 a b) ≤ faN x y
    rw [t.2]
    exact Int.le_trans l1 (by omega)
  · show faN x y ≤ highF nA (prs2 a b)
    rw [t.2]
    exact Int.le_trans (by omega) l2
theorem hold_sub {a b : En} (ha : fineB a = true) (hb : fineB b = true) (ho : okF bS (prsX a b) = true) {x y : Int} (hx : inB a x) (hy : inB b y) : Hold nS bS (prsX a b) x y := by
  have m1 : (a.l, b.h) ∈ prsX a b := by simp [prsX]
  have m2 : (a.h, b.l) ∈ prsX a b := by simp [prsX]
  have v1 := fs_val (ok_at ho m1).1
  have v2 := fs_val (ok_at ho m2).1
  have g1 := frB_iff.1 v1.2
  have g2 := frB_iff.1 v2.2
  have hx' := hx
  have hy' := hy
  unfold inB at hx' hy'
  have t := fs_told (in_fr ha hx) (in_fr hb hy) (frB_eq (by omega))
  have l1 := low_le (N := nS) m1
  have l2 := le_high (N := nS) m2
  unfold nS at l1 l2
  simp only at l1 l2 v1 v2
  rw [v1.1] at l1
  rw [v2.1] at l2
  refine ⟨fun _ _ => t.1, ?_, Int.le_refl _, Int.le_refl _, ?_⟩
  · show lowF nS (prsX a b) ≤ fsN x y
    rw [t.2]
    exact Int.le_trans l1 (by omega)
  · show fsN x y ≤ highF nS (prsX a b)
    rw [t.2]
    exact Int.le_trans (by omega) l2

theorem lin (l h t k : Int) (h1 : l ≤ t) (h2 : t ≤ h) : (l * k ≤ t * k ∨ h * k ≤ t * k) ∧ (t * k ≤ l * k ∨ t * k ≤ h * k) := by
  rcases Int.le_total 0 k with hk | hk
  · exact ⟨.inl (Int.mul_le_mul_of_nonneg_right h1 hk), .inr (Int.mul_le_mul_of_nonneg_right h2 hk)⟩
  · exact ⟨.inr (Int.mul_le_mul_of_nonpos_right h2 hk), .inl (Int.mul_le_mul_of_nonpos_right h1 hk)⟩
theorem corners {a b : En} {x y : Int} (hx : inB a x) (hy : inB b y) : (∃ p ∈ prs4 a b, p.1 * p.2 ≤ x * y) ∧ (∃ p ∈ prs4 a b, x * y ≤ p.1 * p.2) := by
  have m1 : (a.l, b.l) ∈ prs4 a b := by simp [prs4]
  have m2 : (a.l, b.h) ∈ prs4 a b := by simp [prs4]
  have m3 : (a.h, b.l) ∈ prs4 a b := by simp [prs4]
  have m4 : (a.h, b.h) ∈ prs4 a b := by simp [prs4]
  have ky := lin b.l b.h y x hy.1 hy.2
  rw [Int.mul_comm y x, Int.mul_comm b.l x, Int.mul_comm b.h x] at ky
  have kl := lin a.l a.h x b.l hx.1 hx.2
  have kh := lin a.l a.h x b.h hx.1 hx.2
  constructor
  · rcases ky.1 with h | h
    · rcases kl.1 with k | k
      · exact ⟨_, m1, Int.le_trans k h⟩
      · exact ⟨_, m3, Int.le_trans k h⟩
    · rcases kh.1 with k | k
      · exact ⟨_, m2, Int.le_trans k h⟩
      · exact ⟨_, m4, Int.le_trans k h⟩
  · rcases ky.2 with h | h
    · rcases kl.2 with k | k
      · exact ⟨_, m1, Int.le_trans h k⟩
      · exact ⟨_, m3, Int.le_trans h k⟩
    · rcases kh.2 with k | k
      · exact ⟨_, m2, Int.le_trans h k⟩
      · exact ⟨_, m4, Int.le_trans h k⟩
theorem hold_mul {a b : En} (ha : fineB a = true) (hb : fineB b = true) (ho : okF fmB (prs4 a b) = true) {x y : Int} (hx : inB a x) (hy : inB b y) : Hold fmN fmB (prs4 a b) x y := by
  obtain ⟨⟨p, mp, kp⟩, ⟨q, mq, kq⟩⟩ := corners hx hy
  have vp := fm_inv (ok_at ho mp).1
  have vq := fm_inv (ok_at ho mq).2
  have o := rnd_order (x * y) 16777216 (by decide)
  have r1 := rnd_mono _ _ 16777216 1 (by decide) kp
  have r2 := rnd_mono _ _ 16777216 2 (by decide) kq
  have f1 := frB_iff.1 vp.2.2.2
  have f2 := frB_iff.1 vq.2.2.2
  have t : ∀ m, MD m → fmB x y m = true ∧ fmN x y m = rnd (x * y) 16777216 m := by
    intro m hm
    refine fm_told (in_fr ha hx) (in_fr hb hy) hm (frB_eq ?_)
    rcases hm with rfl | rfl | rfl <;> omega
  have l1 := low_le (N := fmN) mp
  have l2 := le_high (N := fmN) mq
  rw [vp.2.2.1] at l1
  rw [vq.2.2.1] at l2
  refine ⟨fun m hm => (t m hm).1, ?_, ?_, ?_, ?_⟩
  · rw [(t 1 (.inr (.inl rfl))).2]; omega
  · rw [(t 1 (.inr (.inl rfl))).2, (t 0 (.inl rfl)).2]; omega
  · rw [(t 0 (.inl rfl)).2, (t 2 (.inr (.inr rfl))).2]; omega
  · rw [(t 2 (.inr (.inr rfl))).2]; omega

/-- Quotients by numbers above 0: which of the bounds' is not above, and not below. -/
theorem quots (al ah bl bh x y : Int) (h0 : 0 < bl) (h1 : al ≤ x) (h2 : x ≤ ah) (h3 : bl ≤ y) (h4 : y ≤ bh) :
    (al * y ≤ x * bl ∨ al * y ≤ x * bh) ∧ (x * bl ≤ ah * y ∨ x * bh ≤ ah * y) := by
  constructor
  · rcases Int.le_total 0 al with h | h
    · right
      exact Int.le_trans (Int.mul_le_mul_of_nonneg_left h4 h) (Int.mul_le_mul_of_nonneg_right h1 (by omega))
    · left
      exact Int.le_trans (Int.mul_le_mul_of_nonpos_left h h3) (Int.mul_le_mul_of_nonneg_right h1 (by omega))
  · rcases Int.le_total 0 ah with h | h
    · left
      exact Int.le_trans (Int.mul_le_mul_of_nonneg_right h2 (by omega)) (Int.mul_le_mul_of_nonneg_left h3 h)
    · right
      exact Int.le_trans (Int.mul_le_mul_of_nonneg_right h2 (by omega)) (Int.mul_le_mul_of_nonpos_left h h4)
theorem scl {p q r s : Int} (h : p * q ≤ r * s) : p * 16777216 * q ≤ r * 16777216 * s := by
  rw [Int.mul_right_comm p, Int.mul_right_comm r]
  exact Int.mul_le_mul_of_nonneg_right h (by decide)
theorem qcorners {a b : En} {x y : Int} (hz : zeroB b = false) (hx : inB a x) (hy : inB b y) :
    (∃ p ∈ prs4 a b, qn p.1 p.2 * szI y ≤ qn x y * szI p.2) ∧ (∃ p ∈ prs4 a b, qn x y * szI p.2 ≤ qn p.1 p.2 * szI y) := by
  have m1 : (a.l, b.l) ∈ prs4 a b := by simp [prs4]
  have m2 : (a.l, b.h) ∈ prs4 a b := by simp [prs4]
  have m3 : (a.h, b.l) ∈ prs4 a b := by simp [prs4]
  have m4 : (a.h, b.h) ∈ prs4 a b := by simp [prs4]
  unfold inB at hx hy
  have hside : 0 < b.l ∨ b.h < 0 := by
    unfold zeroB at hz
    rw [Bool.and_eq_false_iff] at hz
    rcases hz with h | h
    · have := of_decide_eq_false h; omega
    · have := of_decide_eq_false h; omega
  rcases hside with h0 | h0
  · have e1 : ∀ z, qn z b.l = z * 16777216 := fun z => qn_pos (by omega)
    have e2 : ∀ z, qn z b.h = z * 16777216 := fun z => qn_pos (by omega)
    have e3 : qn x y = x * 16777216 := qn_pos (by omega)
    have s1 : szI b.l = b.l := szI_pos' (by omega)
    have s2 : szI b.h = b.h := szI_pos' (by omega)
    have s3 : szI y = y := szI_pos' (by omega)
    have k := quots a.l a.h b.l b.h x y h0 hx.1 hx.2 hy.1 hy.2
    constructor
    · rcases k.1 with h | h
      · refine ⟨_, m1, ?_⟩; simp only [e1, e3, s1, s3]; exact scl h
      · refine ⟨_, m2, ?_⟩; simp only [e2, e3, s2, s3]; exact scl h
    · rcases k.2 with h | h
      · refine ⟨_, m3, ?_⟩; simp only [e1, e3, s1, s3]; exact scl h
      · refine ⟨_, m4, ?_⟩; simp only [e2, e3, s2, s3]; exact scl h
  · have e1 : ∀ z, qn z b.l = -z * 16777216 := fun z => qn_neg (by omega)
    have e2 : ∀ z, qn z b.h = -z * 16777216 := fun z => qn_neg (by omega)
    have e3 : qn x y = -x * 16777216 := qn_neg (by omega)
    have s1 : szI b.l = -b.l := szI_neg' (by omega)
    have s2 : szI b.h = -b.h := szI_neg' (by omega)
    have s3 : szI y = -y := szI_neg' (by omega)
    have k := quots (-a.h) (-a.l) (-b.h) (-b.l) (-x) (-y) (by omega) (by omega) (by omega) (by omega) (by omega)
    constructor
    · rcases k.1 with h | h
      · refine ⟨_, m4, ?_⟩; simp only [e2, e3, s2, s3]; exact scl h
      · refine ⟨_, m3, ?_⟩; simp only [e1, e3, s1, s3]; exact scl h
    · rcases k.2 with h | h
      · refine ⟨_, m2, ?_⟩; simp only [e2, e3, s2, s3]; exact scl h
      · refine ⟨_, m1, ?_⟩; simp only [e1, e3, s1, s3]; exact scl h
theorem szI_pp {b : Int} (h : b ≠ 0) : 0 < szI b := by unfold szI; split <;> omega
theorem hold_div {a b : En} (ha : fineB a = true) (hb : fineB b = true) (hz : zeroB b = false) (ho : okF fdB (prs4 a b) = true) {x y : Int} (hx : inB a x) (hy : inB b y) : Hold fdN fdB (prs4 a b) x y := by
  obtain ⟨⟨p, mp, kp⟩, ⟨q, mq, kq⟩⟩ := qcorners hz hx hy
  have vp := fd_inv (ok_at ho mp).1
  have vq := fd_inv (ok_at ho mq).2
  have y0 : y ≠ 0 := by
    unfold inB at hy
    unfold zeroB at hz
    rw [Bool.and_eq_false_iff] at hz
    rcases hz with h | h
    · have := of_decide_eq_false h; omega
    · have := of_decide_eq_false h; omega
  have sy := szI_pp y0
  have sp := szI_pp vp.2.2.1
  have sq := szI_pp vq.2.2.1
  have o := rnd_order (qn x y) (szI y) sy
  have r1 := rnd_cross _ _ _ _ 1 sp sy kp
  have r2 := rnd_cross _ _ _ _ 2 sy sq kq
  have f1 := frB_iff.1 vp.2.2.2.2
  have f2 := frB_iff.1 vq.2.2.2.2
  have t : ∀ m, MD m → fdB x y m = true ∧ fdN x y m = rnd (qn x y) (szI y) m := by
    intro m hm
    refine fd_told (in_fr ha hx) (in_fr hb hy) y0 hm (frB_eq ?_)
    rcases hm with rfl | rfl | rfl <;> omega
  have l1 := low_le (N := fdN) mp
  have l2 := le_high (N := fdN) mq
  rw [vp.2.2.2.1] at l1
  rw [vq.2.2.2.1] at l2
  refine ⟨fun m hm => (t m hm).1, ?_, ?_, ?_, ?_⟩
  · rw [(t 1 (.inr (.inl rfl))).2]; omega
  · rw [(t 1 (.inr (.inl rfl))).2, (t 0 (.inl rfl)).2]; omega
  · rw [(t 0 (.inl rfl)).2, (t 2 (.inr (.inr rfl))).2]; omega
  · rw [(t 2 (.inr (.inr rfl))).2]; omega
theorem fqB_told {a m : Int} (ha : frB a = true) (h0 : 0 ≤ a) (hm : MD m) : fqB a m = true := by
  obtain ⟨r, t, er, r0, r1, t0, ep, ea, ht2, x1, x2, x0⟩ := fq_vals a ha h0
  rcases hm with rfl | rfl | rfl
  · exact x0.2
  · exact x1.2
  · exact x2.2
theorem hold_root {a : En} (ha : fineB a = true) (ho : okF bQ (prs2 a a) = true) {x y : Int} (hx : inB a x) : Hold nQ bQ (prs2 a a) x y := by
  have m1 : (a.l, a.l) ∈ prs2 a a := by simp [prs2]
  have m2 : (a.h, a.h) ∈ prs2 a a := by simp [prs2]
  have v1 := (ok_at ho m1).1
  have v2 := (ok_at ho m2).2
  have l1 := low_le (N := nQ) m1
  have l2 := le_high (N := nQ) m2
  simp only [bQ, nQ] at v1 v2 l1 l2
  have k1 := fqB_ok v1
  have t : ∀ m, MD m → fqB x m = true := fun m hm => fqB_told (in_fr ha hx) (by unfold inB at hx; omega) hm
  have t1 := t 1 (.inr (.inl rfl))
  have t0 := t 0 (.inl rfl)
  have t2 := t 2 (.inr (.inr rfl))
  have o := fq_order x t1 t0 t2
  have r1 := fq_mono _ _ 1 hx.1 v1 t1
  have r2 := fq_mono _ _ 2 hx.2 t2 v2
  generalize hP : lowF nQ (prs2 a a) = P at *
  generalize hQ : highF nQ (prs2 a a) = Q at *
  refine ⟨?_, ?_, ?_, ?_, ?_⟩
  · intro m hm
    simp only [bQ]
    exact t m hm
  · rw [hP]; simp only [nQ]; omega
  · simp only [nQ]; omega
  · simp only [nQ]; omega
  · rw [hQ]; simp only [nQ]; omega
end Go.Proofs.YtlbmkjicbkfmjaaGreat

/- Contracts of env.Wrong, point, Point, Of, Fine, Sign, Meet (layer 3), and of the document's Fine. -/
namespace Go.Proofs.YtlbmkjicbkfmjaaGreat
open Go.RowKit
set_option linter.unusedSimpArgs false
set_option linter.unusedVariables false

/-- An enclosed number, as the program has it. -/
abbrev enV (x : En) : Value := .agg #[.int .i64 x.v, .int .i64 x.l, .int .i64 x.h, .bool x.bad]

theorem wrong_any (w : World) :
    Calls Tryz.prog 109 #[] w fun e w' => e = .returned (enV wrongE) ∧ Bl w w' := by
  go_enter Tryz.func109, Tryz.ntmps109
  go_wp2
  simp [bodyPost, results, Tryz.results109, go_sem, wrongE]
  exact (Bl.refl _).alloc _

theorem given_any (a : En) (w : World) :
    Calls Tryz.prog 19 #[enV a] w fun e w' => e = .returned (enV a) ∧ Bl w w' := by
  go_enter Tryz.func19, Tryz.ntmps19
  go_wp2
  simp [bodyPost, results, Tryz.results19, go_sem]
  exact ((Bl.refl _).alloc _).alloc _

/-- A block of four cells that holds an enclosed number. -/
structure Box (w : World) (b : Nat) (x : En) : Prop where
  c0 : w.cell? ⟨b, 0, none⟩ = some (.int .i64 x.v)
  c1 : w.cell? ⟨b, 1, none⟩ = some (.int .i64 x.l)
  c2 : w.cell? ⟨b, 2, none⟩ = some (.int .i64 x.h)
  c3 : w.cell? ⟨b, 3, none⟩ = some (.bool x.bad)
  f0 : w.frozen? ⟨b, 0, none⟩ = false
  f1 : w.frozen? ⟨b, 1, none⟩ = false
  f2 : w.frozen? ⟨b, 2, none⟩ = false
  f3 : w.frozen? ⟨b, 3, none⟩ = false
  lt : b < w.heap.size
theorem Box.later {w w' : World} {b : Nat} {x : En} (h : Box w b x) (k : Bl w w') : Box w' b x := by
  have := h.lt
  refine ⟨?_, ?_, ?_, ?_, ?_, ?_, ?_, ?_, by have := Below.size k; omega⟩
  · rw [bl_cell k _ _ this]; exact h.c0
  · rw [bl_cell k _ _ this]; exact h.c1
  · rw [bl_cell k _ _ this]; exact h.c2
  · rw [bl_cell k _ _ this]; exact h.c3
  · rw [bl_froz k _ _ this]; exact h.f0
  · rw [bl_froz k _ _ this]; exact h.f1
  · rw [bl_froz k _ _ this]; exact h.f2
  · rw [bl_froz k _ _ this]; exact h.f3
theorem Box.new (w : World) (x : En) (t : TypeId) : Box (w.alloc (.cells #[.int .i64 x.v, .int .i64 x.l, .int .i64 x.h, .bool x.bad] t)) w.heap.size x := by
  refine ⟨?_, ?_, ?_, ?_, ?_, ?_, ?_, ?_, by simp⟩ <;> simp [go_sem]
theorem Bl.set4 {a b : World} (h : Bl a b) {n : Nat} (hn : a.heap.size ≤ n) (v0 v1 v2 v3 : Value) : Bl a ((((b.setCell ⟨n, 0, none⟩ v0).setCell ⟨n, 1, none⟩ v1).setCell ⟨n, 2, none⟩ v2).setCell ⟨n, 3, none⟩ v3) :=
  Bl.set (Bl.set (Bl.set (Bl.set h hn _) hn _) hn _) hn _
/-- One that is laid, and not yet filled. -/
def zeroE : En := ⟨0, 0, 0, false⟩

theorem point_any (n : Int) (is : Bool) (w : World) :
    Calls Tryz.prog 64 #[.int .i64 n, .bool is] w fun e w' => e = .returned (enV (ptE n is)) ∧ Bl w w' := by
  cases is
  · obtain ⟨W, hW⟩ : ∃ W, W = w.alloc (.cells #[.int .i64 0, .int .i64 0, .int .i64 0, .bool false] 28) := ⟨_, rfl⟩
    have b0 : Bl w W := by rw [hW]; exact (Bl.refl _).alloc _
    have x0 : Box W w.heap.size zeroE := by rw [hW]; exact Box.new w zeroE _
    have HW := hideP hW
    clear hW
    go_enter Tryz.func64, Tryz.ntmps64
    go_wp2_with fail
    rw [← HW.out]
    refine (wrong_any _).mono ?_
    rintro e w1 ⟨rfl, h1⟩
    obtain ⟨c0, c1, c2, c3, f0, f1, f2, f3, lt⟩ := x0.later h1
    go_wp2
    simp [bodyPost, results, Tryz.results64, go_sem, c0, c1, c2, c3, ptE]
    exact Bl.set (Bl.set (Bl.set (Bl.set (b0.trans h1) (Nat.le_refl _) _) (Nat.le_refl _) _) (Nat.le_refl _) _) (Nat.le_refl _) _
  · go_enter Tryz.func64, Tryz.ntmps64
    go_wp2
    simp [bodyPost, results, Tryz.results64, go_sem, ptE]
    exact (Bl.refl _).alloc _

theorem fine_any (a : En) (w : World) :
    Calls Tryz.prog 91 #[enV a] w fun e w' => e = .returned (.bool (fineB a)) ∧ Bl w w' := by
  obtain ⟨v, l, h, bd⟩ := a
  unfold fineB
  simp only
  cases bd
  · by_cases h1 : l ≤ v
    · by_cases h2 : v ≤ h
      · rw [decide_eq_true h1, decide_eq_true h2]
        cases h3 : frB l
        · go_enter Tryz.func91, Tryz.ntmps91
          go_wp2_with (go_at_call 65; refine (fright_any _ _).mono ?_; rintro e w' ⟨rfl, rfl⟩)
          go_ret
          exact ⟨rfl, (Bl.refl _).alloc _⟩
        · go_enter Tryz.func91, Tryz.ntmps91
          go_wp2_with (go_at_call 65; refine (fright_any _ _).mono ?_; rintro e w' ⟨rfl, rfl⟩)
          go_ret
          exact ⟨rfl, (Bl.refl _).alloc _⟩
      · rw [decide_eq_false h2]
        go_enter Tryz.func91, Tryz.ntmps91
        go_wp2
        go_ret
        exact ⟨by simp, (Bl.refl _).alloc _⟩
    · rw [decide_eq_false h1]
      go_enter Tryz.func91, Tryz.ntmps91
      go_wp2
      go_ret
      exact ⟨by simp, (Bl.refl _).alloc _⟩
  · go_enter Tryz.func91, Tryz.ntmps91
    go_wp2
    go_ret
    exact ⟨by simp, (Bl.refl _).alloc _⟩

theorem pointE_any (n : Int) (w : World) :
    Calls Tryz.prog 24 #[.int .i64 n] w fun e w' => e = .returned (enV (ptE n (frB n))) ∧ Bl w w' := by
  obtain ⟨W, hW⟩ : ∃ W, W = w.alloc (.cells #[.int .i64 0, .int .i64 0, .int .i64 0, .bool false] 28) := ⟨_, rfl⟩
  have b0 : Bl w W := by rw [hW]; exact (Bl.refl _).alloc _
  have x0 : Box W w.heap.size zeroE := by rw [hW]; exact Box.new w zeroE _
  have HW := hideP hW
  clear hW
  go_enter Tryz.func24, Tryz.ntmps24
  go_wp2_with fail
  rw [← HW.out]
  refine (fright_any _ _).mono ?_
  rintro e w1 ⟨rfl, rfl⟩
  go_wp2_with fail
  refine (point_any _ _ _).mono ?_
  rintro e w1 ⟨rfl, h1⟩
  obtain ⟨c0, c1, c2, c3, f0, f1, f2, f3, lt⟩ := x0.later h1
  go_wp2
  simp [bodyPost, results, Tryz.results24, go_sem, c0, c1, c2, c3]
  exact Bl.set (Bl.set (Bl.set (Bl.set (b0.trans h1) (Nat.le_refl _) _) (Nat.le_refl _) _) (Nat.le_refl _) _) (Nat.le_refl _) _

theorem ofE_any (a : En) (n : Int) (w : World) :
    Calls Tryz.prog 25 #[enV a, .int .i64 n] w fun e w' => e = .returned (enV (ptE (foN n) (foB n))) ∧ Bl w w' := by
  obtain ⟨W, hW⟩ : ∃ W, W = (w.alloc (.cells #[.int .i64 a.v, .int .i64 a.l, .int .i64 a.h, .bool a.bad] 28)).alloc (.cells #[.int .i64 0, .int .i64 0, .int .i64 0, .bool false] 28) := ⟨_, rfl⟩
  have b0 : Bl w W := by rw [hW]; exact ((Bl.refl _).alloc _).alloc _
  have x0 : Box W (w.heap.size + 1) zeroE := by rw [hW]; have := Box.new (w.alloc (.cells #[.int .i64 a.v, .int .i64 a.l, .int .i64 a.h, .bool a.bad] 28)) zeroE 28; simpa [zeroE] using this
  have HW := hideP hW
  clear hW
  go_enter Tryz.func25, Tryz.ntmps25
  go_wp2_with fail
  rw [← HW.out]
  refine (fof_any _ _).mono ?_
  rintro e w1 ⟨rfl, h1⟩
  go_wp2_with fail
  refine (point_any _ _ _).mono ?_
  rintro e w2 ⟨rfl, h2⟩
  obtain ⟨c0, c1, c2, c3, f0, f1, f2, f3, lt⟩ := x0.later (h1.trans h2)
  go_wp2
  simp [bodyPost, results, Tryz.results25, go_sem, c0, c1, c2, c3]
  exact Bl.set (Bl.set (Bl.set (Bl.set ((b0.trans h1).trans h2) (by simp) _) (by simp) _) (by simp) _) (by simp) _

def signE (a : En) : Int := match a.bad with
  | true => 0
  | false => cmpI a.v 0
theorem signE_any (a : En) (w : World) :
    Calls Tryz.prog 206 #[enV a] w fun e w' => e = .returned (.int .i64 (signE a)) ∧ Bl w w' := by
  obtain ⟨v, l, h, bd⟩ := a
  unfold signE
  cases bd
  · go_enter Tryz.func206, Tryz.ntmps206
    go_wp2_with (go_at_call 174; refine (cmpInt_any _ _ _).mono ?_; rintro e w' ⟨rfl, rfl⟩)
    go_ret
    exact ⟨rfl, (Bl.refl _).alloc _⟩
  · go_enter Tryz.func206, Tryz.ntmps206
    go_wp2
    go_ret
    exact ⟨rfl, (Bl.refl _).alloc _⟩

def meetB (a b : En) : Bool := !a.bad && (!b.bad && decide (max a.l b.l ≤ min a.h b.h))
theorem refFine_any (a : En) (w : World) :
    Calls Tryz.prog 107 #[enV a] w fun e w' => e = .returned (.bool (fineB a)) ∧ Bl w w' := by
  obtain ⟨v, l, h, bd⟩ := a
  unfold fineB
  simp only
  cases bd
  · cases h3 : frB l
    · go_enter Tryz.func107, Tryz.ntmps107
      go_wp2_with (go_at_call 140; refine (fRefRight_any _ _).mono ?_; rintro e w' ⟨rfl, rfl⟩)
      go_ret
      exact ⟨by simp, (Bl.refl _).alloc _⟩
    · cases h4 : frB h
      · go_enter Tryz.func107, Tryz.ntmps107
        go_wp2_with (go_at_call 140; refine (fRefRight_any _ _).mono ?_; rintro e w' ⟨rfl, rfl⟩)
        go_ret
        exact ⟨by simp, (Bl.refl _).alloc _⟩
      · by_cases h1 : l ≤ v
        · rw [decide_eq_true h1]
          go_enter Tryz.func107, Tryz.ntmps107
          go_wp2_with (go_at_call 140; refine (fRefRight_any _ _).mono ?_; rintro e w' ⟨rfl, rfl⟩)
          go_ret
          exact ⟨by simp, (Bl.refl _).alloc _⟩
        · rw [decide_eq_false h1]
          go_enter Tryz.func107, Tryz.ntmps107
          go_wp2_with (go_at_call 140; refine (fRefRight_any _ _).mono ?_; rintro e w' ⟨rfl, rfl⟩)
          go_ret
          exact ⟨by simp, (Bl.refl _).alloc _⟩
  · go_enter Tryz.func107, Tryz.ntmps107
    go_wp2
    go_ret
    exact ⟨by simp, (Bl.refl _).alloc _⟩
end Go.Proofs.YtlbmkjicbkfmjaaGreat

/- The contract of env.told (layer 3), for what is done of a pair, whatever it be. -/
namespace Go.Proofs.YtlbmkjicbkfmjaaGreat
open Go.RowKit
set_option linter.unusedSimpArgs false
set_option linter.unusedVariables false

abbrev prV (x y : Int) : Value := .agg #[.int .i64 x, .int .i64 y]
/-- The pairs of a slice, in a world. -/
def Prs (w : World) (blk : Nat) (ps : List (Int × Int)) : Prop :=
  blk < w.heap.size ∧ ∀ k, k < ps.length → w.cell? ⟨blk, k * 2, none⟩ = some (.int .i64 (ps.getD k (0, 0)).1) ∧ w.cell? ⟨blk, k * 2 + 1, none⟩ = some (.int .i64 (ps.getD k (0, 0)).2)
theorem Prs.later {w w' : World} {blk : Nat} {ps : List (Int × Int)} (h : Prs w blk ps) (k : Bl w w') : Prs w' blk ps := by
  refine ⟨by have := Below.size k; have := h.1; omega, fun j hj => ?_⟩
  rw [bl_cell k _ _ h.1, bl_cell k _ _ h.1]
  exact h.2 j hj
theorem take_getD (ps : List (Int × Int)) (k : Nat) (h : k < ps.length) : ps.take (k + 1) = ps.take k ++ [ps.getD k (0, 0)] := by
  rw [List.take_succ_eq_append_getElem h]
  simp [List.getD_eq_getElem?_getD, h]
theorem low_snoc (N : Int → Int → Int → Int) (ps : List (Int × Int)) (p : Int × Int) : lowF N (ps ++ [p]) = min (lowF N ps) (N p.1 p.2 1) := by
  unfold lowF; rw [List.foldl_append]; rfl
theorem high_snoc (N : Int → Int → Int → Int) (ps : List (Int × Int)) (p : Int × Int) : highF N (ps ++ [p]) = max (highF N ps) (N p.1 p.2 2) := by
  unfold highF; rw [List.foldl_append]; rfl
theorem ok_snoc (B : Int → Int → Int → Bool) (ps : List (Int × Int)) (p : Int × Int) : okF B (ps ++ [p]) = (okF B ps && (B p.1 p.2 1 && B p.1 p.2 2)) := by
  unfold okF; rw [List.all_append]; simp
theorem ok_no (B : Int → Int → Int → Bool) (ps : List (Int × Int)) (k : Nat) (h : k < ps.length) (hp : (B (ps.getD k (0, 0)).1 (ps.getD k (0, 0)).2 1 && B (ps.getD k (0, 0)).1 (ps.getD k (0, 0)).2 2) = false) : okF B ps = false := by
  unfold okF
  rw [Bool.eq_false_iff, ne_eq, List.all_eq_true]
  intro hall
  have := hall (ps[k]) (List.getElem_mem h)
  rw [List.getD_eq_getElem?_getD, List.getElem?_eq_getElem h] at hp
  simp [this] at hp

theorem told_bad {N : Int → Int → Int → Int} {B : Int → Int → Int → Bool} {a b : En} {ps : List (Int × Int)} (h : okE B a b ps = false) : toldE N B a b ps = wrongE := by
  unfold toldE; rw [h]; rfl
theorem told_ok {N : Int → Int → Int → Int} {B : Int → Int → Int → Bool} {a b : En} {ps : List (Int × Int)} (h : okE B a b ps = true) : toldE N B a b ps = ⟨N a.v b.v 0, lowF N ps, highF N ps, false⟩ := by
  unfold toldE; rw [h]; rfl

set_option maxHeartbeats 2000000 in
theorem toldE_any (K : Nat) (N : Int → Int → Int → Int) (B : Int → Int → Int → Bool) (a b : En) (ps : List (Int × Int)) (blk : Nat) (w : World)
    (eg : ∀ (args : Array Value) (w : World), (callFunc K args).run Tryz.prog w = .ok (.enter K args) w)
    (hf : ∀ x y m w', Calls Tryz.prog K #[prV x y, .int .i64 m] w' fun e w'' => e = .returned (.tuple #[.int .i64 (N x y m), .bool (B x y m)]) ∧ Bl w' w'')
    (hl : ps.length ≤ 4) (hp : Prs w blk ps) :
    Calls Tryz.prog 210 #[enV a, enV b, .func (.func K) #[] #[], .slice (some ⟨blk, 0, none⟩) ps.length ps.length] w fun e w' => e = .returned (enV (toldE N B a b ps)) ∧ Bl w w' := by
  obtain ⟨W, hW⟩ : ∃ W, W = ((w.alloc (.cells #[.int .i64 a.v, .int .i64 a.l, .int .i64 a.h, .bool a.bad] 28)).alloc (.cells #[.int .i64 b.v, .int .i64 b.l, .int .i64 b.h, .bool b.bad] 28)).alloc (.cells #[.int .i64 0, .int .i64 0, .int .i64 0, .bool false] 28) := ⟨_, rfl⟩
  have b0 : Bl w W := by rw [hW]; exact (((Bl.refl _).alloc _).alloc _).alloc _
  have xa : Box W w.heap.size a := by
    rw [hW]
    exact (Box.new w a 28).later (((Bl.refl _).alloc _).alloc _)
  have xb : Box W (w.heap.size + 1) b := by
    rw [hW]
    have := (Box.new (w.alloc (.cells #[.int .i64 a.v, .int .i64 a.l, .int .i64 a.h, .bool a.bad] 28)) b 28).later ((Bl.refl _).alloc (.cells #[.int .i64 0, .int .i64 0, .int .i64 0, .bool false] 28))
    simpa using this
  have xz : Box W (w.heap.size + 2) zeroE := by
    rw [hW]
    have := Box.new ((w.alloc (.cells #[.int .i64 a.v, .int .i64 a.l, .int .i64 a.h, .bool a.bad] 28)).alloc (.cells #[.int .i64 b.v, .int .i64 b.l, .int .i64 b.h, .bool b.bad] 28)) zeroE 28
    simpa [zeroE] using this
  have ca := xa.c0
  have cb := xb.c0
  have HW := hideP hW
  have HF := hideP hf
  have HP := hideP (hp.later b0)
  have XA := hideP xa
  have XB := hideP xb
  have XZ := hideP xz
  have HB0 := hideP b0
  clear hW hf hp xa xb xz b0
  have hbad : ∀ w1, Bl W w1 → okE B a b ps = false → True := fun _ _ _ => trivial
  clear hbad
  have FA := hideP (fine_any a)
  have FB := hideP (fine_any b)
  have TB : okE B a b ps = (B a.v b.v 0 && fineB a && fineB b && okF B ps) := rfl
  cases hv : B a.v b.v 0
  · have HT := hideP (told_bad (N := N) (show okE B a b ps = false by rw [TB, hv]; rfl))
    have F0 := HF.out a.v b.v 0
    rw [hv] at F0
    generalize N a.v b.v 0 = n at F0
    have HF0 := hideP F0
    clear F0 TB hv
    go_enter Tryz.func210, Tryz.ntmps210
    go_wp2_with fail
    rw [← HW.out]
    go_wp2_with fail
    refine (HF0.out _).mono ?_
    rintro e w1 ⟨rfl, h1⟩
    go_wp2_with fail
    refine (wrong_any _).mono ?_
    rintro e w2 ⟨rfl, h2⟩
    obtain ⟨c0, c1, c2, c3, f0, f1, f2, f3, lt⟩ := XZ.out.later (h1.trans h2)
    go_wp2
    rw [HT.out]
    simp [bodyPost, results, Tryz.results210, go_sem, c0, c1, c2, c3]
    exact Bl.set4 ((HB0.out.trans h1).trans h2) (by omega) _ _ _ _
  have F0 := HF.out a.v b.v 0
  rw [hv] at F0
  cases ha : fineB a
  · have HT := hideP (told_bad (N := N) (show okE B a b ps = false by rw [TB, ha]; simp))
    have A0 := FA.out
    rw [ha] at A0
    generalize N a.v b.v 0 = n at F0
    have HF0 := hideP F0
    have HA0 := hideP A0
    clear F0 A0 TB hv ha
    go_enter Tryz.func210, Tryz.ntmps210
    go_wp2_with fail
    rw [← HW.out]
    go_wp2_with fail
    refine (HF0.out _).mono ?_
    rintro e w1 ⟨rfl, h1⟩
    obtain ⟨a0, a1, a2, a3, _, _, _, _, _⟩ := XA.out.later h1
    go_wp2_with fail
    refine (HA0.out _).mono ?_
    rintro e w2 ⟨rfl, h2⟩
    go_wp2_with fail
    refine (wrong_any _).mono ?_
    rintro e w3 ⟨rfl, h3⟩
    obtain ⟨c0, c1, c2, c3, f0, f1, f2, f3, lt⟩ := XZ.out.later ((h1.trans h2).trans h3)
    go_wp2
    rw [HT.out]
    simp [bodyPost, results, Tryz.results210, go_sem, c0, c1, c2, c3]
    exact Bl.set4 (((HB0.out.trans h1).trans h2).trans h3) (by omega) _ _ _ _
  have A0 := FA.out
  rw [ha] at A0
  cases hb : fineB b
  · have HT := hideP (told_bad (N := N) (show okE B a b ps = false by rw [TB, hb]; simp))
    have B0 := FB.out
    rw [hb] at B0
    generalize N a.v b.v 0 = n at F0
    have HF0 := hideP F0
    have HA0 := hideP A0
    have HB1 := hideP B0
    clear F0 A0 B0 TB hv ha hb
    go_enter Tryz.func210, Tryz.ntmps210
    go_wp2_with fail
    rw [← HW.out]
    go_wp2_with fail
    refine (HF0.out _).mono ?_
    rintro e w1 ⟨rfl, h1⟩
    obtain ⟨a0, a1, a2, a3, _, _, _, _, _⟩ := XA.out.later h1
    go_wp2_with fail
    refine (HA0.out _).mono ?_
    rintro e w2 ⟨rfl, h2⟩
    obtain ⟨d0, d1, d2, d3, _, _, _, _, _⟩ := XB.out.later (h1.trans h2)
    go_wp2_with fail
    refine (HB1.out _).mono ?_
    rintro e w3 ⟨rfl, h3⟩
    go_wp2_with fail
    refine (wrong_any _).mono ?_
    rintro e w4 ⟨rfl, h4⟩
    obtain ⟨c0, c1, c2, c3, f0, f1, f2, f3, lt⟩ := XZ.out.later (((h1.trans h2).trans h3).trans h4)
    go_wp2
    rw [HT.out]
    simp [bodyPost, results, Tryz.results210, go_sem, c0, c1, c2, c3]
    exact Bl.set4 ((((HB0.out.trans h1).trans h2).trans h3).trans h4) (by omega) _ _ _ _
  have B0 := FB.out
  rw [hb] at B0
  have TT : okE B a b ps = okF B ps := by rw [TB, hv, ha, hb]; rfl
  have HTB := hideP (fun h => told_bad (N := N) (show okE B a b ps = false from TT.trans h))
  have HTO := hideP (fun h => told_ok (N := N) (show okE B a b ps = true from TT.trans h))
  generalize N a.v b.v 0 = n at F0 HTO
  have HF0 := hideP F0
  have HA0 := hideP A0
  have HB1 := hideP B0
  clear F0 A0 B0 TB TT hv ha hb FA FB
  go_enter Tryz.func210, Tryz.ntmps210
  go_wp2_with fail
  rw [← HW.out]
  go_wp2_with fail
  refine (HF0.out _).mono ?_
  rintro e w1 ⟨rfl, h1⟩
  obtain ⟨a0, a1, a2, a3, _, _, _, _, _⟩ := XA.out.later h1
  go_wp2_with fail
  refine (HA0.out _).mono ?_
  rintro e w2 ⟨rfl, h2⟩
  obtain ⟨d0, d1, d2, d3, _, _, _, _, _⟩ := XB.out.later (h1.trans h2)
  go_wp2_with fail
  refine (HB1.out _).mono ?_
  rintro e w3 ⟨rfl, h3⟩
  have HB3 := hideP ((h1.trans h2).trans h3)
  clear h1 h2 h3 a0 a1 a2 a3 d0 d1 d2 d3 ca cb
  go_wp2_with fail
  go_loopw [11, 12, 44] (fun lo hi i wr => ∃ k : Nat, k ≤ ps.length ∧ i = .int .i64 k ∧ lo = .int .i64 (lowF N (ps.take k)) ∧ hi = .int .i64 (highF N (ps.take k)) ∧ okF B (ps.take k) = true ∧ Bl w3 wr) (fun _ _ i _ => ps.length - (intOf i).toNat)
  case atStart => exact ⟨0, by omega, rfl, rfl, rfl, rfl, Bl.refl _⟩
  case round =>
    obtain ⟨k, hk, rfl, rfl, rfl, ho, hB⟩ := hrel
    by_cases hlt : k < ps.length
    · obtain ⟨p0, p1⟩ := (HP.out.later (HB3.out.trans hB)).2 k hlt
      have e1 := low_snoc N (ps.take k) (ps.getD k (0, 0))
      have e2 := high_snoc N (ps.take k) (ps.getD k (0, 0))
      have e3 := ok_snoc B (ps.take k) (ps.getD k (0, 0))
      rw [← take_getD ps k hlt] at e1 e2 e3
      have e4 := ok_no B ps k hlt
      have D := HF.out (ps.getD k (0, 0)).1 (ps.getD k (0, 0)).2 1
      have U := HF.out (ps.getD k (0, 0)).1 (ps.getD k (0, 0)).2 2
      rw [ho] at e3
      generalize (ps.getD k (0, 0)).1 = x at *
      generalize (ps.getD k (0, 0)).2 = y at *
      generalize N x y 1 = n1 at *
      generalize N x y 2 = n2 at *
      obtain ⟨V, hV⟩ : ∃ V, V = wr.alloc (.cells #[.int .i64 x, .int .i64 y] 219) := ⟨_, rfl⟩
      have bV : Bl wr V := by rw [hV]; exact (Bl.refl _).alloc _
      have v0 : V.cell? ⟨wr.heap.size, 0, none⟩ = some (.int .i64 x) := by rw [hV]; simp [go_sem]
      have v1 : V.cell? ⟨wr.heap.size, 1, none⟩ = some (.int .i64 y) := by rw [hV]; simp [go_sem]
      have lV : wr.heap.size < V.heap.size := by rw [hV]; simp
      have HV := hideP hV
      have HC := hideP (And.intro v0 v1)
      clear hV v0 v1
      have E4 := hideP e4
      clear e4
      have E1 := hideP e1
      have E2 := hideP e2
      have E3 := hideP e3
      clear e1 e2 e3 ho
      generalize lowF N (ps.take k) = lo at *
      generalize highF N (ps.take k) = hi at *
      cases hd : B x y 1
      · have HT := hideP (HTB.out (E4.out (by rw [hd]; rfl)))
        rw [hd] at D
        have HD := hideP D
        have HU := hideP U
        clear D U hd
        go_wp2_with fail
        rw [← HV.out]
        refine (HD.out _).mono ?_
        rintro e w4 ⟨rfl, h4⟩
        have v0 : w4.cell? ⟨wr.heap.size, 0, none⟩ = some (.int .i64 x) := by rw [bl_cell h4 _ _ lV]; exact HC.out.1
        have v1 : w4.cell? ⟨wr.heap.size, 1, none⟩ = some (.int .i64 y) := by rw [bl_cell h4 _ _ lV]; exact HC.out.2
        go_wp2_with fail
        refine (HU.out _).mono ?_
        rintro e w5 ⟨rfl, h5⟩
        go_wp2_with fail
        refine (wrong_any _).mono ?_
        rintro e w6 ⟨rfl, h6⟩
        obtain ⟨c0, c1, c2, c3, f0, f1, f2, f3, lt⟩ := XZ.out.later (((((HB3.out.trans hB).trans bV).trans h4).trans h5).trans h6)
        go_wp2
        rw [HT.out]
        simp [bodyPost, results, Tryz.results210, go_sem, c0, c1, c2, c3]
        exact Bl.set4 (((((((HB0.out.trans HB3.out)).trans hB).trans bV).trans h4).trans h5).trans h6) (by omega) _ _ _ _
      · cases hu : B x y 2
        · have HT := hideP (HTB.out (E4.out (by rw [hd, hu]; rfl)))
          rw [hd] at D
          rw [hu] at U
          have HD := hideP D
          have HU := hideP U
          clear D U hd hu
          go_wp2_with fail
          rw [← HV.out]
          refine (HD.out _).mono ?_
          rintro e w4 ⟨rfl, h4⟩
          have v0 : w4.cell? ⟨wr.heap.size, 0, none⟩ = some (.int .i64 x) := by rw [bl_cell h4 _ _ lV]; exact HC.out.1
          have v1 : w4.cell? ⟨wr.heap.size, 1, none⟩ = some (.int .i64 y) := by rw [bl_cell h4 _ _ lV]; exact HC.out.2
          go_wp2_with fail
          refine (HU.out _).mono ?_
          rintro e w5 ⟨rfl, h5⟩
          go_wp2_with fail
          refine (wrong_any _).mono ?_
          rintro e w6 ⟨rfl, h6⟩
          obtain ⟨c0, c1, c2, c3, f0, f1, f2, f3, lt⟩ := XZ.out.later (((((HB3.out.trans hB).trans bV).trans h4).trans h5).trans h6)
          go_wp2
          rw [HT.out]
          simp [bodyPost, results, Tryz.results210, go_sem, c0, c1, c2, c3]
          exact Bl.set4 (((((((HB0.out.trans HB3.out)).trans hB).trans bV).trans h4).trans h5).trans h6) (by omega) _ _ _ _
        · have HG := hideP (show okF B (ps.take (k + 1)) = true by rw [E3.out, hd, hu]; rfl)
          rw [hd] at D
          rw [hu] at U
          have HD := hideP D
          have HU := hideP U
          clear D U hd hu
          go_wp2_with fail
          rw [← HV.out]
          refine (HD.out _).mono ?_
          rintro e w4 ⟨rfl, h4⟩
          have v0 : w4.cell? ⟨wr.heap.size, 0, none⟩ = some (.int .i64 x) := by rw [bl_cell h4 _ _ lV]; exact HC.out.1
          have v1 : w4.cell? ⟨wr.heap.size, 1, none⟩ = some (.int .i64 y) := by rw [bl_cell h4 _ _ lV]; exact HC.out.2
          go_wp2_with fail
          refine (HU.out _).mono ?_
          rintro e w5 ⟨rfl, h5⟩
          go_wp2
          go_roundw
          case rel => exact ⟨k + 1, by omega, by go_num, by rw [E1.out], by rw [E2.out], HG.out, ((hB.trans bV).trans h4).trans h5⟩
          case measure => simp [intOf]; omega
    · have e : ps.take k = ps := List.take_of_length_le (by omega)
      rw [e] at ho ⊢
      have HO := hideP (HTO.out ho)
      obtain ⟨c0, c1, c2, c3, f0, f1, f2, f3, lt⟩ := XZ.out.later (HB3.out.trans hB)
      have HBB := hideP ((HB0.out.trans HB3.out).trans hB)
      clear ho e hB
      generalize lowF N ps = lo at *
      generalize highF N ps = hi at *
      go_wp2
      rw [HO.out]
      simp [bodyPost, results, Tryz.results210, go_sem, c0, c1, c2, c3]
      exact Bl.set4 HBB.out (by omega) _ _ _ _
end Go.Proofs.YtlbmkjicbkfmjaaGreat

/- Contracts of env's Add, Sub, Mul, Div, Root (layer 3). -/
namespace Go.Proofs.YtlbmkjicbkfmjaaGreat
open Go.RowKit
set_option linter.unusedSimpArgs false
set_option linter.unusedVariables false

theorem addF_any (x y m : Int) (w : World) :
    Calls Tryz.prog 208 #[prV x y, .int .i64 m] w fun e w' => e = .returned (.tuple #[.int .i64 (nA x y m), .bool (bA x y m)]) ∧ Bl w w' := by
  go_enter Tryz.func208, Tryz.ntmps208
  go_wp2_with (go_at_call 209; refine (fadd_any _ _ _).mono ?_; rintro e w1 ⟨rfl, h1⟩)
  go_ret2
  exact ⟨rfl, ((Bl.refl _).alloc _).trans h1⟩
theorem subF_any (x y m : Int) (w : World) :
    Calls Tryz.prog 217 #[prV x y, .int .i64 m] w fun e w' => e = .returned (.tuple #[.int .i64 (nS x y m), .bool (bS x y m)]) ∧ Bl w w' := by
  go_enter Tryz.func217, Tryz.ntmps217
  go_wp2_with (go_at_call 218; refine (fsub_any _ _ _).mono ?_; rintro e w1 ⟨rfl, h1⟩)
  go_ret2
  exact ⟨rfl, ((Bl.refl _).alloc _).trans h1⟩
theorem mulF_any (x y m : Int) (w : World) :
    Calls Tryz.prog 213 #[prV x y, .int .i64 m] w fun e w' => e = .returned (.tuple #[.int .i64 (fmN x y m), .bool (fmB x y m)]) ∧ Bl w w' := by
  go_enter Tryz.func213, Tryz.ntmps213
  go_wp2_with (go_at_call 214; refine (fmul_any _ _ _ _).mono ?_; rintro e w1 ⟨rfl, h1⟩)
  go_ret2
  exact ⟨rfl, ((Bl.refl _).alloc _).trans h1⟩
theorem divF_any (x y m : Int) (w : World) :
    Calls Tryz.prog 211 #[prV x y, .int .i64 m] w fun e w' => e = .returned (.tuple #[.int .i64 (fdN x y m), .bool (fdB x y m)]) ∧ Bl w w' := by
  go_enter Tryz.func211, Tryz.ntmps211
  go_wp2_with (go_at_call 212; refine (fdiv_any _ _ _ _).mono ?_; rintro e w1 ⟨rfl, h1⟩)
  go_ret2
  exact ⟨rfl, ((Bl.refl _).alloc _).trans h1⟩
theorem rootF_any (x y m : Int) (w : World) :
    Calls Tryz.prog 215 #[prV x y, .int .i64 m] w fun e w' => e = .returned (.tuple #[.int .i64 (nQ x y m), .bool (bQ x y m)]) ∧ Bl w w' := by
  go_enter Tryz.func215, Tryz.ntmps215
  go_wp2_with (go_at_call 216; refine (froot_any _ _ _).mono ?_; rintro e w1 ⟨rfl, h1⟩)
  go_ret2
  exact ⟨rfl, ((Bl.refl _).alloc _).trans h1⟩

theorem Prs.two (w : World) (blk : Nat) (hb : blk = w.heap.size) (x0 y0 x1 y1 : Int) (t : TypeId) : Prs (w.alloc (.cells #[.int .i64 x0, .int .i64 y0, .int .i64 x1, .int .i64 y1] t)) blk [(x0, y0), (x1, y1)] := by
  subst hb
  refine ⟨by simp, fun k hk => ?_⟩
  rcases (by simp at hk; omega : k = 0 ∨ k = 1) with rfl | rfl <;> simp [go_sem]
theorem Prs.four (w : World) (blk : Nat) (hb : blk = w.heap.size) (x0 y0 x1 y1 x2 y2 x3 y3 : Int) (t : TypeId) : Prs (w.alloc (.cells #[.int .i64 x0, .int .i64 y0, .int .i64 x1, .int .i64 y1, .int .i64 x2, .int .i64 y2, .int .i64 x3, .int .i64 y3] t)) blk [(x0, y0), (x1, y1), (x2, y2), (x3, y3)] := by
  subst hb
  refine ⟨by simp, fun k hk => ?_⟩
  rcases (by simp at hk; omega : k = 0 ∨ k = 1 ∨ k = 2 ∨ k = 3) with rfl | rfl | rfl | rfl <;> simp [go_sem]

theorem addT (a b : En) (blk : Nat) (w : World) (h : Prs w blk (prs2 a b)) :
    Calls Tryz.prog 210 #[enV a, enV b, .func (.func 208) #[] #[], .slice (some ⟨blk, 0, none⟩) 2 2] w fun e w' => e = .returned (enV (addE a b)) ∧ Bl w w' :=
  toldE_any _ nA bA a b (prs2 a b) blk w (enters Tryz.func208 (by kernel_rfl) rfl) addF_any (by simp [prs2]) h
theorem subT (a b : En) (blk : Nat) (w : World) (h : Prs w blk (prsX a b)) :
    Calls Tryz.prog 210 #[enV a, enV b, .func (.func 217) #[] #[], .slice (some ⟨blk, 0, none⟩) 2 2] w fun e w' => e = .returned (enV (subE a b)) ∧ Bl w w' :=
  toldE_any _ nS bS a b (prsX a b) blk w (enters Tryz.func217 (by kernel_rfl) rfl) subF_any (by simp [prsX]) h
theorem mulT (a b : En) (blk : Nat) (w : World) (h : Prs w blk (prs4 a b)) :
    Calls Tryz.prog 210 #[enV a, enV b, .func (.func 213) #[] #[], .slice (some ⟨blk, 0, none⟩) 4 4] w fun e w' => e = .returned (enV (mulE a b)) ∧ Bl w w' :=
  toldE_any _ fmN fmB a b (prs4 a b) blk w (enters Tryz.func213 (by kernel_rfl) rfl) mulF_any (by simp [prs4]) h
theorem divT (a b : En) (blk : Nat) (w : World) (h : Prs w blk (prs4 a b)) :
    Calls Tryz.prog 210 #[enV a, enV b, .func (.func 211) #[] #[], .slice (some ⟨blk, 0, none⟩) 4 4] w fun e w' => e = .returned (enV (toldE fdN fdB a b (prs4 a b))) ∧ Bl w w' :=
  toldE_any _ fdN fdB a b (prs4 a b) blk w (enters Tryz.func211 (by kernel_rfl) rfl) divF_any (by simp [prs4]) h
theorem rootT (a : En) (blk : Nat) (w : World) (h : Prs w blk (prs2 a a)) :
    Calls Tryz.prog 210 #[enV a, enV a, .func (.func 215) #[] #[], .slice (some ⟨blk, 0, none⟩) 2 2] w fun e w' => e = .returned (enV (rootE a)) ∧ Bl w w' :=
  toldE_any _ nQ bQ a a (prs2 a a) blk w (enters Tryz.func215 (by kernel_rfl) rfl) rootF_any (by simp [prs2]) h

/-- The world behind the boxes of two numbers, and of a third one that is yet to be told. -/
structure Three (w W : World) (a b : En) : Prop where
  eq : W = ((w.alloc (.cells #[.int .i64 a.v, .int .i64 a.l, .int .i64 a.h, .bool a.bad] 28)).alloc (.cells #[.int .i64 b.v, .int .i64 b.l, .int .i64 b.h, .bool b.bad] 28)).alloc (.cells #[.int .i64 0, .int .i64 0, .int .i64 0, .bool false] 28)
  bl : Bl w W
  ba : Box W w.heap.size a
  bb : Box W (w.heap.size + 1) b
  bz : Box W (w.heap.size + 1 + 1) zeroE
  size : W.heap.size = w.heap.size + 1 + 1 + 1
theorem three_ex (w : World) (a b : En) : ∃ W, Three w W a b := by
  refine ⟨_, rfl, (((Bl.refl _).alloc _).alloc _).alloc _, (Box.new w a 28).later (((Bl.refl _).alloc _).alloc _), ?_, ?_, by simp⟩
  · have := (Box.new (w.alloc (.cells #[.int .i64 a.v, .int .i64 a.l, .int .i64 a.h, .bool a.bad] 28)) b 28).later ((Bl.refl _).alloc (.cells #[.int .i64 0, .int .i64 0, .int .i64 0, .bool false] 28))
    simpa using this
  · have := Box.new ((w.alloc (.cells #[.int .i64 a.v, .int .i64 a.l, .int .i64 a.h, .bool a.bad] 28)).alloc (.cells #[.int .i64 b.v, .int .i64 b.l, .int .i64 b.h, .bool b.bad] 28)) zeroE 28
    simpa [zeroE] using this

theorem eadd_any (a b : En) (w : World) :
    Calls Tryz.prog 201 #[enV a, enV b] w fun e w' => e = .returned (enV (addE a b)) ∧ Bl w w' := by
  obtain ⟨W, X⟩ := three_ex w a b
  have HX := hideP X
  clear X
  have T := hideP (addT a b)
  generalize addE a b = r at *
  go_enter Tryz.func201, Tryz.ntmps201
  go_wp2_with fail
  rw [← HX.out.eq]
  refine (T.out _ _ (Prs.two _ _ HX.out.size.symm _ _ _ _ _)).mono ?_
  rintro e w1 ⟨rfl, h1⟩
  obtain ⟨c0, c1, c2, c3, f0, f1, f2, f3, lt⟩ := HX.out.bz.later (((Bl.refl _).alloc _).trans h1)
  go_wp2
  simp [bodyPost, results, Tryz.results201, go_sem, c0, c1, c2, c3]
  exact Bl.set4 ((HX.out.bl.alloc _).trans h1) (by omega) _ _ _ _
theorem esub_any (a b : En) (w : World) :
    Calls Tryz.prog 207 #[enV a, enV b] w fun e w' => e = .returned (enV (subE a b)) ∧ Bl w w' := by
  obtain ⟨W, X⟩ := three_ex w a b
  have HX := hideP X
  clear X
  have T := hideP (subT a b)
  generalize subE a b = r at *
  go_enter Tryz.func207, Tryz.ntmps207
  go_wp2_with fail
  rw [← HX.out.eq]
  refine (T.out _ _ (Prs.two _ _ HX.out.size.symm _ _ _ _ _)).mono ?_
  rintro e w1 ⟨rfl, h1⟩
  obtain ⟨c0, c1, c2, c3, f0, f1, f2, f3, lt⟩ := HX.out.bz.later (((Bl.refl _).alloc _).trans h1)
  go_wp2
  simp [bodyPost, results, Tryz.results207, go_sem, c0, c1, c2, c3]
  exact Bl.set4 ((HX.out.bl.alloc _).trans h1) (by omega) _ _ _ _
theorem emul_any (a b : En) (w : World) :
    Calls Tryz.prog 203 #[enV a, enV b] w fun e w' => e = .returned (enV (mulE a b)) ∧ Bl w w' := by
  obtain ⟨W, X⟩ := three_ex w a b
  have HX := hideP X
  clear X
  have T := hideP (mulT a b)
  generalize mulE a b = r at *
  go_enter Tryz.func203, Tryz.ntmps203
  go_wp2_with fail
  rw [← HX.out.eq]
  refine (T.out _ _ (Prs.four _ _ HX.out.size.symm _ _ _ _ _ _ _ _ _)).mono ?_
  rintro e w1 ⟨rfl, h1⟩
  obtain ⟨c0, c1, c2, c3, f0, f1, f2, f3, lt⟩ := HX.out.bz.later (((Bl.refl _).alloc _).trans h1)
  go_wp2
  simp [bodyPost, results, Tryz.results203, go_sem, c0, c1, c2, c3]
  exact Bl.set4 ((HX.out.bl.alloc _).trans h1) (by omega) _ _ _ _

theorem ediv_any (a b : En) (w : World) :
    Calls Tryz.prog 202 #[enV a, enV b] w fun e w' => e = .returned (enV (divE a b)) ∧ Bl w w' := by
  obtain ⟨W, X⟩ := three_ex w a b
  have HX := hideP X
  clear X
  have T := hideP (divT a b)
  unfold divE
  generalize toldE fdN fdB a b (prs4 a b) = r at *
  have hcase : (decide (b.l ≤ 0) = false) ∨ (decide (b.l ≤ 0) = true ∧ decide (0 ≤ b.h) = false) ∨ (decide (b.l ≤ 0) = true ∧ decide (0 ≤ b.h) = true) := by
    cases decide (b.l ≤ 0) <;> cases decide (0 ≤ b.h) <;> simp
  rcases hcase with k1 | ⟨k1, k2⟩ | ⟨k1, k2⟩
  · have hz : zeroB b = false := by unfold zeroB; rw [k1]; rfl
    rw [hz]
    clear hz
    have k := of_decide_eq_false k1
    go_enter Tryz.func202, Tryz.ntmps202
    go_wp2_with fail
    rw [← HX.out.eq]
    refine (T.out _ _ (Prs.four _ _ HX.out.size.symm _ _ _ _ _ _ _ _ _)).mono ?_
    rintro e w1 ⟨rfl, h1⟩
    obtain ⟨c0, c1, c2, c3, f0, f1, f2, f3, lt⟩ := HX.out.bz.later (((Bl.refl _).alloc _).trans h1)
    go_wp2
    simp [bodyPost, results, Tryz.results202, go_sem, c0, c1, c2, c3]
    exact Bl.set4 ((HX.out.bl.alloc _).trans h1) (by omega) _ _ _ _
  · have hz : zeroB b = false := by unfold zeroB; rw [k1, k2]; rfl
    rw [hz]
    clear hz
    have k := of_decide_eq_true k1
    have k' := of_decide_eq_false k2
    go_enter Tryz.func202, Tryz.ntmps202
    go_wp2_with fail
    rw [← HX.out.eq]
    refine (T.out _ _ (Prs.four _ _ HX.out.size.symm _ _ _ _ _ _ _ _ _)).mono ?_
    rintro e w1 ⟨rfl, h1⟩
    obtain ⟨c0, c1, c2, c3, f0, f1, f2, f3, lt⟩ := HX.out.bz.later (((Bl.refl _).alloc _).trans h1)
    go_wp2
    simp [bodyPost, results, Tryz.results202, go_sem, c0, c1, c2, c3]
    exact Bl.set4 ((HX.out.bl.alloc _).trans h1) (by omega) _ _ _ _
  · have hz : zeroB b = true := by unfold zeroB; rw [k1, k2]; rfl
    rw [hz]
    clear hz
    have k := of_decide_eq_true k1
    have k' := of_decide_eq_true k2
    go_enter Tryz.func202, Tryz.ntmps202
    go_wp2_with fail
    rw [← HX.out.eq]
    refine (wrong_any _).mono ?_
    rintro e w1 ⟨rfl, h1⟩
    obtain ⟨c0, c1, c2, c3, f0, f1, f2, f3, lt⟩ := HX.out.bz.later h1
    go_wp2
    simp [bodyPost, results, Tryz.results202, go_sem, c0, c1, c2, c3]
    exact Bl.set4 (HX.out.bl.trans h1) (by omega) _ _ _ _

/-- The world behind the box of one number, and of another one that is yet to be told. -/
structure Two (w W : World) (a : En) : Prop where
  eq : W = (w.alloc (.cells #[.int .i64 a.v, .int .i64 a.l, .int .i64 a.h, .bool a.bad] 28)).alloc (.cells #[.int .i64 0, .int .i64 0, .int .i64 0, .bool false] 28)
  bl : Bl w W
  ba : Box W w.heap.size a
  bz : Box W (w.heap.size + 1) zeroE
  size : W.heap.size = w.heap.size + 1 + 1
theorem two_ex (w : World) (a : En) : ∃ W, Two w W a := by
  refine ⟨_, rfl, ((Bl.refl _).alloc _).alloc _, (Box.new w a 28).later ((Bl.refl _).alloc _), ?_, by simp⟩
  have := Box.new (w.alloc (.cells #[.int .i64 a.v, .int .i64 a.l, .int .i64 a.h, .bool a.bad] 28)) zeroE 28
  simpa [zeroE] using this
theorem eroot_any (a : En) (w : World) :
    Calls Tryz.prog 205 #[enV a] w fun e w' => e = .returned (enV (rootE a)) ∧ Bl w w' := by
  obtain ⟨W, X⟩ := two_ex w a
  have HX := hideP X
  clear X
  have T := hideP (rootT a)
  generalize rootE a = r at *
  go_enter Tryz.func205, Tryz.ntmps205
  go_wp2_with fail
  rw [← HX.out.eq]
  refine (T.out _ _ (Prs.two _ _ HX.out.size.symm _ _ _ _ _)).mono ?_
  rintro e w1 ⟨rfl, h1⟩
  obtain ⟨c0, c1, c2, c3, f0, f1, f2, f3, lt⟩ := HX.out.bz.later (((Bl.refl _).alloc _).trans h1)
  go_wp2
  simp [bodyPost, results, Tryz.results205, go_sem, c0, c1, c2, c3]
  exact Bl.set4 ((HX.out.bl.alloc _).trans h1) (by omega) _ _ _ _

end Go.Proofs.YtlbmkjicbkfmjaaGreat

/- The contract of env's Neg (layer 3). -/
namespace Go.Proofs.YtlbmkjicbkfmjaaGreat
open Go.RowKit
set_option linter.unusedSimpArgs false
set_option linter.unusedVariables false

def negE (a : En) : En := subE (ptE 0 true) a
theorem point0 (w : World) : Calls Tryz.prog 24 #[.int .i64 0] w fun e w' => e = .returned (enV (ptE 0 true)) ∧ Bl w w' := pointE_any 0 w
theorem eneg_any (a : En) (w : World) :
    Calls Tryz.prog 204 #[enV a] w fun e w' => e = .returned (enV (negE a)) ∧ Bl w w' := by
  obtain ⟨W, X⟩ := two_ex w a
  have HX := hideP X
  have KP := hideP (fun w' (h : Bl W w') => (⟨(X.ba.later h).c0, (X.ba.later h).c1, (X.ba.later h).c2, (X.ba.later h).c3, (X.bz.later h).f0, (X.bz.later h).f1, (X.bz.later h).f2, (X.bz.later h).f3, (X.bz.later h).c0, (X.bz.later h).c1, (X.bz.later h).c2, (X.bz.later h).c3⟩ :
    w'.cell? ⟨w.heap.size, 0, none⟩ = some (.int .i64 a.v) ∧ w'.cell? ⟨w.heap.size, 1, none⟩ = some (.int .i64 a.l) ∧ w'.cell? ⟨w.heap.size, 2, none⟩ = some (.int .i64 a.h) ∧ w'.cell? ⟨w.heap.size, 3, none⟩ = some (.bool a.bad) ∧ w'.frozen? ⟨w.heap.size + 1, 0, none⟩ = false ∧ w'.frozen? ⟨w.heap.size + 1, 1, none⟩ = false ∧ w'.frozen? ⟨w.heap.size + 1, 2, none⟩ = false ∧ w'.frozen? ⟨w.heap.size + 1, 3, none⟩ = false ∧ w'.cell? ⟨w.heap.size + 1, 0, none⟩ = some (.int .i64 0) ∧ w'.cell? ⟨w.heap.size + 1, 1, none⟩ = some (.int .i64 0) ∧ w'.cell? ⟨w.heap.size + 1, 2, none⟩ = some (.int .i64 0) ∧ w'.cell? ⟨w.heap.size + 1, 3, none⟩ = some (.bool false)))
  clear X
  have T := hideP (esub_any (ptE 0 true) a)
  unfold negE
  generalize subE (ptE 0 true) a = r at *
  go_enter Tryz.func204, Tryz.ntmps204
  go_wp2_with fail
  rw [← HX.out.eq]
  obtain ⟨a0, a1, a2, a3, _, _, _, _, _⟩ := HX.out.ba
  go_region_with
    (first
      | (go_at_call 24; refine (point0 _).mono ?_; rintro e w1 ⟨rfl, h1⟩; obtain ⟨p0, p1, p2, p3, _⟩ := KP.out _ (Bl.trans (by repeat (first | exact Bl.refl _ | apply Bl.drew)) h1))
      | (go_at_call 207; refine (T.out _).mono ?_; rintro e w2 ⟨rfl, h2⟩; obtain ⟨_, _, _, _, f0, f1, f2, f3, c0, c1, c2, c3⟩ := KP.out _ (Bl.trans (Bl.trans (by repeat (first | exact Bl.refl _ | apply Bl.drew)) h1) h2)))
  all_goals
    go_wp2
    simp [bodyPost, results, Tryz.results204, go_sem, c0, c1, c2, c3]
    exact Bl.set4 (Bl.trans (Bl.trans (by repeat (first | exact HX.out.bl | apply Bl.drew)) h1) h2) (by omega) _ _ _ _
end Go.Proofs.YtlbmkjicbkfmjaaGreat

/- Contracts of vec's whole, Sum, Whole, Scale, of enclosed numbers (layer 5). Written by genVe.py. -/
namespace Go.Proofs.YtlbmkjicbkfmjaaGreat
open Go.RowKit
set_option linter.unusedSimpArgs false
set_option linter.unusedVariables false

theorem Tryz.mOfN (x : Value) (w : World) : (method 332 28 x "Of").run Tryz.prog w = .ok (25, x) w := by kernel_rfl
theorem Tryz.mAddN (x : Value) (w : World) : (method 332 28 x "Add").run Tryz.prog w = .ok (201, x) w := by kernel_rfl
theorem Tryz.mSubN (x : Value) (w : World) : (method 332 28 x "Sub").run Tryz.prog w = .ok (207, x) w := by kernel_rfl
theorem Tryz.mMulN (x : Value) (w : World) : (method 332 28 x "Mul").run Tryz.prog w = .ok (203, x) w := by kernel_rfl
theorem Tryz.info_N : (Tryz.prog.info? 28).map (fun i => (i.zero, i.size, i.bytes)) = some (some (.agg #[.int .i64 0, .int .i64 0, .int .i64 0, .bool false]), 4, 32) := by kernel_rfl

/-- A number's cells. -/
def cellsN (x : En) : List Value := [.int .i64 x.v, .int .i64 x.l, .int .i64 x.h, .bool x.bad]
theorem cellsN_len (x : En) : (cellsN x).length = 4 := rfl
theorem Box.fill {u : World} {p : Nat} {r : En} (h : Box u p r) (x : En) : Box ((((u.setCell ⟨p, 0, none⟩ (.int .i64 x.v)).setCell ⟨p, 1, none⟩ (.int .i64 x.l)).setCell ⟨p, 2, none⟩ (.int .i64 x.h)).setCell ⟨p, 3, none⟩ (.bool x.bad)) p x := by
  obtain ⟨c0, c1, c2, c3, f0, f1, f2, f3, lt⟩ := h
  refine ⟨?_, ?_, ?_, ?_, ?_, ?_, ?_, ?_, ?_⟩ <;> simp [go_sem, *]
theorem Box.oth {u : World} {p q : Nat} {r : En} (h : Box u p r) (hne : p ≠ q) (y0 y1 y2 y3 : Value) : Box ((((u.setCell ⟨q, 0, none⟩ (y0)).setCell ⟨q, 1, none⟩ (y1)).setCell ⟨q, 2, none⟩ (y2)).setCell ⟨q, 3, none⟩ (y3)) p r := by
  obtain ⟨c0, c1, c2, c3, f0, f1, f2, f3, lt⟩ := h
  have hne' := hne.symm
  refine ⟨?_, ?_, ?_, ?_, ?_, ?_, ?_, ?_, ?_⟩ <;> simp [go_sem, *]

theorem vwholeN (n : Int) (w : World) :
    Calls Tryz.prog 63 #[.int .i64 n] w fun e w' => e = .returned (enV (ptE (foN n) (foB n))) ∧ Bl w w' := by
  have iv := Tryz.mOfN
  obtain ⟨W, hW⟩ : ∃ W, W = (w.alloc (.cells #[.int .i64 0, .int .i64 0, .int .i64 0, .bool false] 28)).alloc (.cells #[.int .i64 0, .int .i64 0, .int .i64 0, .bool false] 28) := ⟨_, rfl⟩
  have b0 : Bl w W := by rw [hW]; exact ((Bl.refl _).alloc _).alloc _
  have x0 : Box W w.heap.size zeroE := by rw [hW]; exact (Box.new w zeroE _).later ((Bl.refl _).alloc _)
  have HW := hideP hW
  clear hW
  have OF := hideP (ofE_any zeroE n)
  generalize (ptE (foN n) (foB n)) = r at *
  go_enter Tryz.func63, Tryz.ntmps63
  go_wp2_with fail
  rw [← HW.out]
  refine (OF.out _).mono ?_
  rintro e w1 ⟨rfl, h1⟩
  obtain ⟨c0, c1, c2, c3, f0, f1, f2, f3, lt⟩ := x0.later h1
  clear iv
  go_wp2
  simp [bodyPost, results, Tryz.results63, go_sem, c0, c1, c2, c3]
  exact Bl.set4 (b0.trans h1) (Nat.le_refl _) _ _ _ _

/-- The sum of all, from 0 on. -/
def sumN (xs : List En) : En := xs.foldl addE (ptE (foN 0) (foB 0))
theorem sumN_snoc (xs : List En) (k : Nat) (x : En) (h : xs[k]? = some x) : sumN (xs.take (k + 1)) = addE (sumN (xs.take k)) x := by
  unfold sumN
  rw [List.take_add_one, h]
  simp

set_option maxHeartbeats 1000000 in
theorem vsumN (v : Value) (xs : List En) (w : World) (h : Rq 4 cellsN w v xs) (hl : xs.length ≤ 1000000) :
    Calls Tryz.prog 101 #[v] w fun e w' => e = .returned (enV (sumN xs)) ∧ Bl w w' := by
  have iv := Tryz.mAddN
  obtain ⟨W, hW⟩ : ∃ W, W = w.alloc (.cells #[.int .i64 0, .int .i64 0, .int .i64 0, .bool false] 28) := ⟨_, rfl⟩
  have b0 : Bl w W := by rw [hW]; exact (Bl.refl _).alloc _
  have x0 : Box W w.heap.size zeroE := by rw [hW]; exact Box.new w zeroE _
  have HW := hideP hW
  clear hW
  rcases h with ⟨p, cap, rfl, rfl, hpn⟩ | ⟨b, o, cap, rfl, hc, hb, hx⟩
  · go_enter Tryz.func101, Tryz.ntmps101
    go_wp2_with fail
    rw [← HW.out]
    refine (vwholeN 0 _).mono ?_
    rintro e w1 ⟨rfl, h1⟩
    go_wp2_with fail
    go_loopw [9] (fun i wr => i = .int .i64 0 ∧ Box wr w1.heap.size (sumN []) ∧ Box wr w.heap.size zeroE ∧ Bl w wr) (fun i _ => 0)
    case atStart => exact ⟨rfl, Box.new w1 (ptE (foN 0) (foB 0)) _, (x0.later h1).later ((Bl.refl _).alloc _), (b0.trans h1).alloc _⟩
    case round =>
      obtain ⟨rfl, bs, bz, bl⟩ := hrel
      obtain ⟨c0, c1, c2, c3, f0, f1, f2, f3, lt⟩ := bs
      obtain ⟨d0, d1, d2, d3, g0, g1, g2, g3, zlt⟩ := bz
      go_wp2
      simp [bodyPost, results, Tryz.results101, go_sem, d0, d1, d2, d3]
      exact Bl.set4 bl (Nat.le_refl _) _ _ _ _
  · have HX := hideP hx
    clear hx
    go_enter Tryz.func101, Tryz.ntmps101
    go_wp2_with fail
    rw [← HW.out]
    refine (vwholeN 0 _).mono ?_
    rintro e w1 ⟨rfl, h1⟩
    generalize hz : (ptE (foN 0) (foB 0)) = z at *
    go_wp2_with fail
    go_loopw [9] (fun i wr => ∃ k : Nat, i = .int .i64 k ∧ k ≤ xs.length ∧ Box wr w1.heap.size (sumN (xs.take k)) ∧ Box wr w.heap.size zeroE ∧ Bl w wr) (fun i _ => xs.length - (intOf i).toNat)
    case atStart =>
      refine ⟨0, rfl, Nat.zero_le _, ?_, (x0.later h1).later ((Bl.refl _).alloc _), (b0.trans h1).alloc _⟩
      have : sumN (xs.take 0) = z := by rw [← hz]; rfl
      rw [this]
      exact Box.new w1 z _
    case round =>
      obtain ⟨k, rfl, hk, bs, bz, bl⟩ := hrel
      by_cases hlt : k < xs.length
      · obtain ⟨x, hx⟩ : ∃ x, xs[k]? = some x := ⟨_, List.getElem?_eq_getElem hlt⟩
        obtain ⟨c0, c1, c2, c3, f0, f1, f2, f3, lt⟩ := bs
        have CX : ∀ j u, (cellsN x)[j]? = some u → wr.cell? ⟨b, o + k * 4 + j, none⟩ = some u := fun j u hu => (bl_cell bl _ _ hb).trans (HX.out k x hx j u hu)
        have y0 : wr.cell? ⟨b, o + k * 4, none⟩ = some (.int .i64 x.v) := CX 0 _ rfl
        have y1 : wr.cell? ⟨b, o + k * 4 + 1, none⟩ = some (.int .i64 x.l) := CX 1 _ rfl
        have y2 : wr.cell? ⟨b, o + k * 4 + 2, none⟩ = some (.int .i64 x.h) := CX 2 _ rfl
        have y3 : wr.cell? ⟨b, o + k * 4 + 3, none⟩ = some (.bool x.bad) := CX 3 _ rfl
        clear CX
        go_wp2_with fail
        refine (eadd_any _ _ _).mono ?_
        rintro e w2 ⟨rfl, h2⟩
        have bl2 : Bl wr w2 := ((Bl.refl _).alloc _).trans h2
        have bs2 := (⟨c0, c1, c2, c3, f0, f1, f2, f3, lt⟩ : Box wr w1.heap.size (sumN (xs.take k))).later bl2
        have bz2 := bz.later bl2
        clear c0 c1 c2 c3 f0 f1 f2 f3 y0 y1 y2 y3
        obtain ⟨c0, c1, c2, c3, f0, f1, f2, f3, lt2⟩ := id bs2
        have SN := hideP (sumN_snoc xs k x hx)
        generalize hS : addE (sumN (xs.take k)) x = S at *
        go_wp2
        go_roundw
        case rel =>
          refine ⟨k + 1, by simp, hlt, ?_, ?_, ?_⟩
          · rw [SN.out]; exact bs2.fill S
          · exact bz2.oth (by have := b0.size; have := h1.size; have := x0.lt; omega) _ _ _ _
          · exact Bl.set4 (bl.trans bl2) (by have := b0.size; have := h1.size; omega) _ _ _ _
        case measure => simp [intOf]; omega
      · have hk' : k = xs.length := by omega
        subst hk'
        rw [List.take_length] at bs
        obtain ⟨c0, c1, c2, c3, f0, f1, f2, f3, lt⟩ := bs
        obtain ⟨d0, d1, d2, d3, g0, g1, g2, g3, zlt⟩ := bz
        go_wp2
        simp [bodyPost, results, Tryz.results101, go_sem, d0, d1, d2, d3]
        exact Bl.set4 bl (Nat.le_refl _) _ _ _ _

/-- The relation behind an append of one number. -/
theorem ownN_step {w wr w1 : World} {v v' : Value} {xs : List En} {x : En} {o : Obj} (hb : Bl w wr) (hown : wr.ownsRow w.heap.size 28 4 v xs.length (xs.flatMap cellsN))
    (hown' : w1.ownsRow w.heap.size 28 4 v' (xs.length + 1) (xs.flatMap cellsN ++ cellsN x)) (hg : (wr.alloc o).grownBy w1 v.ownBlock) :
    Bl w w1 ∧ w1.ownsRow w.heap.size 28 4 v' (xs ++ [x]).length ((xs ++ [x]).flatMap cellsN) := by
  refine ⟨Below.grown (Below.alloc hb hb.size o) hg (by have := hb.size; simp; omega) (fun k hk => (hown.lt k hk).1), ?_⟩
  simpa [List.flatMap_append] using hown'
/-- What is owned is so behind a call that turns nothing. -/
theorem own_blN {w w' : World} {B n : Nat} {v : Value} {l : List Value} (h : w.ownsRow B 28 4 v n l) (k : Bl w w') : w'.ownsRow B 28 4 v n l := by
  refine ⟨h.1, ?_⟩
  rcases h.2 with hn | ⟨g, cap, cur, rfl, hb, hg, rest⟩
  · exact .inl hn
  · exact .inr ⟨g, cap, cur, rfl, hb, (Below.block k g (Array.getElem?_eq_some_iff.1 hg).1).trans hg, rest⟩
/-- As ownN_step, of a row that lies at or beyond n₀. -/
theorem ownN_step' {n₀ : Nat} {w wr w1 : World} {v v' : Value} {xs : List En} {x : En} {o : Obj} (hb : Bl w wr) (hn : w.heap.size ≤ n₀) (hown : wr.ownsRow n₀ 28 4 v xs.length (xs.flatMap cellsN))
    (hown' : w1.ownsRow n₀ 28 4 v' (xs.length + 1) (xs.flatMap cellsN ++ cellsN x)) (hg : (wr.alloc o).grownBy w1 v.ownBlock) :
    Bl w w1 ∧ w1.ownsRow n₀ 28 4 v' (xs ++ [x]).length ((xs ++ [x]).flatMap cellsN) := by
  refine ⟨Below.grown (Below.alloc hb hb.size o) hg (by have := hb.size; simp; omega) (fun k hk => by have := (hown.lt k hk).1; omega), ?_⟩
  simpa [List.flatMap_append] using hown'
/-- A number's block that lies below n₀ abides an append to a row that lies at or beyond it. -/
theorem Box.grown {n₀ n p : Nat} {w wr w1 : World} {v : Value} {l : List Value} {x : En} (h : Box w p x) (hb : Bl w wr) (hown : w.ownsRow n₀ 28 4 v n l) (hg : wr.grownBy w1 v.ownBlock) (hp : p < n₀) : Box w1 p x := by
  have h' := h.later hb
  have hk : w1.heap[p]? = wr.heap[p]? := hg.block p h'.lt (fun e => by have := (hown.lt p e.symm).1; omega)
  obtain ⟨c0, c1, c2, c3, f0, f1, f2, f3, lt⟩ := h'
  exact ⟨(World.cell?_of_block (a := ⟨p, 0, none⟩) hk).trans c0, (World.cell?_of_block (a := ⟨p, 1, none⟩) hk).trans c1, (World.cell?_of_block (a := ⟨p, 2, none⟩) hk).trans c2, (World.cell?_of_block (a := ⟨p, 3, none⟩) hk).trans c3, (World.frozen?_of_block (a := ⟨p, 0, none⟩) hk).trans f0, (World.frozen?_of_block (a := ⟨p, 1, none⟩) hk).trans f1, (World.frozen?_of_block (a := ⟨p, 2, none⟩) hk).trans f2, (World.frozen?_of_block (a := ⟨p, 3, none⟩) hk).trans f3, by have := hg.size; omega⟩
/-- The cells of a number that was just laid. -/
theorem newN_cells (w : World) (x : En) (t : TypeId) : ∀ j u, (cellsN x)[j]? = some u → (w.alloc (.cells #[.int .i64 x.v, .int .i64 x.l, .int .i64 x.h, .bool x.bad] t)).cell? ((⟨w.heap.size, 0, none⟩ : Addr).add j) = some u := by
  intro j u hu
  have hadd : (⟨w.heap.size, 0, none⟩ : Addr).add j = ⟨w.heap.size, j, none⟩ := by unfold Addr.add; split <;> simp_all
  rw [hadd]
  have h := Box.new w x t
  unfold cellsN at hu
  rcases j with _ | _ | _ | _ | j
  · simp at hu; rw [← hu]; exact h.c0
  · simp at hu; rw [← hu]; exact h.c1
  · simp at hu; rw [← hu]; exact h.c2
  · simp at hu; rw [← hu]; exact h.c3
  · simp at hu
theorem oneN_cells (x : En) : ∀ u ∈ cellsN x, u.oneCell' = true := by
  intro u hu
  unfold cellsN at hu
  simp only [List.mem_cons, List.not_mem_nil, or_false] at hu
  rcases hu with rfl | rfl | rfl | rfl <;> rfl

/-- Whole numbers, of this kind. -/
def wholeN (n : Int) : En := ptE (foN n) (foB n)
set_option maxHeartbeats 1000000 in
theorem vWholeN' (v : Value) (ns : List Int) (w : World) (h : Rq 1 (fun n => [.int .i64 n]) w v ns) (hl : ns.length ≤ 1000000) :
    Calls Tryz.prog 23 #[v] w fun e w' => ∃ u, e = .returned u ∧ Rw 4 cellsN w' u (ns.map wholeN) ∧ Fresh w.heap.size u ∧ Bl w w' := by
  obtain ⟨i0, hi, hz0, hz1, hz2⟩ := info_parts Tryz.info_N
  rcases h with ⟨p, cap, rfl, rfl, hpn⟩ | ⟨b, o, cap, rfl, hc, hb, hx⟩
  · go_enter Tryz.func23, Tryz.ntmps23
    go_wp2_with (at_make; refine wpList_make_own _ rfl _ _ 22 rfl w.heap.size 28 i0 (.agg #[.int .i64 0, .int .i64 0, .int .i64 0, .bool false]) 4 Tryz.underlying22 hi hz0 hz1 .i64 .i64 _ 0 rfl rfl (by simp) (by rw [hz2]; omega) (by unfold maxLen; omega) (Nat.le_refl _) ?_; intro w0 hown0 hgrow0)
    have hB0 : Bl w w0 := (Bl.refl w).grown hgrow0 (by omega) (fun k e => by cases e)
    go_loopw [3, 11] (fun v i wr => i = .int .i64 0 ∧ wr.ownsRow w.heap.size 28 4 v 0 [] ∧ Bl w wr) (fun _ _ _ => 0)
    case atStart => exact ⟨rfl, hown0, hB0⟩
    case round =>
      obtain ⟨rfl, hown, hB⟩ := hrel
      go_wp2
      go_ret
      exact ⟨_, rfl, Rw.of_own cellsN_len (xs := []) hown, fun g hg => (hown.lt g hg).1, hB⟩
  · have HX := hideP hx
    clear hx
    go_enter Tryz.func23, Tryz.ntmps23
    go_wp2_with (at_make; refine wpList_make_own _ rfl _ _ 22 rfl w.heap.size 28 i0 (.agg #[.int .i64 0, .int .i64 0, .int .i64 0, .bool false]) 4 Tryz.underlying22 hi hz0 hz1 .i64 .i64 _ ns.length rfl rfl (by simp) (by rw [hz2]; omega) (by unfold maxLen; omega) (Nat.le_refl _) ?_; intro w0 hown0 hgrow0)
    have hB0 : Bl w w0 := (Bl.refl w).grown hgrow0 (by omega) (fun k e => by cases e)
    go_loopw [3, 11] (fun v i wr => ∃ k : Nat, i = .int .i64 k ∧ k ≤ ns.length ∧ wr.ownsRow w.heap.size 28 4 v ((ns.take k).map wholeN).length (((ns.take k).map wholeN).flatMap cellsN) ∧ Bl w wr) (fun _ i _ => ns.length - (intOf i).toNat)
    case atStart => exact ⟨0, rfl, Nat.zero_le _, hown0, hB0⟩
    case round =>
      obtain ⟨k, rfl, hk, hown, hB⟩ := hrel
      by_cases hlt : k < ns.length
      · obtain ⟨x, hx⟩ : ∃ x, ns[k]? = some x := ⟨_, List.getElem?_eq_getElem hlt⟩
        have y0 : wr.cell? ⟨b, o + k, none⟩ = some (.int .i64 x) := by
          have := (bl_cell hB _ _ hb).trans (HX.out k x hx 0 _ rfl)
          simpa using this
        have hT : (ns.take (k + 1)).map wholeN = (ns.take k).map wholeN ++ [wholeN x] := by rw [List.take_add_one, hx]; simp
        have hkl : ((ns.take k).map wholeN).length = k := by simp; omega
        have HK := hideP hkl
        clear hkl
        have HT := hideP hT
        clear hT
        generalize hys : (ns.take k).map wholeN = ys at *
        clear hys
        go_wp2_with fail
        refine (vwholeN x _).mono ?_
        rintro e w2 ⟨rfl, h2⟩
        have hr : wholeN x = (ptE (foN x) (foB x)) := rfl
        generalize (ptE (foN x) (foB x)) = r at *
        rw [hr] at HT
        clear hr y0
        replace hown := own_blN hown h2
        replace hB := hB.trans h2
        have hkk := HK.out
        go_wp2_with (at_builtin; refine wpList_append_own _ rfl _ _ 22 rfl w.heap.size 28 i0 (.agg #[.int .i64 0, .int .i64 0, .int .i64 0, .bool false]) 4 32 Tryz.underlying22 hi hz0 hz1 hz2 rfl (by decide) _ _ _ rfl (hown.alloc _) ⟨_, 0, none⟩ 1 1 (cellsN r) rfl rfl (newN_cells _ _ _) (oneN_cells _) (by unfold maxLen; omega) (by omega) (by have := hB.size; simp; omega) ?_; intro v' w1 hown' hgrow _)
        have R := ownN_step hB hown hown' hgrow
        clear hown hown' hgrow
        go_wp2
        go_roundw
        case rel => exact ⟨k + 1, by simp, hlt, by rw [HT.out]; exact R.2, R.1⟩
        case measure => simp [intOf]; omega
      · have hk' : k = ns.length := by omega
        subst hk'
        rw [List.take_length] at hown
        have R := hideP (Rw.of_own cellsN_len hown)
        have FR := hideP (show Fresh w.heap.size _ from fun g hg => (hown.lt g hg).1)
        clear hown
        go_wp2
        go_ret
        exact ⟨_, rfl, R.out, FR.out, hB⟩
theorem vWholeN (v : Value) (ns : List Int) (w : World) (h : Rq 1 (fun n => [.int .i64 n]) w v ns) (hl : ns.length ≤ 1000000) :
    Calls Tryz.prog 23 #[v] w fun e w' => ∃ u, e = .returned u ∧ Rw 4 cellsN w' u (ns.map wholeN) ∧ Bl w w' :=
  (vWholeN' v ns w h hl).mono fun _ _ ⟨u, h1, h2, _, h3⟩ => ⟨u, h1, h2, h3⟩
end Go.Proofs.YtlbmkjicbkfmjaaGreat

/- Contracts of vec's Scale, Clone, and of what is done of a pair, of enclosed numbers (layer 5). Written by genVe.py. -/
namespace Go.Proofs.YtlbmkjicbkfmjaaGreat
open Go.RowKit
set_option linter.unusedSimpArgs false
set_option linter.unusedVariables false

set_option maxHeartbeats 1000000 in
theorem vScaleN (v : Value) (xs : List En) (by_ : En) (w : World) (h : Rw 4 cellsN w v xs) (hl : xs.length ≤ 1000000) :
    Calls Tryz.prog 57 #[v, enV by_] w fun e w' => ∃ u, e = .returned u ∧ Rw 4 cellsN w' u (xs.map fun x => mulE x by_) ∧ Bl w w' := by
  have iv := Tryz.mMulN
  obtain ⟨i0, hi, hz0, hz1, hz2⟩ := info_parts Tryz.info_N
  have x0 := Box.new w by_ 28
  rcases h with ⟨rfl, rfl⟩ | ⟨b, o, cap, rfl, hc, hb, hx⟩
  · go_enter Tryz.func57, Tryz.ntmps57
    go_wp2_with (at_make; refine wpList_make_own _ rfl _ _ 22 rfl w.heap.size 28 i0 (.agg #[.int .i64 0, .int .i64 0, .int .i64 0, .bool false]) 4 Tryz.underlying22 hi hz0 hz1 .i64 .i64 _ 0 rfl rfl (by simp) (by rw [hz2]; omega) (by unfold maxLen; omega) (by simp) ?_; intro w0 hown0 hgrow0)
    rw [World.size_alloc] at hown0
    have hB0 : Bl w w0 := Below.grown (Below.alloc (Bl.refl w) (Nat.le_refl _) _) hgrow0 (by simp) (fun k e => by cases e)
    go_loopw [5, 13] (fun v i wr => i = .int .i64 0 ∧ wr.ownsRow w.heap.size 28 4 v 0 [] ∧ Bl w wr) (fun _ _ _ => 0)
    case atStart => exact ⟨rfl, hown0, hB0⟩
    case round =>
      obtain ⟨rfl, hown, hB⟩ := hrel
      go_wp2
      go_ret
      exact ⟨_, rfl, Rw.of_own cellsN_len (xs := []) hown, hB⟩
  · have HX := hideP hx
    clear hx
    go_enter Tryz.func57, Tryz.ntmps57
    go_wp2_with (at_make; refine wpList_make_own _ rfl _ _ 22 rfl (w.heap.size + 1) 28 i0 (.agg #[.int .i64 0, .int .i64 0, .int .i64 0, .bool false]) 4 Tryz.underlying22 hi hz0 hz1 .i64 .i64 _ xs.length rfl rfl (by simp) (by rw [hz2]; omega) (by unfold maxLen; omega) (by simp) ?_; intro w0 hown0 hgrow0)
    rw [World.size_alloc] at hown0
    have hB1 : Bl (w.alloc (.cells #[.int .i64 by_.v, .int .i64 by_.l, .int .i64 by_.h, .bool by_.bad] 28)) w0 := Below.grown (Bl.refl _) hgrow0 (Nat.le_refl _) (fun k e => by cases e)
    have hB0 : Bl w w0 := ((Bl.refl w).alloc _).trans hB1
    go_loopw [5, 13] (fun v i wr => ∃ k : Nat, i = .int .i64 k ∧ k ≤ xs.length ∧ Box wr w.heap.size by_ ∧ wr.ownsRow (w.heap.size + 1) 28 4 v ((xs.take k).map fun x => mulE x by_).length (((xs.take k).map fun x => mulE x by_).flatMap cellsN) ∧ Bl w wr) (fun _ i _ => xs.length - (intOf i).toNat)
    case atStart => exact ⟨0, rfl, Nat.zero_le _, x0.later hB1, hown0, hB0⟩
    case round =>
      obtain ⟨k, rfl, hk, bx, hown, hB⟩ := hrel
      by_cases hlt : k < xs.length
      · obtain ⟨x, hx⟩ : ∃ x, xs[k]? = some x := ⟨_, List.getElem?_eq_getElem hlt⟩
        have CX : ∀ j u, (cellsN x)[j]? = some u → wr.cell? ⟨b, o + k * 4 + j, none⟩ = some u := fun j u hu => (bl_cell hB _ _ hb).trans (HX.out k x hx j u hu)
        have y0 : wr.cell? ⟨b, o + k * 4, none⟩ = some (.int .i64 x.v) := CX 0 _ rfl
        have y1 : wr.cell? ⟨b, o + k * 4 + 1, none⟩ = some (.int .i64 x.l) := CX 1 _ rfl
        have y2 : wr.cell? ⟨b, o + k * 4 + 2, none⟩ = some (.int .i64 x.h) := CX 2 _ rfl
        have y3 : wr.cell? ⟨b, o + k * 4 + 3, none⟩ = some (.bool x.bad) := CX 3 _ rfl
        clear CX
        obtain ⟨c0, c1, c2, c3, f0, f1, f2, f3, lt⟩ := id bx
        have HT := hideP (show (xs.take (k + 1)).map (fun x => mulE x by_) = (xs.take k).map (fun x => mulE x by_) ++ [mulE x by_] by rw [List.take_add_one, hx]; simp)
        have HK := hideP (show ((xs.take k).map fun x => mulE x by_).length = k by simp; omega)
        generalize hys : (xs.take k).map (fun x => mulE x by_) = ys at *
        clear hys
        go_wp2_with fail
        refine (emul_any _ _ _).mono ?_
        rintro e w2 ⟨rfl, h2⟩
        have bl2 : Bl wr w2 := ((Bl.refl _).alloc _).trans h2
        generalize mulE x by_ = r at *
        clear y0 y1 y2 y3 c0 c1 c2 c3
        replace hown := own_blN hown bl2
        replace hB := hB.trans bl2
        have bx2 := bx.later bl2
        have hkk := HK.out
        go_wp2_with (at_builtin; refine wpList_append_own _ rfl _ _ 22 rfl (w.heap.size + 1) 28 i0 (.agg #[.int .i64 0, .int .i64 0, .int .i64 0, .bool false]) 4 32 Tryz.underlying22 hi hz0 hz1 hz2 rfl (by decide) _ _ _ rfl (hown.alloc _) ⟨_, 0, none⟩ 1 1 (cellsN r) rfl rfl (newN_cells _ _ _) (oneN_cells _) (by unfold maxLen; omega) (by omega) (by have := bx2.lt; simp; omega) ?_; intro v' w1 hown' hgrow _)
        have R := ownN_step' (n₀ := w.heap.size + 1) hB (by omega) hown hown' hgrow
        have bx3 := bx2.grown ((Bl.refl _).alloc _) hown hgrow (by omega)
        clear hown hown' hgrow
        go_wp2
        go_roundw
        case rel => exact ⟨k + 1, by simp, hlt, bx3, by rw [HT.out]; exact R.2, R.1⟩
        case measure => simp [intOf]; omega
      · have hk' : k = xs.length := by omega
        subst hk'
        rw [List.take_length] at hown
        have R := hideP (Rw.of_own cellsN_len hown)
        clear hown
        go_wp2
        go_ret
        exact ⟨_, rfl, R.out, hB⟩

theorem dAddN (a b : En) (w : World) :
    Calls Tryz.prog 104 #[enV a, enV b] w fun e w' => e = .returned (enV (addE a b)) ∧ Bl w w' := by
  have iv := Tryz.mAddN
  obtain ⟨W, X⟩ := three_ex w a b
  have T := hideP (eadd_any a b)
  have HX := hideP X
  clear X
  generalize addE a b = r at *
  go_enter Tryz.func104, Tryz.ntmps104
  go_wp2_with fail
  rw [← HX.out.eq]
  refine (T.out _).mono ?_
  rintro e w1 ⟨rfl, h1⟩
  obtain ⟨c0, c1, c2, c3, f0, f1, f2, f3, lt⟩ := HX.out.bz.later h1
  clear iv
  go_wp2
  simp [bodyPost, results, Tryz.results104, go_sem, c0, c1, c2, c3]
  exact Bl.set4 (HX.out.bl.trans h1) (by omega) _ _ _ _

theorem dSubN (a b : En) (w : World) :
    Calls Tryz.prog 167 #[enV a, enV b] w fun e w' => e = .returned (enV (subE a b)) ∧ Bl w w' := by
  have iv := Tryz.mSubN
  obtain ⟨W, X⟩ := three_ex w a b
  have T := hideP (esub_any a b)
  have HX := hideP X
  clear X
  generalize subE a b = r at *
  go_enter Tryz.func167, Tryz.ntmps167
  go_wp2_with fail
  rw [← HX.out.eq]
  refine (T.out _).mono ?_
  rintro e w1 ⟨rfl, h1⟩
  obtain ⟨c0, c1, c2, c3, f0, f1, f2, f3, lt⟩ := HX.out.bz.later h1
  clear iv
  go_wp2
  simp [bodyPost, results, Tryz.results167, go_sem, c0, c1, c2, c3]
  exact Bl.set4 (HX.out.bl.trans h1) (by omega) _ _ _ _

theorem dMulN (a b : En) (w : World) :
    Calls Tryz.prog 103 #[enV a, enV b] w fun e w' => e = .returned (enV (mulE a b)) ∧ Bl w w' := by
  have iv := Tryz.mMulN
  obtain ⟨W, X⟩ := three_ex w a b
  have T := hideP (emul_any a b)
  have HX := hideP X
  clear X
  generalize mulE a b = r at *
  go_enter Tryz.func103, Tryz.ntmps103
  go_wp2_with fail
  rw [← HX.out.eq]
  refine (T.out _).mono ?_
  rintro e w1 ⟨rfl, h1⟩
  obtain ⟨c0, c1, c2, c3, f0, f1, f2, f3, lt⟩ := HX.out.bz.later h1
  clear iv
  go_wp2
  simp [bodyPost, results, Tryz.results103, go_sem, c0, c1, c2, c3]
  exact Bl.set4 (HX.out.bl.trans h1) (by omega) _ _ _ _

end Go.Proofs.YtlbmkjicbkfmjaaGreat

/- Contracts of vec's Clone, Pairs, of enclosed numbers (layer 5). Written by genVe.py. -/
namespace Go.Proofs.YtlbmkjicbkfmjaaGreat
open Go.RowKit
set_option linter.unusedSimpArgs false
set_option linter.unusedVariables false

theorem Tryz.nil0N (w : World) : (binOp .eql 22 (.slice none 0 0) (.slice none 0 0)).run Tryz.prog w = .ok (.bool true) w := by kernel_rfl
theorem Tryz.nil1N (a : Addr) (n cap : Nat) (w : World) : (binOp .eql 22 (.slice (some a) n cap) (.slice none 0 0)).run Tryz.prog w = .ok (.bool false) w := by kernel_rfl
set_option maxHeartbeats 1000000 in
theorem vCloneN (v : Value) (xs : List En) (w : World) (h : Rq 4 cellsN w v xs) (hl : xs.length ≤ 1000000) :
    Calls Tryz.prog 40 #[v] w fun e w' => ∃ u, e = .returned u ∧ Rw 4 cellsN w' u xs ∧ Fresh w.heap.size u ∧ Bl w w' := by
  have n0 := Tryz.nil0N
  have n1 := Tryz.nil1N
  obtain ⟨i0, hi, hz0, hz1, hz2⟩ := info_parts Tryz.info_N
  rcases h with ⟨p, cap, rfl, rfl, hpn⟩ | ⟨b, o, cap, rfl, hc, hb, hx⟩
  · rcases p with _ | ad
    · obtain rfl := hpn rfl
      go_enter Tryz.func40, Tryz.ntmps40
      go_wp2
      go_ret
      exact ⟨_, rfl, .inl ⟨rfl, rfl⟩, nofun, Bl.refl _⟩
    · clear n0
      go_enter Tryz.func40, Tryz.ntmps40
      go_wp2_with (at_builtin; refine wpList_append_own _ rfl _ _ 22 rfl w.heap.size 28 i0 (.agg #[.int .i64 0, .int .i64 0, .int .i64 0, .bool false]) 4 32 Tryz.underlying22 hi hz0 hz1 hz2 rfl (by decide) _ 0 [] rfl (World.ownsRow_made w #[] 0 (Nat.le_refl _) (by decide) rfl) ad 0 cap [] rfl (by simp) nofun nofun (by unfold maxLen; omega) (by omega) (by simp) ?_; intro v' w1 hown' hgrow _)
      have R := hideP (Rw.of_own (xs := []) cellsN_len (by simpa using hown'))
      have FR := hideP (show Fresh w.heap.size v' from fun g hg => (hown'.lt g hg).1)
      have hB : Bl w w1 := Below.grown (Below.alloc (Bl.refl w) (Nat.le_refl _) _) hgrow (by simp) (fun k e => by cases e; exact Nat.le_refl _)
      clear hown' hgrow
      go_wp2
      go_ret
      exact ⟨_, rfl, R.out, FR.out, hB⟩
  · have HX := hideP hx
    clear hx n0
    go_enter Tryz.func40, Tryz.ntmps40
    go_wp2_with (at_builtin; refine wpList_append_own _ rfl _ _ 22 rfl w.heap.size 28 i0 (.agg #[.int .i64 0, .int .i64 0, .int .i64 0, .bool false]) 4 32 Tryz.underlying22 hi hz0 hz1 hz2 rfl (by decide) _ 0 [] rfl (World.ownsRow_made w #[] 0 (Nat.le_refl _) (by decide) rfl) ⟨b, o, none⟩ xs.length cap (xs.flatMap cellsN) rfl (flat_len cellsN_len xs) (flat_cells cellsN_len ((Rw_cells_later HX.out hb ((Bl.refl _).alloc _)))) (flat_one oneN_cells xs) (by unfold maxLen; omega) (by omega) (by simp) ?_; intro v' w1 hown' hgrow _)
    have R := hideP (Rw.of_own (xs := xs) cellsN_len (by simpa using hown'))
    have FR := hideP (show Fresh w.heap.size v' from fun g hg => (hown'.lt g hg).1)
    have hB : Bl w w1 := Below.grown (Below.alloc (Bl.refl w) (Nat.le_refl _) _) hgrow (by simp) (fun k e => by cases e; exact Nat.le_refl _)
    clear hown' hgrow
    go_wp2
    go_ret
    exact ⟨_, rfl, R.out, FR.out, hB⟩
end Go.Proofs.YtlbmkjicbkfmjaaGreat
