/- The contract of the document's MulDiv. -/
import Derived.Test.YthnadgbloamlaaaGreatTimes
import Derived.Test.YthnadgbloamlaaaGreatMulDiv
import Derived.Test.YthnadgbloamlaaaGreatLawA
import Derived.Deep.DeepCutAuto
namespace Go.Proofs.YthnadgbloamlaaaGreat
open Go.RowKit
set_option linter.unusedSimpArgs false
set_option linter.unusedVariables false

/-- One step of a long division. -/
theorem long_step (N N' D x : Int) (hD : 0 < D) (h : N' = x + 2 * N) (x0 : 0 ≤ x) (x1 : x ≤ 1) :
    (2 * (N % D) + x < D → N' % D = 2 * (N % D) + x ∧ N' / D = 2 * (N / D)) ∧ (D ≤ 2 * (N % D) + x → N' % D = 2 * (N % D) + x - D ∧ N' / D = 2 * (N / D) + 1) := by
  have e := Int.mul_ediv_add_emod N D
  have r0 := Int.emod_nonneg N (show D ≠ 0 by omega)
  have r1 := Int.emod_lt_of_pos N hD
  generalize N / D = q at *
  generalize N % D = r at *
  constructor
  · intro hl
    have e' : N' = 2 * r + x + D * (2 * q) := by rw [h, ← e, ← Int.mul_assoc, Int.mul_comm D 2, Int.mul_assoc]; omega
    rw [e']
    exact ⟨by rw [Int.add_mul_emod_self_left, Int.emod_eq_of_lt (by omega) hl], by rw [Int.add_mul_ediv_left _ _ (by omega), Int.ediv_eq_zero_of_lt (by omega) hl, Int.zero_add]⟩
  · intro hl
    have hh : D * (2 * q + 1) = 2 * (D * q) + D := by rw [Int.mul_add, Int.mul_one, ← Int.mul_assoc, Int.mul_comm D 2, Int.mul_assoc]
    have e' : N' = 2 * r + x - D + D * (2 * q + 1) := by omega
    rw [e']
    exact ⟨by rw [Int.add_mul_emod_self_left, Int.emod_eq_of_lt (by omega) (by omega)], by rw [Int.add_mul_ediv_left _ _ (by omega), Int.ediv_eq_zero_of_lt (by omega) (by omega), Int.zero_add]⟩
theorem drop_bd (ps : List Int) (h : AllBits ps) (l : ps.length = 130) (j : Nat) : 0 ≤ bval (ps.drop (j + 1)) ∧ bval (ps.drop (j + 1)) < 680564733841876926926749214863536422912 := by
  have b := bval_bd _ (h.drop (j + 1))
  rw [List.length_drop, l] at b
  have h2 : (2 : Int) ^ (130 - (j + 1)) ≤ 680564733841876926926749214863536422912 := by
    have : (2 : Nat) ^ (130 - (j + 1)) ≤ 2 ^ 129 := Nat.pow_le_pow_right (by decide) (by omega)
    have e : ((2 ^ (130 - (j + 1)) : Nat) : Int) ≤ ((2 ^ 129 : Nat) : Int) := by exact_mod_cast this
    simpa using e
  omega
theorem div_le_self {N D : Int} (h0 : 0 ≤ N) (hD : 0 < D) : 0 ≤ N / D ∧ N / D ≤ N := ⟨Int.ediv_nonneg h0 (by omega), Int.ediv_le_self _ h0⟩

/-- Is it below 0? 1, if so. -/
def ng (a : Int) : Int := if a < 0 then 1 else 0
theorem ng_y {a : Int} (h : a < 0) : ng a = 1 := if_pos h
theorem ng_n {a : Int} (h : ¬ a < 0) : ng a = 0 := if_neg h
theorem ng_bd (a : Int) : 0 ≤ ng a ∧ ng a ≤ 1 := by unfold ng; split <;> decide
theorem upI_one (Q : Int) : upI Q true = Q + 1 := rfl
/-- Whether what is left goes away from 0, as the document counts it. -/
theorem more_even {Q R D : Int} (bl : Bool) (hD : 0 < D) (hR : 0 ≤ R) :
    (D < 2 * R ∧ outB Q R D bl 0 = true) ∨ (2 * R = D ∧ 0 < R ∧ outB Q R D bl 0 = (Q % 2 == 1)) ∨ (2 * R < D ∧ 0 < R ∧ outB Q R D bl 0 = false) ∨ (R = 0 ∧ outB Q R D bl 0 = false) := by
  have e : outB Q R D bl 0 = (decide (D < 2 * R) || (decide (2 * R = D) && decide (Q % 2 = 1))) := by simp [outB]
  rw [e]
  rcases (by omega : D < 2 * R ∨ (2 * R = D ∧ 0 < R) ∨ (2 * R < D ∧ 0 < R) ∨ R = 0) with h | h | h | h
  · exact .inl ⟨h, by rw [decide_eq_true h]; rfl⟩
  · exact .inr (.inl ⟨h.1, h.2, by rw [decide_eq_false (by omega), decide_eq_true h.1]; rfl⟩)
  · exact .inr (.inr (.inl ⟨h.1, h.2, by rw [decide_eq_false (by omega), decide_eq_false (by omega)]; rfl⟩))
  · exact .inr (.inr (.inr ⟨h, by rw [decide_eq_false (by omega), decide_eq_false (by omega)]; rfl⟩))
theorem low_bit (xs : List Int) (h : AllBits xs) (l : xs.length = 130) : bval xs % 2 = xs.getD 0 0 := by
  have := bval_drop_succ xs 0 (by omega)
  rw [List.drop_zero] at this
  have := h.getD 0
  omega
/-- Whether it goes away from 0, as far as the modes up to k tell. -/
def mrF (mode Q R D : Int) (bl : Bool) (k : Int) : Bool := if mode ≤ k then outB Q R D bl mode else false
theorem mrF_no {mode Q R D : Int} {bl : Bool} {k : Int} (h : ¬ mode ≤ k) : mrF mode Q R D bl k = false := if_neg h
theorem mrF_yes {mode Q R D : Int} {bl : Bool} {k : Int} (h : mode ≤ k) : mrF mode Q R D bl k = outB Q R D bl mode := if_pos h
/-- The signs, counted: odd just where the quotient is below 0; or there is nothing. -/
theorem signs_odd (a b c : Int) (hc : c ≠ 0) : ((ng a + ng b + ng c) % 2 == 1) = belB a b c ∨ szI a * szI b = 0 := by
  rcases (by omega : a < 0 ∨ a = 0 ∨ 0 < a) with h | h | h
  · rcases (by omega : b < 0 ∨ b = 0 ∨ 0 < b) with k | k | k
    · left
      have p1 := Int.mul_pos_of_neg_of_neg h k
      rcases (by omega : c < 0 ∨ 0 < c) with l | l
      · have := Int.mul_neg_of_pos_of_neg p1 l
        rw [ng_y h, ng_y k, ng_y l]; unfold belB; rw [decide_eq_true this]; rfl
      · have := Int.mul_pos p1 l
        rw [ng_y h, ng_y k, ng_n (by omega)]; unfold belB; rw [decide_eq_false (by omega)]; rfl
    · right; rw [k]; simp [szI]
    · left
      have p1 := Int.mul_neg_of_neg_of_pos h k
      rcases (by omega : c < 0 ∨ 0 < c) with l | l
      · have := Int.mul_pos_of_neg_of_neg p1 l
        rw [ng_y h, ng_n (by omega), ng_y l]; unfold belB; rw [decide_eq_false (by omega)]; rfl
      · have := Int.mul_neg_of_neg_of_pos p1 l
        rw [ng_y h, ng_n (by omega), ng_n (by omega)]; unfold belB; rw [decide_eq_true this]; rfl
  · right; rw [h]; simp [szI]
  · rcases (by omega : b < 0 ∨ b = 0 ∨ 0 < b) with k | k | k
    · left
      have p1 := Int.mul_neg_of_pos_of_neg h k
      rcases (by omega : c < 0 ∨ 0 < c) with l | l
      · have := Int.mul_pos_of_neg_of_neg p1 l
        rw [ng_n (by omega), ng_y k, ng_y l]; unfold belB; rw [decide_eq_false (by omega)]; rfl
      · have := Int.mul_neg_of_neg_of_pos p1 l
        rw [ng_n (by omega), ng_y k, ng_n (by omega)]; unfold belB; rw [decide_eq_true this]; rfl
    · right; rw [k]; simp [szI]
    · left
      have p1 := Int.mul_pos h k
      rcases (by omega : c < 0 ∨ 0 < c) with l | l
      · have := Int.mul_neg_of_pos_of_neg p1 l
        rw [ng_n (by omega), ng_n (by omega), ng_y l]; unfold belB; rw [decide_eq_true this]; rfl
      · have := Int.mul_pos p1 l
        rw [ng_n (by omega), ng_n (by omega), ng_n (by omega)]; unfold belB; rw [decide_eq_false (by omega)]; rfl

set_option maxHeartbeats 4000000 in
set_option maxRecDepth 1000000 in
theorem refMulDiv_good (a b c mode : Int) (ha : rightB a = true) (hb : rightB b = true) (hc : rightB c = true) (hz : (c == 0) = false) (hm0 : 0 ≤ mode) (hm2 : mode ≤ 2) (w : World) :
    Calls Tryz.prog 209 #[.int .i64 a, .int .i64 b, .int .i64 c, .int .i64 mode] w fun e w' =>
      e = .returned (.tuple #[.int .i64 (rdN (mdC a b c mode) (belB a b c)), .bool (rdB (mdC a b c mode))]) ∧ Bl w w' := by
  have ia := right_i64 ha
  have ib := right_i64 hb
  have ic := right_i64 hc
  have ka := rightB_iff.1 ha
  have kb := rightB_iff.1 hb
  have kc := rightB_iff.1 hc
  have sa := szI_right ha
  have sb := szI_right hb
  have sc := szI_right hc
  have hD : 0 < szI c := by
    have : c ≠ 0 := by simpa using hz
    unfold szI; split <;> omega
  have SA := hideP (refSize_any a ia (by omega))
  have SB := hideP (refSize_any b ib (by omega))
  have SC := hideP (refSize_any c ic (by omega))
  have HP := hideP (fun w => rtimes_any (szI a) (szI b) w sa.1 (by omega) sb.1 (by omega))
  have HC := hideP (fun w => bits_any (szI c) w sc.1 (by omega))
  have hpm := mul_hi sa sb
  unfold mdC
  generalize hpp : szI a * szI b = p at *
  generalize hdd : szI c = D at *
  have hd1 : decide (mode < 0) = false := decide_eq_false (by omega)
  have hd2 : decide (2 < mode) = false := decide_eq_false (by omega)
  have hd3 : ¬ 2 < mode := by omega
  clear ia ib ic
  go_enter Tryz.func209, Tryz.ntmps209
  go_wp2_with (go_at_call 221; refine (refRight_any _ _).mono ?_; rintro e w' ⟨rfl, rfl⟩)
  refine (SA.out _).mono ?_
  rintro e w1 ⟨rfl, rfl⟩
  go_wp2_with fail
  refine (SB.out _).mono ?_
  rintro e w2 ⟨rfl, rfl⟩
  go_wp2_with fail
  refine (HP.out _).mono ?_
  rintro e w3 ⟨vp, rfl, rp, h3⟩
  go_wp2_with fail
  refine (SC.out _).mono ?_
  rintro e w4 ⟨rfl, rfl⟩
  go_wp2_with fail
  refine (HC.out _).mono ?_
  rintro e w5 ⟨vd, rfl, rd, h5⟩
  go_wp2_with fail
  refine (bits_any 0 _ (by omega) (by omega)).mono ?_
  rintro e w6 ⟨vq, rfl, rq, h6⟩
  go_wp2_with fail
  refine (bits_any 0 _ (by omega) (by omega)).mono ?_
  rintro e w7 ⟨vr, rfl, rr, h7⟩
  have rp := ((rp.later h5).later h6).later h7
  have rd := (rd.later h6).later h7
  have rq := rq.later h7
  have hW := (((h3.trans h5).trans h6).trans h7)
  clear h3 h5 h6 h7
  obtain ⟨pb, op, cp, ps, rfl, hcp, hpb, lp, ap, hpv, cellp⟩ := rp
  have CP := hideP cellp
  have HPV := hideP hpv
  clear cellp hpv
  go_wp2_with fail
  go_loopw [12, 13, 14] (fun q r i wr => ∃ k : Nat, i = .int .i64 ((k : Int) - 1) ∧ k ≤ 130 ∧ Row wr q (bval (ps.drop k) / D) ∧ Row wr r (bval (ps.drop k) % D) ∧ Bl w7 wr) (fun _ _ i _ => (intOf i + 1).toNat)
  case atStart =>
    have e : ps.drop 130 = [] := List.drop_of_length_le (by omega)
    refine ⟨130, rfl, Nat.le_refl _, ?_, ?_, Bl.refl _⟩
    · rw [e, show bval ([] : List Int) = 0 from rfl, Int.zero_ediv]; exact rq
    · rw [e, show bval ([] : List Int) = 0 from rfl, Int.zero_emod]; exact rr
  case round =>
    obtain ⟨k, rfl, hk, hrq, hrr, hB⟩ := hrel
    cases k with
    | zero =>
      rw [show ((0 : Nat) : Int) - 1 = -1 from rfl]
      rw [List.drop_zero, HPV.out] at hrq hrr
      have Q0 := (div_le_self (D := D) (show 0 ≤ p by rw [← HPV.out]; exact (bval_bd ps ap).1) hD)
      have R0 := Int.emod_nonneg p (show D ≠ 0 by omega)
      have R1 := Int.emod_lt_of_pos p hD
      have nA := ng_bd a
      have nB := ng_bd b
      have nC := ng_bd c
      go_upto_if 78 with fail
      go_cut [16] (fun t wx => t = .int .i64 (ng a) ∧ wr = wx)
      case first =>
        by_cases hn : a < 0
        · have E := hideP (ng_y hn)
          go_wp2
          go_meet
          exact ⟨congrArg (Value.int .i64) (by have := E.out; omega), rfl⟩
        · have E := hideP (ng_n hn)
          go_wp2
          go_meet
          exact ⟨congrArg (Value.int .i64) (by have := E.out; omega), rfl⟩
      case rest =>
        obtain ⟨rfl, rfl⟩ := hcut
        go_upto_if 82 with fail
        go_cut [16] (fun t wx => t = .int .i64 (ng a + ng b) ∧ wr = wx)
        case first =>
          by_cases hn : b < 0
          · have E := hideP (ng_y hn)
            go_wp2
            go_meet
            exact ⟨congrArg (Value.int .i64) (by have := E.out; omega), rfl⟩
          · have E := hideP (ng_n hn)
            go_wp2
            go_meet
            exact ⟨congrArg (Value.int .i64) (by have := E.out; omega), rfl⟩
        case rest =>
          obtain ⟨rfl, rfl⟩ := hcut
          go_upto_if 86 with fail
          go_cut [16] (fun t wx => t = .int .i64 (ng a + ng b + ng c) ∧ wr = wx)
          case first =>
            by_cases hn : c < 0
            · have E := hideP (ng_y hn)
              go_wp2
              go_meet
              exact ⟨congrArg (Value.int .i64) (by have := E.out; omega), rfl⟩
            · have E := hideP (ng_n hn)
              go_wp2
              go_meet
              exact ⟨congrArg (Value.int .i64) (by have := E.out; omega), rfl⟩
          case rest =>
            obtain ⟨rfl, rfl⟩ := hcut
            obtain ⟨m, hm⟩ : ∃ m, m = ng a + ng b + ng c := ⟨_, rfl⟩
            obtain ⟨Q, hQ⟩ : ∃ Q, Q = p / D := ⟨_, rfl⟩
            obtain ⟨R, hR⟩ : ∃ R, R = p % D := ⟨_, rfl⟩
            obtain ⟨sm, hsm⟩ : ∃ sm, sm = decide (0 < R) := ⟨_, rfl⟩
            obtain ⟨nb, hnb⟩ : ∃ nb, nb = (m % 2 == 1) := ⟨_, rfl⟩
            obtain ⟨bl, hbl⟩ : ∃ bl, bl = belB a b c := ⟨_, rfl⟩
            have hnb0 : (m % 2 == 0) = !nb := by
              rw [hnb]
              rcases (by omega : m % 2 = 0 ∨ m % 2 = 1) with k | k <;> rw [k] <;> rfl
            have hsg : nb = bl ∨ p = 0 := by
              have := signs_odd a b c (by simpa using hz)
              rw [hpp, ← hm, ← hnb, ← hbl] at this
              exact this
            rw [← hm]
            rw [← hQ] at hrq Q0
            rw [← hR] at hrr R0 R1
            have m0 : 0 ≤ m := by omega
            have m3 : m ≤ 3 := by omega
            have hQ0 : p = 0 → Q = 0 ∧ R = 0 := by
              intro h; rw [hQ, hR, h]; exact ⟨Int.zero_ediv _, Int.zero_emod _⟩
            have GM := hideP hm
            have GQ := hideP hQ
            have GR := hideP hR
            have GS := hideP hsm
            have GB := hideP hbl
            have GSG := hideP hsg
            have GQ0 := hideP hQ0
            have rnb : (m % 2 == 1) = nb := hnb.symm
            clear hm hQ hR hsm hbl hsg hQ0 hnb nA nB nC
            have hdp := rd.later hB
            go_wp2_with fail
            refine (bits_any 0 _ (by omega) (by omega)).mono ?_
            rintro e x1 ⟨v1, rfl, q1, g1⟩
            go_wp2_with fail
            refine (less_any _ _ _ _ _ q1 (hrr.later g1)).mono ?_
            rw [← GS.out]
            rintro e x2 ⟨rfl, g2⟩
            go_wp2_with fail
            refine (up_any _ _ 0 _ ((hrr.later g1).later g2) (.inl rfl)).mono ?_
            rintro e x3 ⟨v3, rfl, q3, g3⟩
            have e3 : (2 * R + 0) % 1361129467683753853853498429727072845824 = 2 * R := by omega
            rw [e3] at q3
            clear e3 q1
            have G := ((g1.trans g2).trans g3)
            have hrq := hrq.later G
            have hdp := hdp.later G
            have hpB : p ≤ 21267647932558653957237540927630737409 ∨ True := .inr trivial
            clear hrr
            go_upto_if 95 with fail
            go_cut [19] (fun t wx => t = .bool (mrF mode Q R D bl 0) ∧ Bl x3 wx)
            case first =>
              by_cases hmo : mode = 0
              · have hmb : (mode == 0) = true := by simpa using hmo
                have EM : Hid (mrF mode Q R D bl 0 = outB Q R D bl 0) := by show _ = _; rw [mrF_yes (by omega), hmo]
                clear hmo
                rcases more_even (Q := Q) bl hD R0 with ⟨k, eo⟩ | ⟨k, k2, eo⟩ | ⟨k, k2, eo⟩ | ⟨k, eo⟩
                · have D1 := hideP (decide_eq_true k)
                  have EO := hideP eo
                  clear eo k
                  go_wp2_with fail
                  refine (less_any _ _ _ _ _ hdp q3).mono ?_
                  rw [D1.out]
                  rintro e x4 ⟨rfl, g4⟩
                  go_wp2
                  go_meet
                  exact ⟨congrArg Value.bool (by rw [EM.out, EO.out]), g4⟩
                · have D1 := hideP (decide_eq_false (show ¬ D < 2 * R by omega))
                  have D2 := hideP (decide_eq_false (show ¬ 2 * R < D by omega))
                  have S1 : sm = true := by rw [GS.out]; exact decide_eq_true k2
                  have EO := hideP eo
                  clear eo k k2
                  subst S1
                  obtain ⟨qb, oq, cq, qs, rfl, hcq, hqb, lq, aq, hqv, cellq⟩ := hrq
                  have c0 := cellq 0 (by omega)
                  have lb := low_bit qs aq lq
                  rw [hqv] at lb
                  rw [Nat.add_zero, ← lb] at c0
                  have C0 := hideP c0
                  clear cellq lb c0
                  go_wp2_with fail
                  refine (less_any _ _ _ _ _ hdp q3).mono ?_
                  rw [D1.out]
                  rintro e x4 ⟨rfl, g4⟩
                  go_wp2_with fail
                  refine (less_any _ _ _ _ _ (q3.later g4) (hdp.later g4)).mono ?_
                  rw [D2.out]
                  rintro e x5 ⟨rfl, g5⟩
                  have cc := (bl_cell (g4.trans g5) _ oq hqb).trans C0.out
                  go_wp2
                  go_meet
                  exact ⟨congrArg Value.bool (by rw [EM.out, EO.out]), g4.trans g5⟩
                · have D1 := hideP (decide_eq_false (show ¬ D < 2 * R by omega))
                  have D2 := hideP (decide_eq_true (show 2 * R < D by omega))
                  have S1 : sm = true := by rw [GS.out]; exact decide_eq_true k2
                  have EO := hideP eo
                  clear eo k k2
                  subst S1
                  go_wp2_with fail
                  refine (less_any _ _ _ _ _ hdp q3).mono ?_
                  rw [D1.out]
                  rintro e x4 ⟨rfl, g4⟩
                  go_wp2_with fail
                  refine (less_any _ _ _ _ _ (q3.later g4) (hdp.later g4)).mono ?_
                  rw [D2.out]
                  rintro e x5 ⟨rfl, g5⟩
                  go_wp2
                  go_meet
                  exact ⟨congrArg Value.bool (by rw [EM.out, EO.out]), g4.trans g5⟩
                · have D1 := hideP (decide_eq_false (show ¬ D < 2 * R by omega))
                  have S1 : sm = false := by rw [GS.out]; exact decide_eq_false (by omega)
                  have EO := hideP eo
                  clear eo k
                  subst S1
                  go_wp2_with fail
                  refine (less_any _ _ _ _ _ hdp q3).mono ?_
                  rw [D1.out]
                  rintro e x4 ⟨rfl, g4⟩
                  go_wp2
                  go_meet
                  exact ⟨congrArg Value.bool (by rw [EM.out, EO.out]), g4⟩
              · have hmb : (mode == 0) = false := by simpa using hmo
                have EM := hideP (mrF_no (mode := mode) (Q := Q) (R := R) (D := D) (bl := bl) (k := 0) (by omega))
                clear hmo
                go_wp2
                go_meet
                exact ⟨congrArg Value.bool (by rw [EM.out]), Bl.refl _⟩
            case rest =>
              obtain ⟨rfl, gc⟩ := hcut
              go_upto_if 115 with fail
              go_cut [19] (fun t wx => t = .bool (mrF mode Q R D bl 1) ∧ wc = wx)
              case first =>
                by_cases hmo : mode = 1
                · have hmb : (mode == 1) = true := by simpa using hmo
                  have EM : Hid (mrF mode Q R D bl 1 = (bl && decide (0 < R))) := by show _ = _; rw [mrF_yes (by omega), hmo]; simp [outB]
                  have ES : Hid ((sm && nb) = (bl && decide (0 < R))) := by
                    show _ = _
                    rw [GS.out]
                    rcases GSG.out with k | k
                    · rw [k, Bool.and_comm]
                    · rw [decide_eq_false (show ¬ 0 < R by have := GQ0.out k; omega)]; simp
                  clear hmo
                  cases sm
                  · go_wp2
                    go_meet
                    exact ⟨congrArg Value.bool (by rw [EM.out, ← ES.out]; rfl), rfl⟩
                  · go_wp2
                    go_meet
                    exact ⟨congrArg Value.bool (by rw [EM.out, ← ES.out]; rfl), rfl⟩
                · have hmb : (mode == 1) = false := by simpa using hmo
                  have EM : Hid (mrF mode Q R D bl 1 = mrF mode Q R D bl 0) := by
                    show _ = _
                    unfold mrF
                    rcases (by omega : mode = 0 ∨ mode = 2) with k | k <;> rw [k] <;> rfl
                  clear hmo
                  go_wp2
                  go_meet
                  exact ⟨congrArg Value.bool (by rw [EM.out]), rfl⟩
              case rest =>
                obtain ⟨rfl, rfl⟩ := hcut
                go_upto_if 123 with fail
                go_cut [19] (fun t wx => t = .bool (mrF mode Q R D bl 2) ∧ wc = wx)
                case first =>
                  by_cases hmo : mode = 2
                  · have hmb : (mode == 2) = true := by simpa using hmo
                    have EM : Hid (mrF mode Q R D bl 2 = (!bl && decide (0 < R))) := by show _ = _; rw [mrF_yes (by omega), hmo]; simp [outB]
                    have ES : Hid ((sm && !nb) = (!bl && decide (0 < R))) := by
                      show _ = _
                      rw [GS.out]
                      rcases GSG.out with k | k
                      · rw [k, Bool.and_comm]
                      · rw [decide_eq_false (show ¬ 0 < R by have := GQ0.out k; omega)]; simp
                    clear hmo
                    cases sm
                    · go_wp2
                      go_meet
                      exact ⟨congrArg Value.bool (by rw [EM.out, ← ES.out]; rfl), rfl⟩
                    · go_wp2
                      go_meet
                      exact ⟨congrArg Value.bool (by rw [EM.out, ← ES.out]; rfl), rfl⟩
                  · have hmb : (mode == 2) = false := by simpa using hmo
                    have EM : Hid (mrF mode Q R D bl 2 = mrF mode Q R D bl 1) := by
                      show _ = _
                      unfold mrF
                      rcases (by omega : mode = 0 ∨ mode = 1) with k | k <;> rw [k] <;> rfl
                    clear hmo
                    go_wp2
                    go_meet
                    exact ⟨congrArg Value.bool (by rw [EM.out]), rfl⟩
                case rest =>
                  obtain ⟨rfl, rfl⟩ := hcut
                  have hmr := mrF_yes (mode := mode) (Q := Q) (R := R) (D := D) (bl := bl) (k := 2) hm2
                  rw [hmr]
                  clear hmr
                  obtain ⟨o, ho⟩ : ∃ o, o = outB Q R D bl mode := ⟨_, rfl⟩
                  rw [← ho]
                  have GO := hideP ho
                  clear ho
                  have hrq := hrq.later gc
                  obtain ⟨pm0, pm1⟩ := hpm
                  go_upto_if 130 with fail
                  go_cut [12] (fun t wx => Row wx t (upI Q o) ∧ Bl wc wx)
                  case first =>
                    cases o
                    · go_wp2
                      go_meet
                      exact ⟨hrq, Bl.refl _⟩
                    · go_wp2_with fail
                      refine (bits_any 1 _ (by omega) (by omega)).mono ?_
                      rintro e x6 ⟨v6, rfl, q6, g6⟩
                      go_wp2_with fail
                      refine (add_any _ _ _ _ _ (hrq.later g6) q6).mono ?_
                      rintro e x7 ⟨v7, rfl, q7, g7⟩
                      have e7 : (Q + 1) % 1361129467683753853853498429727072845824 = Q + 1 := by omega
                      rw [e7, ← upI_one] at q7
                      clear e7
                      go_wp2
                      go_meet
                      exact ⟨q7, g6.trans g7⟩
                  case rest =>
                    obtain ⟨rC, gd⟩ := hcut
                    have hC0 := upI_le Q o
                    have EF : Hid (upI (p / D) (outB (p / D) (p % D) D (belB a b c) mode) = upI Q o ∧ belB a b c = bl) := by
                      show _ ∧ _
                      rw [← GQ.out, ← GR.out, ← GB.out, ← GO.out]
                      exact ⟨rfl, rfl⟩
                    have EZ : Hid (nb = bl ∨ upI Q o = 0) := by
                      show _ ∨ _
                      rcases GSG.out with k | k
                      · exact .inl k
                      · right
                        have := GQ0.out k
                        rw [GO.out, this.1, this.2, outB_zero _ _ _ _ hD]
                        rfl
                    have hWf := ((hW.trans hB).trans (G.trans gc)).trans gd
                    generalize upI Q o = C at *
                    have hgo : Hid (C < 4611686018427387904 ∨ ¬ C < 4611686018427387904) := by show _ ∨ _; omega
                    rcases hgo.out with hC | hC
                    · have e1 := hideP (show nmN C = C from if_pos hC)
                      have e2 := hideP (show nmB C = true from decide_eq_true hC)
                      have f2 := hideP (show rdB C = true from decide_eq_true (by omega))
                      have f1 : Hid (rdN C bl = if bl then -C else C) := by show _ = _; unfold rdN; rw [if_neg (by omega)]
                      have C0 : 0 ≤ C := by omega
                      cases nb
                      · have f3 : Hid (rdN C bl = C) := by
                          show _ = _
                          rw [f1.out]
                          rcases EZ.out with k | k
                          · rw [← k]; rfl
                          · rw [k]; split <;> rfl
                        go_wp2_with fail
                        refine (number_any _ _ _ rC).mono ?_
                        rw [e1.out, e2.out]
                        rintro e y1 ⟨rfl, z1⟩
                        go_wp2
                        go_ret2
                        refine ⟨?_, hWf.trans z1⟩
                        rw [EF.out.1, EF.out.2, f3.out, f2.out]
                        rfl
                      · have f3 : Hid (rdN C bl = -C) := by
                          show _ = _
                          rw [f1.out]
                          rcases EZ.out with k | k
                          · rw [← k]; rfl
                          · rw [k]; split <;> rfl
                        go_wp2_with fail
                        refine (number_any _ _ _ rC).mono ?_
                        rw [e1.out, e2.out]
                        rintro e y1 ⟨rfl, z1⟩
                        go_wp2
                        go_ret2
                        refine ⟨?_, hWf.trans z1⟩
                        rw [EF.out.1, EF.out.2, f3.out, f2.out]
                        first | rfl | (simp; done)
                    · have e1 := hideP (show nmN C = 0 from if_neg hC)
                      have e2 := hideP (show nmB C = false from decide_eq_false hC)
                      have f2 := hideP (show rdB C = false from decide_eq_false (by omega))
                      have f1 : Hid (rdN C bl = 0) := by show _ = _; unfold rdN; rw [if_pos (by omega)]
                      go_wp2_with fail
                      refine (number_any _ _ _ rC).mono ?_
                      rw [e1.out, e2.out]
                      rintro e y1 ⟨rfl, z1⟩
                      go_wp2
                      go_ret2
                      refine ⟨?_, hWf.trans z1⟩
                      rw [EF.out.1, EF.out.2, f1.out, f2.out]
                      rfl
    | succ j =>
      rw [show ((j + 1 : Nat) : Int) - 1 = (j : Int) from by omega]
      have gp := (bl_cell hB _ (op + j) hpb).trans (CP.out j (by omega))
      have x01 := ap.getD j
      have Dr := bval_drop_succ ps j (by omega)
      have bd := drop_bd ps ap lp j
      generalize ps.getD j 0 = x at *
      have LS := long_step (bval (ps.drop (j + 1))) (bval (ps.drop j)) D x hD Dr (by omega) (by omega)
      have dq := div_le_self (D := D) bd.1 hD
      have r0 := Int.emod_nonneg (bval (ps.drop (j + 1))) (show D ≠ 0 by omega)
      have r1 := Int.emod_lt_of_pos (bval (ps.drop (j + 1))) hD
      generalize bval (ps.drop (j + 1)) / D = Q at *
      generalize bval (ps.drop (j + 1)) % D = R at *
      generalize bval (ps.drop (j + 1)) = N at *
      have HX := hideP x01
      have HRQ := hideP hrq
      have HRR := hideP hrr
      have HLS := hideP LS
      clear x01 Dr hrq hrr LS
      have hjI : (j : Int) < 130 := by omega
      have hj0 : (0 : Int) ≤ (j : Int) := by omega
      go_wp2_with fail
      refine (up_any _ _ _ _ HRR.out HX.out).mono ?_
      rintro e w8 ⟨v8, rfl, r8, h8⟩
      have e8 : (2 * R + x) % 1361129467683753853853498429727072845824 = 2 * R + x := by have := HX.out; omega
      rw [e8] at r8
      by_cases hl : 2 * R + x < D
      · have DL := hideP (decide_eq_true hl)
        have F := HLS.out.1 hl
        have HF := hideP F
        clear hl F e8
        go_wp2_with fail
        refine (less_any _ _ _ _ _ r8 ((rd.later hB).later h8)).mono ?_
        rw [DL.out]
        rintro e w9 ⟨rfl, h9⟩
        go_wp2_with fail
        refine (up_any _ _ 0 _ ((HRQ.out.later h8).later h9) (.inl rfl)).mono ?_
        rintro e w10 ⟨v10, rfl, r10, h10⟩
        have e10 : (2 * Q + 0) % 1361129467683753853853498429727072845824 = 2 * Q := by omega
        rw [e10] at r10
        clear e10
        go_wp2
        go_roundw
        case rel =>
          refine ⟨j, rfl, by omega, ?_, ?_, ((hB.trans h8).trans h9).trans h10⟩
          · rw [HF.out.2]; exact r10
          · rw [HF.out.1]; exact (r8.later h9).later h10
        case measure => simp [intOf]
      · have DL := hideP (decide_eq_false hl)
        have F := HLS.out.2 (by omega)
        have HF := hideP F
        have es : (2 * R + x - D) % 1361129467683753853853498429727072845824 = 2 * R + x - D := by have := HX.out; omega
        have HES := hideP es
        clear hl F e8 es
        go_wp2_with fail
        refine (less_any _ _ _ _ _ r8 ((rd.later hB).later h8)).mono ?_
        rw [DL.out]
        rintro e w9 ⟨rfl, h9⟩
        go_wp2_with fail
        refine (sub_any _ _ _ _ _ (r8.later h9) (((rd.later hB).later h8).later h9)).mono ?_
        rintro e w11 ⟨v11, rfl, r11, h11⟩
        rw [HES.out] at r11
        go_wp2_with fail
        refine (up_any _ _ 1 _ (((HRQ.out.later h8).later h9).later h11) (.inr rfl)).mono ?_
        rintro e w10 ⟨v10, rfl, r10, h10⟩
        have e10 : (2 * Q + 1) % 1361129467683753853853498429727072845824 = 2 * Q + 1 := by omega
        rw [e10] at r10
        clear e10
        go_wp2
        go_roundw
        case rel =>
          refine ⟨j, rfl, by omega, ?_, ?_, (((hB.trans h8).trans h9).trans h11).trans h10⟩
          · rw [HF.out.2]; exact r10
          · rw [HF.out.1]; exact r11.later h10
        case measure => simp [intOf]
end Go.Proofs.YthnadgbloamlaaaGreat
