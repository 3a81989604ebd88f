/- The contract of the document's Compare. -/
import Derived.Test.YtoibkkiohpnaaaaTimes
import Derived.Deep.DeepCutAuto
namespace Go.Proofs.Ytoibkkiohpnaaaa
open Go.RowKit
set_option linter.unusedSimpArgs false
set_option linter.unusedVariables false

theorem sgn_cases (a b : Int) : (0 < a ∧ 0 < b ∧ cmpI (a * b) 0 = 1) ∨ (a < 0 ∧ b < 0 ∧ cmpI (a * b) 0 = 1) ∨ (0 < a ∧ b < 0 ∧ cmpI (a * b) 0 = -1) ∨ (a < 0 ∧ 0 < b ∧ cmpI (a * b) 0 = -1) ∨
    (a ≤ 0 ∧ 0 ≤ a ∧ cmpI (a * b) 0 = 0) ∨ (0 < a ∧ (b ≤ 0 ∧ 0 ≤ b) ∧ cmpI (a * b) 0 = 0) ∨ (a < 0 ∧ (b ≤ 0 ∧ 0 ≤ b) ∧ cmpI (a * b) 0 = 0) := by
  rcases (by omega : a < 0 ∨ a = 0 ∨ 0 < a) with h | h | h
  · rcases (by omega : b < 0 ∨ b = 0 ∨ 0 < b) with k | k | k
    · exact .inr (.inl ⟨h, k, cmpI_gt (Int.mul_pos_of_neg_of_neg h k)⟩)
    · exact .inr (.inr (.inr (.inr (.inr (.inr ⟨h, ⟨by omega, by omega⟩, cmpI_eq (by rw [k, Int.mul_zero])⟩)))))
    · exact .inr (.inr (.inr (.inl ⟨h, k, cmpI_lt (Int.mul_neg_of_neg_of_pos h k)⟩)))
  · exact .inr (.inr (.inr (.inr (.inl ⟨by omega, by omega, cmpI_eq (by rw [h, Int.zero_mul])⟩))))
  · rcases (by omega : b < 0 ∨ b = 0 ∨ 0 < b) with k | k | k
    · exact .inr (.inr (.inl ⟨h, k, cmpI_lt (Int.mul_neg_of_pos_of_neg h k)⟩))
    · exact .inr (.inr (.inr (.inr (.inr (.inl ⟨h, ⟨by omega, by omega⟩, cmpI_eq (by rw [k, Int.mul_zero])⟩)))))
    · exact .inl ⟨h, k, cmpI_gt (Int.mul_pos h k)⟩

theorem sgn_two (a b : Int) : cmpI (a * b) 0 = 1 ∨ (cmpI (a * b) 0 = -1 ∧ (a != 0) = true ∧ (b != 0) = true) ∨ (cmpI (a * b) 0 = 0 ∧ (a != 0) = false) ∨ (cmpI (a * b) 0 = 0 ∧ (a != 0) = true ∧ (b != 0) = false) := by
  rcases sgn_cases a b with ⟨h, k, e⟩ | ⟨h, k, e⟩ | ⟨h, k, e⟩ | ⟨h, k, e⟩ | ⟨h, k, e⟩ | ⟨h, ⟨k, k'⟩, e⟩ | ⟨h, ⟨k, k'⟩, e⟩
  · exact .inl e
  · exact .inl e
  · exact .inr (.inl ⟨e, bne_iff_ne.2 (by omega), bne_iff_ne.2 (by omega)⟩)
  · exact .inr (.inl ⟨e, bne_iff_ne.2 (by omega), bne_iff_ne.2 (by omega)⟩)
  · exact .inr (.inr (.inl ⟨e, by rw [show a = 0 by omega]; rfl⟩))
  · exact .inr (.inr (.inr ⟨e, bne_iff_ne.2 (by omega), by rw [show b = 0 by omega]; rfl⟩))
  · exact .inr (.inr (.inr ⟨e, bne_iff_ne.2 (by omega), by rw [show b = 0 by omega]; rfl⟩))

set_option maxHeartbeats 2000000 in
set_option maxRecDepth 1000000 in
theorem refCompare_any (a b c d : Int) (w : World) (ha : rightB a = true) (hb : rightB b = true) (hc : rightB c = true) (hd : rightB d = true) :
    Calls Try.prog 30 #[.int .i64 a, .int .i64 b, .int .i64 c, .int .i64 d] w fun e w' => e = .returned (.int .i64 (cmpI (a * b) (c * d))) ∧ Bl w w' := by
  have ia := right_i64 ha
  have ib := right_i64 hb
  have ic := right_i64 hc
  have id' := right_i64 hd
  have ka := rightB_iff.1 ha
  have kb := rightB_iff.1 hb
  have kc := rightB_iff.1 hc
  have kd := rightB_iff.1 hd
  have sa := szI_right ha
  have sb := szI_right hb
  have sc := szI_right hc
  have sd := szI_right hd
  have SA := hideP (refSize_any a ia (by omega))
  have SB := hideP (refSize_any b ib (by omega))
  have SC := hideP (refSize_any c ic (by omega))
  have SD := hideP (refSize_any d id' (by omega))
  have TP := fun w => rtimes_any (szI a) (szI b) w sa.1 (by omega) sb.1 (by omega)
  have TQ := fun w => rtimes_any (szI c) (szI d) w sc.1 (by omega) sd.1 (by omega)
  rw [szI_mul] at TP TQ
  have HP := hideP TP
  have HQ := hideP TQ
  clear TP TQ ia ib ic id' ka kb kc kd sa sb sc sd ha hb hc hd
  go_enter Try.func30, Try.ntmps30
  go_wp2_with fail
  refine (SA.out _).mono ?_
  rintro e w1 ⟨rfl, rfl⟩
  go_wp2_with fail
  refine (SB.out _).mono ?_
  rintro e w2 ⟨rfl, rfl⟩
  go_wp2_with fail
  refine (HP.out _).mono ?_
  rintro e w3 ⟨vp, rfl, rp, h3⟩
  go_wp2_with fail
  refine (SC.out _).mono ?_
  rintro e w4 ⟨rfl, rfl⟩
  go_wp2_with fail
  refine (SD.out _).mono ?_
  rintro e w5 ⟨rfl, rfl⟩
  go_wp2_with fail
  refine (HQ.out _).mono ?_
  rintro e w6 ⟨vq, rfl, rq, h6⟩
  have rp := rp.later h6
  go_upto_region 4 with fail
  go_cut [36] (fun t wx => t = .bool (decide (cmpI (a * b) 0 = 1)) ∧ w6 = wx)
  case first =>
    rcases sgn_cases a b with ⟨h, k, e⟩ | ⟨h, k, e⟩ | ⟨h, k, e⟩ | ⟨h, k, e⟩ | ⟨h, k, e⟩ | ⟨h, ⟨k, k'⟩, e⟩ | ⟨h, ⟨k, k'⟩, e⟩
    all_goals
      have E := hideP e
      clear e
      go_wp2
      go_meet
      exact ⟨congrArg Value.bool (by rw [E.out]; first | rfl | (simp; done) | (simp; omega)), rfl⟩
  case rest =>
    obtain ⟨rfl, rfl⟩ := hcut
    go_upto_if 36 with fail
    go_cut [11] (fun t wx => t = .int .i64 (cmpI (a * b) 0) ∧ w6 = wx)
    case first =>
      rcases sgn_two a b with e | ⟨e, h, k⟩ | ⟨e, h⟩ | ⟨e, h, k⟩
      all_goals
        rw [e]
        have E := hideP e
        clear e
        go_wp2
        go_meet
        exact ⟨by rw [E.out], rfl⟩
    case rest =>
      obtain ⟨rfl, rfl⟩ := hcut
      go_upto_region 9 with fail
      go_cut [56] (fun t wx => t = .bool (decide (cmpI (c * d) 0 = 1)) ∧ w6 = wx)
      case first =>
        rcases sgn_cases c d with ⟨h, k, e⟩ | ⟨h, k, e⟩ | ⟨h, k, e⟩ | ⟨h, k, e⟩ | ⟨h, k, e⟩ | ⟨h, ⟨k, k'⟩, e⟩ | ⟨h, ⟨k, k'⟩, e⟩
        all_goals
          have E := hideP e
          clear e
          go_wp2
          go_meet
          exact ⟨congrArg Value.bool (by rw [E.out]; first | rfl | (simp; done) | (simp; omega)), rfl⟩
      case rest =>
        obtain ⟨rfl, rfl⟩ := hcut
        go_upto_if 56 with fail
        go_cut [12] (fun t wx => t = .int .i64 (cmpI (c * d) 0) ∧ w6 = wx)
        case first =>
          rcases sgn_two c d with e | ⟨e, h, k⟩ | ⟨e, h⟩ | ⟨e, h, k⟩
          all_goals
            rw [e]
            have E := hideP e
            clear e
            go_wp2
            go_meet
            exact ⟨by rw [E.out], rfl⟩
        case rest =>
          obtain ⟨rfl, rfl⟩ := hcut
          have C1 := cmp_signs (a * b) (c * d)
          have C2 := cmp_sizes (a * b) (c * d)
          have L1 := cmpI_bd (a * b) 0
          generalize hl : cmpI (a * b) 0 = l at *
          generalize hr : cmpI (c * d) 0 = r at *
          clear hl hr
          have HC1 := hideP C1
          have HC2 := hideP C2
          clear C1 C2
          obtain ⟨l0, l1⟩ := L1
          have hW : Bl w2 w6 := h3.trans h6
          by_cases hs : l = r
          · subst hs
            have hn : (l != l) = false := by simp
            have K := HC2.out rfl
            have HK := hideP K
            clear K HC1 HC2
            by_cases h1 : szI (a * b) < szI (c * d)
            · have d1 := hideP (decide_eq_true h1)
              have e1 := hideP (cmpI_lt h1)
              clear h1
              go_wp2_with (go_at_call 41; refine (less_any vp vq _ _ _ rp rq).mono ?_; rw [d1.out]; rintro e w7 ⟨rfl, h7⟩)
              go_ret
              refine ⟨?_, hW.trans h7⟩
              rw [← HK.out, e1.out]
              exact ret_int (by omega)
            · have d1 := hideP (decide_eq_false h1)
              by_cases h2 : szI (c * d) < szI (a * b)
              · have d2 := hideP (decide_eq_true h2)
                have e1 := hideP (cmpI_gt h2)
                clear h1 h2
                go_wp2_with fail
                refine (less_any vp vq _ _ _ rp rq).mono ?_
                rw [d1.out]
                rintro e w7 ⟨rfl, h7⟩
                go_wp2_with fail
                refine (less_any vq vp _ _ _ (rq.later h7) (rp.later h7)).mono ?_
                rw [d2.out]
                rintro e w8 ⟨rfl, h8⟩
                go_wp2
                go_ret
                refine ⟨?_, (hW.trans h7).trans h8⟩
                rw [← HK.out, e1.out]
                exact ret_int (by omega)
              · have d2 := hideP (decide_eq_false h2)
                have e1 := hideP (cmpI_eq (show szI (a * b) = szI (c * d) by omega))
                clear h1 h2
                go_wp2_with fail
                refine (less_any vp vq _ _ _ rp rq).mono ?_
                rw [d1.out]
                rintro e w7 ⟨rfl, h7⟩
                go_wp2_with fail
                refine (less_any vq vp _ _ _ (rq.later h7) (rp.later h7)).mono ?_
                rw [d2.out]
                rintro e w8 ⟨rfl, h8⟩
                go_wp2
                go_ret
                refine ⟨?_, (hW.trans h7).trans h8⟩
                rw [← HK.out, e1.out]
                exact ret_int (by omega)
          · have hn : (l != r) = true := by simpa using hs
            have K := HC1.out hs
            have HK := hideP K
            clear K HC1 HC2
            by_cases h1 : l < r
            · have e1 := hideP (cmpI_lt h1)
              clear hs
              go_wp2
              go_ret
              refine ⟨?_, hW⟩
              rw [← HK.out, e1.out]
              rfl
            · have e1 := hideP (cmpI_gt (show r < l by omega))
              clear hs
              go_wp2
              go_ret
              refine ⟨?_, hW⟩
              rw [← HK.out, e1.out]
              rfl
end Go.Proofs.Ytoibkkiohpnaaaa
