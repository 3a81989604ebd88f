/- The walk of EnvOrder. -/
import Derived.Test.YtgidengfnelggaaEn7
namespace Go.Proofs.Ytgidengfnelggaa
open Go.RowKit
set_option linter.unusedSimpArgs false
set_option linter.unusedVariables false

set_option maxHeartbeats 2000000 in
theorem walk_EnvOrder (a b : En) (w : World) :
    Calls Try.prog 9 #[enV a, enV b] w fun e w' => e = .returned (.bool true) ∧ Bl w w' := by
  obtain ⟨W, X⟩ := ab_ex w a b
  have KP := hideP (fun w' (h : Bl W w') => (⟨(X.ba.later h).c0, (X.ba.later h).c1, (X.ba.later h).c2, (X.ba.later h).c3, (X.bb.later h).c0, (X.bb.later h).c1, (X.bb.later h).c2, (X.bb.later h).c3, h⟩ :
    w'.cell? ⟨w.heap.size, 0, none⟩ = some (.int .i64 a.v) ∧ w'.cell? ⟨w.heap.size, 1, none⟩ = some (.int .i64 a.l) ∧ w'.cell? ⟨w.heap.size, 2, none⟩ = some (.int .i64 a.h) ∧ w'.cell? ⟨w.heap.size, 3, none⟩ = some (.bool a.bad) ∧ w'.cell? ⟨w.heap.size + 1, 0, none⟩ = some (.int .i64 b.v) ∧ w'.cell? ⟨w.heap.size + 1, 1, none⟩ = some (.int .i64 b.l) ∧ w'.cell? ⟨w.heap.size + 1, 2, none⟩ = some (.int .i64 b.h) ∧ w'.cell? ⟨w.heap.size + 1, 3, none⟩ = some (.bool b.bad) ∧ Bl W w'))
  have HX := hideP X
  clear X
  have T1 := hideP (eadd_any a b)
  have T2 := eadd_any b a
  rw [add_comm' a b] at T2
  have HT2 := hideP T2
  clear T2
  have M1 := hideP (emul_any a b)
  have M2 := emul_any b a
  rw [mul_comm' a b] at M2
  have HM2 := hideP M2
  clear M2
  generalize addE a b = p at *
  generalize mulE a b = q at *
  have SB := hideP (esub_any a a)
  have EN := hideP (self_encl a)
  generalize subE a a = r at *
  go_enter Try.func9, Try.ntmps9
  go_wp2_with fail
  rw [← HX.out.eq]
  go_region_held3 (fun w' => w'.cell? ⟨w.heap.size, 0, none⟩ = some (.int .i64 a.v) ∧ w'.cell? ⟨w.heap.size, 1, none⟩ = some (.int .i64 a.l) ∧ w'.cell? ⟨w.heap.size, 2, none⟩ = some (.int .i64 a.h) ∧ w'.cell? ⟨w.heap.size, 3, none⟩ = some (.bool a.bad) ∧ w'.cell? ⟨w.heap.size + 1, 0, none⟩ = some (.int .i64 b.v) ∧ w'.cell? ⟨w.heap.size + 1, 1, none⟩ = some (.int .i64 b.l) ∧ w'.cell? ⟨w.heap.size + 1, 2, none⟩ = some (.int .i64 b.h) ∧ w'.cell? ⟨w.heap.size + 1, 3, none⟩ = some (.bool b.bad) ∧ Bl W w') (exact KP.out _ (by repeat (first | exact Bl.refl _ | apply Bl.drew | (refine Bl.trans ?_ (by assumption)))))
    (first
      | (go_at_call_of 11 #[Value.agg #[.int .i64 a.v, .int .i64 a.l, .int .i64 a.h, .bool a.bad], Value.agg #[.int .i64 b.v, .int .i64 b.l, .int .i64 b.h, .bool b.bad]]; refine (T1.out _).mono ?_; rintro e w' ⟨rfl, _⟩)
      | (go_at_call_of 11 #[Value.agg #[.int .i64 b.v, .int .i64 b.l, .int .i64 b.h, .bool b.bad], Value.agg #[.int .i64 a.v, .int .i64 a.l, .int .i64 a.h, .bool a.bad]]; refine (HT2.out _).mono ?_; rintro e w' ⟨rfl, _⟩)
      | (go_at_call_of 13 #[Value.agg #[.int .i64 a.v, .int .i64 a.l, .int .i64 a.h, .bool a.bad], Value.agg #[.int .i64 b.v, .int .i64 b.l, .int .i64 b.h, .bool b.bad]]; refine (M1.out _).mono ?_; rintro e w' ⟨rfl, _⟩)
      | (go_at_call_of 13 #[Value.agg #[.int .i64 b.v, .int .i64 b.l, .int .i64 b.h, .bool b.bad], Value.agg #[.int .i64 a.v, .int .i64 a.l, .int .i64 a.h, .bool a.bad]]; refine (HM2.out _).mono ?_; rintro e w' ⟨rfl, _⟩))
  rename_i hh
  obtain ⟨a0, a1, a2, a3, _, _, _, _, hB⟩ := hh
  have HB := hideP hB
  clear hB
  go_wp2_with fail
  refine (SB.out _).mono ?_
  rintro e w2 ⟨rfl, h2⟩
  have H2 := hideP (HB.out.trans h2)
  clear h2 a0 a1 a2 a3
  obtain ⟨V, hV⟩ : ∃ V, V = w2.alloc (.cells #[.int .i64 r.v, .int .i64 r.l, .int .i64 r.h, .bool r.bad] 23) := ⟨_, rfl⟩
  have v0 : Bl w2 V := by rw [hV]; exact (Bl.refl _).alloc _
  have xv : Box V w2.heap.size r := by rw [hV]; exact Box.new w2 r _
  have H3 := hideP (H2.out.trans v0)
  have HXV := hideP xv
  have HV := hideP hV
  clear v0 xv hV
  have FA := fine_any a
  have EC := encl_any r 0 1
  have ME := meet_any a a
  have hm := fun h => self_meet (a := a) h
  have en := EN.out
  generalize meetB a a = mb at *
  generalize enclB r 0 1 = eb at *
  have hfb : fineB a = false ∨ (fineB a = true ∧ mb = true) := by
    cases h : fineB a
    · exact .inl rfl
    · exact .inr ⟨rfl, hm h⟩
  clear hm EN
  generalize fineB a = fb at *
  have HFA := hideP FA
  have HEC := hideP EC
  have HME := hideP ME
  clear FA EC ME
  obtain ⟨rv, rl, rh, rb⟩ := r
  cases rb
  · have eb1 : eb = true := by
      rcases en with h | h
      · cases h
      · exact h
    subst eb1
    clear en
    rcases hfb with rfl | ⟨rfl, rfl⟩
    · go_wp2_with fail
      rw [← HV.out]
      refine (HEC.out _).mono ?_
      rintro e w4 ⟨rfl, h4⟩
      obtain ⟨a0, a1, a2, a3, _⟩ := KP.out _ (H3.out.trans h4)
      go_wp2_with fail
      refine (HFA.out _).mono ?_
      rintro e w5 ⟨rfl, h5⟩
      go_wp2_with fail
      refine (awake3_any _).mono ?_
      rintro e w6 ⟨rfl, h6⟩
      go_wp2
      go_ret
      exact ⟨rfl, (((HX.out.bl.trans H3.out).trans h4).trans h5).trans h6⟩
    · go_wp2_with fail
      rw [← HV.out]
      refine (HEC.out _).mono ?_
      rintro e w4 ⟨rfl, h4⟩
      obtain ⟨a0, a1, a2, a3, _⟩ := KP.out _ (H3.out.trans h4)
      go_wp2_with fail
      refine (HFA.out _).mono ?_
      rintro e w5 ⟨rfl, h5⟩
      obtain ⟨b0, b1, b2, b3, _⟩ := KP.out _ ((H3.out.trans h4).trans h5)
      go_wp2_with fail
      refine (HME.out _).mono ?_
      rintro e w6 ⟨rfl, h6⟩
      go_wp2_with fail
      refine (awake3_any _).mono ?_
      rintro e w7 ⟨rfl, h7⟩
      go_wp2
      go_ret
      exact ⟨rfl, ((((HX.out.bl.trans H3.out).trans h4).trans h5).trans h6).trans h7⟩
  · clear en
    obtain ⟨a0, a1, a2, a3, _⟩ := KP.out _ H3.out
    rw [HV.out] at a0 a1 a2 a3
    rcases hfb with rfl | ⟨rfl, rfl⟩
    · go_wp2_with fail
      rw [← HV.out]
      refine (HFA.out _).mono ?_
      rintro e w5 ⟨rfl, h5⟩
      go_wp2_with fail
      refine (awake3_any _).mono ?_
      rintro e w6 ⟨rfl, h6⟩
      go_wp2
      go_ret
      exact ⟨rfl, ((HX.out.bl.trans H3.out).trans h5).trans h6⟩
    · go_wp2_with fail
      rw [← HV.out]
      refine (HFA.out _).mono ?_
      rintro e w5 ⟨rfl, h5⟩
      obtain ⟨b0, b1, b2, b3, _⟩ := KP.out _ (H3.out.trans h5)
      go_wp2_with fail
      refine (HME.out _).mono ?_
      rintro e w6 ⟨rfl, h6⟩
      go_wp2_with fail
      refine (awake3_any _).mono ?_
      rintro e w7 ⟨rfl, h7⟩
      go_wp2
      go_ret
      exact ⟨rfl, (((HX.out.bl.trans H3.out).trans h5).trans h6).trans h7⟩
end Go.Proofs.Ytgidengfnelggaa
