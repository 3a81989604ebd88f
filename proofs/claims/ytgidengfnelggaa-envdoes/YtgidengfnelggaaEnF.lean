/- The walk of EnvFine. -/
import Derived.Test.YtgidengfnelggaaEn7
import Derived.Test.YtgidengfnelggaaQz
namespace Go.Proofs.Ytgidengfnelggaa
open Go.RowKit
set_option linter.unusedSimpArgs false
set_option linter.unusedVariables false

def sel5 (r0 r1 r2 r3 r4 : En) : Nat → En
  | 0 => r0
  | 1 => r1
  | 2 => r2
  | 3 => r3
  | _ => r4
theorem idx5 (r0 r1 r2 r3 r4 : En) (k : Nat) (hk : k < 5) (w : World) :
    (Instr.index 26 (.agg #[.int .i64 r0.v, .int .i64 r0.l, .int .i64 r0.h, .bool r0.bad, .int .i64 r1.v, .int .i64 r1.l, .int .i64 r1.h, .bool r1.bad, .int .i64 r2.v, .int .i64 r2.l, .int .i64 r2.h, .bool r2.bad, .int .i64 r3.v, .int .i64 r3.l, .int .i64 r3.h, .bool r3.bad, .int .i64 r4.v, .int .i64 r4.l, .int .i64 r4.h, .bool r4.bad]) (.int .i64 k)).run Try.prog w
      = .ok (enV (sel5 r0 r1 r2 r3 r4 k)) w := by
  rcases (by omega : k = 0 ∨ k = 1 ∨ k = 2 ∨ k = 3 ∨ k = 4) with rfl | rfl | rfl | rfl | rfl <;> kernel_rfl
theorem sel5_all {p : En → Prop} {r0 r1 r2 r3 r4 : En} (h0 : p r0) (h1 : p r1) (h2 : p r2) (h3 : p r3) (h4 : p r4) (k : Nat) : p (sel5 r0 r1 r2 r3 r4 k) := by
  unfold sel5
  split <;> assumption
theorem fineW (w : World) : Calls Try.prog 18 #[.agg #[.int .i64 0, .int .i64 0, .int .i64 0, .bool true]] w fun e w' => e = .returned (.bool false) ∧ Bl w w' := fine_any wrongE w

set_option maxHeartbeats 2000000 in
theorem walk_EnvFine (a b : En) (w : World) :
    Calls Try.prog 6 #[enV a, enV b] w fun e w' => e = .returned (.bool true) ∧ Bl w w' := by
  obtain ⟨av, al, ah, ab⟩ := a
  obtain ⟨W, X⟩ := ab_ex w ⟨av, al, ah, ab⟩ b
  have HX := hideP X
  clear X
  have T1 := hideP (eadd_any ⟨av, al, ah, ab⟩ b)
  have T2 := hideP (esub_any ⟨av, al, ah, ab⟩ b)
  have T3 := hideP (emul_any ⟨av, al, ah, ab⟩ b)
  have T4 := hideP (ediv_any ⟨av, al, ah, ab⟩ b)
  have T5 := hideP (eneg_any ⟨av, al, ah, ab⟩)
  have T6 := hideP (eroot_any ⟨av, al, ah, ab⟩)
  have T7 := hideP (emul_any b ⟨av, al, ah, ab⟩)
  have F1 := fine_add ⟨av, al, ah, ab⟩ b
  have F2 := fine_sub ⟨av, al, ah, ab⟩ b
  have F3 := fine_mul ⟨av, al, ah, ab⟩ b
  have F4 := fine_div ⟨av, al, ah, ab⟩ b
  have F5 := fine_neg ⟨av, al, ah, ab⟩
  have F6 := fine_root ⟨av, al, ah, ab⟩
  have hbad : ab = true → addE ⟨av, al, ah, ab⟩ b = wrongE ∧ mulE b ⟨av, al, ah, ab⟩ = wrongE ∧ rootE ⟨av, al, ah, ab⟩ = wrongE := fun h => ⟨bad_add b h, bad_mul b h, bad_root h⟩
  generalize addE ⟨av, al, ah, ab⟩ b = r0 at *
  generalize subE ⟨av, al, ah, ab⟩ b = r1 at *
  generalize mulE ⟨av, al, ah, ab⟩ b = r2 at *
  generalize divE ⟨av, al, ah, ab⟩ b = r3 at *
  generalize negE ⟨av, al, ah, ab⟩ = r4 at *
  generalize rootE ⟨av, al, ah, ab⟩ = r5 at *
  generalize mulE b ⟨av, al, ah, ab⟩ = r6 at *
  have HF := hideP (fun k => sel5_all (p := FineOr) F1 F2 F3 F4 F5 k)
  have HF6 := hideP F6
  have HBad := hideP hbad
  clear F1 F2 F3 F4 F5 F6 hbad
  obtain ⟨a0, a1, a2, a3⟩ := HX.out.ba.wl
  obtain ⟨b0, b1, b2, b3⟩ := HX.out.bb.wl
  dsimp only at a0 a1 a2 a3
  go_enter Try.func6, Try.ntmps6
  go_wp2_with fail
  rw [← HX.out.eq]
  have wne := wl_ne W
  refine wl_region W (Bl.refl _) (by kernel_rfl) (by kernel_rfl) ?_
  repeat (go_big_quiet_step (first | (go_at_call 11; exact wl_call (T1.out _)) | (go_at_call 12; exact wl_call (T2.out _)) | (go_at_call 13; exact wl_call (T3.out _)) | (go_at_call 14; exact wl_call (T4.out _)) | (go_at_call 25; exact wl_call (T5.out _))))
  refine wpQuiet_nil ?_
  intro _ hw'
  obtain ⟨z, hw''⟩ := hw'
  subst hw''
  clear wne
  obtain ⟨w1, h1⟩ := z
  dsimp only
  have HB := hideP h1
  clear h1 a0 a1 a2 a3 b0 b1 b2 b3
  go_wp2_with fail
  go_loopw [23] (fun i wr => ∃ k : Nat, k ≤ 5 ∧ i = .int .i64 k ∧ Bl w1 wr) (fun i _ => 5 - (intOf i).toNat)
  case atStart => exact ⟨0, by omega, rfl, Bl.refl _⟩
  case round =>
    obtain ⟨k, hk, rfl, hr⟩ := hrel
    have HR := hideP (HB.out.trans hr)
    have HR2 := hideP hr
    clear hr
    by_cases hlt : k < 5
    · have ix := idx5 r0 r1 r2 r3 r4 k hlt
      have fx := HF.out k
      generalize sel5 r0 r1 r2 r3 r4 k = x at *
      rcases fx with rfl | ⟨f1, f2⟩
      · unfold wrongE at ix
        try dsimp only at ix
        obtain ⟨V, hV⟩ : ∃ V, V = wr.alloc (.cells #[.int .i64 0, .int .i64 0, .int .i64 0, .bool true] 23) := ⟨_, rfl⟩
        have bV : Bl wr V := by rw [hV]; exact (Bl.refl _).alloc _
        have xV : Box V wr.heap.size ⟨0, 0, 0, true⟩ := by rw [hV]; exact Box.new wr ⟨0, 0, 0, true⟩ _
        obtain ⟨x0, x1, x2, x3⟩ := xV.wl
        dsimp only at x0 x1 x2 x3
        have HV := hideP hV
        clear hV xV
        go_wp2_with fail
        rw [← HV.out]
        have wne := wl_ne V
        refine wl_region V (Bl.refl _) (by kernel_rfl) (by kernel_rfl) ?_
        repeat (go_big_quiet_step (first | (go_at_call 18; exact wl_call (fineW _)) | (go_at_call 22; exact wl_call (wrongU _))))
        refine wpQuiet_nil ?_
        intro _ hw'
        obtain ⟨z, hw''⟩ := hw'
        subst hw''
        clear wne
        obtain ⟨w2, h2⟩ := z
        dsimp only
        clear x0 x1 x2 x3
        go_wp2
        go_roundw
        case rel => exact ⟨k + 1, by omega, by go_num, (HR2.out.trans bV).trans h2⟩
        case measure => simp [intOf]; omega
      · obtain ⟨xv, xl, xh, xb⟩ := x
        simp only at f1
        subst f1
        have FX := fine_any ⟨xv, xl, xh, false⟩
        rw [f2] at FX
        have HFX := hideP FX
        clear FX f2
        obtain ⟨V, hV⟩ : ∃ V, V = wr.alloc (.cells #[.int .i64 xv, .int .i64 xl, .int .i64 xh, .bool false] 23) := ⟨_, rfl⟩
        have bV : Bl wr V := by rw [hV]; exact (Bl.refl _).alloc _
        have xV : Box V wr.heap.size ⟨xv, xl, xh, false⟩ := by rw [hV]; exact Box.new wr ⟨xv, xl, xh, false⟩ _
        obtain ⟨x0, x1, x2, x3⟩ := xV.wl
        dsimp only at x0 x1 x2 x3
        have HV := hideP hV
        clear hV xV
        go_wp2_with fail
        rw [← HV.out]
        have wne := wl_ne V
        refine wl_region V (Bl.refl _) (by kernel_rfl) (by kernel_rfl) ?_
        repeat (go_big_quiet_step (first | (go_at_call 18; exact wl_call (HFX.out _))))
        refine wpQuiet_nil ?_
        intro _ hw'
        obtain ⟨z, hw''⟩ := hw'
        subst hw''
        clear wne
        obtain ⟨w2, h2⟩ := z
        dsimp only
        clear x0 x1 x2 x3
        go_wp2
        go_roundw
        case rel => exact ⟨k + 1, by omega, by go_num, (HR2.out.trans bV).trans h2⟩
        case measure => simp [intOf]; omega
    · obtain rfl : k = 5 := by omega
      clear hk hlt
      obtain ⟨c0, c1, c2, c3, _, _, _, _, _⟩ := HX.out.ba.later HR.out
      dsimp only at c0 c1 c2 c3
      go_wp2_with fail
      refine (T6.out _).mono ?_
      rintro e w7 ⟨rfl, h7⟩
      have H7 := hideP (HR.out.trans h7)
      clear h7 c0 c1 c2 c3
      have f6 := HF6.out
      have hb := HBad.out
      cases ab
      · clear hb
        rcases f6 with rfl | ⟨f1, f2⟩
        · unfold wrongE
          obtain ⟨V, hV⟩ : ∃ V, V = w7.alloc (.cells #[.int .i64 0, .int .i64 0, .int .i64 0, .bool true] 23) := ⟨_, rfl⟩
          have bV : Bl w7 V := by rw [hV]; exact (Bl.refl _).alloc _
          have xV : Box V w7.heap.size ⟨0, 0, 0, true⟩ := by rw [hV]; exact Box.new w7 ⟨0, 0, 0, true⟩ _
          obtain ⟨x0, x1, x2, x3⟩ := xV.wl
          dsimp only at x0 x1 x2 x3
          have HV := hideP hV
          clear hV xV
          obtain ⟨a0, a1, a2, a3⟩ := (HX.out.ba.later (H7.out.trans bV)).wl
          dsimp only at a0 a1 a2 a3
          go_wp2_with fail
          rw [← HV.out]
          have wne := wl_ne V
          refine wl_region V (Bl.refl _) (by kernel_rfl) (by kernel_rfl) ?_
          repeat (go_big_quiet_step (first | (go_at_call 18; exact wl_call (fineW _)) | (go_at_call 20; exact wl_call (awake3_any _))))
          refine wpQuiet_nil ?_
          intro _ hw'
          obtain ⟨z, hw''⟩ := hw'
          subst hw''
          clear wne
          obtain ⟨w2, h2⟩ := z
          dsimp only
          clear x0 x1 x2 x3 a0 a1 a2 a3
          go_wp2
          go_ret
          exact ⟨rfl, ((HX.out.bl.trans H7.out).trans bV).trans h2⟩
        · obtain ⟨xv, xl, xh, xb⟩ := r5
          simp only at f1
          subst f1
          have FX := fine_any ⟨xv, xl, xh, false⟩
          rw [f2] at FX
          have HFX := hideP FX
          clear FX f2
          obtain ⟨V, hV⟩ : ∃ V, V = w7.alloc (.cells #[.int .i64 xv, .int .i64 xl, .int .i64 xh, .bool false] 23) := ⟨_, rfl⟩
          have bV : Bl w7 V := by rw [hV]; exact (Bl.refl _).alloc _
          have xV : Box V w7.heap.size ⟨xv, xl, xh, false⟩ := by rw [hV]; exact Box.new w7 ⟨xv, xl, xh, false⟩ _
          obtain ⟨x0, x1, x2, x3⟩ := xV.wl
          dsimp only at x0 x1 x2 x3
          have HV := hideP hV
          clear hV xV
          obtain ⟨a0, a1, a2, a3⟩ := (HX.out.ba.later (H7.out.trans bV)).wl
          dsimp only at a0 a1 a2 a3
          go_wp2_with fail
          rw [← HV.out]
          have wne := wl_ne V
          refine wl_region V (Bl.refl _) (by kernel_rfl) (by kernel_rfl) ?_
          repeat (go_big_quiet_step (first | (go_at_call 18; exact wl_call (HFX.out _)) | (go_at_call 20; exact wl_call (awake3_any _))))
          refine wpQuiet_nil ?_
          intro _ hw'
          obtain ⟨z, hw''⟩ := hw'
          subst hw''
          clear wne
          obtain ⟨w2, h2⟩ := z
          dsimp only
          clear x0 x1 x2 x3 a0 a1 a2 a3
          go_wp2
          go_ret
          exact ⟨rfl, ((HX.out.bl.trans H7.out).trans bV).trans h2⟩
      · obtain ⟨e0, e6, e5⟩ := hb rfl
        subst e0
        subst e6
        subst e5
        clear f6 hb
        have fb := field_bad (.int .i64 0) (.int .i64 0) (.int .i64 0) (.bool true)
        have TA := hideP (show ∀ w, Calls Try.prog 11 #[enV ⟨av, al, ah, true⟩, enV b] w fun e w' => e = .returned (.agg #[.int .i64 0, .int .i64 0, .int .i64 0, .bool true]) ∧ Bl w w' from T1.out)
        have TM := hideP (show ∀ w, Calls Try.prog 13 #[enV b, enV ⟨av, al, ah, true⟩] w fun e w' => e = .returned (.agg #[.int .i64 0, .int .i64 0, .int .i64 0, .bool true]) ∧ Bl w w' from T7.out)
        unfold wrongE
        obtain ⟨V, hV⟩ : ∃ V, V = w7.alloc (.cells #[.int .i64 0, .int .i64 0, .int .i64 0, .bool true] 23) := ⟨_, rfl⟩
        have bV : Bl w7 V := by rw [hV]; exact (Bl.refl _).alloc _
        have xV : Box V w7.heap.size ⟨0, 0, 0, true⟩ := by rw [hV]; exact Box.new w7 ⟨0, 0, 0, true⟩ _
        obtain ⟨x0, x1, x2, x3⟩ := xV.wl
        dsimp only at x0 x1 x2 x3
        have HV := hideP hV
        clear hV xV
        obtain ⟨a0, a1, a2, a3⟩ := (HX.out.ba.later (H7.out.trans bV)).wl
        obtain ⟨b0, b1, b2, b3⟩ := (HX.out.bb.later (H7.out.trans bV)).wl
        dsimp only at a0 a1 a2 a3
        go_wp2_with fail
        rw [← HV.out]
        have wne := wl_ne V
        refine wl_region V (Bl.refl _) (by kernel_rfl) (by kernel_rfl) ?_
        repeat (go_big_quiet_step (first | (go_at_call 18; exact wl_call (fineW _)) | (go_at_call 11; exact wl_call (TA.out _)) | (go_at_call 13; exact wl_call (TM.out _)) | (go_at_call 20; exact wl_call (awake3_any _))))
        refine wpQuiet_nil ?_
        intro _ hw'
        obtain ⟨z, hw''⟩ := hw'
        subst hw''
        clear wne
        obtain ⟨w2, h2⟩ := z
        dsimp only
        clear x0 x1 x2 x3 a0 a1 a2 a3 b0 b1 b2 b3
        go_wp2
        go_ret
        exact ⟨rfl, ((HX.out.bl.trans H7.out).trans bV).trans h2⟩
end Go.Proofs.Ytgidengfnelggaa
