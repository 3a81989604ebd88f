/- The walk of EnvHolds. -/
import Derived.Test.YtgidengfnelggaaEn7
import Derived.Test.YtgidengfnelggaaQz
namespace Go.Proofs.Ytgidengfnelggaa
open Go.RowKit
set_option linter.unusedSimpArgs false
set_option linter.unusedVariables false

theorem within_any (i o : En) (w : World) (h : With i o) :
    Calls Try.prog 29 #[enV i, enV o] w fun e w' => e = .returned (.bool true) ∧ Bl w w' := by
  obtain ⟨v, l, h', bd⟩ := i
  obtain ⟨v2, l2, h2, bd2⟩ := o
  cases bd2
  · rcases h with h | ⟨k1, k2, k3⟩
    · cases h
    · simp only at k1 k2 k3
      subst k1
      go_enter Try.func29, Try.ntmps29
      go_wp2
      go_ret
      exact ⟨by simp [k2, k3], ((Bl.refl _).alloc _).alloc _⟩
  · go_enter Try.func29, Try.ntmps29
    go_wp2
    go_ret
    exact ⟨rfl, ((Bl.refl _).alloc _).alloc _⟩

/-- What lies between the bounds, and next to x. -/
def clamp (a : En) (x : Int) : Int := min (max x a.l) a.h
theorem clamp_in {a : En} (h : fineB a = true) (x : Int) : inB a (clamp a x) := by
  obtain ⟨_, h1, h2, _, _⟩ := fineB_iff.1 h
  unfold inB clamp
  omega

set_option maxHeartbeats 1000000 in
theorem holds_bad (a b : En) (x y : Int) (w : World) (h : fineB a = false ∨ fineB b = false) :
    Calls Try.prog 7 #[enV a, enV b, .int .i64 x, .int .i64 y] w fun e w' => e = .returned (.bool true) ∧ Bl w w' := by
  obtain ⟨W, X⟩ := ab_ex w a b
  have HX := hideP X
  clear X
  have FA := fine_any a
  have FB := fine_any b
  generalize fineB a = fa at *
  generalize fineB b = fb at *
  have HFA := hideP FA
  have HFB := hideP FB
  clear FA FB
  cases fa
  · go_enter Try.func7, Try.ntmps7
    go_wp2_with fail
    rw [← HX.out.eq]
    refine (HFA.out _).mono ?_
    rintro e w1 ⟨rfl, h1⟩
    go_wp2_with fail
    refine (awake3_any _).mono ?_
    rintro e w2 ⟨rfl, h2⟩
    go_wp2
    go_ret
    exact ⟨rfl, (HX.out.bl.trans h1).trans h2⟩
  · have hfb : fb = false := by
      rcases h with h | h
      · cases h
      · exact h
    subst hfb
    clear h
    go_enter Try.func7, Try.ntmps7
    go_wp2_with fail
    rw [← HX.out.eq]
    refine (HFA.out _).mono ?_
    rintro e w1 ⟨rfl, h1⟩
    obtain ⟨b0, b1, b2, b3, _, _, _, _, _⟩ := HX.out.bb.later h1
    go_wp2_with fail
    refine (HFB.out _).mono ?_
    rintro e w2 ⟨rfl, h2⟩
    go_wp2_with fail
    refine (awake3_any _).mono ?_
    rintro e w3 ⟨rfl, h3⟩
    go_wp2
    go_ret
    exact ⟨rfl, ((HX.out.bl.trans h1).trans h2).trans h3⟩

set_option maxHeartbeats 2000000 in
theorem holds_good (a b : En) (x y : Int) (w : World) (ha : fineB a = true) (hb : fineB b = true) :
    Calls Try.prog 7 #[enV a, enV b, .int .i64 x, .int .i64 y] w fun e w' => e = .returned (.bool true) ∧ Bl w w' := by
  obtain ⟨W, X⟩ := ab_ex w a b
  have HX := hideP X
  clear X
  have ix := clamp_in ha x
  have iy := clamp_in hb y
  have PA := pointE_any (clamp a x)
  have PB := pointE_any (clamp b y)
  rw [in_fr ha ix] at PA
  rw [in_fr hb iy] at PB
  have FA := fine_any a
  have FB := fine_any b
  rw [ha] at FA
  rw [hb] at FB
  have i1 := fun w => within_any _ _ w (with_add ha hb ix iy)
  have i2 := fun w => within_any _ _ w (with_sub ha hb ix iy)
  have i3 := fun w => within_any _ _ w (with_mul ha hb ix iy)
  have i4 := fun w => within_any _ _ w (with_div ha hb ix iy)
  have i5 := fun w => within_any _ _ w (with_root ha ix)
  have i6 := fun w => within_any _ _ w (with_neg ha ix)
  generalize ptE (clamp a x) true = p at *
  generalize ptE (clamp b y) true = q at *
  unfold clamp at PA PB
  have I := hideP (And.intro i1 (And.intro i2 (And.intro i3 (And.intro i4 (And.intro i5 i6)))))
  have P := hideP (And.intro PA PB)
  have F := hideP (And.intro FA FB)
  clear i1 i2 i3 i4 i5 i6 PA PB FA FB ix iy ha hb
  go_enter Try.func7, Try.ntmps7
  go_wp2_with fail
  rw [← HX.out.eq]
  refine (F.out.1 _).mono ?_
  rintro e w1 ⟨rfl, h1⟩
  obtain ⟨b0, b1, b2, b3, _, _, _, _, _⟩ := HX.out.bb.later h1
  go_wp2_with fail
  refine (F.out.2 _).mono ?_
  rintro e w2 ⟨rfl, h2⟩
  have H2 := hideP (h1.trans h2)
  clear h1 h2 b0 b1 b2 b3
  obtain ⟨a0, a1, a2, a3, _, _, _, _, _⟩ := HX.out.ba.later H2.out
  obtain ⟨b0, b1, b2, b3, _, _, _, _, _⟩ := HX.out.bb.later H2.out
  go_wp2_with fail
  go_region
  clear a0 a1 a2 a3 b0 b1 b2 b3
  have hd : Bl w2 w2.drew := (Bl.refl _).drew
  have H2d := hideP (H2.out.trans hd)
  clear hd
  go_wp2_with fail
  refine (P.out.1 _).mono ?_
  rintro e w3 ⟨rfl, h3⟩
  go_wp2_with fail
  refine (P.out.2 _).mono ?_
  rintro e w4 ⟨rfl, h4⟩
  obtain ⟨V, Y⟩ := ab_ex w4 p q
  have H4 := hideP (((H2d.out.trans h3).trans h4).trans Y.bl)
  clear h3 h4
  have HY := hideP Y
  clear Y
  obtain ⟨a0, a1, a2, a3⟩ := (HX.out.ba.later H4.out).wl
  obtain ⟨b0, b1, b2, b3⟩ := (HX.out.bb.later H4.out).wl
  obtain ⟨p0, p1, p2, p3⟩ := HY.out.ba.wl
  obtain ⟨q0, q1, q2, q3⟩ := HY.out.bb.wl
  go_wp2_with fail
  rw [← HY.out.eq]
  have wne := wl_ne V
  refine wl_region V (Bl.refl _) (by kernel_rfl) (by kernel_rfl) ?_
  repeat (go_big_quiet_step (first | (go_at_call_of 11 #[Value.agg #[.int .i64 p.v, .int .i64 p.l, .int .i64 p.h, .bool p.bad], Value.agg #[.int .i64 q.v, .int .i64 q.l, .int .i64 q.h, .bool q.bad]]; exact wl_call (eadd_any p q _)) | (go_at_call_of 11 #[Value.agg #[.int .i64 a.v, .int .i64 a.l, .int .i64 a.h, .bool a.bad], Value.agg #[.int .i64 b.v, .int .i64 b.l, .int .i64 b.h, .bool b.bad]]; exact wl_call (eadd_any a b _)) | (go_at_call_of 12 #[Value.agg #[.int .i64 p.v, .int .i64 p.l, .int .i64 p.h, .bool p.bad], Value.agg #[.int .i64 q.v, .int .i64 q.l, .int .i64 q.h, .bool q.bad]]; exact wl_call (esub_any p q _)) | (go_at_call_of 12 #[Value.agg #[.int .i64 a.v, .int .i64 a.l, .int .i64 a.h, .bool a.bad], Value.agg #[.int .i64 b.v, .int .i64 b.l, .int .i64 b.h, .bool b.bad]]; exact wl_call (esub_any a b _)) | (go_at_call_of 13 #[Value.agg #[.int .i64 p.v, .int .i64 p.l, .int .i64 p.h, .bool p.bad], Value.agg #[.int .i64 q.v, .int .i64 q.l, .int .i64 q.h, .bool q.bad]]; exact wl_call (emul_any p q _)) | (go_at_call_of 13 #[Value.agg #[.int .i64 a.v, .int .i64 a.l, .int .i64 a.h, .bool a.bad], Value.agg #[.int .i64 b.v, .int .i64 b.l, .int .i64 b.h, .bool b.bad]]; exact wl_call (emul_any a b _)) | (go_at_call_of 14 #[Value.agg #[.int .i64 p.v, .int .i64 p.l, .int .i64 p.h, .bool p.bad], Value.agg #[.int .i64 q.v, .int .i64 q.l, .int .i64 q.h, .bool q.bad]]; exact wl_call (ediv_any p q _)) | (go_at_call_of 14 #[Value.agg #[.int .i64 a.v, .int .i64 a.l, .int .i64 a.h, .bool a.bad], Value.agg #[.int .i64 b.v, .int .i64 b.l, .int .i64 b.h, .bool b.bad]]; exact wl_call (ediv_any a b _)) | (go_at_call_of 15 #[Value.agg #[.int .i64 p.v, .int .i64 p.l, .int .i64 p.h, .bool p.bad]]; exact wl_call (eroot_any p _)) | (go_at_call_of 15 #[Value.agg #[.int .i64 a.v, .int .i64 a.l, .int .i64 a.h, .bool a.bad]]; exact wl_call (eroot_any a _)) | (go_at_call_of 25 #[Value.agg #[.int .i64 p.v, .int .i64 p.l, .int .i64 p.h, .bool p.bad]]; exact wl_call (eneg_any p _)) | (go_at_call_of 25 #[Value.agg #[.int .i64 a.v, .int .i64 a.l, .int .i64 a.h, .bool a.bad]]; exact wl_call (eneg_any a _)) | (go_at_call_of 29 #[enV (addE p q), enV (addE a b)]; exact wl_call (I.out.1 _)) | (go_at_call_of 29 #[enV (subE p q), enV (subE a b)]; exact wl_call (I.out.2.1 _)) | (go_at_call_of 29 #[enV (mulE p q), enV (mulE a b)]; exact wl_call (I.out.2.2.1 _)) | (go_at_call_of 29 #[enV (divE p q), enV (divE a b)]; exact wl_call (I.out.2.2.2.1 _)) | (go_at_call_of 29 #[enV (rootE p), enV (rootE a)]; exact wl_call (I.out.2.2.2.2.1 _)) | (go_at_call_of 29 #[enV (negE p), enV (negE a)]; exact wl_call (I.out.2.2.2.2.2 _)) | (go_at_call 20; exact wl_call (awake3_any _))))
  refine wpQuiet_nil ?_
  intro _ hw'
  obtain ⟨z, hw''⟩ := hw'
  subst hw''
  clear wne
  obtain ⟨w9, h9⟩ := z
  dsimp only
  have HB := hideP ((HX.out.bl.trans H4.out).trans h9)
  clear h9 a0 a1 a2 a3 b0 b1 b2 b3 p0 p1 p2 p3 q0 q1 q2 q3
  go_wp2
  go_ret
  exact ⟨rfl, HB.out⟩

theorem walk_EnvHolds (a b : En) (x y : Int) (w : World) :
    Calls Try.prog 7 #[enV a, enV b, .int .i64 x, .int .i64 y] w fun e w' => e = .returned (.bool true) ∧ Bl w w' := by
  cases ha : fineB a
  · exact holds_bad a b x y w (.inl ha)
  · cases hb : fineB b
    · exact holds_bad a b x y w (.inr hb)
    · exact holds_good a b x y w ha hb
end Go.Proofs.Ytgidengfnelggaa
