/- The walk of VecEncloses. -/
import Derived.Test.YtfbioinmgchdcaaVeJ
import Derived.Test.YtfbioinmgchdcaaVeL
import Derived.Test.YtfbioinmgchdcaaQz
import Derived.Deep.RegionWith
namespace Go.Proofs.Ytfbioinmgchdcaa
open Go.RowKit
set_option linter.unusedSimpArgs false
set_option linter.unusedVariables false

theorem wholeN_few (v : Value) (ns : List Int) (w : World) (h : Rq 1 cI w v ns) (hs : Sml 1000 ns) (hl : ns.length ≤ 20) :
    Calls Try.prog 20 #[v] w fun e w' => ∃ u, e = .returned u ∧ Rw 4 cellsN w' u (ns.map itN) ∧ Bl w w' := by
  refine (vWholeN v ns w h (by omega)).mono ?_
  rintro e w' ⟨u, rfl, hr, hb⟩
  rw [wholesN_it ns hs (by omega)] at hr
  exact ⟨u, rfl, hr, hb⟩
theorem dotN_few (va vb : Value) (xs ys : List Int) (w : World) (ha : Rw 4 cellsN w va (xs.map itN)) (hb : Rw 4 cellsN w vb (ys.map itN)) (hx : Sml 1000 xs) (hy : Sml 1000 ys) (hl : xs.length ≤ 20) (hm : ys.length ≤ 20) :
    Calls Try.prog 19 #[va, vb] w fun e w' => e = .returned (enV (itN (dotI xs ys))) ∧ Bl w w' := by
  rw [← dotN_it hx hy hl]
  exact vDotN va vb _ _ w ha.q hb.q (by simp; omega) (by simp; omega)
set_option maxHeartbeats 2000000 in
theorem walk_VecEncloses (va : Value) (xs : List Int) (vb : Value) (ys : List Int) (w : World) (ha : Rq 1 cI w va xs) (hb : Rq 1 cI w vb ys) :
    Calls Try.prog 4 #[va, vb] w fun e w' => e = .returned (.bool true) ∧ Bl w w' := by
  have AW := hideP awake5_any
  have FA := hideP (few_any va xs w ha)
  have FB := hideP (few_any vb ys w hb)
  have HA := hideP ha
  have HB := hideP hb
  clear ha hb
  go_enter Try.func4, Try.ntmps4
  go_wp2_with fail
  refine FA.out.mono ?_
  rintro e w1 ⟨b, rfl, hb, rfl⟩
  clear FA
  cases b
  · clear hb
    go_wp2_with fail
    refine (AW.out _).mono ?_
    rintro e w2 ⟨rfl, h2⟩
    go_wp2
    go_ret
    exact ⟨rfl, h2⟩
  obtain ⟨hl, hx⟩ := hb rfl
  clear hb
  go_wp2_with fail
  refine FB.out.mono ?_
  rintro e w2 ⟨b, rfl, hb, rfl⟩
  clear FB
  cases b
  · clear hb
    go_wp2_with fail
    refine (AW.out _).mono ?_
    rintro e w2 ⟨rfl, h2⟩
    go_wp2
    go_ret
    exact ⟨rfl, h2⟩
  obtain ⟨hm, hy⟩ := hb rfl
  clear hb
  have HX := hideP hx
  have HY := hideP hy
  have HD := hideP (show Wn (dotI xs ys) by have := dotI_bound hx hy (by omega) (by omega) hl; exact ⟨by omega, by omega⟩)
  clear hx hy
  go_wp2_with fail
  refine (wholeN_few _ xs _ HA.out HX.out hl).mono ?_
  rintro e w3 ⟨u, rfl, hu, h3⟩
  have HU := hideP hu
  clear hu
  go_wp2_with fail
  refine (wholeN_few _ ys _ (HB.out.later h3) HY.out hm).mono ?_
  rintro e w4 ⟨t, rfl, ht, h4⟩
  have HT := hideP ht
  clear ht
  go_wp2_with fail
  refine (dotN_few _ _ xs ys _ (HU.out.later h4) HT.out HX.out HY.out hl hm).mono ?_
  rintro e w5 ⟨rfl, h5⟩
  have ENC := hideP (fun u : World => encl_any (itN (dotI xs ys)) (dotI xs ys) 1 u)
  rw [encl_it HD.out] at ENC
  generalize itN (dotI xs ys) = r at *
  go_wp2_with fail
  obtain ⟨V, hV⟩ : ∃ V, V = w5.alloc (.cells #[.int .i64 r.v, .int .i64 r.l, .int .i64 r.h, .bool r.bad] 37) := ⟨_, rfl⟩
  rw [← hV]
  have bV : Bl w5 V := by rw [hV]; exact (Bl.refl _).alloc _
  have BX : Box V w5.heap.size r := by rw [hV]; exact Box.new w5 r _
  clear hV
  have hBl : Bl w2 V := h3.trans (h4.trans (h5.trans bV))
  have RD := hideP (fun z : Wl V => refDot5_any va vb xs ys z.w (HA.out.later (hBl.trans z.bl)) (HB.out.later (hBl.trans z.bl)) HX.out HY.out hl hm)
  have wne := wl_ne V
  obtain ⟨c0, c1, c2, c3⟩ := BX.wl
  refine wl_region V (Bl.refl _) (by kernel_rfl) (by kernel_rfl) ?_
  repeat (go_big_quiet_step (first
    | (go_at_call 17; exact wl_call (RD.out _))
    | (go_at_call 21; exact wl_call (ENC.out _))
    | (go_at_call 10; exact wl_call (AW.out _))))
  refine wpQuiet_nil ?_
  intro _ hw'
  obtain ⟨z, hw''⟩ := hw'
  subst hw''
  clear wne c0 c1 c2 c3
  obtain ⟨w6, h6⟩ := z
  dsimp only
  go_wp2
  go_ret
  exact ⟨rfl, hBl.trans h6⟩
end Go.Proofs.Ytfbioinmgchdcaa
