/- The walk of EnvEncloses. -/
import Derived.Test.YtgidengfnelggaaEn7
import Derived.Test.YtgidengfnelggaaQz
import Derived.Deep.DeepCutAuto
namespace Go.Proofs.Ytgidengfnelggaa
open Go.RowKit
set_option linter.unusedSimpArgs false
set_option linter.unusedVariables false

def inOrd (al ah bl bh : Int) : Bool := decide (al ≤ bh) && (decide (bl ≤ ah) && (decide (al ≤ ah) && decide (bl ≤ bh)))
def meet0 (ab bb : Bool) (al ah bl bh : Int) : Bool := !ab && (!bb && inOrd al ah bl bh)
def outOrd (al ah bl bh : Int) : Bool := decide (ah < al) || decide (bh < bl)
theorem ord_ways (al ah bl bh : Int) : (¬ al ≤ bh ∧ inOrd al ah bl bh = false) ∨ (al ≤ bh ∧ ¬ bl ≤ ah ∧ inOrd al ah bl bh = false) ∨ (al ≤ bh ∧ bl ≤ ah ∧ ¬ al ≤ ah ∧ inOrd al ah bl bh = false) ∨
    (al ≤ bh ∧ bl ≤ ah ∧ al ≤ ah ∧ inOrd al ah bl bh = decide (bl ≤ bh)) := by
  unfold inOrd
  by_cases h1 : al ≤ bh
  · by_cases h2 : bl ≤ ah
    · by_cases h3 : al ≤ ah
      · right; right; right
        exact ⟨h1, h2, h3, by rw [decide_eq_true h1, decide_eq_true h2, decide_eq_true h3]; rfl⟩
      · right; right; left
        exact ⟨h1, h2, h3, by rw [decide_eq_true h1, decide_eq_true h2, decide_eq_false h3]; rfl⟩
    · right; left
      exact ⟨h1, h2, by rw [decide_eq_true h1, decide_eq_false h2]; rfl⟩
  · left
    exact ⟨h1, by rw [decide_eq_false h1]; rfl⟩
theorem meet_is {av al ah bv bl bh : Int} {ab bb : Bool} (h : outOrd al ah bl bh = false) : meet0 ab bb al ah bl bh = meetB ⟨av, al, ah, ab⟩ ⟨bv, bl, bh, bb⟩ := by
  unfold outOrd at h
  rw [Bool.or_eq_false_iff] at h
  have h1 := of_decide_eq_false h.1
  have h2 := of_decide_eq_false h.2
  unfold meet0 meetB inOrd
  congr 2
  rw [decide_eq_true (show al ≤ ah by omega), decide_eq_true (show bl ≤ bh by omega), Bool.and_true, Bool.and_true, Bool.eq_iff_iff]
  simp
  omega
theorem meet0_f (ab bb : Bool) (al ah bl bh : Int) (h : (!ab && !bb) = false) : meet0 ab bb al ah bl bh = false := by
  unfold meet0
  cases ab <;> cases bb <;> first | rfl | cases h
theorem meet0_t (ab bb : Bool) (al ah bl bh : Int) (h : (!ab && !bb) = true) : meet0 ab bb al ah bl bh = inOrd al ah bl bh := by
  unfold meet0
  cases ab <;> cases bb <;> first | rfl | cases h
theorem meet_comm (a b : En) : meetB b a = meetB a b := by
  unfold meetB
  rw [Int.max_comm b.l, Int.min_comm b.h]
  cases a.bad <;> cases b.bad <;> rfl

set_option maxHeartbeats 2000000 in
set_option maxRecDepth 1000000 in
theorem walk_EnvEncloses (a b : En) (n d : Int) (w : World) :
    Calls Try.prog 5 #[enV a, enV b, .int .i64 n, .int .i64 d] w fun e w' => e = .returned (.bool true) ∧ Bl w w' := by
  obtain ⟨av, al, ah, ab⟩ := a
  obtain ⟨bv, bl, bh, bb⟩ := b
  obtain ⟨W, X⟩ := ab_ex w ⟨av, al, ah, ab⟩ ⟨bv, bl, bh, bb⟩
  have HX := hideP X
  clear X
  obtain ⟨a0, a1, a2, a3, _, _, _, _, _⟩ := HX.out.ba
  obtain ⟨b0, b1, b2, b3, _, _, _, _, _⟩ := HX.out.bb
  dsimp only at a0 a1 a2 a3 b0 b1 b2 b3
  have M1 := meet_any ⟨av, al, ah, ab⟩ ⟨bv, bl, bh, bb⟩
  have M2 := meet_any ⟨bv, bl, bh, bb⟩ ⟨av, al, ah, ab⟩
  rw [meet_comm] at M2
  have hm := fun h => meet_is (av := av) (al := al) (ah := ah) (bv := bv) (bl := bl) (bh := bh) (ab := ab) (bb := bb) h
  generalize meetB ⟨av, al, ah, ab⟩ ⟨bv, bl, bh, bb⟩ = mb at *
  have HM1 := hideP M1
  have HM2 := hideP M2
  have HM := hideP hm
  clear M1 M2 hm
  have E1 := hideP (encl_any ⟨av, al, ah, ab⟩ n d)
  have E2 := hideP (refEncl_any ⟨av, al, ah, ab⟩ n d)
  generalize enclB ⟨av, al, ah, ab⟩ n d = eb at *
  have G := hideP (given_any ⟨av, al, ah, ab⟩)
  go_enter Try.func5, Try.ntmps5
  go_upto_region 2 with fail
  rw [← HX.out.eq]
  go_cut [17] (fun t wx => t = .bool (!ab && !bb) ∧ W = wx)
  case first =>
    cases ab
    · go_wp2
      go_meet
      exact ⟨by simp, rfl⟩
    · go_wp2
      go_meet
      exact ⟨by simp, rfl⟩
  case rest =>
    obtain ⟨rfl, rfl⟩ := hcut
    go_upto_if 17 with fail
    go_cut [9] (fun t wx => t = .bool (meet0 ab bb al ah bl bh) ∧ W = wx)
    case first =>
      have mf := meet0_f ab bb al ah bl bh
      have mt := meet0_t ab bb al ah bl bh
      generalize (!ab && !bb) = g at *
      cases g
      · have E := hideP (mf rfl)
        clear mf mt
        go_wp2
        go_meet
        exact ⟨by rw [E.out], rfl⟩
      · have E0 := hideP (mt rfl)
        clear mf mt
        rcases ord_ways al ah bl bh with ⟨h1, e⟩ | ⟨h1, h2, e⟩ | ⟨h1, h2, h3, e⟩ | ⟨h1, h2, h3, e⟩
        all_goals
          have E := hideP e
          clear e
          go_wp2
          go_meet
          exact ⟨by rw [E0.out, E.out], rfl⟩
    case rest =>
      obtain ⟨rfl, rfl⟩ := hcut
      go_upto_region 4 with fail
      go_cut [55] (fun t wx => t = .bool (outOrd al ah bl bh) ∧ W = wx)
      case first =>
        by_cases h : ah < al
        · go_wp2
          go_meet
          exact ⟨by unfold outOrd; rw [decide_eq_true (by omega)]; rfl, rfl⟩
        · go_wp2
          go_meet
          exact ⟨by unfold outOrd; rw [decide_eq_false (show ¬ ah < al by omega)]; rfl, rfl⟩
      case rest =>
        obtain ⟨rfl, rfl⟩ := hcut
        go_upto_if 55 with fail
        go_cut [9] (fun t wx => t = .bool mb ∧ Bl W wx)
        case first =>
          have k := HM.out
          generalize outOrd al ah bl bh = oo at *
          generalize meet0 ab bb al ah bl bh = m0 at *
          cases oo
          · have k' := k rfl
            subst k'
            clear k
            go_wp2
            go_meet
            exact ⟨rfl, Bl.refl _⟩
          · clear k
            go_wp2_with fail
            refine (HM1.out _).mono ?_
            rintro e w1 ⟨rfl, h1⟩
            go_wp2
            go_meet
            exact ⟨rfl, h1⟩
        case rest =>
          obtain ⟨rfl, hB⟩ := hcut
          have HB := hideP hB
          clear hB a0 a1 a2 a3 b0 b1 b2 b3
          obtain ⟨a0, a1, a2, a3⟩ := HX.out.ba.wl
          obtain ⟨b0, b1, b2, b3⟩ := HX.out.bb.wl
          dsimp only at a0 a1 a2 a3 b0 b1 b2 b3
          go_upto_region 6 with fail
          have wne := wl_ne W
          refine wl_region W HB.out (by kernel_rfl) (by kernel_rfl) ?_
          repeat (go_big_quiet_step (first | (go_at_call 27; exact wl_call (E1.out _)) | (go_at_call 28; exact wl_call (E2.out _)) | (go_at_call 16; exact wl_call (G.out _)) | (go_at_call_of 26 #[Value.agg #[.int .i64 av, .int .i64 al, .int .i64 ah, .bool ab], Value.agg #[.int .i64 bv, .int .i64 bl, .int .i64 bh, .bool bb]]; exact wl_call (HM1.out _)) | (go_at_call_of 26 #[Value.agg #[.int .i64 bv, .int .i64 bl, .int .i64 bh, .bool bb], Value.agg #[.int .i64 av, .int .i64 al, .int .i64 ah, .bool ab]]; exact wl_call (HM2.out _)) | (go_at_call 20; exact wl_call (awake3_any _))))
          refine wpQuiet_nil ?_
          intro _ hw'
          obtain ⟨z, hw''⟩ := hw'
          subst hw''
          clear wne
          obtain ⟨w9, h9⟩ := z
          dsimp only
          have H9 := hideP (HX.out.bl.trans h9)
          clear h9 a0 a1 a2 a3 b0 b1 b2 b3
          go_wp2
          go_ret
          exact ⟨rfl, H9.out⟩
end Go.Proofs.Ytgidengfnelggaa
