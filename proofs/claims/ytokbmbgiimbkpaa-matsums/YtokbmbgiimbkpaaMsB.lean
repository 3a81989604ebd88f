/- MatSums: the ways out, and all of it. -/
import Derived.Test.YtokbmbgiimbkpaaMsA
namespace Go.Proofs.Ytokbmbgiimbkpaa
open Go.RowKit
set_option linter.unusedSimpArgs false
set_option linter.unusedVariables false

theorem few6_ok (v : Value) (ns : List Int) (w : World) (h : Rq 1 cI w v ns) (hl : ns.length ≤ 256) (hs : Sml 100 ns) :
    Calls Try.prog 10 #[v] w fun e w' => e = .returned (.bool true) ∧ w' = w := by
  rcases h with ⟨p, cap, rfl, rfl, hpn⟩ | ⟨b, o, cap, rfl, hc, hb, hx⟩
  · go_enter Try.func10, Try.ntmps10
    go_wp2_with fail
    go_loopw [3] (fun i wr => i = .int .i64 0 ∧ wr = w) (fun _ _ => 0)
    case atStart => exact ⟨rfl, rfl⟩
    case round =>
      obtain ⟨rfl, rfl⟩ := hrel
      go_wp2
      go_ret
      exact ⟨by simp, rfl⟩
  · have HX := hideP hx
    have HS := hideP hs
    clear hx hs
    go_enter Try.func10, Try.ntmps10
    go_wp2_with fail
    go_loopw [3] (fun i wr => ∃ k : Nat, i = .int .i64 k ∧ k ≤ ns.length ∧ wr = w) (fun i _ => ns.length - (intOf i).toNat)
    case atStart => exact ⟨0, rfl, Nat.zero_le _, rfl⟩
    case round =>
      obtain ⟨k, rfl, hk, rfl⟩ := hrel
      by_cases hlt : k < ns.length
      · obtain ⟨x, hx⟩ : ∃ x, ns[k]? = some x := ⟨_, List.getElem?_eq_getElem hlt⟩
        have cx := cellI HX.out hx (wr := wr)
        have hx2 := HS.out x (List.mem_of_getElem? hx)
        have h1 : ¬ x < -100 := by omega
        have h2 : ¬ 100 < x := by omega
        clear hx hx2
        go_wp2
        go_roundw
        case rel => exact ⟨k + 1, by simp, hlt, trivial⟩
        case measure => simp [intOf]; omega
      · obtain rfl : k = ns.length := by omega
        go_wp2
        go_ret
        exact ⟨by simp; omega, rfl⟩
set_option maxRecDepth 1000000 in
set_option maxHeartbeats 4000000 in
theorem sums_out (va : Value) (xa : List Int) (vb : Value) (xb : List Int) (rows cols : Int) (w : World) (ha : Rq 1 cI w va xa) (hb : Rq 1 cI w vb xb) (h : ¬ (Sml 100 xa ∧ Sml 100 xb ∧ fitB rows cols xa.length = true ∧ fitB rows cols xb.length = true)) :
    Calls Try.prog 5 #[va, vb, .int .i64 rows, .int .i64 cols] w fun e w' => e = .returned (.bool true) ∧ Bl w w' := by
  have AW := hideP awake6_any
  have F1 := hideP (few6_any va xa w ha)
  have F2 := hideP (few6_any vb xb w hb)
  obtain ⟨pa, ca, rfl, _, _⟩ := ha.cut
  obtain ⟨pb, cb, rfl, _, _⟩ := hb.cut
  have HH := hideP h
  have HA := hideP ha
  have HBB := hideP hb
  clear h ha hb
  obtain ⟨la, hla⟩ : ∃ la, la = xa.length := ⟨_, rfl⟩
  obtain ⟨lb, hlb⟩ : ∃ lb, lb = xb.length := ⟨_, rfl⟩
  rw [← hla] at F1 HA HH ⊢
  rw [← hlb] at F2 HBB HH ⊢
  have HLA := hideP hla
  have HLB := hideP hlb
  clear hla hlb
  go_enter Try.func5, Try.ntmps5
  go_wp2_with fail
  refine F1.out.mono ?_
  rintro e w1 ⟨b1, rfl, hb1, hw1⟩
  replace hw1 := hw1.symm
  subst hw1
  clear F1
  cases b1 with
  | false =>
    go_wp2_with fail
    refine (AW.out _).mono ?_
    rintro e w9 ⟨rfl, h9⟩
    go_wp2
    go_ret
    exact ⟨rfl, (Bl.refl _).trans h9⟩
  | true =>
    have S1 := hideP (hb1 rfl).2
    clear hb1
    go_wp2_with fail
    refine F2.out.mono ?_
    rintro e w1 ⟨b2, rfl, hb2, hw1⟩
    replace hw1 := hw1.symm
    subst hw1
    clear F2
    cases b2 with
    | false =>
      go_wp2_with fail
      refine (AW.out _).mono ?_
      rintro e w9 ⟨rfl, h9⟩
      go_wp2
      go_ret
      exact ⟨rfl, (Bl.refl _).trans h9⟩
    | true =>
      have S2 := hideP (hb2 rfl).2
      clear hb2
      by_cases h1 : rows < 1
      · skip
        go_wp2_with fail
        refine (AW.out _).mono ?_
        rintro e w9 ⟨rfl, h9⟩
        go_wp2
        go_ret
        exact ⟨rfl, (Bl.refl _).trans h9⟩
      by_cases h2 : 16 < rows
      · skip
        go_wp2_with fail
        refine (AW.out _).mono ?_
        rintro e w9 ⟨rfl, h9⟩
        go_wp2
        go_ret
        exact ⟨rfl, (Bl.refl _).trans h9⟩
      by_cases h3 : cols < 1
      · skip
        go_wp2_with fail
        refine (AW.out _).mono ?_
        rintro e w9 ⟨rfl, h9⟩
        go_wp2
        go_ret
        exact ⟨rfl, (Bl.refl _).trans h9⟩
      by_cases h4 : 16 < cols
      · skip
        go_wp2_with fail
        refine (AW.out _).mono ?_
        rintro e w9 ⟨rfl, h9⟩
        go_wp2
        go_ret
        exact ⟨rfl, (Bl.refl _).trans h9⟩
      cases hfa : fitB rows cols la with
      | false =>
        go_wp2_with fail
        refine (mWholeF_no _ _ _ _ _ _ hfa).mono ?_
        rintro e w2 ⟨rfl, h5⟩
        cases hfb : fitB rows cols lb with
        | false =>
          go_wp2_with fail
          refine (mWholeF_no _ _ _ _ _ _ hfb).mono ?_
          rintro e w3 ⟨rfl, h6⟩
          go_wp2_with fail
          refine (AW.out _).mono ?_
          rintro e w9 ⟨rfl, h9⟩
          go_wp2
          go_ret
          exact ⟨rfl, (((h5.alloc _).trans h6).alloc _).trans h9⟩
        | true =>
          obtain ⟨R, C, rfl, rfl, hd, hn⟩ := fitB_nat hfb
          clear hn
          go_wp2_with fail
          refine (whole6_call R C pb lb cb xb _ (HBB.out.later (h5.alloc _)) hfb HLB.out.symm S2.out).mono ?_
          rintro e w3 ⟨p2, c2, rfl, hx, h6⟩
          clear hx
          go_wp2_with fail
          refine (AW.out _).mono ?_
          rintro e w9 ⟨rfl, h9⟩
          go_wp2
          go_ret
          exact ⟨rfl, (((h5.alloc _).trans h6).alloc _).trans h9⟩
      | true =>
        obtain ⟨R, C, rfl, rfl, hd, hn⟩ := fitB_nat hfa
        clear hn
        have hfb : fitB R C lb = false := by
          cases e : fitB R C lb with
          | false => rfl
          | true => exact absurd ⟨S1.out, S2.out, hfa, e⟩ HH.out
        go_wp2_with fail
        refine (whole6_call R C pa la ca xa _ HA.out hfa HLA.out.symm S1.out).mono ?_
        rintro e w2 ⟨p1, c1, rfl, hx, h5⟩
        clear hx
        go_wp2_with fail
        refine (mWholeF_no _ _ _ _ _ _ hfb).mono ?_
        rintro e w3 ⟨rfl, h6⟩
        go_wp2_with fail
        refine (AW.out _).mono ?_
        rintro e w9 ⟨rfl, h9⟩
        go_wp2
        go_ret
        exact ⟨rfl, (((h5.alloc _).trans h6).alloc _).trans h9⟩
theorem walk_MatSums (va : Value) (xa : List Int) (vb : Value) (xb : List Int) (rows cols : Int) (w : World) (ha : Rq 1 cI w va xa) (hb : Rq 1 cI w vb xb) :
    Calls Try.prog 5 #[va, vb, .int .i64 rows, .int .i64 cols] w fun e w' => e = .returned (.bool true) ∧ Bl w w' := by
  by_cases h : Sml 100 xa ∧ Sml 100 xb ∧ fitB rows cols xa.length = true ∧ fitB rows cols xb.length = true
  · obtain ⟨h1, h2, h3, h4⟩ := h
    obtain ⟨R, C, rfl, rfl, hd, hn⟩ := fitB_nat h3
    obtain ⟨R', C', hR, hC, _, hn'⟩ := fitB_nat h4
    have e : xb.length = xa.length := by rw [hn', hn, show R' = R by omega, show C' = C by omega]
    obtain ⟨pa, ca, rfl, _, _⟩ := ha.cut
    obtain ⟨pb, cb, rfl, _, _⟩ := hb.cut
    rw [e] at hb ⊢
    exact sums_main pa xa.length ca xa pb cb xb R C w ha hb h3 rfl e h1 h2 (fun v xs u hr hl hs => few6_ok v xs u hr hl hs)
  · exact sums_out va xa vb xb rows cols w ha hb h
end Go.Proofs.Ytokbmbgiimbkpaa
