/- The walk of MatRules. Written by genMl.py. -/
import Derived.Test.YtokbmbgiimbkpaaMaJ
import Derived.Test.YtokbmbgiimbkpaaMaYF
namespace Go.Proofs.Ytokbmbgiimbkpaa
open Go.RowKit
set_option linter.unusedSimpArgs false
set_option linter.unusedVariables false

theorem unit6_any (m n : Nat) (h1 : 1 ≤ m) (h2 : m ≤ 16) (hn : n = m * m) (w : World) :
    Calls Try.prog 29 #[.int .i64 m] w fun e w' => ∃ p' cap', e = .returned (.tuple #[mV m m p' n cap', .bool true]) ∧ MxI w' m m p' n cap' unitI ∧ Bl w w' := by
  refine (mUnitF m n h1 h2 hn w).mono ?_
  rintro e w' ⟨p', cap', rfl, h, hb⟩
  exact ⟨p', cap', rfl, h.congr (fun i k _ _ => whole_it (by unfold unitI; split <;> exact ⟨by omega, by omega⟩)), hb⟩
theorem sm2_unit (m : Nat) : Sm2 1 m m unitI := fun i k _ _ => by unfold unitI; split <;> omega
theorem turn6_any (R C : Nat) (p : Option Addr) (n cap : Nat) (a : Nat → Nat → Int) (w : World) (h : MxI w R C p n cap a) :
    Calls Try.prog 26 #[mV R C p n cap] w fun e w' => ∃ p' cap', e = .returned (mV C R p' n cap') ∧ (MxI w' C R p' n cap' (fun i k => a k i) ∧ Fresh w.heap.size (.slice p' n cap')) ∧ Bl w w' := by
  refine (mTurnF R C p n cap _ w h).mono ?_
  rintro e w' ⟨p', cap', rfl, ⟨h1, _, h2⟩, hb⟩
  exact ⟨p', cap', rfl, ⟨h1, h2⟩, hb⟩
theorem mul6_any' {A B : Int} (R M D : Nat) (p : Option Addr) (n cap : Nat) (a : Nat → Nat → Int) (q : Option Addr) (n2 cap2 : Nat) (b : Nat → Nat → Int) (N : Nat) (w : World) (hx : MxI w R M p n cap a) (hy : MxI w M D q n2 cap2 b) (hN : N = R * D) (ha : Sm2 A R M a) (hb : Sm2 B M D b) (hA : 0 ≤ A ∧ A ≤ 1073741824) (hB : 0 ≤ B ∧ B ≤ 1073741824) (hAB : A * B ≤ 67108864) :
    Calls Try.prog 20 #[mV R M p n cap, mV M D q n2 cap2] w fun e w' => ∃ p' cap', e = .returned (.tuple #[mV R D p' N cap', .bool true]) ∧ (MxI w' R D p' N cap' (mulI M a b) ∧ Rw 3 cellsF w' (.slice p' N cap') (mk R D fun i k => itF (mulI M a b i k)) ∧ Fresh w.heap.size (.slice p' N cap')) ∧ Bl w w' := by
  refine (mMulF R M D p n cap _ q n2 cap2 _ N w hx hy hN).mono ?_
  rintro e w' ⟨p', cap', rfl, ⟨h, hr, hf⟩, hb'⟩
  rw [mk_congr (fun i k hi hk => mulM_it ha hb hx.1.c2 hA hB hAB hi hk)] at hr
  exact ⟨p', cap', rfl, ⟨h.congr (fun i k hi hk => mulM_it ha hb hx.1.c2 hA hB hAB hi hk), hr, hf⟩, hb'⟩
set_option maxRecDepth 100000 in
set_option maxHeartbeats 8000000 in
theorem walk_MatRules (va : Value) (xa : List Int) (vb : Value) (xb : List Int) (vc : Value) (xc : List Int) (n : Int) (w : World) (ha : Rq 1 cI w va xa) (hb : Rq 1 cI w vb xb) (hc : Rq 1 cI w vc xc) :
    Calls Try.prog 7 #[va, vb, vc, .int .i64 n] w fun e w' => e = .returned (.bool true) ∧ Bl w w' := by
  have AW := hideP awake6_any
  have Fa := hideP (few6_any va xa w ha)
  obtain ⟨pa, ca, rfl, _, _⟩ := ha.cut
  obtain ⟨la, hla⟩ : ∃ l, l = xa.length := ⟨_, rfl⟩
  rw [← hla] at Fa ha ⊢
  have Ha := hideP ha
  have HLa := hideP hla
  clear ha hla
  have Fb := hideP (few6_any vb xb w hb)
  obtain ⟨pb, cb, rfl, _, _⟩ := hb.cut
  obtain ⟨lb, hlb⟩ : ∃ l, l = xb.length := ⟨_, rfl⟩
  rw [← hlb] at Fb hb ⊢
  have Hb := hideP hb
  have HLb := hideP hlb
  clear hb hlb
  have Fc := hideP (few6_any vc xc w hc)
  obtain ⟨pc, cc, rfl, _, _⟩ := hc.cut
  obtain ⟨lc, hlc⟩ : ∃ l, l = xc.length := ⟨_, rfl⟩
  rw [← hlc] at Fc hc ⊢
  have Hc := hideP hc
  have HLc := hideP hlc
  clear hc hlc
  go_enter Try.func7, Try.ntmps7
  go_wp2_with fail
  refine Fa.out.mono ?_
  rintro e w1 ⟨b1, rfl, hb1, hw1⟩
  have hw2 := hw1.symm
  subst hw2
  clear Fa hw1
  cases b1 with
  | false =>
    go_wp2_with fail
    refine (AW.out _).mono ?_
    rintro e w9 ⟨rfl, h9⟩
    go_wp2
    go_ret
    exact ⟨rfl, (Bl.refl _).trans h9⟩
  | true =>
    have Sa := hideP (hb1 rfl).2
    clear hb1
    go_wp2_with fail
    refine Fb.out.mono ?_
    rintro e w1 ⟨b1, rfl, hb1, hw1⟩
    have hw2 := hw1.symm
    subst hw2
    clear Fb hw1
    cases b1 with
    | false =>
      go_wp2_with fail
      refine (AW.out _).mono ?_
      rintro e w9 ⟨rfl, h9⟩
      go_wp2
      go_ret
      exact ⟨rfl, (Bl.refl _).trans h9⟩
    | true =>
      have Sb := hideP (hb1 rfl).2
      clear hb1
      go_wp2_with fail
      refine Fc.out.mono ?_
      rintro e w1 ⟨b1, rfl, hb1, hw1⟩
      have hw2 := hw1.symm
      subst hw2
      clear Fc hw1
      cases b1 with
      | false =>
        go_wp2_with fail
        refine (AW.out _).mono ?_
        rintro e w9 ⟨rfl, h9⟩
        go_wp2
        go_ret
        exact ⟨rfl, (Bl.refl _).trans h9⟩
      | true =>
        have Sc := hideP (hb1 rfl).2
        clear hb1
        by_cases hn1 : n < 1
        · skip
          go_wp2_with fail
          refine (AW.out _).mono ?_
          rintro e w9 ⟨rfl, h9⟩
          go_wp2
          go_ret
          exact ⟨rfl, (Bl.refl _).trans h9⟩
        by_cases hn2 : 4 < n
        · skip
          go_wp2_with fail
          refine (AW.out _).mono ?_
          rintro e w9 ⟨rfl, h9⟩
          go_wp2
          go_ret
          exact ⟨rfl, (Bl.refl _).trans h9⟩
        obtain ⟨m, rfl⟩ : ∃ m : Nat, n = (m : Int) := ⟨n.toNat, by omega⟩
        have Wa := hideP (fun u (hu : Bl w u) (hf : fitB m m la = true) => whole6_call m m pa la ca xa u (Ha.out.later hu) hf HLa.out.symm Sa.out)
        have Wb := hideP (fun u (hu : Bl w u) (hf : fitB m m lb = true) => whole6_call m m pb lb cb xb u (Hb.out.later hu) hf HLb.out.symm Sb.out)
        have Wc := hideP (fun u (hu : Bl w u) (hf : fitB m m lc = true) => whole6_call m m pc lc cc xc u (Hc.out.later hu) hf HLc.out.symm Sc.out)
        have WU := hideP (fun u => unit6_any m (m * m) (by omega) (by omega) rfl u)
        cases hfa : fitB m m la with
        | false =>
          cases hfb : fitB m m lb with
          | false =>
            cases hfc : fitB m m lc with
            | false =>
              have FU := hideP (fitB_dim (R := m) (C := m) (n := m * m) ⟨by omega, by omega, by omega, by omega⟩ rfl)
              generalize m * m = mm at *
              go_wp2_with fail
              refine (mWholeF_no _ _ _ _ _ _ hfa).mono ?_
              rintro e wa ⟨rfl, ha⟩
              have ma := MBox.new wa 0 0 none 0 0 27
              have hBa : Bl w (wa.alloc (.cells #[.int .i64 0, .int .i64 0, .slice none 0 0] 27)) := ha.alloc _
              go_wp2_with fail
              refine (mWholeF_no _ _ _ _ _ _ hfb).mono ?_
              rintro e wb ⟨rfl, hb⟩
              have mb := MBox.new wb 0 0 none 0 0 27
              have hBb : Bl w (wb.alloc (.cells #[.int .i64 0, .int .i64 0, .slice none 0 0] 27)) := (hBa.trans hb).alloc _
              go_wp2_with fail
              refine (mWholeF_no _ _ _ _ _ _ hfc).mono ?_
              rintro e wc ⟨rfl, hc⟩
              have mc := MBox.new wc 0 0 none 0 0 27
              have hBc : Bl w (wc.alloc (.cells #[.int .i64 0, .int .i64 0, .slice none 0 0] 27)) := (hBb.trans hc).alloc _
              go_wp2_with fail
              refine (WU.out _).mono ?_
              rintro e wu ⟨qu, ku, rfl, hxu, hu⟩
              clear hxu
              have mu := MBox.new wu m m qu mm ku 27
              go_wp2_with fail
              refine (mRightF _ _ _ _ _ _).mono ?_
              rintro e w8 ⟨rfl, h8⟩
              rw [FU.out]
              have hB : Bl w w8 := (((hBc.trans hu).alloc _).trans h8)
              go_wp2_with fail
              refine (AW.out _).mono ?_
              rintro e w9 ⟨rfl, h9⟩
              go_wp2
              go_ret
              exact ⟨rfl, hB.trans h9⟩
            | true =>
              have Wc := hideP (fun u hu => Wc.out u hu hfc)
              have FU := hideP (fitB_dim (R := m) (C := m) (n := m * m) ⟨by omega, by omega, by omega, by omega⟩ rfl)
              generalize m * m = mm at *
              go_wp2_with fail
              refine (mWholeF_no _ _ _ _ _ _ hfa).mono ?_
              rintro e wa ⟨rfl, ha⟩
              have ma := MBox.new wa 0 0 none 0 0 27
              have hBa : Bl w (wa.alloc (.cells #[.int .i64 0, .int .i64 0, .slice none 0 0] 27)) := ha.alloc _
              go_wp2_with fail
              refine (mWholeF_no _ _ _ _ _ _ hfb).mono ?_
              rintro e wb ⟨rfl, hb⟩
              have mb := MBox.new wb 0 0 none 0 0 27
              have hBb : Bl w (wb.alloc (.cells #[.int .i64 0, .int .i64 0, .slice none 0 0] 27)) := (hBa.trans hb).alloc _
              go_wp2_with fail
              refine (Wc.out _ hBb).mono ?_
              rintro e wc ⟨qc, kc, rfl, hx, hc⟩
              have HXc := hideP hx
              clear hx
              have mc := MBox.new wc m m qc lc kc 27
              have hBc : Bl w (wc.alloc (.cells #[.int .i64 m, .int .i64 m, .slice qc lc kc] 27)) := (hBb.trans hc).alloc _
              go_wp2_with fail
              refine (WU.out _).mono ?_
              rintro e wu ⟨qu, ku, rfl, hxu, hu⟩
              clear hxu
              have mu := MBox.new wu m m qu mm ku 27
              go_wp2_with fail
              refine (mRightF _ _ _ _ _ _).mono ?_
              rintro e w8 ⟨rfl, h8⟩
              rw [FU.out]
              have hB : Bl w w8 := (((hBc.trans hu).alloc _).trans h8)
              go_wp2_with fail
              refine (AW.out _).mono ?_
              rintro e w9 ⟨rfl, h9⟩
              go_wp2
              go_ret
              exact ⟨rfl, hB.trans h9⟩
          | true =>
            cases hfc : fitB m m lc with
            | false =>
              have Wb := hideP (fun u hu => Wb.out u hu hfb)
              have FU := hideP (fitB_dim (R := m) (C := m) (n := m * m) ⟨by omega, by omega, by omega, by omega⟩ rfl)
              generalize m * m = mm at *
              go_wp2_with fail
              refine (mWholeF_no _ _ _ _ _ _ hfa).mono ?_
              rintro e wa ⟨rfl, ha⟩
              have ma := MBox.new wa 0 0 none 0 0 27
              have hBa : Bl w (wa.alloc (.cells #[.int .i64 0, .int .i64 0, .slice none 0 0] 27)) := ha.alloc _
              go_wp2_with fail
              refine (Wb.out _ hBa).mono ?_
              rintro e wb ⟨qb, kb, rfl, hx, hb⟩
              have HXb := hideP hx
              clear hx
              have mb := MBox.new wb m m qb lb kb 27
              have hBb : Bl w (wb.alloc (.cells #[.int .i64 m, .int .i64 m, .slice qb lb kb] 27)) := (hBa.trans hb).alloc _
              go_wp2_with fail
              refine (mWholeF_no _ _ _ _ _ _ hfc).mono ?_
              rintro e wc ⟨rfl, hc⟩
              have mc := MBox.new wc 0 0 none 0 0 27
              have hBc : Bl w (wc.alloc (.cells #[.int .i64 0, .int .i64 0, .slice none 0 0] 27)) := (hBb.trans hc).alloc _
              go_wp2_with fail
              refine (WU.out _).mono ?_
              rintro e wu ⟨qu, ku, rfl, hxu, hu⟩
              clear hxu
              have mu := MBox.new wu m m qu mm ku 27
              go_wp2_with fail
              refine (mRightF _ _ _ _ _ _).mono ?_
              rintro e w8 ⟨rfl, h8⟩
              rw [FU.out]
              have hB : Bl w w8 := (((hBc.trans hu).alloc _).trans h8)
              go_wp2_with fail
              refine (AW.out _).mono ?_
              rintro e w9 ⟨rfl, h9⟩
              go_wp2
              go_ret
              exact ⟨rfl, hB.trans h9⟩
            | true =>
              have Wb := hideP (fun u hu => Wb.out u hu hfb)
              have Wc := hideP (fun u hu => Wc.out u hu hfc)
              have FU := hideP (fitB_dim (R := m) (C := m) (n := m * m) ⟨by omega, by omega, by omega, by omega⟩ rfl)
              generalize m * m = mm at *
              go_wp2_with fail
              refine (mWholeF_no _ _ _ _ _ _ hfa).mono ?_
              rintro e wa ⟨rfl, ha⟩
              have ma := MBox.new wa 0 0 none 0 0 27
              have hBa : Bl w (wa.alloc (.cells #[.int .i64 0, .int .i64 0, .slice none 0 0] 27)) := ha.alloc _
              go_wp2_with fail
              refine (Wb.out _ hBa).mono ?_
              rintro e wb ⟨qb, kb, rfl, hx, hb⟩
              have HXb := hideP hx
              clear hx
              have mb := MBox.new wb m m qb lb kb 27
              have hBb : Bl w (wb.alloc (.cells #[.int .i64 m, .int .i64 m, .slice qb lb kb] 27)) := (hBa.trans hb).alloc _
              go_wp2_with fail
              refine (Wc.out _ hBb).mono ?_
              rintro e wc ⟨qc, kc, rfl, hx, hc⟩
              have HXc := hideP hx
              clear hx
              have mc := MBox.new wc m m qc lc kc 27
              have hBc : Bl w (wc.alloc (.cells #[.int .i64 m, .int .i64 m, .slice qc lc kc] 27)) := (hBb.trans hc).alloc _
              go_wp2_with fail
              refine (WU.out _).mono ?_
              rintro e wu ⟨qu, ku, rfl, hxu, hu⟩
              clear hxu
              have mu := MBox.new wu m m qu mm ku 27
              go_wp2_with fail
              refine (mRightF _ _ _ _ _ _).mono ?_
              rintro e w8 ⟨rfl, h8⟩
              rw [FU.out]
              have hB : Bl w w8 := (((hBc.trans hu).alloc _).trans h8)
              go_wp2_with fail
              refine (AW.out _).mono ?_
              rintro e w9 ⟨rfl, h9⟩
              go_wp2
              go_ret
              exact ⟨rfl, hB.trans h9⟩
        | true =>
          cases hfb : fitB m m lb with
          | false =>
            cases hfc : fitB m m lc with
            | false =>
              have Wa := hideP (fun u hu => Wa.out u hu hfa)
              have FU := hideP (fitB_dim (R := m) (C := m) (n := m * m) ⟨by omega, by omega, by omega, by omega⟩ rfl)
              generalize m * m = mm at *
              go_wp2_with fail
              refine (Wa.out _ (Bl.refl _)).mono ?_
              rintro e wa ⟨qa, ka, rfl, hx, ha⟩
              have HXa := hideP hx
              clear hx
              have ma := MBox.new wa m m qa la ka 27
              have hBa : Bl w (wa.alloc (.cells #[.int .i64 m, .int .i64 m, .slice qa la ka] 27)) := ha.alloc _
              go_wp2_with fail
              refine (mWholeF_no _ _ _ _ _ _ hfb).mono ?_
              rintro e wb ⟨rfl, hb⟩
              have mb := MBox.new wb 0 0 none 0 0 27
              have hBb : Bl w (wb.alloc (.cells #[.int .i64 0, .int .i64 0, .slice none 0 0] 27)) := (hBa.trans hb).alloc _
              go_wp2_with fail
              refine (mWholeF_no _ _ _ _ _ _ hfc).mono ?_
              rintro e wc ⟨rfl, hc⟩
              have mc := MBox.new wc 0 0 none 0 0 27
              have hBc : Bl w (wc.alloc (.cells #[.int .i64 0, .int .i64 0, .slice none 0 0] 27)) := (hBb.trans hc).alloc _
              go_wp2_with fail
              refine (WU.out _).mono ?_
              rintro e wu ⟨qu, ku, rfl, hxu, hu⟩
              clear hxu
              have mu := MBox.new wu m m qu mm ku 27
              go_wp2_with fail
              refine (mRightF _ _ _ _ _ _).mono ?_
              rintro e w8 ⟨rfl, h8⟩
              rw [FU.out]
              have hB : Bl w w8 := (((hBc.trans hu).alloc _).trans h8)
              go_wp2_with fail
              refine (AW.out _).mono ?_
              rintro e w9 ⟨rfl, h9⟩
              go_wp2
              go_ret
              exact ⟨rfl, hB.trans h9⟩
            | true =>
              have Wa := hideP (fun u hu => Wa.out u hu hfa)
              have Wc := hideP (fun u hu => Wc.out u hu hfc)
              have FU := hideP (fitB_dim (R := m) (C := m) (n := m * m) ⟨by omega, by omega, by omega, by omega⟩ rfl)
              generalize m * m = mm at *
              go_wp2_with fail
              refine (Wa.out _ (Bl.refl _)).mono ?_
              rintro e wa ⟨qa, ka, rfl, hx, ha⟩
              have HXa := hideP hx
              clear hx
              have ma := MBox.new wa m m qa la ka 27
              have hBa : Bl w (wa.alloc (.cells #[.int .i64 m, .int .i64 m, .slice qa la ka] 27)) := ha.alloc _
              go_wp2_with fail
              refine (mWholeF_no _ _ _ _ _ _ hfb).mono ?_
              rintro e wb ⟨rfl, hb⟩
              have mb := MBox.new wb 0 0 none 0 0 27
              have hBb : Bl w (wb.alloc (.cells #[.int .i64 0, .int .i64 0, .slice none 0 0] 27)) := (hBa.trans hb).alloc _
              go_wp2_with fail
              refine (Wc.out _ hBb).mono ?_
              rintro e wc ⟨qc, kc, rfl, hx, hc⟩
              have HXc := hideP hx
              clear hx
              have mc := MBox.new wc m m qc lc kc 27
              have hBc : Bl w (wc.alloc (.cells #[.int .i64 m, .int .i64 m, .slice qc lc kc] 27)) := (hBb.trans hc).alloc _
              go_wp2_with fail
              refine (WU.out _).mono ?_
              rintro e wu ⟨qu, ku, rfl, hxu, hu⟩
              clear hxu
              have mu := MBox.new wu m m qu mm ku 27
              go_wp2_with fail
              refine (mRightF _ _ _ _ _ _).mono ?_
              rintro e w8 ⟨rfl, h8⟩
              rw [FU.out]
              have hB : Bl w w8 := (((hBc.trans hu).alloc _).trans h8)
              go_wp2_with fail
              refine (AW.out _).mono ?_
              rintro e w9 ⟨rfl, h9⟩
              go_wp2
              go_ret
              exact ⟨rfl, hB.trans h9⟩
          | true =>
            cases hfc : fitB m m lc with
            | false =>
              have Wa := hideP (fun u hu => Wa.out u hu hfa)
              have Wb := hideP (fun u hu => Wb.out u hu hfb)
              have FU := hideP (fitB_dim (R := m) (C := m) (n := m * m) ⟨by omega, by omega, by omega, by omega⟩ rfl)
              generalize m * m = mm at *
              go_wp2_with fail
              refine (Wa.out _ (Bl.refl _)).mono ?_
              rintro e wa ⟨qa, ka, rfl, hx, ha⟩
              have HXa := hideP hx
              clear hx
              have ma := MBox.new wa m m qa la ka 27
              have hBa : Bl w (wa.alloc (.cells #[.int .i64 m, .int .i64 m, .slice qa la ka] 27)) := ha.alloc _
              go_wp2_with fail
              refine (Wb.out _ hBa).mono ?_
              rintro e wb ⟨qb, kb, rfl, hx, hb⟩
              have HXb := hideP hx
              clear hx
              have mb := MBox.new wb m m qb lb kb 27
              have hBb : Bl w (wb.alloc (.cells #[.int .i64 m, .int .i64 m, .slice qb lb kb] 27)) := (hBa.trans hb).alloc _
              go_wp2_with fail
              refine (mWholeF_no _ _ _ _ _ _ hfc).mono ?_
              rintro e wc ⟨rfl, hc⟩
              have mc := MBox.new wc 0 0 none 0 0 27
              have hBc : Bl w (wc.alloc (.cells #[.int .i64 0, .int .i64 0, .slice none 0 0] 27)) := (hBb.trans hc).alloc _
              go_wp2_with fail
              refine (WU.out _).mono ?_
              rintro e wu ⟨qu, ku, rfl, hxu, hu⟩
              clear hxu
              have mu := MBox.new wu m m qu mm ku 27
              go_wp2_with fail
              refine (mRightF _ _ _ _ _ _).mono ?_
              rintro e w8 ⟨rfl, h8⟩
              rw [FU.out]
              have hB : Bl w w8 := (((hBc.trans hu).alloc _).trans h8)
              go_wp2_with fail
              refine (AW.out _).mono ?_
              rintro e w9 ⟨rfl, h9⟩
              go_wp2
              go_ret
              exact ⟨rfl, hB.trans h9⟩
            | true =>
              have Wa := hideP (fun u hu => Wa.out u hu hfa)
              have Wb := hideP (fun u hu => Wb.out u hu hfb)
              have Wc := hideP (fun u hu => Wc.out u hu hfc)
              obtain ⟨m1, m2, e1, e2, hd, hna⟩ := fitB_nat hfa
              obtain rfl : m = m1 := by omega
              have hla : la = m * m := by obtain ⟨R, C, e1, e2, _, h⟩ := fitB_nat hfa; rw [h, show R = m by omega, show C = m by omega]
              have hlb : lb = m * m := by obtain ⟨R, C, e1, e2, _, h⟩ := fitB_nat hfb; rw [h, show R = m by omega, show C = m by omega]
              have hlc : lc = m * m := by obtain ⟨R, C, e1, e2, _, h⟩ := fitB_nat hfc; rw [h, show R = m by omega, show C = m by omega]
              have sa : Sm2 100 m m (ofL m xa) := ofL_sml (by rw [← HLa.out]; exact hla) Sa.out
              have sb : Sm2 100 m m (ofL m xb) := ofL_sml (by rw [← HLb.out]; exact hlb) Sb.out
              have sc : Sm2 100 m m (ofL m xc) := ofL_sml (by rw [← HLc.out]; exact hlc) Sc.out
              have WU := hideP (fun u => unit6_any m la (by omega) (by omega) hla u)
              have hEQ := hideP hla
              have eb : la = lb := by omega
              have ec : la = lc := by omega
              clear hlb hlc
              subst eb
              subst ec
              have hm4 : m ≤ 4 := by omega
              have sxy := hideP (sm2_le (sm2_mul (by omega) (by omega) sa sb) (show 100 * 100 * (m : Int) ≤ 40000 by omega))
              have syz := hideP (sm2_le (sm2_mul (by omega) (by omega) sb sc) (show 100 * 100 * (m : Int) ≤ 40000 by omega))
              have SA := hideP sa
              have SB := hideP sb
              have SC := hideP sc
              clear sa sb sc hla hna hd e1 e2
              generalize ofL m xa = fa at *
              generalize ofL m xb = fb at *
              generalize ofL m xc = fc at *
              go_wp2_with fail
              refine (Wa.out _ (Bl.refl _)).mono ?_
              rintro e wa ⟨qa, ka, rfl, hx, ha⟩
              have HXa := hideP hx
              clear hx
              have ma := MBox.new wa m m qa la ka 27
              have hBa : Bl w (wa.alloc (.cells #[.int .i64 m, .int .i64 m, .slice qa la ka] 27)) := ha.alloc _
              go_wp2_with fail
              refine (Wb.out _ hBa).mono ?_
              rintro e wb ⟨qb, kb, rfl, hx, hb⟩
              have HXb := hideP hx
              clear hx
              have mb := MBox.new wb m m qb la kb 27
              have hBb : Bl w (wb.alloc (.cells #[.int .i64 m, .int .i64 m, .slice qb la kb] 27)) := (hBa.trans hb).alloc _
              go_wp2_with fail
              refine (Wc.out _ hBb).mono ?_
              rintro e wc ⟨qc, kc, rfl, hx, hc⟩
              have HXc := hideP hx
              clear hx
              have mc := MBox.new wc m m qc la kc 27
              have hBc : Bl w (wc.alloc (.cells #[.int .i64 m, .int .i64 m, .slice qc la kc] 27)) := (hBb.trans hc).alloc _
              go_wp2_with fail
              refine (WU.out _).mono ?_
              rintro e wu ⟨qu, ku, rfl, hxu, hu⟩
              have HXu := hideP hxu
              clear hxu
              have mu := MBox.new wu m m qu la ku 27
              have Ta_b : Bl (wa.alloc _) wb := hb
              have Tb_c : Bl (wb.alloc _) wc := hc
              have Tc_u : Bl (wc.alloc _) wu := hu
              have Uc_u : Bl wc wu := ((Bl.refl _).alloc _).trans Tc_u
              have Ub_c : Bl wb wc := ((Bl.refl _).alloc _).trans Tb_c
              have Tb_u := Tb_c.trans Uc_u
              have Ub_u : Bl wb wu := ((Bl.refl _).alloc _).trans Tb_u
              have Ta_u := Ta_b.trans Ub_u
              have Ua_u : Bl wa wu := ((Bl.refl _).alloc _).trans Ta_u
              have hBw : Bl w wu := (hBc.trans hu)
              have Ma := ma
              have Mb := mb
              have Mc := mc
              have Mu := mu
              clear ma mb mc mu
              obtain ⟨x00, x01, x02, _, _, _, xl0⟩ := Ma.later Ta_u
              obtain ⟨x10, x11, x12, _, _, _, xl1⟩ := Mb.later Tb_u
              go_wp2_with fail
              refine (mul6_any (A := 100) (B := 100) m m m qa la ka _ qb la kb _ la _ (HXa.out.later (Ua_u.alloc _)) (HXb.out.later (Ub_u.alloc _)) hEQ.out SA.out SB.out (by omega) (by omega) (by omega)).mono ?_
              rintro e wxy ⟨qxy, kxy, rfl, hx, hxy⟩
              have HXxy := hideP hx
              clear hx
              clear x00 x01 x02 xl0
              clear x10 x11 x12 xl1
              have Mxy := MBox.new wxy m m qxy la kxy 27
              have Bxy : Bl wu wxy := ((Bl.refl _).alloc _).trans hxy
              have Ta_xy := Ta_u.trans Bxy
              have Ua_xy : Bl wa wxy := ((Bl.refl _).alloc _).trans Ta_xy
              have Tb_xy := Tb_u.trans Bxy
              have Ub_xy : Bl wb wxy := ((Bl.refl _).alloc _).trans Tb_xy
              have Tc_xy := Tc_u.trans Bxy
              have Uc_xy : Bl wc wxy := ((Bl.refl _).alloc _).trans Tc_xy
              have Tu_xy : Bl (wu.alloc _) wxy := hxy
              have Uu_xy : Bl wu wxy := ((Bl.refl _).alloc _).trans Tu_xy
              obtain ⟨x00, x01, x02, _, _, _, xl0⟩ := Mb.later Tb_xy
              obtain ⟨x10, x11, x12, _, _, _, xl1⟩ := Mc.later Tc_xy
              go_wp2_with fail
              refine (mul6_any (A := 100) (B := 100) m m m qb la kb _ qc la kc _ la _ (HXb.out.later (Ub_xy.alloc _)) (HXc.out.later (Uc_xy.alloc _)) hEQ.out SB.out SC.out (by omega) (by omega) (by omega)).mono ?_
              rintro e wyz ⟨qyz, kyz, rfl, hx, hyz⟩
              have HXyz := hideP hx
              clear hx
              clear x00 x01 x02 xl0
              clear x10 x11 x12 xl1
              have Myz := MBox.new wyz m m qyz la kyz 27
              have Byz : Bl wxy wyz := ((Bl.refl _).alloc _).trans hyz
              have Ta_yz := Ta_xy.trans Byz
              have Ua_yz : Bl wa wyz := ((Bl.refl _).alloc _).trans Ta_yz
              have Tb_yz := Tb_xy.trans Byz
              have Ub_yz : Bl wb wyz := ((Bl.refl _).alloc _).trans Tb_yz
              have Tc_yz := Tc_xy.trans Byz
              have Uc_yz : Bl wc wyz := ((Bl.refl _).alloc _).trans Tc_yz
              have Tu_yz := Tu_xy.trans Byz
              have Uu_yz : Bl wu wyz := ((Bl.refl _).alloc _).trans Tu_yz
              have Txy_yz : Bl (wxy.alloc _) wyz := hyz
              have Uxy_yz : Bl wxy wyz := ((Bl.refl _).alloc _).trans Txy_yz
              obtain ⟨x00, x01, x02, _, _, _, xl0⟩ := Mxy.later Txy_yz
              obtain ⟨x10, x11, x12, _, _, _, xl1⟩ := Mc.later Tc_yz
              go_wp2_with fail
              refine (mul6_any (A := 40000) (B := 100) m m m qxy la kxy _ qc la kc _ la _ (HXxy.out.later (Uxy_yz.alloc _)) (HXc.out.later (Uc_yz.alloc _)) hEQ.out sxy.out SC.out (by omega) (by omega) (by omega)).mono ?_
              rintro e wle ⟨qle, kle, rfl, hx, hle⟩
              have HXle := hideP hx
              clear hx
              clear x00 x01 x02 xl0
              clear x10 x11 x12 xl1
              have Mle := MBox.new wle m m qle la kle 27
              have Ble : Bl wyz wle := ((Bl.refl _).alloc _).trans hle
              have Ta_le := Ta_yz.trans Ble
              have Ua_le : Bl wa wle := ((Bl.refl _).alloc _).trans Ta_le
              have Tb_le := Tb_yz.trans Ble
              have Ub_le : Bl wb wle := ((Bl.refl _).alloc _).trans Tb_le
              have Tc_le := Tc_yz.trans Ble
              have Uc_le : Bl wc wle := ((Bl.refl _).alloc _).trans Tc_le
              have Tu_le := Tu_yz.trans Ble
              have Uu_le : Bl wu wle := ((Bl.refl _).alloc _).trans Tu_le
              have Txy_le := Txy_yz.trans Ble
              have Uxy_le : Bl wxy wle := ((Bl.refl _).alloc _).trans Txy_le
              have Tyz_le : Bl (wyz.alloc _) wle := hle
              have Uyz_le : Bl wyz wle := ((Bl.refl _).alloc _).trans Tyz_le
              obtain ⟨x00, x01, x02, _, _, _, xl0⟩ := Ma.later Ta_le
              obtain ⟨x10, x11, x12, _, _, _, xl1⟩ := Myz.later Tyz_le
              go_wp2_with fail
              refine (mul6_any (A := 100) (B := 40000) m m m qa la ka _ qyz la kyz _ la _ (HXa.out.later (Ua_le.alloc _)) (HXyz.out.later (Uyz_le.alloc _)) hEQ.out SA.out syz.out (by omega) (by omega) (by omega)).mono ?_
              rintro e wri ⟨qri, kri, rfl, hx, hri⟩
              have HXri := hideP hx
              clear hx
              clear x00 x01 x02 xl0
              clear x10 x11 x12 xl1
              have Mri := MBox.new wri m m qri la kri 27
              have Bri : Bl wle wri := ((Bl.refl _).alloc _).trans hri
              have Ta_ri := Ta_le.trans Bri
              have Ua_ri : Bl wa wri := ((Bl.refl _).alloc _).trans Ta_ri
              have Tb_ri := Tb_le.trans Bri
              have Ub_ri : Bl wb wri := ((Bl.refl _).alloc _).trans Tb_ri
              have Tc_ri := Tc_le.trans Bri
              have Uc_ri : Bl wc wri := ((Bl.refl _).alloc _).trans Tc_ri
              have Tu_ri := Tu_le.trans Bri
              have Uu_ri : Bl wu wri := ((Bl.refl _).alloc _).trans Tu_ri
              have Txy_ri := Txy_le.trans Bri
              have Uxy_ri : Bl wxy wri := ((Bl.refl _).alloc _).trans Txy_ri
              have Tyz_ri := Tyz_le.trans Bri
              have Uyz_ri : Bl wyz wri := ((Bl.refl _).alloc _).trans Tyz_ri
              have Tle_ri : Bl (wle.alloc _) wri := hri
              have Ule_ri : Bl wle wri := ((Bl.refl _).alloc _).trans Tle_ri
              obtain ⟨x00, x01, x02, _, _, _, xl0⟩ := Ma.later Ta_ri
              obtain ⟨x10, x11, x12, _, _, _, xl1⟩ := Mu.later Tu_ri
              go_wp2_with fail
              refine (mul6_any (A := 100) (B := 1) m m m qa la ka _ qu la ku _ la _ (HXa.out.later (Ua_ri.alloc _)) (HXu.out.later (Uu_ri.alloc _)) hEQ.out SA.out (sm2_unit m) (by omega) (by omega) (by omega)).mono ?_
              rintro e wxu ⟨qxu, kxu, rfl, hx, hxu⟩
              have HXxu := hideP hx
              clear hx
              clear x00 x01 x02 xl0
              clear x10 x11 x12 xl1
              have Mxu := MBox.new wxu m m qxu la kxu 27
              have Bxu : Bl wri wxu := ((Bl.refl _).alloc _).trans hxu
              have Ta_xu := Ta_ri.trans Bxu
              have Ua_xu : Bl wa wxu := ((Bl.refl _).alloc _).trans Ta_xu
              have Tb_xu := Tb_ri.trans Bxu
              have Ub_xu : Bl wb wxu := ((Bl.refl _).alloc _).trans Tb_xu
              have Tc_xu := Tc_ri.trans Bxu
              have Uc_xu : Bl wc wxu := ((Bl.refl _).alloc _).trans Tc_xu
              have Tu_xu := Tu_ri.trans Bxu
              have Uu_xu : Bl wu wxu := ((Bl.refl _).alloc _).trans Tu_xu
              have Txy_xu := Txy_ri.trans Bxu
              have Uxy_xu : Bl wxy wxu := ((Bl.refl _).alloc _).trans Txy_xu
              have Tyz_xu := Tyz_ri.trans Bxu
              have Uyz_xu : Bl wyz wxu := ((Bl.refl _).alloc _).trans Tyz_xu
              have Tle_xu := Tle_ri.trans Bxu
              have Ule_xu : Bl wle wxu := ((Bl.refl _).alloc _).trans Tle_xu
              have Tri_xu : Bl (wri.alloc _) wxu := hxu
              have Uri_xu : Bl wri wxu := ((Bl.refl _).alloc _).trans Tri_xu
              obtain ⟨V, hV⟩ : ∃ V, V = wxu.alloc (.cells #[.int .i64 m, .int .i64 m, .slice qxu la kxu] 27) := ⟨_, rfl⟩
              have bV : Bl wxu V := by rw [hV]; exact (Bl.refl _).alloc _
              have Na := (Ma.later Ta_xu).later bV
              have Ya := hideP (HXa.out.later (Ua_xu.trans bV))
              have Nb := (Mb.later Tb_xu).later bV
              have Yb := hideP (HXb.out.later (Ub_xu.trans bV))
              have Nxy := (Mxy.later Txy_xu).later bV
              have Yxy := hideP (HXxy.out.later (Uxy_xu.trans bV))
              have Nle := (Mle.later Tle_xu).later bV
              have Yle := hideP (HXle.out.later (Ule_xu.trans bV))
              have Nri := (Mri.later Tri_xu).later bV
              have Yri := hideP (HXri.out.later (Uri_xu.trans bV))
              have Nxu : MBox V wxu.heap.size m m qxu la kxu := by rw [hV]; exact Mxu
              have Yxu := hideP (HXxu.out.later bV)
              have hBV : Bl w V := hBw.trans (Uu_xu.trans bV)
              go_wp2_with fail
              rw [← hV]
              have HV := hideP hV
              clear hV
              have KP := hideP (fun (u : World) (hu : Bl V u) => (show u.cell? ⟨wa.heap.size, 0, none⟩ = some (.int .i64 m) ∧ u.cell? ⟨wa.heap.size, 1, none⟩ = some (.int .i64 m) ∧ u.cell? ⟨wa.heap.size, 2, none⟩ = some (.slice qa la ka) ∧ u.cell? ⟨wb.heap.size, 0, none⟩ = some (.int .i64 m) ∧ u.cell? ⟨wb.heap.size, 1, none⟩ = some (.int .i64 m) ∧ u.cell? ⟨wb.heap.size, 2, none⟩ = some (.slice qb la kb) ∧ Bl V u from ⟨(Na.later hu).c0, (Na.later hu).c1, (Na.later hu).c2, (Nb.later hu).c0, (Nb.later hu).c1, (Nb.later hu).c2, hu⟩))
              have TA := hideP (fun (u : World) (hu : Bl V u) => turn6_any m m qa la ka fa u (Ya.out.later hu))
              have TB := hideP (fun (u : World) (hu : Bl V u) => turn6_any m m qb la kb fb u (Yb.out.later hu))
              have TM := hideP (fun p1 c1 p2 c2 (u : World) (h1 : MxI u m m p1 la c1 (fun i k => fb k i)) (h2 : MxI u m m p2 la c2 (fun i k => fa k i)) => mul6_any' (A := 100) (B := 100) m m m p1 la c1 _ p2 la c2 _ la u h1 h2 hEQ.out (fun i k hi hk => SB.out k i hk hi) (fun i k hi hk => SA.out k i hk hi) (by omega) (by omega) (by omega))
              go_region_held3 (fun w' => w'.cell? ⟨wa.heap.size, 0, none⟩ = some (.int .i64 m) ∧ w'.cell? ⟨wa.heap.size, 1, none⟩ = some (.int .i64 m) ∧ w'.cell? ⟨wa.heap.size, 2, none⟩ = some (.slice qa la ka) ∧ w'.cell? ⟨wb.heap.size, 0, none⟩ = some (.int .i64 m) ∧ w'.cell? ⟨wb.heap.size, 1, none⟩ = some (.int .i64 m) ∧ w'.cell? ⟨wb.heap.size, 2, none⟩ = some (.slice qb la kb) ∧ Bl V w') (exact KP.out _ (by repeat (first | exact Bl.refl _ | assumption | apply Bl.drew | apply Bl.alloc | (refine Bl.put3 ?_ (by omega) _ _ _) | (refine Bl.trans ?_ (by assumption)))))
                (first
                  | (go_at_call_of 26 (Value.slice qb la kb); refine (TB.out _ (by repeat (first | exact Bl.refl _ | assumption | apply Bl.drew | apply Bl.alloc | (refine Bl.put3 ?_ (by omega) _ _ _) | (refine Bl.trans ?_ (by assumption))))).mono ?_; rintro e v1 ⟨p1, c1, rfl, ⟨g1, _⟩, h1⟩; have G1 := hideP g1; clear g1; have s1 := (show Bl V v1 from (by repeat (first | exact Bl.refl _ | assumption | apply Bl.drew | apply Bl.alloc | (refine Bl.put3 ?_ (by omega) _ _ _) | (refine Bl.trans ?_ (by assumption))))).size; (try (have mz := (MBox.new V 0 0 none 0 0 _).later (((Bl.refl _).drew).trans h1); obtain ⟨z0, z1, z2, y0, y1, y2, zl⟩ := id mz)))
                  | (go_at_call_of 26 (Value.slice qa la ka); refine (TA.out _ (by repeat (first | exact Bl.refl _ | assumption | apply Bl.drew | apply Bl.alloc | (refine Bl.put3 ?_ (by omega) _ _ _) | (refine Bl.trans ?_ (by assumption))))).mono ?_; rintro e v2 ⟨p2, c2, rfl, ⟨g2, _⟩, h2⟩; have G2 := hideP g2; clear g2; have s2 := (show Bl V v2 from (by repeat (first | exact Bl.refl _ | assumption | apply Bl.drew | apply Bl.alloc | (refine Bl.put3 ?_ (by omega) _ _ _) | (refine Bl.trans ?_ (by assumption))))).size; first | (have mz := mz.later h2; obtain ⟨z0, z1, z2, y0, y1, y2, zl⟩ := id mz) | (have mz := (MBox.new _ 0 0 none 0 0 _).later h2; obtain ⟨z0, z1, z2, y0, y1, y2, zl⟩ := id mz) | skip)
                  | (go_at_call 20; refine (TM.out p1 c1 p2 c2 _ (G1.out.later (by repeat (first | exact Bl.refl _ | assumption | apply Bl.drew | apply Bl.alloc | (refine Bl.put3 ?_ (by omega) _ _ _) | (refine Bl.trans ?_ (by assumption))))) (G2.out.later (by repeat (first | exact Bl.refl _ | assumption | apply Bl.drew | apply Bl.alloc | (refine Bl.put3 ?_ (by omega) _ _ _) | (refine Bl.trans ?_ (by assumption)))))).mono ?_; rintro e v3 ⟨p3, c3, rfl, ⟨g3, r3, f3⟩, h3⟩; have G3 := hideP g3; have F3 := hideP (And.intro r3 f3); clear g3 r3 f3; have s3 := (show Bl V v3 from (by repeat (first | exact Bl.refl _ | assumption | apply Bl.drew | apply Bl.alloc | (refine Bl.put3 ?_ (by omega) _ _ _) | (refine Bl.trans ?_ (by assumption))))).size; first | (have mz := mz.later h3; obtain ⟨z0, z1, z2, y0, y1, y2, zl⟩ := id mz) | (have mz := (MBox.new _ 0 0 none 0 0 _).later h3; obtain ⟨z0, z1, z2, y0, y1, y2, zl⟩ := id mz) | skip))
              · obtain ⟨B, hBB⟩ : ∃ B, B = v3.heap.size := ⟨_, rfl⟩
                obtain ⟨U, hU⟩ : ∃ U, U = v3.alloc (.cells #[.int .i64 m, .int .i64 m, .slice p3 la c3] 27) := ⟨_, rfl⟩
                have Ntm : MBox U B m m p3 la c3 := by rw [hU, hBB]; exact MBox.new v3 _ _ _ _ _ _
                have Ytm : MxI U m m p3 la c3 (mulI m (fun i k => fb k i) (fun i k => fa k i)) := by rw [hU]; exact G3.out.later ((Bl.refl _).alloc _)
                rename_i hh
                have bU : Bl V U := by rw [hU]; exact hh.2.2.2.2.2.2
                clear hh
                have YTM := hideP Ytm
                clear Ytm
                rw [← hU, ← hBB]
                clear hU hBB G1 G2 G3 F3 TA TB TM KP
                have Nle := Nle.later bU
                have Nri := Nri.later bU
                have Nxu := Nxu.later bU
                have Na := Na.later bU
                have Nxy := Nxy.later bU
                have KQ := hideP (fun (u : World) (hu : Bl U u) => (show u.cell? ⟨wle.heap.size, 0, none⟩ = some (.int .i64 m) ∧ u.cell? ⟨wle.heap.size, 1, none⟩ = some (.int .i64 m) ∧ u.cell? ⟨wle.heap.size, 2, none⟩ = some (.slice qle la kle) ∧ u.cell? ⟨wri.heap.size, 0, none⟩ = some (.int .i64 m) ∧ u.cell? ⟨wri.heap.size, 1, none⟩ = some (.int .i64 m) ∧ u.cell? ⟨wri.heap.size, 2, none⟩ = some (.slice qri la kri) ∧ u.cell? ⟨wxu.heap.size, 0, none⟩ = some (.int .i64 m) ∧ u.cell? ⟨wxu.heap.size, 1, none⟩ = some (.int .i64 m) ∧ u.cell? ⟨wxu.heap.size, 2, none⟩ = some (.slice qxu la kxu) ∧ u.cell? ⟨wa.heap.size, 0, none⟩ = some (.int .i64 m) ∧ u.cell? ⟨wa.heap.size, 1, none⟩ = some (.int .i64 m) ∧ u.cell? ⟨wa.heap.size, 2, none⟩ = some (.slice qa la ka) ∧ u.cell? ⟨wxy.heap.size, 0, none⟩ = some (.int .i64 m) ∧ u.cell? ⟨wxy.heap.size, 1, none⟩ = some (.int .i64 m) ∧ u.cell? ⟨wxy.heap.size, 2, none⟩ = some (.slice qxy la kxy) ∧ u.cell? ⟨B, 0, none⟩ = some (.int .i64 m) ∧ u.cell? ⟨B, 1, none⟩ = some (.int .i64 m) ∧ u.cell? ⟨B, 2, none⟩ = some (.slice p3 la c3) ∧ Bl U u from ⟨(Nle.later hu).c0, (Nle.later hu).c1, (Nle.later hu).c2, (Nri.later hu).c0, (Nri.later hu).c1, (Nri.later hu).c2, (Nxu.later hu).c0, (Nxu.later hu).c1, (Nxu.later hu).c2, (Na.later hu).c0, (Na.later hu).c1, (Na.later hu).c2, (Nxy.later hu).c0, (Nxy.later hu).c1, (Nxy.later hu).c2, (Ntm.later hu).c0, (Ntm.later hu).c1, (Ntm.later hu).c2, hu⟩))
                have A1 := hideP (fun (u : World) (hu : Bl U u) => alike6_any m m qle qri la kle kri _ _ u (Yle.out.later (bU.trans hu)) (Yri.out.later (bU.trans hu)) (fun i k _ _ => mulI_mul_r m fa fb fc m i k))
                have A2 := hideP (fun (u : World) (hu : Bl U u) => alike6_any m m qxu qa la kxu ka _ _ u (Yxu.out.later (bU.trans hu)) (Ya.out.later (bU.trans hu)) (fun i k _ hk => by rw [mulI_unit_r, if_pos hk]))
                have T1 := hideP (fun (u : World) (hu : Bl U u) => turn6_any m m qa la ka fa u (Ya.out.later (bU.trans hu)))
                have T2 := hideP (fun p c (u : World) (h : MxI u m m p la c (fun i k => fa k i)) => turn6_any m m p la c _ u h)
                have A3 := hideP (fun p c (u : World) (hu : Bl U u) (h : MxI u m m p la c (fun i k => fa i k)) => alike6_any m m p qa la c ka _ _ u h (Ya.out.later (bU.trans hu)) (fun _ _ _ _ => rfl))
                have T3 := hideP (fun (u : World) (hu : Bl U u) => turn6_any m m qxy la kxy _ u (Yxy.out.later (bU.trans hu)))
                have A4 := hideP (fun p c (u : World) (hu : Bl U u) (h : MxI u m m p la c (fun i k => mulI m fa fb k i)) => alike6_any m m p p3 la c c3 _ _ u h (YTM.out.later hu) (fun i k _ _ => (mulI_turn m fa fb i k).symm))
                clear Yle Yri Yxu Ya Yxy YTM
                have hBU : Bl w U := hBV.trans bU
                go_wp2_with fail
                go_region_held3 (fun w' => w'.cell? ⟨wle.heap.size, 0, none⟩ = some (.int .i64 m) ∧ w'.cell? ⟨wle.heap.size, 1, none⟩ = some (.int .i64 m) ∧ w'.cell? ⟨wle.heap.size, 2, none⟩ = some (.slice qle la kle) ∧ w'.cell? ⟨wri.heap.size, 0, none⟩ = some (.int .i64 m) ∧ w'.cell? ⟨wri.heap.size, 1, none⟩ = some (.int .i64 m) ∧ w'.cell? ⟨wri.heap.size, 2, none⟩ = some (.slice qri la kri) ∧ w'.cell? ⟨wxu.heap.size, 0, none⟩ = some (.int .i64 m) ∧ w'.cell? ⟨wxu.heap.size, 1, none⟩ = some (.int .i64 m) ∧ w'.cell? ⟨wxu.heap.size, 2, none⟩ = some (.slice qxu la kxu) ∧ w'.cell? ⟨wa.heap.size, 0, none⟩ = some (.int .i64 m) ∧ w'.cell? ⟨wa.heap.size, 1, none⟩ = some (.int .i64 m) ∧ w'.cell? ⟨wa.heap.size, 2, none⟩ = some (.slice qa la ka) ∧ w'.cell? ⟨wxy.heap.size, 0, none⟩ = some (.int .i64 m) ∧ w'.cell? ⟨wxy.heap.size, 1, none⟩ = some (.int .i64 m) ∧ w'.cell? ⟨wxy.heap.size, 2, none⟩ = some (.slice qxy la kxy) ∧ w'.cell? ⟨B, 0, none⟩ = some (.int .i64 m) ∧ w'.cell? ⟨B, 1, none⟩ = some (.int .i64 m) ∧ w'.cell? ⟨B, 2, none⟩ = some (.slice p3 la c3) ∧ Bl U w') (exact KQ.out _ (by repeat (first | exact Bl.refl _ | assumption | apply Bl.drew | apply Bl.alloc | (refine Bl.put3 ?_ (by omega) _ _ _) | (refine Bl.trans ?_ (by assumption)))))
                  (first
                    | (go_at_call_of 30 (Value.slice qle la kle); refine (A1.out _ (by repeat (first | exact Bl.refl _ | assumption | apply Bl.drew | apply Bl.alloc | (refine Bl.put3 ?_ (by omega) _ _ _) | (refine Bl.trans ?_ (by assumption))))).mono ?_; rintro e v4 ⟨rfl, h4⟩)
                    | (go_at_call_of 30 (Value.slice qxu la kxu); refine (A2.out _ (by repeat (first | exact Bl.refl _ | assumption | apply Bl.drew | apply Bl.alloc | (refine Bl.put3 ?_ (by omega) _ _ _) | (refine Bl.trans ?_ (by assumption))))).mono ?_; rintro e v5 ⟨rfl, h5⟩)
                    | (go_at_call_of 26 (Value.slice qa la ka); refine (T1.out _ (by repeat (first | exact Bl.refl _ | assumption | apply Bl.drew | apply Bl.alloc | (refine Bl.put3 ?_ (by omega) _ _ _) | (refine Bl.trans ?_ (by assumption))))).mono ?_; rintro e v6 ⟨p6, c6, rfl, ⟨g6, _⟩, h6⟩; have G6 := hideP g6; clear g6)
                    | (go_at_call_of 26 (Value.slice qxy la kxy); refine (T3.out _ (by repeat (first | exact Bl.refl _ | assumption | apply Bl.drew | apply Bl.alloc | (refine Bl.put3 ?_ (by omega) _ _ _) | (refine Bl.trans ?_ (by assumption))))).mono ?_; rintro e v9 ⟨p9, c9, rfl, ⟨g9, _⟩, h9⟩; have G9 := hideP g9; clear g9)
                    | (go_at_call_of 26 (mV (m : Int) (m : Int) p6 la c6); refine (T2.out p6 c6 _ (G6.out.later (by repeat (first | exact Bl.refl _ | assumption | apply Bl.drew | apply Bl.alloc | (refine Bl.put3 ?_ (by omega) _ _ _) | (refine Bl.trans ?_ (by assumption)))))).mono ?_; rintro e v7 ⟨p7, c7, rfl, ⟨g7, _⟩, h7⟩; have G7 := hideP g7; clear g7)
                    | (go_at_call_of 30 (mV (m : Int) (m : Int) p7 la c7); refine (A3.out p7 c7 _ (by repeat (first | exact Bl.refl _ | assumption | apply Bl.drew | apply Bl.alloc | (refine Bl.put3 ?_ (by omega) _ _ _) | (refine Bl.trans ?_ (by assumption)))) (G7.out.later (by repeat (first | exact Bl.refl _ | assumption | apply Bl.drew | apply Bl.alloc | (refine Bl.put3 ?_ (by omega) _ _ _) | (refine Bl.trans ?_ (by assumption)))))).mono ?_; rintro e v8 ⟨rfl, h8⟩)
                    | (go_at_call_of 30 (mV (m : Int) (m : Int) p9 la c9); refine (A4.out p9 c9 _ (by repeat (first | exact Bl.refl _ | assumption | apply Bl.drew | apply Bl.alloc | (refine Bl.put3 ?_ (by omega) _ _ _) | (refine Bl.trans ?_ (by assumption)))) (G9.out.later (by repeat (first | exact Bl.refl _ | assumption | apply Bl.drew | apply Bl.alloc | (refine Bl.put3 ?_ (by omega) _ _ _) | (refine Bl.trans ?_ (by assumption)))))).mono ?_; rintro e va ⟨rfl, ha⟩)
                    | (go_at_call 11; refine (AW.out _).mono ?_; rintro e vb ⟨rfl, hb9⟩))
                rename_i hh
                have hBU2 := hh.2.2.2.2.2.2.2.2.2.2.2.2.2.2.2.2.2.2
                go_wp2
                go_ret
                exact ⟨rfl, hBU.trans hBU2⟩
              · obtain ⟨B, hBB⟩ : ∃ B, B = v2.heap.size := ⟨_, rfl⟩
                obtain ⟨U, hU⟩ : ∃ U, U = ((v3.setCell ⟨B, 0, none⟩ (.int .i64 m)).setCell ⟨B, 1, none⟩ (.int .i64 m)).setCell ⟨B, 2, none⟩ (.slice p3 la c3) := ⟨_, rfl⟩
                have Ntm : MBox U B m m p3 la c3 := by rw [hU, hBB]; exact mz.fill _ _ _ _ _
                have f4 : Fresh (B + 1) (.slice p3 la c3) := fun g hg => by have h4 := F3.out.2 g hg; have h5 := zl; have h6 := h1.size; have h7 := h2.size; have h8 := h3.size; simp only [World.size_alloc, World.drew] at h4 h6 h7 h8; omega
                have Ytm : MxI U m m p3 la c3 (mulI m (fun i k => fb k i) (fun i k => fa k i)) := by rw [hU]; exact ⟨G3.out.1, G3.out.2.1, (((F3.out.1.set (p := ⟨B, 0, none⟩) _ f4).set (p := ⟨B, 1, none⟩) _ f4).set (p := ⟨B, 2, none⟩) _ f4).q⟩
                rename_i hh
                have bU : Bl V U := by rw [hU, hBB]; exact hh.2.2.2.2.2.2
                clear hh
                have YTM := hideP Ytm
                clear Ytm
                rw [← hBB, ← hU]
                clear hU hBB G1 G2 G3 F3 TA TB TM KP mz z0 z1 z2 y0 y1 y2 zl f4
                have Nle := Nle.later bU
                have Nri := Nri.later bU
                have Nxu := Nxu.later bU
                have Na := Na.later bU
                have Nxy := Nxy.later bU
                have KQ := hideP (fun (u : World) (hu : Bl U u) => (show u.cell? ⟨wle.heap.size, 0, none⟩ = some (.int .i64 m) ∧ u.cell? ⟨wle.heap.size, 1, none⟩ = some (.int .i64 m) ∧ u.cell? ⟨wle.heap.size, 2, none⟩ = some (.slice qle la kle) ∧ u.cell? ⟨wri.heap.size, 0, none⟩ = some (.int .i64 m) ∧ u.cell? ⟨wri.heap.size, 1, none⟩ = some (.int .i64 m) ∧ u.cell? ⟨wri.heap.size, 2, none⟩ = some (.slice qri la kri) ∧ u.cell? ⟨wxu.heap.size, 0, none⟩ = some (.int .i64 m) ∧ u.cell? ⟨wxu.heap.size, 1, none⟩ = some (.int .i64 m) ∧ u.cell? ⟨wxu.heap.size, 2, none⟩ = some (.slice qxu la kxu) ∧ u.cell? ⟨wa.heap.size, 0, none⟩ = some (.int .i64 m) ∧ u.cell? ⟨wa.heap.size, 1, none⟩ = some (.int .i64 m) ∧ u.cell? ⟨wa.heap.size, 2, none⟩ = some (.slice qa la ka) ∧ u.cell? ⟨wxy.heap.size, 0, none⟩ = some (.int .i64 m) ∧ u.cell? ⟨wxy.heap.size, 1, none⟩ = some (.int .i64 m) ∧ u.cell? ⟨wxy.heap.size, 2, none⟩ = some (.slice qxy la kxy) ∧ u.cell? ⟨B, 0, none⟩ = some (.int .i64 m) ∧ u.cell? ⟨B, 1, none⟩ = some (.int .i64 m) ∧ u.cell? ⟨B, 2, none⟩ = some (.slice p3 la c3) ∧ Bl U u from ⟨(Nle.later hu).c0, (Nle.later hu).c1, (Nle.later hu).c2, (Nri.later hu).c0, (Nri.later hu).c1, (Nri.later hu).c2, (Nxu.later hu).c0, (Nxu.later hu).c1, (Nxu.later hu).c2, (Na.later hu).c0, (Na.later hu).c1, (Na.later hu).c2, (Nxy.later hu).c0, (Nxy.later hu).c1, (Nxy.later hu).c2, (Ntm.later hu).c0, (Ntm.later hu).c1, (Ntm.later hu).c2, hu⟩))
                have A1 := hideP (fun (u : World) (hu : Bl U u) => alike6_any m m qle qri la kle kri _ _ u (Yle.out.later (bU.trans hu)) (Yri.out.later (bU.trans hu)) (fun i k _ _ => mulI_mul_r m fa fb fc m i k))
                have A2 := hideP (fun (u : World) (hu : Bl U u) => alike6_any m m qxu qa la kxu ka _ _ u (Yxu.out.later (bU.trans hu)) (Ya.out.later (bU.trans hu)) (fun i k _ hk => by rw [mulI_unit_r, if_pos hk]))
                have T1 := hideP (fun (u : World) (hu : Bl U u) => turn6_any m m qa la ka fa u (Ya.out.later (bU.trans hu)))
                have T2 := hideP (fun p c (u : World) (h : MxI u m m p la c (fun i k => fa k i)) => turn6_any m m p la c _ u h)
                have A3 := hideP (fun p c (u : World) (hu : Bl U u) (h : MxI u m m p la c (fun i k => fa i k)) => alike6_any m m p qa la c ka _ _ u h (Ya.out.later (bU.trans hu)) (fun _ _ _ _ => rfl))
                have T3 := hideP (fun (u : World) (hu : Bl U u) => turn6_any m m qxy la kxy _ u (Yxy.out.later (bU.trans hu)))
                have A4 := hideP (fun p c (u : World) (hu : Bl U u) (h : MxI u m m p la c (fun i k => mulI m fa fb k i)) => alike6_any m m p p3 la c c3 _ _ u h (YTM.out.later hu) (fun i k _ _ => (mulI_turn m fa fb i k).symm))
                clear Yle Yri Yxu Ya Yxy YTM
                have hBU : Bl w U := hBV.trans bU
                go_wp2_with fail
                go_region_held3 (fun w' => w'.cell? ⟨wle.heap.size, 0, none⟩ = some (.int .i64 m) ∧ w'.cell? ⟨wle.heap.size, 1, none⟩ = some (.int .i64 m) ∧ w'.cell? ⟨wle.heap.size, 2, none⟩ = some (.slice qle la kle) ∧ w'.cell? ⟨wri.heap.size, 0, none⟩ = some (.int .i64 m) ∧ w'.cell? ⟨wri.heap.size, 1, none⟩ = some (.int .i64 m) ∧ w'.cell? ⟨wri.heap.size, 2, none⟩ = some (.slice qri la kri) ∧ w'.cell? ⟨wxu.heap.size, 0, none⟩ = some (.int .i64 m) ∧ w'.cell? ⟨wxu.heap.size, 1, none⟩ = some (.int .i64 m) ∧ w'.cell? ⟨wxu.heap.size, 2, none⟩ = some (.slice qxu la kxu) ∧ w'.cell? ⟨wa.heap.size, 0, none⟩ = some (.int .i64 m) ∧ w'.cell? ⟨wa.heap.size, 1, none⟩ = some (.int .i64 m) ∧ w'.cell? ⟨wa.heap.size, 2, none⟩ = some (.slice qa la ka) ∧ w'.cell? ⟨wxy.heap.size, 0, none⟩ = some (.int .i64 m) ∧ w'.cell? ⟨wxy.heap.size, 1, none⟩ = some (.int .i64 m) ∧ w'.cell? ⟨wxy.heap.size, 2, none⟩ = some (.slice qxy la kxy) ∧ w'.cell? ⟨B, 0, none⟩ = some (.int .i64 m) ∧ w'.cell? ⟨B, 1, none⟩ = some (.int .i64 m) ∧ w'.cell? ⟨B, 2, none⟩ = some (.slice p3 la c3) ∧ Bl U w') (exact KQ.out _ (by repeat (first | exact Bl.refl _ | assumption | apply Bl.drew | apply Bl.alloc | (refine Bl.put3 ?_ (by omega) _ _ _) | (refine Bl.trans ?_ (by assumption)))))
                  (first
                    | (go_at_call_of 30 (Value.slice qle la kle); refine (A1.out _ (by repeat (first | exact Bl.refl _ | assumption | apply Bl.drew | apply Bl.alloc | (refine Bl.put3 ?_ (by omega) _ _ _) | (refine Bl.trans ?_ (by assumption))))).mono ?_; rintro e v4 ⟨rfl, h4⟩)
                    | (go_at_call_of 30 (Value.slice qxu la kxu); refine (A2.out _ (by repeat (first | exact Bl.refl _ | assumption | apply Bl.drew | apply Bl.alloc | (refine Bl.put3 ?_ (by omega) _ _ _) | (refine Bl.trans ?_ (by assumption))))).mono ?_; rintro e v5 ⟨rfl, h5⟩)
                    | (go_at_call_of 26 (Value.slice qa la ka); refine (T1.out _ (by repeat (first | exact Bl.refl _ | assumption | apply Bl.drew | apply Bl.alloc | (refine Bl.put3 ?_ (by omega) _ _ _) | (refine Bl.trans ?_ (by assumption))))).mono ?_; rintro e v6 ⟨p6, c6, rfl, ⟨g6, _⟩, h6⟩; have G6 := hideP g6; clear g6)
                    | (go_at_call_of 26 (Value.slice qxy la kxy); refine (T3.out _ (by repeat (first | exact Bl.refl _ | assumption | apply Bl.drew | apply Bl.alloc | (refine Bl.put3 ?_ (by omega) _ _ _) | (refine Bl.trans ?_ (by assumption))))).mono ?_; rintro e v9 ⟨p9, c9, rfl, ⟨g9, _⟩, h9⟩; have G9 := hideP g9; clear g9)
                    | (go_at_call_of 26 (mV (m : Int) (m : Int) p6 la c6); refine (T2.out p6 c6 _ (G6.out.later (by repeat (first | exact Bl.refl _ | assumption | apply Bl.drew | apply Bl.alloc | (refine Bl.put3 ?_ (by omega) _ _ _) | (refine Bl.trans ?_ (by assumption)))))).mono ?_; rintro e v7 ⟨p7, c7, rfl, ⟨g7, _⟩, h7⟩; have G7 := hideP g7; clear g7)
                    | (go_at_call_of 30 (mV (m : Int) (m : Int) p7 la c7); refine (A3.out p7 c7 _ (by repeat (first | exact Bl.refl _ | assumption | apply Bl.drew | apply Bl.alloc | (refine Bl.put3 ?_ (by omega) _ _ _) | (refine Bl.trans ?_ (by assumption)))) (G7.out.later (by repeat (first | exact Bl.refl _ | assumption | apply Bl.drew | apply Bl.alloc | (refine Bl.put3 ?_ (by omega) _ _ _) | (refine Bl.trans ?_ (by assumption)))))).mono ?_; rintro e v8 ⟨rfl, h8⟩)
                    | (go_at_call_of 30 (mV (m : Int) (m : Int) p9 la c9); refine (A4.out p9 c9 _ (by repeat (first | exact Bl.refl _ | assumption | apply Bl.drew | apply Bl.alloc | (refine Bl.put3 ?_ (by omega) _ _ _) | (refine Bl.trans ?_ (by assumption)))) (G9.out.later (by repeat (first | exact Bl.refl _ | assumption | apply Bl.drew | apply Bl.alloc | (refine Bl.put3 ?_ (by omega) _ _ _) | (refine Bl.trans ?_ (by assumption)))))).mono ?_; rintro e va ⟨rfl, ha⟩)
                    | (go_at_call 11; refine (AW.out _).mono ?_; rintro e vb ⟨rfl, hb9⟩))
                rename_i hh
                have hBU2 := hh.2.2.2.2.2.2.2.2.2.2.2.2.2.2.2.2.2.2
                go_wp2
                go_ret
                exact ⟨rfl, hBU.trans hBU2⟩
              · obtain ⟨B, hBB⟩ : ∃ B, B = v1.heap.size := ⟨_, rfl⟩
                obtain ⟨U, hU⟩ : ∃ U, U = ((v3.setCell ⟨B, 0, none⟩ (.int .i64 m)).setCell ⟨B, 1, none⟩ (.int .i64 m)).setCell ⟨B, 2, none⟩ (.slice p3 la c3) := ⟨_, rfl⟩
                have Ntm : MBox U B m m p3 la c3 := by rw [hU, hBB]; exact mz.fill _ _ _ _ _
                have f4 : Fresh (B + 1) (.slice p3 la c3) := fun g hg => by have h4 := F3.out.2 g hg; have h5 := zl; have h6 := h1.size; have h7 := h2.size; have h8 := h3.size; simp only [World.size_alloc, World.drew] at h4 h6 h7 h8; omega
                have Ytm : MxI U m m p3 la c3 (mulI m (fun i k => fb k i) (fun i k => fa k i)) := by rw [hU]; exact ⟨G3.out.1, G3.out.2.1, (((F3.out.1.set (p := ⟨B, 0, none⟩) _ f4).set (p := ⟨B, 1, none⟩) _ f4).set (p := ⟨B, 2, none⟩) _ f4).q⟩
                rename_i hh
                have bU : Bl V U := by rw [hU, hBB]; exact hh.2.2.2.2.2.2
                clear hh
                have YTM := hideP Ytm
                clear Ytm
                rw [← hBB, ← hU]
                clear hU hBB G1 G2 G3 F3 TA TB TM KP mz z0 z1 z2 y0 y1 y2 zl f4
                have Nle := Nle.later bU
                have Nri := Nri.later bU
                have Nxu := Nxu.later bU
                have Na := Na.later bU
                have Nxy := Nxy.later bU
                have KQ := hideP (fun (u : World) (hu : Bl U u) => (show u.cell? ⟨wle.heap.size, 0, none⟩ = some (.int .i64 m) ∧ u.cell? ⟨wle.heap.size, 1, none⟩ = some (.int .i64 m) ∧ u.cell? ⟨wle.heap.size, 2, none⟩ = some (.slice qle la kle) ∧ u.cell? ⟨wri.heap.size, 0, none⟩ = some (.int .i64 m) ∧ u.cell? ⟨wri.heap.size, 1, none⟩ = some (.int .i64 m) ∧ u.cell? ⟨wri.heap.size, 2, none⟩ = some (.slice qri la kri) ∧ u.cell? ⟨wxu.heap.size, 0, none⟩ = some (.int .i64 m) ∧ u.cell? ⟨wxu.heap.size, 1, none⟩ = some (.int .i64 m) ∧ u.cell? ⟨wxu.heap.size, 2, none⟩ = some (.slice qxu la kxu) ∧ u.cell? ⟨wa.heap.size, 0, none⟩ = some (.int .i64 m) ∧ u.cell? ⟨wa.heap.size, 1, none⟩ = some (.int .i64 m) ∧ u.cell? ⟨wa.heap.size, 2, none⟩ = some (.slice qa la ka) ∧ u.cell? ⟨wxy.heap.size, 0, none⟩ = some (.int .i64 m) ∧ u.cell? ⟨wxy.heap.size, 1, none⟩ = some (.int .i64 m) ∧ u.cell? ⟨wxy.heap.size, 2, none⟩ = some (.slice qxy la kxy) ∧ u.cell? ⟨B, 0, none⟩ = some (.int .i64 m) ∧ u.cell? ⟨B, 1, none⟩ = some (.int .i64 m) ∧ u.cell? ⟨B, 2, none⟩ = some (.slice p3 la c3) ∧ Bl U u from ⟨(Nle.later hu).c0, (Nle.later hu).c1, (Nle.later hu).c2, (Nri.later hu).c0, (Nri.later hu).c1, (Nri.later hu).c2, (Nxu.later hu).c0, (Nxu.later hu).c1, (Nxu.later hu).c2, (Na.later hu).c0, (Na.later hu).c1, (Na.later hu).c2, (Nxy.later hu).c0, (Nxy.later hu).c1, (Nxy.later hu).c2, (Ntm.later hu).c0, (Ntm.later hu).c1, (Ntm.later hu).c2, hu⟩))
                have A1 := hideP (fun (u : World) (hu : Bl U u) => alike6_any m m qle qri la kle kri _ _ u (Yle.out.later (bU.trans hu)) (Yri.out.later (bU.trans hu)) (fun i k _ _ => mulI_mul_r m fa fb fc m i k))
                have A2 := hideP (fun (u : World) (hu : Bl U u) => alike6_any m m qxu qa la kxu ka _ _ u (Yxu.out.later (bU.trans hu)) (Ya.out.later (bU.trans hu)) (fun i k _ hk => by rw [mulI_unit_r, if_pos hk]))
                have T1 := hideP (fun (u : World) (hu : Bl U u) => turn6_any m m qa la ka fa u (Ya.out.later (bU.trans hu)))
                have T2 := hideP (fun p c (u : World) (h : MxI u m m p la c (fun i k => fa k i)) => turn6_any m m p la c _ u h)
                have A3 := hideP (fun p c (u : World) (hu : Bl U u) (h : MxI u m m p la c (fun i k => fa i k)) => alike6_any m m p qa la c ka _ _ u h (Ya.out.later (bU.trans hu)) (fun _ _ _ _ => rfl))
                have T3 := hideP (fun (u : World) (hu : Bl U u) => turn6_any m m qxy la kxy _ u (Yxy.out.later (bU.trans hu)))
                have A4 := hideP (fun p c (u : World) (hu : Bl U u) (h : MxI u m m p la c (fun i k => mulI m fa fb k i)) => alike6_any m m p p3 la c c3 _ _ u h (YTM.out.later hu) (fun i k _ _ => (mulI_turn m fa fb i k).symm))
                clear Yle Yri Yxu Ya Yxy YTM
                have hBU : Bl w U := hBV.trans bU
                go_wp2_with fail
                go_region_held3 (fun w' => w'.cell? ⟨wle.heap.size, 0, none⟩ = some (.int .i64 m) ∧ w'.cell? ⟨wle.heap.size, 1, none⟩ = some (.int .i64 m) ∧ w'.cell? ⟨wle.heap.size, 2, none⟩ = some (.slice qle la kle) ∧ w'.cell? ⟨wri.heap.size, 0, none⟩ = some (.int .i64 m) ∧ w'.cell? ⟨wri.heap.size, 1, none⟩ = some (.int .i64 m) ∧ w'.cell? ⟨wri.heap.size, 2, none⟩ = some (.slice qri la kri) ∧ w'.cell? ⟨wxu.heap.size, 0, none⟩ = some (.int .i64 m) ∧ w'.cell? ⟨wxu.heap.size, 1, none⟩ = some (.int .i64 m) ∧ w'.cell? ⟨wxu.heap.size, 2, none⟩ = some (.slice qxu la kxu) ∧ w'.cell? ⟨wa.heap.size, 0, none⟩ = some (.int .i64 m) ∧ w'.cell? ⟨wa.heap.size, 1, none⟩ = some (.int .i64 m) ∧ w'.cell? ⟨wa.heap.size, 2, none⟩ = some (.slice qa la ka) ∧ w'.cell? ⟨wxy.heap.size, 0, none⟩ = some (.int .i64 m) ∧ w'.cell? ⟨wxy.heap.size, 1, none⟩ = some (.int .i64 m) ∧ w'.cell? ⟨wxy.heap.size, 2, none⟩ = some (.slice qxy la kxy) ∧ w'.cell? ⟨B, 0, none⟩ = some (.int .i64 m) ∧ w'.cell? ⟨B, 1, none⟩ = some (.int .i64 m) ∧ w'.cell? ⟨B, 2, none⟩ = some (.slice p3 la c3) ∧ Bl U w') (exact KQ.out _ (by repeat (first | exact Bl.refl _ | assumption | apply Bl.drew | apply Bl.alloc | (refine Bl.put3 ?_ (by omega) _ _ _) | (refine Bl.trans ?_ (by assumption)))))
                  (first
                    | (go_at_call_of 30 (Value.slice qle la kle); refine (A1.out _ (by repeat (first | exact Bl.refl _ | assumption | apply Bl.drew | apply Bl.alloc | (refine Bl.put3 ?_ (by omega) _ _ _) | (refine Bl.trans ?_ (by assumption))))).mono ?_; rintro e v4 ⟨rfl, h4⟩)
                    | (go_at_call_of 30 (Value.slice qxu la kxu); refine (A2.out _ (by repeat (first | exact Bl.refl _ | assumption | apply Bl.drew | apply Bl.alloc | (refine Bl.put3 ?_ (by omega) _ _ _) | (refine Bl.trans ?_ (by assumption))))).mono ?_; rintro e v5 ⟨rfl, h5⟩)
                    | (go_at_call_of 26 (Value.slice qa la ka); refine (T1.out _ (by repeat (first | exact Bl.refl _ | assumption | apply Bl.drew | apply Bl.alloc | (refine Bl.put3 ?_ (by omega) _ _ _) | (refine Bl.trans ?_ (by assumption))))).mono ?_; rintro e v6 ⟨p6, c6, rfl, ⟨g6, _⟩, h6⟩; have G6 := hideP g6; clear g6)
                    | (go_at_call_of 26 (Value.slice qxy la kxy); refine (T3.out _ (by repeat (first | exact Bl.refl _ | assumption | apply Bl.drew | apply Bl.alloc | (refine Bl.put3 ?_ (by omega) _ _ _) | (refine Bl.trans ?_ (by assumption))))).mono ?_; rintro e v9 ⟨p9, c9, rfl, ⟨g9, _⟩, h9⟩; have G9 := hideP g9; clear g9)
                    | (go_at_call_of 26 (mV (m : Int) (m : Int) p6 la c6); refine (T2.out p6 c6 _ (G6.out.later (by repeat (first | exact Bl.refl _ | assumption | apply Bl.drew | apply Bl.alloc | (refine Bl.put3 ?_ (by omega) _ _ _) | (refine Bl.trans ?_ (by assumption)))))).mono ?_; rintro e v7 ⟨p7, c7, rfl, ⟨g7, _⟩, h7⟩; have G7 := hideP g7; clear g7)
                    | (go_at_call_of 30 (mV (m : Int) (m : Int) p7 la c7); refine (A3.out p7 c7 _ (by repeat (first | exact Bl.refl _ | assumption | apply Bl.drew | apply Bl.alloc | (refine Bl.put3 ?_ (by omega) _ _ _) | (refine Bl.trans ?_ (by assumption)))) (G7.out.later (by repeat (first | exact Bl.refl _ | assumption | apply Bl.drew | apply Bl.alloc | (refine Bl.put3 ?_ (by omega) _ _ _) | (refine Bl.trans ?_ (by assumption)))))).mono ?_; rintro e v8 ⟨rfl, h8⟩)
                    | (go_at_call_of 30 (mV (m : Int) (m : Int) p9 la c9); refine (A4.out p9 c9 _ (by repeat (first | exact Bl.refl _ | assumption | apply Bl.drew | apply Bl.alloc | (refine Bl.put3 ?_ (by omega) _ _ _) | (refine Bl.trans ?_ (by assumption)))) (G9.out.later (by repeat (first | exact Bl.refl _ | assumption | apply Bl.drew | apply Bl.alloc | (refine Bl.put3 ?_ (by omega) _ _ _) | (refine Bl.trans ?_ (by assumption)))))).mono ?_; rintro e va ⟨rfl, ha⟩)
                    | (go_at_call 11; refine (AW.out _).mono ?_; rintro e vb ⟨rfl, hb9⟩))
                rename_i hh
                have hBU2 := hh.2.2.2.2.2.2.2.2.2.2.2.2.2.2.2.2.2.2
                go_wp2
                go_ret
                exact ⟨rfl, hBU.trans hBU2⟩
              · obtain ⟨B, hBB⟩ : ∃ B, B = V.heap.size := ⟨_, rfl⟩
                obtain ⟨U, hU⟩ : ∃ U, U = ((v3.setCell ⟨B, 0, none⟩ (.int .i64 m)).setCell ⟨B, 1, none⟩ (.int .i64 m)).setCell ⟨B, 2, none⟩ (.slice p3 la c3) := ⟨_, rfl⟩
                have Ntm : MBox U B m m p3 la c3 := by rw [hU, hBB]; exact mz.fill _ _ _ _ _
                have f4 : Fresh (B + 1) (.slice p3 la c3) := fun g hg => by have h4 := F3.out.2 g hg; have h5 := zl; have h6 := h1.size; have h7 := h2.size; have h8 := h3.size; simp only [World.size_alloc, World.drew] at h4 h6 h7 h8; omega
                have Ytm : MxI U m m p3 la c3 (mulI m (fun i k => fb k i) (fun i k => fa k i)) := by rw [hU]; exact ⟨G3.out.1, G3.out.2.1, (((F3.out.1.set (p := ⟨B, 0, none⟩) _ f4).set (p := ⟨B, 1, none⟩) _ f4).set (p := ⟨B, 2, none⟩) _ f4).q⟩
                rename_i hh
                have bU : Bl V U := by rw [hU, hBB]; exact hh.2.2.2.2.2.2
                clear hh
                have YTM := hideP Ytm
                clear Ytm
                rw [← hBB, ← hU]
                clear hU hBB G1 G2 G3 F3 TA TB TM KP mz z0 z1 z2 y0 y1 y2 zl f4
                have Nle := Nle.later bU
                have Nri := Nri.later bU
                have Nxu := Nxu.later bU
                have Na := Na.later bU
                have Nxy := Nxy.later bU
                have KQ := hideP (fun (u : World) (hu : Bl U u) => (show u.cell? ⟨wle.heap.size, 0, none⟩ = some (.int .i64 m) ∧ u.cell? ⟨wle.heap.size, 1, none⟩ = some (.int .i64 m) ∧ u.cell? ⟨wle.heap.size, 2, none⟩ = some (.slice qle la kle) ∧ u.cell? ⟨wri.heap.size, 0, none⟩ = some (.int .i64 m) ∧ u.cell? ⟨wri.heap.size, 1, none⟩ = some (.int .i64 m) ∧ u.cell? ⟨wri.heap.size, 2, none⟩ = some (.slice qri la kri) ∧ u.cell? ⟨wxu.heap.size, 0, none⟩ = some (.int .i64 m) ∧ u.cell? ⟨wxu.heap.size, 1, none⟩ = some (.int .i64 m) ∧ u.cell? ⟨wxu.heap.size, 2, none⟩ = some (.slice qxu la kxu) ∧ u.cell? ⟨wa.heap.size, 0, none⟩ = some (.int .i64 m) ∧ u.cell? ⟨wa.heap.size, 1, none⟩ = some (.int .i64 m) ∧ u.cell? ⟨wa.heap.size, 2, none⟩ = some (.slice qa la ka) ∧ u.cell? ⟨wxy.heap.size, 0, none⟩ = some (.int .i64 m) ∧ u.cell? ⟨wxy.heap.size, 1, none⟩ = some (.int .i64 m) ∧ u.cell? ⟨wxy.heap.size, 2, none⟩ = some (.slice qxy la kxy) ∧ u.cell? ⟨B, 0, none⟩ = some (.int .i64 m) ∧ u.cell? ⟨B, 1, none⟩ = some (.int .i64 m) ∧ u.cell? ⟨B, 2, none⟩ = some (.slice p3 la c3) ∧ Bl U u from ⟨(Nle.later hu).c0, (Nle.later hu).c1, (Nle.later hu).c2, (Nri.later hu).c0, (Nri.later hu).c1, (Nri.later hu).c2, (Nxu.later hu).c0, (Nxu.later hu).c1, (Nxu.later hu).c2, (Na.later hu).c0, (Na.later hu).c1, (Na.later hu).c2, (Nxy.later hu).c0, (Nxy.later hu).c1, (Nxy.later hu).c2, (Ntm.later hu).c0, (Ntm.later hu).c1, (Ntm.later hu).c2, hu⟩))
                have A1 := hideP (fun (u : World) (hu : Bl U u) => alike6_any m m qle qri la kle kri _ _ u (Yle.out.later (bU.trans hu)) (Yri.out.later (bU.trans hu)) (fun i k _ _ => mulI_mul_r m fa fb fc m i k))
                have A2 := hideP (fun (u : World) (hu : Bl U u) => alike6_any m m qxu qa la kxu ka _ _ u (Yxu.out.later (bU.trans hu)) (Ya.out.later (bU.trans hu)) (fun i k _ hk => by rw [mulI_unit_r, if_pos hk]))
                have T1 := hideP (fun (u : World) (hu : Bl U u) => turn6_any m m qa la ka fa u (Ya.out.later (bU.trans hu)))
                have T2 := hideP (fun p c (u : World) (h : MxI u m m p la c (fun i k => fa k i)) => turn6_any m m p la c _ u h)
                have A3 := hideP (fun p c (u : World) (hu : Bl U u) (h : MxI u m m p la c (fun i k => fa i k)) => alike6_any m m p qa la c ka _ _ u h (Ya.out.later (bU.trans hu)) (fun _ _ _ _ => rfl))
                have T3 := hideP (fun (u : World) (hu : Bl U u) => turn6_any m m qxy la kxy _ u (Yxy.out.later (bU.trans hu)))
                have A4 := hideP (fun p c (u : World) (hu : Bl U u) (h : MxI u m m p la c (fun i k => mulI m fa fb k i)) => alike6_any m m p p3 la c c3 _ _ u h (YTM.out.later hu) (fun i k _ _ => (mulI_turn m fa fb i k).symm))
                clear Yle Yri Yxu Ya Yxy YTM
                have hBU : Bl w U := hBV.trans bU
                go_wp2_with fail
                go_region_held3 (fun w' => w'.cell? ⟨wle.heap.size, 0, none⟩ = some (.int .i64 m) ∧ w'.cell? ⟨wle.heap.size, 1, none⟩ = some (.int .i64 m) ∧ w'.cell? ⟨wle.heap.size, 2, none⟩ = some (.slice qle la kle) ∧ w'.cell? ⟨wri.heap.size, 0, none⟩ = some (.int .i64 m) ∧ w'.cell? ⟨wri.heap.size, 1, none⟩ = some (.int .i64 m) ∧ w'.cell? ⟨wri.heap.size, 2, none⟩ = some (.slice qri la kri) ∧ w'.cell? ⟨wxu.heap.size, 0, none⟩ = some (.int .i64 m) ∧ w'.cell? ⟨wxu.heap.size, 1, none⟩ = some (.int .i64 m) ∧ w'.cell? ⟨wxu.heap.size, 2, none⟩ = some (.slice qxu la kxu) ∧ w'.cell? ⟨wa.heap.size, 0, none⟩ = some (.int .i64 m) ∧ w'.cell? ⟨wa.heap.size, 1, none⟩ = some (.int .i64 m) ∧ w'.cell? ⟨wa.heap.size, 2, none⟩ = some (.slice qa la ka) ∧ w'.cell? ⟨wxy.heap.size, 0, none⟩ = some (.int .i64 m) ∧ w'.cell? ⟨wxy.heap.size, 1, none⟩ = some (.int .i64 m) ∧ w'.cell? ⟨wxy.heap.size, 2, none⟩ = some (.slice qxy la kxy) ∧ w'.cell? ⟨B, 0, none⟩ = some (.int .i64 m) ∧ w'.cell? ⟨B, 1, none⟩ = some (.int .i64 m) ∧ w'.cell? ⟨B, 2, none⟩ = some (.slice p3 la c3) ∧ Bl U w') (exact KQ.out _ (by repeat (first | exact Bl.refl _ | assumption | apply Bl.drew | apply Bl.alloc | (refine Bl.put3 ?_ (by omega) _ _ _) | (refine Bl.trans ?_ (by assumption)))))
                  (first
                    | (go_at_call_of 30 (Value.slice qle la kle); refine (A1.out _ (by repeat (first | exact Bl.refl _ | assumption | apply Bl.drew | apply Bl.alloc | (refine Bl.put3 ?_ (by omega) _ _ _) | (refine Bl.trans ?_ (by assumption))))).mono ?_; rintro e v4 ⟨rfl, h4⟩)
                    | (go_at_call_of 30 (Value.slice qxu la kxu); refine (A2.out _ (by repeat (first | exact Bl.refl _ | assumption | apply Bl.drew | apply Bl.alloc | (refine Bl.put3 ?_ (by omega) _ _ _) | (refine Bl.trans ?_ (by assumption))))).mono ?_; rintro e v5 ⟨rfl, h5⟩)
                    | (go_at_call_of 26 (Value.slice qa la ka); refine (T1.out _ (by repeat (first | exact Bl.refl _ | assumption | apply Bl.drew | apply Bl.alloc | (refine Bl.put3 ?_ (by omega) _ _ _) | (refine Bl.trans ?_ (by assumption))))).mono ?_; rintro e v6 ⟨p6, c6, rfl, ⟨g6, _⟩, h6⟩; have G6 := hideP g6; clear g6)
                    | (go_at_call_of 26 (Value.slice qxy la kxy); refine (T3.out _ (by repeat (first | exact Bl.refl _ | assumption | apply Bl.drew | apply Bl.alloc | (refine Bl.put3 ?_ (by omega) _ _ _) | (refine Bl.trans ?_ (by assumption))))).mono ?_; rintro e v9 ⟨p9, c9, rfl, ⟨g9, _⟩, h9⟩; have G9 := hideP g9; clear g9)
                    | (go_at_call_of 26 (mV (m : Int) (m : Int) p6 la c6); refine (T2.out p6 c6 _ (G6.out.later (by repeat (first | exact Bl.refl _ | assumption | apply Bl.drew | apply Bl.alloc | (refine Bl.put3 ?_ (by omega) _ _ _) | (refine Bl.trans ?_ (by assumption)))))).mono ?_; rintro e v7 ⟨p7, c7, rfl, ⟨g7, _⟩, h7⟩; have G7 := hideP g7; clear g7)
                    | (go_at_call_of 30 (mV (m : Int) (m : Int) p7 la c7); refine (A3.out p7 c7 _ (by repeat (first | exact Bl.refl _ | assumption | apply Bl.drew | apply Bl.alloc | (refine Bl.put3 ?_ (by omega) _ _ _) | (refine Bl.trans ?_ (by assumption)))) (G7.out.later (by repeat (first | exact Bl.refl _ | assumption | apply Bl.drew | apply Bl.alloc | (refine Bl.put3 ?_ (by omega) _ _ _) | (refine Bl.trans ?_ (by assumption)))))).mono ?_; rintro e v8 ⟨rfl, h8⟩)
                    | (go_at_call_of 30 (mV (m : Int) (m : Int) p9 la c9); refine (A4.out p9 c9 _ (by repeat (first | exact Bl.refl _ | assumption | apply Bl.drew | apply Bl.alloc | (refine Bl.put3 ?_ (by omega) _ _ _) | (refine Bl.trans ?_ (by assumption)))) (G9.out.later (by repeat (first | exact Bl.refl _ | assumption | apply Bl.drew | apply Bl.alloc | (refine Bl.put3 ?_ (by omega) _ _ _) | (refine Bl.trans ?_ (by assumption)))))).mono ?_; rintro e va ⟨rfl, ha⟩)
                    | (go_at_call 11; refine (AW.out _).mono ?_; rintro e vb ⟨rfl, hb9⟩))
                rename_i hh
                have hBU2 := hh.2.2.2.2.2.2.2.2.2.2.2.2.2.2.2.2.2.2
                go_wp2
                go_ret
                exact ⟨rfl, hBU.trans hBU2⟩
end Go.Proofs.Ytokbmbgiimbkpaa
