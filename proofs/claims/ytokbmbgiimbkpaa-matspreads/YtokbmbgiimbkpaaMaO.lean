/- The walk of MatSpreads. Written by genMl.py. -/
import Derived.Test.YtokbmbgiimbkpaaMaJ
namespace Go.Proofs.Ytokbmbgiimbkpaa
open Go.RowKit
set_option linter.unusedSimpArgs false
set_option linter.unusedVariables false

set_option maxRecDepth 100000 in
set_option maxHeartbeats 8000000 in
theorem walk_MatSpreads (va : Value) (xa : List Int) (vb : Value) (xb : List Int) (vc : Value) (xc : List Int) (n : Int) (w : World) (ha : Rq 1 cI w va xa) (hb : Rq 1 cI w vb xb) (hc : Rq 1 cI w vc xc) :
    Calls Try.prog 9 #[va, vb, vc, .int .i64 n] w fun e w' => e = .returned (.bool true) ∧ Bl w w' := by
  have AW := hideP awake6_any
  have Fa := hideP (few6_any va xa w ha)
  obtain ⟨pa, ca, rfl, _, _⟩ := ha.cut
  obtain ⟨la, hla⟩ : ∃ l, l = xa.length := ⟨_, rfl⟩
  rw [← hla] at Fa ha ⊢
  have Ha := hideP ha
  have HLa := hideP hla
  clear ha hla
  have Fb := hideP (few6_any vb xb w hb)
  obtain ⟨pb, cb, rfl, _, _⟩ := hb.cut
  obtain ⟨lb, hlb⟩ : ∃ l, l = xb.length := ⟨_, rfl⟩
  rw [← hlb] at Fb hb ⊢
  have Hb := hideP hb
  have HLb := hideP hlb
  clear hb hlb
  have Fc := hideP (few6_any vc xc w hc)
  obtain ⟨pc, cc, rfl, _, _⟩ := hc.cut
  obtain ⟨lc, hlc⟩ : ∃ l, l = xc.length := ⟨_, rfl⟩
  rw [← hlc] at Fc hc ⊢
  have Hc := hideP hc
  have HLc := hideP hlc
  clear hc hlc
  go_enter Try.func9, Try.ntmps9
  go_wp2_with fail
  refine Fa.out.mono ?_
  rintro e w1 ⟨b1, rfl, hb1, hw1⟩
  have hw2 := hw1.symm
  subst hw2
  clear Fa hw1
  cases b1 with
  | false =>
    go_wp2_with fail
    refine (AW.out _).mono ?_
    rintro e w9 ⟨rfl, h9⟩
    go_wp2
    go_ret
    exact ⟨rfl, (Bl.refl _).trans h9⟩
  | true =>
    have Sa := hideP (hb1 rfl).2
    clear hb1
    go_wp2_with fail
    refine Fb.out.mono ?_
    rintro e w1 ⟨b1, rfl, hb1, hw1⟩
    have hw2 := hw1.symm
    subst hw2
    clear Fb hw1
    cases b1 with
    | false =>
      go_wp2_with fail
      refine (AW.out _).mono ?_
      rintro e w9 ⟨rfl, h9⟩
      go_wp2
      go_ret
      exact ⟨rfl, (Bl.refl _).trans h9⟩
    | true =>
      have Sb := hideP (hb1 rfl).2
      clear hb1
      go_wp2_with fail
      refine Fc.out.mono ?_
      rintro e w1 ⟨b1, rfl, hb1, hw1⟩
      have hw2 := hw1.symm
      subst hw2
      clear Fc hw1
      cases b1 with
      | false =>
        go_wp2_with fail
        refine (AW.out _).mono ?_
        rintro e w9 ⟨rfl, h9⟩
        go_wp2
        go_ret
        exact ⟨rfl, (Bl.refl _).trans h9⟩
      | true =>
        have Sc := hideP (hb1 rfl).2
        clear hb1
        by_cases hn1 : n < 1
        · skip
          go_wp2_with fail
          refine (AW.out _).mono ?_
          rintro e w9 ⟨rfl, h9⟩
          go_wp2
          go_ret
          exact ⟨rfl, (Bl.refl _).trans h9⟩
        by_cases hn2 : 4 < n
        · skip
          go_wp2_with fail
          refine (AW.out _).mono ?_
          rintro e w9 ⟨rfl, h9⟩
          go_wp2
          go_ret
          exact ⟨rfl, (Bl.refl _).trans h9⟩
        obtain ⟨m, rfl⟩ : ∃ m : Nat, n = (m : Int) := ⟨n.toNat, by omega⟩
        have Wa := hideP (fun u (hu : Bl w u) (hf : fitB m m la = true) => whole6_call m m pa la ca xa u (Ha.out.later hu) hf HLa.out.symm Sa.out)
        have Wb := hideP (fun u (hu : Bl w u) (hf : fitB m m lb = true) => whole6_call m m pb lb cb xb u (Hb.out.later hu) hf HLb.out.symm Sb.out)
        have Wc := hideP (fun u (hu : Bl w u) (hf : fitB m m lc = true) => whole6_call m m pc lc cc xc u (Hc.out.later hu) hf HLc.out.symm Sc.out)
        cases hfa : fitB m m la with
        | false =>
          cases hfb : fitB m m lb with
          | false =>
            cases hfc : fitB m m lc with
            | false =>
              go_wp2_with fail
              refine (mWholeF_no _ _ _ _ _ _ hfa).mono ?_
              rintro e wa ⟨rfl, ha⟩
              have ma := MBox.new wa 0 0 none 0 0 27
              have hBa : Bl w (wa.alloc (.cells #[.int .i64 0, .int .i64 0, .slice none 0 0] 27)) := ha.alloc _
              go_wp2_with fail
              refine (mWholeF_no _ _ _ _ _ _ hfb).mono ?_
              rintro e wb ⟨rfl, hb⟩
              have mb := MBox.new wb 0 0 none 0 0 27
              have hBb : Bl w (wb.alloc (.cells #[.int .i64 0, .int .i64 0, .slice none 0 0] 27)) := (hBa.trans hb).alloc _
              go_wp2_with fail
              refine (mWholeF_no _ _ _ _ _ _ hfc).mono ?_
              rintro e wc ⟨rfl, hc⟩
              have mc := MBox.new wc 0 0 none 0 0 27
              have hBc : Bl w (wc.alloc (.cells #[.int .i64 0, .int .i64 0, .slice none 0 0] 27)) := (hBb.trans hc).alloc _
              go_wp2_with fail
              refine (AW.out _).mono ?_
              rintro e w9 ⟨rfl, h9⟩
              go_wp2
              go_ret
              exact ⟨rfl, hBc.trans h9⟩
            | true =>
              have Wc := hideP (fun u hu => Wc.out u hu hfc)
              go_wp2_with fail
              refine (mWholeF_no _ _ _ _ _ _ hfa).mono ?_
              rintro e wa ⟨rfl, ha⟩
              have ma := MBox.new wa 0 0 none 0 0 27
              have hBa : Bl w (wa.alloc (.cells #[.int .i64 0, .int .i64 0, .slice none 0 0] 27)) := ha.alloc _
              go_wp2_with fail
              refine (mWholeF_no _ _ _ _ _ _ hfb).mono ?_
              rintro e wb ⟨rfl, hb⟩
              have mb := MBox.new wb 0 0 none 0 0 27
              have hBb : Bl w (wb.alloc (.cells #[.int .i64 0, .int .i64 0, .slice none 0 0] 27)) := (hBa.trans hb).alloc _
              go_wp2_with fail
              refine (Wc.out _ hBb).mono ?_
              rintro e wc ⟨qc, kc, rfl, hx, hc⟩
              have HXc := hideP hx
              clear hx
              have mc := MBox.new wc m m qc lc kc 27
              have hBc : Bl w (wc.alloc (.cells #[.int .i64 m, .int .i64 m, .slice qc lc kc] 27)) := (hBb.trans hc).alloc _
              go_wp2_with fail
              refine (AW.out _).mono ?_
              rintro e w9 ⟨rfl, h9⟩
              go_wp2
              go_ret
              exact ⟨rfl, hBc.trans h9⟩
          | true =>
            cases hfc : fitB m m lc with
            | false =>
              have Wb := hideP (fun u hu => Wb.out u hu hfb)
              go_wp2_with fail
              refine (mWholeF_no _ _ _ _ _ _ hfa).mono ?_
              rintro e wa ⟨rfl, ha⟩
              have ma := MBox.new wa 0 0 none 0 0 27
              have hBa : Bl w (wa.alloc (.cells #[.int .i64 0, .int .i64 0, .slice none 0 0] 27)) := ha.alloc _
              go_wp2_with fail
              refine (Wb.out _ hBa).mono ?_
              rintro e wb ⟨qb, kb, rfl, hx, hb⟩
              have HXb := hideP hx
              clear hx
              have mb := MBox.new wb m m qb lb kb 27
              have hBb : Bl w (wb.alloc (.cells #[.int .i64 m, .int .i64 m, .slice qb lb kb] 27)) := (hBa.trans hb).alloc _
              go_wp2_with fail
              refine (mWholeF_no _ _ _ _ _ _ hfc).mono ?_
              rintro e wc ⟨rfl, hc⟩
              have mc := MBox.new wc 0 0 none 0 0 27
              have hBc : Bl w (wc.alloc (.cells #[.int .i64 0, .int .i64 0, .slice none 0 0] 27)) := (hBb.trans hc).alloc _
              go_wp2_with fail
              refine (AW.out _).mono ?_
              rintro e w9 ⟨rfl, h9⟩
              go_wp2
              go_ret
              exact ⟨rfl, hBc.trans h9⟩
            | true =>
              have Wb := hideP (fun u hu => Wb.out u hu hfb)
              have Wc := hideP (fun u hu => Wc.out u hu hfc)
              go_wp2_with fail
              refine (mWholeF_no _ _ _ _ _ _ hfa).mono ?_
              rintro e wa ⟨rfl, ha⟩
              have ma := MBox.new wa 0 0 none 0 0 27
              have hBa : Bl w (wa.alloc (.cells #[.int .i64 0, .int .i64 0, .slice none 0 0] 27)) := ha.alloc _
              go_wp2_with fail
              refine (Wb.out _ hBa).mono ?_
              rintro e wb ⟨qb, kb, rfl, hx, hb⟩
              have HXb := hideP hx
              clear hx
              have mb := MBox.new wb m m qb lb kb 27
              have hBb : Bl w (wb.alloc (.cells #[.int .i64 m, .int .i64 m, .slice qb lb kb] 27)) := (hBa.trans hb).alloc _
              go_wp2_with fail
              refine (Wc.out _ hBb).mono ?_
              rintro e wc ⟨qc, kc, rfl, hx, hc⟩
              have HXc := hideP hx
              clear hx
              have mc := MBox.new wc m m qc lc kc 27
              have hBc : Bl w (wc.alloc (.cells #[.int .i64 m, .int .i64 m, .slice qc lc kc] 27)) := (hBb.trans hc).alloc _
              go_wp2_with fail
              refine (AW.out _).mono ?_
              rintro e w9 ⟨rfl, h9⟩
              go_wp2
              go_ret
              exact ⟨rfl, hBc.trans h9⟩
        | true =>
          cases hfb : fitB m m lb with
          | false =>
            cases hfc : fitB m m lc with
            | false =>
              have Wa := hideP (fun u hu => Wa.out u hu hfa)
              go_wp2_with fail
              refine (Wa.out _ (Bl.refl _)).mono ?_
              rintro e wa ⟨qa, ka, rfl, hx, ha⟩
              have HXa := hideP hx
              clear hx
              have ma := MBox.new wa m m qa la ka 27
              have hBa : Bl w (wa.alloc (.cells #[.int .i64 m, .int .i64 m, .slice qa la ka] 27)) := ha.alloc _
              go_wp2_with fail
              refine (mWholeF_no _ _ _ _ _ _ hfb).mono ?_
              rintro e wb ⟨rfl, hb⟩
              have mb := MBox.new wb 0 0 none 0 0 27
              have hBb : Bl w (wb.alloc (.cells #[.int .i64 0, .int .i64 0, .slice none 0 0] 27)) := (hBa.trans hb).alloc _
              go_wp2_with fail
              refine (mWholeF_no _ _ _ _ _ _ hfc).mono ?_
              rintro e wc ⟨rfl, hc⟩
              have mc := MBox.new wc 0 0 none 0 0 27
              have hBc : Bl w (wc.alloc (.cells #[.int .i64 0, .int .i64 0, .slice none 0 0] 27)) := (hBb.trans hc).alloc _
              go_wp2_with fail
              refine (AW.out _).mono ?_
              rintro e w9 ⟨rfl, h9⟩
              go_wp2
              go_ret
              exact ⟨rfl, hBc.trans h9⟩
            | true =>
              have Wa := hideP (fun u hu => Wa.out u hu hfa)
              have Wc := hideP (fun u hu => Wc.out u hu hfc)
              go_wp2_with fail
              refine (Wa.out _ (Bl.refl _)).mono ?_
              rintro e wa ⟨qa, ka, rfl, hx, ha⟩
              have HXa := hideP hx
              clear hx
              have ma := MBox.new wa m m qa la ka 27
              have hBa : Bl w (wa.alloc (.cells #[.int .i64 m, .int .i64 m, .slice qa la ka] 27)) := ha.alloc _
              go_wp2_with fail
              refine (mWholeF_no _ _ _ _ _ _ hfb).mono ?_
              rintro e wb ⟨rfl, hb⟩
              have mb := MBox.new wb 0 0 none 0 0 27
              have hBb : Bl w (wb.alloc (.cells #[.int .i64 0, .int .i64 0, .slice none 0 0] 27)) := (hBa.trans hb).alloc _
              go_wp2_with fail
              refine (Wc.out _ hBb).mono ?_
              rintro e wc ⟨qc, kc, rfl, hx, hc⟩
              have HXc := hideP hx
              clear hx
              have mc := MBox.new wc m m qc lc kc 27
              have hBc : Bl w (wc.alloc (.cells #[.int .i64 m, .int .i64 m, .slice qc lc kc] 27)) := (hBb.trans hc).alloc _
              go_wp2_with fail
              refine (AW.out _).mono ?_
              rintro e w9 ⟨rfl, h9⟩
              go_wp2
              go_ret
              exact ⟨rfl, hBc.trans h9⟩
          | true =>
            cases hfc : fitB m m lc with
            | false =>
              have Wa := hideP (fun u hu => Wa.out u hu hfa)
              have Wb := hideP (fun u hu => Wb.out u hu hfb)
              go_wp2_with fail
              refine (Wa.out _ (Bl.refl _)).mono ?_
              rintro e wa ⟨qa, ka, rfl, hx, ha⟩
              have HXa := hideP hx
              clear hx
              have ma := MBox.new wa m m qa la ka 27
              have hBa : Bl w (wa.alloc (.cells #[.int .i64 m, .int .i64 m, .slice qa la ka] 27)) := ha.alloc _
              go_wp2_with fail
              refine (Wb.out _ hBa).mono ?_
              rintro e wb ⟨qb, kb, rfl, hx, hb⟩
              have HXb := hideP hx
              clear hx
              have mb := MBox.new wb m m qb lb kb 27
              have hBb : Bl w (wb.alloc (.cells #[.int .i64 m, .int .i64 m, .slice qb lb kb] 27)) := (hBa.trans hb).alloc _
              go_wp2_with fail
              refine (mWholeF_no _ _ _ _ _ _ hfc).mono ?_
              rintro e wc ⟨rfl, hc⟩
              have mc := MBox.new wc 0 0 none 0 0 27
              have hBc : Bl w (wc.alloc (.cells #[.int .i64 0, .int .i64 0, .slice none 0 0] 27)) := (hBb.trans hc).alloc _
              go_wp2_with fail
              refine (AW.out _).mono ?_
              rintro e w9 ⟨rfl, h9⟩
              go_wp2
              go_ret
              exact ⟨rfl, hBc.trans h9⟩
            | true =>
              have Wa := hideP (fun u hu => Wa.out u hu hfa)
              have Wb := hideP (fun u hu => Wb.out u hu hfb)
              have Wc := hideP (fun u hu => Wc.out u hu hfc)
              obtain ⟨m1, m2, e1, e2, hd, hna⟩ := fitB_nat hfa
              obtain rfl : m = m1 := by omega
              skip
              have hla : la = m * m := by obtain ⟨R, C, e1, e2, _, h⟩ := fitB_nat hfa; rw [h, show R = m by omega, show C = m by omega]
              have hlb : lb = m * m := by obtain ⟨R, C, e1, e2, _, h⟩ := fitB_nat hfb; rw [h, show R = m by omega, show C = m by omega]
              have hlc : lc = m * m := by obtain ⟨R, C, e1, e2, _, h⟩ := fitB_nat hfc; rw [h, show R = m by omega, show C = m by omega]
              have sa : Sm2 100 m m (ofL m xa) := ofL_sml (by rw [← HLa.out]; exact hla) Sa.out
              have sb : Sm2 100 m m (ofL m xb) := ofL_sml (by rw [← HLb.out]; exact hlb) Sb.out
              have sc : Sm2 100 m m (ofL m xc) := ofL_sml (by rw [← HLc.out]; exact hlc) Sc.out
              have hEQ := hideP hla
              have eb : la = lb := by omega
              have ec : la = lc := by omega
              clear hlb hlc
              subst eb
              subst ec
              obtain ⟨E, hE⟩ : ∃ E, E = m + m := ⟨_, rfl⟩
              obtain ⟨N, hN⟩ : ∃ N, N = m * E := ⟨_, rfl⟩
              have hm4 : m ≤ 4 := by omega
              have syz := hideP (sm2_add sb sc)
              have sxy := hideP (sm2_le (sm2_mul (by omega) (by omega) sa sb) (show 100 * 100 * (m : Int) ≤ 40000 by omega))
              have sxz := hideP (sm2_le (sm2_mul (by omega) (by omega) sa sc) (show 100 * 100 * (m : Int) ≤ 40000 by omega))
              have sbe := hideP (sm2_beside sb sc)
              have SA := hideP sa
              have SB := hideP sb
              have SC := hideP sc
              have HE := hideP hE
              have HN := hideP hN
              have sbE : Sm2 100 m E (besideM m (ofL m xb) (ofL m xc)) := by rw [hE]; exact sm2_beside sb sc
              have SBE := hideP sbE
              clear sa sb sc sbE hla hE hN hna hd e1 e2 sbe
              generalize ofL m xa = fa at *
              generalize ofL m xb = fb at *
              generalize ofL m xc = fc at *
              go_wp2_with fail
              refine (Wa.out _ (Bl.refl _)).mono ?_
              rintro e wa ⟨qa, ka, rfl, hx, ha⟩
              have HXa := hideP hx
              clear hx
              have ma := MBox.new wa m m qa la ka 27
              have hBa : Bl w (wa.alloc (.cells #[.int .i64 m, .int .i64 m, .slice qa la ka] 27)) := ha.alloc _
              go_wp2_with fail
              refine (Wb.out _ hBa).mono ?_
              rintro e wb ⟨qb, kb, rfl, hx, hb⟩
              have HXb := hideP hx
              clear hx
              have mb := MBox.new wb m m qb la kb 27
              have hBb : Bl w (wb.alloc (.cells #[.int .i64 m, .int .i64 m, .slice qb la kb] 27)) := (hBa.trans hb).alloc _
              go_wp2_with fail
              refine (Wc.out _ hBb).mono ?_
              rintro e wc ⟨qc, kc, rfl, hx, hc⟩
              have HXc := hideP hx
              clear hx
              have mc := MBox.new wc m m qc la kc 27
              have hBc : Bl w (wc.alloc (.cells #[.int .i64 m, .int .i64 m, .slice qc la kc] 27)) := (hBb.trans hc).alloc _
              have hE16 : E ≤ 16 := by have := HE.out; omega
              have Ta_b : Bl (wa.alloc _) wb := hb
              have Tb_c : Bl (wb.alloc _) wc := hc
              have Ub_c : Bl wb wc := ((Bl.refl _).alloc _).trans Tb_c
              have Ta_c := Ta_b.trans Ub_c
              have Ua_c : Bl wa wc := ((Bl.refl _).alloc _).trans Ta_c
              have hBw : Bl w wc := hBb.trans hc
              have Ma := ma
              have Mb := mb
              have Mc := mc
              clear ma mb mc
              obtain ⟨x00, x01, x02, _, _, _, xl0⟩ := Mb.later Tb_c
              go_wp2_with fail
              refine (add6_any (A := 100) (B := 100) m m qb qc la kb kc _ _ _ (HXb.out.later (Ub_c.alloc _)) (HXc.out.later ((Bl.refl _).alloc _)) SB.out SC.out (by omega) (by omega)).mono ?_
              rintro e wyz ⟨qyz, kyz, rfl, hx, hyz⟩
              have HXyz := hideP hx
              clear hx
              clear x00 x01 x02 xl0
              have Myz := MBox.new wyz m m qyz la kyz 27
              have Byz : Bl wc wyz := ((Bl.refl _).alloc _).trans hyz
              have Ta_yz := Ta_c.trans Byz
              have Ua_yz : Bl wa wyz := ((Bl.refl _).alloc _).trans Ta_yz
              have Tb_yz := Tb_c.trans Byz
              have Ub_yz : Bl wb wyz := ((Bl.refl _).alloc _).trans Tb_yz
              have Tc_yz : Bl (wc.alloc _) wyz := hyz
              have Uc_yz : Bl wc wyz := ((Bl.refl _).alloc _).trans Tc_yz
              obtain ⟨x00, x01, x02, _, _, _, xl0⟩ := Ma.later Ta_yz
              go_wp2_with fail
              refine (mul6_any (A := 100) (B := 100 + 100) m m m qa la ka _ qyz la kyz _ la _ (HXa.out.later (Ua_yz.alloc _)) (HXyz.out.later ((Bl.refl _).alloc _)) hEQ.out SA.out syz.out (by omega) (by omega) (by omega)).mono ?_
              rintro e wle ⟨qle, kle, rfl, hx, hle⟩
              have HXle := hideP hx
              clear hx
              clear x00 x01 x02 xl0
              have Mle := MBox.new wle m m qle la kle 27
              have Ble : Bl wyz wle := ((Bl.refl _).alloc _).trans hle
              have Ta_le := Ta_yz.trans Ble
              have Ua_le : Bl wa wle := ((Bl.refl _).alloc _).trans Ta_le
              have Tb_le := Tb_yz.trans Ble
              have Ub_le : Bl wb wle := ((Bl.refl _).alloc _).trans Tb_le
              have Tc_le := Tc_yz.trans Ble
              have Uc_le : Bl wc wle := ((Bl.refl _).alloc _).trans Tc_le
              have Tyz_le : Bl (wyz.alloc _) wle := hle
              have Uyz_le : Bl wyz wle := ((Bl.refl _).alloc _).trans Tyz_le
              obtain ⟨x00, x01, x02, _, _, _, xl0⟩ := Ma.later Ta_le
              obtain ⟨x10, x11, x12, _, _, _, xl1⟩ := Mb.later Tb_le
              go_wp2_with fail
              refine (mul6_any (A := 100) (B := 100) m m m qa la ka _ qb la kb _ la _ (HXa.out.later (Ua_le.alloc _)) (HXb.out.later (Ub_le.alloc _)) hEQ.out SA.out SB.out (by omega) (by omega) (by omega)).mono ?_
              rintro e wxy ⟨qxy, kxy, rfl, hx, hxy⟩
              have HXxy := hideP hx
              clear hx
              clear x00 x01 x02 xl0
              clear x10 x11 x12 xl1
              have Mxy := MBox.new wxy m m qxy la kxy 27
              have Bxy : Bl wle wxy := ((Bl.refl _).alloc _).trans hxy
              have Ta_xy := Ta_le.trans Bxy
              have Ua_xy : Bl wa wxy := ((Bl.refl _).alloc _).trans Ta_xy
              have Tb_xy := Tb_le.trans Bxy
              have Ub_xy : Bl wb wxy := ((Bl.refl _).alloc _).trans Tb_xy
              have Tc_xy := Tc_le.trans Bxy
              have Uc_xy : Bl wc wxy := ((Bl.refl _).alloc _).trans Tc_xy
              have Tyz_xy := Tyz_le.trans Bxy
              have Uyz_xy : Bl wyz wxy := ((Bl.refl _).alloc _).trans Tyz_xy
              have Tle_xy : Bl (wle.alloc _) wxy := hxy
              have Ule_xy : Bl wle wxy := ((Bl.refl _).alloc _).trans Tle_xy
              obtain ⟨x00, x01, x02, _, _, _, xl0⟩ := Ma.later Ta_xy
              obtain ⟨x10, x11, x12, _, _, _, xl1⟩ := Mc.later Tc_xy
              go_wp2_with fail
              refine (mul6_any (A := 100) (B := 100) m m m qa la ka _ qc la kc _ la _ (HXa.out.later (Ua_xy.alloc _)) (HXc.out.later (Uc_xy.alloc _)) hEQ.out SA.out SC.out (by omega) (by omega) (by omega)).mono ?_
              rintro e wxz ⟨qxz, kxz, rfl, hx, hxz⟩
              have HXxz := hideP hx
              clear hx
              clear x00 x01 x02 xl0
              clear x10 x11 x12 xl1
              have Mxz := MBox.new wxz m m qxz la kxz 27
              have Bxz : Bl wxy wxz := ((Bl.refl _).alloc _).trans hxz
              have Ta_xz := Ta_xy.trans Bxz
              have Ua_xz : Bl wa wxz := ((Bl.refl _).alloc _).trans Ta_xz
              have Tb_xz := Tb_xy.trans Bxz
              have Ub_xz : Bl wb wxz := ((Bl.refl _).alloc _).trans Tb_xz
              have Tc_xz := Tc_xy.trans Bxz
              have Uc_xz : Bl wc wxz := ((Bl.refl _).alloc _).trans Tc_xz
              have Tyz_xz := Tyz_xy.trans Bxz
              have Uyz_xz : Bl wyz wxz := ((Bl.refl _).alloc _).trans Tyz_xz
              have Tle_xz := Tle_xy.trans Bxz
              have Ule_xz : Bl wle wxz := ((Bl.refl _).alloc _).trans Tle_xz
              have Txy_xz : Bl (wxy.alloc _) wxz := hxz
              have Uxy_xz : Bl wxy wxz := ((Bl.refl _).alloc _).trans Txy_xz
              obtain ⟨x00, x01, x02, _, _, _, xl0⟩ := Mxy.later Txy_xz
              go_wp2_with fail
              refine (add6_any (A := 40000) (B := 40000) m m qxy qxz la kxy kxz _ _ _ (HXxy.out.later (Uxy_xz.alloc _)) (HXxz.out.later ((Bl.refl _).alloc _)) sxy.out sxz.out (by omega) (by omega)).mono ?_
              rintro e wri ⟨qri, kri, rfl, hx, hri⟩
              have HXri := hideP hx
              clear hx
              clear x00 x01 x02 xl0
              have Mri := MBox.new wri m m qri la kri 27
              have Bri : Bl wxz wri := ((Bl.refl _).alloc _).trans hri
              have Ta_ri := Ta_xz.trans Bri
              have Ua_ri : Bl wa wri := ((Bl.refl _).alloc _).trans Ta_ri
              have Tb_ri := Tb_xz.trans Bri
              have Ub_ri : Bl wb wri := ((Bl.refl _).alloc _).trans Tb_ri
              have Tc_ri := Tc_xz.trans Bri
              have Uc_ri : Bl wc wri := ((Bl.refl _).alloc _).trans Tc_ri
              have Tyz_ri := Tyz_xz.trans Bri
              have Uyz_ri : Bl wyz wri := ((Bl.refl _).alloc _).trans Tyz_ri
              have Tle_ri := Tle_xz.trans Bri
              have Ule_ri : Bl wle wri := ((Bl.refl _).alloc _).trans Tle_ri
              have Txy_ri := Txy_xz.trans Bri
              have Uxy_ri : Bl wxy wri := ((Bl.refl _).alloc _).trans Txy_ri
              have Txz_ri : Bl (wxz.alloc _) wri := hri
              have Uxz_ri : Bl wxz wri := ((Bl.refl _).alloc _).trans Txz_ri
              obtain ⟨x00, x01, x02, _, _, _, xl0⟩ := Mb.later Tb_ri
              obtain ⟨x10, x11, x12, _, _, _, xl1⟩ := Mc.later Tc_ri
              go_wp2_with fail
              refine (beside6_any m m m qb la kb _ qc la kc _ E N _ (HXb.out.later (Ub_ri.alloc _)) (HXc.out.later (Uc_ri.alloc _)) HE.out hE16 HN.out).mono ?_
              rintro e wbe ⟨qbe, kbe, rfl, hx, hbe⟩
              have HXbe := hideP hx
              clear hx
              clear x00 x01 x02 xl0
              clear x10 x11 x12 xl1
              have Mbe := MBox.new wbe m E qbe N kbe 27
              have Bbe : Bl wri wbe := ((Bl.refl _).alloc _).trans hbe
              have Ta_be := Ta_ri.trans Bbe
              have Ua_be : Bl wa wbe := ((Bl.refl _).alloc _).trans Ta_be
              have Tb_be := Tb_ri.trans Bbe
              have Ub_be : Bl wb wbe := ((Bl.refl _).alloc _).trans Tb_be
              have Tc_be := Tc_ri.trans Bbe
              have Uc_be : Bl wc wbe := ((Bl.refl _).alloc _).trans Tc_be
              have Tyz_be := Tyz_ri.trans Bbe
              have Uyz_be : Bl wyz wbe := ((Bl.refl _).alloc _).trans Tyz_be
              have Tle_be := Tle_ri.trans Bbe
              have Ule_be : Bl wle wbe := ((Bl.refl _).alloc _).trans Tle_be
              have Txy_be := Txy_ri.trans Bbe
              have Uxy_be : Bl wxy wbe := ((Bl.refl _).alloc _).trans Txy_be
              have Txz_be := Txz_ri.trans Bbe
              have Uxz_be : Bl wxz wbe := ((Bl.refl _).alloc _).trans Txz_be
              have Tri_be : Bl (wri.alloc _) wbe := hbe
              have Uri_be : Bl wri wbe := ((Bl.refl _).alloc _).trans Tri_be
              obtain ⟨x00, x01, x02, _, _, _, xl0⟩ := Ma.later Ta_be
              go_wp2_with fail
              refine (mul6_any (A := 100) (B := 100) m m E qa la ka _ qbe N kbe _ N _ (HXa.out.later (Ua_be.alloc _)) (HXbe.out.later ((Bl.refl _).alloc _)) HN.out SA.out SBE.out (by omega) (by omega) (by omega)).mono ?_
              rintro e won ⟨qon, kon, rfl, hx, hon⟩
              have HXon := hideP hx
              clear hx
              clear x00 x01 x02 xl0
              have Mon := MBox.new won m E qon N kon 27
              have Bon : Bl wbe won := ((Bl.refl _).alloc _).trans hon
              have Ta_on := Ta_be.trans Bon
              have Ua_on : Bl wa won := ((Bl.refl _).alloc _).trans Ta_on
              have Tb_on := Tb_be.trans Bon
              have Ub_on : Bl wb won := ((Bl.refl _).alloc _).trans Tb_on
              have Tc_on := Tc_be.trans Bon
              have Uc_on : Bl wc won := ((Bl.refl _).alloc _).trans Tc_on
              have Tyz_on := Tyz_be.trans Bon
              have Uyz_on : Bl wyz won := ((Bl.refl _).alloc _).trans Tyz_on
              have Tle_on := Tle_be.trans Bon
              have Ule_on : Bl wle won := ((Bl.refl _).alloc _).trans Tle_on
              have Txy_on := Txy_be.trans Bon
              have Uxy_on : Bl wxy won := ((Bl.refl _).alloc _).trans Txy_on
              have Txz_on := Txz_be.trans Bon
              have Uxz_on : Bl wxz won := ((Bl.refl _).alloc _).trans Txz_on
              have Tri_on := Tri_be.trans Bon
              have Uri_on : Bl wri won := ((Bl.refl _).alloc _).trans Tri_on
              have Tbe_on : Bl (wbe.alloc _) won := hon
              have Ube_on : Bl wbe won := ((Bl.refl _).alloc _).trans Tbe_on
              obtain ⟨x00, x01, x02, _, _, _, xl0⟩ := Mxy.later Txy_on
              obtain ⟨x10, x11, x12, _, _, _, xl1⟩ := Mxz.later Txz_on
              go_wp2_with fail
              refine (beside6_any m m m qxy la kxy _ qxz la kxz _ E N _ (HXxy.out.later (Uxy_on.alloc _)) (HXxz.out.later (Uxz_on.alloc _)) HE.out hE16 HN.out).mono ?_
              rintro e wtw ⟨qtw, ktw, rfl, hx, htw⟩
              have HXtw := hideP hx
              clear hx
              clear x00 x01 x02 xl0
              clear x10 x11 x12 xl1
              have Mtw := MBox.new wtw m E qtw N ktw 27
              have Btw : Bl won wtw := ((Bl.refl _).alloc _).trans htw
              have Ta_tw := Ta_on.trans Btw
              have Ua_tw : Bl wa wtw := ((Bl.refl _).alloc _).trans Ta_tw
              have Tb_tw := Tb_on.trans Btw
              have Ub_tw : Bl wb wtw := ((Bl.refl _).alloc _).trans Tb_tw
              have Tc_tw := Tc_on.trans Btw
              have Uc_tw : Bl wc wtw := ((Bl.refl _).alloc _).trans Tc_tw
              have Tyz_tw := Tyz_on.trans Btw
              have Uyz_tw : Bl wyz wtw := ((Bl.refl _).alloc _).trans Tyz_tw
              have Tle_tw := Tle_on.trans Btw
              have Ule_tw : Bl wle wtw := ((Bl.refl _).alloc _).trans Tle_tw
              have Txy_tw := Txy_on.trans Btw
              have Uxy_tw : Bl wxy wtw := ((Bl.refl _).alloc _).trans Txy_tw
              have Txz_tw := Txz_on.trans Btw
              have Uxz_tw : Bl wxz wtw := ((Bl.refl _).alloc _).trans Txz_tw
              have Tri_tw := Tri_on.trans Btw
              have Uri_tw : Bl wri wtw := ((Bl.refl _).alloc _).trans Tri_tw
              have Tbe_tw := Tbe_on.trans Btw
              have Ube_tw : Bl wbe wtw := ((Bl.refl _).alloc _).trans Tbe_tw
              have Ton_tw : Bl (won.alloc _) wtw := htw
              have Uon_tw : Bl won wtw := ((Bl.refl _).alloc _).trans Ton_tw
              obtain ⟨x00, x01, x02, _, _, _, xl0⟩ := Mle.later Tle_tw
              obtain ⟨x10, x11, x12, _, _, _, xl1⟩ := Mri.later Tri_tw
              go_wp2_with fail
              refine (alike6_any m m qle qri la kle kri _ _ _ (HXle.out.later (Ule_tw.alloc _)) (HXri.out.later (Uri_tw.alloc _)) (fun i k _ _ => mulI_add m fa fb fc i k)).mono ?_
              rintro e w8 ⟨rfl, h8⟩
              clear x00 x01 x02 x10 x11 x12 xl0 xl1
              obtain ⟨x00, x01, x02, _, _, _, xl0⟩ := (Mon.later Ton_tw).later (((Bl.refl _).alloc _).trans h8)
              obtain ⟨x10, x11, x12, _, _, _, xl1⟩ := Mtw.later h8
              go_wp2_with fail
              refine (alike6_any m E qon qtw N kon ktw _ _ _ (HXon.out.later ((Uon_tw.alloc _).trans h8)) (HXtw.out.later (((Bl.refl _).alloc _).trans h8)) (fun i k _ _ => mulI_beside m m fa fb fc i k)).mono ?_
              rintro e w9' ⟨rfl, h9'⟩
              clear x00 x01 x02 x10 x11 x12 xl0 xl1
              have hB : Bl w w9' := (((hBw.trans Uc_tw).alloc _).trans h8).trans h9'
              go_wp2_with fail
              refine (AW.out _).mono ?_
              rintro e w9 ⟨rfl, h9⟩
              go_wp2
              go_ret
              exact ⟨rfl, hB.trans h9⟩
end Go.Proofs.Ytokbmbgiimbkpaa
