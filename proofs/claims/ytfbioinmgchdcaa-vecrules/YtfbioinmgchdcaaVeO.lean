/- The walk of VecRules. Written by genVr.py. -/
import Derived.Test.YtfbioinmgchdcaaVeJ
import Derived.Deep.RegionHeld3
import Derived.Deep.RegionWith
namespace Go.Proofs.Ytfbioinmgchdcaa
open Go.RowKit
set_option linter.unusedSimpArgs false
set_option linter.unusedVariables false

/-- What is told of three rows of few whole numbers. -/
structure RuV (V : World) (X Y Z : Value) (la : Nat) (n : Fr) (r1 r2 r3 r4 r5 r6 : Fr) (xs ys zs : List Int) (b : Int) : Prop where
  dxy : ∀ u, Bl V u → Calls Try.prog 16 #[X, Y] u fun e w' => e = .returned (frV r1) ∧ Bl u w'
  dyx : ∀ u, Bl V u → Calls Try.prog 16 #[Y, X] u fun e w' => e = .returned (frV r1) ∧ Bl u w'
  dxz : ∀ u, Bl V u → Calls Try.prog 16 #[X, Z] u fun e w' => e = .returned (frV r3) ∧ Bl u w'
  dyz : ∀ u, Bl V u → Calls Try.prog 16 #[Y, Z] u fun e w' => e = .returned (frV r4) ∧ Bl u w'
  add : ∀ u, Bl V u → Calls Try.prog 12 #[X, Y] u fun e w' => ∃ p c, e = .returned (.slice p la c) ∧ (∀ v, Bl w' v → Calls Try.prog 16 #[.slice p la c, Z] v fun e w'' => e = .returned (frV r2) ∧ Bl v w'') ∧ Bl u w'
  sub : ∀ u, Bl V u → Calls Try.prog 13 #[X, Y] u fun e w' => ∃ p c, e = .returned (.slice p la c) ∧ (∀ v, Bl w' v → Calls Try.prog 16 #[.slice p la c, Z] v fun e w'' => e = .returned (frV r5) ∧ Bl v w'') ∧ Bl u w'
  scl : ∀ u, Bl V u → Calls Try.prog 14 #[X, frV n] u fun e w' => ∃ p c, e = .returned (.slice p la c) ∧ (∀ v, Bl w' v → Calls Try.prog 16 #[.slice p la c, Y] v fun e w'' => e = .returned (frV r6) ∧ Bl v w'') ∧ Bl u w'
  fadd : ∀ u, Calls Try.prog 26 #[frV r3, frV r4] u fun e w' => e = .returned (frV r2) ∧ Bl u w'
  fsub : ∀ u, Calls Try.prog 27 #[frV r3, frV r4] u fun e w' => e = .returned (frV r5) ∧ Bl u w'
  fmul : ∀ u, Calls Try.prog 28 #[frV r1, frV n] u fun e w' => e = .returned (frV r6) ∧ Bl u w'
theorem ruV {V : World} {X Y Z : Value} {la : Nat} {xs ys zs : List Int} {b : Int} (hX : RwI V X xs) (hY : RwI V Y ys) (hZ : RwI V Z zs) (sx : Sml 1000 xs) (sy : Sml 1000 ys) (sz : Sml 1000 zs) (hb : -10 ≤ b ∧ b ≤ 10)
    (lx : xs.length = la) (ly : ys.length = la) (lz : zs.length = la) (hl : la ≤ 20) :
    RuV V X Y Z la (itF b) (itF (dotI xs ys)) (itF (dotI xs zs + dotI ys zs)) (itF (dotI xs zs)) (itF (dotI ys zs)) (itF (dotI xs zs - dotI ys zs)) (itF (dotI xs ys * b)) xs ys zs b := by
  have b1 := dotI_bound sx sy (by omega) (by omega) (by omega)
  have b2 := dotI_bound sx sz (by omega) (by omega) (by omega)
  have b3 := dotI_bound sy sz (by omega) (by omega) (by omega)
  have b4 := mul_bound (A := 1000 * 1000 * 20) (B := 10) b1 hb
  refine ⟨fun u hu => ?_, fun u hu => ?_, fun u hu => ?_, fun u hu => ?_, fun u hu => ?_, fun u hu => ?_, fun u hu => ?_, fun u => ?_, fun u => ?_, fun u => ?_⟩
  · exact dot_few (A := 1000) (B := 1000) _ _ xs ys u (hX.later hu) (hY.later hu) sx sy (by omega) (by omega) (by omega) (by omega) (by omega)
  · rw [dotI_comm xs ys]
    exact dot_few (A := 1000) (B := 1000) _ _ ys xs u (hY.later hu) (hX.later hu) sy sx (by omega) (by omega) (by omega) (by omega) (by omega)
  · exact dot_few (A := 1000) (B := 1000) _ _ xs zs u (hX.later hu) (hZ.later hu) sx sz (by omega) (by omega) (by omega) (by omega) (by omega)
  · exact dot_few (A := 1000) (B := 1000) _ _ ys zs u (hY.later hu) (hZ.later hu) sy sz (by omega) (by omega) (by omega) (by omega) (by omega)
  · refine (add_few _ _ xs ys u (hX.later hu) (hY.later hu) sx sy (by omega) (by omega)).mono ?_
    rintro e w' ⟨p, c, rfl, ⟨hr, _⟩, hbl⟩
    rw [show min xs.length ys.length = la by omega] at hr ⊢
    refine ⟨p, c, rfl, fun v hv => ?_, hbl⟩
    rw [← dotI_add xs ys zs (by omega)]
    exact dot_few (A := 1000 + 1000) (B := 1000) _ _ _ zs v (hr.later hv) (hZ.later (hu.trans (hbl.trans hv))) (adds_sml sx sy) sz (by omega) (by omega) (by omega) (by simp; omega) (by omega)
  · refine (sub_few _ _ xs ys u (hX.later hu) (hY.later hu) sx sy (by omega) (by omega)).mono ?_
    rintro e w' ⟨p, c, rfl, ⟨hr, _⟩, hbl⟩
    rw [show min xs.length ys.length = la by omega] at hr ⊢
    refine ⟨p, c, rfl, fun v hv => ?_, hbl⟩
    rw [← dotI_sub xs ys zs (by omega)]
    exact dot_few (A := 1000 + 1000) (B := 1000) _ _ _ zs v (hr.later hv) (hZ.later (hu.trans (hbl.trans hv))) (subs_sml sx sy) sz (by omega) (by omega) (by omega) (by simp; omega) (by omega)
  · refine (scale_few _ xs b u (hX.later hu) sx (by omega) (by omega)).mono ?_
    rintro e w' ⟨p, c, rfl, ⟨hr, _⟩, hbl⟩
    rw [lx] at hr ⊢
    refine ⟨p, c, rfl, fun v hv => ?_, hbl⟩
    rw [← dotI_scale b xs ys]
    exact dot_few (A := 1000 * 10) (B := 1000) _ _ _ ys v (hr.later hv) (hY.later (hu.trans (hbl.trans hv))) (scale_sml hb sx) sy (by omega) (by omega) (by omega) (by simp; omega) (by omega)
  · rw [← add_it ⟨by omega, by omega⟩ ⟨by omega, by omega⟩ ⟨by omega, by omega⟩]
    exact radd_any _ _ u
  · rw [← sub_it ⟨by omega, by omega⟩ ⟨by omega, by omega⟩ ⟨by omega, by omega⟩]
    exact rsub_any _ _ u
  · rw [← mul_it ⟨by omega, by omega⟩ ⟨by omega, by omega⟩ ⟨by omega, by omega⟩]
    exact rmul_any _ _ u
set_option maxRecDepth 100000 in
set_option maxHeartbeats 8000000 in
theorem walk_VecRules (va : Value) (xs : List Int) (vb : Value) (ys : List Int) (vc : Value) (zs : List Int) (n : Int) (w : World) (ha : Rq 1 cI w va xs) (hb : Rq 1 cI w vb ys) (hc : Rq 1 cI w vc zs) :
    Calls Try.prog 7 #[va, vb, vc, .int .i64 n] w fun e w' => e = .returned (.bool true) ∧ Bl w w' := by
  have AW := hideP awake5_any
  have Fa := hideP (few_any va xs w ha)
  have Fb := hideP (few_any vb ys w hb)
  have Fc := hideP (few_any vc zs w hc)
  obtain ⟨pa, ka, rfl, ia, _⟩ := ha.cut
  obtain ⟨pb, kb, rfl, ib, _⟩ := hb.cut
  obtain ⟨pc, kc, rfl, ic, _⟩ := hc.cut
  obtain ⟨la, ea⟩ : ∃ l, xs.length = l := ⟨_, rfl⟩
  rw [ea] at ha ia Fa ⊢
  have Ha := hideP ha
  have La := hideP ea
  clear ea ha
  obtain ⟨lb, eb⟩ : ∃ l, ys.length = l := ⟨_, rfl⟩
  rw [eb] at hb ib Fb ⊢
  have Hb := hideP hb
  have Lb := hideP eb
  clear eb hb
  obtain ⟨lc, ec⟩ : ∃ l, zs.length = l := ⟨_, rfl⟩
  rw [ec] at hc ic Fc ⊢
  have Hc := hideP hc
  have Lc := hideP ec
  clear ec hc
  go_enter Try.func7, Try.ntmps7
  go_wp2_with fail
  refine Fa.out.mono ?_
  rintro e wa ⟨b, rfl, hb, rfl⟩
  clear Fa
  cases b
  · clear hb
    go_wp2_with fail
    refine (AW.out _).mono ?_
    rintro e w9 ⟨rfl, h9⟩
    go_wp2
    go_ret
    exact ⟨rfl, h9⟩
  have Sa := hideP (hb rfl)
  clear hb
  go_wp2_with fail
  refine Fb.out.mono ?_
  rintro e wb ⟨b, rfl, hb, rfl⟩
  clear Fb
  cases b
  · clear hb
    go_wp2_with fail
    refine (AW.out _).mono ?_
    rintro e w9 ⟨rfl, h9⟩
    go_wp2
    go_ret
    exact ⟨rfl, h9⟩
  have Sb := hideP (hb rfl)
  clear hb
  go_wp2_with fail
  refine Fc.out.mono ?_
  rintro e wc ⟨b, rfl, hb, rfl⟩
  clear Fc
  cases b
  · clear hb
    go_wp2_with fail
    refine (AW.out _).mono ?_
    rintro e w9 ⟨rfl, h9⟩
    go_wp2
    go_ret
    exact ⟨rfl, h9⟩
  have Sc := hideP (hb rfl)
  clear hb
  by_cases h1 : n < -10
  · skip
    go_wp2_with fail
    refine (AW.out _).mono ?_
    rintro e w9 ⟨rfl, h9⟩
    go_wp2
    go_ret
    exact ⟨rfl, h9⟩
  by_cases h2 : 10 < n
  · skip
    go_wp2_with fail
    refine (AW.out _).mono ?_
    rintro e w9 ⟨rfl, h9⟩
    go_wp2
    go_ret
    exact ⟨rfl, h9⟩
  rcases (by omega : la ≠ lb ∨ la = lb) with elb | elb
  · have bne : ((la : Int) != (lb : Int)) = true := by simp; omega
    clear elb
    go_wp2_with fail
    refine (AW.out _).mono ?_
    rintro e w9 ⟨rfl, h9⟩
    go_wp2
    go_ret
    exact ⟨rfl, h9⟩
  subst elb
  rcases (by omega : la ≠ lc ∨ la = lc) with elc | elc
  · have bne : ((la : Int) != (lc : Int)) = true := by simp; omega
    clear elc
    go_wp2_with fail
    refine (AW.out _).mono ?_
    rintro e w9 ⟨rfl, h9⟩
    go_wp2
    go_ret
    exact ⟨rfl, h9⟩
  subst elc
  have hla : la ≤ 20 := by have := Sa.out.1; have := La.out; omega
  go_wp2_with fail
  have WH := whole_few _ xs _ Ha.out Sa.out.2 (by have := Sa.out.1; omega)
  rw [La.out] at WH
  refine WH.mono ?_
  clear WH
  rintro e u1 ⟨qa, ca, rfl, ⟨ra, _⟩, g1⟩
  have Ra := hideP ra
  clear ra
  have hB1 : Bl wc u1 := g1
  go_wp2_with fail
  have WH := whole_few _ ys _ (Hb.out.later hB1) Sb.out.2 (by have := Sb.out.1; omega)
  rw [Lb.out] at WH
  refine WH.mono ?_
  clear WH
  rintro e u2 ⟨qb, cb, rfl, ⟨rb, _⟩, g2⟩
  have Rb := hideP rb
  clear rb
  have hB2 : Bl wc u2 := hB1.trans g2
  go_wp2_with fail
  have WH := whole_few _ zs _ (Hc.out.later hB2) Sc.out.2 (by have := Sc.out.1; omega)
  rw [Lc.out] at WH
  refine WH.mono ?_
  clear WH
  rintro e u3 ⟨qc, cc, rfl, ⟨rc, _⟩, g3⟩
  have Rc := hideP rc
  clear rc
  have hB3 : Bl wc u3 := hB2.trans g3
  go_wp2_with fail
  refine (new_few (n := n) ⟨by omega, by omega⟩ _).mono ?_
  rintro e u4 ⟨rfl, g4⟩
  go_wp2_with fail
  obtain ⟨V, hV⟩ : ∃ V, V = u4.alloc (.cells #[.int .i64 (itF n).n, .int .i64 (itF n).d, .bool (itF n).bad] 28) := ⟨_, rfl⟩
  rw [← hV]
  have bV : Bl u4 V := by rw [hV]; exact (Bl.refl _).alloc _
  have BX : FBox V u4.heap.size (itF n) := by rw [hV]; exact FBox.new u4 (itF n) _
  clear hV
  have hBV : Bl wc V := hB3.trans (g4.trans bV)
  have RU := hideP (ruV (Ra.out.later (g2.trans (g3.trans (g4.trans bV)))) (Rb.out.later (g3.trans (g4.trans bV))) (Rc.out.later (g4.trans bV)) Sa.out.2 Sb.out.2 Sc.out.2 (b := n) (by omega) La.out Lb.out Lc.out hla)
  have HBV := hideP hBV
  clear hB1 hB2 hB3 g1 g2 g3 g4 bV hBV h1 h2 hla
  generalize itF n = nf at *
  generalize itF (dotI xs ys) = r1 at *
  generalize itF (dotI xs zs + dotI ys zs) = r2 at *
  generalize itF (dotI xs zs) = r3 at *
  generalize itF (dotI ys zs) = r4 at *
  generalize itF (dotI xs zs - dotI ys zs) = r5 at *
  generalize itF (dotI xs ys * n) = r6 at *
  have EG := Try.frGuard
  have e1 := eql_selfV r1
  have e2 := eql_selfV r2
  have e5 := eql_selfV r5
  have e6 := eql_selfV r6
  have KP := hideP (fun (u : World) (hu : Bl V u) => (show u.cell? ⟨u4.heap.size, 0, none⟩ = some (.int .i64 nf.n) ∧ u.cell? ⟨u4.heap.size, 1, none⟩ = some (.int .i64 nf.d) ∧ u.cell? ⟨u4.heap.size, 2, none⟩ = some (.bool nf.bad) ∧ Bl V u from ⟨(BX.later hu).c0, (BX.later hu).c1, (BX.later hu).c2, hu⟩))
  clear BX
  go_region_held3 (fun w' => w'.cell? ⟨u4.heap.size, 0, none⟩ = some (.int .i64 nf.n) ∧ w'.cell? ⟨u4.heap.size, 1, none⟩ = some (.int .i64 nf.d) ∧ w'.cell? ⟨u4.heap.size, 2, none⟩ = some (.bool nf.bad) ∧ Bl V w') (exact KP.out _ (by repeat (first | exact Bl.refl _ | apply Bl.drew | (refine Bl.trans ?_ (by assumption)))))
    (first
      | (go_at_call_of 16 #[Value.slice qa la ca, Value.slice qb la cb]; refine (RU.out.dxy _ (by repeat (first | exact Bl.refl _ | apply Bl.drew | (refine Bl.trans ?_ (by assumption))))).mono ?_; rintro e w' ⟨rfl, _⟩)
      | (go_at_call_of 16 #[Value.slice qb la cb, Value.slice qa la ca]; refine (RU.out.dyx _ (by repeat (first | exact Bl.refl _ | apply Bl.drew | (refine Bl.trans ?_ (by assumption))))).mono ?_; rintro e w' ⟨rfl, _⟩)
      | (go_at_call_of 16 #[Value.slice qa la ca, Value.slice qc la cc]; refine (RU.out.dxz _ (by repeat (first | exact Bl.refl _ | apply Bl.drew | (refine Bl.trans ?_ (by assumption))))).mono ?_; rintro e w' ⟨rfl, _⟩)
      | (go_at_call_of 16 #[Value.slice qb la cb, Value.slice qc la cc]; refine (RU.out.dyz _ (by repeat (first | exact Bl.refl _ | apply Bl.drew | (refine Bl.trans ?_ (by assumption))))).mono ?_; rintro e w' ⟨rfl, _⟩)
      | (go_at_call_of 12 #[Value.slice qa la ca, Value.slice qb la cb]; refine (RU.out.add _ (by repeat (first | exact Bl.refl _ | apply Bl.drew | (refine Bl.trans ?_ (by assumption))))).mono ?_; rintro e w' ⟨padd, cadd, rfl, Dadd, _⟩; have Dadd := hideP Dadd)
      | (go_at_call_of 13 #[Value.slice qa la ca, Value.slice qb la cb]; refine (RU.out.sub _ (by repeat (first | exact Bl.refl _ | apply Bl.drew | (refine Bl.trans ?_ (by assumption))))).mono ?_; rintro e w' ⟨psub, csub, rfl, Dsub, _⟩; have Dsub := hideP Dsub)
      | (go_at_call_of 14 #[Value.slice qa la ca, Value.agg #[.int .i64 nf.n, .int .i64 nf.d, .bool nf.bad]]; refine (RU.out.scl _ (by repeat (first | exact Bl.refl _ | apply Bl.drew | (refine Bl.trans ?_ (by assumption))))).mono ?_; rintro e w' ⟨pscl, cscl, rfl, Dscl, _⟩; have Dscl := hideP Dscl)
      | (go_at_call_of 16 #[Value.slice padd la cadd, Value.slice qc la cc]; refine (Dadd.out _ (by repeat (first | exact Bl.refl _ | apply Bl.drew | (refine Bl.trans ?_ (by assumption))))).mono ?_; rintro e w' ⟨rfl, _⟩)
      | (go_at_call_of 16 #[Value.slice psub la csub, Value.slice qc la cc]; refine (Dsub.out _ (by repeat (first | exact Bl.refl _ | apply Bl.drew | (refine Bl.trans ?_ (by assumption))))).mono ?_; rintro e w' ⟨rfl, _⟩)
      | (go_at_call_of 16 #[Value.slice pscl la cscl, Value.slice qb la cb]; refine (Dscl.out _ (by repeat (first | exact Bl.refl _ | apply Bl.drew | (refine Bl.trans ?_ (by assumption))))).mono ?_; rintro e w' ⟨rfl, _⟩)
      | (go_at_call 26; refine (RU.out.fadd _).mono ?_; rintro e w' ⟨rfl, _⟩)
      | (go_at_call 27; refine (RU.out.fsub _).mono ?_; rintro e w' ⟨rfl, _⟩)
      | (go_at_call 28; refine (RU.out.fmul _).mono ?_; rintro e w' ⟨rfl, _⟩)
      | (go_at_call 10; refine (AW.out _).mono ?_; rintro e w' ⟨rfl, _⟩))
  rename_i hh
  obtain ⟨_, _, _, hB⟩ := hh
  go_wp2
  go_ret
  exact ⟨rfl, HBV.out.trans hB⟩
end Go.Proofs.Ytfbioinmgchdcaa
