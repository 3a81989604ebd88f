/- Contracts of joseph's shares, outer, rest, of fractions (layer 9). Written by genJo.py. -/
import Derived.Test.YtlbmkjicbkfmjaaJA
import Derived.Laws.EntriesVeiled
import Derived.Test.YtlbmkjicbkfmjaaHsM
/- mat's Mul, of fractions (layer 6). Written by genMa.py. -/
namespace Go.Proofs.Ytlbmkjicbkfmjaa
open Go.RowKit Go.Shelf
set_option linter.unusedSimpArgs false
set_option linter.unusedVariables false
attribute [local go_sem] Oper.semAt_some

/-- A product's number. -/
def mulMF (M : Nat) (f g : Nat → Nat → Fr) (i k : Nat) : Fr := dotF (rowM M f i) (colM M g k)
theorem own_blTF {w w' : World} {B n : Nat} {v : Value} {l : List Value} (h : w.ownsRow B 35 3 v n l) (k : Bl w w') : w'.ownsRow B 35 3 v n l := own_blF h k
set_option maxRecDepth 100000 in
set_option maxHeartbeats 4000000 in
theorem mMulF (R M D : Nat) (p : Option Addr) (n cap : Nat) (f : Nat → Nat → Fr) (q : Option Addr) (n2 cap2 : Nat) (g : Nat → Nat → Fr) (N : Nat) (w : World) (hx : Mx 3 cellsF w R M p n cap f) (hy : Mx 3 cellsF w M D q n2 cap2 g) (hN : N = R * D) :
    Calls Try.prog 55 #[mV R M p n cap, mV M D q n2 cap2] w fun e w' => ∃ p' cap', e = .returned (.tuple #[mV R D p' N cap', .bool true]) ∧ (Mx 3 cellsF w' R D p' N cap' (mulMF M f g) ∧ Rw 3 cellsF w' (.slice p' N cap') (mk R D (mulMF M f g)) ∧ Fresh w.heap.size (.slice p' N cap')) ∧ Bl w w' := by
  obtain ⟨i0, hi, hz0, hz1, hz2⟩ := info_parts Try.info_F
  refine (callsIn_wide (n := 8)).1 ?_
  have hfx := hx.fit
  have hfy := hy.fit
  have hdR := hx.1
  have hdD := hy.1
  have hRD : (R : Int) * (D : Int) = N := by rw [hN]; simp
  have hN256 : N ≤ 256 := by rw [hN]; exact Nat.mul_le_mul hdR.r2 hdD.c2
  have hM16 := hdR.c2
  have HN := hideP hN
  have HXm := hideP hx
  have HYm := hideP hy
  clear hN hx hy
  obtain ⟨W, hW⟩ : ∃ W, W = ((w.alloc (.cells #[.int .i64 R, .int .i64 M, .slice p n cap] 29)).alloc (.cells #[.int .i64 M, .int .i64 D, .slice q n2 cap2] 29)).alloc (.cells #[.int .i64 0, .int .i64 0, .slice none 0 0] 29) := ⟨_, rfl⟩
  have b0 : Bl w W := by rw [hW]; exact (((Bl.refl _).alloc _).alloc _).alloc _
  have mx0 : MBox W w.heap.size R M p n cap := by rw [hW]; exact (MBox.new w _ _ _ _ _ _).later (((Bl.refl _).alloc _).alloc _)
  have my0 : MBox W (w.heap.size + 1) M D q n2 cap2 := by rw [hW]; have := (MBox.new (w.alloc (.cells #[.int .i64 R, .int .i64 M, .slice p n cap] 29)) M D q n2 cap2 29); rw [World.size_alloc] at this; exact this.later ((Bl.refl _).alloc _)
  have mz0 : MBox W (w.heap.size + 1 + 1) 0 0 none 0 0 := by rw [hW]; have := MBox.new ((w.alloc (.cells #[.int .i64 R, .int .i64 M, .slice p n cap] 29)).alloc (.cells #[.int .i64 M, .int .i64 D, .slice q n2 cap2] 29)) 0 0 none 0 0 29; rw [World.size_alloc, World.size_alloc] at this; exact this
  have hs0 : W.heap.size = w.heap.size + 1 + 1 + 1 := by rw [hW]; simp
  have HW := hideP hW
  clear hW
  refine callsIn_of_wp_marks Try.func55 rfl trivial ?_ rfl
  simp only [Try.ntmps55, List.size_toArray, List.length_cons, List.length_nil, Nat.reduceAdd, Nat.reduceSub, Array.replicate_succ, Array.replicate_zero, List.push_toArray, List.append_toArray, List.nil_append, List.cons_append]
  gi_wp2_with fail
  rw [← HW.out]
  refine ⟨trivial, ?_⟩
  refine (callsIn_wide.2 (mRightF _ _ _ _ _ _)).mono ?_
  rintro e w1 ⟨rfl, h1⟩
  rw [hfx]
  have mx1 := mx0.later h1
  have my1 := my0.later h1
  obtain ⟨d0, d1, d2, u0, u1, u2, ltm⟩ := my1
  obtain ⟨c0, c1, c2, f0, f1, f2, lt⟩ := mx1
  gi_wp2_with fail
  refine ⟨trivial, ?_⟩
  refine (callsIn_wide.2 (mRightF _ _ _ _ _ _)).mono ?_
  rintro e w2 ⟨rfl, h2⟩
  rw [hfy]
  clear c0 c1 c2 f0 f1 f2 d0 d1 d2 u0 u1 u2 lt ltm
  obtain ⟨c0, c1, c2, f0, f1, f2, lt⟩ := mx0.later (h1.trans h2)
  obtain ⟨d0, d1, d2, u0, u1, u2, ltm⟩ := my0.later (h1.trans h2)
  gi_wp2_with fail
  refine ⟨trivial, ?_⟩
  refine (callsIn_wide.2 (mTurnF _ _ _ _ _ g _ (HYm.out.later ((b0.trans h1).trans h2)))).mono ?_
  rintro e w3 ⟨q1, cap3, rfl, ⟨hT, _, _⟩, h3⟩
  have HT := hideP hT
  clear hT c0 c1 c2 f0 f1 f2 d0 d1 d2 u0 u1 u2 lt ltm
  gi_wp2_with fail
  refine ⟨trivial, ?_⟩
  refine (callsIn_wide.2 (mAllF _ _ _ _ _ _ _ HT.out)).mono ?_
  rintro e w4 ⟨B1, q2, cap4, rfl, hK4, h4⟩
  have HK4 := hideP hK4
  clear hK4
  have h14 : Bl W w4 := ((h1.trans h2).trans h3).trans h4
  obtain ⟨w5, hw5⟩ : ∃ w5, w5 = w4.alloc (.cells #[.func (.func 62) #[] #[.pointer (some ⟨B1, 0, none⟩)]] 62) := ⟨_, rfl⟩
  have b45 : Bl w4 w5 := by rw [hw5]; exact (Bl.refl _).alloc _
  have hs5 : w5.heap.size = w4.heap.size + 1 := by rw [hw5]; simp
  have BC5 : Boxed w5 w4.heap.size 62 (.func (.func 62) #[] #[.pointer (some ⟨B1, 0, none⟩)]) := by rw [hw5]; exact Boxed.new w4 _ _
  have mx5 := mx0.later (h14.trans b45)
  have my5 := my0.later (h14.trans b45)
  have mz5 := mz0.later (h14.trans b45)
  have bw5 : Bl w w5 := (b0.trans h14).trans b45
  have HW5 := hideP hw5
  clear hw5
  obtain ⟨c0, c1, c2, f0, f1, f2, lt⟩ := mx0.later h14
  obtain ⟨d0, d1, d2, u0, u1, u2, ltm⟩ := my0.later h14
  gi_wp2_with (gi_at_make; refine wpListIn_make_own _ rfl _ _ 27 rfl (w4.heap.size + 1) 35 i0 (.agg #[.int .i64 0, .int .i64 0, .bool false]) 3 Try.underlying27 hi hz0 hz1 .i64 .i64 _ N rfl rfl (by simp) (by rw [hz2]; omega) (by unfold maxLen; omega) (by simp) ?_; intro w6 hown0 hgrow0; rw [← HW5.out] at hown0 hgrow0; have mx6 := mbox_block mx5 (hgrow0.block _ mx5.lt nofun) hgrow0.size; clear c0 c1 c2 f0 f1 f2 d0 d1 d2 u0 u1 u2 lt ltm; obtain ⟨c0, c1, c2, f0, f1, f2, lt⟩ := mx6)
  have h56 : Bl w5 w6 := ⟨hgrow0.os, hgrow0.tape, hgrow0.output, hgrow0.size, fun k hk => hgrow0.block k hk nofun⟩
  have hs6 : w5.heap.size ≤ w6.heap.size := hgrow0.size
  obtain ⟨w6b, hw6b⟩ : ∃ w6b, w6b = w6.alloc (.cells #[.slice (some ⟨w4.heap.size + 1, 0, none⟩) 0 N] 27) := ⟨_, rfl⟩
  have h6b : Bl w6 w6b := by rw [hw6b]; exact (Bl.refl _).alloc _
  have hs6b : w6b.heap.size = w6.heap.size + 1 := by rw [hw6b]; simp
  have bl6 : Boxed w6b w6.heap.size 27 (.slice (some ⟨w4.heap.size + 1, 0, none⟩) 0 N) := by rw [hw6b]; exact Boxed.new w6 _ _
  have hown6 : w6b.ownsRow (w4.heap.size + 1) 35 3 (.slice (some ⟨w4.heap.size + 1, 0, none⟩) 0 N) 0 [] := by
    rw [hs5] at hown0
    exact own_blF hown0 h6b
  have HW6 := hideP hw6b
  clear hw6b hown0 hgrow0 c0 c1 c2 f0 f1 f2 lt
  rw [← HW6.out]
  refine ⟨trivial, ?_⟩
  refine (callsIn_wide.2 (mAllF _ _ _ _ _ f _ (HXm.out.later ((bw5.trans h56).trans h6b)))).mono ?_
  rintro e w7 ⟨B2, p2, cap5, rfl, hK7, h7⟩
  have HK7 := hideP hK7
  clear hK7
  have hs7 : w6.heap.size + 1 ≤ w7.heap.size := by have := h7.size; omega
  have b57 : Below w5.heap.size w5 w7 := (h56.trans h6b).trans h7
  have bl7 := boxed_bl bl6 h7
  have own7 := own_blF hown6 h7
  clear bl6 hown6
  have K4at : ∀ u, Below w5.heap.size w5 u → KeptIn 3 cellsF u w3.heap.size w4.heap.size B1 D M q2 n2 cap4 (fun i k => g k i) := fun u hu =>
    (HK4.out.later (Bl.span b45 (Nat.le_refl _))).later (Bl.span (show Bl w5 u from hu) (by omega))
  have HKA := hideP K4at
  clear K4at
  gi_wp2_with fail
  refine rangeV rfl (by omega) (gf := 62) (lb := #[.pointer (some ⟨B2, 0, none⟩)]) rfl trivial (enters_of Try.func62 (by kernel_rfl) rfl)
    (seqMF 7 B2 _ w7.heap.size R M p2 n cap5 f w7 (Nat.le_refl _) HK7.out) (fun x A B h => h.1) (fun h k => h.trans k) (span_b (Nat.le_refl _)) (fun _ => rfl)
    (fun pre U => (∃ v, Boxed U w6.heap.size 27 v ∧ U.ownsRow (w4.heap.size + 1) 35 3 v (rowsL D (mulMF M f g) pre).length ((rowsL D (mulMF M f g) pre).flatMap cellsF) ∧ (∀ b, v.ownBlock = some b → b < w6b.heap.size ∨ w7.heap.size ≤ b)) ∧ (Below w5.heap.size w5 U ∧ w7.heap.size ≤ U.heap.size))
    (fun _ _ _ => False)
    (OwnFrom.and (Own.from (holdsRow_own (w4.heap.size + 1) w6.heap.size 27 35 3 (fun pre => (rowsL D (mulMF M f g) pre).length) (fun pre => (rowsL D (mulMF M f g) pre).flatMap cellsF) (fun _ v => ∀ b, v.ownBlock = some b → b < w6b.heap.size ∨ w7.heap.size ≤ b)) _) (OwnFrom.and (ownFrom_below (Nat.le_refl _) b57.size) (own_size _ _)))
    (fun _ _ _ _ _ hs _ _ => hs)
    ⟨⟨_, bl7, own7, fun b hb => by cases hb; exact .inl (by show w4.heap.size + 1 < _; omega)⟩, b57, Nat.le_refl _⟩
    (fun a x a' U => ∃ Bx v, w7.heap.size ≤ Bx ∧ Boxed U Bx 27 (rowV M x) ∧ Rw 3 cellsF U (rowV M x) (rowM M f x.1) ∧ Boxed U w6.heap.size 27 v ∧ (∀ b, (rowV M x).ownBlock = some b → w7.heap.size ≤ b ∧ v.ownBlock ≠ some b)
      ∧ a' = { tmps := (((a.tmps.setIfInBounds 39 (.int .i64 x.1)).setIfInBounds 40 (rowV M x)).setIfInBounds 9 (.pointer (some ⟨Bx, 0, none⟩))), defers := [] })
    (fun x a' _ X Y row hs hg hr => by obtain ⟨Bx, v, h0, h1, h2, h3, h4, h5⟩ := hs; exact ⟨Bx, v, h0, (Own.from (boxed_own (β := Unit) _ _ (fun _ => _)) _) () _ _ _ h1 hg hr, rw_own h2 hg (fun r e => (hr r e).2), (Own.from (boxed_own (β := Unit) _ _ (fun _ => _)) _) () _ _ _ h3 hg hr, h4, h5⟩)
    ?assign ?body ?done ?stop
  case assign =>
    rintro l pre x W0 U K' ⟨⟨v0, hv0, hr0, _⟩, _, hs0'⟩ ⟨hbU, hxR, hrow, hfr, hcc⟩ ⟨⟨v, hv, hr, hg⟩, hbU5, hsU⟩ hK'
    have HK2 := hideP hK'
    clear hK'
    have hvv : v0 = v := by
      have e1 := (boxed_bl hv0 hbU).cell
      rw [hv.cell] at e1
      exact (Option.some.inj e1).symm
    subst hvv
    have hfw : ∀ b, (rowV M x).ownBlock = some b → w7.heap.size ≤ b ∧ v0.ownBlock ≠ some b := fun b hb => ⟨by have := hfr b hb; omega, fun e => by have := (hr0.lt b e).2; have := hfr b hb; omega⟩
    gi_wp2
    have hb2 : Bl U (U.alloc (.cells #[.slice x.2.1 M x.2.2] 27)) := (Bl.refl U).alloc _
    refine HK2.out _ _ (hb2.keeps _) (hb2.span hsU) ⟨⟨v0, hv.alloc _, hr.alloc _, hg⟩, hbU5.trans (hb2.mono hbU5.size), by have := hb2.size; omega⟩ ⟨U.heap.size, v0, hsU, Boxed.new U _ _, hrow.later hb2, hv.alloc _, hfw, ?_⟩
    rfl
  case body =>
    rintro l pre x a' U hl' ⟨r, hr'⟩ ⟨⟨v1, hv1, hrow1, hg1⟩, hbU, hsU⟩ ⟨Bx, v2, hBx, hbx, hrx, hv2, hne, rfl⟩ hlt
    have hvv : v1 = v2 := by
      have e1 := hv1.cell
      rw [hv2.cell] at e1
      exact (Option.some.inj e1).symm
    subst hvv
    have fm : Try.prog.follows .mixedOrders = true := by kernel_rfl
    simp only [List.setIfInBounds_toArray, List.set_cons_zero, List.set_cons_succ]
    have hcl := (boxed_bl (show Boxed w5 _ _ _ from BC5) hbU).cell
    have hKU := HKA.out U hbU
    have HR1 := hideP hrow1
    have HV1 := hideP hv1
    have HBX := hideP hbx
    have HRX := hideP hrx
    have HNE := hideP hne
    have HG1 := hideP hg1
    have hlx : pre.length * D + D ≤ 256 := by
      have h1 : (pre.length + 1) * D ≤ R * D := Nat.mul_le_mul_right _ hlt
      have := HN.out
      rw [Nat.succ_mul] at h1
      omega
    clear hrow1 hv1 hbx hrx hne hg1 hv2
    gi_wp2_with fail
    clear hcl
    refine rangeVin (l₀ := l) (r₀ := r) rfl hr' (by omega) (gf := 62) (lb := #[.pointer (some ⟨B1, 0, none⟩)]) rfl trivial (enters_of Try.func62 (by kernel_rfl) rfl)
      ((seqMF 5 B1 w3.heap.size w4.heap.size D M q2 n2 cap4 (fun i k => g k i) U (by omega) hKU).inRound l) (fun x A B h => h.1) (fun h k => h.trans k) (span_b (by omega)) (fun _ => rfl)
      (fun pre2 U2 => (∃ v, Boxed U2 w6.heap.size 27 v ∧ U2.ownsRow (w4.heap.size + 1) 35 3 v (partL D (mulMF M f g) pre x.1 pre2).length ((partL D (mulMF M f g) pre x.1 pre2).flatMap cellsF) ∧ (∀ b, v.ownBlock = some b → (b < w6b.heap.size ∨ w7.heap.size ≤ b) ∧ (rowV M x).ownBlock ≠ some b))
        ∧ (Boxed U2 Bx 27 (rowV M x) ∧ (Rw 3 cellsF U2 (rowV M x) (rowM M f x.1) ∧ (Below w5.heap.size w5 U2 ∧ (w7.heap.size ≤ U2.heap.size ∧ (Span w6b.heap.size w7.heap.size U U2 ∧ (KeepsFrom w7.heap.size U U2 ∧ U.heap.size ≤ U2.heap.size)))))))
      (fun _ _ _ => False)
      (OwnFrom.and (Own.from (holdsRow_own (w4.heap.size + 1) w6.heap.size 27 35 3 (fun pre2 => (partL D (mulMF M f g) pre x.1 pre2).length) (fun pre2 => (partL D (mulMF M f g) pre x.1 pre2).flatMap cellsF) (fun _ v => ∀ b, v.ownBlock = some b → (b < w6b.heap.size ∨ w7.heap.size ≤ b) ∧ (rowV M x).ownBlock ≠ some b)) _)
        (OwnFrom.and (Own.from (boxed_own _ _ (fun _ => _)) _) (OwnFrom.and (own_rw _ _ _ _ _) (OwnFrom.and (ownFrom_below (Nat.le_refl _) (by have := b57.size; omega)) (OwnFrom.and (own_size _ _) (OwnFrom.and (own_span hsU (Nat.le_refl _)) (OwnFrom.and (ownFrom_keepsFrom (Nat.le_refl _)) (own_size _ _))))))))
      (fun _ _ _ _ _ hs _ _ => hs)
      ⟨⟨v1, HV1.out, by rw [partL_nil]; exact HR1.out, fun b hb => ⟨HG1.out b hb, fun e => (HNE.out b e).2 hb⟩⟩, HBX.out, HRX.out, hbU, hsU, Span.refl _ _ _, KeepsFrom.refl _ _, Nat.le_refl _⟩
      (fun a y a' U2 => y.1 < D ∧ Rw 3 cellsF U2 (rowV M y) (colM M g y.1) ∧ a' = { tmps := (((a.tmps.setIfInBounds 42 (.int .i64 y.1)).setIfInBounds 43 (rowV M y)).setIfInBounds 11 (rowV M y)), defers := [] })
      (fun y a' _ X Y row hs hg hr => ⟨hs.1, rw_own hs.2.1 hg (fun r e => (hr r e).2), hs.2.2⟩)
      ?assign2 ?body2 ?done2 ?stop2
    case assign2 =>
      rintro l2 pre2 y W0 U2 K' _ ⟨hbU2, hyD, hrow, _, _⟩ hI2 hK'
      have HK2 := hideP hK'
      have HI2 := hideP hI2
      clear hK' hI2
      gi_wp2
      exact HK2.out _ _ (KeepsFrom.refl _ _) (Span.refl _ _ _) HI2.out ⟨hyD, hrow, rfl⟩
    case body2 =>
      rintro l2 pre2 y a' U2 hl2 ⟨r2, hr2⟩ ⟨⟨v, hv, hrow, hgv⟩, hbx2, hrx2, hb5, hs7', hsp, hkf, hsU2⟩ ⟨hyD, hry, rfl⟩ hlt2
      simp only [List.setIfInBounds_toArray, List.set_cons_zero, List.set_cons_succ]
      gi_wp2_with fail
      have hC := fun u (hu : Bl U2 u) => vDotF (rowV M x) (rowV M y) (rowM M f x.1) (colM M g y.1) u (hrx2.later hu).q (hry.later hu).q (by rw [rowM_len]; omega) (by rw [colM_len]; omega)
      have hlen2 : (partL D (mulMF M f g) pre x.1 pre2).length ≤ 100000 := by rw [partL_len]; omega
      refine dotAppendF (ops := _) rfl (by kernel_rfl) 44 7 15 (by simp) (by omega) ⟨rfl, rfl, rfl⟩ ⟨rfl, rfl⟩ ⟨rfl, rfl⟩ ⟨rfl, rfl, rfl⟩ ⟨rfl, rfl, rfl⟩ ⟨rfl, rfl, rfl⟩ ⟨rfl, rfl, rfl⟩ ⟨by simp, by simp⟩ (by simp) ⟨by simp, by simp⟩ (by simp)
        (rowV M x) (rowV M y) (fun act u K' hfr hu hk => load_wp 27 (.tmp 9) rfl (by rw [hfr 9 (by omega)]; exact Try.load1F Bx _ u (boxed_bl hbx2 hu).cell) hk)
        (fun act u K' hfr hu hk => move_wp (.tmp 11) rfl (by rw [hfr 11 (by omega)]; exact hk))
        trivial (fun _ => by omega) (enters_of Try.func15 (by kernel_rfl) rfl) (mulMF M f g x.1 y.1)
        (fun u hu => CallsIn.inRound l2 (CallsIn.inRound l (callsIn_wide.2 (hC u hu))))
        w6.heap.size rfl v hv (w4.heap.size + 1) (partL D (mulMF M f g) pre x.1 pre2) hrow hlen2 (by omega) ?_
      intro act u0 w8 g' cap' k1 k2 k3 k4
      have hvu := boxed_bl hv k1
      have hru := own_blF hrow k1
      have hsu := k1.size
      have hu5 : w4.heap.size + 1 ≤ u0.heap.size := by omega
      obtain ⟨hv5, hv6, hr6, hk6, hb6⟩ := boxed_appended hvu (by decide) hru hu5 (by omega) k3 k2
      have hg8 := k2.size
      have hbb : ∀ b, (rowV M x).ownBlock = some b → b < U2.heap.size := hrx2.lt
      have hsB : Below w5.heap.size U2 (w8.setCell ⟨w6.heap.size, 0, none⟩ (.slice (some ⟨g', 0, none⟩) ((partL D (mulMF M f g) pre x.1 pre2).length + 1) cap')) := (k1.mono (by omega)).trans (by rw [hs5]; exact hb6)
      refine ⟨(k1.keeps _).trans (hk6.from _), ⟨by have := hsB.size; omega, fun k _ h2 => hsB.block k (by omega)⟩, ⟨_, hv6, ?_, ?_⟩, ?_, ?_, ?_, ?_, ?_, ?_, ?_⟩
      · rw [partL_snoc]
        simpa [List.flatMap_append] using hr6
      · intro b hb
        have hb' : g' = b := by cases hb; rfl
        subst hb'
        rcases k4 with h | h
        · exact hgv _ h.symm
        · exact ⟨.inr (by omega), fun e => by have := hbb _ e; omega⟩
      · exact ((boxed_bl hbx2 k1).kept k2 ((boxed_bl hbx2 k1).not_row (by decide) hru)).other (by omega) _
      · exact (hrx2.later k1).beside k2 (fun b hb => ⟨fun e => (hgv b e).2 hb, by have := (HNE.out b hb).1; omega⟩)
      · exact hb5.trans hsB
      · simp; omega
      · exact hsp.trans (span_appended k1 (by omega) (fun b hb => (hgv b hb).1) k2 (by omega))
      · exact hkf.trans ((k1.keeps _).trans (hk6.from _))
      · simp; omega
    case done2 =>
      rintro zs U2 hS ⟨⟨v, hv, hrow, hgv⟩, _, _, hb5, hs7', hsp, hkf, _⟩
      gi_wp2
      refine ⟨hkf, hsp, ⟨⟨v, hv, ?_, fun b hb => (hgv b hb).1⟩, hb5, hs7'⟩⟩
      rw [← partL_all D (mulMF M f g) pre x zs hS]
      exact hrow
    case stop2 =>
      rintro c pre2 U2 _ h
      exact h.elim
  case done =>
    rintro Dm zs U hD hS ⟨⟨v, hv, hrow, _⟩, hb5, hs7'⟩ hKD
    have e := rowsL_all D (mulMF M f g) zs hS
    rw [e] at hrow
    have RW := Rw.of_own cellsF_len hrow
    have FR : Fresh (w4.heap.size + 1) v := fun b hb => (hrow.lt b hb).1
    obtain ⟨p', cap', hv', _, _⟩ := RW.cut
    rw [mk_len, ← HN.out] at hv'
    subst hv'
    have hcl := hv.cell
    have HRW := hideP RW
    have HFR := hideP FR
    have HKD := hideP hKD
    obtain ⟨c0, c1, c2, f0, f1, f2, lt⟩ := mx5.later (show Bl w5 U from hb5)
    obtain ⟨d0, d1, d2, u0, u1, u2, ltm⟩ := my5.later (show Bl w5 U from hb5)
    obtain ⟨x0, x1, x2, y0, y1, y2, ltz⟩ := mz5.later (show Bl w5 U from hb5)
    have hbw : Bl w U := bw5.trans hb5
    clear hrow RW FR hKD hv
    gi_wp2
    have hs4 := h14.size
    have hdm : Dm ≠ w.heap.size + 1 + 1 := by omega
    have hKD2 : ((((U.setCell ⟨w.heap.size + 1 + 1, 0, none⟩ (.int .i64 R)).setCell ⟨w.heap.size + 1 + 1, 1, none⟩ (.int .i64 D)).setCell ⟨w.heap.size + 1 + 1, 2, none⟩ (.slice p' N cap'))).heap[Dm]? = some (.deferred (some [])) :=
      (((KeepsOthers.setCell _ _ _).trans (KeepsOthers.setCell _ _ _)).trans (KeepsOthers.setCell _ _ _)).same Dm _ HKD.out rfl
    refine ⟨by simp, .inl ⟨_, _, rfl, run_takeDeferred hKD2, ?_⟩⟩
    have mzf := MBox.fill (⟨x0, x1, x2, y0, y1, y2, ltz⟩ : MBox U (w.heap.size + 1 + 1) 0 0 none 0 0) R D p' N cap'
    have mzg := mbox_block (w' := World.putObj _ Dm (.deferred none)) mzf (World.putObj_heap_other (by omega)) (by simp [World.putObj])
    have blf := Bl.put3 hbw (n := w.heap.size + 1 + 1) (by omega) (.int .i64 R) (.int .i64 D) (.slice p' N cap')
    have rwf := ((HRW.out.set (p := ⟨w.heap.size + 1 + 1, 0, none⟩) (.int .i64 R) (fun b hb => by have := HFR.out b hb; show w.heap.size + 1 + 1 + 1 ≤ b; omega)).set (p := ⟨w.heap.size + 1 + 1, 1, none⟩) (.int .i64 D) (fun b hb => by have := HFR.out b hb; show w.heap.size + 1 + 1 + 1 ≤ b; omega)).set (p := ⟨w.heap.size + 1 + 1, 2, none⟩) (.slice p' N cap') (fun b hb => by have := HFR.out b hb; show w.heap.size + 1 + 1 + 1 ≤ b; omega)
    generalize ((U.setCell ⟨w.heap.size + 1 + 1, 0, none⟩ (.int .i64 R)).setCell ⟨w.heap.size + 1 + 1, 1, none⟩ (.int .i64 D)).setCell ⟨w.heap.size + 1 + 1, 2, none⟩ (.slice p' N cap') = Z at *
    have rwg : Rw 3 cellsF (Z.putObj Dm (.deferred none)) (.slice p' N cap') (mk R D (mulMF M f g)) := rw_own rwf (grownBy_putObj' _ Dm (.deferred none)) (fun r e => by cases e; exact ⟨_, hKD2, rfl⟩)
    have blg : Bl w (Z.putObj Dm (.deferred none)) := Below.trans blf (belowK_b (w := w) (Nat.le_refl _) Z Dm _ _ (by have := hbw.size; have := b57.size; omega) hKD2 rfl rfl)
    generalize Z.putObj Dm (.deferred none) = Y at *
    obtain ⟨a0, a1, a2, _, _, _, _⟩ := mzg
    refine ⟨.tuple #[mV R D p' N cap', .bool true], ?_, p', cap', rfl, ⟨⟨⟨hdR.r1, hdR.r2, hdD.c1, hdD.c2⟩, HN.out, rwg.q⟩, rwg, fun b hb => by have := HFR.out b hb; omega⟩, blg⟩
    simp [results, Try.results55, go_sem, a0, a1, a2]
  case stop =>
    rintro D' c pre U _ _ h _
    exact h.elim
end Go.Proofs.Ytlbmkjicbkfmjaa

/- Contracts of mat's Col, Mirror, of fractions (layer 6). Written by genMa.py. -/
namespace Go.Proofs.Ytlbmkjicbkfmjaa
open Go.RowKit
set_option linter.unusedSimpArgs false
set_option linter.unusedVariables false

theorem mMirror1F (R : Nat) (p : Option Addr) (n cap : Nat) (f : Nat → Nat → Fr) (w : World) (h : Mx 3 cellsF w R R p n cap f) (mb : Nat) (hm : MBox w mb R R p n cap) (i k : Nat) (hi : i < R) (hk : k < R) :
    Calls Try.prog 71 #[.int .i64 i, .int .i64 k, .pointer (some ⟨mb, 0, none⟩)] w fun e w' => e = .returned (frV (mirM f i k)) ∧ Bl w w' := by
  obtain ⟨W, hW⟩ : ∃ W, W = w.alloc (.cells #[.int .i64 0, .int .i64 0, .bool false] 35) := ⟨_, rfl⟩
  have b0 : Bl w W := by rw [hW]; exact (Bl.refl _).alloc _
  have x0 : FBox W w.heap.size zeroR := by rw [hW]; exact FBox.new w zeroR 35
  obtain ⟨c0, c1, c2, f0, f1, f2, lt⟩ := hm
  have HW := hideP hW
  clear hW
  rcases Nat.lt_trichotomy i k with hik | hik | hik
  · have q1 : (i : Int) < (k : Int) := by omega
    have q2 : ¬ (k : Int) < (i : Int) := by omega
    have A := hideP (fun u (hu : Bl w u) => mAtF R R p n cap f u (h.later hu) k i (by omega) (by omega))
    have e0 : mirM f i k = f k i := by unfold mirM; rw [show max i k = k by omega, show min i k = i by omega]
    rw [e0]
    clear h e0
    generalize f k i = x at *
    go_enter Try.func71, Try.ntmps71
    go_wp2_with fail
    rw [← HW.out]
    refine (A.out _ b0).mono ?_
    rintro e w1 ⟨rfl, h1⟩
    clear c0 c1 c2 f0 f1 f2 A
    obtain ⟨d0, d1, d2, g0, g1, g2, lt2⟩ := x0.later h1
    go_wp2
    simp [bodyPost, results, Try.results71, go_sem, d0, d1, d2]
    exact Bl.set3 (b0.trans h1) (Nat.le_refl _) _ _ _
  · subst hik
    have A := hideP (fun u (hu : Bl w u) => mAtF R R p n cap f u (h.later hu) i i (by omega) (by omega))
    have e0 : mirM f i i = f i i := by unfold mirM; rw [Nat.max_self, Nat.min_self]
    rw [e0]
    clear h e0
    generalize f i i = x at *
    go_enter Try.func71, Try.ntmps71
    go_wp2_with fail
    rw [← HW.out]
    refine (A.out _ b0).mono ?_
    rintro e w1 ⟨rfl, h1⟩
    clear c0 c1 c2 f0 f1 f2 A
    obtain ⟨d0, d1, d2, g0, g1, g2, lt2⟩ := x0.later h1
    go_wp2
    simp [bodyPost, results, Try.results71, go_sem, d0, d1, d2]
    exact Bl.set3 (b0.trans h1) (Nat.le_refl _) _ _ _
  · have q1 : (k : Int) < (i : Int) := by omega
    have q2 : ¬ (i : Int) < (k : Int) := by omega
    have A := hideP (fun u (hu : Bl w u) => mAtF R R p n cap f u (h.later hu) i k (by omega) (by omega))
    have e0 : mirM f i k = f i k := by unfold mirM; rw [show max i k = i by omega, show min i k = k by omega]
    rw [e0]
    clear h e0
    generalize f i k = x at *
    go_enter Try.func71, Try.ntmps71
    go_wp2_with fail
    rw [← HW.out]
    refine (A.out _ b0).mono ?_
    rintro e w1 ⟨rfl, h1⟩
    clear c0 c1 c2 f0 f1 f2 A
    obtain ⟨d0, d1, d2, g0, g1, g2, lt2⟩ := x0.later h1
    go_wp2
    simp [bodyPost, results, Try.results71, go_sem, d0, d1, d2]
    exact Bl.set3 (b0.trans h1) (Nat.le_refl _) _ _ _
theorem mMirrorF (R : Nat) (p : Option Addr) (n cap : Nat) (f : Nat → Nat → Fr) (w : World) (h : Mx 3 cellsF w R R p n cap f) :
    Calls Try.prog 60 #[mV R R p n cap] w fun e w' => ∃ p' cap', e = .returned (.tuple #[mV R R p' n cap', .bool true]) ∧ (Mx 3 cellsF w' R R p' n cap' (mirM f) ∧ Rw 3 cellsF w' (.slice p' n cap') (mk R R (mirM f)) ∧ Fresh w.heap.size (.slice p' n cap')) ∧ Bl w w' := by
  have hfit := h.fit
  obtain ⟨W, hW⟩ : ∃ W, W = (w.alloc (.cells #[.int .i64 R, .int .i64 R, .slice p n cap] 29)).alloc (.cells #[.int .i64 0, .int .i64 0, .slice none 0 0] 29) := ⟨_, rfl⟩
  have b0 : Bl w W := by rw [hW]; exact ((Bl.refl _).alloc _).alloc _
  have m0 : MBox W w.heap.size R R p n cap := by rw [hW]; exact (MBox.new w _ _ _ _ _ _).later ((Bl.refl _).alloc _)
  have x0 : MBox W (w.heap.size + 1) 0 0 none 0 0 := by rw [hW]; have := MBox.new (w.alloc (.cells #[.int .i64 R, .int .i64 R, .slice p n cap] 29)) 0 0 none 0 0 29; rw [World.size_alloc] at this; exact this
  have hs : W.heap.size = w.heap.size + 1 + 1 := by rw [hW]; simp
  have FI := hideP (fun u (hu : Bl W u) => mFilledF 71 w.heap.size (enters_of Try.func71 (by kernel_rfl) rfl) (mirM f) R R n h.1 h.2.1 u
    (fun i k v hi hk hv => mMirror1F R p n cap f v (h.later (b0.trans (hu.trans hv))) _ (m0.later (hu.trans hv)) i k hi hk))
  have HD := hideP h
  have HW := hideP hW
  clear hW h
  go_enter Try.func60, Try.ntmps60
  go_wp2_with fail
  rw [← HW.out]
  refine (mRightF _ _ _ _ _ _).mono ?_
  rintro e w1 ⟨rfl, h1⟩
  rw [hfit]
  obtain ⟨c0, c1, c2, f0, f1, f2, lt⟩ := m0.later h1
  go_wp2_with fail
  refine (FI.out _ h1).mono ?_
  rintro e w2 ⟨p', cap', rfl, ⟨hR, hF⟩, h2⟩
  have HR := hideP hR
  have HF := hideP (show Fresh (w.heap.size + 1 + 1) (.slice p' n cap') from fun g hg => by have := hF g hg; have := h1.size; omega)
  clear hR hF FI c0 c1 c2 f0 f1 f2
  obtain ⟨c0, c1, c2, f0, f1, f2, lt2⟩ := x0.later (h1.trans h2)
  go_wp2
  simp [bodyPost, results, Try.results60, go_sem, c0, c1, c2]
  have q := ((HR.out.set (p := ⟨w.heap.size + 1, 0, none⟩) (.int .i64 R) HF.out).set (p := ⟨w.heap.size + 1, 1, none⟩) (.int .i64 R) HF.out).set (p := ⟨w.heap.size + 1, 2, none⟩) (.slice p' n cap') HF.out
  refine ⟨p', cap', ⟨rfl, rfl⟩, ⟨⟨HD.out.1, HD.out.2.1, q.q⟩, q, fun g hg => by have := HF.out g hg; omega⟩, Bl.put3 ((b0.trans h1).trans h2) (Nat.le_succ _) _ _ _⟩
theorem mMirrorF_no (R C : Nat) (p : Option Addr) (n cap : Nat) (w : World) (hfit : fitB R C n = true) (hne : R ≠ C) :
    Calls Try.prog 60 #[mV R C p n cap] w fun e w' => e = .returned (.tuple #[mV 0 0 none 0 0, .bool false]) ∧ Bl w w' := by
  obtain ⟨W, hW⟩ : ∃ W, W = (w.alloc (.cells #[.int .i64 R, .int .i64 C, .slice p n cap] 29)).alloc (.cells #[.int .i64 0, .int .i64 0, .slice none 0 0] 29) := ⟨_, rfl⟩
  have b0 : Bl w W := by rw [hW]; exact ((Bl.refl _).alloc _).alloc _
  have m0 : MBox W w.heap.size R C p n cap := by rw [hW]; exact (MBox.new w _ _ _ _ _ _).later ((Bl.refl _).alloc _)
  have x0 : MBox W (w.heap.size + 1) 0 0 none 0 0 := by rw [hW]; have := MBox.new (w.alloc (.cells #[.int .i64 R, .int .i64 C, .slice p n cap] 29)) 0 0 none 0 0 29; rw [World.size_alloc] at this; exact this
  have hne' : ((R : Int) == (C : Int)) = false := by simp; omega
  have HW := hideP hW
  clear hW hne
  go_enter Try.func60, Try.ntmps60
  go_wp2_with fail
  rw [← HW.out]
  refine (mRightF _ _ _ _ _ _).mono ?_
  rintro e w1 ⟨rfl, h1⟩
  rw [hfit]
  obtain ⟨c0, c1, c2, f0, f1, f2, lt⟩ := m0.later h1
  obtain ⟨d0, d1, d2, g0, g1, g2, lt2⟩ := x0.later h1
  go_wp2
  simp [bodyPost, results, Try.results60, go_sem, d0, d1, d2]
  exact Bl.put3 (b0.trans h1) (Nat.le_succ _) _ _ _
end Go.Proofs.Ytlbmkjicbkfmjaa

/- Contract of tri's Square, of fractions (layer 7). Written by genTr.py. -/
namespace Go.Proofs.Ytlbmkjicbkfmjaa
open Go.RowKit
set_option linter.unusedSimpArgs false
set_option linter.unusedVariables false

theorem boolF (x : Fr) : ∃ (j : Nat) (y : Bool), (cellsF x)[j]? = some (Value.bool y) := ⟨3 - 1, x.bad, rfl⟩
set_option maxRecDepth 100000 in
set_option maxHeartbeats 2000000 in
theorem tSqF (n : Nat) (p : Option Addr) (N cap : Nat) (f : Nat → Nat → Fr) (w : World) (h : Mx 3 cellsF w n n p N cap f) :
    Calls Try.prog 51 #[mV n n p N cap] w fun e w' => ∃ p' cap', e = .returned (.tuple #[mV n n p' N cap', .bool true]) ∧ (Mx 3 cellsF w' n n p' N cap' (mirM (mulMF n f (fun i k => f k i))) ∧ Fresh w.heap.size (.slice p' N cap')) ∧ Bl w w' := by
  have fm : Try.prog.follows .mixedOrders = true := by kernel_rfl
  have egT := enters_of Try.func56 (by kernel_rfl) rfl
  have egM := enters_of Try.func55 (by kernel_rfl) rfl
  have hsq : sqB n n N = true := by unfold sqB; rw [h.fit]; simp
  obtain ⟨Wa, hW⟩ : ∃ Wa, Wa = (w.alloc (.cells #[.int .i64 n, .int .i64 n, .slice p N cap] 29)).alloc (.cells #[.int .i64 0, .int .i64 0, .slice none 0 0] 29) := ⟨_, rfl⟩
  have b0 : Bl w Wa := by rw [hW]; exact ((Bl.refl _).alloc _).alloc _
  have m0 : MBox Wa w.heap.size n n p N cap := by rw [hW]; exact (MBox.new w _ _ _ _ _ _).later ((Bl.refl _).alloc _)
  have x0 : MBox Wa (w.heap.size + 1) 0 0 none 0 0 := by rw [hW]; have := MBox.new (w.alloc (.cells #[.int .i64 n, .int .i64 n, .slice p N cap] 29)) 0 0 none 0 0 29; rw [World.size_alloc] at this; exact this
  have hs : Wa.heap.size = w.heap.size + 1 + 1 := by rw [hW]; simp
  have HW := hideP hW
  clear hW
  go_enter Try.func51, Try.ntmps51
  go_wp2_with fail
  rw [← HW.out]
  refine (tSquareF _ _ _ _ _ _).mono ?_
  rintro e W ⟨rfl, h1⟩
  rw [hsq]
  clear HW
  replace b0 := b0.trans h1
  replace m0 := m0.later h1
  replace x0 := x0.later h1
  replace hs : w.heap.size + 1 + 1 ≤ W.heap.size := by have := h1.size; omega
  clear h1
  go_wp2_with fail
  refine (wpIn_wide (n := 8)).1 (region_q fm [some 11, some 12, some 13, some 14, some 10, some 15, some 16, some 4, none, some 5] (fun j => j == 6 || j == 9) 8 (by kernel_rfl) (by rfl)
    (fun j v u => match j with | 0 => v = mV n n p N cap | 1 => v = mV n n p N cap | 2 => ∃ q c, v = mV n n q N c ∧ Mx 3 cellsF u n n q N c (fun i k => f k i) | 3 => ∃ q c, v = .tuple #[mV n n q N c, .bool true] ∧ Mx 3 cellsF u n n q N c (mulMF n f (fun i k => f k i)) | 4 => ∃ q c, v = .tuple #[mV n n q N c, .bool true] ∧ Mx 3 cellsF u n n q N c (mulMF n f (fun i k => f k i)) | 5 => ∃ q c, v = mV n n q N c ∧ Mx 3 cellsF u n n q N c (mulMF n f (fun i k => f k i)) | 6 => v = .bool true | 7 => ∃ b, v = .pointer (some ⟨b, 0, none⟩) ∧ W.heap.size ≤ b ∧ MBox u b 0 0 none 0 0 ∧ NoB u b | 9 => v = .bool true | _ => False)
    (by
            intro j v u u' hb h
            split at h <;> first | exact h | (obtain ⟨q, c, e, h1⟩ := h; exact ⟨q, c, e, h1.later hb⟩) | (obtain ⟨b, e, h1, h2, h3⟩ := h; exact ⟨b, e, h1, h2.later hb, h3.later hb h2.lt⟩)) (fun vs u0 u => ∃ b q c, vs 7 = .pointer (some ⟨b, 0, none⟩) ∧ MBox u b n n q N c ∧ Mx 3 cellsF u n n q N c (mulMF n f (fun i k => f k i)) ∧ MBox u (w.heap.size + 1) 0 0 none 0 0 ∧ Bl w u) ?step ?still ?store ?fin)
  case step =>
    intro j o t act u ho hdt hpu hsz hu hfr hin
    have hj : j < 10 := (Array.getElem?_eq_some_iff.1 ho).1
    obtain ⟨c0, c1, c2, _, _, _, _⟩ := m0.later hu
    rcases (by omega : j = 0 ∨ j = 1 ∨ j = 2 ∨ j = 3 ∨ j = 4 ∨ j = 5 ∨ j = 6 ∨ j = 7 ∨ j = 8 ∨ j = 9) with rfl | rfl | rfl | rfl | rfl | rfl | rfl | rfl | rfl | rfl
    · simp only [List.getElem?_toArray, List.getElem?_cons_zero, List.getElem?_cons_succ, Option.some.injEq] at ho
      subst ho
      obtain rfl := Option.some.inj hdt
      have i1 : act.eval (.tmp (1 : Nat)) = .pointer (some ⟨w.heap.size, 0, none⟩) := hfr 1 (by decide)
      exact plain_wp (by intro c h; cases h) (fun _ _ => trivial) (by simp only [execOp, i1, evalC, evalF, evalG]; simp [go_sem, c0, c1, c2]) ⟨_, rfl, rfl, Bl.refl _⟩
    · simp only [List.getElem?_toArray, List.getElem?_cons_zero, List.getElem?_cons_succ, Option.some.injEq] at ho
      subst ho
      obtain rfl := Option.some.inj hdt
      have i1 : act.eval (.tmp (1 : Nat)) = .pointer (some ⟨w.heap.size, 0, none⟩) := hfr 1 (by decide)
      exact plain_wp (by intro c h; cases h) (fun _ _ => trivial) (by simp only [execOp, i1, evalC, evalF, evalG]; simp [go_sem, c0, c1, c2]) ⟨_, rfl, rfl, Bl.refl _⟩
    · simp only [List.getElem?_toArray, List.getElem?_cons_zero, List.getElem?_cons_succ, Option.some.injEq] at ho
      subst ho
      obtain rfl := Option.some.inj hdt
      have i12 : (act.eval (.tmp (12 : Nat))) = mV n n p N cap := hin ⟨1, .data⟩ (by simp) rfl 12 rfl
      refine enter_wp 56 #[mV n n p N cap] (by intro c h; cases h) (fun _ _ => trivial) (by simp only [execOp, evalC, evalF, evalG, resolve, i12, List.map_toArray, List.map_cons, List.map_nil]; simp [invoke, egT, Result.andThen, go_sem]) (by intro h; cases h) (callsIn_wide.2 (mTurnF n n p N cap f u (h.later (b0.trans hu)))) ?_
      rintro e w' ⟨q, c, rfl, ⟨hM, _, _⟩, hb⟩
      exact ⟨_, rfl, _, rfl, ⟨q, c, rfl, hM⟩, hb⟩
    · simp only [List.getElem?_toArray, List.getElem?_cons_zero, List.getElem?_cons_succ, Option.some.injEq] at ho
      subst ho
      obtain rfl := Option.some.inj hdt
      have i11 : (act.eval (.tmp (11 : Nat))) = mV n n p N cap := hin ⟨0, .data⟩ (by simp) rfl 11 rfl
      have i13 : ∃ q c, (act.eval (.tmp (13 : Nat))) = mV n n q N c ∧ Mx 3 cellsF u n n q N c (fun i k => f k i) := hin ⟨2, .data⟩ (by simp) rfl 13 rfl
      obtain ⟨q0, c0', e1, hq⟩ := i13
      refine enter_wp 55 #[mV n n p N cap, mV n n q0 N c0'] (by intro c h; cases h) (fun _ _ => trivial) (by simp only [execOp, evalC, evalF, evalG, resolve, i11, e1, List.map_toArray, List.map_cons, List.map_nil]; simp [invoke, egM, Result.andThen, go_sem]) (by intro h; cases h) (callsIn_wide.2 (mMulF n n n p N cap f q0 N c0' (fun i k => f k i) N u (h.later (b0.trans hu)) hq h.2.1)) ?_
      rintro e w' ⟨q, c, rfl, ⟨hM, _, _⟩, hb⟩
      exact ⟨_, rfl, _, rfl, ⟨q, c, rfl, hM⟩, hb⟩
    · simp only [List.getElem?_toArray, List.getElem?_cons_zero, List.getElem?_cons_succ, Option.some.injEq] at ho
      subst ho
      obtain rfl := Option.some.inj hdt
      have i14 : ∃ q c, (act.eval (.tmp (14 : Nat))) = .tuple #[mV n n q N c, .bool true] ∧ Mx 3 cellsF u n n q N c (mulMF n f (fun i k => f k i)) := hin ⟨3, .data⟩ (by simp) rfl 14 rfl
      obtain ⟨q0, c0', e1, hq⟩ := i14
      exact plain_wp (by intro c h; cases h) (fun _ _ => trivial) (by simp only [execOp, e1]; simp [go_sem]) ⟨_, rfl, ⟨q0, c0', rfl, hq⟩, Bl.refl _⟩
    · simp only [List.getElem?_toArray, List.getElem?_cons_zero, List.getElem?_cons_succ, Option.some.injEq] at ho
      subst ho
      obtain rfl := Option.some.inj hdt
      have i10 : ∃ q c, (act.eval (.tmp (10 : Nat))) = .tuple #[mV n n q N c, .bool true] ∧ Mx 3 cellsF u n n q N c (mulMF n f (fun i k => f k i)) := hin ⟨4, .data⟩ (by simp) rfl 10 rfl
      obtain ⟨q0, c0', e1, hq⟩ := i10
      exact plain_wp (by intro c h; cases h) (fun _ _ => trivial) (by simp only [execOp, e1]; simp [go_sem]) ⟨_, rfl, ⟨q0, c0', rfl, hq⟩, Bl.refl _⟩
    · cases hpu
    · simp only [List.getElem?_toArray, List.getElem?_cons_zero, List.getElem?_cons_succ, Option.some.injEq] at ho
      subst ho
      obtain rfl := Option.some.inj hdt
      exact plain_wp (by intro c h; cases h) (fun _ _ => trivial) (w' := u.alloc (.cells #[.int .i64 0, .int .i64 0, .slice none 0 0] 29)) (v := .pointer (some ⟨u.heap.size, 0, none⟩)) (by simp only [execOp]; simp [go_sem]) ⟨_, rfl, ⟨u.heap.size, rfl, hu.size, MBox.new u 0 0 none 0 0 _, noB_new u _⟩, (Bl.refl _).alloc _⟩
    · simp only [List.getElem?_toArray, List.getElem?_cons_zero, List.getElem?_cons_succ, Option.some.injEq] at ho
      subst ho
      cases hdt
    · cases hpu
  case still =>
    intro j o t act u0 u ho hdt hpu hsz hu hfr hin
    have hj : j < 10 := (Array.getElem?_eq_some_iff.1 ho).1
    obtain ⟨c0, c1, c2, _, _, _, _⟩ := m0.later hu
    rcases (by omega : j = 0 ∨ j = 1 ∨ j = 2 ∨ j = 3 ∨ j = 4 ∨ j = 5 ∨ j = 6 ∨ j = 7 ∨ j = 8 ∨ j = 9) with rfl | rfl | rfl | rfl | rfl | rfl | rfl | rfl | rfl | rfl
    · cases hpu
    · cases hpu
    · cases hpu
    · cases hpu
    · cases hpu
    · cases hpu
    · simp only [List.getElem?_toArray, List.getElem?_cons_zero, List.getElem?_cons_succ, Option.some.injEq] at ho
      subst ho
      obtain rfl := Option.some.inj hdt
      have i10 : ∃ q c, (act.eval (.tmp (10 : Nat))) = .tuple #[mV n n q N c, .bool true] ∧ Mx 3 cellsF u0 n n q N c (mulMF n f (fun i k => f k i)) := hin ⟨4, .data⟩ (by simp) rfl 10 rfl
      obtain ⟨q0, c0', e1, hq⟩ := i10
      exact plain_wp (by intro c h; cases h) (fun _ _ => trivial) (by simp only [execOp, e1]; simp [go_sem]) ⟨_, rfl, rfl, rfl⟩
    · cases hpu
    · cases hpu
    · simp only [List.getElem?_toArray, List.getElem?_cons_zero, List.getElem?_cons_succ, Option.some.injEq] at ho
      subst ho
      obtain rfl := Option.some.inj hdt
      have i16 : (act.eval (.tmp (16 : Nat))) = .bool true := hin ⟨6, .data⟩ (by simp) rfl 16 rfl
      exact plain_wp (by intro c h; cases h) (fun _ _ => trivial) (by simp only [execOp, i16, evalC, evalF, evalG]; simp [go_sem]) ⟨_, rfl, rfl, rfl⟩
  case store =>
    intro o act u vs ho hsz hu hfr hin
    simp only [List.getElem?_toArray, List.getElem?_cons_zero, List.getElem?_cons_succ, Option.some.injEq] at ho
    subst ho
    obtain ⟨i4, k4⟩ : act.eval (.tmp (4 : Nat)) = vs 7 ∧ (∃ b, (vs 7) = .pointer (some ⟨b, 0, none⟩) ∧ W.heap.size ≤ b ∧ MBox u b 0 0 none 0 0 ∧ NoB u b) := hin 7 4 rfl rfl
    obtain ⟨i15, k15⟩ : act.eval (.tmp (15 : Nat)) = vs 5 ∧ (∃ q c, (vs 5) = mV n n q N c ∧ Mx 3 cellsF u n n q N c (mulMF n f (fun i k => f k i))) := hin 5 15 rfl rfl
    obtain ⟨b, e1, hb, bx, nb⟩ := k4
    obtain ⟨q0, c0', e2, hq⟩ := k15
    rw [e1] at i4
    rw [e2] at i15
    obtain ⟨c0, c1, c2, f0, f1, f2, ltb⟩ := id bx
    exact skip_wp (by intro c h; cases h) (fun _ _ => trivial) (by simp only [execOp, i4, i15]; simp [go_sem, c0, c1, c2, f0, f1, f2]) ⟨rfl, b, q0, c0', e1, bx.fill _ _ _ _ _, mx_ne7 hq (noB_mx boolF hq nb) _ _ _, mbox_set7 (mbox_set7 (mbox_set7 (x0.later hu) (by omega) _ _) (by omega) _ _) (by omega) _ _, Bl.put3 (b0.trans hu) (by have := b0.size; omega) _ _ _⟩
  case fin =>
    intro vs vb u0 u hu hin hps
    have a0 := hin 0 11 rfl
    have a1 := hin 1 12 rfl
    have a2 := hin 2 13 rfl
    have a3 := hin 3 14 rfl
    have a4 := hin 4 10 rfl
    have a5 := hin 5 15 rfl
    have a6 := hin 6 16 rfl
    have a7 := hin 7 4 rfl
    have a9 := hin 9 5 rfl
    simp only [putL, Act.put, List.setIfInBounds_toArray, List.set_cons_zero, List.set_cons_succ, Nat.zero_add, Nat.reduceAdd, Nat.reduceBEq, Bool.or_false, Bool.or_true, Bool.false_or, Bool.true_or, Bool.false_eq_true, if_false, if_true, reduceIte, Nat.reduceEqDiff, beq_self_eq_true, Bool.or_self] at a0 a1 a2 a3 a4 a5 a6 a7 a9 ⊢
    rw [if_pos (by decide)] at hps
    simp only [a0, a1, a6, a9]
    obtain ⟨b, q, c, e7, bx, hM, xz, hbw⟩ := hps
    simp only [e7]
    clear a2 a3 a4 a5 a7
    have MI := hideP (fun u' (hu' : Bl u u') => mMirrorF n q N c _ u' (hM.later hu'))
    obtain ⟨c0, c1, c2, f0, f1, f2, ltb⟩ := bx
    go_wp2_with fail
    refine (MI.out _ (Bl.refl _)).mono ?_
    rintro e w3 ⟨p', cap', rfl, ⟨hR, _, hF⟩, h3⟩
    have HR := hideP hR
    have HF := hideP (show Fresh (w.heap.size + 1 + 1) (.slice p' N cap') from fun g hg => by have := hF g hg; have := xz.lt; omega)
    clear hR hF MI c0 c1 c2 f0 f1 f2
    obtain ⟨c0, c1, c2, f0, f1, f2, lt2⟩ := xz.later h3
    go_wp2
    simp [bodyPost, results, Try.results51, go_sem, c0, c1, c2]
    exact ⟨p', cap', ⟨rfl, rfl⟩, ⟨mx_put7 HR.out HF.out _ _ _, fun g hg => by have := HF.out g hg; omega⟩, Bl.put3 (hbw.trans h3) (Nat.le_succ _) _ _ _⟩
theorem tSqF_no (r c : Int) (p : Option Addr) (n cap : Nat) (w : World) (hsq : sqB r c n = false) :
    Calls Try.prog 51 #[mV r c p n cap] w fun e w' => e = .returned (.tuple #[mV 0 0 none 0 0, .bool false]) ∧ Bl w w' := by
  obtain ⟨W, hW⟩ : ∃ W, W = (w.alloc (.cells #[.int .i64 r, .int .i64 c, .slice p n cap] 29)).alloc (.cells #[.int .i64 0, .int .i64 0, .slice none 0 0] 29) := ⟨_, rfl⟩
  have b0 : Bl w W := by rw [hW]; exact ((Bl.refl _).alloc _).alloc _
  have x0 : MBox W (w.heap.size + 1) 0 0 none 0 0 := by rw [hW]; have := MBox.new (w.alloc (.cells #[.int .i64 r, .int .i64 c, .slice p n cap] 29)) 0 0 none 0 0 29; rw [World.size_alloc] at this; exact this
  have HW := hideP hW
  clear hW
  go_enter Try.func51, Try.ntmps51
  go_wp2_with fail
  rw [← HW.out]
  refine (tSquareF _ _ _ _ _ _).mono ?_
  rintro e w1 ⟨rfl, h1⟩
  rw [hsq]
  obtain ⟨c0, c1, c2, f0, f1, f2, lt2⟩ := x0.later h1
  go_wp2
  simp [bodyPost, results, Try.results51, go_sem, c0, c1, c2]
  exact Bl.put3 (b0.trans h1) (Nat.le_succ _) _ _ _
end Go.Proofs.Ytlbmkjicbkfmjaa

/- Where a fold's triangle is fine, in fractions, its square is the square of what was folded (layer 8, HouseExact). Mathematics alone. -/
namespace Go.Proofs.Ytlbmkjicbkfmjaa
open Go.RowKit
set_option linter.unusedSimpArgs false
set_option linter.unusedVariables false

/-- Fractions, as a kind. -/
def kdF : Kd Fr := { z := wholeF 0, add := addR, sub := subR, mul := mulR, div := divR, root := rootR, neg := negR, dot := dotF }
theorem neg_q {a : Fr} (h : fineR (negR a) = true) : fineR a = true ∧ toQ (negR a) = -toQ a := by
  obtain ⟨_, h2, h3⟩ := sub_q (a := zR) (b := a) h
  refine ⟨h2, ?_⟩
  rw [show negR a = subR zR a from rfl, h3, toQ_z]
  grind
theorem z_q : toQ (wholeF 0) = 0 := new0_q
theorem tailH_q (m k : Nat) (f : Nat → Fr) : (tailH m k f).map toQ = (List.range (m - k)).map fun j => toQ (f (k + j)) := by unfold tailH; rw [List.map_map]; rfl
theorem dot_tail {m k : Nat} {f g : Nat → Fr} (h : fineR (dotF (tailH m k f) (tailH m k g)) = true) : (∀ c, k ≤ c → c < m → fineR (f c) = true ∧ fineR (g c) = true) ∧ toQ (dotF (tailH m k f) (tailH m k g)) = dT m k (fun c => toQ (f c)) (fun c => toQ (g c)) := by
  obtain ⟨h1, h2⟩ := dot_q h
  refine ⟨fun c h3 h4 => ?_, ?_⟩
  · have hm : mulR (f c) (g c) ∈ List.zipWith mulR (tailH m k f) (tailH m k g) := by
      refine List.mem_of_getElem? (i := c - k) ?_
      unfold tailH
      rw [List.getElem?_zipWith, List.getElem?_map, List.getElem?_map, List.getElem?_range (by omega)]
      simp [show k + (c - k) = c by omega]
    have := mul_q (h1 _ hm)
    exact ⟨this.1, this.2.1⟩
  · rw [h2, tailH_q, tailH_q, dotQ_sumH]
    rfl
/-- A row that has one number alone, at k. -/
theorem dT_one {m k : Nat} {f g : Nat → Rat} (hk : k < m) (h : ∀ c, k < c → c < m → f c = 0) : dT m k f g = f k * g k := by
  unfold dT
  obtain ⟨d, hd⟩ : ∃ d, m - k = 1 + d := ⟨m - k - 1, by omega⟩
  rw [hd, sumH_split]
  rw [sumH_zero d (fun j hj => by rw [h (k + (1 + j)) (by omega) (by omega), Rat.zero_mul])]
  show (0 : Rat) + f (k + 0) * g (k + 0) + 0 = _
  rw [Nat.add_zero, Rat.zero_add, Rat.add_zero]
theorem dT_zero {m k : Nat} {f g : Nat → Rat} (h : ∀ c, k ≤ c → c < m → f c = 0) : dT m k f g = 0 :=
  sumH_zero _ fun j hj => by rw [h (k + j) (by omega) (by omega), Rat.zero_mul]
theorem dT_congr {m k : Nat} {f g f' g' : Nat → Rat} (h : ∀ c, k ≤ c → c < m → f c = f' c) (h2 : ∀ c, k ≤ c → c < m → g c = g' c) : dT m k f g = dT m k f' g' :=
  sumH_congr _ fun j hj => by rw [h (k + j) (by omega) (by omega), h2 (k + j) (by omega) (by omega)]

theorem fold_all {n m : Nat} (hnm : n ≤ m) (σ τ : Nat → Bool) (a : Nat → Nat → Fr) (hT : ∀ i j, i < n → j ≤ i → fineR (foldH kdF n m σ τ a i j) = true) :
    ∀ i j, i < n → j < n → sumH n (fun c => toQ (foldH kdF n m σ τ a i c) * toQ (foldH kdF n m σ τ a j c)) = sumH m fun c => toQ (a i c) * toQ (a j c) := by
  obtain ⟨A, hA⟩ : ∃ A, A = foldTo kdF m σ a := ⟨_, rfl⟩
  have step : ∀ k i j, A (k + 1) i j = foldStep kdF m k (σ k) (A k) i j := fun k i j => by rw [hA]; rfl
  -- what stands below the diagonal at the end
  have an : ∀ i c, i < n → c ≤ i → fineR (A n i c) = true := fun i c hi hc => by
    have h := hT i c hi hc
    unfold foldH signsH at h
    rw [if_neg (by omega), ← hA] at h
    by_cases hl : c ≤ i ∧ τ c = true
    · rw [if_pos hl] at h
      exact (neg_q h).1
    · rw [if_neg hl] at h
      exact h
  have stay : ∀ i c k, i < k ∨ (c < k ∧ c < i) → ∀ d, A (k + d) i c = A k i c := fun i c k h d => by rw [hA]; exact foldTo_stays kdF m σ a h d
  have zero : ∀ i c k, i < k → i < c → A k i c = wholeF 0 := fun i c k h h2 => by rw [hA]; exact foldTo_zero kdF m σ a h h2
  have pk : ∀ k, A (k + 1) k k = pH kdF m k (σ k) (A k) := fun k => by rw [step]; unfold foldStep; rw [if_pos rfl, if_pos rfl]
  have hp : ∀ k, k < n → fineR (pH kdF m k (σ k) (A k)) = true := fun k hk => by
    obtain ⟨d, rfl⟩ := Nat.exists_eq_add_of_le (show k + 1 ≤ n from hk)
    have := an k k (by omega) (Nat.le_refl _)
    rw [stay k k (k + 1) (.inl (by omega)) d, pk] at this
    exact this
  -- the root
  have hroot : ∀ k, k < n → (∀ c, k ≤ c → c < m → fineR (A k k c) = true) ∧ toQ (pH kdF m k (σ k) (A k)) * toQ (pH kdF m k (σ k) (A k)) = dT m k (fun c => toQ (A k k c)) (fun c => toQ (A k k c)) := fun k hk => by
    have h := hp k hk
    obtain ⟨s, hs⟩ : ∃ s, s = rootR (dotF (tailH m k (A k k)) (tailH m k (A k k))) := ⟨_, rfl⟩
    have hps : fineR s = true ∧ toQ (pH kdF m k (σ k) (A k)) * toQ (pH kdF m k (σ k) (A k)) = toQ s * toQ s := by
      unfold pH at h ⊢
      by_cases hl : σ k = true
      · rw [if_pos hl] at h ⊢
        rw [hs]
        exact ⟨h, rfl⟩
      · rw [if_neg hl] at h ⊢
        obtain ⟨h1, h2⟩ := neg_q h
        rw [hs]
        refine ⟨h1, ?_⟩
        have h3 : toQ (kdF.neg (kdF.root (kdF.dot (tailH m k (A k k)) (tailH m k (A k k))))) = -toQ (rootR (dotF (tailH m k (A k k)) (tailH m k (A k k)))) := h2
        rw [h3]
        grind
    have hr := root_q (a := dotF (tailH m k (A k k)) (tailH m k (A k k))) (by rw [← hs]; exact hps.1)
    obtain ⟨h1, h2⟩ := dot_tail hr.1
    refine ⟨fun c hc hm => (h1 c hc hm).1, ?_⟩
    rw [hps.2, hs, hr.2.1, h2]
  -- rows that are still to come
  have rowi : ∀ i, i < n → ∀ c, c < m → fineR (A i i c) = true := fun i hi c hc => by
    by_cases h : c < i
    · obtain ⟨d, hd⟩ := Nat.exists_eq_add_of_le (show i ≤ n by omega)
      have := an i c hi (by omega)
      rw [hd, stay i c i (.inr ⟨h, h⟩) d] at this
      exact this
    · exact (hroot i hi).1 c (by omega) hc
  have down : ∀ k i, k < i → (∀ c, c < m → fineR (A (k + 1) i c) = true) → (∀ c, c < m → fineR (A k i c) = true) ∧ (k < m → fineR (tH kdF m k (σ k) (A k) i) = true ∧ ∀ c, k ≤ c → c < m → fineR (vH kdF m k (σ k) (A k) c) = true ∧ toQ (A (k + 1) i c) = toQ (A k i c) - toQ (vH kdF m k (σ k) (A k) c) * toQ (tH kdF m k (σ k) (A k) i)) := fun k i hk h => by
    have e : ∀ c, k ≤ c → A (k + 1) i c = subR (A k i c) (mulR (vH kdF m k (σ k) (A k) c) (tH kdF m k (σ k) (A k) i)) := fun c hc => by
      rw [step]; unfold foldStep; rw [if_neg (by omega), if_pos ⟨hk, hc⟩]; rfl
    have q : ∀ c, k ≤ c → c < m → fineR (A k i c) = true ∧ fineR (vH kdF m k (σ k) (A k) c) = true ∧ fineR (tH kdF m k (σ k) (A k) i) = true ∧ toQ (A (k + 1) i c) = toQ (A k i c) - toQ (vH kdF m k (σ k) (A k) c) * toQ (tH kdF m k (σ k) (A k) i) := fun c hc hm => by
      have h1 := h c hm
      rw [e c hc] at h1 ⊢
      obtain ⟨g1, g2, g3⟩ := sub_q h1
      obtain ⟨g4, g5, g6⟩ := mul_q g2
      exact ⟨g1, g4, g5, by rw [g3, g6]⟩
    refine ⟨fun c hc => ?_, fun hm => ⟨(q k (Nat.le_refl _) hm).2.2.1, fun c h1 h2 => ⟨(q c h1 h2).2.1, (q c h1 h2).2.2.2⟩⟩⟩
    by_cases h2 : k ≤ c
    · exact (q c h2 hc).1
    · have := h c hc
      rw [step] at this
      unfold foldStep at this
      rwa [if_neg (by omega), if_neg (by omega)] at this
  have rows : ∀ d k i, k + d = i → i < n → ∀ c, c < m → fineR (A k i c) = true := by
    intro d
    induction d with
    | zero =>
      intro k i h hi
      obtain rfl : k = i := by omega
      exact rowi k hi
    | succ d ih => intro k i h hi; exact (down k i (by omega) (ih (k + 1) i (by omega) hi)).1
  -- one step's rational numbers
  have vk : ∀ k i, k < i → i < n → toQ (vH kdF m k (σ k) (A k) k) = toQ (A k k k) - toQ (pH kdF m k (σ k) (A k)) ∧ (∀ c, k < c → vH kdF m k (σ k) (A k) c = A k k c) ∧
      toQ (tH kdF m k (σ k) (A k) i) * dT m k (fun c => toQ (vH kdF m k (σ k) (A k) c)) (fun c => toQ (vH kdF m k (σ k) (A k) c)) = dT m k (fun c => toQ (A k i c)) (fun c => toQ (vH kdF m k (σ k) (A k) c)) + dT m k (fun c => toQ (A k i c)) (fun c => toQ (vH kdF m k (σ k) (A k) c)) ∧
      dT m k (fun c => toQ (vH kdF m k (σ k) (A k) c)) (fun c => toQ (vH kdF m k (σ k) (A k) c)) ≠ 0 := fun k i hk hi => by
    obtain ⟨_, hd⟩ := down k i hk (rows (i - (k + 1)) (k + 1) i (by omega) hi)
    obtain ⟨ht, hv⟩ := hd (by omega)
    have h1 := (hv k (Nat.le_refl _) (by omega)).1
    refine ⟨?_, fun c hc => by unfold vH; rw [if_neg (by omega)], ?_⟩
    · unfold vH at h1 ⊢
      rw [if_pos rfl] at h1 ⊢
      exact (sub_q h1).2.2
    · obtain ⟨g1, g2, g3, g4⟩ := div_q (a := addR (dotF (tailH m k (A k i)) (tailH m k (vH kdF m k (σ k) (A k)))) (dotF (tailH m k (A k i)) (tailH m k (vH kdF m k (σ k) (A k))))) (b := dotF (tailH m k (vH kdF m k (σ k) (A k))) (tailH m k (vH kdF m k (σ k) (A k)))) ht
      have g5 := div_mul_q (a := addR (dotF (tailH m k (A k i)) (tailH m k (vH kdF m k (σ k) (A k)))) (dotF (tailH m k (A k i)) (tailH m k (vH kdF m k (σ k) (A k))))) (b := dotF (tailH m k (vH kdF m k (σ k) (A k))) (tailH m k (vH kdF m k (σ k) (A k)))) ht
      obtain ⟨g6, _, g7⟩ := add_q g1
      rw [(dot_tail g2).2] at g3 g5
      rw [g7, (dot_tail g6).2] at g5
      exact ⟨g5, g3⟩
  -- both rows behind one step
  have keep : ∀ k i j, k < n → i < n → j < n → i ≤ j → dT m k (fun c => toQ (A (k + 1) i c)) (fun c => toQ (A (k + 1) j c)) = dT m k (fun c => toQ (A k i c)) (fun c => toQ (A k j c)) := fun k i j hk hi hj hij => by
    have new : ∀ j, k < j → j < n → ∀ c, k ≤ c → c < m → toQ (A (k + 1) j c) = toQ (A k j c) - toQ (vH kdF m k (σ k) (A k) c) * toQ (tH kdF m k (σ k) (A k) j) := fun j h hj c hc hm => by
      obtain ⟨_, hd⟩ := down k j h (rows (j - (k + 1)) (k + 1) j (by omega) hj)
      exact ((hd (by omega)).2 c hc hm).2
    by_cases h1 : i < k
    · have e : A (k + 1) i = A k i := by funext c; exact stay i c k (.inl h1) 1
      rw [e, dT_zero (fun c h2 _ => by rw [zero i c k h1 (by omega)]; exact z_q), dT_zero (fun c h2 _ => by rw [zero i c k h1 (by omega)]; exact z_q)]
    · by_cases h2 : i = k
      · subst h2
        have hz : ∀ c, i < c → c < m → toQ (A (i + 1) i c) = 0 := fun c h _ => by rw [zero i c (i + 1) (by omega) h]; exact z_q
        rw [dT_one (by omega) hz, pk]
        by_cases h3 : j = i
        · subst h3
          rw [pk]
          exact (hroot j hj).2
        · have hji : i < j := by omega
          obtain ⟨v1, v2, v3, _⟩ := vk i j hji hj
          rw [new j hji hj i (Nat.le_refl _) (by omega)]
          have hr := (hroot i hk).2
          obtain ⟨p, hpp⟩ : ∃ p, p = toQ (pH kdF m i (σ i) (A i)) := ⟨_, rfl⟩
          obtain ⟨t, htt⟩ : ∃ t, t = toQ (tH kdF m i (σ i) (A i) j) := ⟨_, rfl⟩
          rw [← hpp] at hr v1 ⊢
          rw [← htt] at v3 ⊢
          -- v is x, less p at i
          have ev : ∀ g : Nat → Rat, dT m i (fun c => toQ (vH kdF m i (σ i) (A i) c)) g = dT m i (fun c => toQ (A i i c)) g - p * g i := fun g => by
            rw [dT_congr (f' := fun c => toQ (A i i c) - (if c = i then (1 : Rat) else 0) * p) (g' := g) (fun c h4 h5 => by
              by_cases hc : c = i
              · subst hc; rw [v1, if_pos rfl]; grind
              · rw [v2 c (by omega), if_neg hc]; grind) (fun _ _ _ => rfl)]
            rw [dT_subl, dT_one (f := fun c => if c = i then (1 : Rat) else 0) (by omega) (fun c h4 _ => if_neg (by omega)), if_pos rfl]
            grind
          have e1 := ev (fun c => toQ (A i j c))
          have e2 := ev (fun c => toQ (vH kdF m i (σ i) (A i) c))
          have e3 := ev (fun c => toQ (A i i c))
          rw [dT_comm m i (fun c => toQ (A i i c)) (fun c => toQ (vH kdF m i (σ i) (A i) c))] at e2
          rw [dT_comm m i (fun c => toQ (A i j c)) (fun c => toQ (vH kdF m i (σ i) (A i) c))] at v3
          rw [v1] at e2 ⊢
          rw [e3] at e2
          rw [e2] at v3
          rw [← hr] at v3
          rw [e1] at v3
          grind
      · obtain ⟨_, _, v3, v4⟩ := vk k i (by omega) hi
        obtain ⟨_, _, v5, _⟩ := vk k j (by omega) hj
        rw [dT_congr (fun c h3 h4 => new i (by omega) hi c h3 h4) (fun c h3 h4 => new j (by omega) hj c h3 h4)]
        exact dT_fold v4 v3 v5
  have gram : ∀ k, k ≤ n → ∀ i j, i < n → j < n → i ≤ j → sumH m (fun c => toQ (A k i c) * toQ (A k j c)) = sumH m fun c => toQ (a i c) * toQ (a j c) := by
    intro k
    induction k with
    | zero => intro _ i j _ _ _; rw [hA]; rfl
    | succ k ih =>
      intro hk i j hi hj hij
      rw [← ih (by omega) i j hi hj hij]
      have hm : m = k + (m - k) := by omega
      have old : ∀ i c, c < k → A (k + 1) i c = A k i c := fun i c hc => by
        rw [step]; unfold foldStep
        by_cases h : i = k
        · rw [if_pos h, if_neg (by omega), if_neg (by omega)]
        · rw [if_neg h, if_neg (by omega)]
      have hs : ∀ f : Nat → Rat, sumH m f = sumH k f + sumH (m - k) fun j => f (k + j) := fun f => by
        have := sumH_split f k (m - k)
        rw [← hm] at this
        exact this
      rw [hs, hs, sumH_congr k (g := fun c => toQ (A k i c) * toQ (A k j c)) fun c hc => by rw [old i c hc, old j c hc]]
      congr 1
      exact keep k i j (by omega) hi hj hij
  -- the end
  have fin : ∀ i j, i < n → j < n → i ≤ j → sumH n (fun c => toQ (foldH kdF n m σ τ a i c) * toQ (foldH kdF n m σ τ a j c)) = sumH m fun c => toQ (a i c) * toQ (a j c) := fun i j hi hj hij => by
    rw [← gram n (Nat.le_refl _) i j hi hj hij]
    obtain ⟨d, hd⟩ := Nat.exists_eq_add_of_le hnm
    rw [hd, sumH_split, sumH_zero d (fun c hc => by rw [zero i (n + c) n hi (by omega), z_q, Rat.zero_mul]), Rat.add_zero]
    refine sumH_congr n fun c hc => ?_
    by_cases h : i < c
    · rw [zero i c n hi h, z_q, Rat.zero_mul]
      unfold foldH
      rw [if_pos h]
      show toQ (wholeF 0) * _ = 0
      rw [z_q, Rat.zero_mul]
    · have one : ∀ i, i < n → c ≤ i → toQ (foldH kdF n m σ τ a i c) = (if τ c = true then -1 else 1) * toQ (A n i c) := fun i hi h => by
        have hf := hT i c hi h
        unfold foldH signsH at hf ⊢
        rw [← hd, ← hA] at *
        rw [if_neg (by omega)] at hf ⊢
        by_cases hl : τ c = true
        · rw [if_pos ⟨h, hl⟩] at hf ⊢
          rw [if_pos hl]
          have := (neg_q hf).2
          show toQ (negR (A n i c)) = _
          rw [this]
          grind
        · rw [if_neg (fun hh => hl hh.2)] at hf ⊢
          rw [if_neg hl]
          grind
      rw [← hd] at *
      rw [one i hi (by omega), one j hj (by omega)]
      by_cases hl : τ c = true
      · rw [if_pos hl]; grind
      · rw [if_neg hl]; grind
  intro i j hi hj
  by_cases h : i ≤ j
  · exact fin i j hi hj h
  · rw [sumH_congr n (g := fun c => toQ (foldH kdF n m σ τ a j c) * toQ (foldH kdF n m σ τ a i c)) fun c _ => Rat.mul_comm _ _, fin j i hj hi (by omega)]
    exact sumH_congr m fun c _ => Rat.mul_comm _ _
end Go.Proofs.Ytlbmkjicbkfmjaa

/- Contracts of mat's each, Add, Sub, of fractions (layer 6). -/
namespace Go.Proofs.Ytlbmkjicbkfmjaa
open Go.RowKit
set_option linter.unusedSimpArgs false
set_option linter.unusedVariables false

/-- What the last region of each reads. -/
structure EachS (w : World) (R C : Int) (p q : Option Addr) (n cap cap2 : Nat) (u : World) : Prop where
  x : MBox u w.heap.size R C p n cap
  y : MBox u (w.heap.size + 1) R C q n cap2
  z : ∃ r' c' p' n' k', MBox u (w.heap.size + 1 + 1) r' c' p' n' k'
  bl : Bl w u
theorem Rq.set {α : Type} {s : Nat} {c : α → List Value} {w : World} {v : Value} {xs : List α} (h : Rq s c w v xs) {p : Addr} (u : Value) (hf : Fresh (p.block + 1) v) : Rq s c (w.setCell p u) v xs := by
  rcases h with h | ⟨b, o, cap, rfl, hc, hb, hx⟩
  · exact .inl h
  · have hne : p.block + 1 ≤ b := hf b rfl
    have hk : (w.setCell p u).heap[b]? = w.heap[b]? := Below.heap_setCell _ _ _ b (by omega)
    exact .inr ⟨b, o, cap, rfl, hc, by simpa using hb, fun j x hj k v hv => (World.cell?_of_block (a := ⟨b, o + j * s + k, none⟩) hk).trans (hx j x hj k v hv)⟩
theorem Mx.put3 {α : Type} {s : Nat} {c : α → List Value} {w : World} {R C : Nat} {p : Option Addr} {n cap b : Nat} {f : Nat → Nat → α} (h : Mx s c w R C p n cap f) (hf : Fresh (b + 1) (.slice p n cap)) (v0 v1 v2 : Value) : Mx s c (((w.setCell ⟨b, 0, none⟩ v0).setCell ⟨b, 1, none⟩ v1).setCell ⟨b, 2, none⟩ v2) R C p n cap f :=
  ⟨h.1, h.2.1, ((h.2.2.set (p := ⟨b, 0, none⟩) v0 hf).set (p := ⟨b, 1, none⟩) v1 hf).set (p := ⟨b, 2, none⟩) v2 hf⟩
theorem mbox_set {w : World} {b b' : Nat} {r c : Int} {p : Option Addr} {n cap : Nat} (h : MBox w b r c p n cap) (hne : b ≠ b') (o : Nat) (v : Value) : MBox (w.setCell ⟨b', o, none⟩ v) b r c p n cap :=
  mbox_block h (Below.heap_setCell _ _ _ b (by show b ≠ b'; exact hne)) (by simp)
theorem EachS.later {w : World} {R C : Int} {p q : Option Addr} {n cap cap2 : Nat} {u u' : World} (h : EachS w R C p q n cap cap2 u) (k : Bl u u') : EachS w R C p q n cap cap2 u' :=
  ⟨h.x.later k, h.y.later k, by obtain ⟨a, b, c, d, e, m⟩ := h.z; exact ⟨a, b, c, d, e, m.later k⟩, h.bl.trans k⟩
theorem EachS.stored {w : World} {R C : Int} {p q : Option Addr} {n cap cap2 : Nat} {u : World} (h : EachS w R C p q n cap cap2 u) (r' c' : Int) (p' : Option Addr) (n' cap' : Nat) :
    EachS w R C p q n cap cap2 (((u.setCell ⟨w.heap.size + 1 + 1, 0, none⟩ (.int .i64 r')).setCell ⟨w.heap.size + 1 + 1, 1, none⟩ (.int .i64 c')).setCell ⟨w.heap.size + 1 + 1, 2, none⟩ (.slice p' n' cap')) :=
  ⟨mbox_set (mbox_set (mbox_set h.x (by omega) _ _) (by omega) _ _) (by omega) _ _, mbox_set (mbox_set (mbox_set h.y (by omega) _ _) (by omega) _ _) (by omega) _ _, by obtain ⟨a, b, c, d, e, m⟩ := h.z; exact ⟨_, _, _, _, _, m.fill r' c' p' n' cap'⟩, Bl.put3 h.bl (by omega) _ _ _⟩
set_option maxRecDepth 100000 in
set_option maxHeartbeats 2000000 in
theorem mEach_any (G : Nat) (op : Fr → Fr → Fr) (eg : ∀ (args : Array Value) (w : World), (callFunc G args).run Try.prog w = .ok (.enter G args) w) (R C : Nat) (p q : Option Addr) (n cap cap2 : Nat) (f g : Nat → Nat → Fr) (w : World) (hx : Mx 3 cellsF w R C p n cap f) (hy : Mx 3 cellsF w R C q n cap2 g)
    (hG : ∀ (va vb : Value) (xs ys : List Fr) (w : World), Rq 3 cellsF w va xs → Rq 3 cellsF w vb ys → xs.length ≤ 1000000 → ys.length ≤ 1000000 → Calls Try.prog G #[va, vb] w fun e w' => ∃ u, e = .returned u ∧ Rw 3 cellsF w' u (List.zipWith op xs ys) ∧ Fresh w.heap.size u ∧ Bl w w') :
    Calls Try.prog 69 #[mV R C p n cap, mV R C q n cap2, .func (.func G) #[] #[]] w fun e w' => ∃ p' cap', e = .returned (.tuple #[mV R C p' n cap', .bool true]) ∧ (Mx 3 cellsF w' R C p' n cap' (fun i k => op (f i k) (g i k)) ∧ Fresh w.heap.size (.slice p' n cap')) ∧ Bl w w' := by
  have hfx := hx.fit
  have fm : Try.prog.follows .mixedOrders = true := by kernel_rfl
  obtain ⟨W, hW⟩ : ∃ W, W = ((w.alloc (.cells #[.int .i64 R, .int .i64 C, .slice p n cap] 29)).alloc (.cells #[.int .i64 R, .int .i64 C, .slice q n cap2] 29)).alloc (.cells #[.int .i64 0, .int .i64 0, .slice none 0 0] 29) := ⟨_, rfl⟩
  have b0 : Bl w W := by rw [hW]; exact (((Bl.refl _).alloc _).alloc _).alloc _
  have mx0 : MBox W w.heap.size R C p n cap := by rw [hW]; exact (MBox.new w _ _ _ _ _ _).later (((Bl.refl _).alloc _).alloc _)
  have my0 : MBox W (w.heap.size + 1) R C q n cap2 := by rw [hW]; have := (MBox.new (w.alloc (.cells #[.int .i64 R, .int .i64 C, .slice p n cap] 29)) R C q n cap2 29); rw [World.size_alloc] at this; exact this.later ((Bl.refl _).alloc _)
  have mz0 : MBox W (w.heap.size + 1 + 1) 0 0 none 0 0 := by rw [hW]; have := MBox.new ((w.alloc (.cells #[.int .i64 R, .int .i64 C, .slice p n cap] 29)).alloc (.cells #[.int .i64 R, .int .i64 C, .slice q n cap2] 29)) 0 0 none 0 0 29; rw [World.size_alloc, World.size_alloc] at this; exact this
  have hs0 : W.heap.size = w.heap.size + 1 + 1 + 1 := by rw [hW]; simp
  have HX := hideP hx
  have HY := hideP hy
  have HG := hideP hG
  have HW := hideP hW
  clear hW hx hy hG
  go_enter Try.func69, Try.ntmps69
  go_wp2_with fail
  rw [← HW.out]
  refine (mRightF _ _ _ _ _ _).mono ?_
  rintro e w1 ⟨rfl, h1⟩
  rw [hfx]
  obtain ⟨d0, d1, d2, u0, u1, u2, ltm⟩ := my0.later h1
  go_wp2_with fail
  refine (mRightF _ _ _ _ _ _).mono ?_
  rintro e w2 ⟨rfl, h2⟩
  rw [hfx]
  clear d0 d1 d2 u0 u1 u2 ltm
  have hB2 : Bl W w2 := h1.trans h2
  obtain ⟨c0, c1, c2, f0, f1, f2, lt⟩ := mx0.later hB2
  obtain ⟨d0, d1, d2, u0, u1, u2, ltm⟩ := my0.later hB2
  go_wp2_with fail
  clear c0 c1 c2 f0 f1 f2 lt d0 d1 d2 u0 u1 u2 ltm
  have ES : EachS w R C p q n cap cap2 w2 := ⟨mx0.later hB2, my0.later hB2, ⟨_, _, _, _, _, mz0.later hB2⟩, b0.trans hB2⟩
  have CL := hideP (fun (u : World) (hu : Bl w u) => (HG.out (.slice p n cap) (.slice q n cap2) (mk R C f) (mk R C g) u (HX.out.2.2.later hu) (HY.out.2.2.later hu) (by rw [mk_len]; have := HX.out.1.lt; omega) (by rw [mk_len]; have := HX.out.1.lt; omega)).mono (R' := fun e w' => ∃ p' cap', e = .returned (.slice p' n cap') ∧ (Rw 3 cellsF w' (.slice p' n cap') (mk R C (fun i k => op (f i k) (g i k))) ∧ Fresh u.heap.size (.slice p' n cap')) ∧ Bl u w') (by
    rintro e w' ⟨v, rfl, hr, hf, hb⟩
    rw [mk_zip] at hr
    obtain ⟨p', cap', rfl, _, _⟩ := hr.cut
    rw [mk_len, ← HX.out.2.1] at hr hf ⊢
    exact ⟨p', cap', rfl, ⟨hr, hf⟩, hb⟩))
  have KP := hideP (fun (u : World) (hu : EachS w R C p q n cap cap2 u) => (show u.cell? ⟨w.heap.size, 0, none⟩ = some (.int .i64 R) ∧ u.cell? ⟨w.heap.size, 1, none⟩ = some (.int .i64 C) ∧ u.cell? ⟨w.heap.size, 2, none⟩ = some (.slice p n cap) ∧ u.cell? ⟨w.heap.size + 1, 2, none⟩ = some (.slice q n cap2) ∧ EachS w R C p q n cap cap2 u from ⟨hu.x.c0, hu.x.c1, hu.x.c2, hu.y.c2, hu⟩))
  have HES := hideP ES
  clear ES mx0 my0 mz0
  go_region_held3 (fun u => u.cell? ⟨w.heap.size, 0, none⟩ = some (.int .i64 R) ∧ u.cell? ⟨w.heap.size, 1, none⟩ = some (.int .i64 C) ∧ u.cell? ⟨w.heap.size, 2, none⟩ = some (.slice p n cap) ∧ u.cell? ⟨w.heap.size + 1, 2, none⟩ = some (.slice q n cap2) ∧ EachS w R C p q n cap cap2 u)
    (first | exact KP.out _ ((HES.out.later (show Bl w2 w3 by repeat (first | exact Bl.refl _ | apply Bl.drew | (refine Bl.trans ?_ (by assumption))))).stored _ _ _ _ _) | exact KP.out _ (HES.out.later (by repeat (first | exact Bl.refl _ | apply Bl.drew | (refine Bl.trans ?_ (by assumption))))))
    (first
      | (refine (CL.out _ (HES.out.later (by repeat (first | exact Bl.refl _ | apply Bl.drew | (refine Bl.trans ?_ (by assumption))))).bl).mono ?_; rintro e w3 ⟨p', cap', rfl, ⟨hR, hF⟩, h3⟩; obtain ⟨a1, a2, a3, a4, a5, ⟨z0, z1, z2, y0, y1, y2, ltz⟩⟩ := (HES.out.later (show Bl w2 w3 by repeat (first | exact Bl.refl _ | apply Bl.drew | (refine Bl.trans ?_ (by assumption))))).z))
  have hF' : Fresh (w.heap.size + 1 + 1 + 1) (.slice p' n cap') := fun b hb => by
    have h1 := hF b hb
    have h2 := hB2.size
    have h4 : w2.heap.size ≤ w2.drew.heap.size := Nat.le_refl _
    omega
  have HR := hideP hR
  have HF := hideP hF'
  clear hR hF hF'
  rename_i hh
  obtain ⟨_, _, _, _, hS⟩ := hh
  have HS := hideP hS
  clear hS
  go_wp2
  simp [bodyPost, results, Try.results69, go_sem, z0, z1, z2]
  have q := ((HR.out.set (p := ⟨w.heap.size + 1 + 1, 0, none⟩) (.int .i64 R) HF.out).set (p := ⟨w.heap.size + 1 + 1, 1, none⟩) (.int .i64 C) HF.out).set (p := ⟨w.heap.size + 1 + 1, 2, none⟩) (.slice p' n cap') HF.out
  exact ⟨p', cap', ⟨rfl, rfl⟩, ⟨⟨HX.out.1, HX.out.2.1, q.q⟩, fun b hb => by have := HF.out b hb; omega⟩, HS.out.bl⟩
theorem mAddF' (R C : Nat) (p q : Option Addr) (n cap cap2 : Nat) (f g : Nat → Nat → Fr) (w : World) (hx : Mx 3 cellsF w R C p n cap f) (hy : Mx 3 cellsF w R C q n cap2 g) :
    Calls Try.prog 59 #[mV R C p n cap, mV R C q n cap2] w fun e w' => ∃ p' cap', e = .returned (.tuple #[mV R C p' n cap', .bool true]) ∧ (Mx 3 cellsF w' R C p' n cap' (fun i k => addR (f i k) (g i k)) ∧ Fresh w.heap.size (.slice p' n cap')) ∧ Bl w w' := by
  obtain ⟨W, hW⟩ : ∃ W, W = ((w.alloc (.cells #[.int .i64 R, .int .i64 C, .slice p n cap] 29)).alloc (.cells #[.int .i64 R, .int .i64 C, .slice q n cap2] 29)).alloc (.cells #[.int .i64 0, .int .i64 0, .slice none 0 0] 29) := ⟨_, rfl⟩
  have b0 : Bl w W := by rw [hW]; exact (((Bl.refl _).alloc _).alloc _).alloc _
  have mz0 : MBox W (w.heap.size + 1 + 1) 0 0 none 0 0 := by rw [hW]; have := MBox.new ((w.alloc (.cells #[.int .i64 R, .int .i64 C, .slice p n cap] 29)).alloc (.cells #[.int .i64 R, .int .i64 C, .slice q n cap2] 29)) 0 0 none 0 0 29; rw [World.size_alloc, World.size_alloc] at this; exact this
  have hs0 : W.heap.size = w.heap.size + 1 + 1 + 1 := by rw [hW]; simp
  have E := hideP (mEach_any 29 addR (enters_of Try.func29 (by kernel_rfl) rfl) R C p q n cap cap2 f g W (hx.later b0) (hy.later b0) (fun va vb xs ys w h1 h2 h3 h4 => vAddF' va vb xs ys w h1 h2 h3 h4))
  have HW := hideP hW
  clear hW hx hy
  go_enter Try.func59, Try.ntmps59
  go_wp2_with fail
  rw [← HW.out]
  refine E.out.mono ?_
  rintro e w1 ⟨p', cap', rfl, ⟨hm, hf⟩, h1⟩
  have HM := hideP hm
  have HF := hideP (show Fresh (w.heap.size + 1 + 1 + 1) (.slice p' n cap') from fun b hb => by have := hf b hb; omega)
  obtain ⟨z0, z1, z2, y0, y1, y2, ltz⟩ := mz0.later h1
  clear hm hf E
  go_wp2
  simp [bodyPost, results, Try.results59, go_sem, z0, z1, z2]
  exact ⟨p', cap', ⟨rfl, rfl⟩, ⟨Mx.put3 HM.out HF.out _ _ _, fun b hb => by have := HF.out b hb; omega⟩, Bl.put3 (b0.trans h1) (by omega) _ _ _⟩
theorem mAdd_any (R C : Nat) (p q : Option Addr) (n cap cap2 : Nat) (f g : Nat → Nat → Fr) (w : World) (hx : Mx 3 cellsF w R C p n cap f) (hy : Mx 3 cellsF w R C q n cap2 g) :
    Calls Try.prog 59 #[mV R C p n cap, mV R C q n cap2] w fun e w' => ∃ p' cap', e = .returned (.tuple #[mV R C p' n cap', .bool true]) ∧ Mx 3 cellsF w' R C p' n cap' (fun i k => addR (f i k) (g i k)) ∧ Bl w w' :=
  (mAddF' R C p q n cap cap2 f g w hx hy).mono fun _ _ ⟨p', c', h1, h2, h3⟩ => ⟨p', c', h1, h2.1, h3⟩
theorem mSubF' (R C : Nat) (p q : Option Addr) (n cap cap2 : Nat) (f g : Nat → Nat → Fr) (w : World) (hx : Mx 3 cellsF w R C p n cap f) (hy : Mx 3 cellsF w R C q n cap2 g) :
    Calls Try.prog 57 #[mV R C p n cap, mV R C q n cap2] w fun e w' => ∃ p' cap', e = .returned (.tuple #[mV R C p' n cap', .bool true]) ∧ (Mx 3 cellsF w' R C p' n cap' (fun i k => subR (f i k) (g i k)) ∧ Fresh w.heap.size (.slice p' n cap')) ∧ Bl w w' := by
  obtain ⟨W, hW⟩ : ∃ W, W = ((w.alloc (.cells #[.int .i64 R, .int .i64 C, .slice p n cap] 29)).alloc (.cells #[.int .i64 R, .int .i64 C, .slice q n cap2] 29)).alloc (.cells #[.int .i64 0, .int .i64 0, .slice none 0 0] 29) := ⟨_, rfl⟩
  have b0 : Bl w W := by rw [hW]; exact (((Bl.refl _).alloc _).alloc _).alloc _
  have mz0 : MBox W (w.heap.size + 1 + 1) 0 0 none 0 0 := by rw [hW]; have := MBox.new ((w.alloc (.cells #[.int .i64 R, .int .i64 C, .slice p n cap] 29)).alloc (.cells #[.int .i64 R, .int .i64 C, .slice q n cap2] 29)) 0 0 none 0 0 29; rw [World.size_alloc, World.size_alloc] at this; exact this
  have hs0 : W.heap.size = w.heap.size + 1 + 1 + 1 := by rw [hW]; simp
  have E := hideP (mEach_any 70 subR (enters_of Try.func70 (by kernel_rfl) rfl) R C p q n cap cap2 f g W (hx.later b0) (hy.later b0) (fun va vb xs ys w h1 h2 h3 h4 => vSubF' va vb xs ys w h1 h2 h3 h4))
  have HW := hideP hW
  clear hW hx hy
  go_enter Try.func57, Try.ntmps57
  go_wp2_with fail
  rw [← HW.out]
  refine E.out.mono ?_
  rintro e w1 ⟨p', cap', rfl, ⟨hm, hf⟩, h1⟩
  have HM := hideP hm
  have HF := hideP (show Fresh (w.heap.size + 1 + 1 + 1) (.slice p' n cap') from fun b hb => by have := hf b hb; omega)
  obtain ⟨z0, z1, z2, y0, y1, y2, ltz⟩ := mz0.later h1
  clear hm hf E
  go_wp2
  simp [bodyPost, results, Try.results57, go_sem, z0, z1, z2]
  exact ⟨p', cap', ⟨rfl, rfl⟩, ⟨Mx.put3 HM.out HF.out _ _ _, fun b hb => by have := HF.out b hb; omega⟩, Bl.put3 (b0.trans h1) (by omega) _ _ _⟩
theorem mSub_any (R C : Nat) (p q : Option Addr) (n cap cap2 : Nat) (f g : Nat → Nat → Fr) (w : World) (hx : Mx 3 cellsF w R C p n cap f) (hy : Mx 3 cellsF w R C q n cap2 g) :
    Calls Try.prog 57 #[mV R C p n cap, mV R C q n cap2] w fun e w' => ∃ p' cap', e = .returned (.tuple #[mV R C p' n cap', .bool true]) ∧ Mx 3 cellsF w' R C p' n cap' (fun i k => subR (f i k) (g i k)) ∧ Bl w w' :=
  (mSubF' R C p q n cap cap2 f g w hx hy).mono fun _ _ ⟨p', c', h1, h2, h3⟩ => ⟨p', c', h1, h2.1, h3⟩
end Go.Proofs.Ytlbmkjicbkfmjaa

/- Contracts of joseph's New, around, mirrored, of fractions (layer 9). Written by genJo.py. -/
namespace Go.Proofs.Ytlbmkjicbkfmjaa
open Go.RowKit
set_option linter.unusedSimpArgs false
set_option linter.unusedVariables false

theorem Try.buildSF (q : Option Addr) (n c : Nat) (r d : Int) (p : Option Addr) (N cap : Nat) (u : World) : (Instr.build 31 #[(0, .slice q n c), (1, mV r d p N cap)]).run Try.prog u = .ok (sJ q n c r d p N cap) u := by kernel_rfl
theorem rw_put4F {w : World} {v : Value} {xs : List Fr} {b : Nat} (h : Rw 3 cellsF w v xs) (hf : Fresh (b + 1) v) (v0 v1 v2 v3 : Value) : Rw 3 cellsF ((((w.setCell ⟨b, 0, none⟩ v0).setCell ⟨b, 1, none⟩ v1).setCell ⟨b, 2, none⟩ v2).setCell ⟨b, 3, none⟩ v3) v xs := by
  rcases h with h | ⟨g, o, cap, rfl, hc, hb, hx⟩
  · exact .inl h
  · have hne : b + 1 ≤ g := hf g rfl
    have hk : ((((w.setCell ⟨b, 0, none⟩ v0).setCell ⟨b, 1, none⟩ v1).setCell ⟨b, 2, none⟩ v2).setCell ⟨b, 3, none⟩ v3).heap[g]? = w.heap[g]? := by
      rw [Below.heap_setCell _ _ _ g (by show g ≠ b; omega), Below.heap_setCell _ _ _ g (by show g ≠ b; omega), Below.heap_setCell _ _ _ g (by show g ≠ b; omega), Below.heap_setCell _ _ _ g (by show g ≠ b; omega)]
    exact .inr ⟨g, o, cap, rfl, hc, by simpa using hb, fun j x hj k v hv => (World.cell?_of_block (a := ⟨g, o + j * 3 + k, none⟩) hk).trans (hx j x hj k v hv)⟩
theorem clone_linF (px : Option Addr) (n cx : Nat) (x : Nat → Fr) (w : World) (h : Rq 3 cellsF w (.slice px n cx) (linJ n x)) (hl : n ≤ 1000000) :
    Calls Try.prog 52 #[.slice px n cx] w fun e w' => ∃ q c, e = .returned (.slice q n c) ∧ (Rw 3 cellsF w' (.slice q n c) (linJ n x) ∧ Fresh w.heap.size (.slice q n c)) ∧ Bl w w' :=
  (vCloneF _ _ w h (by rw [linJ_len]; exact hl)).mono fun e w' ⟨u, he, hr, hf, hb⟩ => by
    obtain ⟨q, c, rfl, _, _⟩ := hr.cut
    rw [linJ_len] at hr hf he
    exact ⟨q, c, he, ⟨hr, hf⟩, hb⟩
set_option maxRecDepth 100000 in
set_option maxHeartbeats 2000000 in
theorem jNewF (n : Nat) (px : Option Addr) (cx : Nat) (x : Nat → Fr) (p : Option Addr) (N cap : Nat) (f : Nat → Nat → Fr) (w : World) (hx : Rq 3 cellsF w (.slice px n cx) (linJ n x)) (h : Mx 3 cellsF w n n p N cap f) (h4 : n ≤ 4) :
    Calls Try.prog 22 #[.slice px n cx, mV n n p N cap] w fun e w' => ∃ q c p' c', e = .returned (.tuple #[sJ q n c n n p' N c', .bool true]) ∧ (Rw 3 cellsF w' (.slice q n c) (linJ n x) ∧ Mx 3 cellsF w' n n p' N c' (squareJ kdF n f)) ∧ Bl w w' := by
  have fm : Try.prog.follows .mixedOrders = true := by kernel_rfl
  have egC := enters_of Try.func52 (by kernel_rfl) rfl
  have hfit := fitJ_dim h.1 h.2.1 h4
  obtain ⟨W, hW⟩ : ∃ W, W = (w.alloc (.cells #[.int .i64 n, .int .i64 n, .slice p N cap] 29)).alloc (.cells #[.slice none 0 0, .int .i64 0, .int .i64 0, .slice none 0 0] 31) := ⟨_, rfl⟩
  have b0 : Bl w W := by rw [hW]; exact ((Bl.refl _).alloc _).alloc _
  have m0 : MBox W w.heap.size n n p N cap := by rw [hW]; exact (MBox.new w _ _ _ _ _ _).later ((Bl.refl _).alloc _)
  have s0 : SBox W (w.heap.size + 1) none 0 0 0 0 none 0 0 := by rw [hW]; have := SBox.new (w.alloc (.cells #[.int .i64 n, .int .i64 n, .slice p N cap] 29)) none 0 0 0 0 none 0 0 31; rw [World.size_alloc] at this; exact this
  have hs : W.heap.size = w.heap.size + 1 + 1 := by rw [hW]; simp
  have HX := hideP hx
  have HMX := hideP h
  have HW := hideP hW
  clear hW hx h
  go_enter Try.func22, Try.ntmps22
  go_wp2_with fail
  rw [← HW.out]
  refine (jFitsF _ _ _ _ _ _ _).mono ?_
  rintro e w1 ⟨rfl, h1⟩
  rw [hfit]
  obtain ⟨c0, c1, cm, f0, f1, f2, lt⟩ := m0.later h1
  have b01 := b0.trans h1
  go_wp2_with fail
  refine (tSqF n p N cap f w1 (HMX.out.later b01)).mono ?_
  rintro e w2 ⟨p2, c2, rfl, ⟨hP, hF⟩, h2⟩
  have k2 := MBox.new w2 n n p2 N c2 29
  obtain ⟨W2, hW2⟩ : ∃ W2, W2 = w2.alloc (.cells #[.int .i64 n, .int .i64 n, .slice p2 N c2] 29) := ⟨_, rfl⟩
  have b2 : Bl w2 W2 := by rw [hW2]; exact (Bl.refl _).alloc _
  rw [← hW2] at k2
  have HW2 := hideP hW2
  have B2 : Bl w W2 := b01.trans (h2.trans b2)
  have s2 := s0.later (h1.trans (h2.trans b2))
  have hsz : w.heap.size + 1 + 1 ≤ W2.heap.size := by have := (h1.trans (h2.trans b2)).size; omega
  have HP := hideP (show Mx 3 cellsF W2 n n p2 N c2 (squareJ kdF n f) from Mx.later hP b2)
  have HF := hideP (show Fresh (w.heap.size + 1 + 1) (.slice p2 N c2) from fresh_le hF (by have := h1.size; omega))
  have CL := hideP (fun u (hu : Bl W2 u) => clone_linF px n cx x u (HX.out.later (B2.trans hu)) (by have := h4; omega))
  clear hW2 hP hF c0 c1 cm f0 f1 f2 lt
  go_wp2_with fail
  rw [← HW2.out]
  refine (wpIn_wide (n := 8)).1 (region_q fm [some 19, some 20, some 21, some 22, none, some 5] (fun j => j == 5) 4 (by kernel_rfl) (by rfl)
    (fun j v u => match j with | 0 => v = .slice px n cx | 1 => ∃ q c, v = .slice q n c ∧ Rw 3 cellsF u (.slice q n c) (linJ n x) ∧ Fresh W2.heap.size (.slice q n c) | 2 => v = mV n n p2 N c2 | 3 => ∃ q c, v = sJ q n c n n p2 N c2 ∧ Rw 3 cellsF u (.slice q n c) (linJ n x) ∧ Fresh W2.heap.size (.slice q n c) | 5 => v = .bool true | _ => False)
    (by
        intro j v u u' hb h
        split at h <;> first | exact h | (obtain ⟨q, c, e, h1, h2⟩ := h; exact ⟨q, c, e, h1.later hb, h2⟩)) (fun vs u0 u => ∃ q c, SBox u (w.heap.size + 1) q n c n n p2 N c2 ∧ Rw 3 cellsF u (.slice q n c) (linJ n x) ∧ Mx 3 cellsF u n n p2 N c2 (squareJ kdF n f) ∧ Bl w u) ?step ?still ?store ?fin)
  case step =>
    intro j o t act u ho hdt hpu hsz hu hfr hin
    have hj : j < 6 := (Array.getElem?_eq_some_iff.1 ho).1
    obtain ⟨y0, y1, y2, _, _, _, _⟩ := k2.later hu
    rcases (by omega : j = 0 ∨ j = 1 ∨ j = 2 ∨ j = 3 ∨ j = 4 ∨ j = 5) with rfl | rfl | rfl | rfl | rfl | rfl
    · simp only [List.getElem?_toArray, List.getElem?_cons_zero, List.getElem?_cons_succ, Option.some.injEq] at ho
      subst ho
      obtain rfl := Option.some.inj hdt
      have i0 : act.eval (.tmp (0 : Nat)) = .slice px n cx := hfr 0 (by decide)
      exact plain_wp (by intro c h; cases h) (fun _ _ => trivial) (by simp only [execOp, i0, evalC, evalF, evalG]; simp [go_sem]) ⟨_, rfl, rfl, Bl.refl _⟩
    · simp only [List.getElem?_toArray, List.getElem?_cons_zero, List.getElem?_cons_succ, Option.some.injEq] at ho
      subst ho
      obtain rfl := Option.some.inj hdt
      have i19 : (act.eval (.tmp (19 : Nat))) = .slice px n cx := hin ⟨0, .data⟩ (by simp) rfl 19 rfl
      refine enter_wp 52 #[.slice px n cx] (by intro c h; cases h) (fun _ _ => trivial) (by simp only [execOp, evalC, evalF, evalG, resolve, i19, List.map_toArray, List.map_cons, List.map_nil]; simp [invoke, egC, Result.andThen, go_sem]) (by intro h; cases h) (callsIn_wide.2 (CL.out u hu)) ?_
      rintro e w' ⟨q, c, rfl, ⟨hR, hF⟩, hb⟩
      exact ⟨_, rfl, _, rfl, ⟨q, c, rfl, hR, fresh_le hF hu.size⟩, hb⟩
    · simp only [List.getElem?_toArray, List.getElem?_cons_zero, List.getElem?_cons_succ, Option.some.injEq] at ho
      subst ho
      obtain rfl := Option.some.inj hdt
      have i6 : act.eval (.tmp (6 : Nat)) = .pointer (some ⟨w2.heap.size, 0, none⟩) := hfr 6 (by decide)
      exact plain_wp (by intro c h; cases h) (fun _ _ => trivial) (by simp only [execOp, i6, evalC, evalF, evalG]; simp [go_sem, y0, y1, y2]) ⟨_, rfl, rfl, Bl.refl _⟩
    · simp only [List.getElem?_toArray, List.getElem?_cons_zero, List.getElem?_cons_succ, Option.some.injEq] at ho
      subst ho
      obtain rfl := Option.some.inj hdt
      have i20 : ∃ q c, (act.eval (.tmp (20 : Nat))) = .slice q n c ∧ Rw 3 cellsF u (.slice q n c) (linJ n x) ∧ Fresh W2.heap.size (.slice q n c) := hin ⟨1, .data⟩ (by simp) rfl 20 rfl
      have i21 : (act.eval (.tmp (21 : Nat))) = mV n n p2 N c2 := hin ⟨2, .data⟩ (by simp) rfl 21 rfl
      obtain ⟨q0, c0', e1, hq, hf⟩ := i20
      exact plain_wp (by intro c h; cases h) (fun _ _ => trivial) (by simp only [execOp, List.map_toArray, List.map_cons, List.map_nil, e1, i21]; simp [Try.buildSF, Result.andThen, go_sem]) ⟨_, rfl, ⟨q0, c0', rfl, hq, hf⟩, Bl.refl _⟩
    · simp only [List.getElem?_toArray, List.getElem?_cons_zero, List.getElem?_cons_succ, Option.some.injEq] at ho
      subst ho
      cases hdt
    · cases hpu
  case still =>
    intro j o t act u0 u ho hdt hpu hsz hu hfr hin
    have hj : j < 6 := (Array.getElem?_eq_some_iff.1 ho).1
    obtain ⟨y0, y1, y2, _, _, _, _⟩ := k2.later hu
    rcases (by omega : j = 0 ∨ j = 1 ∨ j = 2 ∨ j = 3 ∨ j = 4 ∨ j = 5) with rfl | rfl | rfl | rfl | rfl | rfl
    · cases hpu
    · cases hpu
    · cases hpu
    · cases hpu
    · cases hpu
    · simp only [List.getElem?_toArray, List.getElem?_cons_zero, List.getElem?_cons_succ, Option.some.injEq] at ho
      subst ho
      obtain rfl := Option.some.inj hdt
      exact plain_wp (by intro c h; cases h) (fun _ _ => trivial) (by simp only [execOp, evalC, evalF, evalG]; simp [go_sem]) ⟨_, rfl, rfl, rfl⟩
  case store =>
    intro o act u vs ho hsz hu hfr hin
    simp only [List.getElem?_toArray, List.getElem?_cons_zero, List.getElem?_cons_succ, Option.some.injEq] at ho
    subst ho
    have i4 : act.eval (.tmp (4 : Nat)) = .pointer (some ⟨w.heap.size + 1, 0, none⟩) := hfr 4 (by decide)
    obtain ⟨i22, k22⟩ : act.eval (.tmp (22 : Nat)) = vs 3 ∧ (∃ q c, (vs 3) = sJ q n c n n p2 N c2 ∧ Rw 3 cellsF u (.slice q n c) (linJ n x) ∧ Fresh W2.heap.size (.slice q n c)) := hin 3 22 rfl rfl
    obtain ⟨q0, c0', e1, hq, hf⟩ := k22
    rw [e1] at i22
    obtain ⟨c0, c1, c2', c3, f0, f1, f2, f3, lt⟩ := id (s2.later hu)
    exact skip_wp (by intro c h; cases h) (fun _ _ => trivial) (by simp only [execOp, i4, i22]; simp [go_sem, c0, c1, c2', c3, f0, f1, f2, f3]) ⟨rfl, q0, c0', (s2.later hu).fill _ _ _ _ _ _ _ _, rw_put4F hq (fresh_le hf (by omega)) _ _ _ _, mx_put4 (HP.out.later hu) HF.out _ _ _ _, Bl.put4 (B2.trans hu) (Nat.le_succ _) _ _ _ _⟩
  case fin =>
    intro vs vb u0 u hu hin hps
    have a0 := hin 0 19 rfl
    have a1 := hin 1 20 rfl
    have a2 := hin 2 21 rfl
    have a3 := hin 3 22 rfl
    have a5 := hin 5 5 rfl
    simp only [putL, Act.put, List.setIfInBounds_toArray, List.set_cons_zero, List.set_cons_succ, Nat.zero_add, Nat.reduceAdd, Nat.reduceBEq, Bool.or_false, Bool.or_true, Bool.false_or, Bool.true_or, Bool.false_eq_true, if_false, if_true, reduceIte, Nat.reduceEqDiff, beq_self_eq_true, Bool.or_self] at a0 a1 a2 a3 a5 ⊢
    rw [if_pos (by decide)] at hps
    simp only [a0, a2, a5]
    obtain ⟨q, c, sx, hR, hM, hbw⟩ := hps
    clear a1 a3
    have HR := hideP hR
    have HM := hideP hM
    clear hR hM
    obtain ⟨c0, c1, c2', c3, f0, f1, f2, f3, lt⟩ := sx
    go_wp2
    simp [bodyPost, results, Try.results22, go_sem, c0, c1, c2', c3]
    exact ⟨q, c, p2, c2, by simp, ⟨HR.out, HM.out⟩, hbw⟩
set_option maxHeartbeats 1000000 in
theorem jNewF_no (px : Option Addr) (nx cx : Nat) (r c : Int) (p : Option Addr) (N cap : Nat) (w : World) (hf : fitJ r c N nx = false) :
    Calls Try.prog 22 #[.slice px nx cx, mV r c p N cap] w fun e w' => e = .returned (.tuple #[sJ none 0 0 0 0 none 0 0, .bool false]) ∧ Bl w w' := by
  obtain ⟨W, hW⟩ : ∃ W, W = (w.alloc (.cells #[.int .i64 r, .int .i64 c, .slice p N cap] 29)).alloc (.cells #[.slice none 0 0, .int .i64 0, .int .i64 0, .slice none 0 0] 31) := ⟨_, rfl⟩
  have b0 : Bl w W := by rw [hW]; exact ((Bl.refl _).alloc _).alloc _
  have s0 : SBox W (w.heap.size + 1) none 0 0 0 0 none 0 0 := by rw [hW]; have := SBox.new (w.alloc (.cells #[.int .i64 r, .int .i64 c, .slice p N cap] 29)) none 0 0 0 0 none 0 0 31; rw [World.size_alloc] at this; exact this
  have HW := hideP hW
  clear hW
  go_enter Try.func22, Try.ntmps22
  go_wp2_with fail
  rw [← HW.out]
  refine (jFitsF _ _ _ _ _ _ _).mono ?_
  rintro e w1 ⟨rfl, h1⟩
  rw [hf]
  obtain ⟨c0, c1, c2, c3, f0, f1, f2, f3, lt⟩ := s0.later h1
  go_wp2
  simp [bodyPost, results, Try.results22, go_sem, c0, c1, c2, c3]
  exact Bl.put4 (b0.trans h1) (Nat.le_succ _) _ _ _ _
set_option maxRecDepth 100000 in
set_option maxHeartbeats 2000000 in
theorem jAroundF (n N : Nat) (p : Option Addr) (cap : Nat) (m : Nat → Nat → Fr) (q2 : Option Addr) (cap2 : Nat) (f : Nat → Nat → Fr) (w : World) (hm : Mx 3 cellsF w n n p N cap m) (hf : Mx 3 cellsF w n n q2 N cap2 f) :
    Calls Try.prog 31 #[mV n n p N cap, mV n n q2 N cap2] w fun e w' => ∃ q c, e = .returned (mV n n q N c) ∧ (Mx 3 cellsF w' n n q N c (aroundJ kdF n m f) ∧ Fresh w.heap.size (.slice q N c)) ∧ Bl w w' := by
  have fm : Try.prog.follows .mixedOrders = true := by kernel_rfl
  have egT := enters_of Try.func56 (by kernel_rfl) rfl
  have egM := enters_of Try.func55 (by kernel_rfl) rfl
  have HNN := hideP (show N = n * n from hm.2.1)
  obtain ⟨W, hW⟩ : ∃ W, W = ((w.alloc (.cells #[.int .i64 n, .int .i64 n, .slice p N cap] 29)).alloc (.cells #[.int .i64 n, .int .i64 n, .slice q2 N cap2] 29)).alloc (.cells #[.int .i64 0, .int .i64 0, .slice none 0 0] 29) := ⟨_, rfl⟩
  have b0 : Bl w W := by rw [hW]; exact (((Bl.refl _).alloc _).alloc _).alloc _
  have m0 : MBox W w.heap.size n n p N cap := by rw [hW]; exact (MBox.new w _ _ _ _ _ _).later (((Bl.refl _).alloc _).alloc _)
  have z0 : MBox W (w.heap.size + 1 + 1) 0 0 none 0 0 := by rw [hW]; have := MBox.new ((w.alloc (.cells #[.int .i64 n, .int .i64 n, .slice p N cap] 29)).alloc (.cells #[.int .i64 n, .int .i64 n, .slice q2 N cap2] 29)) 0 0 none 0 0 29; rw [World.size_alloc, World.size_alloc] at this; exact this
  have hs : W.heap.size = w.heap.size + 1 + 1 + 1 := by rw [hW]; simp
  have HM := hideP hm
  have HFX := hideP hf
  have HW := hideP hW
  clear hW hm hf
  go_enter Try.func31, Try.ntmps31
  go_wp2_with fail
  rw [← HW.out]
  refine (mMulF n n n p N cap m q2 N cap2 f N W (HM.out.later b0) (HFX.out.later b0) HNN.out).mono ?_
  rintro e w1 ⟨p1, c1, rfl, ⟨h1x, _, _⟩, h1⟩
  have k1 := MBox.new w1 n n p1 N c1 29
  obtain ⟨W2, hW2⟩ : ∃ W2, W2 = w1.alloc (.cells #[.int .i64 n, .int .i64 n, .slice p1 N c1] 29) := ⟨_, rfl⟩
  have b2 : Bl w1 W2 := by rw [hW2]; exact (Bl.refl _).alloc _
  rw [← hW2] at k1
  have hs2 : W2.heap.size = w1.heap.size + 1 := by rw [hW2]; simp
  have hw1 : w.heap.size + 1 + 1 + 1 ≤ w1.heap.size := by have := h1.size; omega
  have HW2 := hideP hW2
  have B2 : Bl w W2 := b0.trans (h1.trans b2)
  have km := m0.later (h1.trans b2)
  have kz := z0.later (h1.trans b2)
  have H1 := hideP (Mx.later h1x b2)
  clear hW2 h1x
  go_wp2_with fail
  rw [← HW2.out]
  refine (wpIn_wide (n := 8)).1 (region_q fm [some 14, some 15, some 16, some 17, some 13, some 18, some 19, none] (fun j => j == 6) 7 (by kernel_rfl) (by rfl)
    (fun j v u => match j with | 0 => v = mV n n p1 N c1 | 1 => v = mV n n p N cap | 2 => ∃ q c, v = mV n n q N c ∧ Mx 3 cellsF u n n q N c (fun i k => m k i) | 3 => ∃ q c, v = .tuple #[mV n n q N c, .bool true] ∧ Mx 3 cellsF u n n q N c (aroundJ kdF n m f) ∧ Fresh W2.heap.size (.slice q N c) | 4 => ∃ q c, v = .tuple #[mV n n q N c, .bool true] ∧ Mx 3 cellsF u n n q N c (aroundJ kdF n m f) ∧ Fresh W2.heap.size (.slice q N c) | 5 => ∃ q c, v = mV n n q N c ∧ Mx 3 cellsF u n n q N c (aroundJ kdF n m f) ∧ Fresh W2.heap.size (.slice q N c) | 6 => v = .bool true | _ => False)
    (by
        intro j v u u' hb h
        split at h
        · exact h
        · exact h
        · obtain ⟨q, c, e, h1⟩ := h; exact ⟨q, c, e, Mx.later h1 hb⟩
        · obtain ⟨q, c, e, h1, h2⟩ := h; exact ⟨q, c, e, Mx.later h1 hb, h2⟩
        · obtain ⟨q, c, e, h1, h2⟩ := h; exact ⟨q, c, e, Mx.later h1 hb, h2⟩
        · obtain ⟨q, c, e, h1, h2⟩ := h; exact ⟨q, c, e, Mx.later h1 hb, h2⟩
        · exact h
        · exact h) (fun vs u0 u => ∃ q c, MBox u w1.heap.size n n q N c ∧ Mx 3 cellsF u n n q N c (aroundJ kdF n m f) ∧ Fresh W2.heap.size (.slice q N c) ∧ MBox u (w.heap.size + 1 + 1) 0 0 none 0 0 ∧ Bl w u) ?step ?still ?store ?fin)
  case step =>
    intro j o t act u ho hdt hpu hsz hu hfr hin
    have hj : j < 8 := (Array.getElem?_eq_some_iff.1 ho).1
    obtain ⟨x0, x1, x2, _, _, _, _⟩ := km.later hu
    obtain ⟨y0, y1, y2, _, _, _, _⟩ := k1.later hu
    rcases (by omega : j = 0 ∨ j = 1 ∨ j = 2 ∨ j = 3 ∨ j = 4 ∨ j = 5 ∨ j = 6 ∨ j = 7) with rfl | rfl | rfl | rfl | rfl | rfl | rfl | rfl
    · simp only [List.getElem?_toArray, List.getElem?_cons_zero, List.getElem?_cons_succ, Option.some.injEq] at ho
      subst ho
      obtain rfl := Option.some.inj hdt
      have i5 : act.eval (.tmp (5 : Nat)) = .pointer (some ⟨w1.heap.size, 0, none⟩) := hfr 5 (by decide)
      exact plain_wp (by intro c h; cases h) (fun _ _ => trivial) (by simp only [execOp, i5, evalC, evalF, evalG]; simp [go_sem, y0, y1, y2]) ⟨_, rfl, rfl, Bl.refl _⟩
    · simp only [List.getElem?_toArray, List.getElem?_cons_zero, List.getElem?_cons_succ, Option.some.injEq] at ho
      subst ho
      obtain rfl := Option.some.inj hdt
      have i2 : act.eval (.tmp (2 : Nat)) = .pointer (some ⟨w.heap.size, 0, none⟩) := hfr 2 (by decide)
      exact plain_wp (by intro c h; cases h) (fun _ _ => trivial) (by simp only [execOp, i2, evalC, evalF, evalG]; simp [go_sem, x0, x1, x2]) ⟨_, rfl, rfl, Bl.refl _⟩
    · simp only [List.getElem?_toArray, List.getElem?_cons_zero, List.getElem?_cons_succ, Option.some.injEq] at ho
      subst ho
      obtain rfl := Option.some.inj hdt
      have i15 : (act.eval (.tmp (15 : Nat))) = mV n n p N cap := hin ⟨1, .data⟩ (by simp) rfl 15 rfl
      refine enter_wp 56 #[mV n n p N cap] (by intro c h; cases h) (fun _ _ => trivial) (by simp only [execOp, evalC, evalF, evalG, resolve, i15, List.map_toArray, List.map_cons, List.map_nil]; simp [invoke, egT, Result.andThen, go_sem]) (by intro h; cases h) (callsIn_wide.2 (mTurnF n n p N cap m u (HM.out.later (B2.trans hu)))) ?_
      rintro e w' ⟨q, c, rfl, ⟨hM, _, _⟩, hb⟩
      exact ⟨_, rfl, _, rfl, ⟨q, c, rfl, hM⟩, hb⟩
    · simp only [List.getElem?_toArray, List.getElem?_cons_zero, List.getElem?_cons_succ, Option.some.injEq] at ho
      subst ho
      obtain rfl := Option.some.inj hdt
      have i14 : (act.eval (.tmp (14 : Nat))) = mV n n p1 N c1 := hin ⟨0, .data⟩ (by simp) rfl 14 rfl
      have i16 : ∃ q c, (act.eval (.tmp (16 : Nat))) = mV n n q N c ∧ Mx 3 cellsF u n n q N c (fun i k => m k i) := hin ⟨2, .data⟩ (by simp) rfl 16 rfl
      obtain ⟨q0, c0', e1, hq⟩ := i16
      refine enter_wp 55 #[mV n n p1 N c1, mV n n q0 N c0'] (by intro c h; cases h) (fun _ _ => trivial) (by simp only [execOp, evalC, evalF, evalG, resolve, i14, e1, List.map_toArray, List.map_cons, List.map_nil]; simp [invoke, egM, Result.andThen, go_sem]) (by intro h; cases h) (callsIn_wide.2 (mMulF n n n p1 N c1 _ q0 N c0' _ N u (H1.out.later hu) hq HNN.out)) ?_
      rintro e w' ⟨q, c, rfl, ⟨hM, _, hF⟩, hb⟩
      exact ⟨_, rfl, _, rfl, ⟨q, c, rfl, hM, fresh_le hF hu.size⟩, hb⟩
    · simp only [List.getElem?_toArray, List.getElem?_cons_zero, List.getElem?_cons_succ, Option.some.injEq] at ho
      subst ho
      obtain rfl := Option.some.inj hdt
      have i17 : ∃ q c, (act.eval (.tmp (17 : Nat))) = .tuple #[mV n n q N c, .bool true] ∧ Mx 3 cellsF u n n q N c (aroundJ kdF n m f) ∧ Fresh W2.heap.size (.slice q N c) := hin ⟨3, .data⟩ (by simp) rfl 17 rfl
      obtain ⟨q0, c0', e1, hq⟩ := i17
      exact plain_wp (by intro c h; cases h) (fun _ _ => trivial) (by simp only [execOp, e1]; simp [go_sem]) ⟨_, rfl, ⟨q0, c0', rfl, hq⟩, Bl.refl _⟩
    · simp only [List.getElem?_toArray, List.getElem?_cons_zero, List.getElem?_cons_succ, Option.some.injEq] at ho
      subst ho
      obtain rfl := Option.some.inj hdt
      have i13 : ∃ q c, (act.eval (.tmp (13 : Nat))) = .tuple #[mV n n q N c, .bool true] ∧ Mx 3 cellsF u n n q N c (aroundJ kdF n m f) ∧ Fresh W2.heap.size (.slice q N c) := hin ⟨4, .data⟩ (by simp) rfl 13 rfl
      obtain ⟨q0, c0', e1, hq⟩ := i13
      exact plain_wp (by intro c h; cases h) (fun _ _ => trivial) (by simp only [execOp, e1]; simp [go_sem]) ⟨_, rfl, ⟨q0, c0', rfl, hq⟩, Bl.refl _⟩
    · cases hpu
    · simp only [List.getElem?_toArray, List.getElem?_cons_zero, List.getElem?_cons_succ, Option.some.injEq] at ho
      subst ho
      cases hdt
  case still =>
    intro j o t act u0 u ho hdt hpu hsz hu hfr hin
    have hj : j < 8 := (Array.getElem?_eq_some_iff.1 ho).1
    obtain ⟨x0, x1, x2, _, _, _, _⟩ := km.later hu
    obtain ⟨y0, y1, y2, _, _, _, _⟩ := k1.later hu
    rcases (by omega : j = 0 ∨ j = 1 ∨ j = 2 ∨ j = 3 ∨ j = 4 ∨ j = 5 ∨ j = 6 ∨ j = 7) with rfl | rfl | rfl | rfl | rfl | rfl | rfl | rfl
    · cases hpu
    · cases hpu
    · cases hpu
    · cases hpu
    · cases hpu
    · cases hpu
    · simp only [List.getElem?_toArray, List.getElem?_cons_zero, List.getElem?_cons_succ, Option.some.injEq] at ho
      subst ho
      obtain rfl := Option.some.inj hdt
      have i13 : ∃ q c, (act.eval (.tmp (13 : Nat))) = .tuple #[mV n n q N c, .bool true] ∧ Mx 3 cellsF u0 n n q N c (aroundJ kdF n m f) ∧ Fresh W2.heap.size (.slice q N c) := hin ⟨4, .data⟩ (by simp) rfl 13 rfl
      obtain ⟨q0, c0', e1, hq⟩ := i13
      exact plain_wp (by intro c h; cases h) (fun _ _ => trivial) (by simp only [execOp, e1]; simp [go_sem]) ⟨_, rfl, rfl, rfl⟩
    · cases hpu
  case store =>
    intro o act u vs ho hsz hu hfr hin
    simp only [List.getElem?_toArray, List.getElem?_cons_zero, List.getElem?_cons_succ, Option.some.injEq] at ho
    subst ho
    have i5 : act.eval (.tmp (5 : Nat)) = .pointer (some ⟨w1.heap.size, 0, none⟩) := hfr 5 (by decide)
    obtain ⟨i18, k18⟩ : act.eval (.tmp (18 : Nat)) = vs 5 ∧ (∃ q c, (vs 5) = mV n n q N c ∧ Mx 3 cellsF u n n q N c (aroundJ kdF n m f) ∧ Fresh W2.heap.size (.slice q N c)) := hin 5 18 rfl rfl
    obtain ⟨q0, c0', e1, hq, hf⟩ := k18
    rw [e1] at i18
    obtain ⟨y0, y1, y2, e0, e1', e2, lt⟩ := id (k1.later hu)
    exact skip_wp (by intro c h; cases h) (fun _ _ => trivial) (by simp only [execOp, i5, i18]; simp [go_sem, y0, y1, y2, e0, e1', e2]) ⟨rfl, q0, c0', (k1.later hu).fill _ _ _ _ _, mx_put7 hq (fresh_le hf (by omega)) _ _ _, hf, mbox_set7 (mbox_set7 (mbox_set7 (kz.later hu) (by omega) _ _) (by omega) _ _) (by omega) _ _, Bl.put3 (B2.trans hu) (by have := hw1; omega) _ _ _⟩
  case fin =>
    intro vs vb u0 u hu hin hps
    have a0 := hin 0 14 rfl
    have a1 := hin 1 15 rfl
    have a2 := hin 2 16 rfl
    have a3 := hin 3 17 rfl
    have a4 := hin 4 13 rfl
    have a5 := hin 5 18 rfl
    have a6 := hin 6 19 rfl
    simp only [putL, Act.put, List.setIfInBounds_toArray, List.set_cons_zero, List.set_cons_succ, Nat.zero_add, Nat.reduceAdd, Nat.reduceBEq, Bool.or_false, Bool.or_true, Bool.false_or, Bool.true_or, Bool.false_eq_true, if_false, if_true, reduceIte, Nat.reduceEqDiff, beq_self_eq_true, Bool.or_self] at a0 a1 a2 a3 a4 a5 a6 ⊢
    rw [if_pos (by decide)] at hps
    simp only [a0, a1, a6]
    obtain ⟨q, c, kx, hM, hF, kz', hbw⟩ := hps
    clear a2 a3 a4 a5
    have HR := hideP hM
    have HF := hideP (show Fresh (w.heap.size + 1 + 1 + 1) (.slice q N c) from fresh_le hF (by omega))
    clear hM hF
    obtain ⟨x0, x1, x2, _, _, _, _⟩ := kx
    obtain ⟨c0, c1', c2, f0, f1, f2, lt2⟩ := kz'
    go_wp2
    simp [bodyPost, results, Try.results31, go_sem, c0, c1', c2]
    exact ⟨q, c, ⟨rfl, rfl⟩, ⟨mx_put7 HR.out HF.out _ _ _, fresh_le HF.out (by omega)⟩, Bl.put3 hbw (by omega) _ _ _⟩
set_option maxRecDepth 100000 in
set_option maxHeartbeats 2000000 in
theorem jMirroredF (n N : Nat) (p : Option Addr) (cap : Nat) (a : Nat → Nat → Fr) (q2 : Option Addr) (cap2 : Nat) (b : Nat → Nat → Fr) (w : World) (hm : Mx 3 cellsF w n n p N cap a) (hf : Mx 3 cellsF w n n q2 N cap2 b) :
    Calls Try.prog 34 #[mV n n p N cap, mV n n q2 N cap2] w fun e w' => ∃ q c, e = .returned (mV n n q N c) ∧ (Mx 3 cellsF w' n n q N c (mirrJ kdF a b) ∧ Fresh w.heap.size (.slice q N c)) ∧ Bl w w' := by
  obtain ⟨W, hW⟩ : ∃ W, W = ((w.alloc (.cells #[.int .i64 n, .int .i64 n, .slice p N cap] 29)).alloc (.cells #[.int .i64 n, .int .i64 n, .slice q2 N cap2] 29)).alloc (.cells #[.int .i64 0, .int .i64 0, .slice none 0 0] 29) := ⟨_, rfl⟩
  have b0 : Bl w W := by rw [hW]; exact (((Bl.refl _).alloc _).alloc _).alloc _
  have z0 : MBox W (w.heap.size + 1 + 1) 0 0 none 0 0 := by rw [hW]; have := MBox.new ((w.alloc (.cells #[.int .i64 n, .int .i64 n, .slice p N cap] 29)).alloc (.cells #[.int .i64 n, .int .i64 n, .slice q2 N cap2] 29)) 0 0 none 0 0 29; rw [World.size_alloc, World.size_alloc] at this; exact this
  have hs : W.heap.size = w.heap.size + 1 + 1 + 1 := by rw [hW]; simp
  have HM := hideP hm
  have HFX := hideP hf
  have HW := hideP hW
  clear hW hm hf
  go_enter Try.func34, Try.ntmps34
  go_wp2_with fail
  rw [← HW.out]
  refine (mAddF' n n p q2 N cap cap2 a b W (HM.out.later b0) (HFX.out.later b0)).mono ?_
  rintro e w1 ⟨p1, c1, rfl, ⟨h1x, _⟩, h1⟩
  obtain ⟨W2, hW2⟩ : ∃ W2, W2 = w1.alloc (.cells #[.int .i64 n, .int .i64 n, .slice p1 N c1] 29) := ⟨_, rfl⟩
  have b2 : Bl w1 W2 := by rw [hW2]; exact (Bl.refl _).alloc _
  have HW2 := hideP hW2
  have H1 := hideP (Mx.later h1x b2)
  clear hW2 h1x
  go_wp2_with fail
  rw [← HW2.out]
  refine (mMirrorF n p1 N c1 _ W2 H1.out).mono ?_
  rintro e w3 ⟨p3, c3, rfl, ⟨hR, _, hF⟩, h3⟩
  obtain ⟨W4, hW4⟩ : ∃ W4, W4 = w3.alloc (.cells #[.int .i64 n, .int .i64 n, .slice p3 N c3] 29) := ⟨_, rfl⟩
  have b4 : Bl w3 W4 := by rw [hW4]; exact (Bl.refl _).alloc _
  have k4 := MBox.new w3 n n p3 N c3 29
  rw [← hW4] at k4
  have B4 : Bl w W4 := b0.trans (h1.trans (b2.trans (h3.trans b4)))
  have HR := hideP (show Mx 3 cellsF W4 n n p3 N c3 (mirrJ kdF a b) from Mx.later hR b4)
  have HF := hideP (show Fresh (w.heap.size + 1 + 1 + 1) (.slice p3 N c3) from fresh_le hF (by have := (h1.trans b2).size; omega))
  have kz := z0.later (h1.trans (b2.trans (h3.trans b4)))
  obtain ⟨x0, x1, x2, _, _, _, _⟩ := k4
  obtain ⟨c0, c1', c2, f0, f1, f2, lt2⟩ := kz
  have HW4 := hideP hW4
  rw [hW4] at x0 x1 x2 c0 c1' c2 f0 f1 f2
  clear hW4 hR hF H1
  go_wp2_with fail
  rw [← HW4.out]
  rw [← HW4.out] at x0 x1 x2 c0 c1' c2 f0 f1 f2
  go_wp2
  simp [bodyPost, results, Try.results34, go_sem, c0, c1', c2]
  exact ⟨p3, c3, ⟨rfl, rfl⟩, ⟨mx_put7 HR.out HF.out _ _ _, fresh_le HF.out (by omega)⟩, Bl.put3 B4 (by omega) _ _ _⟩
end Go.Proofs.Ytlbmkjicbkfmjaa

/- Contracts of mat's Unit, and of Whole with new memory, of fractions (layer 6). Written by genMa.py. -/
namespace Go.Proofs.Ytlbmkjicbkfmjaa
open Go.RowKit
set_option linter.unusedSimpArgs false
set_option linter.unusedVariables false

theorem mWholeF' (r c : Int) (p : Option Addr) (n cap : Nat) (ns : List Int) (w : World) (hr : Rq 1 (fun n => [.int .i64 n]) w (.slice p n cap) ns) (h : fitB r c n = true) (hn : ns.length = n) :
    Calls Try.prog 25 #[.int .i64 r, .int .i64 c, .slice p n cap] w fun e w' => ∃ p' cap', e = .returned (.tuple #[mV r c p' n cap', .bool true]) ∧ (Rw 3 cellsF w' (.slice p' n cap') (ns.map wholeF) ∧ Fresh w.heap.size (.slice p' n cap')) ∧ Bl w w' := by
  have hl : n ≤ 1000000 := by obtain ⟨R, C, _, _, hd, rfl⟩ := fitB_nat h; have := hd.lt; omega
  obtain ⟨W, hW⟩ : ∃ W, W = w.alloc (.cells #[.int .i64 0, .int .i64 0, .slice none 0 0] 29) := ⟨_, rfl⟩
  have b0 : Bl w W := by rw [hW]; exact (Bl.refl _).alloc _
  have x0 : MBox W w.heap.size 0 0 none 0 0 := by rw [hW]; exact MBox.new w 0 0 none 0 0 _
  have hsz : W.heap.size = w.heap.size + 1 := by rw [hW]; simp
  have CL := hideP (vWholeF' (.slice p n cap) ns W (hr.later b0) (by omega))
  have HW := hideP hW
  clear hW hr
  go_enter Try.func25, Try.ntmps25
  go_wp2_with fail
  rw [← HW.out]
  refine (fits_any _ _ _ _).mono ?_
  rintro e w1 ⟨rfl, rfl⟩
  rw [h]
  go_wp2_with fail
  refine CL.out.mono ?_
  rintro e w2 ⟨u, rfl, hR, hF, h2⟩
  obtain ⟨p', cap', rfl, _, _⟩ := hR.cut
  rw [List.length_map, hn] at hR hF ⊢
  have HR := hideP hR
  have HF := hideP hF
  obtain ⟨c0, c1, c2, f0, f1, f2, lt⟩ := x0.later h2
  clear hR hF CL
  go_wp2
  simp [bodyPost, results, Try.results25, go_sem, c0, c1, c2]
  refine ⟨p', cap', ⟨rfl, rfl⟩, ⟨((HR.out.set _ ?_).set _ ?_).set _ ?_, fun g hg => ?_⟩, Bl.put3 (b0.trans h2) (Nat.le_refl _) _ _ _⟩
  · exact fun g hg => by have := HF.out g hg; show w.heap.size + 1 ≤ g; omega
  · exact fun g hg => by have := HF.out g hg; show w.heap.size + 1 ≤ g; omega
  · exact fun g hg => by have := HF.out g hg; show w.heap.size + 1 ≤ g; omega
  · have := HF.out g hg; omega
set_option maxHeartbeats 1000000 in
theorem mUnitF (m n : Nat) (h1 : 1 ≤ m) (h2 : m ≤ 16) (hn : n = m * m) (w : World) :
    Calls Try.prog 21 #[.int .i64 m] w fun e w' => ∃ p' cap', e = .returned (.tuple #[mV m m p' n cap', .bool true]) ∧ Mx 3 cellsF w' m m p' n cap' (fun i k => wholeF (unitI i k)) ∧ Bl w w' := by
  obtain ⟨i0, hi, hz0, hz1, hz2⟩ := info_parts Try.info_I
  have hs : sideB m = true := decide_eq_true ⟨by omega, by omega⟩
  have hd : Dim m m := ⟨h1, h2, h1, h2⟩
  have hmm : (m : Int) * (m : Int) = n := by rw [hn]; simp
  have hn256 : n ≤ 256 := by rw [hn]; exact hd.lt
  have hfit := hideP (fitB_dim hd hn)
  have HN := hideP hn
  clear hn
  have z0 := MBox.new w 0 0 none 0 0 29
  go_enter Try.func21, Try.ntmps21
  go_wp2_with fail
  refine (side_any _ _).mono ?_
  rintro e w1 ⟨rfl, rfl⟩
  rw [hs]
  go_wp2_with (at_make; refine wpList_make_full _ rfl _ _ 22 rfl (w.heap.size + 1) 3 i0 (.int .i64 0) 1 Try.underlying22 hi hz0 hz1 .i64 .i64 _ _ n rfl rfl (by simp) (by simp) (by rw [hz2]; omega) (by unfold maxLen; omega) (by simp) ?_; intro w0 hown0 hgrow0)
  rw [unit_made m n HN.out] at hown0
  have hB0 : Bl w w0 := ((Bl.refl w).alloc _).grown hgrow0 (by simp) (fun k e => by cases e)
  have hz : MBox w0 w.heap.size 0 0 none 0 0 := mbox_block z0 (hgrow0.block _ z0.lt nofun) hgrow0.size
  clear hgrow0 z0
  try simp only [World.size_alloc] at hown0 ⊢
  go_loopw [15] (fun i wr => ∃ j : Nat, i = .int .i64 j ∧ j ≤ m ∧ wr.ownsRow (w.heap.size + 1) 3 1 (.slice (some ⟨w.heap.size + 1, 0, none⟩) n n) n ((mk m m (unitTo j)).flatMap cellsI) ∧ MBox wr w.heap.size 0 0 none 0 0 ∧ Bl w wr) (fun i _ => m - (intOf i).toNat)
  case atStart => exact ⟨0, rfl, Nat.zero_le _, hown0, hz, hB0⟩
  case round =>
    clear hown0 hz hB0
    obtain ⟨j, rfl, hj, hown, hz, hB⟩ := hrel
    by_cases hlt : j < m
    · obtain ⟨a, q, e1, e2, hq1, hq3, hq5, hq6⟩ := place hd hlt hlt
      rw [← HN.out] at hq5
      have cq : wr.cell? ⟨w.heap.size + 1, q, none⟩ = some (.int .i64 (unitTo j j j)) := by
        rw [hown.cellAt q (by omega), flatI_map, List.getElem?_map, e2, mk_get _ hlt hlt]; rfl
      have fq := hown.frozenAt q
      have ST := hideP (hown.stored q (.int .i64 1))
      have EQ := hideP e2
      clear hown e1 e2
      generalize unitTo j j j = x at *
      go_wp2
      go_roundw
      case rel =>
        refine ⟨j + 1, by simp, hlt, ?_, mbox_block hz (ST.out.2.block _ hz.lt (by simp)) ST.out.2.size, Bl.set hB (Nat.le_succ _) _⟩
        have := ST.out.1
        rw [EQ.out] at this ⊢
        rw [unitTo_cells m j hlt] at this
        exact this
      case measure => simp [intOf]; omega
    · obtain rfl : j = m := by omega
      have hr : Rq 1 cI wr (.slice (some ⟨w.heap.size + 1, 0, none⟩) n n) (mk j j unitI) := by
        rw [← unitTo_all]
        exact (Rw.of_own cellsI_len (xs := mk j j (unitTo j)) (by rw [mk_len, ← HN.out]; exact hown)).q
      have WH := hideP (mWholeF' j j _ n n (mk j j unitI) wr hr hfit.out (by rw [mk_len, HN.out]))
      clear hr hown
      go_wp2_with fail
      refine WH.out.mono ?_
      rintro e w2 ⟨p', cap', rfl, ⟨hR, hF⟩, h2⟩
      have HR := hideP hR
      have HF := hideP (show Fresh (w.heap.size + 1) (.slice p' n cap') from fun g hg => by have := hF g hg; have := hz.lt; omega)
      clear hR hF WH
      obtain ⟨c0, c1, c2, f0, f1, f2, lt⟩ := hz.later h2
      go_wp2
      simp [bodyPost, results, Try.results21, go_sem, c0, c1, c2]
      have q := ((HR.out.set (p := ⟨w.heap.size, 0, none⟩) (.int .i64 j) HF.out).set (p := ⟨w.heap.size, 1, none⟩) (.int .i64 j) HF.out).set (p := ⟨w.heap.size, 2, none⟩) (.slice p' n cap') HF.out
      rw [mk_map] at q
      exact ⟨p', cap', ⟨rfl, rfl⟩, ⟨hd, HN.out, q.q⟩, Bl.put3 (hB.trans h2) (Nat.le_refl _) _ _ _⟩
end Go.Proofs.Ytlbmkjicbkfmjaa

/- Contracts of joseph's shares, outer, rest, of fractions (layer 9). Written by genJo.py. -/
namespace Go.Proofs.Ytlbmkjicbkfmjaa
open Go.RowKit
set_option linter.unusedSimpArgs false
set_option linter.unusedVariables false

theorem fresh_ownF {w : World} {B b n : Nat} {e : TypeId} {s : Nat} {v : Value} {l : List Value} (h : w.ownsRow B e s v n l) (hb : b ≤ B) : Fresh b v := fun g hg => Nat.le_trans hb (h.lt g hg).1
set_option maxHeartbeats 1000000 in
theorem jShares0F (v : Value) (xs : List Fr) (by_ : Fr) (w : World) (h : Rw 3 cellsF w v xs) (hl : xs.length ≤ 1000000) :
    Calls Try.prog 28 #[v, frV by_] w fun e w' => ∃ u, e = .returned u ∧ Rw 3 cellsF w' u (xs.map fun x => divR x by_) ∧ Fresh w.heap.size u ∧ Bl w w' := by
  have iv := Try.mDivF
  obtain ⟨i0, hi, hz0, hz1, hz2⟩ := info_parts Try.info_F
  have x0 := FBox.new w by_ 35
  rcases h with ⟨rfl, rfl⟩ | ⟨b, o, cap, rfl, hc, hb, hx⟩
  · go_enter Try.func28, Try.ntmps28
    go_wp2_with (at_make; refine wpList_make_own _ rfl _ _ 27 rfl w.heap.size 35 i0 (.agg #[.int .i64 0, .int .i64 0, .bool false]) 3 Try.underlying27 hi hz0 hz1 .i64 .i64 _ 0 rfl rfl (by simp) (by rw [hz2]; omega) (by unfold maxLen; omega) (by simp) ?_; intro w0 hown0 hgrow0)
    rw [World.size_alloc] at hown0
    have hB0 : Bl w w0 := Below.grown (Below.alloc (Bl.refl w) (Nat.le_refl _) _) hgrow0 (by simp) (fun k e => by cases e)
    go_loopw [5, 13] (fun v i wr => i = .int .i64 0 ∧ wr.ownsRow w.heap.size 35 3 v 0 [] ∧ Bl w wr) (fun _ _ _ => 0)
    case atStart => exact ⟨rfl, hown0, hB0⟩
    case round =>
      obtain ⟨rfl, hown, hB⟩ := hrel
      go_wp2
      go_ret
      exact ⟨_, rfl, Rw.of_own cellsF_len (xs := []) hown, fresh_ownF hown (Nat.le_refl _), hB⟩
  · have HX := hideP hx
    clear hx
    go_enter Try.func28, Try.ntmps28
    go_wp2_with (at_make; refine wpList_make_own _ rfl _ _ 27 rfl (w.heap.size + 1) 35 i0 (.agg #[.int .i64 0, .int .i64 0, .bool false]) 3 Try.underlying27 hi hz0 hz1 .i64 .i64 _ xs.length rfl rfl (by simp) (by rw [hz2]; omega) (by unfold maxLen; omega) (by simp) ?_; intro w0 hown0 hgrow0)
    rw [World.size_alloc] at hown0
    have hB1 : Bl (w.alloc (.cells #[.int .i64 by_.n, .int .i64 by_.d, .bool by_.bad] 35)) w0 := Below.grown (Bl.refl _) hgrow0 (Nat.le_refl _) (fun k e => by cases e)
    have hB0 : Bl w w0 := ((Bl.refl w).alloc _).trans hB1
    go_loopw [5, 13] (fun v i wr => ∃ k : Nat, i = .int .i64 k ∧ k ≤ xs.length ∧ FBox wr w.heap.size by_ ∧ wr.ownsRow (w.heap.size + 1) 35 3 v ((xs.take k).map fun x => divR x by_).length (((xs.take k).map fun x => divR x by_).flatMap cellsF) ∧ Bl w wr) (fun _ i _ => xs.length - (intOf i).toNat)
    case atStart => exact ⟨0, rfl, Nat.zero_le _, x0.later hB1, hown0, hB0⟩
    case round =>
      obtain ⟨k, rfl, hk, bx, hown, hB⟩ := hrel
      by_cases hlt : k < xs.length
      · obtain ⟨x, hx⟩ : ∃ x, xs[k]? = some x := ⟨_, List.getElem?_eq_getElem hlt⟩
        have CX : ∀ j u, (cellsF x)[j]? = some u → wr.cell? ⟨b, o + k * 3 + j, none⟩ = some u := fun j u hu => (bl_cell hB _ _ hb).trans (HX.out k x hx j u hu)
        have y0 : wr.cell? ⟨b, o + k * 3, none⟩ = some (.int .i64 x.n) := CX 0 _ rfl
        have y1 : wr.cell? ⟨b, o + k * 3 + 1, none⟩ = some (.int .i64 x.d) := CX 1 _ rfl
        have y2 : wr.cell? ⟨b, o + k * 3 + 2, none⟩ = some (.bool x.bad) := CX 2 _ rfl
        clear CX
        obtain ⟨c0, c1, c2, f0, f1, f2, lt⟩ := id bx
        have HT := hideP (show (xs.take (k + 1)).map (fun x => divR x by_) = (xs.take k).map (fun x => divR x by_) ++ [divR x by_] by rw [List.take_add_one, hx]; simp)
        have HK := hideP (show ((xs.take k).map fun x => divR x by_).length = k by simp; omega)
        generalize hys : (xs.take k).map (fun x => divR x by_) = ys at *
        clear hys
        go_wp2_with fail
        refine (rdiv_any _ _ _).mono ?_
        rintro e w2 ⟨rfl, h2⟩
        have bl2 : Bl wr w2 := ((Bl.refl _).alloc _).trans h2
        generalize divR x by_ = r at *
        clear y0 y1 y2 c0 c1 c2
        replace hown := own_blF hown bl2
        replace hB := hB.trans bl2
        have bx2 := bx.later bl2
        have hkk := HK.out
        go_wp2_with (at_builtin; refine wpList_append_own _ rfl _ _ 27 rfl (w.heap.size + 1) 35 i0 (.agg #[.int .i64 0, .int .i64 0, .bool false]) 3 24 Try.underlying27 hi hz0 hz1 hz2 rfl (by decide) _ _ _ rfl (hown.alloc _) ⟨_, 0, none⟩ 1 1 (cellsF r) rfl rfl (newF_cells _ _ _) (oneF_cells _) (by unfold maxLen; omega) (by omega) (by have := bx2.lt; simp; omega) ?_; intro v' w1 hown' hgrow _)
        have R := ownF_step' (n₀ := w.heap.size + 1) hB (by omega) hown hown' hgrow
        have bx3 := bx2.grown ((Bl.refl _).alloc _) hown hgrow (by omega)
        clear hown hown' hgrow
        go_wp2
        go_roundw
        case rel => exact ⟨k + 1, by simp, hlt, bx3, by rw [HT.out]; exact R.2, R.1⟩
        case measure => simp [intOf]; omega
      · have hk' : k = xs.length := by omega
        subst hk'
        rw [List.take_length] at hown
        have R := hideP (Rw.of_own cellsF_len hown)
        have FR := hideP (fresh_ownF hown (Nat.le_succ _))
        clear hown
        go_wp2
        go_ret
        exact ⟨_, rfl, R.out, FR.out, hB⟩


theorem jSharesF (n : Nat) (p : Option Addr) (cap : Nat) (u : Nat → Fr) (a : Fr) (w : World) (h : Rw 3 cellsF w (.slice p n cap) (linJ n u)) (hl : n ≤ 1000000) :
    Calls Try.prog 28 #[.slice p n cap, frV a] w fun e w' => ∃ q c, e = .returned (.slice q n c) ∧ (Rw 3 cellsF w' (.slice q n c) (linJ n (fun i => divR (u i) a)) ∧ Fresh w.heap.size (.slice q n c)) ∧ Bl w w' :=
  (jShares0F _ _ a w h (by rw [linJ_len]; exact hl)).mono fun e w' ⟨v, he, hr, hf, hb⟩ => by
    rw [linJ_map] at hr
    obtain ⟨q, c, rfl, _, _⟩ := hr.cut
    rw [linJ_len] at hr hf he
    exact ⟨q, c, he, ⟨hr, hf⟩, hb⟩
set_option maxRecDepth 100000 in
set_option maxHeartbeats 2000000 in
theorem jOuterF (n m N : Nat) (pk : Option Addr) (ck : Nat) (k : Nat → Fr) (ph : Option Addr) (ch : Nat) (h : Nat → Fr) (w : World) (hk : Rq 3 cellsF w (.slice pk n ck) (linJ n k)) (hh : Rq 3 cellsF w (.slice ph m ch) (linJ m h)) (hd : Dim n m) (hN : N = n * m) :
    Calls Try.prog 33 #[.slice pk n ck, .slice ph m ch] w fun e w' => ∃ q c, e = .returned (mV n m q N c) ∧ (Mx 3 cellsF w' n m q N c (outerJ kdF k h) ∧ Fresh w.heap.size (.slice q N c)) ∧ Bl w w' := by
  have d1 : Dim n 1 := ⟨hd.r1, hd.r2, by decide, by decide⟩
  have d2 : Dim 1 m := ⟨by decide, by decide, hd.c1, hd.c2⟩
  have f1' : fitB (n : Int) (1 : Int) (n : Int) = true := fitB_dim d1 (Nat.mul_one n).symm
  have f2' : fitB (1 : Int) (m : Int) (m : Int) = true := fitB_dim d2 (Nat.one_mul m).symm
  obtain ⟨W, hW⟩ : ∃ W, W = w.alloc (.cells #[.int .i64 0, .int .i64 0, .slice none 0 0] 29) := ⟨_, rfl⟩
  have b0 : Bl w W := by rw [hW]; exact (Bl.refl _).alloc _
  have z0 : MBox W w.heap.size 0 0 none 0 0 := by rw [hW]; exact MBox.new w _ _ _ _ _ _
  have hs : W.heap.size = w.heap.size + 1 := by rw [hW]; simp
  have HK := hideP hk
  have HH := hideP hh
  have HW := hideP hW
  have HN := hideP hN
  clear hW hk hh hN
  go_enter Try.func33, Try.ntmps33
  go_wp2_with fail
  rw [← HW.out]
  refine (mNewF (n : Int) (1 : Int) pk n ck (linJ n k) W (HK.out.later b0) f1' (linJ_len _ _)).mono ?_
  rintro e w1 ⟨p1, c1, rfl, ⟨hR1, _⟩, h1⟩
  obtain ⟨W1, hW1⟩ : ∃ W1, W1 = w1.alloc (.cells #[.int .i64 n, .int .i64 1, .slice p1 n c1] 29) := ⟨_, rfl⟩
  have b1 : Bl w1 W1 := by rw [hW1]; exact (Bl.refl _).alloc _
  have k1 : MBox W1 w1.heap.size n 1 p1 n c1 := by rw [hW1]; exact MBox.new w1 _ _ _ _ _ _
  have HW1 := hideP hW1
  have X1 := hideP (show Mx 3 cellsF W1 n 1 p1 n c1 (fun i _ => k i) from ⟨d1, (Nat.mul_one n).symm, by rw [linJ_col] at hR1; exact (hR1.later b1).q⟩)
  clear hW1 hR1
  have B1 : Bl w W1 := b0.trans (h1.trans b1)
  go_wp2_with fail
  rw [← HW1.out]
  refine (mNewF (1 : Int) (m : Int) ph m ch (linJ m h) W1 (HH.out.later B1) f2' (linJ_len _ _)).mono ?_
  rintro e w2 ⟨p2, c2, rfl, ⟨hR2, _⟩, h2⟩
  obtain ⟨W2, hW2⟩ : ∃ W2, W2 = w2.alloc (.cells #[.int .i64 1, .int .i64 m, .slice p2 m c2] 29) := ⟨_, rfl⟩
  have b2 : Bl w2 W2 := by rw [hW2]; exact (Bl.refl _).alloc _
  have k2 : MBox W2 w2.heap.size 1 m p2 m c2 := by rw [hW2]; exact MBox.new w2 _ _ _ _ _ _
  have HW2 := hideP hW2
  have X2 := hideP (show Mx 3 cellsF W2 1 m p2 m c2 (fun _ j => h j) from ⟨d2, (Nat.one_mul m).symm, by rw [linJ_one] at hR2; exact (hR2.later b2).q⟩)
  have k1' := k1.later (h2.trans b2)
  obtain ⟨x0, x1, x2, _, _, _, _⟩ := k1'
  obtain ⟨y0, y1, y2, _, _, _, _⟩ := k2
  rw [hW2] at x0 x1 x2 y0 y1 y2
  clear hW2 hR2
  have B2 : Bl w W2 := B1.trans (h2.trans b2)
  have MU := hideP (mMulF n 1 m p1 n c1 (fun i _ => k i) p2 m c2 (fun _ j => h j) N W2 (X1.out.later (h2.trans b2)) X2.out HN.out)
  go_wp2_with fail
  rw [← HW2.out]
  refine MU.out.mono ?_
  rintro e w3 ⟨p3, c3, rfl, ⟨hR, _, hF⟩, h3⟩
  obtain ⟨W4, hW4⟩ : ∃ W4, W4 = w3.alloc (.cells #[.int .i64 n, .int .i64 m, .slice p3 N c3] 29) := ⟨_, rfl⟩
  have b4 : Bl w3 W4 := by rw [hW4]; exact (Bl.refl _).alloc _
  have k4 := MBox.new w3 n m p3 N c3 29
  rw [← hW4] at k4
  have B4 : Bl w W4 := B2.trans (h3.trans b4)
  have HR := hideP (show Mx 3 cellsF W4 n m p3 N c3 (outerJ kdF k h) from Mx.later hR b4)
  have HF := hideP (show Fresh (w.heap.size + 1) (.slice p3 N c3) from fresh_le hF (by have := ((h1.trans b1).trans (h2.trans b2)).size; omega))
  have kz := z0.later (((h1.trans b1).trans (h2.trans b2)).trans (h3.trans b4))
  clear x0 x1 x2 y0 y1 y2
  obtain ⟨x0, x1, x2, _, _, _, _⟩ := k4
  obtain ⟨c0, c1', c2', f0, f1, f2, lt2⟩ := kz
  have HW4 := hideP hW4
  rw [hW4] at x0 x1 x2 c0 c1' c2' f0 f1 f2
  clear hW4 hR hF X1 X2 MU
  go_wp2_with fail
  rw [← HW4.out]
  rw [← HW4.out] at x0 x1 x2 c0 c1' c2' f0 f1 f2
  go_wp2
  simp [bodyPost, results, Try.results33, go_sem, c0, c1', c2']
  exact ⟨p3, c3, ⟨rfl, rfl⟩, ⟨mx_put7 HR.out HF.out _ _ _, fresh_le HF.out (by omega)⟩, Bl.put3 B4 (Nat.le_refl _) _ _ _⟩
set_option maxRecDepth 100000 in
set_option maxHeartbeats 2000000 in
theorem jRestF (n N : Nat) (pk : Option Addr) (ck : Nat) (k : Nat → Fr) (ph : Option Addr) (ch : Nat) (h : Nat → Fr) (w : World) (hk : Rq 3 cellsF w (.slice pk n ck) (linJ n k)) (hh : Rq 3 cellsF w (.slice ph n ch) (linJ n h)) (hd : Dim n n) (hN : N = n * n) :
    Calls Try.prog 32 #[.slice pk n ck, .slice ph n ch] w fun e w' => ∃ q c, e = .returned (mV n n q N c) ∧ (Mx 3 cellsF w' n n q N c (restJ kdF (fun i j => wholeF (unitI i j)) k h) ∧ Fresh w.heap.size (.slice q N c)) ∧ Bl w w' := by
  have fm : Try.prog.follows .mixedOrders = true := by kernel_rfl
  have egO := enters_of Try.func33 (by kernel_rfl) rfl
  have egS := enters_of Try.func57 (by kernel_rfl) rfl
  obtain ⟨W, hW⟩ : ∃ W, W = w.alloc (.cells #[.int .i64 0, .int .i64 0, .slice none 0 0] 29) := ⟨_, rfl⟩
  have b0 : Bl w W := by rw [hW]; exact (Bl.refl _).alloc _
  have z0 : MBox W w.heap.size 0 0 none 0 0 := by rw [hW]; exact MBox.new w _ _ _ _ _ _
  have hs : W.heap.size = w.heap.size + 1 := by rw [hW]; simp
  have HK := hideP hk
  have HH := hideP hh
  have HD := hideP hd
  have HN := hideP hN
  have HW := hideP hW
  have UN := hideP (mUnitF n N hd.r1 hd.r2 hN W)
  clear hW hk hh hd hN
  go_enter Try.func32, Try.ntmps32
  go_wp2_with fail
  rw [← HW.out]
  refine UN.out.mono ?_
  rintro e w1 ⟨p1, c1, rfl, h1x, h1⟩
  have k1 := MBox.new w1 n n p1 N c1 29
  obtain ⟨W2, hW2⟩ : ∃ W2, W2 = w1.alloc (.cells #[.int .i64 n, .int .i64 n, .slice p1 N c1] 29) := ⟨_, rfl⟩
  have b2 : Bl w1 W2 := by rw [hW2]; exact (Bl.refl _).alloc _
  rw [← hW2] at k1
  have hs2 : w.heap.size + 1 ≤ W2.heap.size := by have := (h1.trans b2).size; omega
  have HW2 := hideP hW2
  have B2 : Bl w W2 := b0.trans (h1.trans b2)
  have kz := z0.later (h1.trans b2)
  have H1 := hideP (Mx.later h1x b2)
  clear hW2 h1x UN
  go_wp2_with fail
  rw [← HW2.out]
  refine (wpIn_wide (n := 8)).1 (region_q fm [some 16, some 17, some 18, some 19, some 20, some 15, some 21, some 22, some 7, none, some 8] (fun j => j == 7 || j == 10) 9 (by kernel_rfl) (by rfl)
    (fun j v u => match j with | 0 => v = mV n n p1 N c1 | 1 => v = .slice pk n ck | 2 => v = .slice ph n ch | 3 => ∃ q c, v = mV n n q N c ∧ Mx 3 cellsF u n n q N c (outerJ kdF k h) | 4 => ∃ q c, v = .tuple #[mV n n q N c, .bool true] ∧ Mx 3 cellsF u n n q N c (restJ kdF (fun i j => wholeF (unitI i j)) k h) ∧ Fresh W2.heap.size (.slice q N c) | 5 => ∃ q c, v = .tuple #[mV n n q N c, .bool true] ∧ Mx 3 cellsF u n n q N c (restJ kdF (fun i j => wholeF (unitI i j)) k h) ∧ Fresh W2.heap.size (.slice q N c) | 6 => ∃ q c, v = mV n n q N c ∧ Mx 3 cellsF u n n q N c (restJ kdF (fun i j => wholeF (unitI i j)) k h) ∧ Fresh W2.heap.size (.slice q N c) | 7 => v = .bool true | 8 => ∃ b, v = .pointer (some ⟨b, 0, none⟩) ∧ W2.heap.size ≤ b ∧ MBox u b 0 0 none 0 0 ∧ NoB u b | 10 => v = .bool true | _ => False)
    (by
        intro j v u u' hb h
        split at h
        · exact h
        · exact h
        · exact h
        · obtain ⟨q, c, e, h1⟩ := h; exact ⟨q, c, e, Mx.later h1 hb⟩
        · obtain ⟨q, c, e, h1, h2⟩ := h; exact ⟨q, c, e, Mx.later h1 hb, h2⟩
        · obtain ⟨q, c, e, h1, h2⟩ := h; exact ⟨q, c, e, Mx.later h1 hb, h2⟩
        · obtain ⟨q, c, e, h1, h2⟩ := h; exact ⟨q, c, e, Mx.later h1 hb, h2⟩
        · exact h
        · obtain ⟨b, e, h1, h2, h3⟩ := h; exact ⟨b, e, h1, h2.later hb, h3.later hb h2.lt⟩
        · exact h
        · exact h) (fun vs u0 u => ∃ b q c, vs 8 = .pointer (some ⟨b, 0, none⟩) ∧ MBox u b n n q N c ∧ Mx 3 cellsF u n n q N c (restJ kdF (fun i j => wholeF (unitI i j)) k h) ∧ Fresh W2.heap.size (.slice q N c) ∧ MBox u w.heap.size 0 0 none 0 0 ∧ Bl w u) ?step ?still ?store ?fin)
  case step =>
    intro j o t act u ho hdt hpu hsz hu hfr hin
    have hj : j < 11 := (Array.getElem?_eq_some_iff.1 ho).1
    obtain ⟨y0, y1, y2, _, _, _, _⟩ := k1.later hu
    rcases (by omega : j = 0 ∨ j = 1 ∨ j = 2 ∨ j = 3 ∨ j = 4 ∨ j = 5 ∨ j = 6 ∨ j = 7 ∨ j = 8 ∨ j = 9 ∨ j = 10) with rfl | rfl | rfl | rfl | rfl | rfl | rfl | rfl | rfl | rfl | rfl
    · simp only [List.getElem?_toArray, List.getElem?_cons_zero, List.getElem?_cons_succ, Option.some.injEq] at ho
      subst ho
      obtain rfl := Option.some.inj hdt
      have i5 : act.eval (.tmp (5 : Nat)) = .pointer (some ⟨w1.heap.size, 0, none⟩) := hfr 5 (by decide)
      exact plain_wp (by intro c h; cases h) (fun _ _ => trivial) (by simp only [execOp, i5, evalC, evalF, evalG]; simp [go_sem, y0, y1, y2]) ⟨_, rfl, rfl, Bl.refl _⟩
    · simp only [List.getElem?_toArray, List.getElem?_cons_zero, List.getElem?_cons_succ, Option.some.injEq] at ho
      subst ho
      obtain rfl := Option.some.inj hdt
      have i0 : act.eval (.tmp (0 : Nat)) = .slice pk n ck := hfr 0 (by decide)
      exact plain_wp (by intro c h; cases h) (fun _ _ => trivial) (by simp only [execOp, i0, evalC, evalF, evalG]; simp [go_sem]) ⟨_, rfl, rfl, Bl.refl _⟩
    · simp only [List.getElem?_toArray, List.getElem?_cons_zero, List.getElem?_cons_succ, Option.some.injEq] at ho
      subst ho
      obtain rfl := Option.some.inj hdt
      have i1 : act.eval (.tmp (1 : Nat)) = .slice ph n ch := hfr 1 (by decide)
      exact plain_wp (by intro c h; cases h) (fun _ _ => trivial) (by simp only [execOp, i1, evalC, evalF, evalG]; simp [go_sem]) ⟨_, rfl, rfl, Bl.refl _⟩
    · simp only [List.getElem?_toArray, List.getElem?_cons_zero, List.getElem?_cons_succ, Option.some.injEq] at ho
      subst ho
      obtain rfl := Option.some.inj hdt
      have i17 : (act.eval (.tmp (17 : Nat))) = .slice pk n ck := hin ⟨1, .data⟩ (by simp) rfl 17 rfl
      have i18 : (act.eval (.tmp (18 : Nat))) = .slice ph n ch := hin ⟨2, .data⟩ (by simp) rfl 18 rfl
      refine enter_wp 33 #[.slice pk n ck, .slice ph n ch] (by intro c h; cases h) (fun _ _ => trivial) (by simp only [execOp, evalC, evalF, evalG, resolve, i17, i18, List.map_toArray, List.map_cons, List.map_nil]; simp [invoke, egO, Result.andThen, go_sem]) (by intro h; cases h) (callsIn_wide.2 (jOuterF n n N pk ck k ph ch h u (HK.out.later (B2.trans hu)) (HH.out.later (B2.trans hu)) HD.out HN.out)) ?_
      rintro e w' ⟨q, c, rfl, ⟨hM, _⟩, hb⟩
      exact ⟨_, rfl, _, rfl, ⟨q, c, rfl, hM⟩, hb⟩
    · simp only [List.getElem?_toArray, List.getElem?_cons_zero, List.getElem?_cons_succ, Option.some.injEq] at ho
      subst ho
      obtain rfl := Option.some.inj hdt
      have i16 : (act.eval (.tmp (16 : Nat))) = mV n n p1 N c1 := hin ⟨0, .data⟩ (by simp) rfl 16 rfl
      have i19 : ∃ q c, (act.eval (.tmp (19 : Nat))) = mV n n q N c ∧ Mx 3 cellsF u n n q N c (outerJ kdF k h) := hin ⟨3, .data⟩ (by simp) rfl 19 rfl
      obtain ⟨q0, c0', e1, hq⟩ := i19
      refine enter_wp 57 #[mV n n p1 N c1, mV n n q0 N c0'] (by intro c h; cases h) (fun _ _ => trivial) (by simp only [execOp, evalC, evalF, evalG, resolve, i16, e1, List.map_toArray, List.map_cons, List.map_nil]; simp [invoke, egS, Result.andThen, go_sem]) (by intro h; cases h) (callsIn_wide.2 (mSubF' n n p1 q0 N c1 c0' _ _ u (H1.out.later hu) hq)) ?_
      rintro e w' ⟨q, c, rfl, ⟨hM, hF⟩, hb⟩
      exact ⟨_, rfl, _, rfl, ⟨q, c, rfl, hM, fresh_le hF hu.size⟩, hb⟩
    · simp only [List.getElem?_toArray, List.getElem?_cons_zero, List.getElem?_cons_succ, Option.some.injEq] at ho
      subst ho
      obtain rfl := Option.some.inj hdt
      have i20 : ∃ q c, (act.eval (.tmp (20 : Nat))) = .tuple #[mV n n q N c, .bool true] ∧ Mx 3 cellsF u n n q N c (restJ kdF (fun i j => wholeF (unitI i j)) k h) ∧ Fresh W2.heap.size (.slice q N c) := hin ⟨4, .data⟩ (by simp) rfl 20 rfl
      obtain ⟨q0, c0', e1, hq⟩ := i20
      exact plain_wp (by intro c h; cases h) (fun _ _ => trivial) (by simp only [execOp, e1]; simp [go_sem]) ⟨_, rfl, ⟨q0, c0', rfl, hq⟩, Bl.refl _⟩
    · simp only [List.getElem?_toArray, List.getElem?_cons_zero, List.getElem?_cons_succ, Option.some.injEq] at ho
      subst ho
      obtain rfl := Option.some.inj hdt
      have i15 : ∃ q c, (act.eval (.tmp (15 : Nat))) = .tuple #[mV n n q N c, .bool true] ∧ Mx 3 cellsF u n n q N c (restJ kdF (fun i j => wholeF (unitI i j)) k h) ∧ Fresh W2.heap.size (.slice q N c) := hin ⟨5, .data⟩ (by simp) rfl 15 rfl
      obtain ⟨q0, c0', e1, hq⟩ := i15
      exact plain_wp (by intro c h; cases h) (fun _ _ => trivial) (by simp only [execOp, e1]; simp [go_sem]) ⟨_, rfl, ⟨q0, c0', rfl, hq⟩, Bl.refl _⟩
    · cases hpu
    · simp only [List.getElem?_toArray, List.getElem?_cons_zero, List.getElem?_cons_succ, Option.some.injEq] at ho
      subst ho
      obtain rfl := Option.some.inj hdt
      exact plain_wp (by intro c h; cases h) (fun _ _ => trivial) (w' := u.alloc (.cells #[.int .i64 0, .int .i64 0, .slice none 0 0] 29)) (v := .pointer (some ⟨u.heap.size, 0, none⟩)) (by simp only [execOp]; simp [go_sem]) ⟨_, rfl, ⟨u.heap.size, rfl, hu.size, MBox.new u 0 0 none 0 0 _, noB_new u _⟩, (Bl.refl _).alloc _⟩
    · simp only [List.getElem?_toArray, List.getElem?_cons_zero, List.getElem?_cons_succ, Option.some.injEq] at ho
      subst ho
      cases hdt
    · cases hpu
  case still =>
    intro j o t act u0 u ho hdt hpu hsz hu hfr hin
    have hj : j < 11 := (Array.getElem?_eq_some_iff.1 ho).1
    obtain ⟨y0, y1, y2, _, _, _, _⟩ := k1.later hu
    rcases (by omega : j = 0 ∨ j = 1 ∨ j = 2 ∨ j = 3 ∨ j = 4 ∨ j = 5 ∨ j = 6 ∨ j = 7 ∨ j = 8 ∨ j = 9 ∨ j = 10) with rfl | rfl | rfl | rfl | rfl | rfl | rfl | rfl | rfl | rfl | rfl
    · cases hpu
    · cases hpu
    · cases hpu
    · cases hpu
    · cases hpu
    · cases hpu
    · cases hpu
    · simp only [List.getElem?_toArray, List.getElem?_cons_zero, List.getElem?_cons_succ, Option.some.injEq] at ho
      subst ho
      obtain rfl := Option.some.inj hdt
      have i15 : ∃ q c, (act.eval (.tmp (15 : Nat))) = .tuple #[mV n n q N c, .bool true] ∧ Mx 3 cellsF u0 n n q N c (restJ kdF (fun i j => wholeF (unitI i j)) k h) ∧ Fresh W2.heap.size (.slice q N c) := hin ⟨5, .data⟩ (by simp) rfl 15 rfl
      obtain ⟨q0, c0', e1, hq⟩ := i15
      exact plain_wp (by intro c h; cases h) (fun _ _ => trivial) (by simp only [execOp, e1]; simp [go_sem]) ⟨_, rfl, rfl, rfl⟩
    · cases hpu
    · cases hpu
    · simp only [List.getElem?_toArray, List.getElem?_cons_zero, List.getElem?_cons_succ, Option.some.injEq] at ho
      subst ho
      obtain rfl := Option.some.inj hdt
      have i22 : (act.eval (.tmp (22 : Nat))) = .bool true := hin ⟨7, .data⟩ (by simp) rfl 22 rfl
      exact plain_wp (by intro c h; cases h) (fun _ _ => trivial) (by simp only [execOp, i22, evalC, evalF, evalG]; simp [go_sem]) ⟨_, rfl, rfl, rfl⟩
  case store =>
    intro o act u vs ho hsz hu hfr hin
    simp only [List.getElem?_toArray, List.getElem?_cons_zero, List.getElem?_cons_succ, Option.some.injEq] at ho
    subst ho
    obtain ⟨i7, k7⟩ : act.eval (.tmp (7 : Nat)) = vs 8 ∧ (∃ b, (vs 8) = .pointer (some ⟨b, 0, none⟩) ∧ W2.heap.size ≤ b ∧ MBox u b 0 0 none 0 0 ∧ NoB u b) := hin 8 7 rfl rfl
    obtain ⟨i21, k21⟩ : act.eval (.tmp (21 : Nat)) = vs 6 ∧ (∃ q c, (vs 6) = mV n n q N c ∧ Mx 3 cellsF u n n q N c (restJ kdF (fun i j => wholeF (unitI i j)) k h) ∧ Fresh W2.heap.size (.slice q N c)) := hin 6 21 rfl rfl
    obtain ⟨b, e1, hb, bx, nb⟩ := k7
    obtain ⟨q0, c0', e2, hq, hf⟩ := k21
    rw [e1] at i7
    rw [e2] at i21
    obtain ⟨c0, c1', c2, f0, f1, f2, ltb⟩ := id bx
    exact skip_wp (by intro c h; cases h) (fun _ _ => trivial) (by simp only [execOp, i7, i21]; simp [go_sem, c0, c1', c2, f0, f1, f2]) ⟨rfl, b, q0, c0', e1, bx.fill _ _ _ _ _, mx_ne7 hq (noB_mx boolF hq nb) _ _ _, hf, mbox_set7 (mbox_set7 (mbox_set7 (kz.later hu) (by omega) _ _) (by omega) _ _) (by omega) _ _, Bl.put3 (B2.trans hu) (by omega) _ _ _⟩
  case fin =>
    intro vs vb u0 u hu hin hps
    have a0 := hin 0 16 rfl
    have a1 := hin 1 17 rfl
    have a2 := hin 2 18 rfl
    have a3 := hin 3 19 rfl
    have a4 := hin 4 20 rfl
    have a5 := hin 5 15 rfl
    have a6 := hin 6 21 rfl
    have a7 := hin 7 22 rfl
    have a8 := hin 8 7 rfl
    have a10 := hin 10 8 rfl
    simp only [putL, Act.put, List.setIfInBounds_toArray, List.set_cons_zero, List.set_cons_succ, Nat.zero_add, Nat.reduceAdd, Nat.reduceBEq, Bool.or_false, Bool.or_true, Bool.false_or, Bool.true_or, Bool.false_eq_true, if_false, if_true, reduceIte, Nat.reduceEqDiff, beq_self_eq_true, Bool.or_self] at a0 a1 a2 a3 a4 a5 a6 a7 a8 a10 ⊢
    rw [if_pos (by decide)] at hps
    simp only [a0, a1, a2, a7, a10]
    obtain ⟨b, q, c, e7, kx, hM, hF, kz', hbw⟩ := hps
    simp only [e7]
    clear a3 a4 a5 a6 a8
    have HR := hideP hM
    have HF := hideP (show Fresh (w.heap.size + 1) (.slice q N c) from fresh_le hF (by omega))
    clear hM hF
    obtain ⟨x0, x1, x2, _, _, _, _⟩ := kx
    obtain ⟨c0, c1', c2, f0, f1, f2, lt2⟩ := kz'
    go_wp2
    simp [bodyPost, results, Try.results32, go_sem, c0, c1', c2]
    exact ⟨q, c, ⟨rfl, rfl⟩, ⟨mx_put7 HR.out HF.out _ _ _, fresh_le HF.out (by omega)⟩, Bl.put3 hbw (by omega) _ _ _⟩
end Go.Proofs.Ytlbmkjicbkfmjaa
