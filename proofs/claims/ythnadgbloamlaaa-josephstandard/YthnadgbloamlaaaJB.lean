/- Worlds between which nothing has turned but two blocks, each stored once. -/
import Derived.Test.YthnadgbloamlaaaJA
import Derived.Laws.EntriesVeiled
import Derived.Test.YthnadgbloamlaaaHsM
import Derived.Test.YthnadgbloamlaaaVeHF
import Derived.Laws.IdiomCopy
/- mat's Mul, of fractions (layer 6). Written by genMa.py. -/
namespace Go.Proofs.Ythnadgbloamlaaa
open Go.RowKit Go.Shelf
set_option linter.unusedSimpArgs false
set_option linter.unusedVariables false
attribute [local go_sem] Oper.semAt_some

/-- A product's number. -/
def mulMF (M : Nat) (f g : Nat → Nat → Fr) (i k : Nat) : Fr := dotF (rowM M f i) (colM M g k)
theorem own_blTF {w w' : World} {B n : Nat} {v : Value} {l : List Value} (h : w.ownsRow B 35 3 v n l) (k : Bl w w') : w'.ownsRow B 35 3 v n l := own_blF h k
set_option maxRecDepth 100000 in
set_option maxHeartbeats 4000000 in
theorem mMulF (R M D : Nat) (p : Option Addr) (n cap : Nat) (f : Nat → Nat → Fr) (q : Option Addr) (n2 cap2 : Nat) (g : Nat → Nat → Fr) (N : Nat) (w : World) (hx : Mx 3 cellsF w R M p n cap f) (hy : Mx 3 cellsF w M D q n2 cap2 g) (hN : N = R * D) :
    Calls Try.prog 53 #[mV R M p n cap, mV M D q n2 cap2] w fun e w' => ∃ p' cap', e = .returned (.tuple #[mV R D p' N cap', .bool true]) ∧ (Mx 3 cellsF w' R D p' N cap' (mulMF M f g) ∧ Rw 3 cellsF w' (.slice p' N cap') (mk R D (mulMF M f g)) ∧ Fresh w.heap.size (.slice p' N cap')) ∧ Bl w w' := by
  obtain ⟨i0, hi, hz0, hz1, hz2⟩ := info_parts Try.info_F
  refine (callsIn_wide (n := 8)).1 ?_
  have hfx := hx.fit
  have hfy := hy.fit
  have hdR := hx.1
  have hdD := hy.1
  have hRD : (R : Int) * (D : Int) = N := by rw [hN]; simp
  have hN256 : N ≤ 256 := by rw [hN]; exact Nat.mul_le_mul hdR.r2 hdD.c2
  have hM16 := hdR.c2
  have HN := hideP hN
  have HXm := hideP hx
  have HYm := hideP hy
  clear hN hx hy
  obtain ⟨W, hW⟩ : ∃ W, W = ((w.alloc (.cells #[.int .i64 R, .int .i64 M, .slice p n cap] 29)).alloc (.cells #[.int .i64 M, .int .i64 D, .slice q n2 cap2] 29)).alloc (.cells #[.int .i64 0, .int .i64 0, .slice none 0 0] 29) := ⟨_, rfl⟩
  have b0 : Bl w W := by rw [hW]; exact (((Bl.refl _).alloc _).alloc _).alloc _
  have mx0 : MBox W w.heap.size R M p n cap := by rw [hW]; exact (MBox.new w _ _ _ _ _ _).later (((Bl.refl _).alloc _).alloc _)
  have my0 : MBox W (w.heap.size + 1) M D q n2 cap2 := by rw [hW]; have := (MBox.new (w.alloc (.cells #[.int .i64 R, .int .i64 M, .slice p n cap] 29)) M D q n2 cap2 29); rw [World.size_alloc] at this; exact this.later ((Bl.refl _).alloc _)
  have mz0 : MBox W (w.heap.size + 1 + 1) 0 0 none 0 0 := by rw [hW]; have := MBox.new ((w.alloc (.cells #[.int .i64 R, .int .i64 M, .slice p n cap] 29)).alloc (.cells #[.int .i64 M, .int .i64 D, .slice q n2 cap2] 29)) 0 0 none 0 0 29; rw [World.size_alloc, World.size_alloc] at this; exact this
  have hs0 : W.heap.size = w.heap.size + 1 + 1 + 1 := by rw [hW]; simp
  have HW := hideP hW
  clear hW
  refine callsIn_of_wp_marks Try.func53 rfl trivial ?_ rfl
  simp only [Try.ntmps53, List.size_toArray, List.length_cons, List.length_nil, Nat.reduceAdd, Nat.reduceSub, Array.replicate_succ, Array.replicate_zero, List.push_toArray, List.append_toArray, List.nil_append, List.cons_append]
  gi_wp2_with fail
  rw [← HW.out]
  refine ⟨trivial, ?_⟩
  refine (callsIn_wide.2 (mRightF _ _ _ _ _ _)).mono ?_
  rintro e w1 ⟨rfl, h1⟩
  rw [hfx]
  have mx1 := mx0.later h1
  have my1 := my0.later h1
  obtain ⟨d0, d1, d2, u0, u1, u2, ltm⟩ := my1
  obtain ⟨c0, c1, c2, f0, f1, f2, lt⟩ := mx1
  gi_wp2_with fail
  refine ⟨trivial, ?_⟩
  refine (callsIn_wide.2 (mRightF _ _ _ _ _ _)).mono ?_
  rintro e w2 ⟨rfl, h2⟩
  rw [hfy]
  clear c0 c1 c2 f0 f1 f2 d0 d1 d2 u0 u1 u2 lt ltm
  obtain ⟨c0, c1, c2, f0, f1, f2, lt⟩ := mx0.later (h1.trans h2)
  obtain ⟨d0, d1, d2, u0, u1, u2, ltm⟩ := my0.later (h1.trans h2)
  gi_wp2_with fail
  refine ⟨trivial, ?_⟩
  refine (callsIn_wide.2 (mTurnF _ _ _ _ _ g _ (HYm.out.later ((b0.trans h1).trans h2)))).mono ?_
  rintro e w3 ⟨q1, cap3, rfl, ⟨hT, _, _⟩, h3⟩
  have HT := hideP hT
  clear hT c0 c1 c2 f0 f1 f2 d0 d1 d2 u0 u1 u2 lt ltm
  gi_wp2_with fail
  refine ⟨trivial, ?_⟩
  refine (callsIn_wide.2 (mAllF _ _ _ _ _ _ _ HT.out)).mono ?_
  rintro e w4 ⟨B1, q2, cap4, rfl, hK4, h4⟩
  have HK4 := hideP hK4
  clear hK4
  have h14 : Bl W w4 := ((h1.trans h2).trans h3).trans h4
  obtain ⟨w5, hw5⟩ : ∃ w5, w5 = w4.alloc (.cells #[.func (.func 60) #[] #[.pointer (some ⟨B1, 0, none⟩)]] 60) := ⟨_, rfl⟩
  have b45 : Bl w4 w5 := by rw [hw5]; exact (Bl.refl _).alloc _
  have hs5 : w5.heap.size = w4.heap.size + 1 := by rw [hw5]; simp
  have BC5 : Boxed w5 w4.heap.size 60 (.func (.func 60) #[] #[.pointer (some ⟨B1, 0, none⟩)]) := by rw [hw5]; exact Boxed.new w4 _ _
  have mx5 := mx0.later (h14.trans b45)
  have my5 := my0.later (h14.trans b45)
  have mz5 := mz0.later (h14.trans b45)
  have bw5 : Bl w w5 := (b0.trans h14).trans b45
  have HW5 := hideP hw5
  clear hw5
  obtain ⟨c0, c1, c2, f0, f1, f2, lt⟩ := mx0.later h14
  obtain ⟨d0, d1, d2, u0, u1, u2, ltm⟩ := my0.later h14
  gi_wp2_with (gi_at_make; refine wpListIn_make_own _ rfl _ _ 27 rfl (w4.heap.size + 1) 35 i0 (.agg #[.int .i64 0, .int .i64 0, .bool false]) 3 Try.underlying27 hi hz0 hz1 .i64 .i64 _ N rfl rfl (by simp) (by rw [hz2]; omega) (by unfold maxLen; omega) (by simp) ?_; intro w6 hown0 hgrow0; rw [← HW5.out] at hown0 hgrow0; have mx6 := mbox_block mx5 (hgrow0.block _ mx5.lt nofun) hgrow0.size; clear c0 c1 c2 f0 f1 f2 d0 d1 d2 u0 u1 u2 lt ltm; obtain ⟨c0, c1, c2, f0, f1, f2, lt⟩ := mx6)
  have h56 : Bl w5 w6 := ⟨hgrow0.os, hgrow0.tape, hgrow0.output, hgrow0.size, fun k hk => hgrow0.block k hk nofun⟩
  have hs6 : w5.heap.size ≤ w6.heap.size := hgrow0.size
  obtain ⟨w6b, hw6b⟩ : ∃ w6b, w6b = w6.alloc (.cells #[.slice (some ⟨w4.heap.size + 1, 0, none⟩) 0 N] 27) := ⟨_, rfl⟩
  have h6b : Bl w6 w6b := by rw [hw6b]; exact (Bl.refl _).alloc _
  have hs6b : w6b.heap.size = w6.heap.size + 1 := by rw [hw6b]; simp
  have bl6 : Boxed w6b w6.heap.size 27 (.slice (some ⟨w4.heap.size + 1, 0, none⟩) 0 N) := by rw [hw6b]; exact Boxed.new w6 _ _
  have hown6 : w6b.ownsRow (w4.heap.size + 1) 35 3 (.slice (some ⟨w4.heap.size + 1, 0, none⟩) 0 N) 0 [] := by
    rw [hs5] at hown0
    exact own_blF hown0 h6b
  have HW6 := hideP hw6b
  clear hw6b hown0 hgrow0 c0 c1 c2 f0 f1 f2 lt
  rw [← HW6.out]
  refine ⟨trivial, ?_⟩
  refine (callsIn_wide.2 (mAllF _ _ _ _ _ f _ (HXm.out.later ((bw5.trans h56).trans h6b)))).mono ?_
  rintro e w7 ⟨B2, p2, cap5, rfl, hK7, h7⟩
  have HK7 := hideP hK7
  clear hK7
  have hs7 : w6.heap.size + 1 ≤ w7.heap.size := by have := h7.size; omega
  have b57 : Below w5.heap.size w5 w7 := (h56.trans h6b).trans h7
  have bl7 := boxed_bl bl6 h7
  have own7 := own_blF hown6 h7
  clear bl6 hown6
  have K4at : ∀ u, Below w5.heap.size w5 u → KeptIn 3 cellsF u w3.heap.size w4.heap.size B1 D M q2 n2 cap4 (fun i k => g k i) := fun u hu =>
    (HK4.out.later (Bl.span b45 (Nat.le_refl _))).later (Bl.span (show Bl w5 u from hu) (by omega))
  have HKA := hideP K4at
  clear K4at
  gi_wp2_with fail
  refine rangeV rfl (by omega) (gf := 60) (lb := #[.pointer (some ⟨B2, 0, none⟩)]) rfl trivial (enters_of Try.func60 (by kernel_rfl) rfl)
    (seqMF 7 B2 _ w7.heap.size R M p2 n cap5 f w7 (Nat.le_refl _) HK7.out) (fun x A B h => h.1) (fun h k => h.trans k) (span_b (Nat.le_refl _)) (fun _ => rfl)
    (fun pre U => (∃ v, Boxed U w6.heap.size 27 v ∧ U.ownsRow (w4.heap.size + 1) 35 3 v (rowsL D (mulMF M f g) pre).length ((rowsL D (mulMF M f g) pre).flatMap cellsF) ∧ (∀ b, v.ownBlock = some b → b < w6b.heap.size ∨ w7.heap.size ≤ b)) ∧ (Below w5.heap.size w5 U ∧ w7.heap.size ≤ U.heap.size))
    (fun _ _ _ => False)
    (OwnFrom.and (Own.from (holdsRow_own (w4.heap.size + 1) w6.heap.size 27 35 3 (fun pre => (rowsL D (mulMF M f g) pre).length) (fun pre => (rowsL D (mulMF M f g) pre).flatMap cellsF) (fun _ v => ∀ b, v.ownBlock = some b → b < w6b.heap.size ∨ w7.heap.size ≤ b)) _) (OwnFrom.and (ownFrom_below (Nat.le_refl _) b57.size) (own_size _ _)))
    (fun _ _ _ _ _ hs _ _ => hs)
    ⟨⟨_, bl7, own7, fun b hb => by cases hb; exact .inl (by show w4.heap.size + 1 < _; omega)⟩, b57, Nat.le_refl _⟩
    (fun a x a' U => ∃ Bx v, w7.heap.size ≤ Bx ∧ Boxed U Bx 27 (rowV M x) ∧ Rw 3 cellsF U (rowV M x) (rowM M f x.1) ∧ Boxed U w6.heap.size 27 v ∧ (∀ b, (rowV M x).ownBlock = some b → w7.heap.size ≤ b ∧ v.ownBlock ≠ some b)
      ∧ a' = { tmps := (((a.tmps.setIfInBounds 39 (.int .i64 x.1)).setIfInBounds 40 (rowV M x)).setIfInBounds 9 (.pointer (some ⟨Bx, 0, none⟩))), defers := [] })
    (fun x a' _ X Y row hs hg hr => by obtain ⟨Bx, v, h0, h1, h2, h3, h4, h5⟩ := hs; exact ⟨Bx, v, h0, (Own.from (boxed_own (β := Unit) _ _ (fun _ => _)) _) () _ _ _ h1 hg hr, rw_own h2 hg (fun r e => (hr r e).2), (Own.from (boxed_own (β := Unit) _ _ (fun _ => _)) _) () _ _ _ h3 hg hr, h4, h5⟩)
    ?assign ?body ?done ?stop
  case assign =>
    rintro l pre x W0 U K' ⟨⟨v0, hv0, hr0, _⟩, _, hs0'⟩ ⟨hbU, hxR, hrow, hfr, hcc⟩ ⟨⟨v, hv, hr, hg⟩, hbU5, hsU⟩ hK'
    have HK2 := hideP hK'
    clear hK'
    have hvv : v0 = v := by
      have e1 := (boxed_bl hv0 hbU).cell
      rw [hv.cell] at e1
      exact (Option.some.inj e1).symm
    subst hvv
    have hfw : ∀ b, (rowV M x).ownBlock = some b → w7.heap.size ≤ b ∧ v0.ownBlock ≠ some b := fun b hb => ⟨by have := hfr b hb; omega, fun e => by have := (hr0.lt b e).2; have := hfr b hb; omega⟩
    gi_wp2
    have hb2 : Bl U (U.alloc (.cells #[.slice x.2.1 M x.2.2] 27)) := (Bl.refl U).alloc _
    refine HK2.out _ _ (hb2.keeps _) (hb2.span hsU) ⟨⟨v0, hv.alloc _, hr.alloc _, hg⟩, hbU5.trans (hb2.mono hbU5.size), by have := hb2.size; omega⟩ ⟨U.heap.size, v0, hsU, Boxed.new U _ _, hrow.later hb2, hv.alloc _, hfw, ?_⟩
    rfl
  case body =>
    rintro l pre x a' U hl' ⟨r, hr'⟩ ⟨⟨v1, hv1, hrow1, hg1⟩, hbU, hsU⟩ ⟨Bx, v2, hBx, hbx, hrx, hv2, hne, rfl⟩ hlt
    have hvv : v1 = v2 := by
      have e1 := hv1.cell
      rw [hv2.cell] at e1
      exact (Option.some.inj e1).symm
    subst hvv
    have fm : Try.prog.follows .mixedOrders = true := by kernel_rfl
    simp only [List.setIfInBounds_toArray, List.set_cons_zero, List.set_cons_succ]
    have hcl := (boxed_bl (show Boxed w5 _ _ _ from BC5) hbU).cell
    have hKU := HKA.out U hbU
    have HR1 := hideP hrow1
    have HV1 := hideP hv1
    have HBX := hideP hbx
    have HRX := hideP hrx
    have HNE := hideP hne
    have HG1 := hideP hg1
    have hlx : pre.length * D + D ≤ 256 := by
      have h1 : (pre.length + 1) * D ≤ R * D := Nat.mul_le_mul_right _ hlt
      have := HN.out
      rw [Nat.succ_mul] at h1
      omega
    clear hrow1 hv1 hbx hrx hne hg1 hv2
    gi_wp2_with fail
    clear hcl
    refine rangeVin (l₀ := l) (r₀ := r) rfl hr' (by omega) (gf := 60) (lb := #[.pointer (some ⟨B1, 0, none⟩)]) rfl trivial (enters_of Try.func60 (by kernel_rfl) rfl)
      ((seqMF 5 B1 w3.heap.size w4.heap.size D M q2 n2 cap4 (fun i k => g k i) U (by omega) hKU).inRound l) (fun x A B h => h.1) (fun h k => h.trans k) (span_b (by omega)) (fun _ => rfl)
      (fun pre2 U2 => (∃ v, Boxed U2 w6.heap.size 27 v ∧ U2.ownsRow (w4.heap.size + 1) 35 3 v (partL D (mulMF M f g) pre x.1 pre2).length ((partL D (mulMF M f g) pre x.1 pre2).flatMap cellsF) ∧ (∀ b, v.ownBlock = some b → (b < w6b.heap.size ∨ w7.heap.size ≤ b) ∧ (rowV M x).ownBlock ≠ some b))
        ∧ (Boxed U2 Bx 27 (rowV M x) ∧ (Rw 3 cellsF U2 (rowV M x) (rowM M f x.1) ∧ (Below w5.heap.size w5 U2 ∧ (w7.heap.size ≤ U2.heap.size ∧ (Span w6b.heap.size w7.heap.size U U2 ∧ (KeepsFrom w7.heap.size U U2 ∧ U.heap.size ≤ U2.heap.size)))))))
      (fun _ _ _ => False)
      (OwnFrom.and (Own.from (holdsRow_own (w4.heap.size + 1) w6.heap.size 27 35 3 (fun pre2 => (partL D (mulMF M f g) pre x.1 pre2).length) (fun pre2 => (partL D (mulMF M f g) pre x.1 pre2).flatMap cellsF) (fun _ v => ∀ b, v.ownBlock = some b → (b < w6b.heap.size ∨ w7.heap.size ≤ b) ∧ (rowV M x).ownBlock ≠ some b)) _)
        (OwnFrom.and (Own.from (boxed_own _ _ (fun _ => _)) _) (OwnFrom.and (own_rw _ _ _ _ _) (OwnFrom.and (ownFrom_below (Nat.le_refl _) (by have := b57.size; omega)) (OwnFrom.and (own_size _ _) (OwnFrom.and (own_span hsU (Nat.le_refl _)) (OwnFrom.and (ownFrom_keepsFrom (Nat.le_refl _)) (own_size _ _))))))))
      (fun _ _ _ _ _ hs _ _ => hs)
      ⟨⟨v1, HV1.out, by rw [partL_nil]; exact HR1.out, fun b hb => ⟨HG1.out b hb, fun e => (HNE.out b e).2 hb⟩⟩, HBX.out, HRX.out, hbU, hsU, Span.refl _ _ _, KeepsFrom.refl _ _, Nat.le_refl _⟩
      (fun a y a' U2 => y.1 < D ∧ Rw 3 cellsF U2 (rowV M y) (colM M g y.1) ∧ a' = { tmps := (((a.tmps.setIfInBounds 42 (.int .i64 y.1)).setIfInBounds 43 (rowV M y)).setIfInBounds 11 (rowV M y)), defers := [] })
      (fun y a' _ X Y row hs hg hr => ⟨hs.1, rw_own hs.2.1 hg (fun r e => (hr r e).2), hs.2.2⟩)
      ?assign2 ?body2 ?done2 ?stop2
    case assign2 =>
      rintro l2 pre2 y W0 U2 K' _ ⟨hbU2, hyD, hrow, _, _⟩ hI2 hK'
      have HK2 := hideP hK'
      have HI2 := hideP hI2
      clear hK' hI2
      gi_wp2
      exact HK2.out _ _ (KeepsFrom.refl _ _) (Span.refl _ _ _) HI2.out ⟨hyD, hrow, rfl⟩
    case body2 =>
      rintro l2 pre2 y a' U2 hl2 ⟨r2, hr2⟩ ⟨⟨v, hv, hrow, hgv⟩, hbx2, hrx2, hb5, hs7', hsp, hkf, hsU2⟩ ⟨hyD, hry, rfl⟩ hlt2
      simp only [List.setIfInBounds_toArray, List.set_cons_zero, List.set_cons_succ]
      gi_wp2_with fail
      have hC := fun u (hu : Bl U2 u) => vDotF (rowV M x) (rowV M y) (rowM M f x.1) (colM M g y.1) u (hrx2.later hu).q (hry.later hu).q (by rw [rowM_len]; omega) (by rw [colM_len]; omega)
      have hlen2 : (partL D (mulMF M f g) pre x.1 pre2).length ≤ 100000 := by rw [partL_len]; omega
      refine dotAppendF (ops := _) rfl (by kernel_rfl) 44 7 14 (by simp) (by omega) ⟨rfl, rfl, rfl⟩ ⟨rfl, rfl⟩ ⟨rfl, rfl⟩ ⟨rfl, rfl, rfl⟩ ⟨rfl, rfl, rfl⟩ ⟨rfl, rfl, rfl⟩ ⟨rfl, rfl, rfl⟩ ⟨by simp, by simp⟩ (by simp) ⟨by simp, by simp⟩ (by simp)
        (rowV M x) (rowV M y) (fun act u K' hfr hu hk => load_wp 27 (.tmp 9) rfl (by rw [hfr 9 (by omega)]; exact Try.load1F Bx _ u (boxed_bl hbx2 hu).cell) hk)
        (fun act u K' hfr hu hk => move_wp (.tmp 11) rfl (by rw [hfr 11 (by omega)]; exact hk))
        trivial (fun _ => by omega) (enters_of Try.func14 (by kernel_rfl) rfl) (mulMF M f g x.1 y.1)
        (fun u hu => CallsIn.inRound l2 (CallsIn.inRound l (callsIn_wide.2 (hC u hu))))
        w6.heap.size rfl v hv (w4.heap.size + 1) (partL D (mulMF M f g) pre x.1 pre2) hrow hlen2 (by omega) ?_
      intro act u0 w8 g' cap' k1 k2 k3 k4
      have hvu := boxed_bl hv k1
      have hru := own_blF hrow k1
      have hsu := k1.size
      have hu5 : w4.heap.size + 1 ≤ u0.heap.size := by omega
      obtain ⟨hv5, hv6, hr6, hk6, hb6⟩ := boxed_appended hvu (by decide) hru hu5 (by omega) k3 k2
      have hg8 := k2.size
      have hbb : ∀ b, (rowV M x).ownBlock = some b → b < U2.heap.size := hrx2.lt
      have hsB : Below w5.heap.size U2 (w8.setCell ⟨w6.heap.size, 0, none⟩ (.slice (some ⟨g', 0, none⟩) ((partL D (mulMF M f g) pre x.1 pre2).length + 1) cap')) := (k1.mono (by omega)).trans (by rw [hs5]; exact hb6)
      refine ⟨(k1.keeps _).trans (hk6.from _), ⟨by have := hsB.size; omega, fun k _ h2 => hsB.block k (by omega)⟩, ⟨_, hv6, ?_, ?_⟩, ?_, ?_, ?_, ?_, ?_, ?_, ?_⟩
      · rw [partL_snoc]
        simpa [List.flatMap_append] using hr6
      · intro b hb
        have hb' : g' = b := by cases hb; rfl
        subst hb'
        rcases k4 with h | h
        · exact hgv _ h.symm
        · exact ⟨.inr (by omega), fun e => by have := hbb _ e; omega⟩
      · exact ((boxed_bl hbx2 k1).kept k2 ((boxed_bl hbx2 k1).not_row (by decide) hru)).other (by omega) _
      · exact (hrx2.later k1).beside k2 (fun b hb => ⟨fun e => (hgv b e).2 hb, by have := (HNE.out b hb).1; omega⟩)
      · exact hb5.trans hsB
      · simp; omega
      · exact hsp.trans (span_appended k1 (by omega) (fun b hb => (hgv b hb).1) k2 (by omega))
      · exact hkf.trans ((k1.keeps _).trans (hk6.from _))
      · simp; omega
    case done2 =>
      rintro zs U2 hS ⟨⟨v, hv, hrow, hgv⟩, _, _, hb5, hs7', hsp, hkf, _⟩
      gi_wp2
      refine ⟨hkf, hsp, ⟨⟨v, hv, ?_, fun b hb => (hgv b hb).1⟩, hb5, hs7'⟩⟩
      rw [← partL_all D (mulMF M f g) pre x zs hS]
      exact hrow
    case stop2 =>
      rintro c pre2 U2 _ h
      exact h.elim
  case done =>
    rintro Dm zs U hD hS ⟨⟨v, hv, hrow, _⟩, hb5, hs7'⟩ hKD
    have e := rowsL_all D (mulMF M f g) zs hS
    rw [e] at hrow
    have RW := Rw.of_own cellsF_len hrow
    have FR : Fresh (w4.heap.size + 1) v := fun b hb => (hrow.lt b hb).1
    obtain ⟨p', cap', hv', _, _⟩ := RW.cut
    rw [mk_len, ← HN.out] at hv'
    subst hv'
    have hcl := hv.cell
    have HRW := hideP RW
    have HFR := hideP FR
    have HKD := hideP hKD
    obtain ⟨c0, c1, c2, f0, f1, f2, lt⟩ := mx5.later (show Bl w5 U from hb5)
    obtain ⟨d0, d1, d2, u0, u1, u2, ltm⟩ := my5.later (show Bl w5 U from hb5)
    obtain ⟨x0, x1, x2, y0, y1, y2, ltz⟩ := mz5.later (show Bl w5 U from hb5)
    have hbw : Bl w U := bw5.trans hb5
    clear hrow RW FR hKD hv
    gi_wp2
    have hs4 := h14.size
    have hdm : Dm ≠ w.heap.size + 1 + 1 := by omega
    have hKD2 : ((((U.setCell ⟨w.heap.size + 1 + 1, 0, none⟩ (.int .i64 R)).setCell ⟨w.heap.size + 1 + 1, 1, none⟩ (.int .i64 D)).setCell ⟨w.heap.size + 1 + 1, 2, none⟩ (.slice p' N cap'))).heap[Dm]? = some (.deferred (some [])) :=
      (((KeepsOthers.setCell _ _ _).trans (KeepsOthers.setCell _ _ _)).trans (KeepsOthers.setCell _ _ _)).same Dm _ HKD.out rfl
    refine ⟨by simp, .inl ⟨_, _, rfl, run_takeDeferred hKD2, ?_⟩⟩
    have mzf := MBox.fill (⟨x0, x1, x2, y0, y1, y2, ltz⟩ : MBox U (w.heap.size + 1 + 1) 0 0 none 0 0) R D p' N cap'
    have mzg := mbox_block (w' := World.putObj _ Dm (.deferred none)) mzf (World.putObj_heap_other (by omega)) (by simp [World.putObj])
    have blf := Bl.put3 hbw (n := w.heap.size + 1 + 1) (by omega) (.int .i64 R) (.int .i64 D) (.slice p' N cap')
    have rwf := ((HRW.out.set (p := ⟨w.heap.size + 1 + 1, 0, none⟩) (.int .i64 R) (fun b hb => by have := HFR.out b hb; show w.heap.size + 1 + 1 + 1 ≤ b; omega)).set (p := ⟨w.heap.size + 1 + 1, 1, none⟩) (.int .i64 D) (fun b hb => by have := HFR.out b hb; show w.heap.size + 1 + 1 + 1 ≤ b; omega)).set (p := ⟨w.heap.size + 1 + 1, 2, none⟩) (.slice p' N cap') (fun b hb => by have := HFR.out b hb; show w.heap.size + 1 + 1 + 1 ≤ b; omega)
    generalize ((U.setCell ⟨w.heap.size + 1 + 1, 0, none⟩ (.int .i64 R)).setCell ⟨w.heap.size + 1 + 1, 1, none⟩ (.int .i64 D)).setCell ⟨w.heap.size + 1 + 1, 2, none⟩ (.slice p' N cap') = Z at *
    have rwg : Rw 3 cellsF (Z.putObj Dm (.deferred none)) (.slice p' N cap') (mk R D (mulMF M f g)) := rw_own rwf (grownBy_putObj' _ Dm (.deferred none)) (fun r e => by cases e; exact ⟨_, hKD2, rfl⟩)
    have blg : Bl w (Z.putObj Dm (.deferred none)) := Below.trans blf (belowK_b (w := w) (Nat.le_refl _) Z Dm _ _ (by have := hbw.size; have := b57.size; omega) hKD2 rfl rfl)
    generalize Z.putObj Dm (.deferred none) = Y at *
    obtain ⟨a0, a1, a2, _, _, _, _⟩ := mzg
    refine ⟨.tuple #[mV R D p' N cap', .bool true], ?_, p', cap', rfl, ⟨⟨⟨hdR.r1, hdR.r2, hdD.c1, hdD.c2⟩, HN.out, rwg.q⟩, rwg, fun b hb => by have := HFR.out b hb; omega⟩, blg⟩
    simp [results, Try.results53, go_sem, a0, a1, a2]
  case stop =>
    rintro D' c pre U _ _ h _
    exact h.elim
end Go.Proofs.Ythnadgbloamlaaa

/- Contracts of mat's Col, Mirror, of fractions (layer 6). Written by genMa.py. -/
namespace Go.Proofs.Ythnadgbloamlaaa
open Go.RowKit
set_option linter.unusedSimpArgs false
set_option linter.unusedVariables false

theorem mMirror1F (R : Nat) (p : Option Addr) (n cap : Nat) (f : Nat → Nat → Fr) (w : World) (h : Mx 3 cellsF w R R p n cap f) (mb : Nat) (hm : MBox w mb R R p n cap) (i k : Nat) (hi : i < R) (hk : k < R) :
    Calls Try.prog 69 #[.int .i64 i, .int .i64 k, .pointer (some ⟨mb, 0, none⟩)] w fun e w' => e = .returned (frV (mirM f i k)) ∧ Bl w w' := by
  obtain ⟨W, hW⟩ : ∃ W, W = w.alloc (.cells #[.int .i64 0, .int .i64 0, .bool false] 35) := ⟨_, rfl⟩
  have b0 : Bl w W := by rw [hW]; exact (Bl.refl _).alloc _
  have x0 : FBox W w.heap.size zeroR := by rw [hW]; exact FBox.new w zeroR 35
  obtain ⟨c0, c1, c2, f0, f1, f2, lt⟩ := hm
  have HW := hideP hW
  clear hW
  rcases Nat.lt_trichotomy i k with hik | hik | hik
  · have q1 : (i : Int) < (k : Int) := by omega
    have q2 : ¬ (k : Int) < (i : Int) := by omega
    have A := hideP (fun u (hu : Bl w u) => mAtF R R p n cap f u (h.later hu) k i (by omega) (by omega))
    have e0 : mirM f i k = f k i := by unfold mirM; rw [show max i k = k by omega, show min i k = i by omega]
    rw [e0]
    clear h e0
    generalize f k i = x at *
    go_enter Try.func69, Try.ntmps69
    go_wp2_with fail
    rw [← HW.out]
    refine (A.out _ b0).mono ?_
    rintro e w1 ⟨rfl, h1⟩
    clear c0 c1 c2 f0 f1 f2 A
    obtain ⟨d0, d1, d2, g0, g1, g2, lt2⟩ := x0.later h1
    go_wp2
    simp [bodyPost, results, Try.results69, go_sem, d0, d1, d2]
    exact Bl.set3 (b0.trans h1) (Nat.le_refl _) _ _ _
  · subst hik
    have A := hideP (fun u (hu : Bl w u) => mAtF R R p n cap f u (h.later hu) i i (by omega) (by omega))
    have e0 : mirM f i i = f i i := by unfold mirM; rw [Nat.max_self, Nat.min_self]
    rw [e0]
    clear h e0
    generalize f i i = x at *
    go_enter Try.func69, Try.ntmps69
    go_wp2_with fail
    rw [← HW.out]
    refine (A.out _ b0).mono ?_
    rintro e w1 ⟨rfl, h1⟩
    clear c0 c1 c2 f0 f1 f2 A
    obtain ⟨d0, d1, d2, g0, g1, g2, lt2⟩ := x0.later h1
    go_wp2
    simp [bodyPost, results, Try.results69, go_sem, d0, d1, d2]
    exact Bl.set3 (b0.trans h1) (Nat.le_refl _) _ _ _
  · have q1 : (k : Int) < (i : Int) := by omega
    have q2 : ¬ (i : Int) < (k : Int) := by omega
    have A := hideP (fun u (hu : Bl w u) => mAtF R R p n cap f u (h.later hu) i k (by omega) (by omega))
    have e0 : mirM f i k = f i k := by unfold mirM; rw [show max i k = i by omega, show min i k = k by omega]
    rw [e0]
    clear h e0
    generalize f i k = x at *
    go_enter Try.func69, Try.ntmps69
    go_wp2_with fail
    rw [← HW.out]
    refine (A.out _ b0).mono ?_
    rintro e w1 ⟨rfl, h1⟩
    clear c0 c1 c2 f0 f1 f2 A
    obtain ⟨d0, d1, d2, g0, g1, g2, lt2⟩ := x0.later h1
    go_wp2
    simp [bodyPost, results, Try.results69, go_sem, d0, d1, d2]
    exact Bl.set3 (b0.trans h1) (Nat.le_refl _) _ _ _
theorem mMirrorF (R : Nat) (p : Option Addr) (n cap : Nat) (f : Nat → Nat → Fr) (w : World) (h : Mx 3 cellsF w R R p n cap f) :
    Calls Try.prog 58 #[mV R R p n cap] w fun e w' => ∃ p' cap', e = .returned (.tuple #[mV R R p' n cap', .bool true]) ∧ (Mx 3 cellsF w' R R p' n cap' (mirM f) ∧ Rw 3 cellsF w' (.slice p' n cap') (mk R R (mirM f)) ∧ Fresh w.heap.size (.slice p' n cap')) ∧ Bl w w' := by
  have hfit := h.fit
  obtain ⟨W, hW⟩ : ∃ W, W = (w.alloc (.cells #[.int .i64 R, .int .i64 R, .slice p n cap] 29)).alloc (.cells #[.int .i64 0, .int .i64 0, .slice none 0 0] 29) := ⟨_, rfl⟩
  have b0 : Bl w W := by rw [hW]; exact ((Bl.refl _).alloc _).alloc _
  have m0 : MBox W w.heap.size R R p n cap := by rw [hW]; exact (MBox.new w _ _ _ _ _ _).later ((Bl.refl _).alloc _)
  have x0 : MBox W (w.heap.size + 1) 0 0 none 0 0 := by rw [hW]; have := MBox.new (w.alloc (.cells #[.int .i64 R, .int .i64 R, .slice p n cap] 29)) 0 0 none 0 0 29; rw [World.size_alloc] at this; exact this
  have hs : W.heap.size = w.heap.size + 1 + 1 := by rw [hW]; simp
  have FI := hideP (fun u (hu : Bl W u) => mFilledF 69 w.heap.size (enters_of Try.func69 (by kernel_rfl) rfl) (mirM f) R R n h.1 h.2.1 u
    (fun i k v hi hk hv => mMirror1F R p n cap f v (h.later (b0.trans (hu.trans hv))) _ (m0.later (hu.trans hv)) i k hi hk))
  have HD := hideP h
  have HW := hideP hW
  clear hW h
  go_enter Try.func58, Try.ntmps58
  go_wp2_with fail
  rw [← HW.out]
  refine (mRightF _ _ _ _ _ _).mono ?_
  rintro e w1 ⟨rfl, h1⟩
  rw [hfit]
  obtain ⟨c0, c1, c2, f0, f1, f2, lt⟩ := m0.later h1
  go_wp2_with fail
  refine (FI.out _ h1).mono ?_
  rintro e w2 ⟨p', cap', rfl, ⟨hR, hF⟩, h2⟩
  have HR := hideP hR
  have HF := hideP (show Fresh (w.heap.size + 1 + 1) (.slice p' n cap') from fun g hg => by have := hF g hg; have := h1.size; omega)
  clear hR hF FI c0 c1 c2 f0 f1 f2
  obtain ⟨c0, c1, c2, f0, f1, f2, lt2⟩ := x0.later (h1.trans h2)
  go_wp2
  simp [bodyPost, results, Try.results58, go_sem, c0, c1, c2]
  have q := ((HR.out.set (p := ⟨w.heap.size + 1, 0, none⟩) (.int .i64 R) HF.out).set (p := ⟨w.heap.size + 1, 1, none⟩) (.int .i64 R) HF.out).set (p := ⟨w.heap.size + 1, 2, none⟩) (.slice p' n cap') HF.out
  refine ⟨p', cap', ⟨rfl, rfl⟩, ⟨⟨HD.out.1, HD.out.2.1, q.q⟩, q, fun g hg => by have := HF.out g hg; omega⟩, Bl.put3 ((b0.trans h1).trans h2) (Nat.le_succ _) _ _ _⟩
theorem mMirrorF_no (R C : Nat) (p : Option Addr) (n cap : Nat) (w : World) (hfit : fitB R C n = true) (hne : R ≠ C) :
    Calls Try.prog 58 #[mV R C p n cap] w fun e w' => e = .returned (.tuple #[mV 0 0 none 0 0, .bool false]) ∧ Bl w w' := by
  obtain ⟨W, hW⟩ : ∃ W, W = (w.alloc (.cells #[.int .i64 R, .int .i64 C, .slice p n cap] 29)).alloc (.cells #[.int .i64 0, .int .i64 0, .slice none 0 0] 29) := ⟨_, rfl⟩
  have b0 : Bl w W := by rw [hW]; exact ((Bl.refl _).alloc _).alloc _
  have m0 : MBox W w.heap.size R C p n cap := by rw [hW]; exact (MBox.new w _ _ _ _ _ _).later ((Bl.refl _).alloc _)
  have x0 : MBox W (w.heap.size + 1) 0 0 none 0 0 := by rw [hW]; have := MBox.new (w.alloc (.cells #[.int .i64 R, .int .i64 C, .slice p n cap] 29)) 0 0 none 0 0 29; rw [World.size_alloc] at this; exact this
  have hne' : ((R : Int) == (C : Int)) = false := by simp; omega
  have HW := hideP hW
  clear hW hne
  go_enter Try.func58, Try.ntmps58
  go_wp2_with fail
  rw [← HW.out]
  refine (mRightF _ _ _ _ _ _).mono ?_
  rintro e w1 ⟨rfl, h1⟩
  rw [hfit]
  obtain ⟨c0, c1, c2, f0, f1, f2, lt⟩ := m0.later h1
  obtain ⟨d0, d1, d2, g0, g1, g2, lt2⟩ := x0.later h1
  go_wp2
  simp [bodyPost, results, Try.results58, go_sem, d0, d1, d2]
  exact Bl.put3 (b0.trans h1) (Nat.le_succ _) _ _ _
end Go.Proofs.Ythnadgbloamlaaa

/- Contract of tri's Square, of fractions (layer 7). Written by genTr.py. -/
namespace Go.Proofs.Ythnadgbloamlaaa
open Go.RowKit
set_option linter.unusedSimpArgs false
set_option linter.unusedVariables false

theorem boolF (x : Fr) : ∃ (j : Nat) (y : Bool), (cellsF x)[j]? = some (Value.bool y) := ⟨3 - 1, x.bad, rfl⟩
set_option maxRecDepth 100000 in
set_option maxHeartbeats 2000000 in
theorem tSqF (n : Nat) (p : Option Addr) (N cap : Nat) (f : Nat → Nat → Fr) (w : World) (h : Mx 3 cellsF w n n p N cap f) :
    Calls Try.prog 50 #[mV n n p N cap] w fun e w' => ∃ p' cap', e = .returned (.tuple #[mV n n p' N cap', .bool true]) ∧ (Mx 3 cellsF w' n n p' N cap' (mirM (mulMF n f (fun i k => f k i))) ∧ Fresh w.heap.size (.slice p' N cap')) ∧ Bl w w' := by
  have fm : Try.prog.follows .mixedOrders = true := by kernel_rfl
  have egT := enters_of Try.func54 (by kernel_rfl) rfl
  have egM := enters_of Try.func53 (by kernel_rfl) rfl
  have hsq : sqB n n N = true := by unfold sqB; rw [h.fit]; simp
  obtain ⟨Wa, hW⟩ : ∃ Wa, Wa = (w.alloc (.cells #[.int .i64 n, .int .i64 n, .slice p N cap] 29)).alloc (.cells #[.int .i64 0, .int .i64 0, .slice none 0 0] 29) := ⟨_, rfl⟩
  have b0 : Bl w Wa := by rw [hW]; exact ((Bl.refl _).alloc _).alloc _
  have m0 : MBox Wa w.heap.size n n p N cap := by rw [hW]; exact (MBox.new w _ _ _ _ _ _).later ((Bl.refl _).alloc _)
  have x0 : MBox Wa (w.heap.size + 1) 0 0 none 0 0 := by rw [hW]; have := MBox.new (w.alloc (.cells #[.int .i64 n, .int .i64 n, .slice p N cap] 29)) 0 0 none 0 0 29; rw [World.size_alloc] at this; exact this
  have hs : Wa.heap.size = w.heap.size + 1 + 1 := by rw [hW]; simp
  have HW := hideP hW
  clear hW
  go_enter Try.func50, Try.ntmps50
  go_wp2_with fail
  rw [← HW.out]
  refine (tSquareF _ _ _ _ _ _).mono ?_
  rintro e W ⟨rfl, h1⟩
  rw [hsq]
  clear HW
  replace b0 := b0.trans h1
  replace m0 := m0.later h1
  replace x0 := x0.later h1
  replace hs : w.heap.size + 1 + 1 ≤ W.heap.size := by have := h1.size; omega
  clear h1
  go_wp2_with fail
  refine (wpIn_wide (n := 8)).1 (region_q fm [some 11, some 12, some 13, some 14, some 10, some 15, some 16, some 4, none, some 5] (fun j => j == 6 || j == 9) 8 (by kernel_rfl) (by rfl)
    (fun j v u => match j with | 0 => v = mV n n p N cap | 1 => v = mV n n p N cap | 2 => ∃ q c, v = mV n n q N c ∧ Mx 3 cellsF u n n q N c (fun i k => f k i) | 3 => ∃ q c, v = .tuple #[mV n n q N c, .bool true] ∧ Mx 3 cellsF u n n q N c (mulMF n f (fun i k => f k i)) | 4 => ∃ q c, v = .tuple #[mV n n q N c, .bool true] ∧ Mx 3 cellsF u n n q N c (mulMF n f (fun i k => f k i)) | 5 => ∃ q c, v = mV n n q N c ∧ Mx 3 cellsF u n n q N c (mulMF n f (fun i k => f k i)) | 6 => v = .bool true | 7 => ∃ b, v = .pointer (some ⟨b, 0, none⟩) ∧ W.heap.size ≤ b ∧ MBox u b 0 0 none 0 0 ∧ NoB u b | 9 => v = .bool true | _ => False)
    (by
            intro j v u u' hb h
            split at h <;> first | exact h | (obtain ⟨q, c, e, h1⟩ := h; exact ⟨q, c, e, h1.later hb⟩) | (obtain ⟨b, e, h1, h2, h3⟩ := h; exact ⟨b, e, h1, h2.later hb, h3.later hb h2.lt⟩)) (fun vs u0 u => ∃ b q c, vs 7 = .pointer (some ⟨b, 0, none⟩) ∧ MBox u b n n q N c ∧ Mx 3 cellsF u n n q N c (mulMF n f (fun i k => f k i)) ∧ MBox u (w.heap.size + 1) 0 0 none 0 0 ∧ Bl w u) ?step ?still ?store ?fin)
  case step =>
    intro j o t act u ho hdt hpu hsz hu hfr hin
    have hj : j < 10 := (Array.getElem?_eq_some_iff.1 ho).1
    obtain ⟨c0, c1, c2, _, _, _, _⟩ := m0.later hu
    rcases (by omega : j = 0 ∨ j = 1 ∨ j = 2 ∨ j = 3 ∨ j = 4 ∨ j = 5 ∨ j = 6 ∨ j = 7 ∨ j = 8 ∨ j = 9) with rfl | rfl | rfl | rfl | rfl | rfl | rfl | rfl | rfl | rfl
    · simp only [List.getElem?_toArray, List.getElem?_cons_zero, List.getElem?_cons_succ, Option.some.injEq] at ho
      subst ho
      obtain rfl := Option.some.inj hdt
      have i1 : act.eval (.tmp (1 : Nat)) = .pointer (some ⟨w.heap.size, 0, none⟩) := hfr 1 (by decide)
      exact plain_wp (by intro c h; cases h) (fun _ _ => trivial) (by simp only [execOp, i1, evalC, evalF, evalG]; simp [go_sem, c0, c1, c2]) ⟨_, rfl, rfl, Bl.refl _⟩
    · simp only [List.getElem?_toArray, List.getElem?_cons_zero, List.getElem?_cons_succ, Option.some.injEq] at ho
      subst ho
      obtain rfl := Option.some.inj hdt
      have i1 : act.eval (.tmp (1 : Nat)) = .pointer (some ⟨w.heap.size, 0, none⟩) := hfr 1 (by decide)
      exact plain_wp (by intro c h; cases h) (fun _ _ => trivial) (by simp only [execOp, i1, evalC, evalF, evalG]; simp [go_sem, c0, c1, c2]) ⟨_, rfl, rfl, Bl.refl _⟩
    · simp only [List.getElem?_toArray, List.getElem?_cons_zero, List.getElem?_cons_succ, Option.some.injEq] at ho
      subst ho
      obtain rfl := Option.some.inj hdt
      have i12 : (act.eval (.tmp (12 : Nat))) = mV n n p N cap := hin ⟨1, .data⟩ (by simp) rfl 12 rfl
      refine enter_wp 54 #[mV n n p N cap] (by intro c h; cases h) (fun _ _ => trivial) (by simp only [execOp, evalC, evalF, evalG, resolve, i12, List.map_toArray, List.map_cons, List.map_nil]; simp [invoke, egT, Result.andThen, go_sem]) (by intro h; cases h) (callsIn_wide.2 (mTurnF n n p N cap f u (h.later (b0.trans hu)))) ?_
      rintro e w' ⟨q, c, rfl, ⟨hM, _, _⟩, hb⟩
      exact ⟨_, rfl, _, rfl, ⟨q, c, rfl, hM⟩, hb⟩
    · simp only [List.getElem?_toArray, List.getElem?_cons_zero, List.getElem?_cons_succ, Option.some.injEq] at ho
      subst ho
      obtain rfl := Option.some.inj hdt
      have i11 : (act.eval (.tmp (11 : Nat))) = mV n n p N cap := hin ⟨0, .data⟩ (by simp) rfl 11 rfl
      have i13 : ∃ q c, (act.eval (.tmp (13 : Nat))) = mV n n q N c ∧ Mx 3 cellsF u n n q N c (fun i k => f k i) := hin ⟨2, .data⟩ (by simp) rfl 13 rfl
      obtain ⟨q0, c0', e1, hq⟩ := i13
      refine enter_wp 53 #[mV n n p N cap, mV n n q0 N c0'] (by intro c h; cases h) (fun _ _ => trivial) (by simp only [execOp, evalC, evalF, evalG, resolve, i11, e1, List.map_toArray, List.map_cons, List.map_nil]; simp [invoke, egM, Result.andThen, go_sem]) (by intro h; cases h) (callsIn_wide.2 (mMulF n n n p N cap f q0 N c0' (fun i k => f k i) N u (h.later (b0.trans hu)) hq h.2.1)) ?_
      rintro e w' ⟨q, c, rfl, ⟨hM, _, _⟩, hb⟩
      exact ⟨_, rfl, _, rfl, ⟨q, c, rfl, hM⟩, hb⟩
    · simp only [List.getElem?_toArray, List.getElem?_cons_zero, List.getElem?_cons_succ, Option.some.injEq] at ho
      subst ho
      obtain rfl := Option.some.inj hdt
      have i14 : ∃ q c, (act.eval (.tmp (14 : Nat))) = .tuple #[mV n n q N c, .bool true] ∧ Mx 3 cellsF u n n q N c (mulMF n f (fun i k => f k i)) := hin ⟨3, .data⟩ (by simp) rfl 14 rfl
      obtain ⟨q0, c0', e1, hq⟩ := i14
      exact plain_wp (by intro c h; cases h) (fun _ _ => trivial) (by simp only [execOp, e1]; simp [go_sem]) ⟨_, rfl, ⟨q0, c0', rfl, hq⟩, Bl.refl _⟩
    · simp only [List.getElem?_toArray, List.getElem?_cons_zero, List.getElem?_cons_succ, Option.some.injEq] at ho
      subst ho
      obtain rfl := Option.some.inj hdt
      have i10 : ∃ q c, (act.eval (.tmp (10 : Nat))) = .tuple #[mV n n q N c, .bool true] ∧ Mx 3 cellsF u n n q N c (mulMF n f (fun i k => f k i)) := hin ⟨4, .data⟩ (by simp) rfl 10 rfl
      obtain ⟨q0, c0', e1, hq⟩ := i10
      exact plain_wp (by intro c h; cases h) (fun _ _ => trivial) (by simp only [execOp, e1]; simp [go_sem]) ⟨_, rfl, ⟨q0, c0', rfl, hq⟩, Bl.refl _⟩
    · cases hpu
    · simp only [List.getElem?_toArray, List.getElem?_cons_zero, List.getElem?_cons_succ, Option.some.injEq] at ho
      subst ho
      obtain rfl := Option.some.inj hdt
      exact plain_wp (by intro c h; cases h) (fun _ _ => trivial) (w' := u.alloc (.cells #[.int .i64 0, .int .i64 0, .slice none 0 0] 29)) (v := .pointer (some ⟨u.heap.size, 0, none⟩)) (by simp only [execOp]; simp [go_sem]) ⟨_, rfl, ⟨u.heap.size, rfl, hu.size, MBox.new u 0 0 none 0 0 _, noB_new u _⟩, (Bl.refl _).alloc _⟩
    · simp only [List.getElem?_toArray, List.getElem?_cons_zero, List.getElem?_cons_succ, Option.some.injEq] at ho
      subst ho
      cases hdt
    · cases hpu
  case still =>
    intro j o t act u0 u ho hdt hpu hsz hu hfr hin
    have hj : j < 10 := (Array.getElem?_eq_some_iff.1 ho).1
    obtain ⟨c0, c1, c2, _, _, _, _⟩ := m0.later hu
    rcases (by omega : j = 0 ∨ j = 1 ∨ j = 2 ∨ j = 3 ∨ j = 4 ∨ j = 5 ∨ j = 6 ∨ j = 7 ∨ j = 8 ∨ j = 9) with rfl | rfl | rfl | rfl | rfl | rfl | rfl | rfl | rfl | rfl
    · cases hpu
    · cases hpu
    · cases hpu
    · cases hpu
    · cases hpu
    · cases hpu
    · simp only [List.getElem?_toArray, List.getElem?_cons_zero, List.getElem?_cons_succ, Option.some.injEq] at ho
      subst ho
      obtain rfl := Option.some.inj hdt
      have i10 : ∃ q c, (act.eval (.tmp (10 : Nat))) = .tuple #[mV n n q N c, .bool true] ∧ Mx 3 cellsF u0 n n q N c (mulMF n f (fun i k => f k i)) := hin ⟨4, .data⟩ (by simp) rfl 10 rfl
      obtain ⟨q0, c0', e1, hq⟩ := i10
      exact plain_wp (by intro c h; cases h) (fun _ _ => trivial) (by simp only [execOp, e1]; simp [go_sem]) ⟨_, rfl, rfl, rfl⟩
    · cases hpu
    · cases hpu
    · simp only [List.getElem?_toArray, List.getElem?_cons_zero, List.getElem?_cons_succ, Option.some.injEq] at ho
      subst ho
      obtain rfl := Option.some.inj hdt
      have i16 : (act.eval (.tmp (16 : Nat))) = .bool true := hin ⟨6, .data⟩ (by simp) rfl 16 rfl
      exact plain_wp (by intro c h; cases h) (fun _ _ => trivial) (by simp only [execOp, i16, evalC, evalF, evalG]; simp [go_sem]) ⟨_, rfl, rfl, rfl⟩
  case store =>
    intro o act u vs ho hsz hu hfr hin
    simp only [List.getElem?_toArray, List.getElem?_cons_zero, List.getElem?_cons_succ, Option.some.injEq] at ho
    subst ho
    obtain ⟨i4, k4⟩ : act.eval (.tmp (4 : Nat)) = vs 7 ∧ (∃ b, (vs 7) = .pointer (some ⟨b, 0, none⟩) ∧ W.heap.size ≤ b ∧ MBox u b 0 0 none 0 0 ∧ NoB u b) := hin 7 4 rfl rfl
    obtain ⟨i15, k15⟩ : act.eval (.tmp (15 : Nat)) = vs 5 ∧ (∃ q c, (vs 5) = mV n n q N c ∧ Mx 3 cellsF u n n q N c (mulMF n f (fun i k => f k i))) := hin 5 15 rfl rfl
    obtain ⟨b, e1, hb, bx, nb⟩ := k4
    obtain ⟨q0, c0', e2, hq⟩ := k15
    rw [e1] at i4
    rw [e2] at i15
    obtain ⟨c0, c1, c2, f0, f1, f2, ltb⟩ := id bx
    exact skip_wp (by intro c h; cases h) (fun _ _ => trivial) (by simp only [execOp, i4, i15]; simp [go_sem, c0, c1, c2, f0, f1, f2]) ⟨rfl, b, q0, c0', e1, bx.fill _ _ _ _ _, mx_ne7 hq (noB_mx boolF hq nb) _ _ _, mbox_set7 (mbox_set7 (mbox_set7 (x0.later hu) (by omega) _ _) (by omega) _ _) (by omega) _ _, Bl.put3 (b0.trans hu) (by have := b0.size; omega) _ _ _⟩
  case fin =>
    intro vs vb u0 u hu hin hps
    have a0 := hin 0 11 rfl
    have a1 := hin 1 12 rfl
    have a2 := hin 2 13 rfl
    have a3 := hin 3 14 rfl
    have a4 := hin 4 10 rfl
    have a5 := hin 5 15 rfl
    have a6 := hin 6 16 rfl
    have a7 := hin 7 4 rfl
    have a9 := hin 9 5 rfl
    simp only [putL, Act.put, List.setIfInBounds_toArray, List.set_cons_zero, List.set_cons_succ, Nat.zero_add, Nat.reduceAdd, Nat.reduceBEq, Bool.or_false, Bool.or_true, Bool.false_or, Bool.true_or, Bool.false_eq_true, if_false, if_true, reduceIte, Nat.reduceEqDiff, beq_self_eq_true, Bool.or_self] at a0 a1 a2 a3 a4 a5 a6 a7 a9 ⊢
    rw [if_pos (by decide)] at hps
    simp only [a0, a1, a6, a9]
    obtain ⟨b, q, c, e7, bx, hM, xz, hbw⟩ := hps
    simp only [e7]
    clear a2 a3 a4 a5 a7
    have MI := hideP (fun u' (hu' : Bl u u') => mMirrorF n q N c _ u' (hM.later hu'))
    obtain ⟨c0, c1, c2, f0, f1, f2, ltb⟩ := bx
    go_wp2_with fail
    refine (MI.out _ (Bl.refl _)).mono ?_
    rintro e w3 ⟨p', cap', rfl, ⟨hR, _, hF⟩, h3⟩
    have HR := hideP hR
    have HF := hideP (show Fresh (w.heap.size + 1 + 1) (.slice p' N cap') from fun g hg => by have := hF g hg; have := xz.lt; omega)
    clear hR hF MI c0 c1 c2 f0 f1 f2
    obtain ⟨c0, c1, c2, f0, f1, f2, lt2⟩ := xz.later h3
    go_wp2
    simp [bodyPost, results, Try.results50, go_sem, c0, c1, c2]
    exact ⟨p', cap', ⟨rfl, rfl⟩, ⟨mx_put7 HR.out HF.out _ _ _, fun g hg => by have := HF.out g hg; omega⟩, Bl.put3 (hbw.trans h3) (Nat.le_succ _) _ _ _⟩
theorem tSqF_no (r c : Int) (p : Option Addr) (n cap : Nat) (w : World) (hsq : sqB r c n = false) :
    Calls Try.prog 50 #[mV r c p n cap] w fun e w' => e = .returned (.tuple #[mV 0 0 none 0 0, .bool false]) ∧ Bl w w' := by
  obtain ⟨W, hW⟩ : ∃ W, W = (w.alloc (.cells #[.int .i64 r, .int .i64 c, .slice p n cap] 29)).alloc (.cells #[.int .i64 0, .int .i64 0, .slice none 0 0] 29) := ⟨_, rfl⟩
  have b0 : Bl w W := by rw [hW]; exact ((Bl.refl _).alloc _).alloc _
  have x0 : MBox W (w.heap.size + 1) 0 0 none 0 0 := by rw [hW]; have := MBox.new (w.alloc (.cells #[.int .i64 r, .int .i64 c, .slice p n cap] 29)) 0 0 none 0 0 29; rw [World.size_alloc] at this; exact this
  have HW := hideP hW
  clear hW
  go_enter Try.func50, Try.ntmps50
  go_wp2_with fail
  rw [← HW.out]
  refine (tSquareF _ _ _ _ _ _).mono ?_
  rintro e w1 ⟨rfl, h1⟩
  rw [hsq]
  obtain ⟨c0, c1, c2, f0, f1, f2, lt2⟩ := x0.later h1
  go_wp2
  simp [bodyPost, results, Try.results50, go_sem, c0, c1, c2]
  exact Bl.put3 (b0.trans h1) (Nat.le_succ _) _ _ _
end Go.Proofs.Ythnadgbloamlaaa

/- What is done with fractions. -/
namespace Go.Proofs.Ythnadgbloamlaaa
open Go.RowKit
set_option linter.unusedSimpArgs false
set_option linter.unusedVariables false

def kdF : Kd Fr := { z := wholeF 0, add := addR, sub := subR, mul := mulR, div := divR, root := rootR, neg := negR, dot := dotF }
end Go.Proofs.Ythnadgbloamlaaa

/- Contracts of mat's each, Add, Sub, of fractions (layer 6). -/
namespace Go.Proofs.Ythnadgbloamlaaa
open Go.RowKit
set_option linter.unusedSimpArgs false
set_option linter.unusedVariables false

/-- What the last region of each reads. -/
structure EachS (w : World) (R C : Int) (p q : Option Addr) (n cap cap2 : Nat) (u : World) : Prop where
  x : MBox u w.heap.size R C p n cap
  y : MBox u (w.heap.size + 1) R C q n cap2
  z : ∃ r' c' p' n' k', MBox u (w.heap.size + 1 + 1) r' c' p' n' k'
  bl : Bl w u
theorem Rq.set {α : Type} {s : Nat} {c : α → List Value} {w : World} {v : Value} {xs : List α} (h : Rq s c w v xs) {p : Addr} (u : Value) (hf : Fresh (p.block + 1) v) : Rq s c (w.setCell p u) v xs := by
  rcases h with h | ⟨b, o, cap, rfl, hc, hb, hx⟩
  · exact .inl h
  · have hne : p.block + 1 ≤ b := hf b rfl
    have hk : (w.setCell p u).heap[b]? = w.heap[b]? := Below.heap_setCell _ _ _ b (by omega)
    exact .inr ⟨b, o, cap, rfl, hc, by simpa using hb, fun j x hj k v hv => (World.cell?_of_block (a := ⟨b, o + j * s + k, none⟩) hk).trans (hx j x hj k v hv)⟩
theorem Mx.put3 {α : Type} {s : Nat} {c : α → List Value} {w : World} {R C : Nat} {p : Option Addr} {n cap b : Nat} {f : Nat → Nat → α} (h : Mx s c w R C p n cap f) (hf : Fresh (b + 1) (.slice p n cap)) (v0 v1 v2 : Value) : Mx s c (((w.setCell ⟨b, 0, none⟩ v0).setCell ⟨b, 1, none⟩ v1).setCell ⟨b, 2, none⟩ v2) R C p n cap f :=
  ⟨h.1, h.2.1, ((h.2.2.set (p := ⟨b, 0, none⟩) v0 hf).set (p := ⟨b, 1, none⟩) v1 hf).set (p := ⟨b, 2, none⟩) v2 hf⟩
theorem mbox_set {w : World} {b b' : Nat} {r c : Int} {p : Option Addr} {n cap : Nat} (h : MBox w b r c p n cap) (hne : b ≠ b') (o : Nat) (v : Value) : MBox (w.setCell ⟨b', o, none⟩ v) b r c p n cap :=
  mbox_block h (Below.heap_setCell _ _ _ b (by show b ≠ b'; exact hne)) (by simp)
theorem EachS.later {w : World} {R C : Int} {p q : Option Addr} {n cap cap2 : Nat} {u u' : World} (h : EachS w R C p q n cap cap2 u) (k : Bl u u') : EachS w R C p q n cap cap2 u' :=
  ⟨h.x.later k, h.y.later k, by obtain ⟨a, b, c, d, e, m⟩ := h.z; exact ⟨a, b, c, d, e, m.later k⟩, h.bl.trans k⟩
theorem EachS.stored {w : World} {R C : Int} {p q : Option Addr} {n cap cap2 : Nat} {u : World} (h : EachS w R C p q n cap cap2 u) (r' c' : Int) (p' : Option Addr) (n' cap' : Nat) :
    EachS w R C p q n cap cap2 (((u.setCell ⟨w.heap.size + 1 + 1, 0, none⟩ (.int .i64 r')).setCell ⟨w.heap.size + 1 + 1, 1, none⟩ (.int .i64 c')).setCell ⟨w.heap.size + 1 + 1, 2, none⟩ (.slice p' n' cap')) :=
  ⟨mbox_set (mbox_set (mbox_set h.x (by omega) _ _) (by omega) _ _) (by omega) _ _, mbox_set (mbox_set (mbox_set h.y (by omega) _ _) (by omega) _ _) (by omega) _ _, by obtain ⟨a, b, c, d, e, m⟩ := h.z; exact ⟨_, _, _, _, _, m.fill r' c' p' n' cap'⟩, Bl.put3 h.bl (by omega) _ _ _⟩
set_option maxRecDepth 100000 in
set_option maxHeartbeats 2000000 in
theorem mEach_any (G : Nat) (op : Fr → Fr → Fr) (eg : ∀ (args : Array Value) (w : World), (callFunc G args).run Try.prog w = .ok (.enter G args) w) (R C : Nat) (p q : Option Addr) (n cap cap2 : Nat) (f g : Nat → Nat → Fr) (w : World) (hx : Mx 3 cellsF w R C p n cap f) (hy : Mx 3 cellsF w R C q n cap2 g)
    (hG : ∀ (va vb : Value) (xs ys : List Fr) (w : World), Rq 3 cellsF w va xs → Rq 3 cellsF w vb ys → xs.length ≤ 1000000 → ys.length ≤ 1000000 → Calls Try.prog G #[va, vb] w fun e w' => ∃ u, e = .returned u ∧ Rw 3 cellsF w' u (List.zipWith op xs ys) ∧ Fresh w.heap.size u ∧ Bl w w') :
    Calls Try.prog 67 #[mV R C p n cap, mV R C q n cap2, .func (.func G) #[] #[]] w fun e w' => ∃ p' cap', e = .returned (.tuple #[mV R C p' n cap', .bool true]) ∧ (Mx 3 cellsF w' R C p' n cap' (fun i k => op (f i k) (g i k)) ∧ Fresh w.heap.size (.slice p' n cap')) ∧ Bl w w' := by
  have hfx := hx.fit
  have fm : Try.prog.follows .mixedOrders = true := by kernel_rfl
  obtain ⟨W, hW⟩ : ∃ W, W = ((w.alloc (.cells #[.int .i64 R, .int .i64 C, .slice p n cap] 29)).alloc (.cells #[.int .i64 R, .int .i64 C, .slice q n cap2] 29)).alloc (.cells #[.int .i64 0, .int .i64 0, .slice none 0 0] 29) := ⟨_, rfl⟩
  have b0 : Bl w W := by rw [hW]; exact (((Bl.refl _).alloc _).alloc _).alloc _
  have mx0 : MBox W w.heap.size R C p n cap := by rw [hW]; exact (MBox.new w _ _ _ _ _ _).later (((Bl.refl _).alloc _).alloc _)
  have my0 : MBox W (w.heap.size + 1) R C q n cap2 := by rw [hW]; have := (MBox.new (w.alloc (.cells #[.int .i64 R, .int .i64 C, .slice p n cap] 29)) R C q n cap2 29); rw [World.size_alloc] at this; exact this.later ((Bl.refl _).alloc _)
  have mz0 : MBox W (w.heap.size + 1 + 1) 0 0 none 0 0 := by rw [hW]; have := MBox.new ((w.alloc (.cells #[.int .i64 R, .int .i64 C, .slice p n cap] 29)).alloc (.cells #[.int .i64 R, .int .i64 C, .slice q n cap2] 29)) 0 0 none 0 0 29; rw [World.size_alloc, World.size_alloc] at this; exact this
  have hs0 : W.heap.size = w.heap.size + 1 + 1 + 1 := by rw [hW]; simp
  have HX := hideP hx
  have HY := hideP hy
  have HG := hideP hG
  have HW := hideP hW
  clear hW hx hy hG
  go_enter Try.func67, Try.ntmps67
  go_wp2_with fail
  rw [← HW.out]
  refine (mRightF _ _ _ _ _ _).mono ?_
  rintro e w1 ⟨rfl, h1⟩
  rw [hfx]
  obtain ⟨d0, d1, d2, u0, u1, u2, ltm⟩ := my0.later h1
  go_wp2_with fail
  refine (mRightF _ _ _ _ _ _).mono ?_
  rintro e w2 ⟨rfl, h2⟩
  rw [hfx]
  clear d0 d1 d2 u0 u1 u2 ltm
  have hB2 : Bl W w2 := h1.trans h2
  obtain ⟨c0, c1, c2, f0, f1, f2, lt⟩ := mx0.later hB2
  obtain ⟨d0, d1, d2, u0, u1, u2, ltm⟩ := my0.later hB2
  go_wp2_with fail
  clear c0 c1 c2 f0 f1 f2 lt d0 d1 d2 u0 u1 u2 ltm
  have ES : EachS w R C p q n cap cap2 w2 := ⟨mx0.later hB2, my0.later hB2, ⟨_, _, _, _, _, mz0.later hB2⟩, b0.trans hB2⟩
  have CL := hideP (fun (u : World) (hu : Bl w u) => (HG.out (.slice p n cap) (.slice q n cap2) (mk R C f) (mk R C g) u (HX.out.2.2.later hu) (HY.out.2.2.later hu) (by rw [mk_len]; have := HX.out.1.lt; omega) (by rw [mk_len]; have := HX.out.1.lt; omega)).mono (R' := fun e w' => ∃ p' cap', e = .returned (.slice p' n cap') ∧ (Rw 3 cellsF w' (.slice p' n cap') (mk R C (fun i k => op (f i k) (g i k))) ∧ Fresh u.heap.size (.slice p' n cap')) ∧ Bl u w') (by
    rintro e w' ⟨v, rfl, hr, hf, hb⟩
    rw [mk_zip] at hr
    obtain ⟨p', cap', rfl, _, _⟩ := hr.cut
    rw [mk_len, ← HX.out.2.1] at hr hf ⊢
    exact ⟨p', cap', rfl, ⟨hr, hf⟩, hb⟩))
  have KP := hideP (fun (u : World) (hu : EachS w R C p q n cap cap2 u) => (show u.cell? ⟨w.heap.size, 0, none⟩ = some (.int .i64 R) ∧ u.cell? ⟨w.heap.size, 1, none⟩ = some (.int .i64 C) ∧ u.cell? ⟨w.heap.size, 2, none⟩ = some (.slice p n cap) ∧ u.cell? ⟨w.heap.size + 1, 2, none⟩ = some (.slice q n cap2) ∧ EachS w R C p q n cap cap2 u from ⟨hu.x.c0, hu.x.c1, hu.x.c2, hu.y.c2, hu⟩))
  have HES := hideP ES
  clear ES mx0 my0 mz0
  go_region_held3 (fun u => u.cell? ⟨w.heap.size, 0, none⟩ = some (.int .i64 R) ∧ u.cell? ⟨w.heap.size, 1, none⟩ = some (.int .i64 C) ∧ u.cell? ⟨w.heap.size, 2, none⟩ = some (.slice p n cap) ∧ u.cell? ⟨w.heap.size + 1, 2, none⟩ = some (.slice q n cap2) ∧ EachS w R C p q n cap cap2 u)
    (first | exact KP.out _ ((HES.out.later (show Bl w2 w3 by repeat (first | exact Bl.refl _ | apply Bl.drew | (refine Bl.trans ?_ (by assumption))))).stored _ _ _ _ _) | exact KP.out _ (HES.out.later (by repeat (first | exact Bl.refl _ | apply Bl.drew | (refine Bl.trans ?_ (by assumption))))))
    (first
      | (refine (CL.out _ (HES.out.later (by repeat (first | exact Bl.refl _ | apply Bl.drew | (refine Bl.trans ?_ (by assumption))))).bl).mono ?_; rintro e w3 ⟨p', cap', rfl, ⟨hR, hF⟩, h3⟩; obtain ⟨a1, a2, a3, a4, a5, ⟨z0, z1, z2, y0, y1, y2, ltz⟩⟩ := (HES.out.later (show Bl w2 w3 by repeat (first | exact Bl.refl _ | apply Bl.drew | (refine Bl.trans ?_ (by assumption))))).z))
  have hF' : Fresh (w.heap.size + 1 + 1 + 1) (.slice p' n cap') := fun b hb => by
    have h1 := hF b hb
    have h2 := hB2.size
    have h4 : w2.heap.size ≤ w2.drew.heap.size := Nat.le_refl _
    omega
  have HR := hideP hR
  have HF := hideP hF'
  clear hR hF hF'
  rename_i hh
  obtain ⟨_, _, _, _, hS⟩ := hh
  have HS := hideP hS
  clear hS
  go_wp2
  simp [bodyPost, results, Try.results67, go_sem, z0, z1, z2]
  have q := ((HR.out.set (p := ⟨w.heap.size + 1 + 1, 0, none⟩) (.int .i64 R) HF.out).set (p := ⟨w.heap.size + 1 + 1, 1, none⟩) (.int .i64 C) HF.out).set (p := ⟨w.heap.size + 1 + 1, 2, none⟩) (.slice p' n cap') HF.out
  exact ⟨p', cap', ⟨rfl, rfl⟩, ⟨⟨HX.out.1, HX.out.2.1, q.q⟩, fun b hb => by have := HF.out b hb; omega⟩, HS.out.bl⟩
theorem mAddF' (R C : Nat) (p q : Option Addr) (n cap cap2 : Nat) (f g : Nat → Nat → Fr) (w : World) (hx : Mx 3 cellsF w R C p n cap f) (hy : Mx 3 cellsF w R C q n cap2 g) :
    Calls Try.prog 57 #[mV R C p n cap, mV R C q n cap2] w fun e w' => ∃ p' cap', e = .returned (.tuple #[mV R C p' n cap', .bool true]) ∧ (Mx 3 cellsF w' R C p' n cap' (fun i k => addR (f i k) (g i k)) ∧ Fresh w.heap.size (.slice p' n cap')) ∧ Bl w w' := by
  obtain ⟨W, hW⟩ : ∃ W, W = ((w.alloc (.cells #[.int .i64 R, .int .i64 C, .slice p n cap] 29)).alloc (.cells #[.int .i64 R, .int .i64 C, .slice q n cap2] 29)).alloc (.cells #[.int .i64 0, .int .i64 0, .slice none 0 0] 29) := ⟨_, rfl⟩
  have b0 : Bl w W := by rw [hW]; exact (((Bl.refl _).alloc _).alloc _).alloc _
  have mz0 : MBox W (w.heap.size + 1 + 1) 0 0 none 0 0 := by rw [hW]; have := MBox.new ((w.alloc (.cells #[.int .i64 R, .int .i64 C, .slice p n cap] 29)).alloc (.cells #[.int .i64 R, .int .i64 C, .slice q n cap2] 29)) 0 0 none 0 0 29; rw [World.size_alloc, World.size_alloc] at this; exact this
  have hs0 : W.heap.size = w.heap.size + 1 + 1 + 1 := by rw [hW]; simp
  have E := hideP (mEach_any 27 addR (enters_of Try.func27 (by kernel_rfl) rfl) R C p q n cap cap2 f g W (hx.later b0) (hy.later b0) (fun va vb xs ys w h1 h2 h3 h4 => vAddF' va vb xs ys w h1 h2 h3 h4))
  have HW := hideP hW
  clear hW hx hy
  go_enter Try.func57, Try.ntmps57
  go_wp2_with fail
  rw [← HW.out]
  refine E.out.mono ?_
  rintro e w1 ⟨p', cap', rfl, ⟨hm, hf⟩, h1⟩
  have HM := hideP hm
  have HF := hideP (show Fresh (w.heap.size + 1 + 1 + 1) (.slice p' n cap') from fun b hb => by have := hf b hb; omega)
  obtain ⟨z0, z1, z2, y0, y1, y2, ltz⟩ := mz0.later h1
  clear hm hf E
  go_wp2
  simp [bodyPost, results, Try.results57, go_sem, z0, z1, z2]
  exact ⟨p', cap', ⟨rfl, rfl⟩, ⟨Mx.put3 HM.out HF.out _ _ _, fun b hb => by have := HF.out b hb; omega⟩, Bl.put3 (b0.trans h1) (by omega) _ _ _⟩
theorem mAdd_any (R C : Nat) (p q : Option Addr) (n cap cap2 : Nat) (f g : Nat → Nat → Fr) (w : World) (hx : Mx 3 cellsF w R C p n cap f) (hy : Mx 3 cellsF w R C q n cap2 g) :
    Calls Try.prog 57 #[mV R C p n cap, mV R C q n cap2] w fun e w' => ∃ p' cap', e = .returned (.tuple #[mV R C p' n cap', .bool true]) ∧ Mx 3 cellsF w' R C p' n cap' (fun i k => addR (f i k) (g i k)) ∧ Bl w w' :=
  (mAddF' R C p q n cap cap2 f g w hx hy).mono fun _ _ ⟨p', c', h1, h2, h3⟩ => ⟨p', c', h1, h2.1, h3⟩
theorem mSubF' (R C : Nat) (p q : Option Addr) (n cap cap2 : Nat) (f g : Nat → Nat → Fr) (w : World) (hx : Mx 3 cellsF w R C p n cap f) (hy : Mx 3 cellsF w R C q n cap2 g) :
    Calls Try.prog 55 #[mV R C p n cap, mV R C q n cap2] w fun e w' => ∃ p' cap', e = .returned (.tuple #[mV R C p' n cap', .bool true]) ∧ (Mx 3 cellsF w' R C p' n cap' (fun i k => subR (f i k) (g i k)) ∧ Fresh w.heap.size (.slice p' n cap')) ∧ Bl w w' := by
  obtain ⟨W, hW⟩ : ∃ W, W = ((w.alloc (.cells #[.int .i64 R, .int .i64 C, .slice p n cap] 29)).alloc (.cells #[.int .i64 R, .int .i64 C, .slice q n cap2] 29)).alloc (.cells #[.int .i64 0, .int .i64 0, .slice none 0 0] 29) := ⟨_, rfl⟩
  have b0 : Bl w W := by rw [hW]; exact (((Bl.refl _).alloc _).alloc _).alloc _
  have mz0 : MBox W (w.heap.size + 1 + 1) 0 0 none 0 0 := by rw [hW]; have := MBox.new ((w.alloc (.cells #[.int .i64 R, .int .i64 C, .slice p n cap] 29)).alloc (.cells #[.int .i64 R, .int .i64 C, .slice q n cap2] 29)) 0 0 none 0 0 29; rw [World.size_alloc, World.size_alloc] at this; exact this
  have hs0 : W.heap.size = w.heap.size + 1 + 1 + 1 := by rw [hW]; simp
  have E := hideP (mEach_any 68 subR (enters_of Try.func68 (by kernel_rfl) rfl) R C p q n cap cap2 f g W (hx.later b0) (hy.later b0) (fun va vb xs ys w h1 h2 h3 h4 => vSubF' va vb xs ys w h1 h2 h3 h4))
  have HW := hideP hW
  clear hW hx hy
  go_enter Try.func55, Try.ntmps55
  go_wp2_with fail
  rw [← HW.out]
  refine E.out.mono ?_
  rintro e w1 ⟨p', cap', rfl, ⟨hm, hf⟩, h1⟩
  have HM := hideP hm
  have HF := hideP (show Fresh (w.heap.size + 1 + 1 + 1) (.slice p' n cap') from fun b hb => by have := hf b hb; omega)
  obtain ⟨z0, z1, z2, y0, y1, y2, ltz⟩ := mz0.later h1
  clear hm hf E
  go_wp2
  simp [bodyPost, results, Try.results55, go_sem, z0, z1, z2]
  exact ⟨p', cap', ⟨rfl, rfl⟩, ⟨Mx.put3 HM.out HF.out _ _ _, fun b hb => by have := HF.out b hb; omega⟩, Bl.put3 (b0.trans h1) (by omega) _ _ _⟩
theorem mSub_any (R C : Nat) (p q : Option Addr) (n cap cap2 : Nat) (f g : Nat → Nat → Fr) (w : World) (hx : Mx 3 cellsF w R C p n cap f) (hy : Mx 3 cellsF w R C q n cap2 g) :
    Calls Try.prog 55 #[mV R C p n cap, mV R C q n cap2] w fun e w' => ∃ p' cap', e = .returned (.tuple #[mV R C p' n cap', .bool true]) ∧ Mx 3 cellsF w' R C p' n cap' (fun i k => subR (f i k) (g i k)) ∧ Bl w w' :=
  (mSubF' R C p q n cap cap2 f g w hx hy).mono fun _ _ ⟨p', c', h1, h2, h3⟩ => ⟨p', c', h1, h2.1, h3⟩
end Go.Proofs.Ythnadgbloamlaaa

/- Contracts of joseph's New, around, mirrored, of fractions (layer 9). Written by genJo.py. -/
namespace Go.Proofs.Ythnadgbloamlaaa
open Go.RowKit
set_option linter.unusedSimpArgs false
set_option linter.unusedVariables false

theorem Try.buildSF (q : Option Addr) (n c : Nat) (r d : Int) (p : Option Addr) (N cap : Nat) (u : World) : (Instr.build 31 #[(0, .slice q n c), (1, mV r d p N cap)]).run Try.prog u = .ok (sJ q n c r d p N cap) u := by kernel_rfl
theorem rw_put4F {w : World} {v : Value} {xs : List Fr} {b : Nat} (h : Rw 3 cellsF w v xs) (hf : Fresh (b + 1) v) (v0 v1 v2 v3 : Value) : Rw 3 cellsF ((((w.setCell ⟨b, 0, none⟩ v0).setCell ⟨b, 1, none⟩ v1).setCell ⟨b, 2, none⟩ v2).setCell ⟨b, 3, none⟩ v3) v xs := by
  rcases h with h | ⟨g, o, cap, rfl, hc, hb, hx⟩
  · exact .inl h
  · have hne : b + 1 ≤ g := hf g rfl
    have hk : ((((w.setCell ⟨b, 0, none⟩ v0).setCell ⟨b, 1, none⟩ v1).setCell ⟨b, 2, none⟩ v2).setCell ⟨b, 3, none⟩ v3).heap[g]? = w.heap[g]? := by
      rw [Below.heap_setCell _ _ _ g (by show g ≠ b; omega), Below.heap_setCell _ _ _ g (by show g ≠ b; omega), Below.heap_setCell _ _ _ g (by show g ≠ b; omega), Below.heap_setCell _ _ _ g (by show g ≠ b; omega)]
    exact .inr ⟨g, o, cap, rfl, hc, by simpa using hb, fun j x hj k v hv => (World.cell?_of_block (a := ⟨g, o + j * 3 + k, none⟩) hk).trans (hx j x hj k v hv)⟩
theorem clone_linF (px : Option Addr) (n cx : Nat) (x : Nat → Fr) (w : World) (h : Rq 3 cellsF w (.slice px n cx) (linJ n x)) (hl : n ≤ 1000000) :
    Calls Try.prog 51 #[.slice px n cx] w fun e w' => ∃ q c, e = .returned (.slice q n c) ∧ (Rw 3 cellsF w' (.slice q n c) (linJ n x) ∧ Fresh w.heap.size (.slice q n c)) ∧ Bl w w' :=
  (vCloneF _ _ w h (by rw [linJ_len]; exact hl)).mono fun e w' ⟨u, he, hr, hf, hb⟩ => by
    obtain ⟨q, c, rfl, _, _⟩ := hr.cut
    rw [linJ_len] at hr hf he
    exact ⟨q, c, he, ⟨hr, hf⟩, hb⟩
set_option maxRecDepth 100000 in
set_option maxHeartbeats 2000000 in
theorem jNewF (n : Nat) (px : Option Addr) (cx : Nat) (x : Nat → Fr) (p : Option Addr) (N cap : Nat) (f : Nat → Nat → Fr) (w : World) (hx : Rq 3 cellsF w (.slice px n cx) (linJ n x)) (h : Mx 3 cellsF w n n p N cap f) (h4 : n ≤ 4) :
    Calls Try.prog 23 #[.slice px n cx, mV n n p N cap] w fun e w' => ∃ q c p' c', e = .returned (.tuple #[sJ q n c n n p' N c', .bool true]) ∧ (Rw 3 cellsF w' (.slice q n c) (linJ n x) ∧ Mx 3 cellsF w' n n p' N c' (squareJ kdF n f)) ∧ Bl w w' := by
  have fm : Try.prog.follows .mixedOrders = true := by kernel_rfl
  have egC := enters_of Try.func51 (by kernel_rfl) rfl
  have hfit := fitJ_dim h.1 h.2.1 h4
  obtain ⟨W, hW⟩ : ∃ W, W = (w.alloc (.cells #[.int .i64 n, .int .i64 n, .slice p N cap] 29)).alloc (.cells #[.slice none 0 0, .int .i64 0, .int .i64 0, .slice none 0 0] 31) := ⟨_, rfl⟩
  have b0 : Bl w W := by rw [hW]; exact ((Bl.refl _).alloc _).alloc _
  have m0 : MBox W w.heap.size n n p N cap := by rw [hW]; exact (MBox.new w _ _ _ _ _ _).later ((Bl.refl _).alloc _)
  have s0 : SBox W (w.heap.size + 1) none 0 0 0 0 none 0 0 := by rw [hW]; have := SBox.new (w.alloc (.cells #[.int .i64 n, .int .i64 n, .slice p N cap] 29)) none 0 0 0 0 none 0 0 31; rw [World.size_alloc] at this; exact this
  have hs : W.heap.size = w.heap.size + 1 + 1 := by rw [hW]; simp
  have HX := hideP hx
  have HMX := hideP h
  have HW := hideP hW
  clear hW hx h
  go_enter Try.func23, Try.ntmps23
  go_wp2_with fail
  rw [← HW.out]
  refine (jFitsF _ _ _ _ _ _ _).mono ?_
  rintro e w1 ⟨rfl, h1⟩
  rw [hfit]
  obtain ⟨c0, c1, cm, f0, f1, f2, lt⟩ := m0.later h1
  have b01 := b0.trans h1
  go_wp2_with fail
  refine (tSqF n p N cap f w1 (HMX.out.later b01)).mono ?_
  rintro e w2 ⟨p2, c2, rfl, ⟨hP, hF⟩, h2⟩
  have k2 := MBox.new w2 n n p2 N c2 29
  obtain ⟨W2, hW2⟩ : ∃ W2, W2 = w2.alloc (.cells #[.int .i64 n, .int .i64 n, .slice p2 N c2] 29) := ⟨_, rfl⟩
  have b2 : Bl w2 W2 := by rw [hW2]; exact (Bl.refl _).alloc _
  rw [← hW2] at k2
  have HW2 := hideP hW2
  have B2 : Bl w W2 := b01.trans (h2.trans b2)
  have s2 := s0.later (h1.trans (h2.trans b2))
  have hsz : w.heap.size + 1 + 1 ≤ W2.heap.size := by have := (h1.trans (h2.trans b2)).size; omega
  have HP := hideP (show Mx 3 cellsF W2 n n p2 N c2 (squareJ kdF n f) from Mx.later hP b2)
  have HF := hideP (show Fresh (w.heap.size + 1 + 1) (.slice p2 N c2) from fresh_le hF (by have := h1.size; omega))
  have CL := hideP (fun u (hu : Bl W2 u) => clone_linF px n cx x u (HX.out.later (B2.trans hu)) (by have := h4; omega))
  clear hW2 hP hF c0 c1 cm f0 f1 f2 lt
  go_wp2_with fail
  rw [← HW2.out]
  refine (wpIn_wide (n := 8)).1 (region_q fm [some 19, some 20, some 21, some 22, none, some 5] (fun j => j == 5) 4 (by kernel_rfl) (by rfl)
    (fun j v u => match j with | 0 => v = .slice px n cx | 1 => ∃ q c, v = .slice q n c ∧ Rw 3 cellsF u (.slice q n c) (linJ n x) ∧ Fresh W2.heap.size (.slice q n c) | 2 => v = mV n n p2 N c2 | 3 => ∃ q c, v = sJ q n c n n p2 N c2 ∧ Rw 3 cellsF u (.slice q n c) (linJ n x) ∧ Fresh W2.heap.size (.slice q n c) | 5 => v = .bool true | _ => False)
    (by
        intro j v u u' hb h
        split at h <;> first | exact h | (obtain ⟨q, c, e, h1, h2⟩ := h; exact ⟨q, c, e, h1.later hb, h2⟩)) (fun vs u0 u => ∃ q c, SBox u (w.heap.size + 1) q n c n n p2 N c2 ∧ Rw 3 cellsF u (.slice q n c) (linJ n x) ∧ Mx 3 cellsF u n n p2 N c2 (squareJ kdF n f) ∧ Bl w u) ?step ?still ?store ?fin)
  case step =>
    intro j o t act u ho hdt hpu hsz hu hfr hin
    have hj : j < 6 := (Array.getElem?_eq_some_iff.1 ho).1
    obtain ⟨y0, y1, y2, _, _, _, _⟩ := k2.later hu
    rcases (by omega : j = 0 ∨ j = 1 ∨ j = 2 ∨ j = 3 ∨ j = 4 ∨ j = 5) with rfl | rfl | rfl | rfl | rfl | rfl
    · simp only [List.getElem?_toArray, List.getElem?_cons_zero, List.getElem?_cons_succ, Option.some.injEq] at ho
      subst ho
      obtain rfl := Option.some.inj hdt
      have i0 : act.eval (.tmp (0 : Nat)) = .slice px n cx := hfr 0 (by decide)
      exact plain_wp (by intro c h; cases h) (fun _ _ => trivial) (by simp only [execOp, i0, evalC, evalF, evalG]; simp [go_sem]) ⟨_, rfl, rfl, Bl.refl _⟩
    · simp only [List.getElem?_toArray, List.getElem?_cons_zero, List.getElem?_cons_succ, Option.some.injEq] at ho
      subst ho
      obtain rfl := Option.some.inj hdt
      have i19 : (act.eval (.tmp (19 : Nat))) = .slice px n cx := hin ⟨0, .data⟩ (by simp) rfl 19 rfl
      refine enter_wp 51 #[.slice px n cx] (by intro c h; cases h) (fun _ _ => trivial) (by simp only [execOp, evalC, evalF, evalG, resolve, i19, List.map_toArray, List.map_cons, List.map_nil]; simp [invoke, egC, Result.andThen, go_sem]) (by intro h; cases h) (callsIn_wide.2 (CL.out u hu)) ?_
      rintro e w' ⟨q, c, rfl, ⟨hR, hF⟩, hb⟩
      exact ⟨_, rfl, _, rfl, ⟨q, c, rfl, hR, fresh_le hF hu.size⟩, hb⟩
    · simp only [List.getElem?_toArray, List.getElem?_cons_zero, List.getElem?_cons_succ, Option.some.injEq] at ho
      subst ho
      obtain rfl := Option.some.inj hdt
      have i6 : act.eval (.tmp (6 : Nat)) = .pointer (some ⟨w2.heap.size, 0, none⟩) := hfr 6 (by decide)
      exact plain_wp (by intro c h; cases h) (fun _ _ => trivial) (by simp only [execOp, i6, evalC, evalF, evalG]; simp [go_sem, y0, y1, y2]) ⟨_, rfl, rfl, Bl.refl _⟩
    · simp only [List.getElem?_toArray, List.getElem?_cons_zero, List.getElem?_cons_succ, Option.some.injEq] at ho
      subst ho
      obtain rfl := Option.some.inj hdt
      have i20 : ∃ q c, (act.eval (.tmp (20 : Nat))) = .slice q n c ∧ Rw 3 cellsF u (.slice q n c) (linJ n x) ∧ Fresh W2.heap.size (.slice q n c) := hin ⟨1, .data⟩ (by simp) rfl 20 rfl
      have i21 : (act.eval (.tmp (21 : Nat))) = mV n n p2 N c2 := hin ⟨2, .data⟩ (by simp) rfl 21 rfl
      obtain ⟨q0, c0', e1, hq, hf⟩ := i20
      exact plain_wp (by intro c h; cases h) (fun _ _ => trivial) (by simp only [execOp, List.map_toArray, List.map_cons, List.map_nil, e1, i21]; simp [Try.buildSF, Result.andThen, go_sem]) ⟨_, rfl, ⟨q0, c0', rfl, hq, hf⟩, Bl.refl _⟩
    · simp only [List.getElem?_toArray, List.getElem?_cons_zero, List.getElem?_cons_succ, Option.some.injEq] at ho
      subst ho
      cases hdt
    · cases hpu
  case still =>
    intro j o t act u0 u ho hdt hpu hsz hu hfr hin
    have hj : j < 6 := (Array.getElem?_eq_some_iff.1 ho).1
    obtain ⟨y0, y1, y2, _, _, _, _⟩ := k2.later hu
    rcases (by omega : j = 0 ∨ j = 1 ∨ j = 2 ∨ j = 3 ∨ j = 4 ∨ j = 5) with rfl | rfl | rfl | rfl | rfl | rfl
    · cases hpu
    · cases hpu
    · cases hpu
    · cases hpu
    · cases hpu
    · simp only [List.getElem?_toArray, List.getElem?_cons_zero, List.getElem?_cons_succ, Option.some.injEq] at ho
      subst ho
      obtain rfl := Option.some.inj hdt
      exact plain_wp (by intro c h; cases h) (fun _ _ => trivial) (by simp only [execOp, evalC, evalF, evalG]; simp [go_sem]) ⟨_, rfl, rfl, rfl⟩
  case store =>
    intro o act u vs ho hsz hu hfr hin
    simp only [List.getElem?_toArray, List.getElem?_cons_zero, List.getElem?_cons_succ, Option.some.injEq] at ho
    subst ho
    have i4 : act.eval (.tmp (4 : Nat)) = .pointer (some ⟨w.heap.size + 1, 0, none⟩) := hfr 4 (by decide)
    obtain ⟨i22, k22⟩ : act.eval (.tmp (22 : Nat)) = vs 3 ∧ (∃ q c, (vs 3) = sJ q n c n n p2 N c2 ∧ Rw 3 cellsF u (.slice q n c) (linJ n x) ∧ Fresh W2.heap.size (.slice q n c)) := hin 3 22 rfl rfl
    obtain ⟨q0, c0', e1, hq, hf⟩ := k22
    rw [e1] at i22
    obtain ⟨c0, c1, c2', c3, f0, f1, f2, f3, lt⟩ := id (s2.later hu)
    exact skip_wp (by intro c h; cases h) (fun _ _ => trivial) (by simp only [execOp, i4, i22]; simp [go_sem, c0, c1, c2', c3, f0, f1, f2, f3]) ⟨rfl, q0, c0', (s2.later hu).fill _ _ _ _ _ _ _ _, rw_put4F hq (fresh_le hf (by omega)) _ _ _ _, mx_put4 (HP.out.later hu) HF.out _ _ _ _, Bl.put4 (B2.trans hu) (Nat.le_succ _) _ _ _ _⟩
  case fin =>
    intro vs vb u0 u hu hin hps
    have a0 := hin 0 19 rfl
    have a1 := hin 1 20 rfl
    have a2 := hin 2 21 rfl
    have a3 := hin 3 22 rfl
    have a5 := hin 5 5 rfl
    simp only [putL, Act.put, List.setIfInBounds_toArray, List.set_cons_zero, List.set_cons_succ, Nat.zero_add, Nat.reduceAdd, Nat.reduceBEq, Bool.or_false, Bool.or_true, Bool.false_or, Bool.true_or, Bool.false_eq_true, if_false, if_true, reduceIte, Nat.reduceEqDiff, beq_self_eq_true, Bool.or_self] at a0 a1 a2 a3 a5 ⊢
    rw [if_pos (by decide)] at hps
    simp only [a0, a2, a5]
    obtain ⟨q, c, sx, hR, hM, hbw⟩ := hps
    clear a1 a3
    have HR := hideP hR
    have HM := hideP hM
    clear hR hM
    obtain ⟨c0, c1, c2', c3, f0, f1, f2, f3, lt⟩ := sx
    go_wp2
    simp [bodyPost, results, Try.results23, go_sem, c0, c1, c2', c3]
    exact ⟨q, c, p2, c2, by simp, ⟨HR.out, HM.out⟩, hbw⟩
set_option maxHeartbeats 1000000 in
theorem jNewF_no (px : Option Addr) (nx cx : Nat) (r c : Int) (p : Option Addr) (N cap : Nat) (w : World) (hf : fitJ r c N nx = false) :
    Calls Try.prog 23 #[.slice px nx cx, mV r c p N cap] w fun e w' => e = .returned (.tuple #[sJ none 0 0 0 0 none 0 0, .bool false]) ∧ Bl w w' := by
  obtain ⟨W, hW⟩ : ∃ W, W = (w.alloc (.cells #[.int .i64 r, .int .i64 c, .slice p N cap] 29)).alloc (.cells #[.slice none 0 0, .int .i64 0, .int .i64 0, .slice none 0 0] 31) := ⟨_, rfl⟩
  have b0 : Bl w W := by rw [hW]; exact ((Bl.refl _).alloc _).alloc _
  have s0 : SBox W (w.heap.size + 1) none 0 0 0 0 none 0 0 := by rw [hW]; have := SBox.new (w.alloc (.cells #[.int .i64 r, .int .i64 c, .slice p N cap] 29)) none 0 0 0 0 none 0 0 31; rw [World.size_alloc] at this; exact this
  have HW := hideP hW
  clear hW
  go_enter Try.func23, Try.ntmps23
  go_wp2_with fail
  rw [← HW.out]
  refine (jFitsF _ _ _ _ _ _ _).mono ?_
  rintro e w1 ⟨rfl, h1⟩
  rw [hf]
  obtain ⟨c0, c1, c2, c3, f0, f1, f2, f3, lt⟩ := s0.later h1
  go_wp2
  simp [bodyPost, results, Try.results23, go_sem, c0, c1, c2, c3]
  exact Bl.put4 (b0.trans h1) (Nat.le_succ _) _ _ _ _
set_option maxRecDepth 100000 in
set_option maxHeartbeats 2000000 in
theorem jAroundF (n N : Nat) (p : Option Addr) (cap : Nat) (m : Nat → Nat → Fr) (q2 : Option Addr) (cap2 : Nat) (f : Nat → Nat → Fr) (w : World) (hm : Mx 3 cellsF w n n p N cap m) (hf : Mx 3 cellsF w n n q2 N cap2 f) :
    Calls Try.prog 29 #[mV n n p N cap, mV n n q2 N cap2] w fun e w' => ∃ q c, e = .returned (mV n n q N c) ∧ (Mx 3 cellsF w' n n q N c (aroundJ kdF n m f) ∧ Fresh w.heap.size (.slice q N c)) ∧ Bl w w' := by
  have fm : Try.prog.follows .mixedOrders = true := by kernel_rfl
  have egT := enters_of Try.func54 (by kernel_rfl) rfl
  have egM := enters_of Try.func53 (by kernel_rfl) rfl
  have HNN := hideP (show N = n * n from hm.2.1)
  obtain ⟨W, hW⟩ : ∃ W, W = ((w.alloc (.cells #[.int .i64 n, .int .i64 n, .slice p N cap] 29)).alloc (.cells #[.int .i64 n, .int .i64 n, .slice q2 N cap2] 29)).alloc (.cells #[.int .i64 0, .int .i64 0, .slice none 0 0] 29) := ⟨_, rfl⟩
  have b0 : Bl w W := by rw [hW]; exact (((Bl.refl _).alloc _).alloc _).alloc _
  have m0 : MBox W w.heap.size n n p N cap := by rw [hW]; exact (MBox.new w _ _ _ _ _ _).later (((Bl.refl _).alloc _).alloc _)
  have z0 : MBox W (w.heap.size + 1 + 1) 0 0 none 0 0 := by rw [hW]; have := MBox.new ((w.alloc (.cells #[.int .i64 n, .int .i64 n, .slice p N cap] 29)).alloc (.cells #[.int .i64 n, .int .i64 n, .slice q2 N cap2] 29)) 0 0 none 0 0 29; rw [World.size_alloc, World.size_alloc] at this; exact this
  have hs : W.heap.size = w.heap.size + 1 + 1 + 1 := by rw [hW]; simp
  have HM := hideP hm
  have HFX := hideP hf
  have HW := hideP hW
  clear hW hm hf
  go_enter Try.func29, Try.ntmps29
  go_wp2_with fail
  rw [← HW.out]
  refine (mMulF n n n p N cap m q2 N cap2 f N W (HM.out.later b0) (HFX.out.later b0) HNN.out).mono ?_
  rintro e w1 ⟨p1, c1, rfl, ⟨h1x, _, _⟩, h1⟩
  have k1 := MBox.new w1 n n p1 N c1 29
  obtain ⟨W2, hW2⟩ : ∃ W2, W2 = w1.alloc (.cells #[.int .i64 n, .int .i64 n, .slice p1 N c1] 29) := ⟨_, rfl⟩
  have b2 : Bl w1 W2 := by rw [hW2]; exact (Bl.refl _).alloc _
  rw [← hW2] at k1
  have hs2 : W2.heap.size = w1.heap.size + 1 := by rw [hW2]; simp
  have hw1 : w.heap.size + 1 + 1 + 1 ≤ w1.heap.size := by have := h1.size; omega
  have HW2 := hideP hW2
  have B2 : Bl w W2 := b0.trans (h1.trans b2)
  have km := m0.later (h1.trans b2)
  have kz := z0.later (h1.trans b2)
  have H1 := hideP (Mx.later h1x b2)
  clear hW2 h1x
  go_wp2_with fail
  rw [← HW2.out]
  refine (wpIn_wide (n := 8)).1 (region_q fm [some 14, some 15, some 16, some 17, some 13, some 18, some 19, none] (fun j => j == 6) 7 (by kernel_rfl) (by rfl)
    (fun j v u => match j with | 0 => v = mV n n p1 N c1 | 1 => v = mV n n p N cap | 2 => ∃ q c, v = mV n n q N c ∧ Mx 3 cellsF u n n q N c (fun i k => m k i) | 3 => ∃ q c, v = .tuple #[mV n n q N c, .bool true] ∧ Mx 3 cellsF u n n q N c (aroundJ kdF n m f) ∧ Fresh W2.heap.size (.slice q N c) | 4 => ∃ q c, v = .tuple #[mV n n q N c, .bool true] ∧ Mx 3 cellsF u n n q N c (aroundJ kdF n m f) ∧ Fresh W2.heap.size (.slice q N c) | 5 => ∃ q c, v = mV n n q N c ∧ Mx 3 cellsF u n n q N c (aroundJ kdF n m f) ∧ Fresh W2.heap.size (.slice q N c) | 6 => v = .bool true | _ => False)
    (by
        intro j v u u' hb h
        split at h
        · exact h
        · exact h
        · obtain ⟨q, c, e, h1⟩ := h; exact ⟨q, c, e, Mx.later h1 hb⟩
        · obtain ⟨q, c, e, h1, h2⟩ := h; exact ⟨q, c, e, Mx.later h1 hb, h2⟩
        · obtain ⟨q, c, e, h1, h2⟩ := h; exact ⟨q, c, e, Mx.later h1 hb, h2⟩
        · obtain ⟨q, c, e, h1, h2⟩ := h; exact ⟨q, c, e, Mx.later h1 hb, h2⟩
        · exact h
        · exact h) (fun vs u0 u => ∃ q c, MBox u w1.heap.size n n q N c ∧ Mx 3 cellsF u n n q N c (aroundJ kdF n m f) ∧ Fresh W2.heap.size (.slice q N c) ∧ MBox u (w.heap.size + 1 + 1) 0 0 none 0 0 ∧ Bl w u) ?step ?still ?store ?fin)
  case step =>
    intro j o t act u ho hdt hpu hsz hu hfr hin
    have hj : j < 8 := (Array.getElem?_eq_some_iff.1 ho).1
    obtain ⟨x0, x1, x2, _, _, _, _⟩ := km.later hu
    obtain ⟨y0, y1, y2, _, _, _, _⟩ := k1.later hu
    rcases (by omega : j = 0 ∨ j = 1 ∨ j = 2 ∨ j = 3 ∨ j = 4 ∨ j = 5 ∨ j = 6 ∨ j = 7) with rfl | rfl | rfl | rfl | rfl | rfl | rfl | rfl
    · simp only [List.getElem?_toArray, List.getElem?_cons_zero, List.getElem?_cons_succ, Option.some.injEq] at ho
      subst ho
      obtain rfl := Option.some.inj hdt
      have i5 : act.eval (.tmp (5 : Nat)) = .pointer (some ⟨w1.heap.size, 0, none⟩) := hfr 5 (by decide)
      exact plain_wp (by intro c h; cases h) (fun _ _ => trivial) (by simp only [execOp, i5, evalC, evalF, evalG]; simp [go_sem, y0, y1, y2]) ⟨_, rfl, rfl, Bl.refl _⟩
    · simp only [List.getElem?_toArray, List.getElem?_cons_zero, List.getElem?_cons_succ, Option.some.injEq] at ho
      subst ho
      obtain rfl := Option.some.inj hdt
      have i2 : act.eval (.tmp (2 : Nat)) = .pointer (some ⟨w.heap.size, 0, none⟩) := hfr 2 (by decide)
      exact plain_wp (by intro c h; cases h) (fun _ _ => trivial) (by simp only [execOp, i2, evalC, evalF, evalG]; simp [go_sem, x0, x1, x2]) ⟨_, rfl, rfl, Bl.refl _⟩
    · simp only [List.getElem?_toArray, List.getElem?_cons_zero, List.getElem?_cons_succ, Option.some.injEq] at ho
      subst ho
      obtain rfl := Option.some.inj hdt
      have i15 : (act.eval (.tmp (15 : Nat))) = mV n n p N cap := hin ⟨1, .data⟩ (by simp) rfl 15 rfl
      refine enter_wp 54 #[mV n n p N cap] (by intro c h; cases h) (fun _ _ => trivial) (by simp only [execOp, evalC, evalF, evalG, resolve, i15, List.map_toArray, List.map_cons, List.map_nil]; simp [invoke, egT, Result.andThen, go_sem]) (by intro h; cases h) (callsIn_wide.2 (mTurnF n n p N cap m u (HM.out.later (B2.trans hu)))) ?_
      rintro e w' ⟨q, c, rfl, ⟨hM, _, _⟩, hb⟩
      exact ⟨_, rfl, _, rfl, ⟨q, c, rfl, hM⟩, hb⟩
    · simp only [List.getElem?_toArray, List.getElem?_cons_zero, List.getElem?_cons_succ, Option.some.injEq] at ho
      subst ho
      obtain rfl := Option.some.inj hdt
      have i14 : (act.eval (.tmp (14 : Nat))) = mV n n p1 N c1 := hin ⟨0, .data⟩ (by simp) rfl 14 rfl
      have i16 : ∃ q c, (act.eval (.tmp (16 : Nat))) = mV n n q N c ∧ Mx 3 cellsF u n n q N c (fun i k => m k i) := hin ⟨2, .data⟩ (by simp) rfl 16 rfl
      obtain ⟨q0, c0', e1, hq⟩ := i16
      refine enter_wp 53 #[mV n n p1 N c1, mV n n q0 N c0'] (by intro c h; cases h) (fun _ _ => trivial) (by simp only [execOp, evalC, evalF, evalG, resolve, i14, e1, List.map_toArray, List.map_cons, List.map_nil]; simp [invoke, egM, Result.andThen, go_sem]) (by intro h; cases h) (callsIn_wide.2 (mMulF n n n p1 N c1 _ q0 N c0' _ N u (H1.out.later hu) hq HNN.out)) ?_
      rintro e w' ⟨q, c, rfl, ⟨hM, _, hF⟩, hb⟩
      exact ⟨_, rfl, _, rfl, ⟨q, c, rfl, hM, fresh_le hF hu.size⟩, hb⟩
    · simp only [List.getElem?_toArray, List.getElem?_cons_zero, List.getElem?_cons_succ, Option.some.injEq] at ho
      subst ho
      obtain rfl := Option.some.inj hdt
      have i17 : ∃ q c, (act.eval (.tmp (17 : Nat))) = .tuple #[mV n n q N c, .bool true] ∧ Mx 3 cellsF u n n q N c (aroundJ kdF n m f) ∧ Fresh W2.heap.size (.slice q N c) := hin ⟨3, .data⟩ (by simp) rfl 17 rfl
      obtain ⟨q0, c0', e1, hq⟩ := i17
      exact plain_wp (by intro c h; cases h) (fun _ _ => trivial) (by simp only [execOp, e1]; simp [go_sem]) ⟨_, rfl, ⟨q0, c0', rfl, hq⟩, Bl.refl _⟩
    · simp only [List.getElem?_toArray, List.getElem?_cons_zero, List.getElem?_cons_succ, Option.some.injEq] at ho
      subst ho
      obtain rfl := Option.some.inj hdt
      have i13 : ∃ q c, (act.eval (.tmp (13 : Nat))) = .tuple #[mV n n q N c, .bool true] ∧ Mx 3 cellsF u n n q N c (aroundJ kdF n m f) ∧ Fresh W2.heap.size (.slice q N c) := hin ⟨4, .data⟩ (by simp) rfl 13 rfl
      obtain ⟨q0, c0', e1, hq⟩ := i13
      exact plain_wp (by intro c h; cases h) (fun _ _ => trivial) (by simp only [execOp, e1]; simp [go_sem]) ⟨_, rfl, ⟨q0, c0', rfl, hq⟩, Bl.refl _⟩
    · cases hpu
    · simp only [List.getElem?_toArray, List.getElem?_cons_zero, List.getElem?_cons_succ, Option.some.injEq] at ho
      subst ho
      cases hdt
  case still =>
    intro j o t act u0 u ho hdt hpu hsz hu hfr hin
    have hj : j < 8 := (Array.getElem?_eq_some_iff.1 ho).1
    obtain ⟨x0, x1, x2, _, _, _, _⟩ := km.later hu
    obtain ⟨y0, y1, y2, _, _, _, _⟩ := k1.later hu
    rcases (by omega : j = 0 ∨ j = 1 ∨ j = 2 ∨ j = 3 ∨ j = 4 ∨ j = 5 ∨ j = 6 ∨ j = 7) with rfl | rfl | rfl | rfl | rfl | rfl | rfl | rfl
    · cases hpu
    · cases hpu
    · cases hpu
    · cases hpu
    · cases hpu
    · cases hpu
    · simp only [List.getElem?_toArray, List.getElem?_cons_zero, List.getElem?_cons_succ, Option.some.injEq] at ho
      subst ho
      obtain rfl := Option.some.inj hdt
      have i13 : ∃ q c, (act.eval (.tmp (13 : Nat))) = .tuple #[mV n n q N c, .bool true] ∧ Mx 3 cellsF u0 n n q N c (aroundJ kdF n m f) ∧ Fresh W2.heap.size (.slice q N c) := hin ⟨4, .data⟩ (by simp) rfl 13 rfl
      obtain ⟨q0, c0', e1, hq⟩ := i13
      exact plain_wp (by intro c h; cases h) (fun _ _ => trivial) (by simp only [execOp, e1]; simp [go_sem]) ⟨_, rfl, rfl, rfl⟩
    · cases hpu
  case store =>
    intro o act u vs ho hsz hu hfr hin
    simp only [List.getElem?_toArray, List.getElem?_cons_zero, List.getElem?_cons_succ, Option.some.injEq] at ho
    subst ho
    have i5 : act.eval (.tmp (5 : Nat)) = .pointer (some ⟨w1.heap.size, 0, none⟩) := hfr 5 (by decide)
    obtain ⟨i18, k18⟩ : act.eval (.tmp (18 : Nat)) = vs 5 ∧ (∃ q c, (vs 5) = mV n n q N c ∧ Mx 3 cellsF u n n q N c (aroundJ kdF n m f) ∧ Fresh W2.heap.size (.slice q N c)) := hin 5 18 rfl rfl
    obtain ⟨q0, c0', e1, hq, hf⟩ := k18
    rw [e1] at i18
    obtain ⟨y0, y1, y2, e0, e1', e2, lt⟩ := id (k1.later hu)
    exact skip_wp (by intro c h; cases h) (fun _ _ => trivial) (by simp only [execOp, i5, i18]; simp [go_sem, y0, y1, y2, e0, e1', e2]) ⟨rfl, q0, c0', (k1.later hu).fill _ _ _ _ _, mx_put7 hq (fresh_le hf (by omega)) _ _ _, hf, mbox_set7 (mbox_set7 (mbox_set7 (kz.later hu) (by omega) _ _) (by omega) _ _) (by omega) _ _, Bl.put3 (B2.trans hu) (by have := hw1; omega) _ _ _⟩
  case fin =>
    intro vs vb u0 u hu hin hps
    have a0 := hin 0 14 rfl
    have a1 := hin 1 15 rfl
    have a2 := hin 2 16 rfl
    have a3 := hin 3 17 rfl
    have a4 := hin 4 13 rfl
    have a5 := hin 5 18 rfl
    have a6 := hin 6 19 rfl
    simp only [putL, Act.put, List.setIfInBounds_toArray, List.set_cons_zero, List.set_cons_succ, Nat.zero_add, Nat.reduceAdd, Nat.reduceBEq, Bool.or_false, Bool.or_true, Bool.false_or, Bool.true_or, Bool.false_eq_true, if_false, if_true, reduceIte, Nat.reduceEqDiff, beq_self_eq_true, Bool.or_self] at a0 a1 a2 a3 a4 a5 a6 ⊢
    rw [if_pos (by decide)] at hps
    simp only [a0, a1, a6]
    obtain ⟨q, c, kx, hM, hF, kz', hbw⟩ := hps
    clear a2 a3 a4 a5
    have HR := hideP hM
    have HF := hideP (show Fresh (w.heap.size + 1 + 1 + 1) (.slice q N c) from fresh_le hF (by omega))
    clear hM hF
    obtain ⟨x0, x1, x2, _, _, _, _⟩ := kx
    obtain ⟨c0, c1', c2, f0, f1, f2, lt2⟩ := kz'
    go_wp2
    simp [bodyPost, results, Try.results29, go_sem, c0, c1', c2]
    exact ⟨q, c, ⟨rfl, rfl⟩, ⟨mx_put7 HR.out HF.out _ _ _, fresh_le HF.out (by omega)⟩, Bl.put3 hbw (by omega) _ _ _⟩
set_option maxRecDepth 100000 in
set_option maxHeartbeats 2000000 in
theorem jMirroredF (n N : Nat) (p : Option Addr) (cap : Nat) (a : Nat → Nat → Fr) (q2 : Option Addr) (cap2 : Nat) (b : Nat → Nat → Fr) (w : World) (hm : Mx 3 cellsF w n n p N cap a) (hf : Mx 3 cellsF w n n q2 N cap2 b) :
    Calls Try.prog 32 #[mV n n p N cap, mV n n q2 N cap2] w fun e w' => ∃ q c, e = .returned (mV n n q N c) ∧ (Mx 3 cellsF w' n n q N c (mirrJ kdF a b) ∧ Fresh w.heap.size (.slice q N c)) ∧ Bl w w' := by
  obtain ⟨W, hW⟩ : ∃ W, W = ((w.alloc (.cells #[.int .i64 n, .int .i64 n, .slice p N cap] 29)).alloc (.cells #[.int .i64 n, .int .i64 n, .slice q2 N cap2] 29)).alloc (.cells #[.int .i64 0, .int .i64 0, .slice none 0 0] 29) := ⟨_, rfl⟩
  have b0 : Bl w W := by rw [hW]; exact (((Bl.refl _).alloc _).alloc _).alloc _
  have z0 : MBox W (w.heap.size + 1 + 1) 0 0 none 0 0 := by rw [hW]; have := MBox.new ((w.alloc (.cells #[.int .i64 n, .int .i64 n, .slice p N cap] 29)).alloc (.cells #[.int .i64 n, .int .i64 n, .slice q2 N cap2] 29)) 0 0 none 0 0 29; rw [World.size_alloc, World.size_alloc] at this; exact this
  have hs : W.heap.size = w.heap.size + 1 + 1 + 1 := by rw [hW]; simp
  have HM := hideP hm
  have HFX := hideP hf
  have HW := hideP hW
  clear hW hm hf
  go_enter Try.func32, Try.ntmps32
  go_wp2_with fail
  rw [← HW.out]
  refine (mAddF' n n p q2 N cap cap2 a b W (HM.out.later b0) (HFX.out.later b0)).mono ?_
  rintro e w1 ⟨p1, c1, rfl, ⟨h1x, _⟩, h1⟩
  obtain ⟨W2, hW2⟩ : ∃ W2, W2 = w1.alloc (.cells #[.int .i64 n, .int .i64 n, .slice p1 N c1] 29) := ⟨_, rfl⟩
  have b2 : Bl w1 W2 := by rw [hW2]; exact (Bl.refl _).alloc _
  have HW2 := hideP hW2
  have H1 := hideP (Mx.later h1x b2)
  clear hW2 h1x
  go_wp2_with fail
  rw [← HW2.out]
  refine (mMirrorF n p1 N c1 _ W2 H1.out).mono ?_
  rintro e w3 ⟨p3, c3, rfl, ⟨hR, _, hF⟩, h3⟩
  obtain ⟨W4, hW4⟩ : ∃ W4, W4 = w3.alloc (.cells #[.int .i64 n, .int .i64 n, .slice p3 N c3] 29) := ⟨_, rfl⟩
  have b4 : Bl w3 W4 := by rw [hW4]; exact (Bl.refl _).alloc _
  have k4 := MBox.new w3 n n p3 N c3 29
  rw [← hW4] at k4
  have B4 : Bl w W4 := b0.trans (h1.trans (b2.trans (h3.trans b4)))
  have HR := hideP (show Mx 3 cellsF W4 n n p3 N c3 (mirrJ kdF a b) from Mx.later hR b4)
  have HF := hideP (show Fresh (w.heap.size + 1 + 1 + 1) (.slice p3 N c3) from fresh_le hF (by have := (h1.trans b2).size; omega))
  have kz := z0.later (h1.trans (b2.trans (h3.trans b4)))
  obtain ⟨x0, x1, x2, _, _, _, _⟩ := k4
  obtain ⟨c0, c1', c2, f0, f1, f2, lt2⟩ := kz
  have HW4 := hideP hW4
  rw [hW4] at x0 x1 x2 c0 c1' c2 f0 f1 f2
  clear hW4 hR hF H1
  go_wp2_with fail
  rw [← HW4.out]
  rw [← HW4.out] at x0 x1 x2 c0 c1' c2 f0 f1 f2
  go_wp2
  simp [bodyPost, results, Try.results32, go_sem, c0, c1', c2]
  exact ⟨p3, c3, ⟨rfl, rfl⟩, ⟨mx_put7 HR.out HF.out _ _ _, fresh_le HF.out (by omega)⟩, Bl.put3 B4 (by omega) _ _ _⟩
end Go.Proofs.Ythnadgbloamlaaa

/- Contracts of mat's Unit, and of Whole with new memory, of fractions (layer 6). Written by genMa.py. -/
namespace Go.Proofs.Ythnadgbloamlaaa
open Go.RowKit
set_option linter.unusedSimpArgs false
set_option linter.unusedVariables false

theorem mWholeF' (r c : Int) (p : Option Addr) (n cap : Nat) (ns : List Int) (w : World) (hr : Rq 1 (fun n => [.int .i64 n]) w (.slice p n cap) ns) (h : fitB r c n = true) (hn : ns.length = n) :
    Calls Try.prog 20 #[.int .i64 r, .int .i64 c, .slice p n cap] w fun e w' => ∃ p' cap', e = .returned (.tuple #[mV r c p' n cap', .bool true]) ∧ (Rw 3 cellsF w' (.slice p' n cap') (ns.map wholeF) ∧ Fresh w.heap.size (.slice p' n cap')) ∧ Bl w w' := by
  have hl : n ≤ 1000000 := by obtain ⟨R, C, _, _, hd, rfl⟩ := fitB_nat h; have := hd.lt; omega
  obtain ⟨W, hW⟩ : ∃ W, W = w.alloc (.cells #[.int .i64 0, .int .i64 0, .slice none 0 0] 29) := ⟨_, rfl⟩
  have b0 : Bl w W := by rw [hW]; exact (Bl.refl _).alloc _
  have x0 : MBox W w.heap.size 0 0 none 0 0 := by rw [hW]; exact MBox.new w 0 0 none 0 0 _
  have hsz : W.heap.size = w.heap.size + 1 := by rw [hW]; simp
  have CL := hideP (vWholeF' (.slice p n cap) ns W (hr.later b0) (by omega))
  have HW := hideP hW
  clear hW hr
  go_enter Try.func20, Try.ntmps20
  go_wp2_with fail
  rw [← HW.out]
  refine (fits_any _ _ _ _).mono ?_
  rintro e w1 ⟨rfl, rfl⟩
  rw [h]
  go_wp2_with fail
  refine CL.out.mono ?_
  rintro e w2 ⟨u, rfl, hR, hF, h2⟩
  obtain ⟨p', cap', rfl, _, _⟩ := hR.cut
  rw [List.length_map, hn] at hR hF ⊢
  have HR := hideP hR
  have HF := hideP hF
  obtain ⟨c0, c1, c2, f0, f1, f2, lt⟩ := x0.later h2
  clear hR hF CL
  go_wp2
  simp [bodyPost, results, Try.results20, go_sem, c0, c1, c2]
  refine ⟨p', cap', ⟨rfl, rfl⟩, ⟨((HR.out.set _ ?_).set _ ?_).set _ ?_, fun g hg => ?_⟩, Bl.put3 (b0.trans h2) (Nat.le_refl _) _ _ _⟩
  · exact fun g hg => by have := HF.out g hg; show w.heap.size + 1 ≤ g; omega
  · exact fun g hg => by have := HF.out g hg; show w.heap.size + 1 ≤ g; omega
  · exact fun g hg => by have := HF.out g hg; show w.heap.size + 1 ≤ g; omega
  · have := HF.out g hg; omega
set_option maxHeartbeats 1000000 in
theorem mUnitF (m n : Nat) (h1 : 1 ≤ m) (h2 : m ≤ 16) (hn : n = m * m) (w : World) :
    Calls Try.prog 19 #[.int .i64 m] w fun e w' => ∃ p' cap', e = .returned (.tuple #[mV m m p' n cap', .bool true]) ∧ Mx 3 cellsF w' m m p' n cap' (fun i k => wholeF (unitI i k)) ∧ Bl w w' := by
  obtain ⟨i0, hi, hz0, hz1, hz2⟩ := info_parts Try.info_I
  have hs : sideB m = true := decide_eq_true ⟨by omega, by omega⟩
  have hd : Dim m m := ⟨h1, h2, h1, h2⟩
  have hmm : (m : Int) * (m : Int) = n := by rw [hn]; simp
  have hn256 : n ≤ 256 := by rw [hn]; exact hd.lt
  have hfit := hideP (fitB_dim hd hn)
  have HN := hideP hn
  clear hn
  have z0 := MBox.new w 0 0 none 0 0 29
  go_enter Try.func19, Try.ntmps19
  go_wp2_with fail
  refine (side_any _ _).mono ?_
  rintro e w1 ⟨rfl, rfl⟩
  rw [hs]
  go_wp2_with (at_make; refine wpList_make_full _ rfl _ _ 22 rfl (w.heap.size + 1) 3 i0 (.int .i64 0) 1 Try.underlying22 hi hz0 hz1 .i64 .i64 _ _ n rfl rfl (by simp) (by simp) (by rw [hz2]; omega) (by unfold maxLen; omega) (by simp) ?_; intro w0 hown0 hgrow0)
  rw [unit_made m n HN.out] at hown0
  have hB0 : Bl w w0 := ((Bl.refl w).alloc _).grown hgrow0 (by simp) (fun k e => by cases e)
  have hz : MBox w0 w.heap.size 0 0 none 0 0 := mbox_block z0 (hgrow0.block _ z0.lt nofun) hgrow0.size
  clear hgrow0 z0
  try simp only [World.size_alloc] at hown0 ⊢
  go_loopw [15] (fun i wr => ∃ j : Nat, i = .int .i64 j ∧ j ≤ m ∧ wr.ownsRow (w.heap.size + 1) 3 1 (.slice (some ⟨w.heap.size + 1, 0, none⟩) n n) n ((mk m m (unitTo j)).flatMap cellsI) ∧ MBox wr w.heap.size 0 0 none 0 0 ∧ Bl w wr) (fun i _ => m - (intOf i).toNat)
  case atStart => exact ⟨0, rfl, Nat.zero_le _, hown0, hz, hB0⟩
  case round =>
    clear hown0 hz hB0
    obtain ⟨j, rfl, hj, hown, hz, hB⟩ := hrel
    by_cases hlt : j < m
    · obtain ⟨a, q, e1, e2, hq1, hq3, hq5, hq6⟩ := place hd hlt hlt
      rw [← HN.out] at hq5
      have cq : wr.cell? ⟨w.heap.size + 1, q, none⟩ = some (.int .i64 (unitTo j j j)) := by
        rw [hown.cellAt q (by omega), flatI_map, List.getElem?_map, e2, mk_get _ hlt hlt]; rfl
      have fq := hown.frozenAt q
      have ST := hideP (hown.stored q (.int .i64 1))
      have EQ := hideP e2
      clear hown e1 e2
      generalize unitTo j j j = x at *
      go_wp2
      go_roundw
      case rel =>
        refine ⟨j + 1, by simp, hlt, ?_, mbox_block hz (ST.out.2.block _ hz.lt (by simp)) ST.out.2.size, Bl.set hB (Nat.le_succ _) _⟩
        have := ST.out.1
        rw [EQ.out] at this ⊢
        rw [unitTo_cells m j hlt] at this
        exact this
      case measure => simp [intOf]; omega
    · obtain rfl : j = m := by omega
      have hr : Rq 1 cI wr (.slice (some ⟨w.heap.size + 1, 0, none⟩) n n) (mk j j unitI) := by
        rw [← unitTo_all]
        exact (Rw.of_own cellsI_len (xs := mk j j (unitTo j)) (by rw [mk_len, ← HN.out]; exact hown)).q
      have WH := hideP (mWholeF' j j _ n n (mk j j unitI) wr hr hfit.out (by rw [mk_len, HN.out]))
      clear hr hown
      go_wp2_with fail
      refine WH.out.mono ?_
      rintro e w2 ⟨p', cap', rfl, ⟨hR, hF⟩, h2⟩
      have HR := hideP hR
      have HF := hideP (show Fresh (w.heap.size + 1) (.slice p' n cap') from fun g hg => by have := hF g hg; have := hz.lt; omega)
      clear hR hF WH
      obtain ⟨c0, c1, c2, f0, f1, f2, lt⟩ := hz.later h2
      go_wp2
      simp [bodyPost, results, Try.results19, go_sem, c0, c1, c2]
      have q := ((HR.out.set (p := ⟨w.heap.size, 0, none⟩) (.int .i64 j) HF.out).set (p := ⟨w.heap.size, 1, none⟩) (.int .i64 j) HF.out).set (p := ⟨w.heap.size, 2, none⟩) (.slice p' n cap') HF.out
      rw [mk_map] at q
      exact ⟨p', cap', ⟨rfl, rfl⟩, ⟨hd, HN.out, q.q⟩, Bl.put3 (hB.trans h2) (Nat.le_refl _) _ _ _⟩
end Go.Proofs.Ythnadgbloamlaaa

/- Contracts of joseph's shares, outer, rest, of fractions (layer 9). Written by genJo.py. -/
namespace Go.Proofs.Ythnadgbloamlaaa
open Go.RowKit
set_option linter.unusedSimpArgs false
set_option linter.unusedVariables false

theorem fresh_ownF {w : World} {B b n : Nat} {e : TypeId} {s : Nat} {v : Value} {l : List Value} (h : w.ownsRow B e s v n l) (hb : b ≤ B) : Fresh b v := fun g hg => Nat.le_trans hb (h.lt g hg).1
set_option maxHeartbeats 1000000 in
theorem jShares0F (v : Value) (xs : List Fr) (by_ : Fr) (w : World) (h : Rw 3 cellsF w v xs) (hl : xs.length ≤ 1000000) :
    Calls Try.prog 26 #[v, frV by_] w fun e w' => ∃ u, e = .returned u ∧ Rw 3 cellsF w' u (xs.map fun x => divR x by_) ∧ Fresh w.heap.size u ∧ Bl w w' := by
  have iv := Try.mDivF
  obtain ⟨i0, hi, hz0, hz1, hz2⟩ := info_parts Try.info_F
  have x0 := FBox.new w by_ 35
  rcases h with ⟨rfl, rfl⟩ | ⟨b, o, cap, rfl, hc, hb, hx⟩
  · go_enter Try.func26, Try.ntmps26
    go_wp2_with (at_make; refine wpList_make_own _ rfl _ _ 27 rfl w.heap.size 35 i0 (.agg #[.int .i64 0, .int .i64 0, .bool false]) 3 Try.underlying27 hi hz0 hz1 .i64 .i64 _ 0 rfl rfl (by simp) (by rw [hz2]; omega) (by unfold maxLen; omega) (by simp) ?_; intro w0 hown0 hgrow0)
    rw [World.size_alloc] at hown0
    have hB0 : Bl w w0 := Below.grown (Below.alloc (Bl.refl w) (Nat.le_refl _) _) hgrow0 (by simp) (fun k e => by cases e)
    go_loopw [5, 13] (fun v i wr => i = .int .i64 0 ∧ wr.ownsRow w.heap.size 35 3 v 0 [] ∧ Bl w wr) (fun _ _ _ => 0)
    case atStart => exact ⟨rfl, hown0, hB0⟩
    case round =>
      obtain ⟨rfl, hown, hB⟩ := hrel
      go_wp2
      go_ret
      exact ⟨_, rfl, Rw.of_own cellsF_len (xs := []) hown, fresh_ownF hown (Nat.le_refl _), hB⟩
  · have HX := hideP hx
    clear hx
    go_enter Try.func26, Try.ntmps26
    go_wp2_with (at_make; refine wpList_make_own _ rfl _ _ 27 rfl (w.heap.size + 1) 35 i0 (.agg #[.int .i64 0, .int .i64 0, .bool false]) 3 Try.underlying27 hi hz0 hz1 .i64 .i64 _ xs.length rfl rfl (by simp) (by rw [hz2]; omega) (by unfold maxLen; omega) (by simp) ?_; intro w0 hown0 hgrow0)
    rw [World.size_alloc] at hown0
    have hB1 : Bl (w.alloc (.cells #[.int .i64 by_.n, .int .i64 by_.d, .bool by_.bad] 35)) w0 := Below.grown (Bl.refl _) hgrow0 (Nat.le_refl _) (fun k e => by cases e)
    have hB0 : Bl w w0 := ((Bl.refl w).alloc _).trans hB1
    go_loopw [5, 13] (fun v i wr => ∃ k : Nat, i = .int .i64 k ∧ k ≤ xs.length ∧ FBox wr w.heap.size by_ ∧ wr.ownsRow (w.heap.size + 1) 35 3 v ((xs.take k).map fun x => divR x by_).length (((xs.take k).map fun x => divR x by_).flatMap cellsF) ∧ Bl w wr) (fun _ i _ => xs.length - (intOf i).toNat)
    case atStart => exact ⟨0, rfl, Nat.zero_le _, x0.later hB1, hown0, hB0⟩
    case round =>
      obtain ⟨k, rfl, hk, bx, hown, hB⟩ := hrel
      by_cases hlt : k < xs.length
      · obtain ⟨x, hx⟩ : ∃ x, xs[k]? = some x := ⟨_, List.getElem?_eq_getElem hlt⟩
        have CX : ∀ j u, (cellsF x)[j]? = some u → wr.cell? ⟨b, o + k * 3 + j, none⟩ = some u := fun j u hu => (bl_cell hB _ _ hb).trans (HX.out k x hx j u hu)
        have y0 : wr.cell? ⟨b, o + k * 3, none⟩ = some (.int .i64 x.n) := CX 0 _ rfl
        have y1 : wr.cell? ⟨b, o + k * 3 + 1, none⟩ = some (.int .i64 x.d) := CX 1 _ rfl
        have y2 : wr.cell? ⟨b, o + k * 3 + 2, none⟩ = some (.bool x.bad) := CX 2 _ rfl
        clear CX
        obtain ⟨c0, c1, c2, f0, f1, f2, lt⟩ := id bx
        have HT := hideP (show (xs.take (k + 1)).map (fun x => divR x by_) = (xs.take k).map (fun x => divR x by_) ++ [divR x by_] by rw [List.take_add_one, hx]; simp)
        have HK := hideP (show ((xs.take k).map fun x => divR x by_).length = k by simp; omega)
        generalize hys : (xs.take k).map (fun x => divR x by_) = ys at *
        clear hys
        go_wp2_with fail
        refine (rdiv_any _ _ _).mono ?_
        rintro e w2 ⟨rfl, h2⟩
        have bl2 : Bl wr w2 := ((Bl.refl _).alloc _).trans h2
        generalize divR x by_ = r at *
        clear y0 y1 y2 c0 c1 c2
        replace hown := own_blF hown bl2
        replace hB := hB.trans bl2
        have bx2 := bx.later bl2
        have hkk := HK.out
        go_wp2_with (at_builtin; refine wpList_append_own _ rfl _ _ 27 rfl (w.heap.size + 1) 35 i0 (.agg #[.int .i64 0, .int .i64 0, .bool false]) 3 24 Try.underlying27 hi hz0 hz1 hz2 rfl (by decide) _ _ _ rfl (hown.alloc _) ⟨_, 0, none⟩ 1 1 (cellsF r) rfl rfl (newF_cells _ _ _) (oneF_cells _) (by unfold maxLen; omega) (by omega) (by have := bx2.lt; simp; omega) ?_; intro v' w1 hown' hgrow _)
        have R := ownF_step' (n₀ := w.heap.size + 1) hB (by omega) hown hown' hgrow
        have bx3 := bx2.grown ((Bl.refl _).alloc _) hown hgrow (by omega)
        clear hown hown' hgrow
        go_wp2
        go_roundw
        case rel => exact ⟨k + 1, by simp, hlt, bx3, by rw [HT.out]; exact R.2, R.1⟩
        case measure => simp [intOf]; omega
      · have hk' : k = xs.length := by omega
        subst hk'
        rw [List.take_length] at hown
        have R := hideP (Rw.of_own cellsF_len hown)
        have FR := hideP (fresh_ownF hown (Nat.le_succ _))
        clear hown
        go_wp2
        go_ret
        exact ⟨_, rfl, R.out, FR.out, hB⟩


theorem jSharesF (n : Nat) (p : Option Addr) (cap : Nat) (u : Nat → Fr) (a : Fr) (w : World) (h : Rw 3 cellsF w (.slice p n cap) (linJ n u)) (hl : n ≤ 1000000) :
    Calls Try.prog 26 #[.slice p n cap, frV a] w fun e w' => ∃ q c, e = .returned (.slice q n c) ∧ (Rw 3 cellsF w' (.slice q n c) (linJ n (fun i => divR (u i) a)) ∧ Fresh w.heap.size (.slice q n c)) ∧ Bl w w' :=
  (jShares0F _ _ a w h (by rw [linJ_len]; exact hl)).mono fun e w' ⟨v, he, hr, hf, hb⟩ => by
    rw [linJ_map] at hr
    obtain ⟨q, c, rfl, _, _⟩ := hr.cut
    rw [linJ_len] at hr hf he
    exact ⟨q, c, he, ⟨hr, hf⟩, hb⟩
set_option maxRecDepth 100000 in
set_option maxHeartbeats 2000000 in
theorem jOuterF (n m N : Nat) (pk : Option Addr) (ck : Nat) (k : Nat → Fr) (ph : Option Addr) (ch : Nat) (h : Nat → Fr) (w : World) (hk : Rq 3 cellsF w (.slice pk n ck) (linJ n k)) (hh : Rq 3 cellsF w (.slice ph m ch) (linJ m h)) (hd : Dim n m) (hN : N = n * m) :
    Calls Try.prog 31 #[.slice pk n ck, .slice ph m ch] w fun e w' => ∃ q c, e = .returned (mV n m q N c) ∧ (Mx 3 cellsF w' n m q N c (outerJ kdF k h) ∧ Fresh w.heap.size (.slice q N c)) ∧ Bl w w' := by
  have d1 : Dim n 1 := ⟨hd.r1, hd.r2, by decide, by decide⟩
  have d2 : Dim 1 m := ⟨by decide, by decide, hd.c1, hd.c2⟩
  have f1' : fitB (n : Int) (1 : Int) (n : Int) = true := fitB_dim d1 (Nat.mul_one n).symm
  have f2' : fitB (1 : Int) (m : Int) (m : Int) = true := fitB_dim d2 (Nat.one_mul m).symm
  obtain ⟨W, hW⟩ : ∃ W, W = w.alloc (.cells #[.int .i64 0, .int .i64 0, .slice none 0 0] 29) := ⟨_, rfl⟩
  have b0 : Bl w W := by rw [hW]; exact (Bl.refl _).alloc _
  have z0 : MBox W w.heap.size 0 0 none 0 0 := by rw [hW]; exact MBox.new w _ _ _ _ _ _
  have hs : W.heap.size = w.heap.size + 1 := by rw [hW]; simp
  have HK := hideP hk
  have HH := hideP hh
  have HW := hideP hW
  have HN := hideP hN
  clear hW hk hh hN
  go_enter Try.func31, Try.ntmps31
  go_wp2_with fail
  rw [← HW.out]
  refine (mNewF (n : Int) (1 : Int) pk n ck (linJ n k) W (HK.out.later b0) f1' (linJ_len _ _)).mono ?_
  rintro e w1 ⟨p1, c1, rfl, ⟨hR1, _⟩, h1⟩
  obtain ⟨W1, hW1⟩ : ∃ W1, W1 = w1.alloc (.cells #[.int .i64 n, .int .i64 1, .slice p1 n c1] 29) := ⟨_, rfl⟩
  have b1 : Bl w1 W1 := by rw [hW1]; exact (Bl.refl _).alloc _
  have k1 : MBox W1 w1.heap.size n 1 p1 n c1 := by rw [hW1]; exact MBox.new w1 _ _ _ _ _ _
  have HW1 := hideP hW1
  have X1 := hideP (show Mx 3 cellsF W1 n 1 p1 n c1 (fun i _ => k i) from ⟨d1, (Nat.mul_one n).symm, by rw [linJ_col] at hR1; exact (hR1.later b1).q⟩)
  clear hW1 hR1
  have B1 : Bl w W1 := b0.trans (h1.trans b1)
  go_wp2_with fail
  rw [← HW1.out]
  refine (mNewF (1 : Int) (m : Int) ph m ch (linJ m h) W1 (HH.out.later B1) f2' (linJ_len _ _)).mono ?_
  rintro e w2 ⟨p2, c2, rfl, ⟨hR2, _⟩, h2⟩
  obtain ⟨W2, hW2⟩ : ∃ W2, W2 = w2.alloc (.cells #[.int .i64 1, .int .i64 m, .slice p2 m c2] 29) := ⟨_, rfl⟩
  have b2 : Bl w2 W2 := by rw [hW2]; exact (Bl.refl _).alloc _
  have k2 : MBox W2 w2.heap.size 1 m p2 m c2 := by rw [hW2]; exact MBox.new w2 _ _ _ _ _ _
  have HW2 := hideP hW2
  have X2 := hideP (show Mx 3 cellsF W2 1 m p2 m c2 (fun _ j => h j) from ⟨d2, (Nat.one_mul m).symm, by rw [linJ_one] at hR2; exact (hR2.later b2).q⟩)
  have k1' := k1.later (h2.trans b2)
  obtain ⟨x0, x1, x2, _, _, _, _⟩ := k1'
  obtain ⟨y0, y1, y2, _, _, _, _⟩ := k2
  rw [hW2] at x0 x1 x2 y0 y1 y2
  clear hW2 hR2
  have B2 : Bl w W2 := B1.trans (h2.trans b2)
  have MU := hideP (mMulF n 1 m p1 n c1 (fun i _ => k i) p2 m c2 (fun _ j => h j) N W2 (X1.out.later (h2.trans b2)) X2.out HN.out)
  go_wp2_with fail
  rw [← HW2.out]
  refine MU.out.mono ?_
  rintro e w3 ⟨p3, c3, rfl, ⟨hR, _, hF⟩, h3⟩
  obtain ⟨W4, hW4⟩ : ∃ W4, W4 = w3.alloc (.cells #[.int .i64 n, .int .i64 m, .slice p3 N c3] 29) := ⟨_, rfl⟩
  have b4 : Bl w3 W4 := by rw [hW4]; exact (Bl.refl _).alloc _
  have k4 := MBox.new w3 n m p3 N c3 29
  rw [← hW4] at k4
  have B4 : Bl w W4 := B2.trans (h3.trans b4)
  have HR := hideP (show Mx 3 cellsF W4 n m p3 N c3 (outerJ kdF k h) from Mx.later hR b4)
  have HF := hideP (show Fresh (w.heap.size + 1) (.slice p3 N c3) from fresh_le hF (by have := ((h1.trans b1).trans (h2.trans b2)).size; omega))
  have kz := z0.later (((h1.trans b1).trans (h2.trans b2)).trans (h3.trans b4))
  clear x0 x1 x2 y0 y1 y2
  obtain ⟨x0, x1, x2, _, _, _, _⟩ := k4
  obtain ⟨c0, c1', c2', f0, f1, f2, lt2⟩ := kz
  have HW4 := hideP hW4
  rw [hW4] at x0 x1 x2 c0 c1' c2' f0 f1 f2
  clear hW4 hR hF X1 X2 MU
  go_wp2_with fail
  rw [← HW4.out]
  rw [← HW4.out] at x0 x1 x2 c0 c1' c2' f0 f1 f2
  go_wp2
  simp [bodyPost, results, Try.results31, go_sem, c0, c1', c2']
  exact ⟨p3, c3, ⟨rfl, rfl⟩, ⟨mx_put7 HR.out HF.out _ _ _, fresh_le HF.out (by omega)⟩, Bl.put3 B4 (Nat.le_refl _) _ _ _⟩
set_option maxRecDepth 100000 in
set_option maxHeartbeats 2000000 in
theorem jRestF (n N : Nat) (pk : Option Addr) (ck : Nat) (k : Nat → Fr) (ph : Option Addr) (ch : Nat) (h : Nat → Fr) (w : World) (hk : Rq 3 cellsF w (.slice pk n ck) (linJ n k)) (hh : Rq 3 cellsF w (.slice ph n ch) (linJ n h)) (hd : Dim n n) (hN : N = n * n) :
    Calls Try.prog 30 #[.slice pk n ck, .slice ph n ch] w fun e w' => ∃ q c, e = .returned (mV n n q N c) ∧ (Mx 3 cellsF w' n n q N c (restJ kdF (fun i j => wholeF (unitI i j)) k h) ∧ Fresh w.heap.size (.slice q N c)) ∧ Bl w w' := by
  have fm : Try.prog.follows .mixedOrders = true := by kernel_rfl
  have egO := enters_of Try.func31 (by kernel_rfl) rfl
  have egS := enters_of Try.func55 (by kernel_rfl) rfl
  obtain ⟨W, hW⟩ : ∃ W, W = w.alloc (.cells #[.int .i64 0, .int .i64 0, .slice none 0 0] 29) := ⟨_, rfl⟩
  have b0 : Bl w W := by rw [hW]; exact (Bl.refl _).alloc _
  have z0 : MBox W w.heap.size 0 0 none 0 0 := by rw [hW]; exact MBox.new w _ _ _ _ _ _
  have hs : W.heap.size = w.heap.size + 1 := by rw [hW]; simp
  have HK := hideP hk
  have HH := hideP hh
  have HD := hideP hd
  have HN := hideP hN
  have HW := hideP hW
  have UN := hideP (mUnitF n N hd.r1 hd.r2 hN W)
  clear hW hk hh hd hN
  go_enter Try.func30, Try.ntmps30
  go_wp2_with fail
  rw [← HW.out]
  refine UN.out.mono ?_
  rintro e w1 ⟨p1, c1, rfl, h1x, h1⟩
  have k1 := MBox.new w1 n n p1 N c1 29
  obtain ⟨W2, hW2⟩ : ∃ W2, W2 = w1.alloc (.cells #[.int .i64 n, .int .i64 n, .slice p1 N c1] 29) := ⟨_, rfl⟩
  have b2 : Bl w1 W2 := by rw [hW2]; exact (Bl.refl _).alloc _
  rw [← hW2] at k1
  have hs2 : w.heap.size + 1 ≤ W2.heap.size := by have := (h1.trans b2).size; omega
  have HW2 := hideP hW2
  have B2 : Bl w W2 := b0.trans (h1.trans b2)
  have kz := z0.later (h1.trans b2)
  have H1 := hideP (Mx.later h1x b2)
  clear hW2 h1x UN
  go_wp2_with fail
  rw [← HW2.out]
  refine (wpIn_wide (n := 8)).1 (region_q fm [some 16, some 17, some 18, some 19, some 20, some 15, some 21, some 22, some 7, none, some 8] (fun j => j == 7 || j == 10) 9 (by kernel_rfl) (by rfl)
    (fun j v u => match j with | 0 => v = mV n n p1 N c1 | 1 => v = .slice pk n ck | 2 => v = .slice ph n ch | 3 => ∃ q c, v = mV n n q N c ∧ Mx 3 cellsF u n n q N c (outerJ kdF k h) | 4 => ∃ q c, v = .tuple #[mV n n q N c, .bool true] ∧ Mx 3 cellsF u n n q N c (restJ kdF (fun i j => wholeF (unitI i j)) k h) ∧ Fresh W2.heap.size (.slice q N c) | 5 => ∃ q c, v = .tuple #[mV n n q N c, .bool true] ∧ Mx 3 cellsF u n n q N c (restJ kdF (fun i j => wholeF (unitI i j)) k h) ∧ Fresh W2.heap.size (.slice q N c) | 6 => ∃ q c, v = mV n n q N c ∧ Mx 3 cellsF u n n q N c (restJ kdF (fun i j => wholeF (unitI i j)) k h) ∧ Fresh W2.heap.size (.slice q N c) | 7 => v = .bool true | 8 => ∃ b, v = .pointer (some ⟨b, 0, none⟩) ∧ W2.heap.size ≤ b ∧ MBox u b 0 0 none 0 0 ∧ NoB u b | 10 => v = .bool true | _ => False)
    (by
        intro j v u u' hb h
        split at h
        · exact h
        · exact h
        · exact h
        · obtain ⟨q, c, e, h1⟩ := h; exact ⟨q, c, e, Mx.later h1 hb⟩
        · obtain ⟨q, c, e, h1, h2⟩ := h; exact ⟨q, c, e, Mx.later h1 hb, h2⟩
        · obtain ⟨q, c, e, h1, h2⟩ := h; exact ⟨q, c, e, Mx.later h1 hb, h2⟩
        · obtain ⟨q, c, e, h1, h2⟩ := h; exact ⟨q, c, e, Mx.later h1 hb, h2⟩
        · exact h
        · obtain ⟨b, e, h1, h2, h3⟩ := h; exact ⟨b, e, h1, h2.later hb, h3.later hb h2.lt⟩
        · exact h
        · exact h) (fun vs u0 u => ∃ b q c, vs 8 = .pointer (some ⟨b, 0, none⟩) ∧ MBox u b n n q N c ∧ Mx 3 cellsF u n n q N c (restJ kdF (fun i j => wholeF (unitI i j)) k h) ∧ Fresh W2.heap.size (.slice q N c) ∧ MBox u w.heap.size 0 0 none 0 0 ∧ Bl w u) ?step ?still ?store ?fin)
  case step =>
    intro j o t act u ho hdt hpu hsz hu hfr hin
    have hj : j < 11 := (Array.getElem?_eq_some_iff.1 ho).1
    obtain ⟨y0, y1, y2, _, _, _, _⟩ := k1.later hu
    rcases (by omega : j = 0 ∨ j = 1 ∨ j = 2 ∨ j = 3 ∨ j = 4 ∨ j = 5 ∨ j = 6 ∨ j = 7 ∨ j = 8 ∨ j = 9 ∨ j = 10) with rfl | rfl | rfl | rfl | rfl | rfl | rfl | rfl | rfl | rfl | rfl
    · simp only [List.getElem?_toArray, List.getElem?_cons_zero, List.getElem?_cons_succ, Option.some.injEq] at ho
      subst ho
      obtain rfl := Option.some.inj hdt
      have i5 : act.eval (.tmp (5 : Nat)) = .pointer (some ⟨w1.heap.size, 0, none⟩) := hfr 5 (by decide)
      exact plain_wp (by intro c h; cases h) (fun _ _ => trivial) (by simp only [execOp, i5, evalC, evalF, evalG]; simp [go_sem, y0, y1, y2]) ⟨_, rfl, rfl, Bl.refl _⟩
    · simp only [List.getElem?_toArray, List.getElem?_cons_zero, List.getElem?_cons_succ, Option.some.injEq] at ho
      subst ho
      obtain rfl := Option.some.inj hdt
      have i0 : act.eval (.tmp (0 : Nat)) = .slice pk n ck := hfr 0 (by decide)
      exact plain_wp (by intro c h; cases h) (fun _ _ => trivial) (by simp only [execOp, i0, evalC, evalF, evalG]; simp [go_sem]) ⟨_, rfl, rfl, Bl.refl _⟩
    · simp only [List.getElem?_toArray, List.getElem?_cons_zero, List.getElem?_cons_succ, Option.some.injEq] at ho
      subst ho
      obtain rfl := Option.some.inj hdt
      have i1 : act.eval (.tmp (1 : Nat)) = .slice ph n ch := hfr 1 (by decide)
      exact plain_wp (by intro c h; cases h) (fun _ _ => trivial) (by simp only [execOp, i1, evalC, evalF, evalG]; simp [go_sem]) ⟨_, rfl, rfl, Bl.refl _⟩
    · simp only [List.getElem?_toArray, List.getElem?_cons_zero, List.getElem?_cons_succ, Option.some.injEq] at ho
      subst ho
      obtain rfl := Option.some.inj hdt
      have i17 : (act.eval (.tmp (17 : Nat))) = .slice pk n ck := hin ⟨1, .data⟩ (by simp) rfl 17 rfl
      have i18 : (act.eval (.tmp (18 : Nat))) = .slice ph n ch := hin ⟨2, .data⟩ (by simp) rfl 18 rfl
      refine enter_wp 31 #[.slice pk n ck, .slice ph n ch] (by intro c h; cases h) (fun _ _ => trivial) (by simp only [execOp, evalC, evalF, evalG, resolve, i17, i18, List.map_toArray, List.map_cons, List.map_nil]; simp [invoke, egO, Result.andThen, go_sem]) (by intro h; cases h) (callsIn_wide.2 (jOuterF n n N pk ck k ph ch h u (HK.out.later (B2.trans hu)) (HH.out.later (B2.trans hu)) HD.out HN.out)) ?_
      rintro e w' ⟨q, c, rfl, ⟨hM, _⟩, hb⟩
      exact ⟨_, rfl, _, rfl, ⟨q, c, rfl, hM⟩, hb⟩
    · simp only [List.getElem?_toArray, List.getElem?_cons_zero, List.getElem?_cons_succ, Option.some.injEq] at ho
      subst ho
      obtain rfl := Option.some.inj hdt
      have i16 : (act.eval (.tmp (16 : Nat))) = mV n n p1 N c1 := hin ⟨0, .data⟩ (by simp) rfl 16 rfl
      have i19 : ∃ q c, (act.eval (.tmp (19 : Nat))) = mV n n q N c ∧ Mx 3 cellsF u n n q N c (outerJ kdF k h) := hin ⟨3, .data⟩ (by simp) rfl 19 rfl
      obtain ⟨q0, c0', e1, hq⟩ := i19
      refine enter_wp 55 #[mV n n p1 N c1, mV n n q0 N c0'] (by intro c h; cases h) (fun _ _ => trivial) (by simp only [execOp, evalC, evalF, evalG, resolve, i16, e1, List.map_toArray, List.map_cons, List.map_nil]; simp [invoke, egS, Result.andThen, go_sem]) (by intro h; cases h) (callsIn_wide.2 (mSubF' n n p1 q0 N c1 c0' _ _ u (H1.out.later hu) hq)) ?_
      rintro e w' ⟨q, c, rfl, ⟨hM, hF⟩, hb⟩
      exact ⟨_, rfl, _, rfl, ⟨q, c, rfl, hM, fresh_le hF hu.size⟩, hb⟩
    · simp only [List.getElem?_toArray, List.getElem?_cons_zero, List.getElem?_cons_succ, Option.some.injEq] at ho
      subst ho
      obtain rfl := Option.some.inj hdt
      have i20 : ∃ q c, (act.eval (.tmp (20 : Nat))) = .tuple #[mV n n q N c, .bool true] ∧ Mx 3 cellsF u n n q N c (restJ kdF (fun i j => wholeF (unitI i j)) k h) ∧ Fresh W2.heap.size (.slice q N c) := hin ⟨4, .data⟩ (by simp) rfl 20 rfl
      obtain ⟨q0, c0', e1, hq⟩ := i20
      exact plain_wp (by intro c h; cases h) (fun _ _ => trivial) (by simp only [execOp, e1]; simp [go_sem]) ⟨_, rfl, ⟨q0, c0', rfl, hq⟩, Bl.refl _⟩
    · simp only [List.getElem?_toArray, List.getElem?_cons_zero, List.getElem?_cons_succ, Option.some.injEq] at ho
      subst ho
      obtain rfl := Option.some.inj hdt
      have i15 : ∃ q c, (act.eval (.tmp (15 : Nat))) = .tuple #[mV n n q N c, .bool true] ∧ Mx 3 cellsF u n n q N c (restJ kdF (fun i j => wholeF (unitI i j)) k h) ∧ Fresh W2.heap.size (.slice q N c) := hin ⟨5, .data⟩ (by simp) rfl 15 rfl
      obtain ⟨q0, c0', e1, hq⟩ := i15
      exact plain_wp (by intro c h; cases h) (fun _ _ => trivial) (by simp only [execOp, e1]; simp [go_sem]) ⟨_, rfl, ⟨q0, c0', rfl, hq⟩, Bl.refl _⟩
    · cases hpu
    · simp only [List.getElem?_toArray, List.getElem?_cons_zero, List.getElem?_cons_succ, Option.some.injEq] at ho
      subst ho
      obtain rfl := Option.some.inj hdt
      exact plain_wp (by intro c h; cases h) (fun _ _ => trivial) (w' := u.alloc (.cells #[.int .i64 0, .int .i64 0, .slice none 0 0] 29)) (v := .pointer (some ⟨u.heap.size, 0, none⟩)) (by simp only [execOp]; simp [go_sem]) ⟨_, rfl, ⟨u.heap.size, rfl, hu.size, MBox.new u 0 0 none 0 0 _, noB_new u _⟩, (Bl.refl _).alloc _⟩
    · simp only [List.getElem?_toArray, List.getElem?_cons_zero, List.getElem?_cons_succ, Option.some.injEq] at ho
      subst ho
      cases hdt
    · cases hpu
  case still =>
    intro j o t act u0 u ho hdt hpu hsz hu hfr hin
    have hj : j < 11 := (Array.getElem?_eq_some_iff.1 ho).1
    obtain ⟨y0, y1, y2, _, _, _, _⟩ := k1.later hu
    rcases (by omega : j = 0 ∨ j = 1 ∨ j = 2 ∨ j = 3 ∨ j = 4 ∨ j = 5 ∨ j = 6 ∨ j = 7 ∨ j = 8 ∨ j = 9 ∨ j = 10) with rfl | rfl | rfl | rfl | rfl | rfl | rfl | rfl | rfl | rfl | rfl
    · cases hpu
    · cases hpu
    · cases hpu
    · cases hpu
    · cases hpu
    · cases hpu
    · cases hpu
    · simp only [List.getElem?_toArray, List.getElem?_cons_zero, List.getElem?_cons_succ, Option.some.injEq] at ho
      subst ho
      obtain rfl := Option.some.inj hdt
      have i15 : ∃ q c, (act.eval (.tmp (15 : Nat))) = .tuple #[mV n n q N c, .bool true] ∧ Mx 3 cellsF u0 n n q N c (restJ kdF (fun i j => wholeF (unitI i j)) k h) ∧ Fresh W2.heap.size (.slice q N c) := hin ⟨5, .data⟩ (by simp) rfl 15 rfl
      obtain ⟨q0, c0', e1, hq⟩ := i15
      exact plain_wp (by intro c h; cases h) (fun _ _ => trivial) (by simp only [execOp, e1]; simp [go_sem]) ⟨_, rfl, rfl, rfl⟩
    · cases hpu
    · cases hpu
    · simp only [List.getElem?_toArray, List.getElem?_cons_zero, List.getElem?_cons_succ, Option.some.injEq] at ho
      subst ho
      obtain rfl := Option.some.inj hdt
      have i22 : (act.eval (.tmp (22 : Nat))) = .bool true := hin ⟨7, .data⟩ (by simp) rfl 22 rfl
      exact plain_wp (by intro c h; cases h) (fun _ _ => trivial) (by simp only [execOp, i22, evalC, evalF, evalG]; simp [go_sem]) ⟨_, rfl, rfl, rfl⟩
  case store =>
    intro o act u vs ho hsz hu hfr hin
    simp only [List.getElem?_toArray, List.getElem?_cons_zero, List.getElem?_cons_succ, Option.some.injEq] at ho
    subst ho
    obtain ⟨i7, k7⟩ : act.eval (.tmp (7 : Nat)) = vs 8 ∧ (∃ b, (vs 8) = .pointer (some ⟨b, 0, none⟩) ∧ W2.heap.size ≤ b ∧ MBox u b 0 0 none 0 0 ∧ NoB u b) := hin 8 7 rfl rfl
    obtain ⟨i21, k21⟩ : act.eval (.tmp (21 : Nat)) = vs 6 ∧ (∃ q c, (vs 6) = mV n n q N c ∧ Mx 3 cellsF u n n q N c (restJ kdF (fun i j => wholeF (unitI i j)) k h) ∧ Fresh W2.heap.size (.slice q N c)) := hin 6 21 rfl rfl
    obtain ⟨b, e1, hb, bx, nb⟩ := k7
    obtain ⟨q0, c0', e2, hq, hf⟩ := k21
    rw [e1] at i7
    rw [e2] at i21
    obtain ⟨c0, c1', c2, f0, f1, f2, ltb⟩ := id bx
    exact skip_wp (by intro c h; cases h) (fun _ _ => trivial) (by simp only [execOp, i7, i21]; simp [go_sem, c0, c1', c2, f0, f1, f2]) ⟨rfl, b, q0, c0', e1, bx.fill _ _ _ _ _, mx_ne7 hq (noB_mx boolF hq nb) _ _ _, hf, mbox_set7 (mbox_set7 (mbox_set7 (kz.later hu) (by omega) _ _) (by omega) _ _) (by omega) _ _, Bl.put3 (B2.trans hu) (by omega) _ _ _⟩
  case fin =>
    intro vs vb u0 u hu hin hps
    have a0 := hin 0 16 rfl
    have a1 := hin 1 17 rfl
    have a2 := hin 2 18 rfl
    have a3 := hin 3 19 rfl
    have a4 := hin 4 20 rfl
    have a5 := hin 5 15 rfl
    have a6 := hin 6 21 rfl
    have a7 := hin 7 22 rfl
    have a8 := hin 8 7 rfl
    have a10 := hin 10 8 rfl
    simp only [putL, Act.put, List.setIfInBounds_toArray, List.set_cons_zero, List.set_cons_succ, Nat.zero_add, Nat.reduceAdd, Nat.reduceBEq, Bool.or_false, Bool.or_true, Bool.false_or, Bool.true_or, Bool.false_eq_true, if_false, if_true, reduceIte, Nat.reduceEqDiff, beq_self_eq_true, Bool.or_self] at a0 a1 a2 a3 a4 a5 a6 a7 a8 a10 ⊢
    rw [if_pos (by decide)] at hps
    simp only [a0, a1, a2, a7, a10]
    obtain ⟨b, q, c, e7, kx, hM, hF, kz', hbw⟩ := hps
    simp only [e7]
    clear a3 a4 a5 a6 a8
    have HR := hideP hM
    have HF := hideP (show Fresh (w.heap.size + 1) (.slice q N c) from fresh_le hF (by omega))
    clear hM hF
    obtain ⟨x0, x1, x2, _, _, _, _⟩ := kx
    obtain ⟨c0, c1', c2, f0, f1, f2, lt2⟩ := kz'
    go_wp2
    simp [bodyPost, results, Try.results30, go_sem, c0, c1', c2]
    exact ⟨q, c, ⟨rfl, rfl⟩, ⟨mx_put7 HR.out HF.out _ _ _, fresh_le HF.out (by omega)⟩, Bl.put3 hbw (by omega) _ _ _⟩
end Go.Proofs.Ythnadgbloamlaaa

/- Rows that lie in blocks of their own and are changed in place: copies of elements of several cells, a table of rows in memory (layer 8). -/
namespace Go.Proofs.Ythnadgbloamlaaa
open Go.RowKit
set_option linter.unusedSimpArgs false
set_option linter.unusedVariables false

/-- A row in a block of its own, at or beyond lo, of which no cell is frozen. -/
def RwZ {α : Type} (s : Nat) (c : α → List Value) (w : World) (lo : Nat) (v : Value) (xs : List α) : Prop :=
  ∃ b cap, v = .slice (some ⟨b, 0, none⟩) xs.length cap ∧ xs.length ≤ cap ∧ lo ≤ b ∧ b < w.heap.size ∧ (∀ o, w.frozen? ⟨b, o, none⟩ = false) ∧ ∀ j x, xs[j]? = some x → ∀ k u, (c x)[k]? = some u → w.cell? ⟨b, j * s + k, none⟩ = some u
theorem RwZ.of_own {α : Type} {s : Nat} {c : α → List Value} (hs : ∀ x, (c x).length = s) {w : World} {B : Nat} {e : TypeId} {v : Value} {xs : List α}
    (h : w.ownsRow B e s v xs.length (xs.flatMap c)) (hne : xs ≠ []) : RwZ s c w B v xs := by
  have hlt := h.lt
  have R := Rw.of_own hs h
  rcases R with ⟨rfl, e0⟩ | ⟨b, o, cap, rfl, hc, hb, hx⟩
  · exact absurd e0 hne
  · have h2 := h.2
    rcases h2 with ⟨e1, _⟩ | ⟨g, cap', cur, e1, hB, _⟩
    · cases e1
    · cases e1
      have h3 := h
      exact ⟨b, cap, rfl, hc, hB, hb, fun o => h3.frozenAt o, fun j x hj k u hu => by have := hx j x hj k u hu; rwa [Nat.zero_add] at this⟩
theorem RwZ.rw {α : Type} {s : Nat} {c : α → List Value} {w : World} {lo : Nat} {v : Value} {xs : List α} (h : RwZ s c w lo v xs) : Rw s c w v xs := by
  obtain ⟨b, cap, e, hc, _, hb, _, hx⟩ := h
  exact .inr ⟨b, 0, cap, e, hc, hb, fun j x hj k u hu => by have := hx j x hj k u hu; rwa [Nat.zero_add]⟩
theorem RwZ.later {α : Type} {s : Nat} {c : α → List Value} {w w' : World} {lo : Nat} {v : Value} {xs : List α} (h : RwZ s c w lo v xs) (k : Bl w w') : RwZ s c w' lo v xs := by
  obtain ⟨b, cap, e, hc, hlo, hb, hf, hx⟩ := h
  exact ⟨b, cap, e, hc, hlo, Nat.lt_of_lt_of_le hb (Below.size k), fun o => (bl_froz k _ _ hb).trans (hf o), fun j x hj i u hu => (bl_cell k _ _ hb).trans (hx j x hj i u hu)⟩
theorem RwZ.fresh {α : Type} {s : Nat} {c : α → List Value} {w : World} {lo : Nat} {v : Value} {xs : List α} (h : RwZ s c w lo v xs) : Fresh lo v := by
  obtain ⟨b, cap, rfl, _, hlo, _⟩ := h
  intro g hg; cases hg; exact hlo
/-- But for the blocks of S nothing has turned. -/
structure But (S : Nat → Prop) (w w' : World) : Prop where
  os : w'.os = w.os
  tape : w'.tape = w.tape
  output : w'.output = w.output
  size : w.heap.size ≤ w'.heap.size
  block : ∀ k, k < w.heap.size → ¬ S k → w'.heap[k]? = w.heap[k]?
theorem But.of_bl {S : Nat → Prop} {w w' : World} (h : Bl w w') : But S w w' := ⟨Below.os h, Below.tape h, Below.output h, Below.size h, fun k hk _ => Below.block h k hk⟩
theorem But.refl (S : Nat → Prop) (w : World) : But S w w := But.of_bl (Bl.refl w)
theorem But.trans {S : Nat → Prop} {a b c : World} (h : But S a b) (k : But S b c) : But S a c :=
  ⟨k.os.trans h.os, k.tape.trans h.tape, k.output.trans h.output, Nat.le_trans h.size k.size, fun i hi hs => (k.block i (Nat.lt_of_lt_of_le hi h.size) hs).trans (h.block i hi hs)⟩
theorem But.mono {S T : Nat → Prop} {a b : World} (h : But S a b) (k : ∀ i, S i → T i) : But T a b := ⟨h.os, h.tape, h.output, h.size, fun i hi hs => h.block i hi fun e => hs (k i e)⟩
theorem But.cell {S : Nat → Prop} {a b : World} (h : But S a b) (g o : Nat) (hg : g < a.heap.size) (hs : ¬ S g) : b.cell? ⟨g, o, none⟩ = a.cell? ⟨g, o, none⟩ := World.cell?_of_block (a := ⟨g, o, none⟩) (h.block g hg hs)
theorem But.froz {S : Nat → Prop} {a b : World} (h : But S a b) (g o : Nat) (hg : g < a.heap.size) (hs : ¬ S g) : b.frozen? ⟨g, o, none⟩ = a.frozen? ⟨g, o, none⟩ := World.frozen?_of_block (a := ⟨g, o, none⟩) (h.block g hg hs)
theorem But.bl {S : Nat → Prop} {a b c : World} (h : But S b c) (k : Bl a b) (hs : ∀ i, S i → a.heap.size ≤ i) : Bl a c :=
  ⟨h.os.trans (Below.os k), h.tape.trans (Below.tape k), h.output.trans (Below.output k), Nat.le_trans (Below.size k) h.size, fun i hi => (h.block i (Nat.lt_of_lt_of_le hi (Below.size k)) fun e => by have := hs i e; omega).trans (Below.block k i hi)⟩
theorem Rw.but {α : Type} {s : Nat} {c : α → List Value} {w w' : World} {v : Value} {xs : List α} {S : Nat → Prop} (h : Rw s c w v xs) (k : But S w w') (hs : ∀ g, v.ownBlock = some g → ¬ S g) : Rw s c w' v xs := by
  rcases h with h | ⟨b, o, cap, rfl, hc, hb, hx⟩
  · exact .inl h
  · exact .inr ⟨b, o, cap, rfl, hc, Nat.lt_of_lt_of_le hb k.size, fun j x hj i u hu => (k.cell _ _ hb (hs b rfl)).trans (hx j x hj i u hu)⟩
theorem RwZ.but {α : Type} {s : Nat} {c : α → List Value} {w w' : World} {lo : Nat} {v : Value} {xs : List α} {S : Nat → Prop} (h : RwZ s c w lo v xs) (k : But S w w') (hs : ∀ g, v.ownBlock = some g → ¬ S g) : RwZ s c w' lo v xs := by
  obtain ⟨b, cap, rfl, hc, hlo, hb, hf, hx⟩ := h
  exact ⟨b, cap, rfl, hc, hlo, Nat.lt_of_lt_of_le hb k.size, fun o => (k.froz _ _ hb (hs b rfl)).trans (hf o), fun j x hj i u hu => (k.cell _ _ hb (hs b rfl)).trans (hx j x hj i u hu)⟩
/-- Cells set one behind the other. -/
theorem but_setCells {S : Nat → Prop} {b : Nat} (hb : S b) : ∀ (vs : List Value) (o : Nat) (w0 w : World), But S w0 w → But S w0 (w.setCells b o vs)
  | [], _, _, _, h => h
  | v :: r, o, w0, w, h => by
    show But S w0 ((w.setCell ⟨b, o, none⟩ v).setCells b (o + 1) r)
    refine but_setCells hb r (o + 1) w0 _ ⟨h.os, h.tape, h.output, by simpa using h.size, fun k hk hs => ?_⟩
    exact (Below.heap_setCell _ _ _ k (show k ≠ b from fun e => hs (e ▸ hb))).trans (h.block k hk hs)
theorem setCells_size (b : Nat) : ∀ (vs : List Value) (o : Nat) (w : World), (w.setCells b o vs).heap.size = w.heap.size
  | [], _, _ => rfl
  | v :: r, o, w => by show ((w.setCell ⟨b, o, none⟩ v).setCells b (o + 1) r).heap.size = _; rw [setCells_size b r]; simp
/-- copy of n elements of s cells each. -/
theorem run_copy_s {P : Program} (w : World) (dT sT ty elem : TypeId) (s b o dLen dCap : Nat) (a : Addr) (sLen sCap n : Nat) (cs : List Value)
    (hu : P.underlying dT = some (.slice elem)) (hs : (P.info? elem).map (·.size) = some s) (hn : Nat.min sLen dLen = n) (hl : cs.length = n * s)
    (hsrc : ∀ j v, cs[j]? = some v → w.cell? (a.add j) = some v) (hc : ∀ j, j < cs.length → (w.cell? ⟨b, o + j, none⟩).isSome = true) (hf : ∀ j, j < cs.length → w.frozen? ⟨b, o + j, none⟩ = false) (h1 : ∀ v ∈ cs, v.oneCell' = true) :
    (Builtin.copy_ #[dT, sT] ty #[.slice (some ⟨b, o, none⟩) dLen dCap, .slice (some a) sLen sCap]).run P w = .ok (goInt n) (w.setCells b o cs) := by
  have hld := run_loadCells_list (P := P) w a cs hsrc
  have hst := run_storeCells_cells (P := P) b o cs 0 w (by simpa using hc) (by simpa using hf) h1
  cases hq : P.info? elem with
  | none => simp [hq] at hs
  | some i =>
    have hi : i.size = s := by simpa [hq] using hs
    rw [hl] at hld
    simp [Builtin.copy_, run_underlying hu, Builtin.lenOf, Builtin.firstCells, sizeOf, typeInfo, hq, hi, hn, hld, hst]
theorem wpList_copy_s {P : Program} {w : World} {ops : Array Oper} {rest : List Oper} {o : Oper} {a : Act} {Q : Exit → Act → World → Prop} (hgd : o.guard = none) (d sr : Operand) (dT sT : TypeId)
    (ho : o.op = .call { callee := .builtin .copy, args := #[d, sr], argTypes := #[dT, sT] }) (elem : TypeId) (hu : P.underlying dT = some (.slice elem)) (s : Nat) (hsz : (P.info? elem).map (·.size) = some s)
    (g off dLen dCap : Nat) (ad : Addr) (sLen sCap : Nat) (hd : a.eval d = .slice (some ⟨g, off, none⟩) dLen dCap) (hs : a.eval sr = .slice (some ad) sLen sCap)
    (n : Nat) (cs : List Value) (hn : Nat.min sLen dLen = n) (hl : cs.length = n * s)
    (hsrc : ∀ j v, cs[j]? = some v → w.cell? (ad.add j) = some v) (hc : ∀ j, j < cs.length → (w.cell? ⟨g, off + j, none⟩).isSome = true) (hf : ∀ j, j < cs.length → w.frozen? ⟨g, off + j, none⟩ = false) (h1 : ∀ v ∈ cs, v.oneCell' = true)
    (h : ∀ w', Hid (w' = w.setCells g off cs) → wpList P ops Q rest (a.put o.dst (goInt n)) w') : wpList P ops Q (o :: rest) a w := by
  refine wpList_plain hgd fun K hK => ?_
  have hrun := run_copy_s (P := P) w dT sT o.type elem s g off dLen dCap ad sLen sCap n cs hu hsz hn hl hsrc hc hf h1
  unfold Oper.wp
  simp [execOp, ho, resolve, invoke, builtin, hd, hs, hrun, Result.andThen]
  exact hK _ _ (h _ rfl)
/-- n rows of m numbers each, in blocks of their own, none of them that of the table. -/
structure Tbl {α : Type} (s : Nat) (c : α → List Value) (w : World) (H : Nat) (B cp : Nat → Nat) (n m : Nat) (a : Nat → Nat → α) : Prop where
  hdr : ∀ i, i < n → w.cell? ⟨H, i, none⟩ = some (.slice (some ⟨B i, 0, none⟩) m (cp i))
  hlt : H < w.heap.size
  blt : ∀ i, i < n → B i < w.heap.size
  inj : ∀ i j, i < n → j < n → B i = B j → i = j
  hne : ∀ i, i < n → B i ≠ H
  cap : ∀ i, i < n → m ≤ cp i
  cells : ∀ i j, i < n → j < m → ∀ k u, (c (a i j))[k]? = some u → w.cell? ⟨B i, j * s + k, none⟩ = some u
  froz : ∀ i, i < n → ∀ o, w.frozen? ⟨B i, o, none⟩ = false
/-- The blocks of its rows. -/
def InT (B : Nat → Nat) (n : Nat) (g : Nat) : Prop := ∃ i, i < n ∧ g = B i
theorem Tbl.later {α : Type} {s : Nat} {c : α → List Value} {w w' : World} {H : Nat} {B cp : Nat → Nat} {n m : Nat} {a : Nat → Nat → α} (h : Tbl s c w H B cp n m a) (k : Bl w w') : Tbl s c w' H B cp n m a :=
  ⟨fun i hi => (bl_cell k _ _ h.hlt).trans (h.hdr i hi), Nat.lt_of_lt_of_le h.hlt (Below.size k), fun i hi => Nat.lt_of_lt_of_le (h.blt i hi) (Below.size k), h.inj, h.hne, h.cap,
    fun i j hi hj x u hu => (bl_cell k _ _ (h.blt i hi)).trans (h.cells i j hi hj x u hu), fun i hi o => (bl_froz k _ _ (h.blt i hi)).trans (h.froz i hi o)⟩
theorem Tbl.congr {α : Type} {s : Nat} {c : α → List Value} {w : World} {H : Nat} {B cp : Nat → Nat} {n m : Nat} {a b : Nat → Nat → α} (h : Tbl s c w H B cp n m a) (e : ∀ i j, i < n → j < m → a i j = b i j) : Tbl s c w H B cp n m b :=
  { h with cells := fun i j hi hj => by rw [← e i j hi hj]; exact h.cells i j hi hj }
/-- A part of a row. -/
theorem Tbl.part {α : Type} {s : Nat} {c : α → List Value} {w : World} {H : Nat} {B cp : Nat → Nat} {n m : Nat} {a : Nat → Nat → α} (h : Tbl s c w H B cp n m a) {i k : Nat} (hi : i < n) (hk : k ≤ m) :
    Rq s c w (.slice (some ⟨B i, k * s, none⟩) (m - k) (cp i - k)) (tailH m k (a i)) := by
  have hc := h.cap i hi
  refine .inr ⟨B i, k * s, cp i - k, by simp [tailH], by simp [tailH]; omega, h.blt i hi, fun j x hj q u hu => ?_⟩
  unfold tailH at hj
  have hjl : j < m - k := by have := (List.getElem?_eq_some_iff.1 hj).1; simpa using this
  simp [hjl] at hj
  subst hj
  have := h.cells i (k + j) hi (by omega) q u hu
  rwa [Nat.add_mul] at this
theorem Tbl.first {α : Type} {s : Nat} {c : α → List Value} {w : World} {H : Nat} {B cp : Nat → Nat} {n m : Nat} {a : Nat → Nat → α} (h : Tbl s c w H B cp n m a) {i q : Nat} (hi : i < n) (hq : q ≤ m) :
    Rq s c w (.slice (some ⟨B i, 0, none⟩) q (cp i)) (rowM q a i) := by
  have hc := h.cap i hi
  refine .inr ⟨B i, 0, cp i, by simp [rowM_len], by simp [rowM_len]; omega, h.blt i hi, fun j x hj t u hu => ?_⟩
  have hjl : j < q := by have := (List.getElem?_eq_some_iff.1 hj).1; rwa [rowM_len] at this
  rw [rowM_get a i hjl] at hj
  cases hj
  have := h.cells i j hi (by omega) t u hu
  rwa [Nat.zero_add]
theorem cell_set_some {w : World} {b : Nat} {vs : List Value} {o : Nat} (hs : ∀ j, j < vs.length → (w.cell? ⟨b, o + j, none⟩).isSome = true) {q : Nat} (hq : o ≤ q) (hq2 : q < o + vs.length) {u : Value} (hu : vs[q - o]? = some u) : (w.setCells b o vs).cell? ⟨b, q, none⟩ = some u := by
  have h := World.cell?_setCells_in b vs o w hs (q - o) (by omega)
  rw [show o + (q - o) = q by omega] at h
  rw [h]
  rw [List.getElem?_eq_getElem (by omega)] at hu
  exact hu
theorem flat_get {α : Type} {s : Nat} {c : α → List Value} (hs : ∀ x, (c x).length = s) : ∀ (xs : List α) (i k : Nat) (x : α), xs[i]? = some x → k < s → (xs.flatMap c)[i * s + k]? = (c x)[k]?
  | [], i, k, x, h, _ => by simp at h
  | y :: ys, 0, k, x, h, hk => by
    simp at h
    subst h
    rw [List.flatMap_cons, List.getElem?_append_left (by rw [hs]; omega), Nat.zero_mul, Nat.zero_add]
  | y :: ys, i + 1, k, x, h, hk => by
    rw [List.flatMap_cons, List.getElem?_append_right (by rw [hs, Nat.add_mul]; omega), hs, show (i + 1) * s + k - s = i * s + k by rw [Nat.add_mul]; omega]
    exact flat_get hs ys i k x (by simpa using h) hk
/-- A part of a row set anew. -/
theorem Tbl.put {α : Type} {s : Nat} {c : α → List Value} (hs : ∀ x, (c x).length = s) {w : World} {H : Nat} {B cp : Nat → Nat} {n m : Nat} {a b : Nat → Nat → α} (h : Tbl s c w H B cp n m a) {i k : Nat} {xs : List α} (hi : i < n) (hk : k + xs.length ≤ m)
    (e1 : ∀ j, j < xs.length → xs[j]? = some (b i (k + j))) (e2 : ∀ i' j, i' < n → j < m → ¬ (i' = i ∧ k ≤ j ∧ j < k + xs.length) → b i' j = a i' j) :
    Tbl s c (w.setCells (B i) (k * s) (xs.flatMap c)) H B cp n m b ∧ But (InT B n) w (w.setCells (B i) (k * s) (xs.flatMap c)) := by
  have hb : But (InT B n) w (w.setCells (B i) (k * s) (xs.flatMap c)) := but_setCells ⟨i, hi, rfl⟩ _ _ _ _ (But.refl _ _)
  have hfl := flat_len hs xs
  have some : ∀ j, j < (xs.flatMap c).length → (w.cell? ⟨B i, k * s + j, none⟩).isSome = true := fun j hj => by
    rw [hfl] at hj
    have hs0 : 0 < s := by rcases Nat.eq_zero_or_pos s with e | e; · subst e; simp at hj
                           · exact e
    have hd : j / s < xs.length := by rw [Nat.div_lt_iff_lt_mul hs0]; exact hj
    have hm : j % s < s := Nat.mod_lt _ hs0
    have hj' : j = j / s * s + j % s := by rw [Nat.mul_comm]; exact (Nat.div_add_mod j s).symm
    have := h.cells i (k + j / s) hi (by omega) (j % s) _ (List.getElem?_eq_getElem (by rw [hs]; exact hm))
    rw [show k * s + j = (k + j / s) * s + j % s by rw [Nat.add_mul]; omega, this]
    rfl
  refine ⟨⟨fun i' hi' => ?_, by rw [setCells_size]; exact h.hlt, fun i' hi' => by rw [setCells_size]; exact h.blt i' hi', h.inj, h.hne, h.cap, fun i' j hi' hj q u hu => ?_, fun i' hi' o => by rw [World.frozen?_setCells]; exact h.froz i' hi' o⟩, hb⟩
  · rw [World.cell?_setCells_out _ _ _ _ _ (fun e _ => absurd e.symm (h.hne i hi))]
    exact h.hdr i' hi'
  · by_cases hin : i' = i ∧ k ≤ j ∧ j < k + xs.length
    · obtain ⟨rfl, h1, h2⟩ := hin
      have hql : q < s := by have := (List.getElem?_eq_some_iff.1 hu).1; rwa [hs] at this
      have hx := e1 (j - k) (by omega)
      rw [show k + (j - k) = j by omega] at hx
      have hg := flat_get hs xs (j - k) q _ hx hql
      rw [hu] at hg
      have hjk : j * s = k * s + (j - k) * s := by rw [← Nat.add_mul]; congr 1; omega
      have hle : (j - k) * s + s ≤ xs.length * s := by rw [← Nat.succ_mul]; exact Nat.mul_le_mul_right _ (by omega)
      refine cell_set_some some (by omega) (by rw [hfl]; omega) ?_
      rw [show j * s + q - k * s = (j - k) * s + q by omega]
      exact hg
    · have ho := e2 i' j hi' hj hin
      rw [ho] at hu
      have hql : q < s := by have := (List.getElem?_eq_some_iff.1 hu).1; rwa [hs] at this
      rw [World.cell?_setCells_out _ _ _ _ _ (fun e _ => ?_)]
      · exact h.cells i' j hi' hj q u hu
      · simp only at e
        have hii : i' = i := h.inj i' i hi' hi e
        subst hii
        have hcase : j < k ∨ k + xs.length ≤ j := by
          rcases Nat.lt_or_ge j k with h1 | h1
          · exact .inl h1
          · exact .inr (Nat.le_of_not_lt fun h2 => hin ⟨rfl, h1, h2⟩)
        simp only
        rw [hfl]
        rcases hcase with h1 | h1
        · left
          have : (j + 1) * s ≤ k * s := Nat.mul_le_mul_right _ h1
          rw [Nat.add_mul] at this
          omega
        · right
          have : (k + xs.length) * s ≤ j * s := Nat.mul_le_mul_right _ h1
          rw [Nat.add_mul] at this
          omega
/-- A row less another one times what the two of them say. -/
def lessH {α : Type} (K : Kd α) (ws vs : List α) (q : α) : List α := List.zipWith K.sub ws (vs.map fun x => K.mul x (K.div (K.add (K.dot ws vs) (K.dot ws vs)) q))
theorem tail_len {α : Type} (m k : Nat) (f : Nat → α) : (tailH m k f).length = m - k := by simp [tailH]
theorem tail_get {α : Type} {m k j : Nat} (f : Nat → α) (h : j < m - k) : (tailH m k f)[j]? = some (f (k + j)) := by simp [tailH, h]
theorem tail_ext {α : Type} {m k : Nat} {f : Nat → α} {xs : List α} (hl : xs.length = m - k) (h : ∀ j, j < m - k → xs[j]? = some (f (k + j))) : xs = tailH m k f := by
  refine List.ext_getElem? fun j => ?_
  by_cases hj : j < m - k
  · rw [h j hj, tail_get f hj]
  · rw [List.getElem?_eq_none (by omega), List.getElem?_eq_none (by rw [tail_len]; omega)]
theorem tail_congrH {α : Type} {m k : Nat} {f g : Nat → α} (h : ∀ j, k ≤ j → j < m → f j = g j) : tailH m k f = tailH m k g :=
  tail_ext (tail_len _ _ _) fun j hj => by rw [tail_get f hj, h (k + j) (by omega) (by omega)]
/-- What a row is less, number by number. -/
theorem less_get {α : Type} (K : Kd α) (m k : Nat) (b : Bool) (a : Nat → Nat → α) (i : Nat) (hi : k < i) : lessH K (tailH m k (a i)) (tailH m k (vH K m k b a)) (K.dot (tailH m k (vH K m k b a)) (tailH m k (vH K m k b a))) = tailH m k (foldStep K m k b a i) := by
  refine tail_ext (by simp [lessH, tail_len]) fun j hj => ?_
  unfold lessH
  rw [List.getElem?_zipWith, List.getElem?_map, tail_get _ hj, tail_get _ hj]
  show some _ = some _
  unfold foldStep
  rw [if_neg (by omega), if_pos ⟨hi, by omega⟩]
  rfl
/-- The first d rows below row k are those of b. -/
def partH {α : Type} (k d : Nat) (b a : Nat → Nat → α) (i c : Nat) : α := if k < i ∧ i ≤ k + d then b i c else a i c
theorem partH_zero {α : Type} (k : Nat) (b a : Nat → Nat → α) : partH k 0 b a = a := by
  funext i c
  unfold partH
  rw [if_neg (by omega)]
/-- What a made row has got is copied over. -/
theorem RwZ.copy {α : Type} {s : Nat} {c : α → List Value} (hs : ∀ x, (c x).length = s) {w : World} {B g n cap : Nat} {e : TypeId} {L : List Value} (h : w.ownsRow B e s (.slice (some ⟨g, 0, none⟩) n cap) n L) {xs : List α} (hx : xs.length = n) (h0 : 0 < n) :
    RwZ s c (w.setCells g (0 * s) (xs.flatMap c)) B (.slice (some ⟨g, 0, none⟩) n cap) xs ∧ (∀ j, j < (xs.flatMap c).length → (w.cell? ⟨g, 0 + j, none⟩).isSome = true) ∧ (∀ j, w.frozen? ⟨g, 0 + j, none⟩ = false) := by
  have hfz : ∀ j, w.frozen? ⟨g, j, none⟩ = false := fun j => h.frozenAt j
  have hlt := h.lt g rfl
  have hL := h.1
  have hfl := flat_len hs xs
  have hsm : ∀ j, j < (xs.flatMap c).length → (w.cell? ⟨g, 0 + j, none⟩).isSome = true := fun j hj => by
    rw [hfl, hx] at hj
    have := h.cells rfl j _ (List.getElem?_eq_getElem (by omega))
    have hadd : (⟨g, 0, none⟩ : Addr).add j = ⟨g, 0 + j, none⟩ := by unfold Addr.add; split <;> simp_all
    rw [hadd] at this
    rw [this]; rfl
  have hcap : n ≤ cap := by
    rcases h.2 with ⟨e1, _⟩ | ⟨g', cap', cur, e1, _, _, h1, _⟩
    · cases e1
    · cases e1; exact h1
  refine ⟨⟨g, cap, by rw [hx], by omega, hlt.1, by rw [setCells_size]; exact hlt.2, fun o => by rw [World.frozen?_setCells]; exact hfz o, fun j x hj k u hu => ?_⟩, hsm, fun j => hfz _⟩
  have hk : k < s := by have := (List.getElem?_eq_some_iff.1 hu).1; rwa [hs] at this
  have hj' : j < xs.length := (List.getElem?_eq_some_iff.1 hj).1
  have hg := flat_get hs xs j k x hj hk
  rw [hu] at hg
  have hle : j * s + s ≤ xs.length * s := by rw [← Nat.succ_mul]; exact Nat.mul_le_mul_right _ hj'
  rw [Nat.zero_mul]
  exact cell_set_some hsm (Nat.zero_le _) (by rw [hfl]; omega) (by rw [Nat.sub_zero]; exact hg)
/-- Its first number set anew. -/
theorem RwZ.put0 {α : Type} {s : Nat} {c : α → List Value} (hs : ∀ x, (c x).length = s) {w : World} {B g n cap : Nat} {x y : α} {xs : List α} (h : RwZ s c w B (.slice (some ⟨g, 0, none⟩) n cap) (x :: xs)) :
    RwZ s c (w.setCells g 0 (c y)) B (.slice (some ⟨g, 0, none⟩) n cap) (y :: xs) := by
  obtain ⟨b, cap', e, hc, hlo, hb, hf, hx⟩ := h
  cases e
  refine ⟨g, cap, rfl, hc, hlo, by rw [setCells_size]; exact hb, fun o => by rw [World.frozen?_setCells]; exact hf o, fun j z hj k u hu => ?_⟩
  have hk : k < s := by have := (List.getElem?_eq_some_iff.1 hu).1; rwa [hs] at this
  cases j with
  | zero =>
    simp at hj
    subst hj
    rw [Nat.zero_mul, Nat.zero_add]
    refine cell_set_some (fun j hj => ?_) (Nat.zero_le _) (by rw [hs]; omega) (by rw [Nat.sub_zero]; exact hu)
    rw [hs] at hj
    have := hx 0 x rfl j _ (List.getElem?_eq_getElem (by rw [hs]; exact hj))
    rw [Nat.zero_mul] at this
    rw [this]; rfl
  | succ j =>
    rw [World.cell?_setCells_out _ _ _ _ _ (fun _ _ => .inr (by show 0 + (c y).length ≤ (j + 1) * s + k; rw [hs, Nat.add_mul]; omega))]
    exact hx (j + 1) z (by simpa using hj) k u hu
theorem tail_consH {α : Type} {m k : Nat} (f : Nat → α) (h : k < m) : tailH m k f = f k :: (List.range (m - k - 1)).map fun j => f (k + 1 + j) := by
  symm
  refine tail_ext (by simp; omega) fun j hj => ?_
  cases j with
  | zero => simp
  | succ j =>
    rw [List.getElem?_cons_succ, List.getElem?_map, List.getElem?_range (by omega)]
    exact congrArg some (congrArg f (by omega))
theorem add_off (a : Addr) (j : Nat) (h : a.spot = none) : a.add j = ⟨a.block, a.off + j, none⟩ := by
  obtain ⟨b, o, s⟩ := a
  simp only at h
  subst h
  unfold Addr.add
  split <;> simp_all
theorem bl_setCells {w0 : World} {b : Nat} : ∀ {w : World}, Bl w0 w → w0.heap.size ≤ b → ∀ (vs : List Value) (o : Nat), Bl w0 (w.setCells b o vs) := by
  intro w h hb vs o
  induction vs generalizing w o with
  | nil => exact h
  | cons v vs ih => exact ih (Bl.set h hb v) (o + 1)
theorem RwZ.glt {α : Type} {s : Nat} {c : α → List Value} {w : World} {lo g n cap : Nat} {xs : List α} (h : RwZ s c w lo (.slice (some ⟨g, 0, none⟩) n cap) xs) : g < w.heap.size := by
  obtain ⟨b, cap', e, _, _, hb, _⟩ := h
  cases e
  exact hb
/-- The cells of a part of a row are there. -/
theorem Tbl.somes {α : Type} {s : Nat} {c : α → List Value} (hs : ∀ x, (c x).length = s) {w : World} {H : Nat} {B cp : Nat → Nat} {n m : Nat} {a : Nat → Nat → α} (h : Tbl s c w H B cp n m a) {i k : Nat} {xs : List α} (hi : i < n) (hk : k + xs.length ≤ m) :
    ∀ j, j < (xs.flatMap c).length → (w.cell? ⟨B i, k * s + j, none⟩).isSome = true := fun j hj => by
  rw [flat_len hs] at hj
  have hs0 : 0 < s := by
    rcases Nat.eq_zero_or_pos s with e | e
    · subst e; simp at hj
    · exact e
  have hd : j / s < xs.length := by rw [Nat.div_lt_iff_lt_mul hs0]; exact hj
  have hm : j % s < s := Nat.mod_lt _ hs0
  have hj' : j = j / s * s + j % s := by rw [Nat.mul_comm]; exact (Nat.div_add_mod j s).symm
  have := h.cells i (k + j / s) hi (by omega) (j % s) _ (List.getElem?_eq_getElem (by rw [hs]; exact hm))
  rw [show k * s + j = (k + j / s) * s + j % s by rw [Nat.add_mul]; omega, this]
  rfl
/-- Column k from the diagonal on, down to row i, told by h. -/
def negTo {α : Type} (h : α → α) (k i : Nat) (f : Nat → Nat → α) (a b : Nat) : α := if b = k ∧ k ≤ a ∧ a < i then h (f a b) else f a b
theorem negTo_next {α : Type} (h : α → α) {k i : Nat} (hi : k ≤ i) (f : Nat → Nat → α) : negTo h k (i + 1) f = putM (negTo h k i f) i k (h (negTo h k i f i k)) := by
  funext a b
  unfold putM negTo
  by_cases h1 : a = i ∧ b = k
  · rw [if_pos h1, if_pos (by omega), if_neg (by omega)]
    obtain ⟨rfl, rfl⟩ := h1
    rfl
  · rw [if_neg h1]
    by_cases h2 : b = k ∧ k ≤ a ∧ a < i
    · rw [if_pos h2, if_pos (by omega)]
    · rw [if_neg h2, if_neg (by omega)]
/-- A number of a row set anew. -/
theorem RwZ.putAt {α : Type} {s : Nat} {c : α → List Value} (hs : ∀ x, (c x).length = s) {w : World} {B g n cap : Nat} {xs : List α} (h : RwZ s c w B (.slice (some ⟨g, 0, none⟩) n cap) xs) {q : Nat} (hq : q < xs.length) (y : α) :
    RwZ s c (w.setCells g (q * s) (c y)) B (.slice (some ⟨g, 0, none⟩) n cap) (xs.set q y) := by
  obtain ⟨b, cap', e, hc, hlo, hb, hf, hx⟩ := h
  simp only [Value.slice.injEq, Option.some.injEq, Addr.mk.injEq] at e
  obtain ⟨⟨rfl, _⟩, rfl, rfl⟩ := e
  refine ⟨g, cap, by simp, by simpa using hc, hlo, by rw [setCells_size]; exact hb, fun o => by rw [World.frozen?_setCells]; exact hf o, fun j z hj k u hu => ?_⟩
  have hk : k < s := by have := (List.getElem?_eq_some_iff.1 hu).1; rwa [hs] at this
  rw [List.getElem?_set] at hj
  by_cases hqj : q = j
  · subst hqj
    rw [if_pos rfl, if_pos hq] at hj
    cases hj
    refine cell_set_some (fun t ht => ?_) (by omega) (by rw [hs]; omega) (by rw [Nat.add_sub_cancel_left]; exact hu)
    rw [hs] at ht
    have := hx q _ (List.getElem?_eq_getElem hq) t _ (List.getElem?_eq_getElem (by rw [hs]; exact ht))
    rw [this]; rfl
  · rw [if_neg hqj] at hj
    rw [World.cell?_setCells_out _ _ _ _ _ (fun _ _ => ?_)]
    · exact hx j z hj k u hu
    · show j * s + k < q * s ∨ q * s + (c y).length ≤ j * s + k
      rw [hs]
      rcases Nat.lt_or_gt_of_ne hqj with h1 | h1
      · right
        have : (q + 1) * s ≤ j * s := Nat.mul_le_mul_right _ h1
        rw [Nat.add_mul] at this
        omega
      · left
        have : (j + 1) * s ≤ q * s := Nat.mul_le_mul_right _ h1
        rw [Nat.add_mul] at this
        omega
/-- The first j columns with their signs set. -/
def sgTo {α : Type} (h : α → α) (low : α → Bool) (j : Nat) (f : Nat → Nat → α) (a b : Nat) : α := if b < j ∧ b ≤ a ∧ low (f b b) = true then h (f a b) else f a b
theorem sgTo_yes {α : Type} (h : α → α) (low : α → Bool) {j n : Nat} {f : Nat → Nat → α} (hl : low (f j j) = true) {a b : Nat} (ha : a < n) : negTo h j n (sgTo h low j f) a b = sgTo h low (j + 1) f a b := by
  unfold negTo sgTo
  by_cases h1 : b = j ∧ j ≤ a ∧ a < n
  · obtain ⟨rfl, h2, h3⟩ := h1
    rw [if_pos ⟨rfl, h2, h3⟩, if_neg (by omega), if_pos ⟨by omega, h2, hl⟩]
  · rw [if_neg h1]
    by_cases h2 : b < j ∧ b ≤ a ∧ low (f b b) = true
    · rw [if_pos h2, if_pos ⟨by omega, h2.2⟩]
    · rw [if_neg h2, if_neg]
      rintro ⟨h3, h4, h5⟩
      by_cases h6 : b = j
      · subst h6; exact h1 ⟨rfl, h4, ha⟩
      · exact h2 ⟨by omega, h4, h5⟩
theorem sgTo_no {α : Type} (h : α → α) (low : α → Bool) {j : Nat} {f : Nat → Nat → α} (hl : low (f j j) = false) {a b : Nat} : sgTo h low (j + 1) f a b = sgTo h low j f a b := by
  unfold sgTo
  by_cases h2 : b < j ∧ b ≤ a ∧ low (f b b) = true
  · rw [if_pos h2, if_pos ⟨by omega, h2.2⟩]
  · rw [if_neg h2, if_neg]
    rintro ⟨h3, h4, h5⟩
    by_cases h6 : b = j
    · subst h6; rw [hl] at h5; cases h5
    · exact h2 ⟨by omega, h4, h5⟩
theorem sgTo_all {α : Type} {K : Kd α} (h : α → α) (low : α → Bool) {n : Nat} {f : Nat → Nat → α} {a b : Nat} (hb : b < n) (hk : K.neg = h := by rfl) : sgTo h low n f a b = signsH K (fun j => low (f j j)) f a b := by
  subst hk
  unfold sgTo signsH
  by_cases h2 : b ≤ a ∧ low (f b b) = true
  · rw [if_pos ⟨hb, h2⟩, if_pos h2]
  · rw [if_neg h2, if_neg fun h => h2 h.2]
end Go.Proofs.Ythnadgbloamlaaa

/- A region that draws its order, over any frame, inside any fence: its operations keep a relation of worlds, stores among them; one fact an operation, whatever their order. -/
namespace Go.Proofs.Ythnadgbloamlaaa
open Go.RowKit
set_option linter.unusedSimpArgs false
set_option linter.unusedVariables false

/-- What must hold of the operations, by reckoning. -/
def wellR (ops : Array Oper) (ds : List (Option Nat)) : Bool :=
  lowB2 ops && onceB ds && (ds.length == ops.size) && (List.range ops.size).all fun j => match ops[j]? with
    | none => true
    | some o => o.guard.isNone && (ds[j]? == some o.dst)
/-- Between two of a region's operations. -/
structure RR (R : World → World → Prop) (W : World) (a : Act) (ops : Array Oper) (ds : List (Option Nat)) (facts : Nat → Value → World → Prop) (L : Nat → Bool) (act : Act) (u : World) : Prop where
  size : act.tmps.size = a.tmps.size
  defers : act.defers = a.defers
  frame : ∀ t, (∀ j, L j = true → ds[j]? ≠ some (some t)) → act.eval (.tmp t) = a.eval (.tmp t)
  rel : R W u
  val : ∀ (j t : Nat), ds[j]? = some (some t) → L j = true → facts j (act.eval (.tmp t)) u
  non : ∀ (j : Nat), ds[j]? = some none → L j = true → facts j undef u
theorem once_ne {ds : List (Option Nat)} (ho : onceB ds = true) : ∀ (i j t t' : Nat), ds[i]? = some (some t) → ds[j]? = some (some t') → i ≠ j → t ≠ t' := by
  have : ∀ (ds : List (Option Nat)), onceB ds = true → ∀ (i j t t' : Nat), ds[i]? = some (some t) → ds[j]? = some (some t') → i < j → t ≠ t' := by
    intro ds
    induction ds with
    | nil => intro _ i j t t' h; simp at h
    | cons d ds ih =>
      intro ho i j t t' h1 h2 hij
      simp only [onceB, Bool.and_eq_true] at ho
      cases j with
      | zero => omega
      | succ j =>
        cases i with
        | zero =>
          simp at h1 h2
          subst h1
          have := ho.1
          simp at this
          exact fun e => this _ (List.mem_of_getElem? h2) (by rw [e])
        | succ i => exact ih ho.2 i j t t' (by simpa using h1) (by simpa using h2) (by omega)
  intro i j t t' h1 h2 hij
  rcases Nat.lt_or_gt_of_ne hij with h | h
  · exact this ds ho i j t t' h1 h2 h
  · exact (this ds ho j i t' t h2 h1 h).symm
theorem region_r {F : Fence} {n : Nat} {P : Program} {ops : Array Oper} {Q : Exit → Act → World → Prop} {a : Act} {W : World} {id : Nat} (hm : P.follows .mixedOrders = true) (R : World → World → Prop) (ds : List (Option Nat)) (hw : wellR ops ds = true)
    (hsz0 : ds.all (fun d => match d with | some t => Nat.blt t a.tmps.size | none => true) = true) (h0 : R W W.drew) (hR : ∀ {x y z}, R x y → R y z → R x z) (facts : Nat → Value → World → Prop) (mono : ∀ j v u u', R W u → R u u' → facts j v u → facts j v u')
    (step : ∀ (j : Nat) (o : Oper) (act : Act) (u : World), ops[j]? = some o → act.tmps.size = a.tmps.size → R W u → (∀ t, some t ∉ ds → act.eval (.tmp t) = a.eval (.tmp t)) → (∀ e ∈ o.after, Region.binds .any e = true → ∀ t, ds[e.on]? = some (some t) → facts e.on (act.eval (.tmp t)) u) → (∀ e ∈ o.after, Region.binds .any e = true → ds[e.on]? = some none → facts e.on undef u) →
      Oper.wpIn F n P o act u (fun act' u' => ∃ v, act' = act.put o.dst v ∧ facts j (if o.dst.isSome then v else undef) u' ∧ R u u') Q)
    (fin : ∀ (vs : Nat → Value) (u : World), R W u → (∀ (j : Nat) (t : Nat), ds[j]? = some (some t) → facts j (vs j) u) → (∀ (j : Nat), ds[j]? = some none → facts j undef u) → Q .normal (putL ds vs 0 a) u) :
    (Code.region id ops true).wpIn F n P Q a W := by
  simp only [wellR, Bool.and_eq_true] at hw
  obtain ⟨⟨⟨hlow, honce⟩, hlen⟩, hall'⟩ := hw
  have hlen' : ds.length = ops.size := by simpa using hlen
  have key : ∀ (j : Nat) (o : Oper), ops[j]? = some o → o.guard = none ∧ ds[j]? = some o.dst := fun j o ho => by
    have := List.all_eq_true.1 hall' j (by simpa using (Array.getElem?_eq_some_iff.1 ho).1)
    rw [ho] at this
    simpa using this
  have hsz : ∀ t, some t ∈ ds → t < a.tmps.size := fun t ht => by have := List.all_eq_true.1 hsz0 _ ht; rw [Nat.blt_eq] at this; exact this
  have hlt : ∀ (j : Nat) d, ds[j]? = some d → j < ops.size := fun j d h => by have := (List.getElem?_eq_some_iff.1 h).1; rw [hlen'] at this; exact this
  have hne := once_ne honce
  refine region_facts2 hm (lowB2_low hlow) (RR R W a ops ds facts) ?_ ?_ ?_
  · exact ⟨rfl, rfl, fun _ _ => rfl, h0, (by intro _ _ _ h; cases h), (by intro _ _ h; cases h)⟩
  · intro L act u i o hI ho hLi hall
    refine step_wp ho (key i o ho).1 ?_
    have hdi := (key i o ho).2
    have hfr : ∀ t, some t ∉ ds → act.eval (.tmp t) = a.eval (.tmp t) := fun t ht => hI.frame t (fun j _ e => ht (List.mem_of_getElem? e))
    refine Oper.wpIn_mono ?_ (step i o act u ho hI.size hI.rel hfr (fun e he hbe t' ht' => hI.val e.on t' ht' (hall e he hbe)) (fun e he hbe hd => hI.non e.on hd (hall e he hbe)))
    rintro act' u' ⟨v, rfl, hf, hr⟩
    have hval : ∀ (j t : Nat), ds[j]? = some (some t) → (L j || (j == i)) = true → facts j ((act.put o.dst v).eval (.tmp t)) u' := fun j t h hj => by
      by_cases e : j = i
      · subst e
        rw [hdi] at h
        have hd : o.dst = some t := Option.some.inj h
        rw [hd] at hf ⊢
        rw [eval_put_same (by rw [hI.size]; exact hsz t (List.mem_of_getElem? (by rw [hdi, hd])))]
        exact hf
      · have hLj : L j = true := by
          rw [Bool.or_eq_true] at hj
          rcases hj with hj | hj
          · exact hj
          · exact absurd (by simpa using hj) e
        rw [eval_put_ne (fun e2 => hne j i t t h (by rw [hdi, e2]) e rfl)]
        exact mono j _ u u' hI.rel hr (hI.val j t h hLj)
    refine ⟨by rw [size_put]; exact hI.size, by rw [defers_put]; exact hI.defers, fun t ht => ?_, hR hI.rel hr, hval, fun j hd hj => ?_⟩
    · rw [eval_put_ne (fun e => ht i (by simp) (by rw [hdi, e]))]
      exact hI.frame t (fun j hj => ht j (by rw [hj]; rfl))
    · by_cases e : j = i
      · subst e
        rw [hdi] at hd
        have hd' : o.dst = none := Option.some.inj hd
        rw [hd'] at hf
        exact hf
      · have hLj : L j = true := by
          rw [Bool.or_eq_true] at hj
          rcases hj with hj | hj
          · exact hj
          · exact absurd (by simpa using hj) e
        exact mono j _ u u' hI.rel hr (hI.non j hd hLj)
  · intro L act u hI hall
    have hL : ∀ j d, ds[j]? = some d → L j = true := fun j d h => hall j (hlt j d h)
    have e : act = putL ds (fun j => act.eval (.tmp ((ds[j]?.getD none).getD 0))) 0 a := by
      refine act_ext (by rw [putL_size]; exact hI.size) (by rw [putL_defers]; exact hI.defers) fun t ht => ?_
      by_cases hm' : some t ∈ ds
      · obtain ⟨j, hj⟩ := List.getElem?_of_mem hm'
        rw [putL_at ds _ t j 0 a honce hj (by rw [← hI.size]; exact ht), Nat.zero_add, hj]
        rfl
      · rw [putL_other ds _ t 0 a (fun d hd e => hm' (by rw [← e]; exact hd))]
        exact hI.frame t (fun j _ e => hm' (List.mem_of_getElem? e))
    rw [e]
    exact fin _ u hI.rel (fun j t h => by have := hI.val j t h (hL j _ h); simpa [h] using this) (fun j h => hI.non j h (hL j _ h))
end Go.Proofs.Ythnadgbloamlaaa

/- Worlds between which nothing has turned but two blocks, each stored once. -/
namespace Go.Proofs.Ythnadgbloamlaaa
open Go.RowKit
set_option linter.unusedSimpArgs false
set_option linter.unusedVariables false

theorem Mx.but {α : Type} {s : Nat} {c : α → List Value} {w w' : World} {R C : Nat} {p : Option Addr} {n cap : Nat} {f : Nat → Nat → α} {S : Nat → Prop} (h : Mx s c w R C p n cap f) (k : But S w w') (hs : ∀ g, (Value.slice p n cap).ownBlock = some g → ¬ S g) : Mx s c w' R C p n cap f :=
  ⟨h.1, h.2.1, by
    rcases h.2.2 with h | ⟨b, o, cap', e, hc, hb, hx⟩
    · exact .inl h
    · exact .inr ⟨b, o, cap', e, hc, Nat.lt_of_lt_of_le hb k.size, fun j x hj i u hu => (k.cell _ _ hb (hs b (by rw [e]; rfl))).trans (hx j x hj i u hu)⟩⟩
theorem MBox.but {w w' : World} {b : Nat} {r c : Int} {p : Option Addr} {n cap : Nat} {S : Nat → Prop} (h : MBox w b r c p n cap) (k : But S w w') (hs : ¬ S b) : MBox w' b r c p n cap :=
  ⟨(k.cell _ _ h.lt hs).trans h.c0, (k.cell _ _ h.lt hs).trans h.c1, (k.cell _ _ h.lt hs).trans h.c2, (k.froz _ _ h.lt hs).trans h.f0, (k.froz _ _ h.lt hs).trans h.f1, (k.froz _ _ h.lt hs).trans h.f2, Nat.lt_of_lt_of_le h.lt k.size⟩
theorem SBox.heap {w w' : World} {b : Nat} {px : Option Addr} {nx cx : Nat} {r c : Int} {p : Option Addr} {n cap : Nat} (h : SBox w b px nx cx r c p n cap) (e : w'.heap[b]? = w.heap[b]?) (hs : w.heap.size ≤ w'.heap.size) : SBox w' b px nx cx r c p n cap :=
  ⟨(World.cell?_of_block (a := ⟨b, 0, none⟩) e).trans h.c0, (World.cell?_of_block (a := ⟨b, 1, none⟩) e).trans h.c1, (World.cell?_of_block (a := ⟨b, 2, none⟩) e).trans h.c2, (World.cell?_of_block (a := ⟨b, 3, none⟩) e).trans h.c3,
   (World.frozen?_of_block (a := ⟨b, 0, none⟩) e).trans h.f0, (World.frozen?_of_block (a := ⟨b, 1, none⟩) e).trans h.f1, (World.frozen?_of_block (a := ⟨b, 2, none⟩) e).trans h.f2, (World.frozen?_of_block (a := ⟨b, 3, none⟩) e).trans h.f3, Nat.lt_of_lt_of_le h.lt hs⟩
/-- Nothing but blocks g and l has turned; each, if it turned, is as it shall be. -/
structure TwoJ (g l : Nat) (G T : World → Prop) (x y : World) : Prop where
  but : But (fun i => i = g ∨ i = l) x y
  g8 : y.heap[g]? = x.heap[g]? ∨ G y
  l9 : y.heap[l]? = x.heap[l]? ∨ T y
theorem TwoJ.bl {g l : Nat} {G T : World → Prop} {x y : World} (h : Bl x y) (hg : g < x.heap.size) (hl : l < x.heap.size) : TwoJ g l G T x y :=
  ⟨But.of_bl h, .inl (Below.block h g hg), .inl (Below.block h l hl)⟩
theorem TwoJ.trans {g l : Nat} {G T : World → Prop} (hG : ∀ x y, G x → But (fun i => i = g ∨ i = l) x y → y.heap[g]? = x.heap[g]? → G y) (hT : ∀ x y, T x → But (fun i => i = g ∨ i = l) x y → y.heap[l]? = x.heap[l]? → T y) {x y z : World} (h : TwoJ g l G T x y) (k : TwoJ g l G T y z) : TwoJ g l G T x z := by
  refine ⟨h.but.trans k.but, ?_, ?_⟩
  · rcases k.g8 with e | t
    · rcases h.g8 with e' | t
      · exact .inl (e.trans e')
      · exact .inr (hG _ _ t k.but e)
    · exact .inr t
  · rcases k.l9 with e | t
    · rcases h.l9 with e' | t
      · exact .inl (e.trans e')
      · exact .inr (hT _ _ t k.but e)
    · exact .inr t
theorem but_cell1 {S : Nat → Prop} {b : Nat} (hb : S b) (o : Nat) (v : Value) (u : World) : But S u (u.setCell ⟨b, o, none⟩ v) :=
  ⟨rfl, rfl, rfl, by simp, fun k _ hs => Below.heap_setCell _ _ _ k (by show k ≠ b; exact fun e => hs (e ▸ hb))⟩
theorem heap1 {g l : Nat} (u : World) (h : l ≠ g) (o : Nat) (v : Value) : (u.setCell ⟨g, o, none⟩ v).heap[l]? = u.heap[l]? := Below.heap_setCell _ _ _ l (by show l ≠ g; exact h)
end Go.Proofs.Ythnadgbloamlaaa
