/- mat's Mul, of enclosed numbers (layer 6). Written by genMa.py. -/
import Derived.Test.YtljmggemdkfbiaaGreatMaGN
import Derived.Laws.EntriesVeiled
namespace Go.Proofs.YtljmggemdkfbiaaGreat
open Go.RowKit Go.Shelf
set_option linter.unusedSimpArgs false
set_option linter.unusedVariables false
attribute [local go_sem] Oper.semAt_some

/-- A product's number. -/
def mulMN (M : Nat) (f g : Nat → Nat → En) (i k : Nat) : En := dotN (rowM M f i) (colM M g k)
theorem own_blTN {w w' : World} {B n : Nat} {v : Value} {l : List Value} (h : w.ownsRow B 52 4 v n l) (k : Bl w w') : w'.ownsRow B 52 4 v n l := own_blN h k
set_option maxRecDepth 100000 in
set_option maxHeartbeats 4000000 in
theorem mMulN (R M D : Nat) (p : Option Addr) (n cap : Nat) (f : Nat → Nat → En) (q : Option Addr) (n2 cap2 : Nat) (g : Nat → Nat → En) (N : Nat) (w : World) (hx : Mx 4 cellsN w R M p n cap f) (hy : Mx 4 cellsN w M D q n2 cap2 g) (hN : N = R * D) :
    Calls Tryz.prog 101 #[mV R M p n cap, mV M D q n2 cap2] w fun e w' => ∃ p' cap', e = .returned (.tuple #[mV R D p' N cap', .bool true]) ∧ (Mx 4 cellsN w' R D p' N cap' (mulMN M f g) ∧ Rw 4 cellsN w' (.slice p' N cap') (mk R D (mulMN M f g)) ∧ Fresh w.heap.size (.slice p' N cap')) ∧ Bl w w' := by
  obtain ⟨i0, hi, hz0, hz1, hz2⟩ := info_parts Tryz.info_N
  refine (callsIn_wide (n := 8)).1 ?_
  have hfx := hx.fit
  have hfy := hy.fit
  have hdR := hx.1
  have hdD := hy.1
  have hRD : (R : Int) * (D : Int) = N := by rw [hN]; simp
  have hN256 : N ≤ 256 := by rw [hN]; exact Nat.mul_le_mul hdR.r2 hdD.c2
  have hM16 := hdR.c2
  have HN := hideP hN
  have HXm := hideP hx
  have HYm := hideP hy
  clear hN hx hy
  obtain ⟨W, hW⟩ : ∃ W, W = ((w.alloc (.cells #[.int .i64 R, .int .i64 M, .slice p n cap] 48)).alloc (.cells #[.int .i64 M, .int .i64 D, .slice q n2 cap2] 48)).alloc (.cells #[.int .i64 0, .int .i64 0, .slice none 0 0] 48) := ⟨_, rfl⟩
  have b0 : Bl w W := by rw [hW]; exact (((Bl.refl _).alloc _).alloc _).alloc _
  have mx0 : MBox W w.heap.size R M p n cap := by rw [hW]; exact (MBox.new w _ _ _ _ _ _).later (((Bl.refl _).alloc _).alloc _)
  have my0 : MBox W (w.heap.size + 1) M D q n2 cap2 := by rw [hW]; have := (MBox.new (w.alloc (.cells #[.int .i64 R, .int .i64 M, .slice p n cap] 48)) M D q n2 cap2 48); rw [World.size_alloc] at this; exact this.later ((Bl.refl _).alloc _)
  have mz0 : MBox W (w.heap.size + 1 + 1) 0 0 none 0 0 := by rw [hW]; have := MBox.new ((w.alloc (.cells #[.int .i64 R, .int .i64 M, .slice p n cap] 48)).alloc (.cells #[.int .i64 M, .int .i64 D, .slice q n2 cap2] 48)) 0 0 none 0 0 48; rw [World.size_alloc, World.size_alloc] at this; exact this
  have hs0 : W.heap.size = w.heap.size + 1 + 1 + 1 := by rw [hW]; simp
  have HW := hideP hW
  clear hW
  refine callsIn_of_wp_marks Tryz.func101 rfl trivial ?_ rfl
  simp only [Tryz.ntmps101, List.size_toArray, List.length_cons, List.length_nil, Nat.reduceAdd, Nat.reduceSub, Array.replicate_succ, Array.replicate_zero, List.push_toArray, List.append_toArray, List.nil_append, List.cons_append]
  gi_wp2_with fail
  rw [← HW.out]
  refine ⟨trivial, ?_⟩
  refine (callsIn_wide.2 (mRightN _ _ _ _ _ _)).mono ?_
  rintro e w1 ⟨rfl, h1⟩
  rw [hfx]
  have mx1 := mx0.later h1
  have my1 := my0.later h1
  obtain ⟨d0, d1, d2, u0, u1, u2, ltm⟩ := my1
  obtain ⟨c0, c1, c2, f0, f1, f2, lt⟩ := mx1
  gi_wp2_with fail
  refine ⟨trivial, ?_⟩
  refine (callsIn_wide.2 (mRightN _ _ _ _ _ _)).mono ?_
  rintro e w2 ⟨rfl, h2⟩
  rw [hfy]
  clear c0 c1 c2 f0 f1 f2 d0 d1 d2 u0 u1 u2 lt ltm
  obtain ⟨c0, c1, c2, f0, f1, f2, lt⟩ := mx0.later (h1.trans h2)
  obtain ⟨d0, d1, d2, u0, u1, u2, ltm⟩ := my0.later (h1.trans h2)
  gi_wp2_with fail
  refine ⟨trivial, ?_⟩
  refine (callsIn_wide.2 (mTurnN _ _ _ _ _ g _ (HYm.out.later ((b0.trans h1).trans h2)))).mono ?_
  rintro e w3 ⟨q1, cap3, rfl, ⟨hT, _, _⟩, h3⟩
  have HT := hideP hT
  clear hT c0 c1 c2 f0 f1 f2 d0 d1 d2 u0 u1 u2 lt ltm
  gi_wp2_with fail
  refine ⟨trivial, ?_⟩
  refine (callsIn_wide.2 (mAllN _ _ _ _ _ _ _ HT.out)).mono ?_
  rintro e w4 ⟨B1, q2, cap4, rfl, hK4, h4⟩
  have HK4 := hideP hK4
  clear hK4
  have h14 : Bl W w4 := ((h1.trans h2).trans h3).trans h4
  obtain ⟨w5, hw5⟩ : ∃ w5, w5 = w4.alloc (.cells #[.func (.func 108) #[] #[.pointer (some ⟨B1, 0, none⟩)]] 100) := ⟨_, rfl⟩
  have b45 : Bl w4 w5 := by rw [hw5]; exact (Bl.refl _).alloc _
  have hs5 : w5.heap.size = w4.heap.size + 1 := by rw [hw5]; simp
  have BC5 : Boxed w5 w4.heap.size 100 (.func (.func 108) #[] #[.pointer (some ⟨B1, 0, none⟩)]) := by rw [hw5]; exact Boxed.new w4 _ _
  have mx5 := mx0.later (h14.trans b45)
  have my5 := my0.later (h14.trans b45)
  have mz5 := mz0.later (h14.trans b45)
  have bw5 : Bl w w5 := (b0.trans h14).trans b45
  have HW5 := hideP hw5
  clear hw5
  obtain ⟨c0, c1, c2, f0, f1, f2, lt⟩ := mx0.later h14
  obtain ⟨d0, d1, d2, u0, u1, u2, ltm⟩ := my0.later h14
  gi_wp2_with (gi_at_make; refine wpListIn_make_own _ rfl _ _ 46 rfl (w4.heap.size + 1) 52 i0 (.agg #[.int .i64 0, .int .i64 0, .int .i64 0, .bool false]) 4 Tryz.underlying46 hi hz0 hz1 .i64 .i64 _ N rfl rfl (by simp) (by rw [hz2]; omega) (by unfold maxLen; omega) (by simp) ?_; intro w6 hown0 hgrow0; rw [← HW5.out] at hown0 hgrow0; have mx6 := mbox_block mx5 (hgrow0.block _ mx5.lt nofun) hgrow0.size; clear c0 c1 c2 f0 f1 f2 d0 d1 d2 u0 u1 u2 lt ltm; obtain ⟨c0, c1, c2, f0, f1, f2, lt⟩ := mx6)
  have h56 : Bl w5 w6 := ⟨hgrow0.os, hgrow0.tape, hgrow0.output, hgrow0.size, fun k hk => hgrow0.block k hk nofun⟩
  have hs6 : w5.heap.size ≤ w6.heap.size := hgrow0.size
  obtain ⟨w6b, hw6b⟩ : ∃ w6b, w6b = w6.alloc (.cells #[.slice (some ⟨w4.heap.size + 1, 0, none⟩) 0 N] 46) := ⟨_, rfl⟩
  have h6b : Bl w6 w6b := by rw [hw6b]; exact (Bl.refl _).alloc _
  have hs6b : w6b.heap.size = w6.heap.size + 1 := by rw [hw6b]; simp
  have bl6 : Boxed w6b w6.heap.size 46 (.slice (some ⟨w4.heap.size + 1, 0, none⟩) 0 N) := by rw [hw6b]; exact Boxed.new w6 _ _
  have hown6 : w6b.ownsRow (w4.heap.size + 1) 52 4 (.slice (some ⟨w4.heap.size + 1, 0, none⟩) 0 N) 0 [] := by
    rw [hs5] at hown0
    exact own_blN hown0 h6b
  have HW6 := hideP hw6b
  clear hw6b hown0 hgrow0 c0 c1 c2 f0 f1 f2 lt
  rw [← HW6.out]
  refine ⟨trivial, ?_⟩
  refine (callsIn_wide.2 (mAllN _ _ _ _ _ f _ (HXm.out.later ((bw5.trans h56).trans h6b)))).mono ?_
  rintro e w7 ⟨B2, p2, cap5, rfl, hK7, h7⟩
  have HK7 := hideP hK7
  clear hK7
  have hs7 : w6.heap.size + 1 ≤ w7.heap.size := by have := h7.size; omega
  have b57 : Below w5.heap.size w5 w7 := (h56.trans h6b).trans h7
  have bl7 := boxed_bl bl6 h7
  have own7 := own_blN hown6 h7
  clear bl6 hown6
  have K4at : ∀ u, Below w5.heap.size w5 u → KeptIn 4 cellsN u w3.heap.size w4.heap.size B1 D M q2 n2 cap4 (fun i k => g k i) := fun u hu =>
    (HK4.out.later (Bl.span b45 (Nat.le_refl _))).later (Bl.span (show Bl w5 u from hu) (by omega))
  have HKA := hideP K4at
  clear K4at
  gi_wp2_with fail
  refine rangeV rfl (by omega) (gf := 108) (lb := #[.pointer (some ⟨B2, 0, none⟩)]) rfl trivial (enters_of Tryz.func108 (by kernel_rfl) rfl)
    (seqMN 7 B2 _ w7.heap.size R M p2 n cap5 f w7 (Nat.le_refl _) HK7.out) (fun x A B h => h.1) (fun h k => h.trans k) (span_b (Nat.le_refl _)) (fun _ => rfl)
    (fun pre U => (∃ v, Boxed U w6.heap.size 46 v ∧ U.ownsRow (w4.heap.size + 1) 52 4 v (rowsL D (mulMN M f g) pre).length ((rowsL D (mulMN M f g) pre).flatMap cellsN) ∧ (∀ b, v.ownBlock = some b → b < w6b.heap.size ∨ w7.heap.size ≤ b)) ∧ (Below w5.heap.size w5 U ∧ w7.heap.size ≤ U.heap.size))
    (fun _ _ _ => False)
    (OwnFrom.and (Own.from (holdsRow_own (w4.heap.size + 1) w6.heap.size 46 52 4 (fun pre => (rowsL D (mulMN M f g) pre).length) (fun pre => (rowsL D (mulMN M f g) pre).flatMap cellsN) (fun _ v => ∀ b, v.ownBlock = some b → b < w6b.heap.size ∨ w7.heap.size ≤ b)) _) (OwnFrom.and (ownFrom_below (Nat.le_refl _) b57.size) (own_size _ _)))
    (fun _ _ _ _ _ hs _ _ => hs)
    ⟨⟨_, bl7, own7, fun b hb => by cases hb; exact .inl (by show w4.heap.size + 1 < _; omega)⟩, b57, Nat.le_refl _⟩
    (fun a x a' U => ∃ Bx v, w7.heap.size ≤ Bx ∧ Boxed U Bx 46 (rowV M x) ∧ Rw 4 cellsN U (rowV M x) (rowM M f x.1) ∧ Boxed U w6.heap.size 46 v ∧ (∀ b, (rowV M x).ownBlock = some b → w7.heap.size ≤ b ∧ v.ownBlock ≠ some b)
      ∧ a' = { tmps := (((a.tmps.setIfInBounds 39 (.int .i64 x.1)).setIfInBounds 40 (rowV M x)).setIfInBounds 9 (.pointer (some ⟨Bx, 0, none⟩))), defers := [] })
    (fun x a' _ X Y row hs hg hr => by obtain ⟨Bx, v, h0, h1, h2, h3, h4, h5⟩ := hs; exact ⟨Bx, v, h0, (Own.from (boxed_own (β := Unit) _ _ (fun _ => _)) _) () _ _ _ h1 hg hr, rw_own h2 hg (fun r e => (hr r e).2), (Own.from (boxed_own (β := Unit) _ _ (fun _ => _)) _) () _ _ _ h3 hg hr, h4, h5⟩)
    ?assign ?body ?done ?stop
  case assign =>
    rintro l pre x W0 U K' ⟨⟨v0, hv0, hr0, _⟩, _, hs0'⟩ ⟨hbU, hxR, hrow, hfr, hcc⟩ ⟨⟨v, hv, hr, hg⟩, hbU5, hsU⟩ hK'
    have HK2 := hideP hK'
    clear hK'
    have hvv : v0 = v := by
      have e1 := (boxed_bl hv0 hbU).cell
      rw [hv.cell] at e1
      exact (Option.some.inj e1).symm
    subst hvv
    have hfw : ∀ b, (rowV M x).ownBlock = some b → w7.heap.size ≤ b ∧ v0.ownBlock ≠ some b := fun b hb => ⟨by have := hfr b hb; omega, fun e => by have := (hr0.lt b e).2; have := hfr b hb; omega⟩
    gi_wp2
    have hb2 : Bl U (U.alloc (.cells #[.slice x.2.1 M x.2.2] 46)) := (Bl.refl U).alloc _
    refine HK2.out _ _ (hb2.keeps _) (hb2.span hsU) ⟨⟨v0, hv.alloc _, hr.alloc _, hg⟩, hbU5.trans (hb2.mono hbU5.size), by have := hb2.size; omega⟩ ⟨U.heap.size, v0, hsU, Boxed.new U _ _, hrow.later hb2, hv.alloc _, hfw, ?_⟩
    rfl
  case body =>
    rintro l pre x a' U hl' ⟨r, hr'⟩ ⟨⟨v1, hv1, hrow1, hg1⟩, hbU, hsU⟩ ⟨Bx, v2, hBx, hbx, hrx, hv2, hne, rfl⟩ hlt
    have hvv : v1 = v2 := by
      have e1 := hv1.cell
      rw [hv2.cell] at e1
      exact (Option.some.inj e1).symm
    subst hvv
    have fm : Tryz.prog.follows .mixedOrders = true := by kernel_rfl
    simp only [List.setIfInBounds_toArray, List.set_cons_zero, List.set_cons_succ]
    have hcl := (boxed_bl (show Boxed w5 _ _ _ from BC5) hbU).cell
    have hKU := HKA.out U hbU
    have HR1 := hideP hrow1
    have HV1 := hideP hv1
    have HBX := hideP hbx
    have HRX := hideP hrx
    have HNE := hideP hne
    have HG1 := hideP hg1
    have hlx : pre.length * D + D ≤ 256 := by
      have h1 : (pre.length + 1) * D ≤ R * D := Nat.mul_le_mul_right _ hlt
      have := HN.out
      rw [Nat.succ_mul] at h1
      omega
    clear hrow1 hv1 hbx hrx hne hg1 hv2
    gi_wp2_with fail
    clear hcl
    refine rangeVin (l₀ := l) (r₀ := r) rfl hr' (by omega) (gf := 108) (lb := #[.pointer (some ⟨B1, 0, none⟩)]) rfl trivial (enters_of Tryz.func108 (by kernel_rfl) rfl)
      ((seqMN 5 B1 w3.heap.size w4.heap.size D M q2 n2 cap4 (fun i k => g k i) U (by omega) hKU).inRound l) (fun x A B h => h.1) (fun h k => h.trans k) (span_b (by omega)) (fun _ => rfl)
      (fun pre2 U2 => (∃ v, Boxed U2 w6.heap.size 46 v ∧ U2.ownsRow (w4.heap.size + 1) 52 4 v (partL D (mulMN M f g) pre x.1 pre2).length ((partL D (mulMN M f g) pre x.1 pre2).flatMap cellsN) ∧ (∀ b, v.ownBlock = some b → (b < w6b.heap.size ∨ w7.heap.size ≤ b) ∧ (rowV M x).ownBlock ≠ some b))
        ∧ (Boxed U2 Bx 46 (rowV M x) ∧ (Rw 4 cellsN U2 (rowV M x) (rowM M f x.1) ∧ (Below w5.heap.size w5 U2 ∧ (w7.heap.size ≤ U2.heap.size ∧ (Span w6b.heap.size w7.heap.size U U2 ∧ (KeepsFrom w7.heap.size U U2 ∧ U.heap.size ≤ U2.heap.size)))))))
      (fun _ _ _ => False)
      (OwnFrom.and (Own.from (holdsRow_own (w4.heap.size + 1) w6.heap.size 46 52 4 (fun pre2 => (partL D (mulMN M f g) pre x.1 pre2).length) (fun pre2 => (partL D (mulMN M f g) pre x.1 pre2).flatMap cellsN) (fun _ v => ∀ b, v.ownBlock = some b → (b < w6b.heap.size ∨ w7.heap.size ≤ b) ∧ (rowV M x).ownBlock ≠ some b)) _)
        (OwnFrom.and (Own.from (boxed_own _ _ (fun _ => _)) _) (OwnFrom.and (own_rw _ _ _ _ _) (OwnFrom.and (ownFrom_below (Nat.le_refl _) (by have := b57.size; omega)) (OwnFrom.and (own_size _ _) (OwnFrom.and (own_span hsU (Nat.le_refl _)) (OwnFrom.and (ownFrom_keepsFrom (Nat.le_refl _)) (own_size _ _))))))))
      (fun _ _ _ _ _ hs _ _ => hs)
      ⟨⟨v1, HV1.out, by rw [partL_nil]; exact HR1.out, fun b hb => ⟨HG1.out b hb, fun e => (HNE.out b e).2 hb⟩⟩, HBX.out, HRX.out, hbU, hsU, Span.refl _ _ _, KeepsFrom.refl _ _, Nat.le_refl _⟩
      (fun a y a' U2 => y.1 < D ∧ Rw 4 cellsN U2 (rowV M y) (colM M g y.1) ∧ a' = { tmps := (((a.tmps.setIfInBounds 42 (.int .i64 y.1)).setIfInBounds 43 (rowV M y)).setIfInBounds 11 (rowV M y)), defers := [] })
      (fun y a' _ X Y row hs hg hr => ⟨hs.1, rw_own hs.2.1 hg (fun r e => (hr r e).2), hs.2.2⟩)
      ?assign2 ?body2 ?done2 ?stop2
    case assign2 =>
      rintro l2 pre2 y W0 U2 K' _ ⟨hbU2, hyD, hrow, _, _⟩ hI2 hK'
      have HK2 := hideP hK'
      have HI2 := hideP hI2
      clear hK' hI2
      gi_wp2
      exact HK2.out _ _ (KeepsFrom.refl _ _) (Span.refl _ _ _) HI2.out ⟨hyD, hrow, rfl⟩
    case body2 =>
      rintro l2 pre2 y a' U2 hl2 ⟨r2, hr2⟩ ⟨⟨v, hv, hrow, hgv⟩, hbx2, hrx2, hb5, hs7', hsp, hkf, hsU2⟩ ⟨hyD, hry, rfl⟩ hlt2
      simp only [List.setIfInBounds_toArray, List.set_cons_zero, List.set_cons_succ]
      gi_wp2_with fail
      have hC := fun u (hu : Bl U2 u) => vDotN (rowV M x) (rowV M y) (rowM M f x.1) (colM M g y.1) u (hrx2.later hu).q (hry.later hu).q (by rw [rowM_len]; omega) (by rw [colM_len]; omega)
      have hlen2 : (partL D (mulMN M f g) pre x.1 pre2).length ≤ 100000 := by rw [partL_len]; omega
      refine dotAppendN (ops := _) rfl (by kernel_rfl) 44 7 76 (by simp) (by omega) ⟨rfl, rfl, rfl⟩ ⟨rfl, rfl⟩ ⟨rfl, rfl⟩ ⟨rfl, rfl, rfl⟩ ⟨rfl, rfl, rfl⟩ ⟨rfl, rfl, rfl⟩ ⟨rfl, rfl, rfl⟩ ⟨by simp, by simp⟩ (by simp) ⟨by simp, by simp⟩ (by simp)
        (rowV M x) (rowV M y) (fun act u K' hfr hu hk => load_wp 46 (.tmp 9) rfl (by rw [hfr 9 (by omega)]; exact Tryz.load1N Bx _ u (boxed_bl hbx2 hu).cell) hk)
        (fun act u K' hfr hu hk => move_wp (.tmp 11) rfl (by rw [hfr 11 (by omega)]; exact hk))
        trivial (fun _ => by omega) (enters_of Tryz.func76 (by kernel_rfl) rfl) (mulMN M f g x.1 y.1)
        (fun u hu => CallsIn.inRound l2 (CallsIn.inRound l (callsIn_wide.2 (hC u hu))))
        w6.heap.size rfl v hv (w4.heap.size + 1) (partL D (mulMN M f g) pre x.1 pre2) hrow hlen2 (by omega) ?_
      intro act u0 w8 g' cap' k1 k2 k3 k4
      have hvu := boxed_bl hv k1
      have hru := own_blN hrow k1
      have hsu := k1.size
      have hu5 : w4.heap.size + 1 ≤ u0.heap.size := by omega
      obtain ⟨hv5, hv6, hr6, hk6, hb6⟩ := boxed_appended hvu (by decide) hru hu5 (by omega) k3 k2
      have hg8 := k2.size
      have hbb : ∀ b, (rowV M x).ownBlock = some b → b < U2.heap.size := hrx2.lt
      have hsB : Below w5.heap.size U2 (w8.setCell ⟨w6.heap.size, 0, none⟩ (.slice (some ⟨g', 0, none⟩) ((partL D (mulMN M f g) pre x.1 pre2).length + 1) cap')) := (k1.mono (by omega)).trans (by rw [hs5]; exact hb6)
      refine ⟨(k1.keeps _).trans (hk6.from _), ⟨by have := hsB.size; omega, fun k _ h2 => hsB.block k (by omega)⟩, ⟨_, hv6, ?_, ?_⟩, ?_, ?_, ?_, ?_, ?_, ?_, ?_⟩
      · rw [partL_snoc]
        simpa [List.flatMap_append] using hr6
      · intro b hb
        have hb' : g' = b := by cases hb; rfl
        subst hb'
        rcases k4 with h | h
        · exact hgv _ h.symm
        · exact ⟨.inr (by omega), fun e => by have := hbb _ e; omega⟩
      · exact ((boxed_bl hbx2 k1).kept k2 ((boxed_bl hbx2 k1).not_row (by decide) hru)).other (by omega) _
      · exact (hrx2.later k1).beside k2 (fun b hb => ⟨fun e => (hgv b e).2 hb, by have := (HNE.out b hb).1; omega⟩)
      · exact hb5.trans hsB
      · simp; omega
      · exact hsp.trans (span_appended k1 (by omega) (fun b hb => (hgv b hb).1) k2 (by omega))
      · exact hkf.trans ((k1.keeps _).trans (hk6.from _))
      · simp; omega
    case done2 =>
      rintro zs U2 hS ⟨⟨v, hv, hrow, hgv⟩, _, _, hb5, hs7', hsp, hkf, _⟩
      gi_wp2
      refine ⟨hkf, hsp, ⟨⟨v, hv, ?_, fun b hb => (hgv b hb).1⟩, hb5, hs7'⟩⟩
      rw [← partL_all D (mulMN M f g) pre x zs hS]
      exact hrow
    case stop2 =>
      rintro c pre2 U2 _ h
      exact h.elim
  case done =>
    rintro Dm zs U hD hS ⟨⟨v, hv, hrow, _⟩, hb5, hs7'⟩ hKD
    have e := rowsL_all D (mulMN M f g) zs hS
    rw [e] at hrow
    have RW := Rw.of_own cellsN_len hrow
    have FR : Fresh (w4.heap.size + 1) v := fun b hb => (hrow.lt b hb).1
    obtain ⟨p', cap', hv', _, _⟩ := RW.cut
    rw [mk_len, ← HN.out] at hv'
    subst hv'
    have hcl := hv.cell
    have HRW := hideP RW
    have HFR := hideP FR
    have HKD := hideP hKD
    obtain ⟨c0, c1, c2, f0, f1, f2, lt⟩ := mx5.later (show Bl w5 U from hb5)
    obtain ⟨d0, d1, d2, u0, u1, u2, ltm⟩ := my5.later (show Bl w5 U from hb5)
    obtain ⟨x0, x1, x2, y0, y1, y2, ltz⟩ := mz5.later (show Bl w5 U from hb5)
    have hbw : Bl w U := bw5.trans hb5
    clear hrow RW FR hKD hv
    gi_wp2
    have hs4 := h14.size
    have hdm : Dm ≠ w.heap.size + 1 + 1 := by omega
    have hKD2 : ((((U.setCell ⟨w.heap.size + 1 + 1, 0, none⟩ (.int .i64 R)).setCell ⟨w.heap.size + 1 + 1, 1, none⟩ (.int .i64 D)).setCell ⟨w.heap.size + 1 + 1, 2, none⟩ (.slice p' N cap'))).heap[Dm]? = some (.deferred (some [])) :=
      (((KeepsOthers.setCell _ _ _).trans (KeepsOthers.setCell _ _ _)).trans (KeepsOthers.setCell _ _ _)).same Dm _ HKD.out rfl
    refine ⟨by simp, .inl ⟨_, _, rfl, run_takeDeferred hKD2, ?_⟩⟩
    have mzf := MBox.fill (⟨x0, x1, x2, y0, y1, y2, ltz⟩ : MBox U (w.heap.size + 1 + 1) 0 0 none 0 0) R D p' N cap'
    have mzg := mbox_block (w' := World.putObj _ Dm (.deferred none)) mzf (World.putObj_heap_other (by omega)) (by simp [World.putObj])
    have blf := Bl.put3 hbw (n := w.heap.size + 1 + 1) (by omega) (.int .i64 R) (.int .i64 D) (.slice p' N cap')
    have rwf := ((HRW.out.set (p := ⟨w.heap.size + 1 + 1, 0, none⟩) (.int .i64 R) (fun b hb => by have := HFR.out b hb; show w.heap.size + 1 + 1 + 1 ≤ b; omega)).set (p := ⟨w.heap.size + 1 + 1, 1, none⟩) (.int .i64 D) (fun b hb => by have := HFR.out b hb; show w.heap.size + 1 + 1 + 1 ≤ b; omega)).set (p := ⟨w.heap.size + 1 + 1, 2, none⟩) (.slice p' N cap') (fun b hb => by have := HFR.out b hb; show w.heap.size + 1 + 1 + 1 ≤ b; omega)
    generalize ((U.setCell ⟨w.heap.size + 1 + 1, 0, none⟩ (.int .i64 R)).setCell ⟨w.heap.size + 1 + 1, 1, none⟩ (.int .i64 D)).setCell ⟨w.heap.size + 1 + 1, 2, none⟩ (.slice p' N cap') = Z at *
    have rwg : Rw 4 cellsN (Z.putObj Dm (.deferred none)) (.slice p' N cap') (mk R D (mulMN M f g)) := rw_own rwf (grownBy_putObj' _ Dm (.deferred none)) (fun r e => by cases e; exact ⟨_, hKD2, rfl⟩)
    have blg : Bl w (Z.putObj Dm (.deferred none)) := Below.trans blf (belowK_b (w := w) (Nat.le_refl _) Z Dm _ _ (by have := hbw.size; have := b57.size; omega) hKD2 rfl rfl)
    generalize Z.putObj Dm (.deferred none) = Y at *
    obtain ⟨a0, a1, a2, _, _, _, _⟩ := mzg
    refine ⟨.tuple #[mV R D p' N cap', .bool true], ?_, p', cap', rfl, ⟨⟨⟨hdR.r1, hdR.r2, hdD.c1, hdD.c2⟩, HN.out, rwg.q⟩, rwg, fun b hb => by have := HFR.out b hb; omega⟩, blg⟩
    simp [results, Tryz.results101, go_sem, a0, a1, a2]
  case stop =>
    rintro D' c pre U _ _ h _
    exact h.elim
end Go.Proofs.YtljmggemdkfbiaaGreat
