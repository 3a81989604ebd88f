/- Matrices of whole numbers, as fractions: contracts in the words of layer 6's laws; awake. -/
import Derived.Test.YtafjmogkiohjgaaGC
import Derived.Laws.EntriesVeiled
import Derived.Test.YtafjmogkiohjgaaGA
import Derived.Test.YtafjmogkiohjgaaVeM
import Derived.Test.YtafjmogkiohjgaaMa0
import Derived.Test.YtafjmogkiohjgaaVeAI
import Derived.Test.YtafjmogkiohjgaaWlr
/- mat's Mul, of fractions (layer 6). Written by genMa.py. -/
namespace Go.Proofs.Ytafjmogkiohjgaa
open Go.RowKit Go.Shelf
set_option linter.unusedSimpArgs false
set_option linter.unusedVariables false
attribute [local go_sem] Oper.semAt_some

/-- A product's number. -/
def mulMF (M : Nat) (f g : Nat → Nat → Fr) (i k : Nat) : Fr := dotF (rowM M f i) (colM M g k)
theorem own_blTF {w w' : World} {B n : Nat} {v : Value} {l : List Value} (h : w.ownsRow B 30 3 v n l) (k : Bl w w') : w'.ownsRow B 30 3 v n l := own_blF h k
set_option maxRecDepth 100000 in
set_option maxHeartbeats 4000000 in
theorem mMulF (R M D : Nat) (p : Option Addr) (n cap : Nat) (f : Nat → Nat → Fr) (q : Option Addr) (n2 cap2 : Nat) (g : Nat → Nat → Fr) (N : Nat) (w : World) (hx : Mx 3 cellsF w R M p n cap f) (hy : Mx 3 cellsF w M D q n2 cap2 g) (hN : N = R * D) :
    Calls Try.prog 8 #[mV R M p n cap, mV M D q n2 cap2] w fun e w' => ∃ p' cap', e = .returned (.tuple #[mV R D p' N cap', .bool true]) ∧ (Mx 3 cellsF w' R D p' N cap' (mulMF M f g) ∧ Rw 3 cellsF w' (.slice p' N cap') (mk R D (mulMF M f g)) ∧ Fresh w.heap.size (.slice p' N cap')) ∧ Bl w w' := by
  obtain ⟨i0, hi, hz0, hz1, hz2⟩ := info_parts Try.info_F
  refine (callsIn_wide (n := 8)).1 ?_
  have hfx := hx.fit
  have hfy := hy.fit
  have hdR := hx.1
  have hdD := hy.1
  have hRD : (R : Int) * (D : Int) = N := by rw [hN]; simp
  have hN256 : N ≤ 256 := by rw [hN]; exact Nat.mul_le_mul hdR.r2 hdD.c2
  have hM16 := hdR.c2
  have HN := hideP hN
  have HXm := hideP hx
  have HYm := hideP hy
  clear hN hx hy
  obtain ⟨W, hW⟩ : ∃ W, W = ((w.alloc (.cells #[.int .i64 R, .int .i64 M, .slice p n cap] 26)).alloc (.cells #[.int .i64 M, .int .i64 D, .slice q n2 cap2] 26)).alloc (.cells #[.int .i64 0, .int .i64 0, .slice none 0 0] 26) := ⟨_, rfl⟩
  have b0 : Bl w W := by rw [hW]; exact (((Bl.refl _).alloc _).alloc _).alloc _
  have mx0 : MBox W w.heap.size R M p n cap := by rw [hW]; exact (MBox.new w _ _ _ _ _ _).later (((Bl.refl _).alloc _).alloc _)
  have my0 : MBox W (w.heap.size + 1) M D q n2 cap2 := by rw [hW]; have := (MBox.new (w.alloc (.cells #[.int .i64 R, .int .i64 M, .slice p n cap] 26)) M D q n2 cap2 26); rw [World.size_alloc] at this; exact this.later ((Bl.refl _).alloc _)
  have mz0 : MBox W (w.heap.size + 1 + 1) 0 0 none 0 0 := by rw [hW]; have := MBox.new ((w.alloc (.cells #[.int .i64 R, .int .i64 M, .slice p n cap] 26)).alloc (.cells #[.int .i64 M, .int .i64 D, .slice q n2 cap2] 26)) 0 0 none 0 0 26; rw [World.size_alloc, World.size_alloc] at this; exact this
  have hs0 : W.heap.size = w.heap.size + 1 + 1 + 1 := by rw [hW]; simp
  have HW := hideP hW
  clear hW
  refine callsIn_of_wp_marks Try.func8 rfl trivial ?_ rfl
  simp only [Try.ntmps8, List.size_toArray, List.length_cons, List.length_nil, Nat.reduceAdd, Nat.reduceSub, Array.replicate_succ, Array.replicate_zero, List.push_toArray, List.append_toArray, List.nil_append, List.cons_append]
  gi_wp2_with fail
  rw [← HW.out]
  refine ⟨trivial, ?_⟩
  refine (callsIn_wide.2 (mRightF _ _ _ _ _ _)).mono ?_
  rintro e w1 ⟨rfl, h1⟩
  rw [hfx]
  have mx1 := mx0.later h1
  have my1 := my0.later h1
  obtain ⟨d0, d1, d2, u0, u1, u2, ltm⟩ := my1
  obtain ⟨c0, c1, c2, f0, f1, f2, lt⟩ := mx1
  gi_wp2_with fail
  refine ⟨trivial, ?_⟩
  refine (callsIn_wide.2 (mRightF _ _ _ _ _ _)).mono ?_
  rintro e w2 ⟨rfl, h2⟩
  rw [hfy]
  clear c0 c1 c2 f0 f1 f2 d0 d1 d2 u0 u1 u2 lt ltm
  obtain ⟨c0, c1, c2, f0, f1, f2, lt⟩ := mx0.later (h1.trans h2)
  obtain ⟨d0, d1, d2, u0, u1, u2, ltm⟩ := my0.later (h1.trans h2)
  gi_wp2_with fail
  refine ⟨trivial, ?_⟩
  refine (callsIn_wide.2 (mTurnF _ _ _ _ _ g _ (HYm.out.later ((b0.trans h1).trans h2)))).mono ?_
  rintro e w3 ⟨q1, cap3, rfl, ⟨hT, _, _⟩, h3⟩
  have HT := hideP hT
  clear hT c0 c1 c2 f0 f1 f2 d0 d1 d2 u0 u1 u2 lt ltm
  gi_wp2_with fail
  refine ⟨trivial, ?_⟩
  refine (callsIn_wide.2 (mAllF _ _ _ _ _ _ _ HT.out)).mono ?_
  rintro e w4 ⟨B1, q2, cap4, rfl, hK4, h4⟩
  have HK4 := hideP hK4
  clear hK4
  have h14 : Bl W w4 := ((h1.trans h2).trans h3).trans h4
  obtain ⟨w5, hw5⟩ : ∃ w5, w5 = w4.alloc (.cells #[.func (.func 31) #[] #[.pointer (some ⟨B1, 0, none⟩)]] 39) := ⟨_, rfl⟩
  have b45 : Bl w4 w5 := by rw [hw5]; exact (Bl.refl _).alloc _
  have hs5 : w5.heap.size = w4.heap.size + 1 := by rw [hw5]; simp
  have BC5 : Boxed w5 w4.heap.size 39 (.func (.func 31) #[] #[.pointer (some ⟨B1, 0, none⟩)]) := by rw [hw5]; exact Boxed.new w4 _ _
  have mx5 := mx0.later (h14.trans b45)
  have my5 := my0.later (h14.trans b45)
  have mz5 := mz0.later (h14.trans b45)
  have bw5 : Bl w w5 := (b0.trans h14).trans b45
  have HW5 := hideP hw5
  clear hw5
  obtain ⟨c0, c1, c2, f0, f1, f2, lt⟩ := mx0.later h14
  obtain ⟨d0, d1, d2, u0, u1, u2, ltm⟩ := my0.later h14
  gi_wp2_with (gi_at_make; refine wpListIn_make_own _ rfl _ _ 24 rfl (w4.heap.size + 1) 30 i0 (.agg #[.int .i64 0, .int .i64 0, .bool false]) 3 Try.underlying24 hi hz0 hz1 .i64 .i64 _ N rfl rfl (by simp) (by rw [hz2]; omega) (by unfold maxLen; omega) (by simp) ?_; intro w6 hown0 hgrow0; rw [← HW5.out] at hown0 hgrow0; have mx6 := mbox_block mx5 (hgrow0.block _ mx5.lt nofun) hgrow0.size; clear c0 c1 c2 f0 f1 f2 d0 d1 d2 u0 u1 u2 lt ltm; obtain ⟨c0, c1, c2, f0, f1, f2, lt⟩ := mx6)
  have h56 : Bl w5 w6 := ⟨hgrow0.os, hgrow0.tape, hgrow0.output, hgrow0.size, fun k hk => hgrow0.block k hk nofun⟩
  have hs6 : w5.heap.size ≤ w6.heap.size := hgrow0.size
  obtain ⟨w6b, hw6b⟩ : ∃ w6b, w6b = w6.alloc (.cells #[.slice (some ⟨w4.heap.size + 1, 0, none⟩) 0 N] 24) := ⟨_, rfl⟩
  have h6b : Bl w6 w6b := by rw [hw6b]; exact (Bl.refl _).alloc _
  have hs6b : w6b.heap.size = w6.heap.size + 1 := by rw [hw6b]; simp
  have bl6 : Boxed w6b w6.heap.size 24 (.slice (some ⟨w4.heap.size + 1, 0, none⟩) 0 N) := by rw [hw6b]; exact Boxed.new w6 _ _
  have hown6 : w6b.ownsRow (w4.heap.size + 1) 30 3 (.slice (some ⟨w4.heap.size + 1, 0, none⟩) 0 N) 0 [] := by
    rw [hs5] at hown0
    exact own_blF hown0 h6b
  have HW6 := hideP hw6b
  clear hw6b hown0 hgrow0 c0 c1 c2 f0 f1 f2 lt
  rw [← HW6.out]
  refine ⟨trivial, ?_⟩
  refine (callsIn_wide.2 (mAllF _ _ _ _ _ f _ (HXm.out.later ((bw5.trans h56).trans h6b)))).mono ?_
  rintro e w7 ⟨B2, p2, cap5, rfl, hK7, h7⟩
  have HK7 := hideP hK7
  clear hK7
  have hs7 : w6.heap.size + 1 ≤ w7.heap.size := by have := h7.size; omega
  have b57 : Below w5.heap.size w5 w7 := (h56.trans h6b).trans h7
  have bl7 := boxed_bl bl6 h7
  have own7 := own_blF hown6 h7
  clear bl6 hown6
  have K4at : ∀ u, Below w5.heap.size w5 u → KeptIn 3 cellsF u w3.heap.size w4.heap.size B1 D M q2 n2 cap4 (fun i k => g k i) := fun u hu =>
    (HK4.out.later (Bl.span b45 (Nat.le_refl _))).later (Bl.span (show Bl w5 u from hu) (by omega))
  have HKA := hideP K4at
  clear K4at
  gi_wp2_with fail
  refine rangeV rfl (by omega) (gf := 31) (lb := #[.pointer (some ⟨B2, 0, none⟩)]) rfl trivial (enters_of Try.func31 (by kernel_rfl) rfl)
    (seqMF 7 B2 _ w7.heap.size R M p2 n cap5 f w7 (Nat.le_refl _) HK7.out) (fun x A B h => h.1) (fun h k => h.trans k) (span_b (Nat.le_refl _)) (fun _ => rfl)
    (fun pre U => (∃ v, Boxed U w6.heap.size 24 v ∧ U.ownsRow (w4.heap.size + 1) 30 3 v (rowsL D (mulMF M f g) pre).length ((rowsL D (mulMF M f g) pre).flatMap cellsF) ∧ (∀ b, v.ownBlock = some b → b < w6b.heap.size ∨ w7.heap.size ≤ b)) ∧ (Below w5.heap.size w5 U ∧ w7.heap.size ≤ U.heap.size))
    (fun _ _ _ => False)
    (OwnFrom.and (Own.from (holdsRow_own (w4.heap.size + 1) w6.heap.size 24 30 3 (fun pre => (rowsL D (mulMF M f g) pre).length) (fun pre => (rowsL D (mulMF M f g) pre).flatMap cellsF) (fun _ v => ∀ b, v.ownBlock = some b → b < w6b.heap.size ∨ w7.heap.size ≤ b)) _) (OwnFrom.and (ownFrom_below (Nat.le_refl _) b57.size) (own_size _ _)))
    (fun _ _ _ _ _ hs _ _ => hs)
    ⟨⟨_, bl7, own7, fun b hb => by cases hb; exact .inl (by show w4.heap.size + 1 < _; omega)⟩, b57, Nat.le_refl _⟩
    (fun a x a' U => ∃ Bx v, w7.heap.size ≤ Bx ∧ Boxed U Bx 24 (rowV M x) ∧ Rw 3 cellsF U (rowV M x) (rowM M f x.1) ∧ Boxed U w6.heap.size 24 v ∧ (∀ b, (rowV M x).ownBlock = some b → w7.heap.size ≤ b ∧ v.ownBlock ≠ some b)
      ∧ a' = { tmps := (((a.tmps.setIfInBounds 39 (.int .i64 x.1)).setIfInBounds 40 (rowV M x)).setIfInBounds 9 (.pointer (some ⟨Bx, 0, none⟩))), defers := [] })
    (fun x a' _ X Y row hs hg hr => by obtain ⟨Bx, v, h0, h1, h2, h3, h4, h5⟩ := hs; exact ⟨Bx, v, h0, (Own.from (boxed_own (β := Unit) _ _ (fun _ => _)) _) () _ _ _ h1 hg hr, rw_own h2 hg (fun r e => (hr r e).2), (Own.from (boxed_own (β := Unit) _ _ (fun _ => _)) _) () _ _ _ h3 hg hr, h4, h5⟩)
    ?assign ?body ?done ?stop
  case assign =>
    rintro l pre x W0 U K' ⟨⟨v0, hv0, hr0, _⟩, _, hs0'⟩ ⟨hbU, hxR, hrow, hfr, hcc⟩ ⟨⟨v, hv, hr, hg⟩, hbU5, hsU⟩ hK'
    have HK2 := hideP hK'
    clear hK'
    have hvv : v0 = v := by
      have e1 := (boxed_bl hv0 hbU).cell
      rw [hv.cell] at e1
      exact (Option.some.inj e1).symm
    subst hvv
    have hfw : ∀ b, (rowV M x).ownBlock = some b → w7.heap.size ≤ b ∧ v0.ownBlock ≠ some b := fun b hb => ⟨by have := hfr b hb; omega, fun e => by have := (hr0.lt b e).2; have := hfr b hb; omega⟩
    gi_wp2
    have hb2 : Bl U (U.alloc (.cells #[.slice x.2.1 M x.2.2] 24)) := (Bl.refl U).alloc _
    refine HK2.out _ _ (hb2.keeps _) (hb2.span hsU) ⟨⟨v0, hv.alloc _, hr.alloc _, hg⟩, hbU5.trans (hb2.mono hbU5.size), by have := hb2.size; omega⟩ ⟨U.heap.size, v0, hsU, Boxed.new U _ _, hrow.later hb2, hv.alloc _, hfw, ?_⟩
    rfl
  case body =>
    rintro l pre x a' U hl' ⟨r, hr'⟩ ⟨⟨v1, hv1, hrow1, hg1⟩, hbU, hsU⟩ ⟨Bx, v2, hBx, hbx, hrx, hv2, hne, rfl⟩ hlt
    have hvv : v1 = v2 := by
      have e1 := hv1.cell
      rw [hv2.cell] at e1
      exact (Option.some.inj e1).symm
    subst hvv
    have fm : Try.prog.follows .mixedOrders = true := by kernel_rfl
    simp only [List.setIfInBounds_toArray, List.set_cons_zero, List.set_cons_succ]
    have hcl := (boxed_bl (show Boxed w5 _ _ _ from BC5) hbU).cell
    have hKU := HKA.out U hbU
    have HR1 := hideP hrow1
    have HV1 := hideP hv1
    have HBX := hideP hbx
    have HRX := hideP hrx
    have HNE := hideP hne
    have HG1 := hideP hg1
    have hlx : pre.length * D + D ≤ 256 := by
      have h1 : (pre.length + 1) * D ≤ R * D := Nat.mul_le_mul_right _ hlt
      have := HN.out
      rw [Nat.succ_mul] at h1
      omega
    clear hrow1 hv1 hbx hrx hne hg1 hv2
    gi_wp2_with fail
    clear hcl
    refine rangeVin (l₀ := l) (r₀ := r) rfl hr' (by omega) (gf := 31) (lb := #[.pointer (some ⟨B1, 0, none⟩)]) rfl trivial (enters_of Try.func31 (by kernel_rfl) rfl)
      ((seqMF 5 B1 w3.heap.size w4.heap.size D M q2 n2 cap4 (fun i k => g k i) U (by omega) hKU).inRound l) (fun x A B h => h.1) (fun h k => h.trans k) (span_b (by omega)) (fun _ => rfl)
      (fun pre2 U2 => (∃ v, Boxed U2 w6.heap.size 24 v ∧ U2.ownsRow (w4.heap.size + 1) 30 3 v (partL D (mulMF M f g) pre x.1 pre2).length ((partL D (mulMF M f g) pre x.1 pre2).flatMap cellsF) ∧ (∀ b, v.ownBlock = some b → (b < w6b.heap.size ∨ w7.heap.size ≤ b) ∧ (rowV M x).ownBlock ≠ some b))
        ∧ (Boxed U2 Bx 24 (rowV M x) ∧ (Rw 3 cellsF U2 (rowV M x) (rowM M f x.1) ∧ (Below w5.heap.size w5 U2 ∧ (w7.heap.size ≤ U2.heap.size ∧ (Span w6b.heap.size w7.heap.size U U2 ∧ (KeepsFrom w7.heap.size U U2 ∧ U.heap.size ≤ U2.heap.size)))))))
      (fun _ _ _ => False)
      (OwnFrom.and (Own.from (holdsRow_own (w4.heap.size + 1) w6.heap.size 24 30 3 (fun pre2 => (partL D (mulMF M f g) pre x.1 pre2).length) (fun pre2 => (partL D (mulMF M f g) pre x.1 pre2).flatMap cellsF) (fun _ v => ∀ b, v.ownBlock = some b → (b < w6b.heap.size ∨ w7.heap.size ≤ b) ∧ (rowV M x).ownBlock ≠ some b)) _)
        (OwnFrom.and (Own.from (boxed_own _ _ (fun _ => _)) _) (OwnFrom.and (own_rw _ _ _ _ _) (OwnFrom.and (ownFrom_below (Nat.le_refl _) (by have := b57.size; omega)) (OwnFrom.and (own_size _ _) (OwnFrom.and (own_span hsU (Nat.le_refl _)) (OwnFrom.and (ownFrom_keepsFrom (Nat.le_refl _)) (own_size _ _))))))))
      (fun _ _ _ _ _ hs _ _ => hs)
      ⟨⟨v1, HV1.out, by rw [partL_nil]; exact HR1.out, fun b hb => ⟨HG1.out b hb, fun e => (HNE.out b e).2 hb⟩⟩, HBX.out, HRX.out, hbU, hsU, Span.refl _ _ _, KeepsFrom.refl _ _, Nat.le_refl _⟩
      (fun a y a' U2 => y.1 < D ∧ Rw 3 cellsF U2 (rowV M y) (colM M g y.1) ∧ a' = { tmps := (((a.tmps.setIfInBounds 42 (.int .i64 y.1)).setIfInBounds 43 (rowV M y)).setIfInBounds 11 (rowV M y)), defers := [] })
      (fun y a' _ X Y row hs hg hr => ⟨hs.1, rw_own hs.2.1 hg (fun r e => (hr r e).2), hs.2.2⟩)
      ?assign2 ?body2 ?done2 ?stop2
    case assign2 =>
      rintro l2 pre2 y W0 U2 K' _ ⟨hbU2, hyD, hrow, _, _⟩ hI2 hK'
      have HK2 := hideP hK'
      have HI2 := hideP hI2
      clear hK' hI2
      gi_wp2
      exact HK2.out _ _ (KeepsFrom.refl _ _) (Span.refl _ _ _) HI2.out ⟨hyD, hrow, rfl⟩
    case body2 =>
      rintro l2 pre2 y a' U2 hl2 ⟨r2, hr2⟩ ⟨⟨v, hv, hrow, hgv⟩, hbx2, hrx2, hb5, hs7', hsp, hkf, hsU2⟩ ⟨hyD, hry, rfl⟩ hlt2
      simp only [List.setIfInBounds_toArray, List.set_cons_zero, List.set_cons_succ]
      gi_wp2_with fail
      have hC := fun u (hu : Bl U2 u) => vDotF (rowV M x) (rowV M y) (rowM M f x.1) (colM M g y.1) u (hrx2.later hu).q (hry.later hu).q (by rw [rowM_len]; omega) (by rw [colM_len]; omega)
      have hlen2 : (partL D (mulMF M f g) pre x.1 pre2).length ≤ 100000 := by rw [partL_len]; omega
      refine dotAppendF (ops := _) rfl (by kernel_rfl) 44 7 21 (by simp) (by omega) ⟨rfl, rfl, rfl⟩ ⟨rfl, rfl⟩ ⟨rfl, rfl⟩ ⟨rfl, rfl, rfl⟩ ⟨rfl, rfl, rfl⟩ ⟨rfl, rfl, rfl⟩ ⟨rfl, rfl, rfl⟩ ⟨by simp, by simp⟩ (by simp) ⟨by simp, by simp⟩ (by simp)
        (rowV M x) (rowV M y) (fun act u K' hfr hu hk => load_wp 24 (.tmp 9) rfl (by rw [hfr 9 (by omega)]; exact Try.load1F Bx _ u (boxed_bl hbx2 hu).cell) hk)
        (fun act u K' hfr hu hk => move_wp (.tmp 11) rfl (by rw [hfr 11 (by omega)]; exact hk))
        trivial (fun _ => by omega) (enters_of Try.func21 (by kernel_rfl) rfl) (mulMF M f g x.1 y.1)
        (fun u hu => CallsIn.inRound l2 (CallsIn.inRound l (callsIn_wide.2 (hC u hu))))
        w6.heap.size rfl v hv (w4.heap.size + 1) (partL D (mulMF M f g) pre x.1 pre2) hrow hlen2 (by omega) ?_
      intro act u0 w8 g' cap' k1 k2 k3 k4
      have hvu := boxed_bl hv k1
      have hru := own_blF hrow k1
      have hsu := k1.size
      have hu5 : w4.heap.size + 1 ≤ u0.heap.size := by omega
      obtain ⟨hv5, hv6, hr6, hk6, hb6⟩ := boxed_appended hvu (by decide) hru hu5 (by omega) k3 k2
      have hg8 := k2.size
      have hbb : ∀ b, (rowV M x).ownBlock = some b → b < U2.heap.size := hrx2.lt
      have hsB : Below w5.heap.size U2 (w8.setCell ⟨w6.heap.size, 0, none⟩ (.slice (some ⟨g', 0, none⟩) ((partL D (mulMF M f g) pre x.1 pre2).length + 1) cap')) := (k1.mono (by omega)).trans (by rw [hs5]; exact hb6)
      refine ⟨(k1.keeps _).trans (hk6.from _), ⟨by have := hsB.size; omega, fun k _ h2 => hsB.block k (by omega)⟩, ⟨_, hv6, ?_, ?_⟩, ?_, ?_, ?_, ?_, ?_, ?_, ?_⟩
      · rw [partL_snoc]
        simpa [List.flatMap_append] using hr6
      · intro b hb
        have hb' : g' = b := by cases hb; rfl
        subst hb'
        rcases k4 with h | h
        · exact hgv _ h.symm
        · exact ⟨.inr (by omega), fun e => by have := hbb _ e; omega⟩
      · exact ((boxed_bl hbx2 k1).kept k2 ((boxed_bl hbx2 k1).not_row (by decide) hru)).other (by omega) _
      · exact (hrx2.later k1).beside k2 (fun b hb => ⟨fun e => (hgv b e).2 hb, by have := (HNE.out b hb).1; omega⟩)
      · exact hb5.trans hsB
      · simp; omega
      · exact hsp.trans (span_appended k1 (by omega) (fun b hb => (hgv b hb).1) k2 (by omega))
      · exact hkf.trans ((k1.keeps _).trans (hk6.from _))
      · simp; omega
    case done2 =>
      rintro zs U2 hS ⟨⟨v, hv, hrow, hgv⟩, _, _, hb5, hs7', hsp, hkf, _⟩
      gi_wp2
      refine ⟨hkf, hsp, ⟨⟨v, hv, ?_, fun b hb => (hgv b hb).1⟩, hb5, hs7'⟩⟩
      rw [← partL_all D (mulMF M f g) pre x zs hS]
      exact hrow
    case stop2 =>
      rintro c pre2 U2 _ h
      exact h.elim
  case done =>
    rintro Dm zs U hD hS ⟨⟨v, hv, hrow, _⟩, hb5, hs7'⟩ hKD
    have e := rowsL_all D (mulMF M f g) zs hS
    rw [e] at hrow
    have RW := Rw.of_own cellsF_len hrow
    have FR : Fresh (w4.heap.size + 1) v := fun b hb => (hrow.lt b hb).1
    obtain ⟨p', cap', hv', _, _⟩ := RW.cut
    rw [mk_len, ← HN.out] at hv'
    subst hv'
    have hcl := hv.cell
    have HRW := hideP RW
    have HFR := hideP FR
    have HKD := hideP hKD
    obtain ⟨c0, c1, c2, f0, f1, f2, lt⟩ := mx5.later (show Bl w5 U from hb5)
    obtain ⟨d0, d1, d2, u0, u1, u2, ltm⟩ := my5.later (show Bl w5 U from hb5)
    obtain ⟨x0, x1, x2, y0, y1, y2, ltz⟩ := mz5.later (show Bl w5 U from hb5)
    have hbw : Bl w U := bw5.trans hb5
    clear hrow RW FR hKD hv
    gi_wp2
    have hs4 := h14.size
    have hdm : Dm ≠ w.heap.size + 1 + 1 := by omega
    have hKD2 : ((((U.setCell ⟨w.heap.size + 1 + 1, 0, none⟩ (.int .i64 R)).setCell ⟨w.heap.size + 1 + 1, 1, none⟩ (.int .i64 D)).setCell ⟨w.heap.size + 1 + 1, 2, none⟩ (.slice p' N cap'))).heap[Dm]? = some (.deferred (some [])) :=
      (((KeepsOthers.setCell _ _ _).trans (KeepsOthers.setCell _ _ _)).trans (KeepsOthers.setCell _ _ _)).same Dm _ HKD.out rfl
    refine ⟨by simp, .inl ⟨_, _, rfl, run_takeDeferred hKD2, ?_⟩⟩
    have mzf := MBox.fill (⟨x0, x1, x2, y0, y1, y2, ltz⟩ : MBox U (w.heap.size + 1 + 1) 0 0 none 0 0) R D p' N cap'
    have mzg := mbox_block (w' := World.putObj _ Dm (.deferred none)) mzf (World.putObj_heap_other (by omega)) (by simp [World.putObj])
    have blf := Bl.put3 hbw (n := w.heap.size + 1 + 1) (by omega) (.int .i64 R) (.int .i64 D) (.slice p' N cap')
    have rwf := ((HRW.out.set (p := ⟨w.heap.size + 1 + 1, 0, none⟩) (.int .i64 R) (fun b hb => by have := HFR.out b hb; show w.heap.size + 1 + 1 + 1 ≤ b; omega)).set (p := ⟨w.heap.size + 1 + 1, 1, none⟩) (.int .i64 D) (fun b hb => by have := HFR.out b hb; show w.heap.size + 1 + 1 + 1 ≤ b; omega)).set (p := ⟨w.heap.size + 1 + 1, 2, none⟩) (.slice p' N cap') (fun b hb => by have := HFR.out b hb; show w.heap.size + 1 + 1 + 1 ≤ b; omega)
    generalize ((U.setCell ⟨w.heap.size + 1 + 1, 0, none⟩ (.int .i64 R)).setCell ⟨w.heap.size + 1 + 1, 1, none⟩ (.int .i64 D)).setCell ⟨w.heap.size + 1 + 1, 2, none⟩ (.slice p' N cap') = Z at *
    have rwg : Rw 3 cellsF (Z.putObj Dm (.deferred none)) (.slice p' N cap') (mk R D (mulMF M f g)) := rw_own rwf (grownBy_putObj' _ Dm (.deferred none)) (fun r e => by cases e; exact ⟨_, hKD2, rfl⟩)
    have blg : Bl w (Z.putObj Dm (.deferred none)) := Below.trans blf (belowK_b (w := w) (Nat.le_refl _) Z Dm _ _ (by have := hbw.size; have := b57.size; omega) hKD2 rfl rfl)
    generalize Z.putObj Dm (.deferred none) = Y at *
    obtain ⟨a0, a1, a2, _, _, _, _⟩ := mzg
    refine ⟨.tuple #[mV R D p' N cap', .bool true], ?_, p', cap', rfl, ⟨⟨⟨hdR.r1, hdR.r2, hdD.c1, hdD.c2⟩, HN.out, rwg.q⟩, rwg, fun b hb => by have := HFR.out b hb; omega⟩, blg⟩
    simp [results, Try.results8, go_sem, a0, a1, a2]
  case stop =>
    rintro D' c pre U _ _ h _
    exact h.elim
end Go.Proofs.Ytafjmogkiohjgaa

/- mat's Mul of what does not go together, of fractions (layer 6). Written by genMa.py. -/
namespace Go.Proofs.Ytafjmogkiohjgaa
open Go.RowKit
set_option linter.unusedSimpArgs false
set_option linter.unusedVariables false

theorem mMulF_no (r c r2 c2 : Int) (p : Option Addr) (n cap : Nat) (q : Option Addr) (n2 cap2 : Nat) (w : World) (h : fitB r c n = false ∨ fitB r2 c2 n2 = false ∨ c ≠ r2) :
    Calls Try.prog 8 #[mV r c p n cap, mV r2 c2 q n2 cap2] w fun e w' => e = .returned (.tuple #[mV 0 0 none 0 0, .bool false]) ∧ Bl w w' := by
  obtain ⟨W, hW⟩ : ∃ W, W = ((w.alloc (.cells #[.int .i64 r, .int .i64 c, .slice p n cap] 26)).alloc (.cells #[.int .i64 r2, .int .i64 c2, .slice q n2 cap2] 26)).alloc (.cells #[.int .i64 0, .int .i64 0, .slice none 0 0] 26) := ⟨_, rfl⟩
  have b0 : Bl w W := by rw [hW]; exact (((Bl.refl _).alloc _).alloc _).alloc _
  have mx0 : MBox W w.heap.size r c p n cap := by rw [hW]; exact (MBox.new w _ _ _ _ _ _).later (((Bl.refl _).alloc _).alloc _)
  have my0 : MBox W (w.heap.size + 1) r2 c2 q n2 cap2 := by rw [hW]; have := (MBox.new (w.alloc (.cells #[.int .i64 r, .int .i64 c, .slice p n cap] 26)) r2 c2 q n2 cap2 26); rw [World.size_alloc] at this; exact this.later ((Bl.refl _).alloc _)
  have mz0 : MBox W (w.heap.size + 1 + 1) 0 0 none 0 0 := by rw [hW]; have := MBox.new ((w.alloc (.cells #[.int .i64 r, .int .i64 c, .slice p n cap] 26)).alloc (.cells #[.int .i64 r2, .int .i64 c2, .slice q n2 cap2] 26)) 0 0 none 0 0 26; rw [World.size_alloc, World.size_alloc] at this; exact this
  have HW := hideP hW
  clear hW
  cases hfx : fitB r c n with
  | false =>
    clear h
    go_enter Try.func8, Try.ntmps8
    go_wp2_with fail
    rw [← HW.out]
    refine (mRightF _ _ _ _ _ _).mono ?_
    rintro e w1 ⟨rfl, h1⟩
    rw [hfx]
    obtain ⟨c0, c1, c2, f0, f1, f2, lt⟩ := mz0.later h1
    go_wp2
    simp [bodyPost, results, Try.results8, go_sem, c0, c1, c2]
    exact Bl.put3 (b0.trans h1) (by omega) _ _ _
  | true =>
    cases hfy : fitB r2 c2 n2 with
    | false =>
      clear h
      go_enter Try.func8, Try.ntmps8
      go_wp2_with fail
      rw [← HW.out]
      refine (mRightF _ _ _ _ _ _).mono ?_
      rintro e w1 ⟨rfl, h1⟩
      rw [hfx]
      obtain ⟨d0, d1, d2, u0, u1, u2, ltm⟩ := my0.later h1
      go_wp2_with fail
      refine (mRightF _ _ _ _ _ _).mono ?_
      rintro e w2 ⟨rfl, h2⟩
      rw [hfy]
      clear d0 d1 d2 u0 u1 u2 ltm
      obtain ⟨c0, c1, c2, f0, f1, f2, lt⟩ := mz0.later (h1.trans h2)
      go_wp2
      simp [bodyPost, results, Try.results8, go_sem, c0, c1, c2]
      exact Bl.put3 (b0.trans (h1.trans h2)) (by omega) _ _ _
    | true =>
      have hne : c ≠ r2 := by rcases h with h | h | h; · rw [hfx] at h; cases h
                              · rw [hfy] at h; cases h
                              · exact h
      have hne' : (c == r2) = false := by simpa using hne
      clear h
      go_enter Try.func8, Try.ntmps8
      go_wp2_with fail
      rw [← HW.out]
      refine (mRightF _ _ _ _ _ _).mono ?_
      rintro e w1 ⟨rfl, h1⟩
      rw [hfx]
      obtain ⟨d0, d1, d2, u0, u1, u2, ltm⟩ := my0.later h1
      go_wp2_with fail
      refine (mRightF _ _ _ _ _ _).mono ?_
      rintro e w2 ⟨rfl, h2⟩
      rw [hfy]
      clear d0 d1 d2 u0 u1 u2 ltm
      obtain ⟨d0, d1, d2, u0, u1, u2, ltm⟩ := my0.later (h1.trans h2)
      obtain ⟨a0, a1, a2, v0, v1, v2, lta⟩ := mx0.later (h1.trans h2)
      obtain ⟨c0, c1, c2, f0, f1, f2, lt⟩ := mz0.later (h1.trans h2)
      go_wp2
      simp [bodyPost, results, Try.results8, go_sem, c0, c1, c2]
      exact Bl.put3 (b0.trans (h1.trans h2)) (by omega) _ _ _
end Go.Proofs.Ytafjmogkiohjgaa

/- What layer 5's laws ask with: Few, the document's Dot, awake. -/
namespace Go.Proofs.Ytafjmogkiohjgaa
open Go.RowKit
set_option linter.unusedSimpArgs false
set_option linter.unusedVariables false

/-- A whole number's cells. -/
abbrev cI : Int → List Value := fun n => [.int .i64 n]
theorem cellI {w wr : World} {b o : Nat} {ns : List Int} (HX : ∀ j x, ns[j]? = some x → ∀ k u, (cI x)[k]? = some u → w.cell? ⟨b, o + j * 1 + k, none⟩ = some u) {k : Nat} {x : Int} (hx : ns[k]? = some x) : w.cell? ⟨b, o + k, none⟩ = some (.int .i64 x) := by
  have := HX k x hx 0 _ rfl
  simpa using this
/-- What Few tells. -/
def FewP (ns : List Int) (w : World) (e : Ending) (w' : World) : Prop := ∃ b, e = .returned (.bool b) ∧ (b = true → ns.length ≤ 20 ∧ Sml 1000 ns) ∧ w' = w
theorem fewP {ns : List Int} {w : World} (b : Bool) (h : b = true → ns.length ≤ 20 ∧ Sml 1000 ns) : FewP ns w (.returned (.bool b)) w := ⟨b, rfl, h, rfl⟩
/-- The world behind awake's two rows of whole numbers. -/
theorem rq_new2 (w : World) (x y : Int) (t : TypeId) : Rq 1 cI (w.alloc (.cells #[.int .i64 x, .int .i64 y] t)) (.slice (some ⟨w.heap.size, 0, none⟩) 2 2) [x, y] := by
  refine .inr ⟨w.heap.size, 0, 2, rfl, Nat.le_refl _, by simp, fun j z hj k u hu => ?_⟩
  rcases k with _ | k
  · simp at hu
    subst hu
    rcases j with _ | _ | j
    · simp at hj; subst hj; simp [go_sem]
    · simp at hj; subst hj; simp [go_sem]
    · simp at hj
  · simp at hu
theorem dotI_snoc (xs ys : List Int) (k : Nat) (x y : Int) (hx : xs[k]? = some x) (hy : ys[k]? = some y) : dotI (xs.take (k + 1)) (ys.take (k + 1)) = dotI (xs.take k) (ys.take k) + x * y := by
  have h1 := (List.getElem?_eq_some_iff.1 hx).1
  have h2 := (List.getElem?_eq_some_iff.1 hy).1
  unfold dotI
  rw [List.take_add_one, List.take_add_one, hx, hy, List.zipWith_append (by simp; omega)]
  simp
theorem dotI_take (xs ys : List Int) (k : Nat) (h : k = min xs.length ys.length) : dotI (xs.take k) (ys.take k) = dotI xs ys := by
  unfold dotI
  congr 1
  subst h
  rw [List.zipWith_eq_zipWith_take_min (l₁ := xs)]
theorem sum_few {ns : List Int} (h : Sml 1000 ns) (hl : ns.length ≤ 20) : sumF (ns.map wholeF) = itF ns.sum := by
  rw [wholes_it ns h (by omega)]
  exact sum_it ns h (by omega) (by omega)
end Go.Proofs.Ytafjmogkiohjgaa

/- Contracts in the words of layer 5's laws: few whole numbers, as fractions; awake. -/
namespace Go.Proofs.Ytafjmogkiohjgaa
open Go.RowKit
set_option linter.unusedSimpArgs false
set_option linter.unusedVariables false

theorem eqR_self (r : Fr) : eqR r r = true := eqR_iff.2 rfl
theorem eql_selfV (r : Fr) (w : World) : (binOp .eql 30 (frV r) (frV r)).run Try.prog w = .ok (.bool true) w := by rw [eql_fr, eqR_self]
theorem new_few {n : Int} (h : Wh n) (w : World) : Calls Try.prog 12 #[.int .i64 n, .int .i64 1] w fun e w' => e = .returned (frV (itF n)) ∧ Bl w w' := by
  rw [← new_it h]
  exact new_any n 1 w
/-- A row of whole numbers. -/
abbrev RwI (w : World) (v : Value) (ns : List Int) : Prop := Rw 3 cellsF w v (ns.map itF)
theorem rw_slice {w : World} {v : Value} {ns : List Int} (h : RwI w v ns) : ∃ p c, v = .slice p ns.length c ∧ ns.length ≤ c := by
  obtain ⟨p, c, e, h1, _⟩ := h.cut
  rw [List.length_map] at e h1
  exact ⟨p, c, e, h1⟩
theorem whole_few (v : Value) (ns : List Int) (w : World) (h : Rq 1 cI w v ns) (hs : Sml 1000 ns) (hl : ns.length ≤ 20) :
    Calls Try.prog 14 #[v] w fun e w' => ∃ p c, e = .returned (.slice p ns.length c) ∧ (RwI w' (.slice p ns.length c) ns ∧ ns.length ≤ c) ∧ Bl w w' := by
  refine (vWholeF v ns w h (by omega)).mono ?_
  rintro e w' ⟨u, rfl, hr, hb⟩
  rw [wholes_it ns hs (by omega)] at hr
  obtain ⟨p, c, rfl, hc⟩ := rw_slice hr
  exact ⟨p, c, rfl, ⟨hr, hc⟩, hb⟩
theorem add_few (va vb : Value) (xs ys : List Int) (w : World) (ha : RwI w va xs) (hb : RwI w vb ys) (hx : Sml 1000 xs) (hy : Sml 1000 ys) (hl : xs.length ≤ 20) (hm : ys.length ≤ 20) :
    Calls Try.prog 66 #[va, vb] w fun e w' => ∃ p c, e = .returned (.slice p (min xs.length ys.length) c) ∧ (RwI w' (.slice p (min xs.length ys.length) c) (List.zipWith (· + ·) xs ys) ∧ min xs.length ys.length ≤ c) ∧ Bl w w' := by
  refine (vAddF va vb _ _ w ha.q hb.q (by simp; omega) (by simp; omega)).mono ?_
  rintro e w' ⟨u, rfl, hr, hb⟩
  rw [adds_it (A := 1000) (B := 1000) (by omega) (by omega) (by omega) xs ys hx hy] at hr
  obtain ⟨p, c, rfl, hc⟩ := rw_slice hr
  rw [List.length_zipWith] at hr hc ⊢
  exact ⟨p, c, rfl, ⟨hr, hc⟩, hb⟩
theorem sub_few (va vb : Value) (xs ys : List Int) (w : World) (ha : RwI w va xs) (hb : RwI w vb ys) (hx : Sml 1000 xs) (hy : Sml 1000 ys) (hl : xs.length ≤ 20) (hm : ys.length ≤ 20) :
    Calls Try.prog 43 #[va, vb] w fun e w' => ∃ p c, e = .returned (.slice p (min xs.length ys.length) c) ∧ (RwI w' (.slice p (min xs.length ys.length) c) (List.zipWith (· - ·) xs ys) ∧ min xs.length ys.length ≤ c) ∧ Bl w w' := by
  refine (vSubF va vb _ _ w ha.q hb.q (by simp; omega) (by simp; omega)).mono ?_
  rintro e w' ⟨u, rfl, hr, hb⟩
  rw [subs_it (A := 1000) (B := 1000) (by omega) (by omega) (by omega) xs ys hx hy] at hr
  obtain ⟨p, c, rfl, hc⟩ := rw_slice hr
  rw [List.length_zipWith] at hr hc ⊢
  exact ⟨p, c, rfl, ⟨hr, hc⟩, hb⟩
theorem scale_few (v : Value) (xs : List Int) (b : Int) (w : World) (h : RwI w v xs) (hx : Sml 1000 xs) (hb : -1000 ≤ b ∧ b ≤ 1000) (hl : xs.length ≤ 20) :
    Calls Try.prog 44 #[v, frV (itF b)] w fun e w' => ∃ p c, e = .returned (.slice p xs.length c) ∧ (RwI w' (.slice p xs.length c) (xs.map (· * b)) ∧ xs.length ≤ c) ∧ Bl w w' := by
  refine (vScaleF v _ (itF b) w h (by simp; omega)).mono ?_
  rintro e w' ⟨u, rfl, hr, hbl⟩
  rw [scale_it (A := 1000) (B := 1000) (by omega) (by omega) (by omega) hb xs hx] at hr
  obtain ⟨p, c, rfl, hc⟩ := rw_slice hr
  rw [List.length_map] at hr hc ⊢
  exact ⟨p, c, rfl, ⟨hr, hc⟩, hbl⟩
theorem dot_few {A B : Int} (va vb : Value) (xs ys : List Int) (w : World) (ha : RwI w va xs) (hb : RwI w vb ys) (hx : Sml A xs) (hy : Sml B ys) (hA : 0 ≤ A ∧ A ≤ 100000) (hB : 0 ≤ B ∧ B ≤ 2000) (hAB : A * B ≤ 53687091) (hl : xs.length ≤ 20) (hm : ys.length ≤ 20) :
    Calls Try.prog 21 #[va, vb] w fun e w' => e = .returned (frV (itF (dotI xs ys))) ∧ Bl w w' := by
  rw [← dot_it hx hy hA hB hl hAB]
  exact vDotF va vb _ _ w ha.q hb.q (by simp; omega) (by simp; omega)
theorem sum_few' (v : Value) (xs : List Int) (w : World) (h : RwI w v xs) (hx : Sml 1000 xs) (hl : xs.length ≤ 20) :
    Calls Try.prog 38 #[v] w fun e w' => e = .returned (frV (itF xs.sum)) ∧ Bl w w' := by
  rw [← sum_it (B := 1000) xs hx (by omega) (by omega)]
  exact vsumF v _ w h.q (by simp; omega)
theorem sml12 : Sml 1000 [1, 2] := by intro x hx; simp at hx; omega
theorem sml34 : Sml 1000 [3, 4] := by intro x hx; simp at hx; omega
end Go.Proofs.Ytafjmogkiohjgaa

/- What layer 6's laws ask with: Few, the document's Right and Mul. -/
namespace Go.Proofs.Ytafjmogkiohjgaa
open Go.RowKit
set_option linter.unusedSimpArgs false
set_option linter.unusedVariables false

/-- What Few tells. -/
def FewQ (ns : List Int) (w : World) (e : Ending) (w' : World) : Prop := ∃ b, e = .returned (.bool b) ∧ (b = true → ns.length ≤ 256 ∧ Sml 100 ns) ∧ w' = w
theorem fewQ {ns : List Int} {w : World} (b : Bool) (h : b = true → ns.length ≤ 256 ∧ Sml 100 ns) : FewQ ns w (.returned (.bool b)) w := ⟨b, rfl, h, rfl⟩
/-- A product's number, of whole numbers. -/
def mulI (M : Nat) (a b : Nat → Nat → Int) (i k : Nat) : Int := dotI (rowM M a i) (colM M b k)
theorem mulI_succ (M : Nat) (a b : Nat → Nat → Int) (i k : Nat) : mulI (M + 1) a b i k = mulI M a b i k + a i M * b M k := by
  unfold mulI dotI
  rw [rowM_succ, colM_succ, List.zipWith_append (by rw [rowM_len, colM_len])]
  simp
theorem mulI_zero (a b : Nat → Nat → Int) (i k : Nat) : mulI 0 a b i k = 0 := rfl
theorem mulI_bound {A B : Int} {R M D : Nat} {a b : Nat → Nat → Int} (hA : 0 ≤ A) (hB : 0 ≤ B) (ha : ∀ i k, i < R → k < M → -A ≤ a i k ∧ a i k ≤ A) (hb : ∀ i k, i < M → k < D → -B ≤ b i k ∧ b i k ≤ B) {i k : Nat} (hi : i < R) (hk : k < D) :
    ∀ m, m ≤ M → -(A * B * m) ≤ mulI m a b i k ∧ mulI m a b i k ≤ A * B * m := by
  intro m
  induction m with
  | zero => intro _; simp [mulI_zero]
  | succ m ih =>
    intro hm
    have h1 := ih (by omega)
    have h2 := mul_bound (ha i m hi (by omega)) (hb m k (by omega) hk)
    rw [mulI_succ]
    have : A * B * ((m + 1 : Nat) : Int) = A * B * (m : Int) + A * B := by rw [Int.natCast_add, Int.mul_add]; simp
    omega
/-- A row of whole numbers as a matrix. -/
def ofL (M : Nat) (ns : List Int) (i k : Nat) : Int := ns.getD (i * M + k) 0
theorem ofL_get {R M : Nat} {ns : List Int} (h : ns.length = R * M) {i k : Nat} (hi : i < R) (hk : k < M) : ns[i * M + k]? = some (ofL M ns i k) := by
  have := mk_idx hi hk
  simp [ofL, List.getElem?_eq_getElem (show i * M + k < ns.length by omega)]
theorem ofL_mk {R M : Nat} {ns : List Int} (h : ns.length = R * M) : ns = mk R M (ofL M ns) := mk_of 0 ns h
theorem ofL_sml {A : Int} {R M : Nat} {ns : List Int} (h : ns.length = R * M) (hs : Sml A ns) : ∀ i k, i < R → k < M → -A ≤ ofL M ns i k ∧ ofL M ns i k ≤ A := fun i k hi hk => hs _ (List.mem_of_getElem? (ofL_get h hi hk))
end Go.Proofs.Ytafjmogkiohjgaa

/- Contracts of layer 6's Same, Alike. -/
namespace Go.Proofs.Ytafjmogkiohjgaa
open Go.RowKit
set_option linter.unusedSimpArgs false
set_option linter.unusedVariables false

theorem neq_selfV (r : Fr) (w : World) : (binOp .neq 30 (frV r) (frV r)).run Try.prog w = .ok (.bool false) w := by
  rw [neq_fr, eqR_self]; rfl
end Go.Proofs.Ytafjmogkiohjgaa

/- Contract of layer 6's Alike. -/
namespace Go.Proofs.Ytafjmogkiohjgaa
open Go.RowKit
set_option linter.unusedSimpArgs false
set_option linter.unusedVariables false

/-- Two rows of the same numbers, cell by cell. -/
theorem rq_cells {p : Option Addr} {n cap : Nat} {xs : List Fr} {w : World} (h : Rq 3 cellsF w (.slice p n cap) xs) : ∀ k x, xs[k]? = some x → ∃ b o, p = some ⟨b, o, none⟩ ∧ ∀ u, Bl w u → u.cell? ⟨b, o + k * 3, none⟩ = some (.int .i64 x.n) ∧ u.cell? ⟨b, o + k * 3 + 1, none⟩ = some (.int .i64 x.d) ∧ u.cell? ⟨b, o + k * 3 + 2, none⟩ = some (.bool x.bad) := by
  intro k x hk
  rcases h with ⟨_, _, _, h0, _⟩ | ⟨b, o, cc, e, _, hlt, HX⟩
  · rw [h0] at hk; simp at hk
  · cases e
    exact ⟨b, o, rfl, fun u hu => ⟨(bl_cell hu _ _ hlt).trans (HX k _ hk 0 _ rfl), (bl_cell hu _ _ hlt).trans (HX k _ hk 1 _ rfl), (bl_cell hu _ _ hlt).trans (HX k _ hk 2 _ rfl)⟩⟩
set_option maxHeartbeats 1000000 in
theorem alike_any (r c : Int) (p q : Option Addr) (n cap cap2 : Nat) (xs : List Fr) (w : World) (h : Rq 3 cellsF w (.slice p n cap) xs) (h2 : Rq 3 cellsF w (.slice q n cap2) xs) (hn : xs.length = n) (hl : n ≤ 1000) :
    Calls Try.prog 10 #[mV r c p n cap, mV r c q n cap2] w fun e w' => e = .returned (.bool true) ∧ Bl w w' := by
  have EG := Try.frGuard
  obtain ⟨W, hW⟩ : ∃ W, W = (w.alloc (.cells #[.int .i64 r, .int .i64 c, .slice p n cap] 26)).alloc (.cells #[.int .i64 r, .int .i64 c, .slice q n cap2] 26) := ⟨_, rfl⟩
  have b0 : Bl w W := by rw [hW]; exact ((Bl.refl _).alloc _).alloc _
  have mx0 : MBox W w.heap.size r c p n cap := by rw [hW]; exact (MBox.new w _ _ _ _ _ _).later ((Bl.refl _).alloc _)
  have my0 : MBox W (w.heap.size + 1) r c q n cap2 := by rw [hW]; have := (MBox.new (w.alloc (.cells #[.int .i64 r, .int .i64 c, .slice p n cap] 26)) r c q n cap2 26); rw [World.size_alloc] at this; exact this
  have HA := hideP (rq_cells h)
  have HB := hideP (rq_cells h2)
  have HN := hideP hn
  have HW := hideP hW
  clear h h2 hn hW
  go_enter Try.func10, Try.ntmps10
  go_wp2_with fail
  rw [← HW.out]
  go_loopw [30] (fun i wr => ∃ k : Nat, i = .int .i64 k ∧ k ≤ n ∧ Bl W wr) (fun i _ => n - (intOf i).toNat)
  case atStart => exact ⟨0, rfl, Nat.zero_le _, Bl.refl _⟩
  case round =>
    obtain ⟨k, rfl, hk, bl⟩ := hrel
    by_cases hlt : k < n
    · obtain ⟨x, hx⟩ : ∃ x, xs[k]? = some x := ⟨_, List.getElem?_eq_getElem (by have := HN.out; omega)⟩
      obtain ⟨b, o, rfl, CX⟩ := HA.out k x hx
      obtain ⟨b', o', rfl, CY⟩ := HB.out k x hx
      have z0 := fun z : Wl wr => (CX z.w (b0.trans (bl.trans z.bl))).1
      have z1 := fun z : Wl wr => (CX z.w (b0.trans (bl.trans z.bl))).2.1
      have z2 := fun z : Wl wr => (CX z.w (b0.trans (bl.trans z.bl))).2.2
      have y0 := fun z : Wl wr => (CY z.w (b0.trans (bl.trans z.bl))).1
      have y1 := fun z : Wl wr => (CY z.w (b0.trans (bl.trans z.bl))).2.1
      have y2 := fun z : Wl wr => (CY z.w (b0.trans (bl.trans z.bl))).2.2
      have m2 := fun z : Wl wr => (mx0.later (bl.trans z.bl)).c2
      have n2 := fun z : Wl wr => (my0.later (bl.trans z.bl)).c2
      have wne := wl_ne wr
      have ne1 := neq_selfV x
      clear CX CY
      go_wp2_with fail
      refine wl_region wr (Bl.refl _) (by kernel_rfl) (by kernel_rfl) ?_
      repeat (go_big_quiet_step (first | fail))
      refine wpQuiet_nil ?_
      intro _ hw'
      obtain ⟨z, hw''⟩ := hw'
      subst hw''
      clear wne z0 z1 z2 y0 y1 y2 m2 n2 ne1
      obtain ⟨w3, h3⟩ := z
      dsimp only
      go_wp2
      go_roundw
      case rel => exact ⟨k + 1, by simp, hlt, bl.trans h3⟩
      case measure => simp [intOf]; omega
    · obtain rfl : k = n := by omega
      go_wp2
      go_ret
      exact ⟨rfl, b0.trans bl⟩
end Go.Proofs.Ytafjmogkiohjgaa

/- Matrices of whole numbers, as fractions: contracts in the words of layer 6's laws; awake. -/
namespace Go.Proofs.Ytafjmogkiohjgaa
open Go.RowKit
set_option linter.unusedSimpArgs false
set_option linter.unusedVariables false

/-- All numbers of a matrix are so small. -/
def Sm2 (A : Int) (R C : Nat) (g : Nat → Nat → Int) : Prop := ∀ i k, i < R → k < C → -A ≤ g i k ∧ g i k ≤ A
/-- A matrix of whole numbers, as fractions. -/
abbrev MxI (w : World) (R C : Nat) (p : Option Addr) (n cap : Nat) (g : Nat → Nat → Int) : Prop := Mx 3 cellsF w R C p n cap (fun i k => itF (g i k))
theorem rowI_it (C : Nat) (g : Nat → Nat → Int) (i : Nat) : rowM C (fun i k => itF (g i k)) i = (rowM C g i).map itF := by simp [rowM]
theorem colI_it (R : Nat) (g : Nat → Nat → Int) (k : Nat) : colM R (fun i k => itF (g i k)) k = (colM R g k).map itF := by simp [colM]
theorem row_sml {A : Int} {R C : Nat} {g : Nat → Nat → Int} (h : Sm2 A R C g) {i : Nat} (hi : i < R) : Sml A (rowM C g i) := by
  intro x hx
  obtain ⟨k, hk, rfl⟩ := List.mem_map.1 hx
  exact h i k hi (by simpa using hk)
theorem col_sml {A : Int} {R C : Nat} {g : Nat → Nat → Int} (h : Sm2 A R C g) {k : Nat} (hk : k < C) : Sml A (colM R g k) := by
  intro x hx
  obtain ⟨i, hi, rfl⟩ := List.mem_map.1 hx
  exact h i k (by simpa using hi) hk
theorem mk_sml {A : Int} {R C : Nat} {g : Nat → Nat → Int} (h : Sm2 A R C g) : Sml A (mk R C g) := by
  intro x hx
  obtain ⟨i, hi, hx⟩ := List.mem_flatMap.1 hx
  exact row_sml h (by simpa using hi) x hx
/-- The dot of whole numbers that are small enough. -/
theorem dot_it6 {A B : Int} {xs ys : List Int} (h : Sml A xs) (k : Sml B ys) (hA : 0 ≤ A ∧ A ≤ 1073741824) (hB : 0 ≤ B ∧ B ≤ 1073741824) (hl : xs.length ≤ 16) (hAB : A * B ≤ 67108864) : dotF (xs.map itF) (ys.map itF) = itF (dotI xs ys) := by
  unfold dotF dotI
  have hp : 0 ≤ A * B := Int.mul_nonneg hA.1 hB.1
  rw [muls_it (by omega) (by omega) (by omega) xs ys h k]
  refine sum_it (B := A * B) _ (muls_sml h k) hp ?_
  have hln : (List.zipWith (· * ·) xs ys).length ≤ 16 := by simp; omega
  have := Int.mul_le_mul_of_nonneg_left (show ((List.zipWith (· * ·) xs ys).length : Int) ≤ 16 by omega) hp
  omega
theorem mulM_it {A B : Int} {R M D : Nat} {a b : Nat → Nat → Int} (ha : Sm2 A R M a) (hb : Sm2 B M D b) (hM : M ≤ 16) (hA : 0 ≤ A ∧ A ≤ 1073741824) (hB : 0 ≤ B ∧ B ≤ 1073741824) (hAB : A * B ≤ 67108864) {i k : Nat} (hi : i < R) (hk : k < D) :
    mulMF M (fun i k => itF (a i k)) (fun i k => itF (b i k)) i k = itF (mulI M a b i k) := by
  unfold mulMF mulI
  rw [rowI_it, colI_it]
  exact dot_it6 (row_sml ha hi) (col_sml hb hk) hA hB (by rw [rowM_len]; exact hM) hAB
theorem Mx.congr {α : Type} {s : Nat} {c : α → List Value} {w : World} {R C : Nat} {p : Option Addr} {n cap : Nat} {f g : Nat → Nat → α} (h : Mx s c w R C p n cap f) (e : ∀ i k, i < R → k < C → f i k = g i k) : Mx s c w R C p n cap g :=
  ⟨h.1, h.2.1, by rw [← mk_congr e]; exact h.2.2⟩
theorem mul6_any {A B : Int} (R M D : Nat) (p : Option Addr) (n cap : Nat) (a : Nat → Nat → Int) (q : Option Addr) (n2 cap2 : Nat) (b : Nat → Nat → Int) (N : Nat) (w : World) (hx : MxI w R M p n cap a) (hy : MxI w M D q n2 cap2 b) (hN : N = R * D) (ha : Sm2 A R M a) (hb : Sm2 B M D b) (hA : 0 ≤ A ∧ A ≤ 1073741824) (hB : 0 ≤ B ∧ B ≤ 1073741824) (hAB : A * B ≤ 67108864) :
    Calls Try.prog 8 #[mV R M p n cap, mV M D q n2 cap2] w fun e w' => ∃ p' cap', e = .returned (.tuple #[mV R D p' N cap', .bool true]) ∧ MxI w' R D p' N cap' (mulI M a b) ∧ Bl w w' := by
  refine (mMulF R M D p n cap _ q n2 cap2 _ N w hx hy hN).mono ?_
  rintro e w' ⟨p', cap', rfl, ⟨h, _, _⟩, hb'⟩
  exact ⟨p', cap', rfl, h.congr (fun i k hi hk => mulM_it ha hb hx.1.c2 hA hB hAB hi hk), hb'⟩
/-- Whole, of numbers that go together. -/
theorem whole6_any (r c : Int) (p : Option Addr) (n cap : Nat) (ns : List Int) (w : World) (hr : Rq 1 cI w (.slice p n cap) ns) (h : fitB r c n = true) (hn : ns.length = n) (hs : Sml 100 ns) :
    ∃ R C : Nat, r = R ∧ c = C ∧ Dim R C ∧ n = R * C ∧ Sm2 100 R C (ofL C ns) ∧ Calls Try.prog 5 #[.int .i64 r, .int .i64 c, .slice p n cap] w fun e w' => ∃ p' cap', e = .returned (.tuple #[mV R C p' n cap', .bool true]) ∧ MxI w' R C p' n cap' (ofL C ns) ∧ Bl w w' := by
  obtain ⟨R, C, rfl, rfl, hd, hn'⟩ := fitB_nat h
  refine ⟨R, C, rfl, rfl, hd, hn', ofL_sml (by omega) hs, ?_⟩
  refine (mWholeF R C p n cap ns w hr h hn).mono ?_
  rintro e w' ⟨p', cap', rfl, hR, hb⟩
  refine ⟨p', cap', rfl, ⟨hd, hn', ?_⟩, hb⟩
  have e : ns.map wholeF = mk R C (fun i k => itF (ofL C ns i k)) := by
    rw [wholes_it ns hs (by omega), ← mk_map, ← ofL_mk (by omega)]
  rw [← e]
  exact hR.q
theorem whole6_call (R C : Nat) (p : Option Addr) (n cap : Nat) (ns : List Int) (w : World) (hr : Rq 1 cI w (.slice p n cap) ns) (h : fitB R C n = true) (hn : ns.length = n) (hs : Sml 100 ns) :
    Calls Try.prog 5 #[.int .i64 R, .int .i64 C, .slice p n cap] w fun e w' => ∃ p' cap', e = .returned (.tuple #[mV R C p' n cap', .bool true]) ∧ MxI w' R C p' n cap' (ofL C ns) ∧ Bl w w' := by
  obtain ⟨R', C', h1, h2, _, _, _, h3⟩ := whole6_any R C p n cap ns w hr h hn hs
  obtain rfl : R = R' := by omega
  obtain rfl : C = C' := by omega
  exact h3
theorem rq_new4 (w : World) (x y z u : Int) (t : TypeId) : Rq 1 cI (w.alloc (.cells #[.int .i64 x, .int .i64 y, .int .i64 z, .int .i64 u] t)) (.slice (some ⟨w.heap.size, 0, none⟩) 4 4) [x, y, z, u] := by
  refine .inr ⟨w.heap.size, 0, 4, rfl, Nat.le_refl _, by simp, fun j v hj k s hu => ?_⟩
  rcases k with _ | k
  · simp at hu
    subst hu
    rcases j with _ | _ | _ | _ | j
    · simp at hj; subst hj; simp [go_sem]
    · simp at hj; subst hj; simp [go_sem]
    · simp at hj; subst hj; simp [go_sem]
    · simp at hj; subst hj; simp [go_sem]
    · simp at hj
  · simp at hu
/-- awake's two matrices. -/
theorem whole22 (x y z u : Int) (w : World) (t : TypeId) (hs : Sml 100 [x, y, z, u]) (b0 : Nat) (hb0 : b0 = w.heap.size) : Calls Try.prog 5 #[.int .i64 2, .int .i64 2, .slice (some ⟨b0, 0, none⟩) 4 4] (w.alloc (.cells #[.int .i64 x, .int .i64 y, .int .i64 z, .int .i64 u] t)) fun e w' => ∃ p' cap', e = .returned (.tuple #[mV 2 2 p' 4 cap', .bool true]) ∧ MxI w' 2 2 p' 4 cap' (ofL 2 [x, y, z, u]) ∧ Bl (w.alloc (.cells #[.int .i64 x, .int .i64 y, .int .i64 z, .int .i64 u] t)) w' := by
  subst hb0
  obtain ⟨R, C, h1, h2, _, _, _, h⟩ := whole6_any 2 2 _ 4 4 [x, y, z, u] _ (rq_new4 w x y z u t) (by decide) rfl hs
  obtain rfl : R = 2 := by omega
  obtain rfl : C = 2 := by omega
  exact h
end Go.Proofs.Ytafjmogkiohjgaa
