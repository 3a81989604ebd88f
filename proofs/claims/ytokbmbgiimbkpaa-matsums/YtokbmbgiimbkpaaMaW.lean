/- mat's Beside, of fractions (layer 6). -/
import Derived.Test.YtokbmbgiimbkpaaMaK
import Derived.Test.YtokbmbgiimbkpaaMaX
import Derived.Laws.EntriesVeiled
namespace Go.Proofs.Ytokbmbgiimbkpaa
open Go.RowKit Go.Shelf
set_option linter.unusedSimpArgs false
set_option linter.unusedVariables false
attribute [local go_sem] Oper.semAt_some

set_option maxRecDepth 100000 in
set_option maxHeartbeats 4000000 in
theorem mBesideF (R C D : Nat) (p : Option Addr) (n cap : Nat) (f : Nat → Nat → Fr) (q : Option Addr) (n2 cap2 : Nat) (g : Nat → Nat → Fr) (E N : Nat) (w : World) (hx : Mx 3 cellsF w R C p n cap f) (hy : Mx 3 cellsF w R D q n2 cap2 g) (hE : E = C + D) (hE16 : E ≤ 16) (hN : N = R * E) :
    Calls Try.prog 24 #[mV R C p n cap, mV R D q n2 cap2] w fun e w' => ∃ p' cap', e = .returned (.tuple #[mV R E p' N cap', .bool true]) ∧ Mx 3 cellsF w' R E p' N cap' (besideM C f g) ∧ Bl w w' := by
  obtain ⟨i0, hi, hz0, hz1, hz2⟩ := info_parts Try.info_F
  refine (callsIn_wide (n := 8)).1 ?_
  have hfx := hx.fit
  have hfy := hy.fit
  have hdR := hx.1
  have hdD := hy.1
  have hR16 := hdR.r2
  have hC16 := hdR.c2
  have hD16 := hdD.c2
  have hC1 := hdR.c1
  have hD1 := hdD.c1
  have hR1 := hdR.r1
  have hNN : n + n2 = N := by rw [hx.2.1, hy.2.1, hN, hE, Nat.mul_add]
  have hNi : (n : Int) + (n2 : Int) = N := by omega
  have hEi : (C : Int) + (D : Int) = E := by omega
  have hN256 : N ≤ 256 := by rw [hN]; exact Nat.mul_le_mul hR16 hE16
  have hside : sideB E = true := decide_eq_true ⟨by omega, by omega⟩
  have HE := hideP hE
  have HN := hideP hN
  have HXm := hideP hx
  have HYm := hideP hy
  clear hx hy hE hN hNN
  obtain ⟨W, hW⟩ : ∃ W, W = ((w.alloc (.cells #[.int .i64 R, .int .i64 C, .slice p n cap] 27)).alloc (.cells #[.int .i64 R, .int .i64 D, .slice q n2 cap2] 27)).alloc (.cells #[.int .i64 0, .int .i64 0, .slice none 0 0] 27) := ⟨_, rfl⟩
  have b0 : Bl w W := by rw [hW]; exact (((Bl.refl _).alloc _).alloc _).alloc _
  have mx0 : MBox W w.heap.size R C p n cap := by rw [hW]; exact (MBox.new w _ _ _ _ _ _).later (((Bl.refl _).alloc _).alloc _)
  have my0 : MBox W (w.heap.size + 1) R D q n2 cap2 := by rw [hW]; have := (MBox.new (w.alloc (.cells #[.int .i64 R, .int .i64 C, .slice p n cap] 27)) R D q n2 cap2 27); rw [World.size_alloc] at this; exact this.later ((Bl.refl _).alloc _)
  have mz0 : MBox W (w.heap.size + 1 + 1) 0 0 none 0 0 := by rw [hW]; have := MBox.new ((w.alloc (.cells #[.int .i64 R, .int .i64 C, .slice p n cap] 27)).alloc (.cells #[.int .i64 R, .int .i64 D, .slice q n2 cap2] 27)) 0 0 none 0 0 27; rw [World.size_alloc, World.size_alloc] at this; exact this
  have hs0 : W.heap.size = w.heap.size + 1 + 1 + 1 := by rw [hW]; simp
  have HW := hideP hW
  clear hW
  refine callsIn_of_wp_marks Try.func24 rfl trivial ?_ rfl
  simp only [Try.ntmps24, List.size_toArray, List.length_cons, List.length_nil, Nat.reduceAdd, Nat.reduceSub, Array.replicate_succ, Array.replicate_zero, List.push_toArray, List.append_toArray, List.nil_append, List.cons_append]
  gi_wp2_with fail
  rw [← HW.out]
  refine ⟨trivial, ?_⟩
  refine (callsIn_wide.2 (mRightF _ _ _ _ _ _)).mono ?_
  rintro e w1 ⟨rfl, h1⟩
  rw [hfx]
  obtain ⟨d0, d1, d2, u0, u1, u2, ltm⟩ := my0.later h1
  gi_wp2_with fail
  refine ⟨trivial, ?_⟩
  refine (callsIn_wide.2 (mRightF _ _ _ _ _ _)).mono ?_
  rintro e w5 ⟨rfl, h2⟩
  rw [hfy]
  clear d0 d1 d2 u0 u1 u2 ltm
  have mx5 := mx0.later (h1.trans h2)
  have my5 := my0.later (h1.trans h2)
  have mz5 := mz0.later (h1.trans h2)
  have bw5 : Bl w w5 := b0.trans (h1.trans h2)
  obtain ⟨c0, c1, c2, f0, f1, f2, lt⟩ := id mx5
  obtain ⟨d0, d1, d2, u0, u1, u2, ltm⟩ := id my5
  gi_wp2_with fail
  refine ⟨trivial, ?_⟩
  refine (callsIn_wide.2 (side_any _ _)).mono ?_
  rintro e w9 ⟨rfl, hw9⟩
  have hw9' := hw9.symm
  subst hw9'
  clear hw9
  rw [hside]
  gi_wp2_with (gi_at_make; refine wpListIn_make_own _ rfl _ _ 25 rfl w5.heap.size 31 i0 (.agg #[.int .i64 0, .int .i64 0, .bool false]) 3 Try.underlying25 hi hz0 hz1 .i64 .i64 _ N rfl rfl (by simp) (by rw [hz2]; omega) (by unfold maxLen; omega) (by simp) ?_; intro w6 hown0 hgrow0; have mx6 := mbox_block mx5 (hgrow0.block _ mx5.lt nofun) hgrow0.size; clear c0 c1 c2 f0 f1 f2 d0 d1 d2 u0 u1 u2 lt ltm; obtain ⟨c0, c1, c2, f0, f1, f2, lt⟩ := mx6)
  have h56 : Bl w5 w6 := ⟨hgrow0.os, hgrow0.tape, hgrow0.output, hgrow0.size, fun k hk => hgrow0.block k hk nofun⟩
  have hs6 : w5.heap.size ≤ w6.heap.size := hgrow0.size
  obtain ⟨w6b, hw6b⟩ : ∃ w6b, w6b = w6.alloc (.cells #[.slice (some ⟨w5.heap.size, 0, none⟩) 0 N] 25) := ⟨_, rfl⟩
  have h6b : Bl w6 w6b := by rw [hw6b]; exact (Bl.refl _).alloc _
  have hs6b : w6b.heap.size = w6.heap.size + 1 := by rw [hw6b]; simp
  have bl6 : Boxed w6b w6.heap.size 25 (.slice (some ⟨w5.heap.size, 0, none⟩) 0 N) := by rw [hw6b]; exact Boxed.new w6 _ _
  have hown6 : w6b.ownsRow w5.heap.size 31 3 (.slice (some ⟨w5.heap.size, 0, none⟩) 0 N) 0 [] := own_blF hown0 h6b
  have hlt5 : w5.heap.size < w6b.heap.size := by have := (hown6.lt w5.heap.size rfl).2; exact this
  have HW6 := hideP hw6b
  clear hw6b hown0 hgrow0 c0 c1 c2 f0 f1 f2 lt
  rw [← HW6.out]
  refine ⟨trivial, ?_⟩
  refine (callsIn_wide.2 (mAllF _ _ _ _ _ f _ (HXm.out.later ((bw5.trans h56).trans h6b)))).mono ?_
  rintro e w7 ⟨B2, p2, cap5, rfl, hK7, h7⟩
  have HK7 := hideP hK7
  clear hK7
  have hs7 : w6.heap.size + 1 ≤ w7.heap.size := by have := h7.size; omega
  have b57 : Below w5.heap.size w5 w7 := (h56.trans h6b).trans h7
  have h57s := b57.size
  have bl7 := boxed_bl bl6 h7
  have own7 := own_blF hown6 h7
  clear bl6 hown6
  gi_wp2_with fail
  refine rangeV rfl (by omega) (gf := 50) (lb := #[.pointer (some ⟨B2, 0, none⟩)]) rfl trivial (enters_of Try.func50 (by kernel_rfl) rfl)
    (seqMF 7 B2 _ w7.heap.size R C p2 n cap5 f w7 (Nat.le_refl _) HK7.out) (fun x A B h => h.1) (fun h k => h.trans k) (span_b (Nat.le_refl _)) (fun _ => rfl)
    (fun pre U => (∃ v, Boxed U w6.heap.size 25 v ∧ U.ownsRow w5.heap.size 31 3 v (rowsL E (besideM C f g) pre).length ((rowsL E (besideM C f g) pre).flatMap cellsF) ∧ (∀ b, v.ownBlock = some b → b < w6b.heap.size ∨ w7.heap.size ≤ b)) ∧ (Below w5.heap.size w5 U ∧ w7.heap.size ≤ U.heap.size))
    (fun _ _ _ => False)
    (OwnFrom.and (Own.from (holdsRow_own w5.heap.size w6.heap.size 25 31 3 (fun pre => (rowsL E (besideM C f g) pre).length) (fun pre => (rowsL E (besideM C f g) pre).flatMap cellsF) (fun _ v => ∀ b, v.ownBlock = some b → b < w6b.heap.size ∨ w7.heap.size ≤ b)) _) (OwnFrom.and (ownFrom_below (Nat.le_refl _) b57.size) (own_size _ _)))
    (fun _ _ _ _ _ hs _ _ => hs)
    ⟨⟨_, bl7, own7, fun b hb => by cases hb; exact .inl hlt5⟩, b57, Nat.le_refl _⟩
    (fun a x a' U => x.1 < R ∧ Rw 3 cellsF U (rowV C x) (rowM C f x.1) ∧ a' = { tmps := ((((a.tmps.setIfInBounds 44 (.int .i64 x.1)).setIfInBounds 45 (rowV C x)).setIfInBounds 7 (.int .i64 x.1)).setIfInBounds 8 (rowV C x)), defers := [] })
    (fun x a' _ X Y row hs hg hr => ⟨hs.1, rw_own hs.2.1 hg (fun r e => (hr r e).2), hs.2.2⟩)
    ?assign ?body ?done ?stop
  case assign =>
    rintro l pre x W0 U K' _ ⟨hbU, hxR, hrow, hfr, hcc⟩ hI hK'
    have HK2 := hideP hK'
    have HI := hideP hI
    clear hK' hI
    gi_wp2
    exact HK2.out _ _ (KeepsFrom.refl _ _) (Span.refl _ _ _) HI.out ⟨hxR, hrow, rfl⟩
  case body =>
    rintro l pre x a' U hl' ⟨r, hr'⟩ ⟨⟨v, hv, hrow, hgv⟩, hbU, hsU⟩ ⟨hxR, hrx, rfl⟩ hlt
    simp only [List.setIfInBounds_toArray, List.set_cons_zero, List.set_cons_succ]
    have hrowE : rowM E (besideM C f g) x.1 = rowM C f x.1 ++ rowM D g x.1 := by rw [HE.out]; exact rowM_beside C D f g x.1
    have hlenL : (rowsL E (besideM C f g) pre).length + E ≤ 256 := by
      rw [rowsL_len]
      have h1 : (pre.length + 1) * E ≤ R * E := Nat.mul_le_mul_right _ hlt
      have := HN.out
      rw [Nat.succ_mul] at h1
      omega
    have HRE := hideP hrowE
    clear hrowE
    have hEsum : E = C + D := HE.out
    have my7 := my5.later (show Bl w5 U from hbU)
    rcases hrx with ⟨_, h0⟩ | ⟨bx, ox, cx, ex, hcx, hbx, hxx⟩
    · have := rowM_len C f x.1; rw [h0] at this; simp at this; omega
    obtain ⟨i, px, kx⟩ := x
    rw [rowM_len] at ex
    obtain ⟨hpx, hkx⟩ : px = some ⟨bx, ox, none⟩ ∧ kx = cx := by cases ex; exact ⟨rfl, rfl⟩
    subst hpx hkx
    clear ex
    have hcv := hv.cell
    have HV := hideP hv
    have HR := hideP hrow
    have HXX := hideP hxx
    clear hv hrow hxx
    have hw5U : w5.heap.size ≤ U.heap.size := hbU.size
    gi_wp2_with (gi_at_builtin; refine wpListIn_append_own_at _ rfl _ _ 25 rfl w5.heap.size 31 i0 (.agg #[.int .i64 0, .int .i64 0, .bool false]) 3 24 Try.underlying25 hi hz0 hz1 hz2 rfl (by decide) _ _ _ rfl HR.out ⟨bx, ox, none⟩ C kx ((rowM C f i).flatMap cellsF) rfl (by rw [flat_cellsF_len, rowM_len]) (flat_cells cellsF_len HXX.out) (flat_one oneF_cells _) (by unfold maxLen; omega) (by omega) (by omega) ?_; intro v' w8 hown' hgrow _ hat; obtain ⟨g', cap', rfl⟩ := ownsRow_some hown' (by omega); obtain ⟨hv5, hv6, hr6, hk6, hb6⟩ := boxed_appended HV.out (by decide) HR.out hw5U (by omega) hown' hgrow; have hc5 := hv5.cell; have hf5 := hv5.frozen)
    refine store_wp 25 (.tmp 6) (.tmp 48) rfl (Try.store1F w6.heap.size _ _ _ v w8 hc5 hf5) ?_
    gi_wp2_with fail
    have hg8 := hgrow.size
    have hG1 : ∀ b, (Value.slice (some ⟨g', 0, none⟩) ((rowsL E (besideM C f g) pre).length + C) cap').ownBlock = some b → b < w6b.heap.size ∨ w7.heap.size ≤ b := by
      intro b hb
      have hb' : g' = b := by cases hb; rfl
      subst hb'
      rcases hat with h | h
      · exact hgv _ h.symm
      · have : g' = U.heap.size := by simpa [Value.ownBlock] using h
        exact .inr (by omega)
    have sp1 : Span w6b.heap.size w7.heap.size U (w8.setCell ⟨w6.heap.size, 0, none⟩ (.slice (some ⟨g', 0, none⟩) ((rowsL E (besideM C f g) pre).length + C) cap')) := span_appended (Bl.refl U) (by omega) hgv hgrow (by omega)
    have hs8 : U.heap.size ≤ (w8.setCell ⟨w6.heap.size, 0, none⟩ (.slice (some ⟨g', 0, none⟩) ((rowsL E (besideM C f g) pre).length + C) cap')).heap.size := by simp; omega
    have hr7 : (w8.setCell ⟨w6.heap.size, 0, none⟩ (.slice (some ⟨g', 0, none⟩) ((rowsL E (besideM C f g) pre).length + C) cap')).ownsRow w5.heap.size 31 3 (.slice (some ⟨g', 0, none⟩) ((rowsL E (besideM C f g) pre).length + C) cap') (rowsL E (besideM C f g) pre ++ rowM C f i).length ((rowsL E (besideM C f g) pre ++ rowM C f i).flatMap cellsF) := by
      rw [List.length_append, rowM_len, List.flatMap_append]
      exact hr6
    have hlen7 : (rowsL E (besideM C f g) pre ++ rowM C f i).length ≤ 100000 := by rw [List.length_append, rowM_len]; omega
    generalize w8.setCell ⟨w6.heap.size, 0, none⟩ (.slice (some ⟨g', 0, none⟩) ((rowsL E (besideM C f g) pre).length + C) cap') = U1 at *
    generalize (Value.slice (some ⟨g', 0, none⟩) ((rowsL E (besideM C f g) pre).length + C) cap') = v7 at *
    clear hown' hgrow hat hv5 hc5 hf5 hr6
    have hb5U1 : Below w5.heap.size w5 U1 := hbU.trans hb6
    have hC := fun u (hu : Bl U1 u) => (mRowF R D q n2 cap2 g u (HYm.out.later ((bw5.trans hb5U1).trans hu)) i hxR).mono (R' := fun e w' => ∃ p' cap', e = .returned (.slice p' D cap') ∧ Rw 3 cellsF w' (.slice p' D cap') (rowM D g i) ∧ Bl u w') (fun _ _ ⟨p', cap', h1, h2, h3⟩ => ⟨p', cap', h1, h2.1, h3⟩)
    refine rowAppend (ops := _) rfl (by kernel_rfl) 49 6 16 _ (by simp [Act.put]) (by omega) ⟨rfl, rfl, rfl⟩ ⟨rfl, rfl⟩ ⟨rfl, rfl⟩ ⟨rfl, rfl, rfl⟩ ⟨rfl, rfl, rfl⟩ ⟨rfl, rfl, rfl⟩ ⟨by simp, by simp⟩ ⟨by simp, by simp⟩ (by simp)
      (mV R D q n2 cap2) (.int .i64 i) (fun act u K' hfr hu hk => load_wp 27 (.tmp 3) rfl (by rw [hfr 3 (by omega)]; exact Try.loadMF (w.heap.size + 1) _ _ _ _ _ u ((my5.later (show Bl w5 U1 from hb5U1)).later hu)) hk)
      (fun act u K' hfr hu hk => move_wp (.tmp 7) rfl (by rw [hfr 7 (by omega)]; exact hk))
      trivial (fun _ => by omega) (enters_of Try.func16 (by kernel_rfl) rfl) D (by omega) (by omega) (rowM D g i) (rowM_len _ _ _)
      (fun u hu => CallsIn.inRound l (callsIn_wide.2 (hC u hu)))
      w6.heap.size rfl v7 hv6 w5.heap.size (rowsL E (besideM C f g) pre ++ rowM C f i) hr7 hlen7 (by omega) ?_
    intro act u0 w9 g9 cap9 k1 k2 k3 k4
    have hvu := boxed_bl hv6 k1
    have hru := own_blF hr7 k1
    have hsu := k1.size
    have hu5 : w5.heap.size ≤ u0.heap.size := by omega
    obtain ⟨hv8, hv9, hr9, hk9, hb9⟩ := boxed_appended hvu (by decide) hru hu5 (by omega) k3 k2
    have hg9 := k2.size
    refine ⟨(hk6.from _).trans ((k1.keeps _).trans (hk9.from _)), sp1.trans (span_appended k1 (by omega) hG1 k2 (by omega)), ⟨_, hv9, ?_, ?_⟩, ?_, ?_⟩
    · rw [rowsL_snoc]
      show World.ownsRow _ _ _ _ _ (rowsL E (besideM C f g) pre ++ rowM E (besideM C f g) i).length ((rowsL E (besideM C f g) pre ++ rowM E (besideM C f g) i).flatMap cellsF)
      rw [show rowM E (besideM C f g) i = rowM C f i ++ rowM D g i from HRE.out, ← List.append_assoc]
      have el : (rowsL E (besideM C f g) pre ++ rowM C f i ++ rowM D g i).length = (rowsL E (besideM C f g) pre ++ rowM C f i).length + D := by rw [List.length_append, rowM_len D]
      rw [el, List.flatMap_append (xs := rowsL E (besideM C f g) pre ++ rowM C f i)]
      exact hr9
    · intro b hb
      have hb' : g9 = b := by cases hb; rfl
      subst hb'
      rcases k4 with h | h
      · exact hG1 _ h.symm
      · exact .inr (by omega)
    · exact hb5U1.trans ((k1.mono (by omega)).trans hb9)
    · simp; omega
  case done =>
    rintro Dm zs U hD hS ⟨⟨v, hv, hrow, _⟩, hb5, hs7'⟩ hKD
    have e := rowsL_all E (besideM C f g) zs hS
    rw [e] at hrow
    have RW := Rw.of_own cellsF_len hrow
    have FR : Fresh w5.heap.size v := fun b hb => (hrow.lt b hb).1
    obtain ⟨p', cap', hv', _, _⟩ := RW.cut
    rw [mk_len, ← HN.out] at hv'
    subst hv'
    have hcl := hv.cell
    have HRW := hideP RW
    have HFR := hideP FR
    have HKD := hideP hKD
    obtain ⟨c0, c1, c2, f0, f1, f2, lt⟩ := mx5.later (show Bl w5 U from hb5)
    obtain ⟨d0, d1, d2, u0, u1, u2, ltm⟩ := my5.later (show Bl w5 U from hb5)
    obtain ⟨x0, x1, x2, y0, y1, y2, ltz⟩ := mz5.later (show Bl w5 U from hb5)
    have hbw : Bl w U := bw5.trans hb5
    clear hrow RW FR hKD hv
    gi_wp2
    have hs4 := (h1.trans h2).size
    have hKD2 : ((((U.setCell ⟨w.heap.size + 1 + 1, 0, none⟩ (.int .i64 R)).setCell ⟨w.heap.size + 1 + 1, 1, none⟩ (.int .i64 E)).setCell ⟨w.heap.size + 1 + 1, 2, none⟩ (.slice p' N cap'))).heap[Dm]? = some (.deferred (some [])) :=
      (((KeepsOthers.setCell _ _ _).trans (KeepsOthers.setCell _ _ _)).trans (KeepsOthers.setCell _ _ _)).same Dm _ HKD.out rfl
    refine ⟨by simp, .inl ⟨_, _, rfl, run_takeDeferred hKD2, ?_⟩⟩
    have mzf := MBox.fill (⟨x0, x1, x2, y0, y1, y2, ltz⟩ : MBox U (w.heap.size + 1 + 1) 0 0 none 0 0) R E p' N cap'
    have mzg := mbox_block (w' := World.putObj _ Dm (.deferred none)) mzf (World.putObj_heap_other (by omega)) (by simp [World.putObj])
    have blf := Bl.put3 hbw (n := w.heap.size + 1 + 1) (by omega) (.int .i64 R) (.int .i64 E) (.slice p' N cap')
    have rwf := ((HRW.out.set (p := ⟨w.heap.size + 1 + 1, 0, none⟩) (.int .i64 R) (fun b hb => by have := HFR.out b hb; show w.heap.size + 1 + 1 + 1 ≤ b; omega)).set (p := ⟨w.heap.size + 1 + 1, 1, none⟩) (.int .i64 E) (fun b hb => by have := HFR.out b hb; show w.heap.size + 1 + 1 + 1 ≤ b; omega)).set (p := ⟨w.heap.size + 1 + 1, 2, none⟩) (.slice p' N cap') (fun b hb => by have := HFR.out b hb; show w.heap.size + 1 + 1 + 1 ≤ b; omega)
    generalize ((U.setCell ⟨w.heap.size + 1 + 1, 0, none⟩ (.int .i64 R)).setCell ⟨w.heap.size + 1 + 1, 1, none⟩ (.int .i64 E)).setCell ⟨w.heap.size + 1 + 1, 2, none⟩ (.slice p' N cap') = Z at *
    have rwg : Rw 3 cellsF (Z.putObj Dm (.deferred none)) (.slice p' N cap') (mk R E (besideM C f g)) := rw_own rwf (grownBy_putObj' _ Dm (.deferred none)) (fun r e => by cases e; exact ⟨_, hKD2, rfl⟩)
    have blg : Bl w (Z.putObj Dm (.deferred none)) := Below.trans blf (belowK_b (w := w) (Nat.le_refl _) Z Dm _ _ (by have := hbw.size; have := b57.size; omega) hKD2 rfl rfl)
    generalize Z.putObj Dm (.deferred none) = Y at *
    obtain ⟨a0, a1, a2, _, _, _, _⟩ := mzg
    refine ⟨.tuple #[mV R E p' N cap', .bool true], ?_, p', cap', rfl, ⟨⟨hR1, hR16, by have := HE.out; omega, hE16⟩, HN.out, rwg.q⟩, blg⟩
    simp [results, Try.results24, go_sem, a0, a1, a2]
  case stop =>
    rintro D' c pre U _ _ h _
    exact h.elim
end Go.Proofs.Ytokbmbgiimbkpaa
