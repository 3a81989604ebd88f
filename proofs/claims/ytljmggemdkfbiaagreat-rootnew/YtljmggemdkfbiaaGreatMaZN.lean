/- mat's Apply, of enclosed numbers (layer 6). -/
import Derived.Test.YtljmggemdkfbiaaGreatMaZ
import Derived.Test.YtljmggemdkfbiaaGreatMaGN
import Derived.Laws.EntriesVeiled
namespace Go.Proofs.YtljmggemdkfbiaaGreat
open Go.RowKit Go.Shelf
set_option linter.unusedSimpArgs false
set_option linter.unusedVariables false
attribute [local go_sem] Oper.semAt_some

set_option maxRecDepth 100000 in
set_option maxHeartbeats 4000000 in
theorem mApplyN' (R M : Nat) (p : Option Addr) (n cap : Nat) (f : Nat → Nat → En) (q : Option Addr) (cap2 : Nat) (xs : List En) (w : World) (hx : Mx 4 cellsN w R M p n cap f) (hy : Rq 4 cellsN w (.slice q M cap2) xs) (hl : xs.length = M) :
    Calls Tryz.prog 100 #[mV R M p n cap, .slice q M cap2] w fun e w' => ∃ p' cap', e = .returned (.tuple #[.slice p' R cap', .bool true]) ∧ Rw 4 cellsN w' (.slice p' R cap') ((List.range R).map fun i => dotN (rowM M f i) xs) ∧ Fresh w.heap.size (.slice p' R cap') ∧ Bl w w' := by
  obtain ⟨i0, hi, hz0, hz1, hz2⟩ := info_parts Tryz.info_N
  refine (callsIn_wide (n := 8)).1 ?_
  have hfx := hx.fit
  have hdR := hx.1
  have hR16 := hdR.r2
  have hM16 := hdR.c2
  have HXm := hideP hx
  have HYm := hideP hy
  have HL := hideP hl
  clear hx hy hl
  obtain ⟨W, hW⟩ : ∃ W, W = (w.alloc (.cells #[.int .i64 R, .int .i64 M, .slice p n cap] 48)).alloc (.cells #[.slice q M cap2] 46) := ⟨_, rfl⟩
  have b0 : Bl w W := by rw [hW]; exact ((Bl.refl _).alloc _).alloc _
  have mx0 : MBox W w.heap.size R M p n cap := by rw [hW]; exact (MBox.new w _ _ _ _ _ _).later ((Bl.refl _).alloc _)
  have my0 : Boxed W (w.heap.size + 1) 46 (.slice q M cap2) := by rw [hW]; have := Boxed.new (w.alloc (.cells #[.int .i64 R, .int .i64 M, .slice p n cap] 48)) 46 (.slice q M cap2); rw [World.size_alloc] at this; exact this
  have hs0 : W.heap.size = w.heap.size + 1 + 1 := by rw [hW]; simp
  have HW := hideP hW
  clear hW
  refine callsIn_of_wp_marks Tryz.func100 rfl trivial ?_ rfl
  simp only [Tryz.ntmps100, List.size_toArray, List.length_cons, List.length_nil, Nat.reduceAdd, Nat.reduceSub, Array.replicate_succ, Array.replicate_zero, List.push_toArray, List.append_toArray, List.nil_append, List.cons_append]
  gi_wp2_with fail
  rw [← HW.out]
  refine ⟨trivial, ?_⟩
  refine (callsIn_wide.2 (mRightN _ _ _ _ _ _)).mono ?_
  rintro e w5 ⟨rfl, h5⟩
  rw [hfx]
  have mx5 := mx0.later h5
  have my5 := boxed_bl my0 h5
  have bw5 : Bl w w5 := b0.trans h5
  obtain ⟨c0, c1, c2, f0, f1, f2, lt⟩ := id mx5
  have d0 := my5.cell
  gi_wp2_with (gi_at_make; refine wpListIn_make_own _ rfl _ _ 46 rfl w5.heap.size 52 i0 (.agg #[.int .i64 0, .int .i64 0, .int .i64 0, .bool false]) 4 Tryz.underlying46 hi hz0 hz1 .i64 .i64 _ R rfl rfl (by simp) (by rw [hz2]; omega) (by unfold maxLen; omega) (by simp) ?_; intro w6 hown0 hgrow0; have mx6 := mbox_block mx5 (hgrow0.block _ mx5.lt nofun) hgrow0.size; clear c0 c1 c2 f0 f1 f2 d0 lt; obtain ⟨c0, c1, c2, f0, f1, f2, lt⟩ := mx6)
  have h56 : Bl w5 w6 := ⟨hgrow0.os, hgrow0.tape, hgrow0.output, hgrow0.size, fun k hk => hgrow0.block k hk nofun⟩
  have hs6 : w5.heap.size ≤ w6.heap.size := hgrow0.size
  obtain ⟨w6b, hw6b⟩ : ∃ w6b, w6b = w6.alloc (.cells #[.slice (some ⟨w5.heap.size, 0, none⟩) 0 R] 46) := ⟨_, rfl⟩
  have h6b : Bl w6 w6b := by rw [hw6b]; exact (Bl.refl _).alloc _
  have hs6b : w6b.heap.size = w6.heap.size + 1 := by rw [hw6b]; simp
  have bl6 : Boxed w6b w6.heap.size 46 (.slice (some ⟨w5.heap.size, 0, none⟩) 0 R) := by rw [hw6b]; exact Boxed.new w6 _ _
  have hown6 : w6b.ownsRow w5.heap.size 52 4 (.slice (some ⟨w5.heap.size, 0, none⟩) 0 R) 0 [] := own_blN hown0 h6b
  have hlt5 : w5.heap.size < w6b.heap.size := by have := (hown6.lt w5.heap.size rfl).2; exact this
  have HW6 := hideP hw6b
  clear hw6b hown0 hgrow0 c0 c1 c2 f0 f1 f2 lt
  rw [← HW6.out]
  refine ⟨trivial, ?_⟩
  refine (callsIn_wide.2 (mAllN _ _ _ _ _ f _ (HXm.out.later ((bw5.trans h56).trans h6b)))).mono ?_
  rintro e w7 ⟨B2, p2, cap5, rfl, hK7, h7⟩
  have HK7 := hideP hK7
  clear hK7
  have hs7 : w6.heap.size + 1 ≤ w7.heap.size := by have := h7.size; omega
  have b57 : Below w5.heap.size w5 w7 := (h56.trans h6b).trans h7
  have bl7 := boxed_bl bl6 h7
  have own7 := own_blN hown6 h7
  clear bl6 hown6
  gi_wp2_with fail
  refine rangeV rfl (by omega) (gf := 108) (lb := #[.pointer (some ⟨B2, 0, none⟩)]) rfl trivial (enters_of Tryz.func108 (by kernel_rfl) rfl)
    (seqMN 7 B2 _ w7.heap.size R M p2 n cap5 f w7 (Nat.le_refl _) HK7.out) (fun x A B h => h.1) (fun h k => h.trans k) (span_b (Nat.le_refl _)) (fun _ => rfl)
    (fun (pre : List RowX) U => (∃ v, Boxed U w6.heap.size 46 v ∧ U.ownsRow w5.heap.size 52 4 v (pre.map fun x : RowX => dotN (rowM M f x.1) xs).length ((pre.map fun x : RowX => dotN (rowM M f x.1) xs).flatMap cellsN) ∧ (∀ b, v.ownBlock = some b → b < w6b.heap.size ∨ w7.heap.size ≤ b)) ∧ (Below w5.heap.size w5 U ∧ w7.heap.size ≤ U.heap.size))
    (fun _ _ _ => False)
    (OwnFrom.and (Own.from (holdsRow_own w5.heap.size w6.heap.size 46 52 4 (fun pre : List RowX => (pre.map fun x : RowX => dotN (rowM M f x.1) xs).length) (fun pre : List RowX => (pre.map fun x : RowX => dotN (rowM M f x.1) xs).flatMap cellsN) (fun _ v => ∀ b, v.ownBlock = some b → b < w6b.heap.size ∨ w7.heap.size ≤ b)) _) (OwnFrom.and (ownFrom_below (Nat.le_refl _) b57.size) (own_size _ _)))
    (fun _ _ _ _ _ hs _ _ => hs)
    ⟨⟨_, bl7, own7, fun b hb => by cases hb; exact .inl hlt5⟩, b57, Nat.le_refl _⟩
    (fun a x a' U => Rw 4 cellsN U (rowV M x) (rowM M f x.1) ∧ a' = { tmps := (((a.tmps.setIfInBounds 24 (.int .i64 x.1)).setIfInBounds 25 (rowV M x)).setIfInBounds 8 (rowV M x)), defers := [] })
    (fun x a' _ X Y row hs hg hr => ⟨rw_own hs.1 hg (fun r e => (hr r e).2), hs.2⟩)
    ?assign ?body ?done ?stop
  case assign =>
    rintro l pre x W0 U K' _ ⟨hbU, hxR, hrow, hfr, hcc⟩ hI hK'
    have HK2 := hideP hK'
    have HI := hideP hI
    clear hK' hI
    gi_wp2
    exact HK2.out _ _ (KeepsFrom.refl _ _) (Span.refl _ _ _) HI.out ⟨hrow, rfl⟩
  case body =>
    rintro l pre x a' U hl' ⟨r, hr'⟩ ⟨⟨v, hv, hrow, hgv⟩, hbU, hsU⟩ ⟨hrx, rfl⟩ hlt
    simp only [List.setIfInBounds_toArray, List.set_cons_zero, List.set_cons_succ]
    gi_wp2_with fail
    have hbv := boxed_bl (show Boxed w5 _ _ _ from my5) hbU
    have hC := fun u (hu : Bl U u) => vDotN (rowV M x) (.slice q M cap2) (rowM M f x.1) xs u (hrx.later hu).q (HYm.out.later ((bw5.trans hbU).trans hu)) (by rw [rowM_len]; omega) (by rw [HL.out]; omega)
    have hlen2 : (pre.map fun x : RowX => dotN (rowM M f x.1) xs).length ≤ 100000 := by rw [List.length_map]; omega
    refine dotAppendN (ops := _) rfl (by kernel_rfl) 26 6 76 (by simp) (by omega) ⟨rfl, rfl, rfl⟩ ⟨rfl, rfl⟩ ⟨rfl, rfl⟩ ⟨rfl, rfl, rfl⟩ ⟨rfl, rfl, rfl⟩ ⟨rfl, rfl, rfl⟩ ⟨rfl, rfl, rfl⟩ ⟨by simp, by simp⟩ (by simp) ⟨by simp, by simp⟩ (by simp)
      (rowV M x) (.slice q M cap2) (fun act u K' hfr hu hk => move_wp (.tmp 8) rfl (by rw [hfr 8 (by omega)]; exact hk))
      (fun act u K' hfr hu hk => load_wp 46 (.tmp 3) rfl (by rw [hfr 3 (by omega)]; exact Tryz.load1N (w.heap.size + 1) _ u (boxed_bl hbv hu).cell) hk)
      trivial (fun _ => by omega) (enters_of Tryz.func76 (by kernel_rfl) rfl) (dotN (rowM M f x.1) xs)
      (fun u hu => CallsIn.inRound l (callsIn_wide.2 (hC u hu)))
      w6.heap.size rfl v hv w5.heap.size (pre.map fun x : RowX => dotN (rowM M f x.1) xs) hrow hlen2 (by have := b57.size; omega) ?_
    intro act u0 w8 g' cap' k1 k2 k3 k4
    have hvu := boxed_bl hv k1
    have hru := own_blN hrow k1
    have hsu := k1.size
    have hu5 : w5.heap.size ≤ u0.heap.size := by have := b57.size; omega
    obtain ⟨hv5, hv6, hr6, hk6, hb6⟩ := boxed_appended hvu (by decide) hru hu5 (by omega) k3 k2
    have hg8 := k2.size
    refine ⟨(k1.keeps _).trans (hk6.from _), span_appended k1 (by omega) hgv k2 (by omega), ⟨_, hv6, ?_, ?_⟩, ?_, ?_⟩
    · rw [List.map_append]
      simpa [List.flatMap_append] using hr6
    · intro b hb
      have hb' : g' = b := by cases hb; rfl
      subst hb'
      rcases k4 with h | h
      · exact hgv _ h.symm
      · exact .inr (by omega)
    · exact hbU.trans ((k1.mono (by have := b57.size; omega)).trans hb6)
    · simp; omega
  case done =>
    rintro Dm zs U hD hS ⟨⟨v, hv, hrow, _⟩, hb5, hs7'⟩ hKD
    have e : (zs.map fun x : RowX => dotN (rowM M f x.1) xs) = (List.range R).map fun i => dotN (rowM M f i) xs := by rw [← hS, List.map_map]; rfl
    rw [e] at hrow
    have RW := Rw.of_own cellsN_len (ownsRow_putObj hrow (.deferred none) hKD rfl)
    obtain ⟨p', cap', hv', _, _⟩ := RW.cut
    rw [List.length_map, List.length_range] at hv'
    subst hv'
    have hcl := hv.cell
    have hbw : Bl w U := bw5.trans hb5
    have HFR := hideP (show Fresh w.heap.size (.slice p' R cap') from fun g hg => by have := (hrow.lt g hg).1; have := bw5.size; omega)
    have HRW := hideP RW
    have HKD := hideP hKD
    clear hrow RW hKD hv
    gi_wp2
    refine ⟨by simp, .inl ⟨_, _, rfl, run_takeDeferred HKD.out, ?_⟩⟩
    exact ⟨_, results_tmp2 rfl _ _ _, p', cap', rfl, HRW.out, HFR.out, Below.trans hbw (belowK_b (w := w) (Nat.le_refl _) U Dm _ _ (by have := bw5.size; have := b57.size; omega) HKD.out rfl rfl)⟩
  case stop =>
    rintro D' c pre U _ _ h _
    exact h.elim
theorem mApplyN (R M : Nat) (p : Option Addr) (n cap : Nat) (f : Nat → Nat → En) (q : Option Addr) (cap2 : Nat) (xs : List En) (w : World) (hx : Mx 4 cellsN w R M p n cap f) (hy : Rq 4 cellsN w (.slice q M cap2) xs) (hl : xs.length = M) :
    Calls Tryz.prog 100 #[mV R M p n cap, .slice q M cap2] w fun e w' => ∃ p' cap', e = .returned (.tuple #[.slice p' R cap', .bool true]) ∧ Rw 4 cellsN w' (.slice p' R cap') ((List.range R).map fun i => dotN (rowM M f i) xs) ∧ Bl w w' :=
  (mApplyN' R M p n cap f q cap2 xs w hx hy hl).mono fun _ _ ⟨p', c', h1, h2, _, h3⟩ => ⟨p', c', h1, h2, h3⟩
theorem mApplyN_no (R M : Nat) (p : Option Addr) (n cap : Nat) (q : Option Addr) (m cap2 : Nat) (w : World) (hfx : fitB R M n = true) (hne : m ≠ M) :
    Calls Tryz.prog 100 #[mV R M p n cap, .slice q m cap2] w fun e w' => e = .returned (.tuple #[.slice none 0 0, .bool false]) ∧ Bl w w' := by
  obtain ⟨W, hW⟩ : ∃ W, W = (w.alloc (.cells #[.int .i64 R, .int .i64 M, .slice p n cap] 48)).alloc (.cells #[.slice q m cap2] 46) := ⟨_, rfl⟩
  have b0 : Bl w W := by rw [hW]; exact ((Bl.refl _).alloc _).alloc _
  have mx0 : MBox W w.heap.size R M p n cap := by rw [hW]; exact (MBox.new w _ _ _ _ _ _).later ((Bl.refl _).alloc _)
  have my0 : Boxed W (w.heap.size + 1) 46 (.slice q m cap2) := by rw [hW]; have := Boxed.new (w.alloc (.cells #[.int .i64 R, .int .i64 M, .slice p n cap] 48)) 46 (.slice q m cap2); rw [World.size_alloc] at this; exact this
  have hne' : ((m : Int) == (M : Int)) = false := by simp; omega
  have HW := hideP hW
  clear hW hne
  go_enter Tryz.func100, Tryz.ntmps100
  go_wp2_with fail
  rw [← HW.out]
  refine (mRightN _ _ _ _ _ _).mono ?_
  rintro e w1 ⟨rfl, h1⟩
  rw [hfx]
  obtain ⟨c0, c1, c2, f0, f1, f2, lt⟩ := mx0.later h1
  have d0 := (boxed_bl my0 h1).cell
  go_wp2
  go_ret2
  exact ⟨rfl, b0.trans h1⟩
end Go.Proofs.YtljmggemdkfbiaaGreat
