/- Contracts of Clone, Row, All, New where what is told lies in a block of its own that may be changed, of enclosed numbers (layer 8). Written by genHu.py. -/
import Derived.Test.YtljmggemdkfbiaaGreatHuBF
import Derived.Test.YtljmggemdkfbiaaGreatMaEN
namespace Go.Proofs.YtljmggemdkfbiaaGreat
open Go.RowKit Go.Shelf
set_option linter.unusedSimpArgs false
set_option linter.unusedVariables false
attribute [local go_sem] Oper.semAt_some
set_option maxHeartbeats 1000000 in
theorem vCloneZN (v : Value) (xs : List En) (w : World) (h : Rq 4 cellsN w v xs) (hl : xs.length ≤ 1000000) (hne : xs ≠ []) :
    Calls Tryz.prog 72 #[v] w fun e w' => ∃ u, e = .returned u ∧ RwZ 4 cellsN w' w.heap.size u xs ∧ Bl w w' := by
  have n0 := Tryz.nil0N
  have n1 := Tryz.nil1N
  obtain ⟨i0, hi, hz0, hz1, hz2⟩ := info_parts Tryz.info_N
  rcases h with ⟨p, cap, rfl, rfl, hpn⟩ | ⟨b, o, cap, rfl, hc, hb, hx⟩
  · exact absurd rfl hne
  · have HX := hideP hx
    clear hx n0
    go_enter Tryz.func72, Tryz.ntmps72
    go_wp2_with (at_builtin; refine wpList_append_own _ rfl _ _ 46 rfl w.heap.size 52 i0 (.agg #[.int .i64 0, .int .i64 0, .int .i64 0, .bool false]) 4 32 Tryz.underlying46 hi hz0 hz1 hz2 rfl (by decide) _ 0 [] rfl (World.ownsRow_made w #[] 0 (Nat.le_refl _) (by decide) rfl) ⟨b, o, none⟩ xs.length cap (xs.flatMap cellsN) rfl (flat_len cellsN_len xs) (flat_cells cellsN_len ((Rw_cells_later HX.out hb ((Bl.refl _).alloc _)))) (flat_one oneN_cells xs) (by unfold maxLen; omega) (by omega) (by simp) ?_; intro v' w1 hown' hgrow _)
    have R := hideP (RwZ.of_own (xs := xs) cellsN_len (by simpa using hown') hne)
    have hB : Bl w w1 := Below.grown (Below.alloc (Bl.refl w) (Nat.le_refl _) _) hgrow (by simp) (fun k e => by cases e; exact Nat.le_refl _)
    clear hown' hgrow
    go_wp2
    go_ret
    exact ⟨_, rfl, R.out, hB⟩
theorem mRowZN (R C : Nat) (p : Option Addr) (n cap : Nat) (f : Nat → Nat → En) (w : World) (h : Mx 4 cellsN w R C p n cap f) (i : Nat) (hi : i < R) :
    Calls Tryz.prog 109 #[mV R C p n cap, .int .i64 i] w fun e w' => ∃ p' cap', e = .returned (.slice p' C cap') ∧ (RwZ 4 cellsN w' w.heap.size (.slice p' C cap') (rowM C f i) ∧ C ≤ cap') ∧ Bl w w' := by
  have hfit := h.fit
  obtain ⟨b, o, rfl, hc, hb, -⟩ := h.cells
  obtain ⟨hd, hn, hR⟩ := h
  have ha1 := amongB_t hi
  have h16 := hd.lt
  have hi16 : i < 16 := Nat.lt_of_lt_of_le hi hd.r2
  have hC16 := hd.c2
  have hC1 := hd.c1
  obtain ⟨a, e, e1, e2, hq1, hq3, hq5, hq6, hq7⟩ := places hd hi
  have hpt : Rq 4 cellsN w (.slice (some ⟨b, o + a * 4, none⟩) C (cap - a)) (rowM C f i) := by
    have := hR.part (lo := a) (m := C) (by rw [mk_len, hn]) (by omega) (by omega) (cap - a) (by omega)
    rw [e1, mk_row f hi] at this
    rw [e1]
    exact this
  have sl := fun u => Tryz.partN b o n cap a e u (by omega) (by omega) hc (by omega)
  rw [show e - a = C by omega] at sl
  have HP := hideP hpt
  rw [← hn] at h16 hq5
  clear hR hpt e1 e2 hn
  obtain ⟨W, hW⟩ : ∃ W, W = (w.alloc (.cells #[.int .i64 R, .int .i64 C, .slice (some ⟨b, o, none⟩) n cap] 48)) := ⟨_, rfl⟩
  have b0 : Bl w W := by rw [hW]; exact (Bl.refl _).alloc _
  have m0 : MBox W w.heap.size R C (some ⟨b, o, none⟩) n cap := by rw [hW]; exact MBox.new w _ _ _ _ _ _
  have HW := hideP hW
  clear hW
  go_enter Tryz.func109, Tryz.ntmps109
  go_wp2_with fail
  rw [← HW.out]
  refine (mRightN _ _ _ _ _ _).mono ?_
  rintro e w1 ⟨rfl, h1⟩
  rw [hfit]
  obtain ⟨c0, c1, c2, f0, f1, f2, lt⟩ := m0.later h1
  go_wp2_with fail
  refine (among_any _ _ _).mono ?_
  rintro e w2 ⟨rfl, rfl⟩
  rw [ha1]
  go_wp2_with fail
  refine (vCloneZN _ (rowM C f i) _ (HP.out.later (b0.trans h1)) (by rw [rowM_len]; omega) (by intro e; have := congrArg List.length e; rw [rowM_len] at this; simp at this; omega)).mono ?_
  rintro e w3 ⟨u, rfl, hR, h3⟩
  obtain ⟨p', cap', rfl, hcl, _⟩ := hR.rw.cut
  rw [rowM_len] at hR hcl ⊢
  have HR := hideP hR
  clear hR
  go_wp2
  go_ret
  exact ⟨p', cap', rfl, ⟨HR.out.base (b0.trans h1).size, hcl⟩, (b0.trans h1).trans h3⟩
set_option maxRecDepth 100000 in
set_option maxHeartbeats 2000000 in
theorem iterMZN (m l B lo hi R C : Nat) (p : Option Addr) (n cap : Nat) (f : Nat → Nat → En) (J Jx : List RowX → World → Prop) (W : World) (hJ : AbidesFrom W.heap.size J) (hh : hi ≤ W.heap.size)
    (hY : ∀ pre x W0 W1, J pre W0 → RowOkZ 4 cellsN R C f x W0 W1 → pre.length < R → YieldAt Fence.wide (m - 1) Tryz.prog l #[.int .i64 x.1, rowV C x] W1 fun e W' =>
      (e = .returned (.bool true) ∧ J (pre ++ [x]) W' ∧ Span lo hi W1 W') ∨ (e = .returned (.bool false) ∧ Jx (pre ++ [x]) W'))
    (hP : KeptIn 4 cellsN W lo hi B R C p n cap f) (h0 : J [] W) :
    CallsIn Fence.wide m Tryz.prog 108 #[.func (.yield l) #[] #[], .pointer (some ⟨B, 0, none⟩)] W fun e W' => (∃ v, e = .returned v) ∧
      ((∃ zs : List RowX, zs.map (·.1) = List.range R ∧ J zs W') ∨ (∃ pre : List RowX, pre.map (·.1) <+: List.range R ∧ Jx pre W')) := by
  have yn := Tryz.yieldMN l
  have HP := hideP hP
  have hR16 := hP.hd.r2
  obtain ⟨c0, c1, c2, f0, f1, f2, lt⟩ := hP.box
  clear hP
  refine callsIn_of_wp Tryz.func108 rfl trivial ?_ rfl
  simp only [Tryz.ntmps108, List.size_toArray, List.length_cons, List.length_nil, Nat.reduceAdd, Nat.reduceSub, Array.replicate_succ, Array.replicate_zero, List.push_toArray, List.append_toArray, List.nil_append, List.cons_append]
  gi_wp2
  clear c0 c1 c2 f0 f1 f2
  gi_loopw [8] (fun i wr => ∃ (k : Nat) (pre : List RowX), k ≤ R ∧ i = .int .i64 k ∧ pre.map (·.1) = List.range k ∧ J pre wr ∧ Span lo hi W wr) (fun i _ => R - (intOf i).toNat)
  case atStart => exact ⟨0, [], Nat.zero_le _, rfl, rfl, h0, Span.refl _ _ _⟩
  case round =>
    obtain ⟨k, pre, hk, rfl, hpre, hJs, hsp⟩ := hrel
    have hlen : pre.length = k := by have := congrArg List.length hpre; simpa using this
    have HPR := hideP hpre
    clear hpre
    by_cases hlt : k < R
    · have HKK := hideP (HP.out.later hsp)
      obtain ⟨c0, c1, c2, f0, f1, f2, lt⟩ := HKK.out.box
      gi_wp2_with fail
      refine ⟨trivial, fun h => (by cases h), ?_⟩
      refine (callsIn_wide.2 (mRowZN R C p n cap f _ HKK.out.mx k hlt)).mono ?_
      rintro e w1 ⟨p', cap', rfl, ⟨hR, hcc⟩, h1⟩
      obtain ⟨fn, tmps, assign, body, hyd, hR2⟩ := hY pre (k, p', cap') _ w1 hJs ⟨h1, hlt, hR, hcc⟩ (by omega)
      dsimp only at hyd
      clear c0 c1 c2 f0 f1 f2 hR
      have hR3 : RoundIn Fence.wide (m - 1) Tryz.prog l fn tmps assign body w1 fun e W' => ∃ r : Bool, e = .returned (.bool r) ∧ ((r = true ∧ J (pre ++ [(k, p', cap')]) W' ∧ Span lo hi w1 W') ∨ (r = false ∧ Jx (pre ++ [(k, p', cap')]) W')) := by
        refine hR2.mono ?_
        rintro e W' (⟨rfl, h1, h2⟩ | ⟨rfl, h1⟩)
        · exact ⟨true, rfl, .inl ⟨rfl, h1, h2⟩⟩
        · exact ⟨false, rfl, .inr ⟨rfl, h1⟩⟩
      gi_wp2_with fail
      refine ⟨fun h => (by cases h), ?_⟩
      refine hR3.mono ?_
      rintro e W3 ⟨r, rfl, hr⟩
      have sp1 : Span lo hi W w1 := hsp.trans (h1.span (by have := hsp.size; omega))
      have HT := hideP (show (pre ++ [((k, p', cap') : RowX)]).map (·.1) = List.range (k + 1) by rw [List.map_append, HPR.out, List.range_succ]; rfl)
      rcases hr with ⟨rfl, hJ3, hk3⟩ | ⟨rfl, hJx3⟩
      · gi_wp2
        go_roundw
        case rel => exact ⟨k + 1, _, by omega, by simp, HT.out, hJ3, sp1.trans hk3⟩
        case measure => simp [intOf]; omega
      · gi_wp2
        refine bodyPost_ret (results_none rfl _ _ _) rfl ?_
        exact ⟨⟨_, rfl⟩, .inr ⟨_, by rw [HT.out]; exact range_pre hlt, hJx3⟩⟩
    · obtain rfl : k = R := by omega
      have HJ := hideP hJs
      clear hJs
      gi_wp2
      go_end0
      exact ⟨⟨_, rfl⟩, .inl ⟨pre, HPR.out, HJ.out⟩⟩
theorem seqMZN (m B lo hi R C : Nat) (p : Option Addr) (n cap : Nat) (f : Nat → Nat → En) (w : World) (hh : hi ≤ w.heap.size) (hP : KeptIn 4 cellsN w lo hi B R C p n cap f) :
    SeqV Fence.wide m Tryz.prog 108 #[.pointer (some ⟨B, 0, none⟩)] (fun x : RowX => #[.int .i64 x.1, rowV C x]) (RowOkZ 4 cellsN R C f) (Span lo hi) (fun zs => zs.map (·.1) = List.range R) (fun pre => pre.map (·.1) <+: List.range R) R w :=
  fun l J Jx W hW hJ _ hY h0 => iterMZN m l B lo hi R C p n cap f J Jx W hJ (Nat.le_trans hh hW.size) hY (hP.later (Bl.span hW hh)) h0
theorem mNewZN (r c : Int) (p : Option Addr) (n cap : Nat) (xs : List En) (w : World) (hr : Rq 4 cellsN w (.slice p n cap) xs) (h : fitB r c n = true) (hn : xs.length = n) :
    Calls Tryz.prog 107 #[.int .i64 r, .int .i64 c, .slice p n cap] w fun e w' => ∃ p' cap', e = .returned (.tuple #[mV r c p' n cap', .bool true]) ∧ RwZ 4 cellsN w' w.heap.size (.slice p' n cap') xs ∧ Bl w w' := by
  have hl : n ≤ 1000000 := by obtain ⟨R, C, _, _, hd, rfl⟩ := fitB_nat h; have := hd.lt; omega
  obtain ⟨W, hW⟩ : ∃ W, W = w.alloc (.cells #[.int .i64 0, .int .i64 0, .slice none 0 0] 48) := ⟨_, rfl⟩
  have b0 : Bl w W := by rw [hW]; exact (Bl.refl _).alloc _
  have x0 : MBox W w.heap.size 0 0 none 0 0 := by rw [hW]; exact MBox.new w 0 0 none 0 0 _
  have hsz : W.heap.size = w.heap.size + 1 := by rw [hW]; simp
  have hne : xs ≠ [] := by
    obtain ⟨R, C, _, _, hd, e⟩ := fitB_nat h
    have := Mx.pos hd e
    intro e2
    rw [e2] at hn
    simp at hn
    omega
  have CL := hideP (vCloneZN (.slice p n cap) xs W (hr.later b0) (by omega) hne)
  have HW := hideP hW
  clear hW hr
  go_enter Tryz.func107, Tryz.ntmps107
  go_wp2_with fail
  rw [← HW.out]
  refine (fits_any _ _ _ _).mono ?_
  rintro e w1 ⟨rfl, rfl⟩
  rw [h]
  go_wp2_with fail
  refine CL.out.mono ?_
  rintro e w2 ⟨u, rfl, hR, h2⟩
  obtain ⟨p', cap', rfl, _, _⟩ := hR.rw.cut
  rw [hn] at hR ⊢
  have HR := hideP (hR.base (lo' := w.heap.size + 1) (by omega))
  obtain ⟨c0, c1, c2, f0, f1, f2, lt⟩ := x0.later h2
  clear hR CL
  go_wp2
  simp [bodyPost, results, Tryz.results107, go_sem, c0, c1, c2]
  exact ⟨p', cap', ⟨rfl, rfl⟩, (((HR.out.set _ (Nat.lt_succ_self _)).set _ (Nat.lt_succ_self _)).set _ (Nat.lt_succ_self _)).base (by omega), Bl.put3 (b0.trans h2) (Nat.le_refl _) _ _ _⟩
end Go.Proofs.YtljmggemdkfbiaaGreat
